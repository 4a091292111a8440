import PyProof.Rows.All
import Wide.All
import OpenK.AllK
import Wide.FinOn
import HandS.ForMost
import HandS.IsInst
import HandS.Wide
import HandS.Style
import HandS.TupLe
import HandS.TupAny
import HandS.Walk
import HandS.Evl
import HandS.More
import HandS.Zip
import PyProof.Rows.StrOr
import PyProof.ReprRoads
import KE.KIsAll
import KE.KCallOwn
import PyProof.InstEq
import HandS.OwnIter
import HandS.IterVal
import PyProof.WalksMore
import HandS.Deep
import HandS.Strs
import KE.KOpsOwn
import OpenK.KMeth
import OpenK.KOps
import OpenK.KCls
import PyProof.AttrMiss
import PyProof.Conv_bool
import PyProof.ListNew
import HandS.RaiseMore
import HandS.FStr
import HandS.Text
import HandS.StrMore
import HandS.WideBits
import HandS.Exc
import HandS.ExcOwn
import HandS.ExcValue
import HandS.TryMany
import KE.KExcIs
import HandS.ExcField
import HandS.HotCalls
import HandS.ExcIs
import KE.RegKIsAll
import PyProof.ExcBaseAll.LookupError
import PyProof.ExcBaseAll.IndexError
import PyProof.ExcBaseAll.RuntimeError
import PyProof.ExcBaseAll.OverflowError
import PyProof.ExcBaseAll.ArithmeticError
import PyProof.ExcBaseAll.ZeroDivisionError
import PySem.Challenge.RW_grownlines_k01_errors_and_what_they_keep
set_option Elab.async false
set_option linter.all false
set_option maxRecDepth 100000
set_option exponentiation.threshold 7000
set_option maxHeartbeats 4000000
/-! Promises of defs that are called where nothing is being shown (repr asks it). -/
namespace GL
open PySem PySem.Spec PyProof.Rows L2

def Gd (A : Around) : Prop := A.guards = some []
structure FnG (P : Program) (w : World) (K : PySem.W.Frag) (mg : Str → Option Value) (base : Heap) (CX : CXT) (k : Nat) (f : Addr) (fd : FuncData) (ps : List Str) (sp : Sp) : Prop where
  len : ∀ vs H Q E, sp vs H Q E → vs.length = ps.length
  go : ∀ {A : Around} {outer : List Env} {s : Shared} {H : Hp} {args : Args} {us : List Value} {vs : List V} {Q : VK} {E : XK}, Gd A → Room k A → Env0 P w K mg base A outer s H →
    BindsTo s fd args (ps.zip us) → Vals vs us → sp vs H Q E → codeAny (model P w) A (.call (.ref f) args) (CR CX outer P w H s Q E) s
section
variable {P : Program} {w : World} {K : PySem.W.Frag} {mg : Str → Option Value} {base : Heap} {CX : CXT} {k : Nat} {f : Addr} {fd : FuncData} {ps N : List Str} {sp : Sp} {x qual : Str} {st : Stmt}
theorem FnG.of (F : FnOk P w K mg base CX k f fd ps sp) : FnG P w K mg base CX k f fd ps sp :=
  ⟨F.len, fun {A outer s H args us vs Q E} _ r e b v q => F.run A outer s H args us vs Q E r e b v q⟩
theorem FnG.up {j : Nat} (F : FnG P w K mg base CX j f fd ps sp) (h : j ≤ k) : FnG P w K mg base CX k f fd ps sp :=
  ⟨F.len, fun g r => F.go g (r.mono h)⟩
theorem fnG_mk (F : Fun K x qual st f fd) (S : FnScope N ps (defScope st)) (len : ∀ vs H Q E, sp vs H Q E → vs.length = ps.length)
    (body : ∀ (cdv : Value) (A : Around) (outer : List Env) (s : Shared) (H : Hp) (vs : List V) (Q : VK) (E : XK), Gd A → Room k (A.deeper (envOfC qual (defScope st) s.heap.objs.size f cdv)) → sp vs H Q E →
      ∃ t, PSs (cxOf CX P w K mg base N qual (defScope st) f cdv A outer s H E) (defBody st) t ∧ t { nx := fun _ H' => Q .non H', rt := Q } (start N vs) H) :
    FnG P w K mg base CX (k + 1) f fd ps sp := by
  obtain ⟨oc, od, kV, doc, pm, an, cdv, ct, osl, eF, at_, cR⟩ := F.ex
  subst eF
  constructor
  · exact len
  intro A outer s H args us vs Q E g room e0 bi vals asked
  have inK : K.In s.heap := e0.mod.kin.keeps (fun b o q => (e0.bs b o q).1)
  have line : s.heap.NoLimit := e0.mod.nolimit.keeps (fun b o q => (e0.bs b o q).1)
  have kinds : ∀ y ∈ ps.zip us, (defScope st).names.lookup y.1 = some .local ∨ ((defScope st).names.lookup y.1 = some .cell ∧ ((cellsFrom (s.heap.objs.size + 1) (defScope st).names []).lookup y.1).isSome = true) := by
    intro ⟨n, v⟩ hy
    cases S.par n (List.of_mem_zip hy).1 with
    | inl q => exact Or.inl q
    | inr q => exact Or.inr ⟨q, PySem.W.cellsFrom_some _ _ _ (Or.inl q)⟩
  apply codeAny_call_function room.depth (inK _ _ at_) rfl S.co S.gen rfl (PySem.W.codeRec_of inK cR)
  apply bi
  refine wpAny_newFunctionEnv_cells S.kind kinds (fun env eE s1 x1 => ?_)
  subst eE
  obtain ⟨t, rule, q⟩ := body cdv A outer s H vs Q E g (room.deeper _) asked
  have I0 := inv_start (CX := CX) (E := E) S room.hd e0 (len _ _ _ _ asked) vals x1
  refine ⟨line.keeps x1.toInCall.keep, codeAny_func (wpAny_mono (rule.run [] s1 _ H _ I0 q) (fun fl s' done => ?_) (fun _ _ z => z))⟩
  cases fl with
  | ret u => obtain ⟨v, _, H', J, rv, qv⟩ := done; exact ⟨v, H', J.os, J.bare, J.base, J.hok, rv, qv⟩
  | next => obtain ⟨_, H', J, qv⟩ := done; exact ⟨V.non, H', J.os, J.bare, J.base, J.hok, rfl, qv⟩
  | brk => obtain ⟨_, _, _, z⟩ := done; exact z.elim
  | cont => obtain ⟨_, _, _, z⟩ := done; exact z.elim
end

section
variable {X : Cx} {CX : CXT} {k : Nat} {f C : Addr} {fd : FuncData} {ps : List Str} {sp : Sp} {E : XK} {x m : Str} {p pos apos : Pos} {e o : Expr} {es : List Expr} {ta : TE} {t : TA}

theorem goes {pins : List (Addr × Obj)} {σ : L2.St} {H : Hp} {s : Shared} {Q : VK} {us : List Value} {vs : List V} (F : FnG X.prog X.w X.K X.mg X.base CX k f fd ps sp) (g : Gd X.A) (hr : Room k X.A) (hb : Binds X.K fd ps []) (hx : Passes CX X E)
    (I : Inv X pins σ H s) (r : Vals vs us) (h : sp vs H Q E) : wpAny (model X.prog X.w) X.A (call (.ref f) us) (EP X pins σ Q) X.xe s := by
  have n1 : (us ++ []).length = ps.length := by rw [List.append_nil, ← r.length]; exact F.len _ _ _ _ h
  have b1 := hb s us I.kIn n1
  rw [List.append_nil] at b1
  apply wpAny_call
  refine codeAny_mono (F.go g hr I.env0 b1 r h) (fun res s' z => ?_)
  match res, z with
  | .error _, z => exact hx pins σ H s _ s' I z
  | .ok (.ret _), z => exact I.after z
/-- what a name of a def is good for: the def at it keeps a promise -/
structure Has (P : Program) (w : World) (K : PySem.W.Frag) (mg : Str → Option Value) (base : Heap) (CX : CXT) (x : Str) (k : Nat) (ps : List Str) (sp : Sp) : Prop where
  ex : ∃ f fd, FnG P w K mg base CX k f fd ps sp ∧ mg x = some (.ref f) ∧ PySem.W.keepIn K (.ref f) = true ∧ Binds K fd ps []
theorem pe_callH (h : Has X.prog X.w X.K X.mg X.base CX x k ps sp) (g : Gd X.A) (hr : Room k X.A) (hx : Passes CX X E) (ha : PA X (e :: es) t) (hg : Gl X x := by exact rfl)
    (hdb : (x == ("__debug__" : Str)) = false := by decide) (he : starEach (e :: es) X.env = (false, eval e X.env) :: starEach es X.env := by rfl) (hpl : (backTo pos (starEach es X.env)).any (·.1) = false := by rfl) :
    PE X (.Call (.Name x p) (e :: es) [] pos) (tCall sp [] E t) := by
  obtain ⟨f, fd, F, m, kp, b⟩ := h.ex
  constructor
  intro pins s σ H Q I q
  apply wpAny_Call_Name_kw
  apply ld_glob I hg m _ hdb
  refine PySem.W.callWith_K (h₀ := X.base) I.ok.mod.kin kp (thn (ha.run pos pins s σ H _ I q) (fun us s1 z => ?_)) he hpl
  obtain ⟨vs, H1, I1, r, q1⟩ := z
  rw [List.append_nil] at q1
  exact ⟨I1.kIn, goes F g hr b hx I1 r q1⟩
theorem pe_call0H (h : Has X.prog X.w X.K X.mg X.base CX x k ps sp) (g : Gd X.A) (hr : Room k X.A) (hx : Passes CX X E) (hg : Gl X x := by exact rfl)
    (hdb : (x == ("__debug__" : Str)) = false := by decide) : PE X (.Call (.Name x p) [] [] pos) (tCall sp [] E tNil) := by
  obtain ⟨f, fd, F, m, kp, b⟩ := h.ex
  constructor
  intro pins s σ H Q I q
  apply wpAny_Call_Name_kw
  apply ld_glob I hg m _ hdb
  exact PySem.W.callWith_K0 I.kIn kp (goes (us := []) F g hr b hx I .nil q)
/-- a method of the instances of a class -/
structure HasM (P : Program) (w : World) (K : PySem.W.Frag) (mg : Str → Option Value) (base : Heap) (CX : CXT) (C : Addr) (m : Str) (k : Nat) (ps : List Str) (sp : Sp) : Prop where
  ex : ∃ f fd, FnG P w K mg base CX k f fd ps sp ∧ Meth K C m f ∧ Binds K fd ps []
theorem pe_methH {pl : Sem Bool} (he : PE X o ta) (c : Cls X.K C) (h : HasM X.prog X.w X.K X.mg X.base CX C m k ps sp) (g : Gd X.A) (hr : Room k X.A) (hx : Passes CX X E) (ha : PA X (e :: es) t)
    (hst : starEach (e :: es) X.env = (false, eval e X.env) :: starEach es X.env := by rfl) (hpl : (backTo pos (starEach es X.env)).any (·.1) = false := by rfl)
    (ht : eval (.Call (.Attribute o m apos) (e :: es) [] pos) X.env = ((eval o X.env).bind fun ov => (standAt apos.atName).bind fun _ => (holding [ov] (getMethod ov m pl)).bind fun fm =>
      callWith pos fm.1 fm.2 (backTo pos (starEach (e :: es) X.env)) (backToKw pos (keywordEach [] X.env))) := by rfl) :
    PE X (.Call (.Attribute o m apos) (e :: es) [] pos) (tMeth C m sp [] E ta t) := by
  obtain ⟨f, fd, F, M, b⟩ := h.ex
  constructor
  intro pins s σ H Q I q
  refine PySem.W.methodCall_KW (pl := pl) (thn (he.run pins s σ H _ I q) (fun u s1 z => ?_)) ht
  obtain ⟨x, H1, I1, rx, a, dx, fs, ex, ea, l, q1⟩ := z
  subst ex
  cases (show u = Value.ref a from rx)
  apply getmeth_ok I1 ea c M l
  refine PySem.W.callWith_K (first := [.ref a]) (h₀ := X.base) I.ok.mod.kin M.kp (thn (ha.run pos pins s1 σ H1 _ I1 q1) (fun us s2 z => ?_)) hst hpl
  obtain ⟨vs, H2, I2, r, q2⟩ := z
  rw [List.append_nil] at q2
  exact ⟨I2.kIn, goes (us := .ref a :: us) (vs := .ref a :: vs) F g hr b hx I2 (.cons rfl r) q2⟩
theorem pe_meth0H {pl : Sem Bool} (he : PE X o ta) (c : Cls X.K C) (h : HasM X.prog X.w X.K X.mg X.base CX C m k ps sp) (g : Gd X.A) (hr : Room k X.A) (hx : Passes CX X E)
    (ht : eval (.Call (.Attribute o m apos) [] [] pos) X.env = ((eval o X.env).bind fun ov => (standAt apos.atName).bind fun _ => (holding [ov] (getMethod ov m pl)).bind fun fm =>
      callWith pos fm.1 fm.2 (backTo pos (starEach [] X.env)) (backToKw pos (keywordEach [] X.env))) := by rfl) :
    PE X (.Call (.Attribute o m apos) [] [] pos) (tMeth C m sp [] E ta tNil) := by
  obtain ⟨f, fd, F, M, b⟩ := h.ex
  constructor
  intro pins s σ H Q I q
  refine PySem.W.methodCall_KW (pl := pl) (thn (he.run pins s σ H _ I q) (fun u s1 z => ?_)) ht
  obtain ⟨x, H1, I1, rx, a, dx, fs, ex, ea, l, q1⟩ := z
  subst ex
  cases (show u = Value.ref a from rx)
  apply getmeth_ok I1 ea c M l
  exact PySem.W.callWith_K0 (first := [.ref a]) I1.kIn M.kp (goes (us := [.ref a]) (vs := [.ref a]) F g hr b hx I1 (.cons rfl .nil) q1)
/-- len of an instance whose class has its own __len__ -/
theorem call_lenM (h : HasM X.prog X.w X.K X.mg X.base CX C "__len__" k ["self"] sp) (g : Gd X.A) (hr : Room (k + 1) X.A) (hx : Passes CX X E) :
    CallR X (.builtin "len") (fun xs H Q => ∃ a dx fs, xs = [.ref a] ∧ H a = some (.ins C dx fs) ∧ sp [.ref a] H (fun v H' => ∃ n : Int, v = .int n ∧ 0 ≤ n ∧ n < 2 ^ 63 ∧ Q (.int n) H') E) := by
  intro pins s σ H xs us Q I r q
  obtain ⟨a, dx, fs, rfl, ea, q1⟩ := q
  obtain ⟨f, fd, F, M, b⟩ := h.ex
  obtain ⟨u, rfl, ru⟩ := vals1 r
  cases (show u = Value.ref a from ru)
  obtain ⟨mA, O, _⟩ := ins_get I.hok ea
  obtain ⟨od, J, _⟩ := O.look
  have n1 : ([.ref a] : List Value).length = ["self"].length := rfl
  have b1 := b s [.ref a] I.kIn n1
  rw [List.append_nil] at b1
  obtain ⟨m', fr⟩ := I.fr
  refine PySem.W.len_K fr I.mod.kin J M.at_ M.fn ?_
  apply wpAny_call
  refine codeAny_mono (F.go (A := X.A.in1) g hr.in1 I.env0.in1 b1 (vs := [.ref a]) (.cons rfl .nil) q1) (fun res s' z => ?_)
  match res, z with
  | .error _, z => exact hx pins σ H s _ s' I z
  | .ok (.ret _), z =>
    obtain ⟨v, H', I', rv, n, rfl, n0, n1, q2⟩ := I.after z
    obtain ⟨t, rfl⟩ := rv
    exact ⟨⟨n0, n1⟩, .int n, H', I'.tok _, ⟨_, rfl⟩, q2⟩
/-- a class that is called: its __init__ keeps a promise -/
structure HasC (P : Program) (w : World) (K : PySem.W.Frag) (mg : Str → Option Value) (base : Heap) (x : Str) (C : Addr) (k : Nat) (ps : List Str) (sp : Sp) : Prop where
  ex : ∃ f fd, FnOk P w K mg base CX0 k f fd ps sp ∧ mg x = some (.ref C) ∧ Mk K C f ∧ Binds K fd ps []
theorem pe_makeH (h : HasC X.prog X.w X.K X.mg X.base x C k ps sp) (hr : Room (k + 1) X.A) (hx : Passes CX0 X E) (ha : PA X (e :: es) t) (hg : Gl X x := by exact rfl)
    (hdb : (x == ("__debug__" : Str)) = false := by decide) (he : starEach (e :: es) X.env = (false, eval e X.env) :: starEach es X.env := by rfl) (hpl : (backTo pos (starEach es X.env)).any (·.1) = false := by rfl) :
    PE X (.Call (.Name x p) (e :: es) [] pos) (tMake C sp [] E t) := by
  obtain ⟨f, fd, F, m, M, b⟩ := h.ex
  exact pe_make M F hr hg m b .nil hx ha hdb he hpl
end

/-! ### the script's end -/
section
variable {P : Program} {w : World} {K : PySem.W.Frag} {mg mb : Str → Option Value} {k : Nat} {fa a : Addr} {fd : FuncData} {x : Str} {sp : Sp} {s1 : Shared} {vs : List Value} {ns : List Int} {CX : CXT}
theorem core_end {H : Hp} (inK : K.In s1.heap) (hns : s1.heap.Ns mainGlobals mg) (hb : s1.heap.Ns builtinsNs mb) (hbb : ∀ x : Str, x ≠ "__name__" → mb x = bootBuiltins x) (lim : s1.heap.NoLimit) (hg : s1.gens = #[])
    (ha : s1.heap.get? a = some { cls := .type "list", data := .seq vs.toArray }) (hr : Room k callerA) (F : ∀ base : Heap, K.In base → base.Ns mainGlobals mg → FnG P w K mg base CX k fa fd [x] sp)
    (bi : ∀ (s : Shared) (u : Value), BindsTo s fd ⟨[u], []⟩ [(x, u)]) (asked : sp [.ref a] H (fun v _ => v = .bl true) (fun _ _ _ => False)) (none_ : ∀ e s', CX [] H s1 (fun _ _ _ => False) e s' → False)
    (hO : Only H) (ok : HOk P w H s1.heap) (hA : ∀ b, H b ≠ none → b = a) (hK : H a ≠ none → K.lookup a = none) :
    codeAny (model P w) callerA (.call (.ref fa) ⟨[.ref a], []⟩) (fun r s' => r = .ok (.ret (.bool true)) ∧ OldK s1.heap s'.heap ∧ s'.os = s1.os ∧ AllBare s'.gens) s1 := by
  have untracked : ∀ b o es ep, s1.heap.get? b = some o → o.data = .dict es ep → H b = none := by
    intro b o es ep e d
    rcases hq : H b with _ | u
    · rfl
    · have eb := hA b (by rw [hq]; exact nofun)
      rw [eb, ha] at e
      rw [← Option.some.inj e] at d
      exact absurd d (by exact nofun)
  have ns_ : ∀ b m, s1.heap.Ns b m → (hidT s1.heap H).Ns b m := by
    rintro b m ⟨o, es, ep, e, d, r⟩
    exact ⟨o, es, ep, hidT_get e (untracked b o es ep e d), d, r⟩
  have kin : K.In (hidT s1.heap H) := by
    intro b o e
    apply hidT_get (inK b o e)
    rcases hq : H b with _ | u
    · rfl
    · have eb := hA b (by rw [hq]; exact nofun)
      subst eb
      rw [hK (by rw [hq]; exact nofun)] at e
      exact absurd e nofun
  obtain ⟨mc, l1, l2⟩ := lim
  have e0 : Env0 P w K mg (hidT s1.heap H) callerA [] s1 H :=
    { frames := rfl, mod := ⟨kin, ns_ _ _ hns, ⟨mb, ns_ _ _ hb, hbb⟩, ⟨mc, ns_ _ _ l1, l2⟩⟩, bs := fun b o e => of_hidT e, bsz := Nat.le_of_eq (hidT_size _ _), funs := trivial,
      frf := fun b z => absurd (show b ∈ ([] : List Addr) from z) (List.not_mem_nil), hok := ok, bare := .of_eq hg }
  refine codeAny_mono ((F _ kin (ns_ _ _ hns)).go (args := ⟨[.ref a], []⟩) (us := [.ref a]) (vs := [.ref a]) rfl hr e0 (bi s1 (.ref a)) (.cons rfl .nil) asked) (fun r s' z => ?_)
  match r, z with
  | .error e, z => exact (none_ e s' z).elim
  | .ok (.ret u), z =>
    obtain ⟨v, H', os, bare, un, ok', rv, qv⟩ := z
    cases (show v = .bl true from qv)
    cases (show u = Value.bool true from rv)
    refine ⟨rfl, OldK.of_keep (fun b o e => ?_), os, bare⟩
    rcases hq : H b with _ | u
    · exact un.keep b o e hq (fun z => absurd (show b ∈ ([] : List Addr) from z) List.not_mem_nil) List.not_mem_nil
    · rcases hO b with z | ⟨ob, xs, z⟩
      · rw [z] at hq; cases hq
      · have g1 := (ok b _ z).1
        have g2 := (ok' b _ (un.frzs b ob _ z)).1
        rw [e] at g1
        rw [g2, ← g1]
theorem law_end (inK : K.In s1.heap) (hns : s1.heap.Ns mainGlobals mg) (hb : s1.heap.Ns builtinsNs mb) (hbb : ∀ x : Str, x ≠ "__name__" → mb x = bootBuiltins x) (lim : s1.heap.NoLimit) (hg : s1.gens = #[])
    (ha : s1.heap.get? a = some { cls := .type "list", data := .seq vs.toArray }) (hi : IntsAre vs ns) (hl : ns.length ≤ sizeLine) (hr : Room k callerA) (F : ∀ base : Heap, K.In base → base.Ns mainGlobals mg → FnG P w K mg base CX k fa fd [x] sp)
    (bi : ∀ (s : Shared) (u : Value), BindsTo s fd ⟨[u], []⟩ [(x, u)]) (asked : ∀ H : Hp, Only H → SqL K H a (ns.map V.int) → sp [.ref a] H (fun v _ => v = .bl true) (fun _ _ _ => False)) (none_ : ∀ H e s', CX [] H s1 (fun _ _ _ => False) e s' → False) :
    codeAny (model P w) callerA (.call (.ref fa) ⟨[.ref a], []⟩) (fun r s' => r = .ok (.ret (.bool true)) ∧ OldK s1.heap s'.heap ∧ s'.os = s1.os ∧ AllBare s'.gens) s1 := by
  have rv := vals_ints hi
  have lv : ns.length = vs.length := by have := rv.length; rwa [List.length_map] at this
  rcases hk : K.lookup a with _ | o
  · have own : ∀ b, (fun b => if b = a then some (HO.frz { cls := .type "list", data := .seq vs.toArray } (.lst (ns.map V.int))) else none : Hp) b ≠ none → b = a := by
      intro b z
      by_cases e : b = a
      · exact e
      · exact absurd (if_neg e) z
    have here : (fun b => if b = a then some (HO.frz { cls := .type "list", data := .seq vs.toArray } (.lst (ns.map V.int))) else none : Hp) a = some (HO.frz { cls := .type "list", data := .seq vs.toArray } (.lst (ns.map V.int))) := if_pos rfl
    have only : Only (fun b => if b = a then some (HO.frz { cls := .type "list", data := .seq vs.toArray } (.lst (ns.map V.int))) else none) := by
      intro b
      by_cases e : b = a
      · subst e; exact .inr ⟨_, _, here⟩
      · exact .inl (if_neg e)
    refine core_end inK hns hb hbb lim hg ha hr F bi (asked _ only (.inl (.inr ⟨_, here⟩))) (none_ _) only (fun b u z => ?_) own (fun _ => hk)
    have e := own b (fun h0 => by have z2 : some u = none := z.symm.trans h0; cases z2)
    subst e
    have z := here.symm.trans z
    cases z
    exact ⟨ha, by rw [List.length_map]; exact hl, vs, _, rv, ha⟩
  · have e := inK a o hk
    rw [ha] at e
    have e' := Option.some.inj e
    subst e'
    exact core_end (H := fun _ => none) inK hns hb hbb lim hg ha hr F bi (asked _ (fun _ => .inl rfl) (.inr ⟨_, vs.toArray, _, hk, rfl, rfl, rfl, by rw [List.size_toArray, ← lv]; exact hl, by simpa using rv⟩)) (none_ _) (fun _ => .inl rfl) (fun b u z => by cases z) (fun b z => absurd rfl z) (fun z => absurd rfl z)
theorem walk_to {l : PySem.W.OpenLaw} {n k : Nat} {q : Program} {loose : List Str} {XP : (Str → Option Value) → Heap → Prop} {YP : World → Heap → Prop} {d : DefRec} {Kf : Params → PySem.W.Frag} {sp : PySem.W.Frag → Sp} {x : Str}
    (hn : l.most = some n) (hn2 : n ≤ sizeLine) (hdf : d.params.defaults = []) (hr : Room k callerA) (hY : ∀ (w : World) (h : Heap), YP w h → (Kf w.params).In h)
    (F : ∀ (w : World) (mg : Str → Option Value) (fa : Addr) (h : Heap), (Kf w.params).In h → h.Ns mainGlobals mg → mg d.name = some (.ref fa) →
      ∃ fd : FuncData, (∀ (s : Shared) (u : Value), BindsTo s fd ⟨[u], []⟩ [(x, u)]) ∧ ∀ base : Heap, (Kf w.params).In base → base.Ns mainGlobals mg → FnG l.prog w (Kf w.params) mg base CX0 k fa fd [x] (sp (Kf w.params)))
    (hsp : ∀ (K : PySem.W.Frag) (H : Hp) (a : Addr) (ns : List Int), ns.length ≤ n → SqL K H a (ns.map V.int) → sp K [.ref a] H (fun v _ => v = .bl true) (fun _ _ _ => False)) :
    PySem.W.WalkO q loose XP YP l.row.toRowW d [] (fun f vs => PySem.call f vs) := by
  apply Att.attach_call hn hdf
  intro w s0 s1 mg mb fa o pm cd doc a vs ns G Y _ _ _ hmg obj hInts few gens
  obtain ⟨fd, bi, hF⟩ := F w mg fa _ (hY w _ Y) G.T.g hmg
  exact law_end (hY w _ Y) G.T.g G.T.b G.T.builtins G.T.nolimit gens obj hInts (Nat.le_trans few hn2) hr hF bi (fun H _ S => hsp _ H a ns few S) (fun _ _ _ z => z)
end
end GL
/-! Rules and promises that the proofs of this program share. -/
namespace GL
open PySem PySem.Spec PyProof.Rows L2

/-- a def as it stands behind the top -/
structure Df (K : PySem.W.Frag) (mg : Str → Option Value) (x : Str) (st : Stmt) : Prop where
  ex : ∃ f fd, Fun K x x st f fd ∧ mg x = some (.ref f)
theorem df_mk {K : PySem.W.Frag} {h : Heap} {mg : Str → Option Value} {x : Str} {st : Stmt} {f : Addr} {oc : Value} {od an : Option Addr} {osl : Array (Option Value)} {kV doc pm cdv ct : Value} (X : K.In h) (G : h.Ns mainGlobals mg)
    (a : PySem.W.nsIn K mainGlobals x = some (some (.ref f))) (l : K.lookup f = some ⟨oc, od, .func (PySem.W.fnOf x x (defArgs st) (defBody st) (defScope st) .none kV doc pm an cdv ct), osl⟩)
    (c : PySem.W.codeIn K cdv x = true) (k : PySem.W.keepIn K (.ref f) = true) : Df K mg x st := ⟨f, _, fun_mk l c k, PySem.W.mg_of X G a⟩
section
variable {P : Program} {w : World} {K : PySem.W.Frag} {mg : Str → Option Value} {base : Heap}
theorem _root_.L2.Fun.g {x qual : Str} {st : Stmt} {N ps : List Str} {k : Nat} {sp : Sp} {f : Addr} {fd : FuncData} (F : Fun K x qual st f fd) (S : FnScope N ps (defScope st)) (len : ∀ vs H Q E, sp vs H Q E → vs.length = ps.length)
    (body : ∀ (cdv : Value) (A : Around) (outer : List Env) (s : Shared) (H : Hp) (vs : List V) (Q : VK) (E : XK), Gd (A.deeper (envOfC qual (defScope st) s.heap.objs.size f cdv)) → Room k (A.deeper (envOfC qual (defScope st) s.heap.objs.size f cdv)) → sp vs H Q E →
      ∃ t, PSs (cxOf CX0 P w K mg base N qual (defScope st) f cdv A outer s H E).nox (defBody st) t ∧ t { nx := fun _ H' => Q .non H', rt := Q } (start N vs) H) : FnG P w K mg base CX0 (k + 1) f fd ps sp := by
  refine fnG_mk F S len (fun cdv A outer s H vs Q E g hr q => ?_)
  obtain ⟨t, ht, q⟩ := body cdv A outer s H vs Q E g hr q
  exact ⟨t, ht.nox, q⟩
/-- a method, and the __init__ of a class, as they stand behind the top -/
structure Dm (K : PySem.W.Frag) (C : Addr) (m qual : Str) (st : Stmt) : Prop where
  ex : ∃ f fd, Fun K m qual st f fd ∧ Meth K C m f
structure Dc (K : PySem.W.Frag) (C : Addr) (qual : Str) (st : Stmt) : Prop where
  ex : ∃ f fd, Fun K "__init__" qual st f fd ∧ Mk K C f
theorem dm_mk {C f : Addr} {m qual : Str} {st : Stmt} {oc : Value} {od an : Option Addr} {osl : Array (Option Value)} {kV doc pm cdv ct : Value} (a : PySem.W.findIn K (.ref C) m = some (some (.ref f))) (i : PySem.W.isFn K (.ref f) = true)
    (l : K.lookup f = some ⟨oc, od, .func (PySem.W.fnOf m qual (defArgs st) (defBody st) (defScope st) .none kV doc pm an cdv ct), osl⟩) (c : PySem.W.codeIn K cdv qual = true) (k : PySem.W.keepIn K (.ref f) = true) : Dm K C m qual st :=
  ⟨f, _, fun_mk l c k, ⟨a, i, k⟩⟩
theorem dc_mk {C f : Addr} {qual : Str} {st : Stmt} {oc : Value} {od an : Option Addr} {osl : Array (Option Value)} {kV doc pm cdv ct : Value} (a : PySem.W.findIn K (.ref C) "__init__" = some (some (.ref f))) (i : PySem.W.isFn K (.ref f) = true)
    (l : K.lookup f = some ⟨oc, od, .func (PySem.W.fnOf "__init__" qual (defArgs st) (defBody st) (defScope st) .none kV doc pm an cdv ct), osl⟩) (c : PySem.W.codeIn K cdv qual = true) (k : PySem.W.keepIn K (.ref f) = true)
    (mk : PySem.W.makesIn K C = true) (kc : PySem.W.keepIn K (.ref C) = true) : Dc K C qual st :=
  ⟨f, _, fun_mk l c k, ⟨mk, a, i, kc⟩⟩
theorem Dm.has {C : Addr} {m qual : Str} {st : Stmt} {N ps : List Str} {k : Nat} {sp : Sp} (D : Dm K C m qual st) (S : FnScope N ps (defScope st)) (len : ∀ vs H Q E, sp vs H Q E → vs.length = ps.length)
    (bi : ∀ (kV doc pm : Value) (an : Option Addr) (cdv ct : Value) (us : List Value), us.length = ps.length → bindArgs (PySem.W.fnOf m qual (defArgs st) (defBody st) (defScope st) .none kV doc pm an cdv ct) ⟨us, []⟩ = pure (ps.zip us))
    (body : ∀ (f : Addr) (cdv : Value) (A : Around) (outer : List Env) (s : Shared) (H : Hp) (vs : List V) (Q : VK) (E : XK), Gd (A.deeper (envOfC qual (defScope st) s.heap.objs.size f cdv)) → Room k (A.deeper (envOfC qual (defScope st) s.heap.objs.size f cdv)) → sp vs H Q E →
      ∃ t, PSs (cxOf CX0 P w K mg base N qual (defScope st) f cdv A outer s H E).nox (defBody st) t ∧ t { nx := fun _ H' => Q .non H', rt := Q } (start N vs) H) : HasM P w K mg base CX0 C m (k + 1) ps sp := by
  obtain ⟨f, fd, F, M⟩ := D.ex
  exact ⟨f, fd, F.g S len (body f), M, F.binds bi⟩
theorem Dc.has {C : Addr} {x qual : Str} {st : Stmt} {N ps : List Str} {k : Nat} {sp : Sp} (D : Dc K C qual st) (m : mg x = some (.ref C)) (S : FnScope N ps (defScope st)) (len : ∀ vs H Q E, sp vs H Q E → vs.length = ps.length)
    (bi : ∀ (kV doc pm : Value) (an : Option Addr) (cdv ct : Value) (us : List Value), us.length = ps.length → bindArgs (PySem.W.fnOf "__init__" qual (defArgs st) (defBody st) (defScope st) .none kV doc pm an cdv ct) ⟨us, []⟩ = pure (ps.zip us))
    (body : ∀ (f : Addr) (cdv : Value) (A : Around) (outer : List Env) (s : Shared) (H : Hp) (vs : List V) (Q : VK) (E : XK), Room k (A.deeper (envOfC qual (defScope st) s.heap.objs.size f cdv)) → sp vs H Q E →
      ∃ t, PSs (cxOf CX0 P w K mg base N qual (defScope st) f cdv A outer s H E).nox (defBody st) t ∧ t { nx := fun _ H' => Q .non H', rt := Q } (start N vs) H) : HasC P w K mg base x C (k + 1) ps sp := by
  obtain ⟨f, fd, F, M⟩ := D.ex
  exact ⟨f, fd, F.ok S len (body f), m, M, F.binds bi⟩
theorem Df.has {x : Str} {st : Stmt} {N ps : List Str} {k : Nat} {sp : Sp} (D : Df K mg x st) (S : FnScope N ps (defScope st)) (len : ∀ vs H Q E, sp vs H Q E → vs.length = ps.length)
    (bi : ∀ (kV doc pm : Value) (an : Option Addr) (cdv ct : Value) (us : List Value), us.length = ps.length → bindArgs (PySem.W.fnOf x x (defArgs st) (defBody st) (defScope st) .none kV doc pm an cdv ct) ⟨us, []⟩ = pure (ps.zip us))
    (body : ∀ (f : Addr) (cdv : Value) (A : Around) (outer : List Env) (s : Shared) (H : Hp) (vs : List V) (Q : VK) (E : XK), Gd (A.deeper (envOfC x (defScope st) s.heap.objs.size f cdv)) → Room k (A.deeper (envOfC x (defScope st) s.heap.objs.size f cdv)) → sp vs H Q E →
      ∃ t, PSs (cxOf CX0 P w K mg base N x (defScope st) f cdv A outer s H E).nox (defBody st) t ∧ t { nx := fun _ H' => Q .non H', rt := Q } (start N vs) H) : Has P w K mg base CX0 x (k + 1) ps sp := by
  obtain ⟨f, fd, F, m⟩ := D.ex
  exact ⟨f, fd, F.g S len (body f), m, F.kp, F.binds bi⟩
/-- the law's own def, for the end -/
theorem Df.law {x : Str} {st : Stmt} {p : Str} {k : Nat} {sp : Sp} {fa : Addr} (D : Df K mg x st) (m : mg x = some (.ref fa)) (S : ∀ base : Heap, K.In base → base.Ns mainGlobals mg → ∀ f fd, Fun K x x st f fd → FnG P w K mg base CX0 k f fd [p] sp)
    (bi : ∀ (kV doc pm : Value) (an : Option Addr) (cdv ct : Value) (u : Value), bindArgs (PySem.W.fnOf x x (defArgs st) (defBody st) (defScope st) .none kV doc pm an cdv ct) ⟨[u], []⟩ = pure [(p, u)]) :
    ∃ fd : FuncData, (∀ (s : Shared) (u : Value), BindsTo s fd ⟨[u], []⟩ [(p, u)]) ∧ ∀ base : Heap, K.In base → base.Ns mainGlobals mg → FnG P w K mg base CX0 k fa fd [p] sp := by
  obtain ⟨f, fd, F, m'⟩ := D.ex
  rw [m] at m'
  cases m'
  obtain ⟨oc, od, kV, doc, pm, an, cdv, ct, osl, eF, at_, cR⟩ := F.ex
  exact ⟨fd, fun s u => by subst eF; exact .of_eq (bi kV doc pm an cdv ct u), fun base kin hns => S base kin hns _ _ F⟩
end

/-- what a name of the module holds -/
def MgV (mg : Str → Option Value) (x : Str) (v : V) : Prop := ∃ u, mg x = some u ∧ RelV v u
theorem pe_globV {X : Cx} {x : Str} {v : V} {pos : Pos} (h : MgV X.mg x v) (hg : Gl X x := by exact rfl) (hd : (x == ("__debug__" : Str)) = false := by decide) : PE X (.Name x pos) (tC v) := by
  obtain ⟨u, m, r⟩ := h
  exact pe_glob hg m r hd

/-! ### repr of data -/
def rRepr (K : PySem.W.Frag) : List V → Hp → VK → Prop := fun xs H Q => ∃ x d, xs = [x] ∧ Dp K H x d ∧ d.showable = true ∧ d.hasDict = false ∧ d.depth ≤ 20 ∧ d.shown.length ≤ sizeLine ∧ Q (.str d.shown) H
theorem call_repr {X : Cx} (hg : Gd X.A) (hu : X.A.units + 64 < cLine) : CallR X (.builtin "repr") (rRepr X.K) := by
  intro pins s σ H xs us Q I r h
  obtain ⟨x, d, rfl, hd, hs, hn, hp, hz, q⟩ := h
  obtain ⟨u, rfl, r1⟩ := vals1 r
  have hh : ∀ v, RelV x v → ∃ as, Reads s.heap v d as := fun v rv => Dp.reads I d x v hd rv
  obtain ⟨as, hr⟩ := hh u r1
  cases d with
  | none => cases hr; exact PySem.P.repr_of_none ⟨.str _, H, I.tok _, ⟨_, rfl⟩, q⟩
  | bool b => cases hr; exact PySem.P.repr_of_bool ⟨.str _, H, I.tok _, ⟨_, rfl⟩, q⟩
  | int i => cases hr; exact PySem.P.repr_of_int (by simpa [PyData.showable] using hs) ⟨.str _, H, I.tok _, ⟨_, rfl⟩, q⟩
  | str y => cases hr; exact PySem.P.repr_of_str ⟨.str _, H, I.tok _, ⟨_, rfl⟩, q⟩ hz
  | list ds =>
    obtain ⟨a, rfl⟩ := isRef_of_reads hr rfl
    exact repr_of_reads' hr hs (PyData.noDict_hsm hn) hg (by omega) (fun _ _ e => e) (fun h' u tk hk => ⟨.str _, H, I.kept hk, ⟨_, rfl⟩, q⟩) hz
  | tuple ds =>
    obtain ⟨a, rfl⟩ := isRef_of_reads hr rfl
    exact repr_of_reads' hr hs (PyData.noDict_hsm hn) hg (by omega) (fun _ _ e => e) (fun h' u tk hk => ⟨.str _, H, I.kept hk, ⟨_, rfl⟩, q⟩) hz
  | dict kvs => cases hd

/-! ### values of expressions that change nothing -/
def Vl (te : TE) (σ : L2.St) (v : V) : Prop := ∀ (H : Hp) (Q : VK), Q v H → te σ H Q
theorem vl_and {ta tb : TE} {σ : L2.St} {a b : Bool} (ha : Vl ta σ (.bl a)) (hb : a = true → Vl tb σ (.bl b)) : Vl (tAndV ta tb) σ (.bl (a && b)) := by
  intro H Q q
  refine ha H _ ⟨a, rfl, ?_⟩
  cases a with
  | true => exact iteT (hb rfl H _ q)
  | false => exact iteF q
theorem vl_or {ta tb : TE} {σ : L2.St} {a b : Bool} (ha : Vl ta σ (.bl a)) (hb : a = false → Vl tb σ (.bl b)) : Vl (tOrV ta tb) σ (.bl (a || b)) := by
  intro H Q q
  refine ha H _ ⟨a, rfl, ?_⟩
  cases a with
  | true => exact iteT q
  | false => exact iteF (hb rfl H _ q)

/-! ### in a tuple of data, whatever the depth -/
def rInT (K : PySem.W.Frag) : R2 := fun x y H Q => ∃ d ds, Dp K H x d ∧ Dp K H y (.tuple ds) ∧ SeqAt.shaped d = true ∧ SeqAt.shaped (.tuple ds) = true ∧ Q (.bl (ds.any fun z => PyData.eqv z d)) H
theorem op_inT {X : Cx} (hu : X.A.units + 66 < cLine) : OpR X (compareOp .In) (rInT X.K) := by
  intro pins s σ H x y v u Q I rx ry asked
  obtain ⟨d, ds, hd, he, sd, se, q⟩ := asked
  obtain ⟨_, r1⟩ := Dp.reads I d x v hd rx
  obtain ⟨_, r2⟩ := Dp.reads I (.tuple ds) y u he ry
  have z := SeqAt.depth_of_shaped sd
  exact SeqAt.in_tuple_reads r2 r1 (SeqAt.canLay_of_shaped se) (SeqAt.canLay_of_shaped sd) (by have := Nat.min_le_right (PyData.depthAll ds) d.depth; omega) ⟨.bl _, H, I, rfl, q⟩

/-! ### how many different ints -/
def dist (ns : List Int) : Nat := (ns.foldl PyProof.Rows.step_dedup []).length
theorem range_getD (ns : List Int) : (List.range ns.length).map (fun i => ns.getD i 0) = ns := by
  apply List.ext_getElem
  · rw [List.length_map, List.length_range]
  · intro i h1 h2
    rw [List.getElem_map, List.getElem_range, List.getD_eq_getElem?_getD, List.getElem?_eq_getElem h2]
    rfl
def tLenSet (K : PySem.W.Frag) (ta : TE) : TE := fun σ H Q => ta σ H fun x H1 => ∃ (l : Addr) (ns : List Int), x = .ref l ∧ SqL K H1 l (ns.map V.int) ∧ ns.length < 64 ∧ Q (.int (dist ns : Nat)) H1
theorem pe_lenSet {X : Cx} {a : Expr} {ta : TE} {p p2 q pos : Pos} (hm : X.mg "len" = none) (hm2 : X.mg "set" = none) (ha : PE X a ta) (hg : Gl X "len" := by exact rfl) (hg2 : Gl X "set" := by exact rfl) (hc : X.calm = true := by rfl)
    (na : starEach [a] X.env = (false, eval a X.env) :: starEach [] X.env := by rfl) : PE X (.Call (.Name "len" p) [.Call (.Name "set" p2) [a] [] q] [] pos) (tLenSet X.K ta) := by
  constructor
  intro pins s σ H Q I asked
  refine Call_ ?_
  apply ld_blt I hg hm PySem.boot_len
  apply PyProof.Rows.callWith_builtin1 _ rfl rfl
  apply PyProof.Rows.args_cons _ rfl
  refine Call_ ?_
  apply ld_blt I hg2 hm2 PyProof.Rows.boot_set
  refine PyProof.Rows.callWith_type1 (PyProof.Rows.args_cons (thn (ha.run pins s σ H _ I asked) (fun v s1 z => PyProof.Rows.args_nil ?_)) na) na rfl
  obtain ⟨x, H1, I1, r1, l, ns, ex, hq, small, q1⟩ := z
  subst ex
  cases (show v = Value.ref l from r1)
  obtain ⟨its, r, pl, _⟩ := I1.list hq
  have size : its.toArray.size = ns.length := by have := r.length; rw [List.length_map] at this; rw [List.size_toArray, this]
  refine call_set_list (I1.ok.hd hc) pl.isList (ns := ns) (by simpa using r.ints) (by rw [size]; unfold scanBound; omega) (fun h' tk hS hk => ?_)
  apply PyProof.Rows.args_nil
  have e : (PyProof.Rows.firstMet (fun i => ns.getD i 0) its.toArray.size).length = dist ns := by
    rw [size]
    unfold PyProof.Rows.firstMet dist
    rw [range_getD]
  have few : dist ns ≤ ns.length := by rw [← e, size]; exact PyProof.Rows.firstMet_length_le _ _
  obtain ⟨o, es, ep, t, ho, hex, hd, _, _, _, hf, hn⟩ := hS
  rw [e] at hn
  have I2 : Inv X pins σ H1 { s1 with heap := h', toks := tk } := I1.kept (fun b o e => hk b o (Heap.lt_size e) e)
  exact call_len_set ho hex hd hf (by rw [hn]; omega) ⟨.int (dist ns : Nat), H1, I2.tok _, ⟨_, by rw [hn]⟩, q1⟩

/-! ### great powers -/
def CPowW (i j : Int) : Prop := 0 ≤ j ∧ (Builtin.Int.intBits i : Int) * j ≤ 2 ^ 27
theorem op_powW {X : Cx} : OpR X (binaryOp .Pow) (rI CPowW fun i j => .int (i ^ j.toNat)) := opI fun _ _ _ _ _ _ _ hc q => pow_int hc.1 hc.2 q

/-! ### kinds of values -/
inductive Kd where | non | bl | int | str | lst | tup | dct
def Kd.nm : Kd → String
  | .non => "NoneType" | .bl => "bool" | .int => "int" | .str => "str" | .lst => "list" | .tup => "tuple" | .dct => "dict"
def Kd.isB : Kd → Bool | .bl => true | _ => false
def Kd.isI : Kd → Bool | .bl => true | .int => true | _ => false
def Kd.isS : Kd → Bool | .str => true | _ => false
def Kd.isT : Kd → Bool | .tup => true | _ => false
theorem kit_bool {K : PySem.W.Frag} (k : Kd) : PySem.W.kitOne K (.type k.nm) (.type "bool") = some k.isB := by cases k <;> exact kit_ty (by decide +kernel)
theorem kit_int {K : PySem.W.Frag} (k : Kd) : PySem.W.kitOne K (.type k.nm) (.type "int") = some k.isI := by cases k <;> exact kit_ty (by decide +kernel)
theorem kit_str {K : PySem.W.Frag} (k : Kd) : PySem.W.kitOne K (.type k.nm) (.type "str") = some k.isS := by cases k <;> exact kit_ty (by decide +kernel)
theorem kit_tup {K : PySem.W.Frag} (k : Kd) : PySem.W.kitOne K (.type k.nm) (.type "tuple") = some k.isT := by cases k <;> exact kit_ty (by decide +kernel)
/-- a value of a kind -/
def Of (K : PySem.W.Frag) (H : Hp) (x : V) (k : Kd) : Prop := TyX K H x (.type k.nm)
theorem Of.bl {K : PySem.W.Frag} {H : Hp} {b : Bool} : Of K H (.bl b) .bl := .base (.bl b)
theorem Of.int {K : PySem.W.Frag} {H : Hp} {i : Int} : Of K H (.int i) .int := .base (.int i)
theorem Of.str {K : PySem.W.Frag} {H : Hp} {y : Str} : Of K H (.str y) .str := .base (.str y)
theorem Of.non {K : PySem.W.Frag} {H : Hp} : Of K H .non .non := .base .non
theorem Of.lst {K : PySem.W.Frag} {H : Hp} {a : Addr} {xs : List V} (h : H a = some (.lst xs)) : Of K H (.ref a) .lst := .base (.lst h)
theorem Of.tup {K : PySem.W.Frag} {H : Hp} {a : Addr} {xs : List V} (h : H a = some (.tup xs)) : Of K H (.ref a) .tup := .base (.tup h)
theorem Of.dct {K : PySem.W.Frag} {H : Hp} {a : Addr} {xs : List (Key × V)} (h : H a = some (.dK xs)) : Of K H (.ref a) .dct := .base (.dK h)
theorem Of.blI {K : PySem.W.Frag} {H : Hp} {x : V} (h : Of K H x .bl) : ∃ i, x = .bl i := by
  have e : Value.type (Kd.nm .bl) = .type "bool" := rfl
  unfold Of at h
  rw [e] at h
  generalize ht : Value.type "bool" = t at h
  cases h with
  | base b => cases b <;> first | exact ⟨_, rfl⟩ | exact absurd ht (by decide +kernel) | (exact absurd ht (by intro z; cases z))
  | byt b => exact absurd ht (by decide +kernel)
  | set _ => exact absurd ht (by decide +kernel)
  | kList _ _ => exact absurd ht (by decide +kernel)
  | kTuple _ _ => exact absurd ht (by decide +kernel)
  | kDict _ _ => exact absurd ht (by decide +kernel)
  | fTuple _ => exact absurd ht (by decide +kernel)
  | fDict _ => exact absurd ht (by decide +kernel)
theorem Of.intI {K : PySem.W.Frag} {H : Hp} {x : V} (h : Of K H x .int) : ∃ i, x = .int i := by
  have e : Value.type (Kd.nm .int) = .type "int" := rfl
  unfold Of at h
  rw [e] at h
  generalize ht : Value.type "int" = t at h
  cases h with
  | base b => cases b <;> first | exact ⟨_, rfl⟩ | exact absurd ht (by decide +kernel) | (exact absurd ht (by intro z; cases z))
  | byt b => exact absurd ht (by decide +kernel)
  | set _ => exact absurd ht (by decide +kernel)
  | kList _ _ => exact absurd ht (by decide +kernel)
  | kTuple _ _ => exact absurd ht (by decide +kernel)
  | kDict _ _ => exact absurd ht (by decide +kernel)
  | fTuple _ => exact absurd ht (by decide +kernel)
  | fDict _ => exact absurd ht (by decide +kernel)
theorem Of.strI {K : PySem.W.Frag} {H : Hp} {x : V} (h : Of K H x .str) : ∃ i, x = .str i := by
  have e : Value.type (Kd.nm .str) = .type "str" := rfl
  unfold Of at h
  rw [e] at h
  generalize ht : Value.type "str" = t at h
  cases h with
  | base b => cases b <;> first | exact ⟨_, rfl⟩ | exact absurd ht (by decide +kernel) | (exact absurd ht (by intro z; cases z))
  | byt b => exact absurd ht (by decide +kernel)
  | set _ => exact absurd ht (by decide +kernel)
  | kList _ _ => exact absurd ht (by decide +kernel)
  | kTuple _ _ => exact absurd ht (by decide +kernel)
  | kDict _ _ => exact absurd ht (by decide +kernel)
  | fTuple _ => exact absurd ht (by decide +kernel)
  | fDict _ => exact absurd ht (by decide +kernel)
/-- a value that is no int -/
theorem Of.notInt {K : PySem.W.Frag} {H : Hp} {i : Int} {k : Kd} (h : Of K H (.int i) k) : k = .int := by
  unfold Of at h
  generalize ht : Value.type k.nm = t at h
  cases h with
  | base b =>
    cases b
    cases k <;> first | rfl | exact absurd ht (by decide +kernel)
theorem Of.notStr {K : PySem.W.Frag} {H : Hp} {i : Str} {k : Kd} (h : Of K H (.str i) k) : k = .str := by
  unfold Of at h
  generalize ht : Value.type k.nm = t at h
  cases h with
  | base b =>
    cases b
    cases k <;> first | rfl | exact absurd ht (by decide +kernel)

/-! ### the dice: a list of three ints, the first of them not below nought -/
def Die (H : Hp) (p : Addr) : Prop := ∃ l b c : Int, 0 ≤ l ∧ H p = some (.lst [.int l, .int b, .int c])
/-- all but the dice at p is as it was -/
structure Got (p : Addr) (H H' : Hp) : Prop where
  keep : ∀ b o, H b = some o → b ≠ p → H' b = some o
  die : Die H' p
theorem Got.same {p : Addr} {H : Hp} (d : Die H p) : Got p H H := ⟨fun _ _ e _ => e, d⟩
theorem Got.trans {p : Addr} {H H1 H2 : Hp} (a : Got p H H1) (b : Got p H1 H2) : Got p H H2 := ⟨fun c o e n => b.keep c o (a.keep c o e n) n, b.die⟩
theorem Got.roll {p : Addr} {H : Hp} {l b c : Int} (h : 0 ≤ l) : Got p H (upd H p (.lst [.int l, .int b, .int c])) := ⟨fun d o e n => by rw [upd_ne n]; exact e, l, b, c, h, upd_same⟩
theorem Got.new {p q : Addr} {H : Hp} {o : HO} (d : Die H p) (n : H q = none) : Got p H (upd H q o) := by
  obtain ⟨l, b, c, l0, e⟩ := d
  exact ⟨fun x u z _ => by rw [upd_ne (ne_of_none z n)]; exact z, l, b, c, l0, by rw [upd_ne (ne_of_none e n)]; exact e⟩
theorem Got.free {p q : Addr} {H H' : Hp} (g : Got p H H') (d : Die H p) (n : H' q = none) : H q = none := by
  cases e : H q with
  | none => rfl
  | some o =>
    obtain ⟨l, b, c, _, ep⟩ := g.die
    by_cases z : q = p
    · rw [z, ep] at n; cases n
    · rw [g.keep q o e z] at n; cases n
theorem Got.over {p t : Addr} {H H' : Hp} (g : Got p H H') (d : Die H p) (n : H t = none) (u : HO) : Got p H (upd H' t u) := by
  refine ⟨fun b o e z => by rw [upd_ne (ne_of_none e n)]; exact g.keep b o e z, ?_⟩
  obtain ⟨l, b, c, l0, e⟩ := g.die
  obtain ⟨_, _, _, _, e0⟩ := d
  exact ⟨l, b, c, l0, by rw [upd_ne (ne_of_none e0 n)]; exact e⟩
theorem new_keep {H : Hp} {a p : Addr} {o u : HO} (h : H a = some o) (n : H p = none) : upd H p u a = some o := by rw [upd_ne (ne_of_none h n)]; exact h
theorem new_keep2 {H : Hp} {a p : Addr} {o u u' : HO} (h : H a = some o) (n : H p = none) : upd (upd H p u) p u' a = some o := by rw [upd_ne (ne_of_none h n), upd_ne (ne_of_none h n)]; exact h
theorem Die.ne {p q : Addr} {H : Hp} (d : Die H p) (n : H q = none) : p ≠ q := by
  obtain ⟨l, b, c, _, e⟩ := d
  exact ne_of_none e n
end GL
namespace GL
open PySem PySem.Spec PyProof.Rows L2
variable {K : PySem.W.Frag}
@[irreducible] def B : Int := 10 ^ 400
theorem B_eq : (B : Int) = 10 ^ 400 := by unfold B; rfl
def isIntV : V → Bool
  | .int i => decide (-B < i) && decide (i < B)
  | _ => false
def spIsInt (K : PySem.W.Frag) : Sp := fun vs H Q _ => ∃ x k, vs = [x] ∧ Of K H x k ∧ Q (.bl (isIntV x)) H
def isCountV : V → Bool
  | .int i => isIntV (.int i) && decide (0 ≤ i)
  | _ => false
def spIsCount (K : PySem.W.Frag) : Sp := fun vs H Q _ => ∃ x k, vs = [x] ∧ Of K H x k ∧ Q (.bl (isCountV x)) H
theorem one_sign {y : Str} (h : y.length = 1) : ∃ c, y = ⟨#[c]⟩ := by
  obtain ⟨⟨l⟩⟩ := y
  match l, h with
  | [c], _ => exact ⟨c, rfl⟩
def spRoll : Sp := fun vs H Q _ => ∃ p t, vs = [.ref p, .int t] ∧ Die H p ∧ 0 < t ∧ t.natAbs < 2 ^ 2000 ∧ ∀ r H', 0 ≤ r → r < t → Got p H H' → Q (.int r) H'
theorem at_ints {ns : List Int} {i : Int} (h0 : 0 ≤ i) (h1 : i < ns.length) : ∃ n, atI (ns.map V.int) i = some (.int n) := by
  obtain ⟨j, rfl⟩ : ∃ j : Nat, i = (j : Int) := ⟨i.toNat, by omega⟩
  have hj : j < ns.length := by omega
  exact ⟨ns[j], atI_nat (by rw [List.getElem?_map, List.getElem?_eq_getElem hj]; rfl)⟩
def spDice (K : PySem.W.Frag) : Sp := fun vs H Q _ => ∃ (a : Addr) (ns : List Int) (spot : Int), vs = [.ref a, .int spot] ∧ SqL K H a (ns.map V.int) ∧ 0 ≤ spot ∧ ∀ p H', H p = none → Same H H' → Die H' p → Q (.ref p) H'
def spPick : Sp := fun vs H Q _ => ∃ (p q : Addr) (xs : List V), vs = [.ref p, .ref q] ∧ Die H p ∧ (H q = some (.lst xs) ∨ H q = some (.tup xs)) ∧ q ≠ p ∧ 0 < xs.length ∧ xs.length ≤ 1000 ∧ ∀ v H', v ∈ xs → Got p H H' → Q v H'
def spLimit : Sp := fun vs H Q _ => vs = [] ∧ Q (.int B) H
theorem int_short {n : Int} : isIntV (.int n) = decide (n.natAbs < 10 ^ 400) := by
  have e : (10 : Int) ^ 400 = ((10 ^ 400 : Nat) : Int) := by rw [Int.natCast_pow]; rfl
  show (decide (-B < n) && decide (n < B)) = _
  rw [B_eq, e]
  generalize (10 ^ 400 : Nat) = N
  rw [Bool.eq_iff_iff]
  simp only [Bool.and_eq_true, decide_eq_true_eq]
  omega

theorem _root_.GL.Of.same {H H' : Hp} {x : V} {k : Kd} (h : Of K H x k) (s : Same H H') : Of K H' x k := by
  unfold Of at h ⊢
  generalize Value.type k.nm = t at h ⊢
  cases h with
  | base b =>
    cases b with
    | non => exact .base .non
    | bl x => exact .base (.bl x)
    | int i => exact .base (.int i)
    | str y => exact .base (.str y)
    | flt y => exact .base (.flt y)
    | lst e => exact .base (.lst (s _ _ e))
    | frz e => exact .base (.frz (s _ _ e))
    | tup e => exact .base (.tup (s _ _ e))
    | dK e => exact .base (.dK (s _ _ e))
    | dT e => exact .base (.dT (s _ _ e))
    | ins e a b c d e2 => exact .base (.ins (s _ _ e) a b c d e2)
  | byt b => exact .byt b
  | set e => exact .set (s _ _ e)
  | kList e c => exact .kList e c
  | kTuple e c => exact .kTuple e c
  | kDict e c => exact .kDict e c
  | fTuple e => exact .fTuple (s _ _ e)
  | fDict e => exact .fDict (s _ _ e)
/-- what is told of a value as a point -/
def PtV (K : PySem.W.Frag) (H : Hp) (x : V) (r : Bool) : Prop := ∃ k, Of K H x k ∧ (k.isT = false → r = false) ∧
  (k.isT = true → ∃ a xs, x = .ref a ∧ SqT K H a xs ∧ xs.length ≤ 1000 ∧ (xs.length ≠ 2 → r = false) ∧ (xs.length = 2 → ∃ u v ku kv, xs = [u, v] ∧ Of K H u ku ∧ Of K H v kv ∧ r = (isIntV u && isIntV v)))
def spIsPoint (K : PySem.W.Frag) : Sp := fun vs H Q _ => ∃ x r, vs = [x] ∧ PtV K H x r ∧ Q (.bl r) H
theorem ptTup2 {H : Hp} {a : Addr} {u v : V} {ku kv : Kd} (h : H a = some (.tup [u, v])) (hu : Of K H u ku) (hv : Of K H v kv) : PtV K H (.ref a) (isIntV u && isIntV v) :=
  ⟨.tup, .tup h, (fun z => nomatch z), fun _ => ⟨a, _, rfl, SqT.of h, (by show 2 ≤ 1000; decide), fun z => absurd rfl z, fun _ => ⟨u, v, ku, kv, rfl, hu, hv, rfl⟩⟩⟩
theorem ptTupN {H : Hp} {a : Addr} {xs : List V} (h : H a = some (.tup xs)) (l : xs.length ≤ 1000) (n : xs.length ≠ 2) : PtV K H (.ref a) false :=
  ⟨.tup, .tup h, (fun z => nomatch z), fun _ => ⟨a, _, rfl, SqT.of h, l, fun _ => rfl, fun z => absurd z n⟩⟩
theorem ptNo {H : Hp} {x : V} {k : Kd} (h : Of K H x k) (e : k.isT = false) : PtV K H x false := ⟨k, h, fun _ => rfl, fun z => by rw [e] at z; cases z⟩
def spPart : Sp := fun vs H Q _ => ∃ p, vs = [.ref p] ∧ Die H p ∧ ∀ n H', isIntV (.int n) = true → Got p H H' → Q (.int n) H'
def spMixed : Sp := fun vs H Q _ => ∃ (p q : Addr) (xs : List V), vs = [.ref p, .ref q] ∧ Die H p ∧ H q = some (.lst xs) ∧ q ≠ p ∧ xs.length ≤ 1000 ∧ ∀ l ys H', H l = none → l ≠ p → ys.length = xs.length → (∀ v ∈ ys, v ∈ xs) → H' l = some (.lst ys) → Got p H H' → Q (.ref l) H'

theorem Same.new {H : Hp} {p : Addr} {o : HO} (n : H p = none) : Same H (upd H p o) := fun b u e => by rw [upd_ne (ne_of_none e n)]; exact e
theorem Same.over {H H' : Hp} {p : Addr} (s : Same H H') (n : H p = none) (o : HO) : Same H (upd H' p o) := fun b u e => by rw [upd_ne (ne_of_none e n)]; exact s b u e
/-! ### lists of truth values -/
def bls (bs : List Bool) : PyData := .list (bs.map .bool)
theorem bls_dp {K : PySem.W.Frag} {H : Hp} : ∀ {bs : List Bool}, DpAll K H (bs.map V.bl) (bs.map .bool)
  | [] => .nil
  | b :: _ => .cons (.bl b) bls_dp
theorem bls_at {K : PySem.W.Frag} {H : Hp} {l : Addr} {bs : List Bool} (h : H l = some (.lst (bs.map V.bl))) : Dp K H (.ref l) (bls bs) := .lst (SqL.of h) bls_dp
theorem bls_eqv (bs : List Bool) : PyData.eqv (bls bs) (bls bs) = true := by
  show PyData.eqvAll (bs.map .bool) (bs.map .bool) = true
  induction bs with
  | nil => rfl
  | cons b r ih => rw [List.map_cons, PyData.eqvAll, ih]; cases b <;> rfl
theorem b4_ok (x y z u : Bool) : (bls [x, y, z, u]).showable = true ∧ (bls [x, y, z, u]).hasDict = false ∧ (bls [x, y, z, u]).depth ≤ 20 ∧ (bls [x, y, z, u]).shown.length ≤ sizeLine := by
  cases x <;> cases y <;> cases z <;> cases u <;> exact ⟨by decide +kernel, by decide +kernel, by decide +kernel, by decide +kernel⟩
theorem b4_shaped (x y z u : Bool) : SeqAt.shaped (bls [x, y, z, u]) = true := by cases x <;> cases y <;> cases z <;> cases u <;> decide +kernel
theorem few_of {n k : Nat} (hk : 1 ≤ k) (z : Int) (hz : (if (if (n : Int) < k then (n : Int) else k) > 1 then (if (n : Int) < k then (n : Int) else k) else 1) = z) : 0 ≤ z ∧ z ≤ k := by
  subst hz
  constructor <;> (split <;> (try split) <;> omega)
theorem seq_got {K : PySem.W.Frag} {a p : Addr} {xs : List V} {H0 H1 H' : Hp} (h : SqL K H0 a xs) (np : H0 p = none) (same : Same H0 H1) (g : Got p H1 H') : SqL K H' a xs := by
  have kp : ∀ o, H0 a = some o → H' a = some o := fun o e => g.keep a o (same a o e) (ne_of_none e np)
  rcases h with (z | ⟨o, z⟩) | z
  · exact .inl (.inl (kp _ z))
  · exact .inl (.inr ⟨o, kp _ z⟩)
  · exact .inr z
theorem take_map {α β : Type} {f : α → β} {l : List α} {i : Nat} {x : α} (h : l[i]? = some x) : (l.take i).map f ++ [f x] = (l.take (i + 1)).map f := by
  rw [List.take_add_one, h, List.map_append]
  rfl
theorem four {l : List V} (h : l.length = 4) : ∃ a b c d, l = [a, b, c, d] := by
  match l, h with
  | [a, b, c, d], _ => exact ⟨a, b, c, d, rfl⟩
end GL
namespace GL
open PySem PySem.Spec PyProof.Rows L2
/-! ### the two grids: false is the square one, true the other -/
def nm : Bool → Str | false => "square" | true => "triangle"
def num : Bool → Nat | false => 4 | true => 6
def sl : Bool → Int | false => 0 | true => 1
def ux : Bool → List (Int × Int)
  | false => [(1, 0), (0, 1), (-1, 0), (0, -1)]
  | true => [(1, 0), (0, 1), (-1, 1), (-1, 0), (0, -1), (1, -1)]
def mul (t : Bool) (u v : Int × Int) : Int × Int := (u.1 * v.1 - u.2 * v.2, u.1 * v.2 + u.2 * v.1 + sl t * (u.2 * v.2))
def nrm (t : Bool) (u : Int × Int) : Int := u.1 * u.1 + sl t * u.1 * u.2 + u.2 * u.2
def flip (t : Bool) (u : Int × Int) : Int × Int := (u.1 + sl t * u.2, -u.2)
def uni (t : Bool) (k : Int) : Int × Int := (ux t).getD (k % (num t : Int)).toNat (0, 0)
/-- what of the grids stands in the text -/
structure Uni (K : PySem.W.Frag) (w : World) (aG dU : Addr) (U : Bool → Addr) (us : Bool → List Addr) : Prop where
  grids : ∀ H, SqT K H aG [.str "square", .str "triangle"]
  key : ∀ t, KDct K w dU (nm t) (.ref (U t))
  tup : ∀ t H, SqT K H (U t) ((us t).map V.ref)
  len : ∀ t, (us t).length = num t
  pt : ∀ t (i : Nat) a p, (us t)[i]? = some a → (ux t)[i]? = some p → ∀ H, SqT K H a [.int p.1, .int p.2]
def gF (U : Bool → Addr) (t : Bool) : List (Str × V) := [("name", .str (nm t)), ("units", .ref (U t)), ("half", .int ((num t : Int) / 2)), ("slant", .int (sl t))]
def GridAt (C : Addr) (U : Bool → Addr) (H : Hp) (g : Addr) (t : Bool) : Prop := ∃ dx, H g = some (.ins C dx (gF U t))
structure GCls (K : PySem.W.Frag) (C : Addr) : Prop where
  cls : Cls K C
  name : NoAttr K C "name"
  units : NoAttr K C "units"
  half : NoAttr K C "half"
  slant : NoAttr K C "slant"
theorem put2 {a b : Str} {x y : V} (h : ¬ a = b) : putF b y [(a, x)] = [(a, x), (b, y)] := by
  show (if a = b then _ else (a, x) :: putF b y []) = _
  rw [if_neg h]
  rfl
theorem put3 {a b c : Str} {x y z : V} (h1 : ¬ a = c) (h2 : ¬ b = c) : putF c z [(a, x), (b, y)] = [(a, x), (b, y), (c, z)] := by
  show (if a = c then _ else (a, x) :: putF c z [(b, y)]) = _
  rw [if_neg h1, put2 h2]
theorem put4 {a b c d : Str} {x y z u : V} (h1 : ¬ a = d) (h2 : ¬ b = d) (h3 : ¬ c = d) : putF d u [(a, x), (b, y), (c, z)] = [(a, x), (b, y), (c, z), (d, u)] := by
  show (if a = d then _ else (a, x) :: putF d u [(b, y), (c, z)]) = _
  rw [if_neg h1, put3 h2 h3]
variable {K : PySem.W.Frag} {C : Addr} {U : Bool → Addr} {us : Bool → List Addr} {t : Bool}
theorem gF_units : (gF U t).lookup ("units" : Str) = some (.ref (U t)) := by unfold gF; cases t <;> rfl
theorem gF_slant : (gF U t).lookup ("slant" : Str) = some (.int (sl t)) := by unfold gF; cases t <;> rfl
theorem gF_half : (gF U t).lookup ("half" : Str) = some (.int ((num t : Int) / 2)) := by unfold gF; cases t <;> rfl
theorem gF_name : (gF U t).lookup ("name" : Str) = some (.str (nm t)) := by unfold gF; cases t <;> rfl
theorem GridAt.same {H H' : Hp} {g : Addr} (h : GridAt C U H g t) (s : Same H H') : GridAt C U H' g t := let ⟨dx, e⟩ := h; ⟨dx, s _ _ e⟩
theorem GridAt.got {p : Addr} {H H' : Hp} {g : Addr} (h : GridAt C U H g t) (s : Got p H H') (d : Die H p) : GridAt C U H' g t := by
  obtain ⟨dx, e⟩ := h
  obtain ⟨_, _, _, _, e0⟩ := d
  exact ⟨dx, s.keep _ _ e (ne_of e e0 (by intro z; cases z))⟩
/-- a point that stands at an address -/
def PAt (K : PySem.W.Frag) (H : Hp) (a : Addr) (u : Int × Int) : Prop := SqT K H a [.int u.1, .int u.2]
theorem PAt.same {H H' : Hp} {a : Addr} {u : Int × Int} (h : PAt K H a u) (s : Same H H') : PAt K H' a u := by
  rcases h with (z | ⟨o, z⟩) | z
  · exact .inl (.inl (s _ _ z))
  · exact .inl (.inr ⟨o, s _ _ z⟩)
  · exact .inr z
theorem PAt.got {p : Addr} {H H' : Hp} {a : Addr} {u : Int × Int} (h : PAt K H a u) (s : Got p H H') (d : Die H p) : PAt K H' a u := by
  obtain ⟨_, _, _, _, e0⟩ := d
  rcases h with (z | ⟨o, z⟩) | z
  · exact .inl (.inl (s.keep _ _ z (ne_of z e0 (by intro z; cases z))))
  · exact .inl (.inr ⟨o, s.keep _ _ z (ne_of z e0 (by intro z; cases z))⟩)
  · exact .inr z
theorem PAt.of {H : Hp} {a : Addr} {u : Int × Int} (h : H a = some (.tup [.int u.1, .int u.2])) : PAt K H a u := SqT.of h
def Sm (u : Int × Int) : Prop := u.1.natAbs < 2 ^ 3000 ∧ u.2.natAbs < 2 ^ 3000
theorem sm_mul {x y : Int} (hx : x.natAbs < 2 ^ 3000) (hy : y.natAbs < 2 ^ 3000) : CMulW x y := wide_mul hx hy (by decide) (by decide) (by decide)
theorem sl_mul {x : Int} (hx : x.natAbs < 2 ^ 6000) : CMulW (sl t) x := wide_mul (a := 1) (by cases t <;> decide) hx (by decide) (by decide) (by decide)
theorem num_pos : (0 : Int) < (num t : Int) := by cases t <;> decide
theorem len_ux : (ux t).length = num t := by cases t <;> rfl
theorem uni_at (k : Int) : (ux t)[(k % (num t : Int)).toNat]? = some (uni t k) := by
  have h1 := Int.emod_nonneg k (Int.ne_of_gt (num_pos (t := t)))
  have h2 := Int.emod_lt_of_pos k (num_pos (t := t))
  have h3 : (k % (num t : Int)).toNat < (ux t).length := by rw [len_ux]; omega
  rw [List.getElem?_eq_getElem h3]
  unfold uni
  rw [List.getD_eq_getElem?_getD, List.getElem?_eq_getElem h3]
  rfl
theorem uni_sm {k : Int} : Sm (uni t k) := by
  have h : ∀ p ∈ ux t, p.1.natAbs ≤ 1 ∧ p.2.natAbs ≤ 1 := by cases t <;> decide
  have z := h _ (List.mem_of_getElem? (uni_at (t := t) k))
  have b : (1 : Nat) < 2 ^ 3000 := by decide
  exact ⟨Nat.lt_of_le_of_lt z.1 b, Nat.lt_of_le_of_lt z.2 b⟩
theorem SqT.tup' {H : Hp} {a : Addr} {xs : List V} (h : SqT K H a xs) : Of K H (.ref a) .tup := by
  rcases h with (z | ⟨o, z⟩) | ⟨o, its, n, l, cl, _⟩
  · exact .base (.tup z)
  · exact .fTuple z
  · exact .kTuple l cl
theorem ptOk_sm {u : Int × Int} (h1 : isIntV (.int u.1) = true) (h2 : isIntV (.int u.2) = true) : Sm u := by
  rw [int_short] at h1 h2
  have b : (10 ^ 400 : Nat) ≤ 2 ^ 3000 := by decide +kernel
  exact ⟨Nat.lt_of_lt_of_le (of_decide_eq_true h1) b, Nat.lt_of_lt_of_le (of_decide_eq_true h2) b⟩
theorem len_put {f : Str} {y : V} : ∀ {fs : List (Str × V)}, (putF f y fs).length ≤ fs.length + 1
  | [] => Nat.le_refl _
  | (a, x) :: r => by
    show (if a = f then (a, y) :: r else (a, x) :: putF f y r).length ≤ _
    by_cases h : a = f
    · rw [if_pos h]; exact Nat.le_succ _
    · rw [if_neg h]; exact Nat.succ_le_succ len_put
theorem small_put {f : Str} {y : V} {fs : List (Str × V)} {n : Nat} (h : fs.length ≤ n) : (putF f y fs).length ≤ n + 1 := Nat.le_trans len_put (Nat.succ_le_succ h)
theorem bl_ne (x y : Bool) : (!decide (V.bl x = V.bl y)) = (x != y) := by cases x <;> cases y <;> decide +kernel
theorem bl_eq (x y : Bool) : decide (V.bl x = V.bl y) = (x == y) := by cases x <;> cases y <;> decide +kernel
theorem nat_eq (n m : Nat) : decide (V.int (n : Int) = V.int (m : Int)) = decide (n = m) := by
  by_cases h : n = m
  · subst h; rw [decide_eq_true rfl, decide_eq_true rfl]
  · rw [decide_eq_false h, decide_eq_false (fun z => h (by injection z with z; omega))]
/-! ### promises -/
def spInit (C : Addr) (U : Bool → Addr) : Sp := fun vs H Q _ => ∃ p dx t, vs = [.ref p, .str (nm t)] ∧ H p = some (.ins C dx []) ∧ ∀ H', (∀ b, b ≠ p → H' b = H b) → H' p = some (.ins C dx (gF U t)) → Q .non H'
def spTimes (K : PySem.W.Frag) (C : Addr) (U : Bool → Addr) : Sp := fun vs H Q _ => ∃ g t a b u v, vs = [.ref g, .ref a, .ref b] ∧ GridAt C U H g t ∧ PAt K H a u ∧ PAt K H b v ∧ Sm u ∧ Sm v ∧ ∀ p, H p = none → Q (.ref p) (upd H p (.tup [.int (mul t u v).1, .int (mul t u v).2]))
def spNorm (K : PySem.W.Frag) (C : Addr) (U : Bool → Addr) : Sp := fun vs H Q _ => ∃ g t a u, vs = [.ref g, .ref a] ∧ GridAt C U H g t ∧ PAt K H a u ∧ Sm u ∧ Q (.int (nrm t u)) H
def spFlip (K : PySem.W.Frag) (C : Addr) (U : Bool → Addr) : Sp := fun vs H Q _ => ∃ g t a u, vs = [.ref g, .ref a] ∧ GridAt C U H g t ∧ PAt K H a u ∧ Sm u ∧ ∀ p, H p = none → Q (.ref p) (upd H p (.tup [.int (flip t u).1, .int (flip t u).2]))
def spTurned (K : PySem.W.Frag) (C : Addr) (U : Bool → Addr) : Sp := fun vs H Q _ => ∃ g t a u k, vs = [.ref g, .ref a, .int k] ∧ GridAt C U H g t ∧ PAt K H a u ∧ Sm u ∧ ∀ p, H p = none → Q (.ref p) (upd H p (.tup [.int (mul t u (uni t k)).1, .int (mul t u (uni t k)).2]))
def ptOk (u : Int × Int) : Prop := isIntV (.int u.1) = true ∧ isIntV (.int u.2) = true
def spCheckP (K : PySem.W.Frag) : Sp := fun vs H Q _ => ∃ a u, vs = [.ref a] ∧ PAt K H a u ∧ ptOk u ∧ Q .non H
def spCheckN : Sp := fun vs H Q _ => ∃ k, vs = [.int k] ∧ isIntV (.int k) = true ∧ Q .non H
def spMUnit (K : PySem.W.Frag) (C : Addr) (U : Bool → Addr) : Sp := fun vs H Q _ => ∃ g t k, vs = [.ref g, .int k] ∧ GridAt C U H g t ∧ isIntV (.int k) = true ∧ ∀ i, (∀ H', PAt K H' i (uni t k)) → Q (.ref i) H
def spMNorm (K : PySem.W.Frag) (C : Addr) (U : Bool → Addr) : Sp := fun vs H Q _ => ∃ g t a u, vs = [.ref g, .ref a] ∧ GridAt C U H g t ∧ PAt K H a u ∧ ptOk u ∧ Q (.int (nrm t u)) H
def spMFlip (K : PySem.W.Frag) (C : Addr) (U : Bool → Addr) : Sp := fun vs H Q _ => ∃ g t a u, vs = [.ref g, .ref a] ∧ GridAt C U H g t ∧ PAt K H a u ∧ ptOk u ∧ ∀ p, H p = none → Q (.ref p) (upd H p (.tup [.int (flip t u).1, .int (flip t u).2]))
def spMTurned (K : PySem.W.Frag) (C : Addr) (U : Bool → Addr) : Sp := fun vs H Q _ => ∃ g t a u k, vs = [.ref g, .ref a, .int k] ∧ GridAt C U H g t ∧ PAt K H a u ∧ ptOk u ∧ isIntV (.int k) = true ∧ ∀ p, H p = none → Q (.ref p) (upd H p (.tup [.int (mul t u (uni t k)).1, .int (mul t u (uni t k)).2]))
def spMLen (C : Addr) (U : Bool → Addr) : Sp := fun vs H Q _ => ∃ g t, vs = [.ref g] ∧ GridAt C U H g t ∧ Q (.int (num t : Nat)) H
def alt (t : Bool) (e o : Int × Int) : Bool :=
  decide (dist [0, (e.2 - e.1) % (num t : Int), (o.1 - e.1) % (num t : Int), (o.2 - e.1) % (num t : Int)] = 4) &&
    (decide ((o.1 - e.1) % (num t : Int) < (e.2 - e.1) % (num t : Int)) != decide ((o.2 - e.1) % (num t : Int) < (e.2 - e.1) % (num t : Int)))
def spMAlt (K : PySem.W.Frag) (C : Addr) (U : Bool → Addr) : Sp := fun vs H Q _ => ∃ g t a b e o, vs = [.ref g, .ref a, .ref b] ∧ GridAt C U H g t ∧ PAt K H a e ∧ PAt K H b o ∧ ptOk e ∧ ptOk o ∧ ∀ H', Same H H' → Q (.bl (alt t e o)) H'
/-! ### the law's own grids -/
def PlainAt (H : Hp) (q : Addr) (t : Bool) : Prop := H q = some (.dK [(.inr "grid", .str (nm t))])
theorem PlainAt.get {H : Hp} {q : Addr} {t : Bool} (h : PlainAt H q t) : DGet H q (.str "grid") (some (.str (nm t))) := by
  have z := DGet.k (k := .inr "grid") h
  exact z
def spPlain : Sp := fun vs H Q _ => ∃ p, vs = [.ref p] ∧ Die H p ∧ ∀ q t H', H q = none → q ≠ p → PlainAt H' q t → Got p H H' → Q (.ref q) H'
def spAround : Sp := fun vs H Q _ => ∃ q t, vs = [.ref q] ∧ PlainAt H q t ∧ Q (.int (num t : Nat)) H
def spUnitL (K : PySem.W.Frag) : Sp := fun vs H Q _ => ∃ q t k, vs = [.ref q, .int k] ∧ PlainAt H q t ∧ ∀ p H', Same H H' → PAt K H' p (uni t k) → Q (.ref p) H'
def spTimesL (K : PySem.W.Frag) : Sp := fun vs H Q _ => ∃ q t a b u v, vs = [.ref q, .ref a, .ref b] ∧ PlainAt H q t ∧ PAt K H a u ∧ PAt K H b v ∧ Sm u ∧ Sm v ∧ ∀ p, H p = none → Q (.ref p) (upd H p (.tup [.int (mul t u v).1, .int (mul t u v).2]))
def spSpun (K : PySem.W.Frag) : Sp := fun vs H Q _ => ∃ q t a u k, vs = [.ref q, .ref a, .int k] ∧ PlainAt H q t ∧ PAt K H a u ∧ Sm u ∧ ∀ p H', Same H H' → PAt K H' p (mul t u (uni t k)) → Q (.ref p) H'
/-- how many of a pair have the rest d -/
def cnt2 (m : Int) (u : Int × Int) (d : Nat) : Nat := (if u.1 % m = (d : Int) then 1 else 0) + (if u.2 % m = (d : Int) then 1 else 0)
def metUp (m : Int) (e o : Int × Int) : Nat → List Int
  | 0 => []
  | d + 1 => (metUp m e o d ++ List.replicate (cnt2 m e d) 0) ++ List.replicate (cnt2 m o d) 1
def doAlt (m : Nat) (e o : Int × Int) : Bool := decide (dist [e.1 % (m : Int), e.2 % (m : Int), o.1 % (m : Int), o.2 % (m : Int)] = 4) && ([[0, 1, 0, 1], [1, 0, 1, 0]].any fun z => decide (z = metUp m e o m))
def spDoAlt (K : PySem.W.Frag) : Sp := fun vs H Q _ => ∃ t a b e o, vs = [.int (num t : Nat), .ref a, .ref b] ∧ PAt K H a e ∧ PAt K H b o ∧ ∀ H', Same H H' → Q (.bl (doAlt (num t) e o)) H'
/-! ### lists of ints -/
def intL (ns : List Int) : PyData := .list (ns.map .int)
theorem intL_dp {K : PySem.W.Frag} {H : Hp} : ∀ {ns : List Int}, DpAll K H (ns.map V.int) (ns.map .int)
  | [] => .nil
  | n :: _ => .cons (.int n) intL_dp
theorem intL_at {K : PySem.W.Frag} {H : Hp} {l : Addr} {ns : List Int} (h : H l = some (.lst (ns.map V.int))) : Dp K H (.ref l) (intL ns) := .lst (SqL.of h) intL_dp
theorem intL_eqv (a b : List Int) : PyData.eqv (intL a) (intL b) = decide (a = b) := by
  show PyData.eqvAll (a.map .int) (b.map .int) = _
  induction a generalizing b with
  | nil => cases b <;> simp [PyData.eqvAll]
  | cons x r ih =>
    cases b with
    | nil => simp [PyData.eqvAll]
    | cons y q =>
      rw [List.map_cons, List.map_cons, PyData.eqvAll, ih q, show PyData.eqv (.int x) (.int y) = (x == y) from rfl]
      rw [Bool.eq_iff_iff]
      simp
theorem flat_rep (c : Nat) (x : Int) : (List.replicate c [V.int x]).flatten = (List.replicate c x).map V.int := by
  induction c with
  | zero => rfl
  | succ n ih => rw [List.replicate_succ, List.flatten_cons, ih]; rfl
theorem metUp_len {m : Int} {e o : Int × Int} : ∀ i, (metUp m e o i).length ≤ 4 * i
  | 0 => Nat.le_refl _
  | i + 1 => by
    have := metUp_len (m := m) (e := e) (o := o) i
    have h : ∀ u : Int × Int, cnt2 m u i ≤ 2 := by intro u; unfold cnt2; split <;> split <;> decide
    have h1 := h e
    have h2 := h o
    rw [metUp, List.length_append, List.length_append, List.length_replicate, List.length_replicate]
    omega
theorem shaped_intL (ns : List Int) : SeqAt.shaped (intL ns) = true := PySem.W.shaped_ints ns
theorem int_eq {x y : Int} : decide (V.int x = V.int y) = decide (x = y) := by
  by_cases h : x = y
  · subst h; rw [decide_eq_true rfl, decide_eq_true rfl]
  · rw [decide_eq_false h, decide_eq_false (fun z => h (by injection z))]
/-- how many of the first j of a pair have the rest d -/
def cntU (m : Int) (u : Int × Int) (d : Nat) : Nat → Nat
  | 0 => 0
  | 1 => if u.1 % m = (d : Int) then 1 else 0
  | _ => cnt2 m u d
theorem cntU_all {m : Int} {u : Int × Int} {d : Nat} : cntU m u d [V.int u.1, V.int u.2].length = cnt2 m u d := rfl
theorem cnt2_le {m : Int} {u : Int × Int} {d : Nat} : cnt2 m u d ≤ 2 := by unfold cnt2; split <;> split <;> decide
theorem cntU_le {m : Int} {u : Int × Int} {d j : Nat} : cntU m u d j ≤ 2 := by
  match j with
  | 0 => exact Nat.zero_le _
  | 1 => show (if _ then 1 else 0) ≤ 2; split <;> decide
  | _ + 2 => exact cnt2_le
theorem pair_at {u : Int × Int} {j : Nat} {x : V} (h : [V.int u.1, V.int u.2][j]? = some x) : ∃ y, x = .int y ∧ [u.1, u.2][j]? = some y := by
  match j, h with
  | 0, h => exact ⟨_, (Option.some.inj h).symm, rfl⟩
  | 1, h => exact ⟨_, (Option.some.inj h).symm, rfl⟩
theorem cntU_yes {m : Int} {u : Int × Int} {d j : Nat} {y : Int} (h : [u.1, u.2][j]? = some y) (c : y % m = (d : Int)) : cntU m u d j + 1 = cntU m u d (j + 1) := by
  match j, h with
  | 0, h => cases (Option.some.inj h); show 0 + 1 = if _ then 1 else 0; rw [if_pos c]
  | 1, h => cases (Option.some.inj h); show (if _ then 1 else 0) + 1 = cnt2 m u d; unfold cnt2; rw [if_pos c]
theorem cntU_no {m : Int} {u : Int × Int} {d j : Nat} {y : Int} (h : [u.1, u.2][j]? = some y) (c : ¬ y % m = (d : Int)) : cntU m u d j = cntU m u d (j + 1) := by
  match j, h with
  | 0, h => cases (Option.some.inj h); show 0 = if _ then 1 else 0; rw [if_neg c]
  | 1, h => cases (Option.some.inj h); show (if _ then 1 else 0) = cnt2 m u d; unfold cnt2; rw [if_neg c]; rfl
/-! ### what the text has, for the end -/
def TupK (K : PySem.W.Frag) (a : Addr) (xs : List V) : Prop := ∃ (o : Obj) (its : Array Value) (n : Nat), K.lookup a = some o ∧ o.cls = .type "tuple" ∧ o.data = .seq its n ∧ its.size ≤ sizeLine ∧ Vals xs its.toList
theorem TupK.at {K : PySem.W.Frag} {a : Addr} {xs : List V} (h : TupK K a xs) (H : Hp) : SqT K H a xs := .inr h
theorem uni_mk {K : PySem.W.Frag} {w : World} {aG dU aS aT s0 s1 s2 s3 t0 t1 t2 t3 t4 t5 : Addr} (g : TupK K aG [.str "square", .str "triangle"]) (kS : KDct K w dU "square" (.ref aS)) (kT : KDct K w dU "triangle" (.ref aT))
    (hS : TupK K aS [.ref s0, .ref s1, .ref s2, .ref s3]) (hT : TupK K aT [.ref t0, .ref t1, .ref t2, .ref t3, .ref t4, .ref t5])
    (p0 : TupK K s0 [.int 1, .int 0]) (p1 : TupK K s1 [.int 0, .int 1]) (p2 : TupK K s2 [.int (-1), .int 0]) (p3 : TupK K s3 [.int 0, .int (-1)])
    (q0 : TupK K t0 [.int 1, .int 0]) (q1 : TupK K t1 [.int 0, .int 1]) (q2 : TupK K t2 [.int (-1), .int 1]) (q3 : TupK K t3 [.int (-1), .int 0]) (q4 : TupK K t4 [.int 0, .int (-1)]) (q5 : TupK K t5 [.int 1, .int (-1)]) :
    Uni K w aG dU (fun t => cond t aT aS) (fun t => cond t [t0, t1, t2, t3, t4, t5] [s0, s1, s2, s3]) where
  grids := g.at
  key := fun t => by cases t; exact kS; exact kT
  tup := fun t H => by cases t; exact hS.at H; exact hT.at H
  len := fun t => by cases t <;> rfl
  pt := fun t i a p ha hp H => by
    cases t
    · match i, ha, hp with
      | 0, ha, hp => cases Option.some.inj ha; cases Option.some.inj hp; exact p0.at H
      | 1, ha, hp => cases Option.some.inj ha; cases Option.some.inj hp; exact p1.at H
      | 2, ha, hp => cases Option.some.inj ha; cases Option.some.inj hp; exact p2.at H
      | 3, ha, hp => cases Option.some.inj ha; cases Option.some.inj hp; exact p3.at H
    · match i, ha, hp with
      | 0, ha, hp => cases Option.some.inj ha; cases Option.some.inj hp; exact q0.at H
      | 1, ha, hp => cases Option.some.inj ha; cases Option.some.inj hp; exact q1.at H
      | 2, ha, hp => cases Option.some.inj ha; cases Option.some.inj hp; exact q2.at H
      | 3, ha, hp => cases Option.some.inj ha; cases Option.some.inj hp; exact q3.at H
      | 4, ha, hp => cases Option.some.inj ha; cases Option.some.inj hp; exact q4.at H
      | 5, ha, hp => cases Option.some.inj ha; cases Option.some.inj hp; exact q5.at H
theorem kdct_mk {K : PySem.W.Frag} {w : World} {a v : Addr} {x : Str} {es : Array DictEntry} {n : Nat} (l : K.lookup a = some ⟨.type "dict", none, .dict es n, #[]⟩) (k : PySem.W.nsIn K a x = some (some (.ref v))) (kk : PySem.W.KeysLit w.params es.toList) : KDct K w a x (.ref v) :=
  ⟨es, n, .ref v, l, kk, k, rfl⟩
end GL
namespace GL
open PySem PySem.Spec PyProof.Rows L2
/-! ### what turns do to points -/
variable {t : Bool} {u : Int × Int} {a b k : Int}
theorem uni_congr {k l : Int} (h : k % (num t : Int) = l % (num t : Int)) : uni t k = uni t l := by unfold uni; rw [h]
theorem res4 (k : Int) : k % 4 = 0 ∨ k % 4 = 1 ∨ k % 4 = 2 ∨ k % 4 = 3 := by omega
theorem res6 (k : Int) : k % 6 = 0 ∨ k % 6 = 1 ∨ k % 6 = 2 ∨ k % 6 = 3 ∨ k % 6 = 4 ∨ k % 6 = 5 := by omega
theorem u4 : uni false 0 = (1, 0) ∧ uni false 1 = (0, 1) ∧ uni false 2 = (-1, 0) ∧ uni false 3 = (0, -1) := ⟨rfl, rfl, rfl, rfl⟩
theorem turn_add : mul t (mul t u (uni t a)) (uni t b) = mul t u (uni t (a + b)) := by
  obtain ⟨x, y⟩ := u
  cases t
  · rcases res4 a with h1 | h1 | h1 | h1 <;> rcases res4 b with h2 | h2 | h2 | h2 <;>
      (have e1 := uni_congr (t := false) (k := a) (l := a % 4) (by show a % 4 = (a % 4) % 4; omega)
       have e2 := uni_congr (t := false) (k := b) (l := b % 4) (by show b % 4 = (b % 4) % 4; omega)
       have e3 := uni_congr (t := false) (k := a + b) (l := a % 4 + b % 4) (by show (a + b) % 4 = (a % 4 + b % 4) % 4; omega)
       rw [h1] at e1
       rw [h2] at e2
       rw [h1, h2] at e3
       rw [e1, e2, e3]
       refine Prod.ext ?_ ?_ <;> simp [mul, sl, uni, ux, num] <;> omega)
  · rcases res6 a with h1 | h1 | h1 | h1 | h1 | h1 <;> rcases res6 b with h2 | h2 | h2 | h2 | h2 | h2 <;>
      (have e1 := uni_congr (t := true) (k := a) (l := a % 6) (by show a % 6 = (a % 6) % 6; omega)
       have e2 := uni_congr (t := true) (k := b) (l := b % 6) (by show b % 6 = (b % 6) % 6; omega)
       have e3 := uni_congr (t := true) (k := a + b) (l := a % 6 + b % 6) (by show (a + b) % 6 = (a % 6 + b % 6) % 6; omega)
       rw [h1] at e1
       rw [h2] at e2
       rw [h1, h2] at e3
       rw [e1, e2, e3]
       refine Prod.ext ?_ ?_ <;> simp [mul, sl, uni, ux, num] <;> omega)
theorem uni_red4 (k : Int) : uni false k = uni false (k % 4) := uni_congr (t := false) (by show k % 4 = (k % 4) % 4; omega)
theorem uni_red6 (k : Int) : uni true k = uni true (k % 6) := uni_congr (t := true) (by show k % 6 = (k % 6) % 6; omega)
theorem turn_all : mul t u (uni t (num t : Nat)) = u := by
  obtain ⟨x, y⟩ := u
  cases t <;> (refine Prod.ext ?_ ?_ <;> simp [mul, sl, uni, ux, num])
theorem turn_half : mul t u (uni t ((num t : Int) / 2)) = (0 - u.1, 0 - u.2) := by
  obtain ⟨x, y⟩ := u
  cases t <;> (refine Prod.ext ?_ ?_ <;> simp [mul, sl, uni, ux, num])
theorem turn_one : mul t (1, 0) (uni t k) = uni t k := by
  generalize uni t k = v
  obtain ⟨x, y⟩ := v
  cases t <;> (refine Prod.ext ?_ ?_ <;> simp [mul, sl])
theorem turn_flip : flip t (mul t (flip t u) (uni t k)) = mul t u (uni t (0 - k)) := by
  obtain ⟨x, y⟩ := u
  cases t
  · rcases res4 k with h1 | h1 | h1 | h1 <;>
      (have e1 := uni_red4 k
       have e3 := uni_congr (t := false) (k := 0 - k) (l := 0 - k % 4) (by show (0 - k) % 4 = (0 - k % 4) % 4; omega)
       rw [h1] at e1 e3
       rw [e1, e3]
       refine Prod.ext ?_ ?_ <;> simp [flip, mul, sl, uni, ux, num] <;> omega)
  · rcases res6 k with h1 | h1 | h1 | h1 | h1 | h1 <;>
      (have e1 := uni_red6 k
       have e3 := uni_congr (t := true) (k := 0 - k) (l := 0 - k % 6) (by show (0 - k) % 6 = (0 - k % 6) % 6; omega)
       rw [h1] at e1 e3
       rw [e1, e3]
       refine Prod.ext ?_ ?_ <;> simp [flip, mul, sl, uni, ux, num] <;> omega)
theorem turn_norm : nrm t (mul t u (uni t k)) = nrm t u := by
  obtain ⟨x, y⟩ := u
  cases t
  · rcases res4 k with h1 | h1 | h1 | h1 <;>
      (have e1 := uni_red4 k
       rw [h1] at e1
       rw [e1]
       simp [nrm, mul, sl, uni, ux, num] <;> grind)
  · rcases res6 k with h1 | h1 | h1 | h1 | h1 | h1 <;>
      (have e1 := uni_red6 k
       rw [h1] at e1
       rw [e1]
       simp [nrm, mul, sl, uni, ux, num] <;> grind)
/-- small points -/
def Le (n : Nat) (u : Int × Int) : Prop := u.1.natAbs ≤ n ∧ u.2.natAbs ≤ n
theorem Le.turn {n : Nat} (h : Le n u) : Le (2 * n) (mul t u (uni t k)) := by
  obtain ⟨x, y⟩ := u
  obtain ⟨h1, h2⟩ : x.natAbs ≤ n ∧ y.natAbs ≤ n := h
  cases t
  · rcases res4 k with h1 | h1 | h1 | h1 <;>
      (have e1 := uni_red4 k
       rw [h1] at e1
       rw [e1]
       refine ⟨?_, ?_⟩ <;> simp [mul, sl, uni, ux, num] <;> omega)
  · rcases res6 k with h1 | h1 | h1 | h1 | h1 | h1 <;>
      (have e1 := uni_red6 k
       rw [h1] at e1
       rw [e1]
       refine ⟨?_, ?_⟩ <;> simp [mul, sl, uni, ux, num] <;> omega)
theorem Le.flip {n : Nat} (h : Le n u) : Le (2 * n) (flip t u) := by
  obtain ⟨x, y⟩ := u
  obtain ⟨h1, h2⟩ : x.natAbs ≤ n ∧ y.natAbs ≤ n := h
  cases t <;> (refine ⟨?_, ?_⟩ <;> simp [GL.flip, sl] <;> omega)
theorem short_of {x : Int} (h : x.natAbs ≤ 10 ^ 9) : isIntV (.int x) = true := by rw [int_short]; exact decide_eq_true (Nat.lt_of_le_of_lt h (by decide +kernel))
theorem Le.ok {n : Nat} (h : Le n u) (hn : n ≤ 10 ^ 9) : ptOk u := ⟨short_of (Nat.le_trans h.1 hn), short_of (Nat.le_trans h.2 hn)⟩
theorem Le.sm {n : Nat} (h : Le n u) (hn : n ≤ 10 ^ 9) : Sm u := ptOk_sm (h.ok hn).1 (h.ok hn).2
/-! ### the text of a small point -/
def ptD (u : Int × Int) : PyData := .tuple [.int u.1, .int u.2]
theorem ptD_at {K : PySem.W.Frag} {H : Hp} {a : Addr} (h : PAt K H a u) : Dp K H (.ref a) (ptD u) := .tup h (.cons (.int _) (.cons (.int _) .nil))
theorem one_short : ∀ i : Fin 401, (PyData.shown (.int ((i.val : Int) - 200))).length ≤ 13 := by decide +kernel
theorem int_shown {x : Int} (h : x.natAbs ≤ 200) : (PyData.shown (.int x)).length ≤ 13 := by
  have z := one_short ⟨(x + 200).toNat, by omega⟩
  have e : (((x + 200).toNat : Nat) : Int) - 200 = x := by omega
  rw [e] at z
  exact z
theorem ptD_ok (h : Le 200 u) : (ptD u).showable = true ∧ (ptD u).hasDict = false ∧ (ptD u).depth ≤ 20 ∧ (ptD u).shown.length ≤ sizeLine := by
  have sh : ∀ {x : Int}, x.natAbs ≤ 200 → PyData.showable (.int x) = true := fun {x} h => by
    simp only [PyData.showable]
    exact decide_eq_true (Nat.lt_of_le_of_lt (Nat.log2_le_self _) (Nat.lt_of_le_of_lt h (by decide)))
  refine ⟨?_, ?_, ?_, ?_⟩
  · simp only [ptD, PyData.showable, PyData.showableAll, Bool.and_eq_true, Bool.and_true]
    have a1 := sh h.1
    have a2 := sh h.2
    simp only [PyData.showable] at a1 a2
    exact ⟨a1, a2⟩
  · simp [ptD, PyData.hasDict, PyData.hasDictAll]
  · simp [ptD, PyData.depth, PyData.depthAll]
  · refine Nat.le_trans (shown_le13 (d := ptD u) ?_ ?_) (by decide)
    · simp [ptD, PyData.layable0, PyData.canLay0, PyData.canLayAll0, PyData.depth, PyData.depthAll, PyData.weight, PyData.weightAll]
      have l1 : u.fst.natAbs.log2 ≤ 200 := Nat.le_trans (Nat.log2_le_self _) h.1
      have l2 : u.snd.natAbs.log2 ≤ 200 := Nat.le_trans (Nat.log2_le_self _) h.2
      split <;> split <;> omega
    · simp only [ptD, PyData.intsShort, PyData.intsShortAll, Bool.and_eq_true, Bool.and_true]
      exact ⟨decide_eq_true (int_shown h.1), decide_eq_true (int_shown h.2)⟩
theorem ptD_shaped (u : Int × Int) : SeqAt.shaped (ptD u) = true := by
  simp [ptD, SeqAt.shaped, PyData.canLay0, PyData.canLayAll0, PyData.depth, PyData.depthAll]
theorem ptD_eqv (u v : Int × Int) : PyData.eqv (ptD u) (ptD v) = decide (u = v) := by
  obtain ⟨x, y⟩ := u
  obtain ⟨z, w⟩ := v
  show PyData.eqvAll [.int x, .int y] [.int z, .int w] = _
  simp only [PyData.eqvAll]
  rw [show PyData.eqv (.int x) (.int z) = (x == z) from rfl, show PyData.eqv (.int y) (.int w) = (y == w) from rfl, Bool.eq_iff_iff]
  simp
theorem ptD_self (u : Int × Int) : PyData.eqv (ptD u) (ptD u) = true := by rw [ptD_eqv]; exact decide_eq_true rfl
theorem PlainAt.got {p q : Addr} {H H' : Hp} (h : PlainAt H q t) (s : Got p H H') (d : Die H p) : PlainAt H' q t := by
  obtain ⟨_, _, _, _, e0⟩ := d
  exact s.keep _ _ h (ne_of h e0 (by intro z; cases z))
def spTurns (C : Addr) (U : Bool → Addr) : Sp := fun vs H Q _ => ∃ p q g t, vs = [.ref p, .ref q, .ref g] ∧ Die H p ∧ PlainAt H q t ∧ GridAt C U H g t ∧ ∀ H', Got p H H' → Q (.bl true) H'
theorem Got.over_same {p : Addr} {H H1 H2 : Hp} (g : Got p H H1) (s : Same H1 H2) : Got p H H2 :=
  ⟨fun b o e n => s _ _ (g.keep b o e n), let ⟨l, b, c, l0, e⟩ := g.die; ⟨l, b, c, l0, s _ _ e⟩⟩
theorem str_self (x : Str) : (!decide (V.str x = V.str x)) = false := by rw [decide_eq_true rfl]; rfl
theorem int_self (x : Int) : (!decide (V.int x = V.int x)) = false := by rw [decide_eq_true rfl]; rfl
theorem Le.mono {n m : Nat} (h : Le n u) (hn : n ≤ m) : Le m u := ⟨Nat.le_trans h.1 hn, Nat.le_trans h.2 hn⟩
theorem uni_mod {t : Bool} (k : Int) : uni t (k % (num t : Int)) = uni t k := uni_congr (Int.emod_emod_of_dvd _ (Int.dvd_refl _))
theorem small_mod {t : Bool} (k : Int) : isIntV (.int (k % (num t : Int))) = true := by
  have h1 := Int.emod_nonneg k (Int.ne_of_gt (num_pos (t := t)))
  have h2 := Int.emod_lt_of_pos k (num_pos (t := t))
  have h3 : num t ≤ 6 := by cases t <;> decide
  refine short_of (Nat.le_trans (show _ ≤ 6 by omega) (by decide))
theorem num_small {t : Bool} : ((num t : Nat) : Int) < 2 ^ 63 := by cases t <;> decide
theorem num_ok {t : Bool} : isIntV (.int (num t : Nat)) = true := by cases t <;> exact short_of (by decide)
theorem half_ok {t : Bool} : isIntV (.int ((num t : Int) / 2)) = true := by cases t <;> exact short_of (by decide)
/-! ### all pairs of pairs of directions -/
theorem alt_fin4 : ∀ a b c d : Fin 4, (let D := doAlt 4 ((a.val : Int), (b.val : Int)) ((c.val : Int), (d.val : Int))
    alt false ((a.val : Int), (b.val : Int)) ((c.val : Int), (d.val : Int)) = D ∧ alt false ((c.val : Int), (d.val : Int)) ((a.val : Int), (b.val : Int)) = D ∧ alt false ((b.val : Int), (a.val : Int)) ((c.val : Int), (d.val : Int)) = D ∧
    alt false (0 - (a.val : Int), 0 - (b.val : Int)) (0 - (c.val : Int), 0 - (d.val : Int)) = D) := by decide +kernel
theorem alt_fin6 : ∀ a b c d : Fin 6, (let D := doAlt 6 ((a.val : Int), (b.val : Int)) ((c.val : Int), (d.val : Int))
    alt true ((a.val : Int), (b.val : Int)) ((c.val : Int), (d.val : Int)) = D ∧ alt true ((c.val : Int), (d.val : Int)) ((a.val : Int), (b.val : Int)) = D ∧ alt true ((b.val : Int), (a.val : Int)) ((c.val : Int), (d.val : Int)) = D ∧
    alt true (0 - (a.val : Int), 0 - (b.val : Int)) (0 - (c.val : Int), 0 - (d.val : Int)) = D) := by decide +kernel
theorem alt_four {t : Bool} {a b c d : Int} (ha : 0 ≤ a ∧ a < (num t : Int)) (hb : 0 ≤ b ∧ b < (num t : Int)) (hc : 0 ≤ c ∧ c < (num t : Int)) (hd : 0 ≤ d ∧ d < (num t : Int)) :
    alt t (a, b) (c, d) = doAlt (num t) (a, b) (c, d) ∧ alt t (c, d) (a, b) = doAlt (num t) (a, b) (c, d) ∧ alt t (b, a) (c, d) = doAlt (num t) (a, b) (c, d) ∧ alt t (0 - a, 0 - b) (0 - c, 0 - d) = doAlt (num t) (a, b) (c, d) := by
  obtain ⟨a, rfl⟩ : ∃ n : Nat, a = (n : Int) := ⟨a.toNat, by omega⟩
  obtain ⟨b, rfl⟩ : ∃ n : Nat, b = (n : Int) := ⟨b.toNat, by omega⟩
  obtain ⟨c, rfl⟩ : ∃ n : Nat, c = (n : Int) := ⟨c.toNat, by omega⟩
  obtain ⟨d, rfl⟩ : ∃ n : Nat, d = (n : Int) := ⟨d.toNat, by omega⟩
  cases t
  · exact alt_fin4 ⟨a, Int.ofNat_lt.mp ha.2⟩ ⟨b, Int.ofNat_lt.mp hb.2⟩ ⟨c, Int.ofNat_lt.mp hc.2⟩ ⟨d, Int.ofNat_lt.mp hd.2⟩
  · exact alt_fin6 ⟨a, Int.ofNat_lt.mp ha.2⟩ ⟨b, Int.ofNat_lt.mp hb.2⟩ ⟨c, Int.ofNat_lt.mp hc.2⟩ ⟨d, Int.ofNat_lt.mp hd.2⟩
theorem alt_next {t : Bool} {a b c d : Int} : alt t (a + 1, b + 1) (c + 1, d + 1) = alt t (a, b) (c, d) := by
  unfold alt
  rw [show b + 1 - (a + 1) = b - a by omega, show c + 1 - (a + 1) = c - a by omega, show d + 1 - (a + 1) = d - a by omega]
theorem alt_far {t : Bool} {a b c d s : Int} (hs : s % (num t : Int) = 0) : alt t (a + s, b) (c, d - (num t : Nat)) = alt t (a, b) (c, d) := by
  unfold alt
  have e1 : (b - (a + s)) % (num t : Int) = (b - a) % (num t : Int) := by cases t <;> (simp only [num] at hs ⊢; omega)
  have e2 : (c - (a + s)) % (num t : Int) = (c - a) % (num t : Int) := by cases t <;> (simp only [num] at hs ⊢; omega)
  have e3 : (d - (num t : Nat) - (a + s)) % (num t : Int) = (d - a) % (num t : Int) := by cases t <;> (simp only [num] at hs ⊢; omega)
  simp only [e1, e2, e3]
theorem b6_ok (x : Bool) : (bls [x, x, x, x, x, x]).showable = true ∧ (bls [x, x, x, x, x, x]).hasDict = false ∧ (bls [x, x, x, x, x, x]).depth ≤ 20 ∧ (bls [x, x, x, x, x, x]).shown.length ≤ sizeLine := by
  cases x <;> exact ⟨by decide +kernel, by decide +kernel, by decide +kernel, by decide +kernel⟩
theorem sub_mod (n : Int) {m : Int} (h : 0 < m) : (n - n % m) % m = 0 := by
  rw [Int.sub_emod, Int.emod_emod_of_dvd _ (Int.dvd_refl _), Int.sub_self, Int.zero_emod]
theorem sub_small (n : Int) {m : Int} (h : 0 < m) (h6 : m ≤ 6) (hn : (if n < 0 then -n else n) < (10 : Int) ^ (50 : Int).toNat * (10 : Int) ^ (50 : Int).toNat) : (n - n % m).natAbs ≤ 10 ^ 101 := by
  have h1 := Int.emod_nonneg n (Int.ne_of_gt h)
  have h2 := Int.emod_lt_of_pos n h
  have e : (10 : Int) ^ (50 : Int).toNat * (10 : Int) ^ (50 : Int).toNat = ((10 ^ 100 : Nat) : Int) := by decide +kernel
  rw [e] at hn
  have b : (10 ^ 100 : Nat) + 6 ≤ 10 ^ 101 := by decide +kernel
  generalize (10 ^ 100 : Nat) = N at *
  generalize (10 ^ 101 : Nat) = M at *
  split at hn <;> omega
theorem far_ok {x s : Int} (hs : s.natAbs ≤ 10 ^ 101) (hx : x.natAbs ≤ 10) : isIntV (.int (x + s)) = true := by
  rw [int_short]
  refine decide_eq_true (Nat.lt_of_le_of_lt (show _ ≤ 10 ^ 101 + 10 by generalize (10 ^ 101 : Nat) = M at *; omega) (by decide +kernel))
theorem same_made {H H3 : Hp} {x dx : Addr} {o1 o2 : HO} (hx : H x = none) (hdx : H dx = none) (hk : ∀ b, b ≠ x → H3 b = upd (upd H dx o1) x o2 b) : Same H H3 := by
  intro b o e
  have n1 := ne_of_none e hx
  have n2 := ne_of_none e hdx
  rw [hk b n1, upd_ne n1, upd_ne n2]
  exact e
end GL
/-! repr of lists and tuples of ints that have up to 4300 digits -/
namespace GL
open PySem PySem.Spec PyProof.Rows L2
def Big (i : Int) : Prop := i.natAbs < 10 ^ 4300
section
variable {prog : Program} {w : World} {h₀ : Heap}
theorem big_call {A : Around} {E : Value → Shared → Prop} {s : Shared} {Q : Value → Shared → Prop} {i : Int} {t : Tok} (nd : s.heap.NoDigits) (hi : Big i) (h : Q (.str (toString i) s.toks) { s with toks := s.toks + 1 }) :
    wpAny (model prog w) A (call (.builtin "int.__repr__") [.int i t]) Q E s := by
  refine wpAny_call_entry F.slot_int_repr (typeIs_int s i t) F.entry_int_repr ?_ (F.args_int_repr_1 _)
  unfold Builtin.«int.__repr__»
  show wpAny (model prog w) _ (Builtin.overDigitLimit? i >>= _) _ _ s
  refine wpAny_bind (overDigitLimit_any nd (fun lt => ?_) (fun ge => absurd hi (Nat.not_lt.mpr ge)))
  exact wpAny_bind (wpAny_mkStr (wpAny_pure ⟨_, rfl, h⟩) (int_text_fits10 lt))
theorem big_leaf (nd : h₀.NoDigits) {i : Int} (t : Tok) (hi : Big i) (as : List Addr) (d : Nat) : ReprK prog w as h₀ d (.int i t) (toString i) := by
  intro base hb A g E s Q hg hcl hu hk hQ
  have hb' : base ≤ sizeLine := Nat.le_trans (Nat.le_add_right _ _) hb
  rw [pyReprUnder_leaf (v := Value.int i t) hb' (fun _ z => by cases z)]
  unfold pyRepr
  refine wpAny_bind (wpAny_pyReprObj_slot (Nat.lt_of_le_of_lt (Nat.le_add_right _ _) hu) (typeIs_int s i t) F.slot_int_repr.toG (big_call (nd.keeps hk) hi ⟨_, _, rfl, ?_⟩))
  exact wpAny_pure (hQ s.heap _ fun _ _ e => e)
/-- ints alone -/
def BigInts (ds : List PyData) : Prop := ∀ d ∈ ds, ∃ i, d = .int i ∧ Big i
theorem int_at {v : Value} {i : Int} {as : List Addr} (r : Reads h₀ v (.int i) as) : ∃ t, v = .int i t := by
  cases r
  exact ⟨_, rfl⟩
theorem big_ints (nd : h₀.NoDigits) (as : List Addr) (n : Nat) : ∀ {vs : List Value} {ds : List PyData} {bs : List Addr}, ReadsAll h₀ vs ds bs → BigInts ds → ReprAllK prog w as h₀ n vs (PyData.shownAll ds)
  | _, _, _, .nil, _ => by simp only [PyData.shownAll]; exact .nil
  | _, _, _, .cons (d := d) r rs, h => by
    obtain ⟨i, e, hi⟩ := h d (List.mem_cons_self ..)
    subst e
    obtain ⟨t, e⟩ := int_at r
    subst e
    simp only [PyData.shownAll, PyData.shown]
    exact .cons (big_leaf nd t hi as n) (big_ints nd as n rs (fun d hd => h d (List.mem_cons_of_mem _ hd)))
/-- an int, or a tuple of ints -/
inductive BigItem : PyData → Prop where
  | int {i : Int} : Big i → BigItem (.int i)
  | tup {xs : List PyData} : BigInts xs → BigItem (.tuple xs)
theorem depth_ints : ∀ {ds : List PyData}, BigInts ds → PyData.depthAll ds ≤ 0
  | [], _ => by simp [PyData.depthAll]
  | d :: r, h => by
    obtain ⟨i, e, _⟩ := h d (List.mem_cons_self ..)
    subst e
    have := depth_ints (ds := r) (fun d hd => h d (List.mem_cons_of_mem _ hd))
    simp only [PyData.depthAll, PyData.depth]
    omega
theorem big_item (nd : h₀.NoDigits) {v : Value} {d : PyData} {as : List Addr} (r : Reads h₀ v d as) (h : BigItem d) : ∃ bs, ReadAtMost h₀ 1 bs ∧ ReprK prog w bs h₀ 2 v d.shown := by
  cases h with
  | @int i hi =>
    obtain ⟨t, e⟩ := int_at r
    subst e
    exact ⟨[], (fun _ z => by cases z), by simp only [PyData.shown]; exact big_leaf nd t hi [] 2⟩
  | @tup xs hx =>
    have dp := depth_ints hx
    cases r with
    | tuple h1 h2 h3 h4 =>
      rename_i a o vs n
      have k := big_ints (prog := prog) (w := w) nd [] 1 h4 hx
      refine ⟨[a], fun b hb => ?_, ?_⟩
      · rw [List.mem_singleton.mp hb]
        exact ⟨_, _, .tuple h1 h2 h3 h4, by simp only [PyData.depth]; omega⟩
      · simp only [PyData.shown]
        exact ReprK.tuple h1 h2 h3 (fun z => by cases z) k
theorem big_items (nd : h₀.NoDigits) : ∀ {vs : List Value} {ds : List PyData} {bs : List Addr}, ReadsAll h₀ vs ds bs → (∀ d ∈ ds, BigItem d) → ∃ cs, ReadAtMost h₀ 1 cs ∧ ReprAllK prog w cs h₀ 2 vs (PyData.shownAll ds)
  | _, _, _, .nil, _ => ⟨[], (fun _ z => by cases z), by simp only [PyData.shownAll]; exact .nil⟩
  | _, _, _, .cons (d := d) r rs, h => by
    obtain ⟨c1, m1, k1⟩ := big_item (prog := prog) (w := w) nd r (h d (List.mem_cons_self ..))
    obtain ⟨c2, m2, k2⟩ := big_items nd rs (fun d hd => h d (List.mem_cons_of_mem _ hd))
    refine ⟨c1 ++ c2, fun b hb => (List.mem_append.mp hb).elim (m1 b) (m2 b), ?_⟩
    simp only [PyData.shownAll]
    exact .cons (k1.more fun b hb => List.mem_append_left _ hb) (k2.more_le (fun b hb => List.mem_append_right _ hb) (Nat.le_refl _))
theorem depth_items : ∀ {ds : List PyData}, (∀ d ∈ ds, BigItem d) → PyData.depthAll ds ≤ 1
  | [], _ => by simp [PyData.depthAll]
  | d :: r, h => by
    have h2 := depth_items (ds := r) (fun d hd => h d (List.mem_cons_of_mem _ hd))
    have h1 : d.depth ≤ 1 := by
      cases h d (List.mem_cons_self ..) with
      | int _ => simp [PyData.depth]
      | tup hx => have := depth_ints hx; simp only [PyData.depth]; omega
    simp only [PyData.depthAll]
    omega
/-- repr of a list that is not empty -/
theorem repr_big {A : Around} {E : Value → Shared → Prop} {s : Shared} {Q : Value → Shared → Prop} {a : Addr} {ds : List PyData} {as : List Addr} (nd : s.heap.NoDigits) (r : Reads s.heap (.ref a) (.list ds) as) (h : ∀ d ∈ ds, BigItem d) (ne : ds ≠ [])
    (hg : A.guards = some []) (hu : A.units + 10 < cLine) (hz : (PyData.shown (.list ds)).length ≤ sizeLine) (dp : 1 < (PyData.list ds).depth)
    (hQ : ∀ h' u tk, (∀ b o, s.heap.get? b = some o → h'.get? b = some o) → Q (.str (PyData.shown (.list ds)) u) { s with heap := h', toks := tk }) : wpAny (model prog w) A (call (.builtin "repr") [.ref a]) Q E s := by
  cases r with
  | list h1 h2 h3 h4 =>
    rename_i o vs n bs₀
    obtain ⟨cs, m, k⟩ := big_items (prog := prog) (w := w) nd h4 h
    obtain ⟨l⟩ := vs
    cases l with
    | nil =>
      have h4' : ReadsAll s.heap [] ds _ := h4
      cases h4'
      exact absurd rfl ne
    | cons x l =>
      refine call_repr_slot (by omega) (T := "list") (idr := "list.__repr__") ⟨o, h1, h2⟩ F.slot_list_repr.toG ?_
      simp only [PyData.shown] at hQ hz
      exact call_list_reprK h1 h2 h3 (not_mem_of_deeper (.list h1 h2 h3 h4) dp m) (by simpa using k.length_eq) (fun i y e => k.item i y (by simpa using e)) hg (fun b _ => Clear.nil b) (by show A.units + 1 + 3 < cLine; omega) (fun _ _ e => e) (fun h' u tk hk => ⟨_, _, rfl, hQ h' u tk hk⟩) hz
end
theorem ns_none {K : PySem.W.Frag} {h : Heap} {m : Str → Option Value} {a : Addr} {n : Str} (X : K.In h) (G : h.Ns a m) (e : PySem.W.nsIn K a n = some none) : m n = none := by
  obtain ⟨ob, es, ep, here, isDict, _, get⟩ := G
  rw [← get]
  unfold PySem.W.nsIn at e
  split at e
  case h_1 q =>
    cases (X _ _ q).symm.trans here
    cases isDict
    split at e
    case h_1 => cases e
    case h_2 no => unfold nsFind findBy; simp only [← Array.find?_toList, no]; rfl
  case h_2 => cases e
theorem big_base {X : Cx} {pins : List (Addr × Obj)} {σ : L2.St} {H : Hp} {s : Shared} (dig : PySem.W.nsIn X.K cStatics "sys.int_max_str_digits" = some none) (I : Inv X pins σ H s) : s.heap.NoDigits := by
  obtain ⟨mc, hns, _⟩ := I.nolimit
  exact ⟨mc, hns, ns_none I.kIn hns dig⟩
def rReprBig (K : PySem.W.Frag) : List V → Hp → VK → Prop := fun xs H Q => ∃ a ds, xs = [.ref a] ∧ Dp K H (.ref a) (.list ds) ∧ (∀ d ∈ ds, BigItem d) ∧ ds ≠ [] ∧ 1 < (PyData.list ds).depth ∧ (PyData.shown (.list ds)).length ≤ sizeLine ∧ Q (.str (PyData.shown (.list ds))) H
theorem call_reprBig {X : Cx} (dig : PySem.W.nsIn X.K cStatics "sys.int_max_str_digits" = some none) (hg : Gd X.A) (hu : X.A.units + 64 < cLine) : CallR X (.builtin "repr") (rReprBig X.K) := by
  intro pins s σ H xs us Q I r h
  obtain ⟨a, ds, rfl, hd, hb, ne, dp, hz, q⟩ := h
  obtain ⟨u, rfl, r1⟩ := vals1 r
  cases (show u = Value.ref a from r1)
  obtain ⟨as, hr⟩ := Dp.reads I (.list ds) (.ref a) (.ref a) hd rfl
  exact repr_big (big_base dig I) hr hb ne hg (by omega) hz dp (fun h' u tk hk => ⟨.str _, H, I.kept hk, ⟨_, rfl⟩, q⟩)
/-! ### how long the text of such a list is -/
end GL
namespace GL
open PySem PySem.Spec PyProof.Rows L2
/-! ### products and quotients -/
section
variable {t : Bool} {u v f q z : Int × Int} {a b : Int}
theorem mul_comm' : mul t u v = mul t v u := by
  obtain ⟨x, y⟩ := u
  obtain ⟨z, w⟩ := v
  cases t <;> (refine Prod.ext ?_ ?_ <;> simp [mul, sl] <;> grind)
theorem mul_assoc' : mul t (mul t u v) z = mul t u (mul t v z) := by
  obtain ⟨x, y⟩ := u
  obtain ⟨x1, y1⟩ := v
  obtain ⟨x2, y2⟩ := z
  cases t <;> (refine Prod.ext ?_ ?_ <;> simp [mul, sl] <;> grind)
def padd (u v : Int × Int) : Int × Int := (u.1 + v.1, u.2 + v.2)
theorem mul_add' : mul t (padd u v) z = padd (mul t u z) (mul t v z) := by
  obtain ⟨x, y⟩ := u
  obtain ⟨x1, y1⟩ := v
  obtain ⟨x2, y2⟩ := z
  cases t <;> (refine Prod.ext ?_ ?_ <;> simp [mul, sl, padd] <;> grind)
theorem nrm_mul : nrm t (mul t u v) = nrm t u * nrm t v := by
  obtain ⟨x, y⟩ := u
  obtain ⟨z, w⟩ := v
  cases t <;> (simp [mul, sl, nrm] <;> grind)
theorem flip_flip : flip t (flip t u) = u := by
  obtain ⟨x, y⟩ := u
  cases t <;> (refine Prod.ext ?_ ?_ <;> simp [flip, sl] <;> grind)
theorem mul_flip : mul t u (flip t u) = (nrm t u, 0) := by
  obtain ⟨x, y⟩ := u
  cases t <;> (refine Prod.ext ?_ ?_ <;> simp [flip, sl, mul, nrm] <;> grind)
theorem flip_mul : flip t (mul t u v) = mul t (flip t u) (flip t v) := by
  obtain ⟨x, y⟩ := u
  obtain ⟨z, w⟩ := v
  cases t <;> (refine Prod.ext ?_ ?_ <;> simp [flip, sl, mul] <;> grind)
def low (t : Bool) (u v : Int × Int) : Int × Int := mul t u (flip t v)
theorem low_of (h : mul t f v = u) : low t u v = (f.1 * nrm t v, f.2 * nrm t v) := by
  subst h
  obtain ⟨x, y⟩ := f
  obtain ⟨z, w⟩ := v
  cases t <;> (refine Prod.ext ?_ ?_ <;> simp [low, flip, sl, mul, nrm] <;> grind)
theorem of_low (hn : nrm t v ≠ 0) (h : low t u v = (f.1 * nrm t v, f.2 * nrm t v)) : mul t f v = u := by
  have e : mul t (low t u v) v = (u.1 * nrm t v, u.2 * nrm t v) := by
    obtain ⟨x, y⟩ := u
    obtain ⟨z, w⟩ := v
    cases t <;> (refine Prod.ext ?_ ?_ <;> simp [low, flip, sl, mul, nrm] <;> grind)
  have e2 : mul t (f.1 * nrm t v, f.2 * nrm t v) v = ((mul t f v).1 * nrm t v, (mul t f v).2 * nrm t v) := by
    generalize nrm t v = n
    obtain ⟨x, y⟩ := f
    obtain ⟨z, w⟩ := v
    cases t <;> (refine Prod.ext ?_ ?_ <;> simp [sl, mul] <;> grind)
  rw [h, e2] at e
  have e3 := congrArg Prod.fst e
  have e4 := congrArg Prod.snd e
  exact Prod.ext (Int.eq_of_mul_eq_mul_right hn e3) (Int.eq_of_mul_eq_mul_right hn e4)
def quo (t : Bool) (u v : Int × Int) : Option (Int × Int) := if (low t u v).1 % nrm t v = 0 ∧ (low t u v).2 % nrm t v = 0 then some ((low t u v).1 / nrm t v, (low t u v).2 / nrm t v) else none
theorem mul_div {r n : Int} (h : r % n = 0) : r = r / n * n := by
  have := Int.mul_ediv_add_emod r n
  rw [h, Int.add_zero, Int.mul_comm] at this
  exact this.symm
theorem quo_some (hn : 0 < nrm t v) (h : quo t u v = some q) : mul t q v = u := by
  unfold quo at h
  split at h
  case isTrue c =>
    cases h
    exact of_low (Int.ne_of_gt hn) (Prod.ext (mul_div c.1) (mul_div c.2))
  case isFalse c => cases h
theorem quo_of (hn : 0 < nrm t v) (h : mul t f v = u) : quo t u v = some f := by
  have e := low_of h
  have n0 := Int.ne_of_gt hn
  unfold quo
  rw [e]
  simp only
  rw [Int.mul_emod_left, Int.mul_emod_left, if_pos ⟨rfl, rfl⟩, Int.mul_ediv_cancel _ n0, Int.mul_ediv_cancel _ n0]
/-- only the first of the four places can be it -/
theorem quo_near (hn : 0 < nrm t v) {i j : Int} (hi : 0 ≤ i ∧ i < 2) (hj : 0 ≤ j ∧ j < 2) (h : mul t ((low t u v).1 / nrm t v + i, (low t u v).2 / nrm t v + j) v = u) : i = 0 ∧ j = 0 := by
  have e := low_of h
  have e1 := congrArg Prod.fst e
  have e2 := congrArg Prod.snd e
  simp only at e1 e2
  generalize nrm t v = n at *
  have d1 := Int.mul_ediv_cancel ((low t u v).1 / n + i) (Int.ne_of_gt hn)
  have d2 := Int.mul_ediv_cancel ((low t u v).2 / n + j) (Int.ne_of_gt hn)
  rw [← e1] at d1
  rw [← e2] at d2
  omega
theorem nrm_fin : ∀ (t : Bool) (a b : Fin 41), ¬ (a.val = 20 ∧ b.val = 20) → 0 < nrm t ((a.val : Int) - 20, (b.val : Int) - 20) := by decide +kernel
theorem nrm_pos (h : Le 20 v) (h0 : v ≠ (0, 0)) : 0 < nrm t v := by
  obtain ⟨x, y⟩ := v
  obtain ⟨h1, h2⟩ : x.natAbs ≤ 20 ∧ y.natAbs ≤ 20 := h
  have z := nrm_fin t ⟨(x + 20).toNat, by omega⟩ ⟨(y + 20).toNat, by omega⟩ (fun c => h0 (by have c1 : (x + 20).toNat = 20 := c.1; have c2 : (y + 20).toNat = 20 := c.2; exact Prod.ext (by show x = 0; omega) (by show y = 0; omega)))
  have e1 : (((x + 20).toNat : Nat) : Int) - 20 = x := by omega
  have e2 : (((y + 20).toNat : Nat) : Int) - 20 = y := by omega
  simp only [e1, e2] at z
  exact z
end
/-! ### promises -/
theorem natAbs_mul_le {x y : Int} {m n : Nat} (hx : x.natAbs ≤ m) (hy : y.natAbs ≤ n) : (x * y).natAbs ≤ m * n := by rw [Int.natAbs_mul]; exact Nat.mul_le_mul hx hy
theorem Le.mul {t : Bool} {u v : Int × Int} {m n : Nat} (hu : Le m u) (hv : Le n v) : Le (3 * (m * n)) (mul t u v) := by
  have a1 := natAbs_mul_le hu.1 hv.1
  have a2 := natAbs_mul_le hu.2 hv.2
  have a3 := natAbs_mul_le hu.1 hv.2
  have a4 := natAbs_mul_le hu.2 hv.1
  obtain ⟨x, y⟩ := u
  obtain ⟨z, w⟩ := v
  simp only at a1 a2 a3 a4
  generalize m * n = k at *
  generalize e1 : x * z = p1 at *
  generalize e2 : y * w = p2 at *
  generalize e3 : x * w = p3 at *
  generalize e4 : y * z = p4 at *
  cases t <;> (refine ⟨?_, ?_⟩ <;> simp [GL.mul, sl, e1, e2, e3, e4] <;> omega)
theorem Le.nrm {t : Bool} {u : Int × Int} {m : Nat} (hu : Le m u) : (nrm t u).natAbs ≤ 3 * (m * m) := by
  have a1 := natAbs_mul_le hu.1 hu.1
  have a2 := natAbs_mul_le hu.2 hu.2
  have a3 := natAbs_mul_le hu.1 hu.2
  obtain ⟨x, y⟩ := u
  simp only at a1 a2 a3
  generalize m * m = k at *
  generalize e1 : x * x = p1 at *
  generalize e2 : y * y = p2 at *
  generalize e3 : x * y = p3 at *
  cases t <;> (simp [GL.nrm, sl, e1, e2, e3] <;> omega)
def spMProd (K : PySem.W.Frag) (C : Addr) (U : Bool → Addr) : Sp := fun vs H Q _ => ∃ g t a b u v, vs = [.ref g, .ref a, .ref b] ∧ GridAt C U H g t ∧ PAt K H a u ∧ PAt K H b v ∧ ptOk u ∧ ptOk v ∧ ∀ p, H p = none → Q (.ref p) (upd H p (.tup [.int (mul t u v).1, .int (mul t u v).2]))
/-- what stands for a quotient -/
def QAt (K : PySem.W.Frag) (H : Hp) (r : Option (Int × Int)) (x : V) : Prop := match r with | none => x = .non | some q => ∃ p, x = .ref p ∧ PAt K H p q
theorem QAt.same {K : PySem.W.Frag} {H H' : Hp} {r : Option (Int × Int)} {x : V} (h : QAt K H r x) (s : Same H H') : QAt K H' r x := by
  cases r with
  | none => exact h
  | some q => obtain ⟨p, e, hp⟩ := h; exact ⟨p, e, hp.same s⟩
def spDiv (K : PySem.W.Frag) (C : Addr) (U : Bool → Addr) : Sp := fun vs H Q _ => ∃ g t a b u v, vs = [.ref g, .ref a, .ref b] ∧ GridAt C U H g t ∧ PAt K H a u ∧ PAt K H b v ∧ Le (10 ^ 6) u ∧ Le (10 ^ 3) v ∧ 0 < nrm t v ∧ ∀ x H', Same H H' → QAt K H' (quo t u v) x → Q x H'
def spPlus (K : PySem.W.Frag) : Sp := fun vs H Q _ => ∃ a b u v, vs = [.ref a, .ref b] ∧ PAt K H a u ∧ PAt K H b v ∧ ∀ p, H p = none → Q (.ref p) (upd H p (.tup [.int (padd u v).1, .int (padd u v).2]))
def spNormL (K : PySem.W.Frag) : Sp := fun vs H Q _ => ∃ q t a u, vs = [.ref q, .ref a] ∧ PlainAt H q t ∧ PAt K H a u ∧ Sm u ∧ Q (.int (nrm t u)) H
def spFlipL (K : PySem.W.Frag) : Sp := fun vs H Q _ => ∃ q t a u, vs = [.ref q, .ref a] ∧ PlainAt H q t ∧ PAt K H a u ∧ ∀ p, H p = none → Q (.ref p) (upd H p (.tup [.int (flip t u).1, .int (flip t u).2]))
def spPlace (K : PySem.W.Frag) : Sp := fun vs H Q _ => ∃ p, vs = [.ref p] ∧ Die H p ∧ ∀ a u H', ptOk u → PAt K H' a u → Got p H H' → Q (.ref a) H'
def spSmall (K : PySem.W.Frag) : Sp := fun vs H Q _ => ∃ p, vs = [.ref p] ∧ Die H p ∧ ∀ a u H', Le 20 u → PAt K H' a u → Got p H H' → Q (.ref a) H'
def spParts (K : PySem.W.Frag) (C : Addr) (U : Bool → Addr) : Sp := fun vs H Q _ => ∃ q g t a b u v, vs = [.ref q, .ref g, .ref a, .ref b] ∧ PlainAt H q t ∧ GridAt C U H g t ∧ PAt K H a u ∧ PAt K H b v ∧ ptOk u ∧ ptOk v ∧ ∀ H', Same H H' → Q (.bl true) H'
/-! ### the list that is shown -/
def bigD (t : Bool) (u v : Int × Int) : List PyData := [ptD (mul t u v), ptD (mul t u v), .int (nrm t u), ptD (flip t u)]
theorem ptOk_le {u : Int × Int} (h : ptOk u) : Le (10 ^ 400) u := by
  obtain ⟨h1, h2⟩ := h
  rw [int_short] at h1 h2
  exact ⟨Nat.le_of_lt (of_decide_eq_true h1), Nat.le_of_lt (of_decide_eq_true h2)⟩
theorem big_of {x : Int} (h : x.natAbs ≤ 3 * (10 ^ 400 * 10 ^ 400)) : Big x := Nat.lt_of_le_of_lt h (by decide +kernel)
theorem big_pt {w : Int × Int} (h : Le (3 * (10 ^ 400 * 10 ^ 400)) w) : BigItem (ptD w) := .tup (by
  intro d hd
  simp only [List.mem_cons, List.not_mem_nil, or_false] at hd
  rcases hd with rfl | rfl
  · exact ⟨_, rfl, big_of h.1⟩
  · exact ⟨_, rfl, big_of h.2⟩)
theorem big_short {x : Int} (h : Big x) : (PyData.shown (.int x)).length ≤ 4301 := by
  have e := int_text_length_le10 (k := 4300) (by decide) h
  show (Str.ofString (toString x)).length ≤ 4301
  rw [PySem.ofString_length]
  exact e
theorem bigD_ok {t : Bool} {u v : Int × Int} (ou : ptOk u) (ov : ptOk v) : (∀ d ∈ bigD t u v, BigItem d) ∧ bigD t u v ≠ [] ∧ 1 < (PyData.list (bigD t u v)).depth ∧ (PyData.shown (.list (bigD t u v))).length ≤ sizeLine := by
  have lu := ptOk_le ou
  have lv := ptOk_le ov
  have lm : Le (3 * (10 ^ 400 * 10 ^ 400)) (mul t u v) := lu.mul lv
  have lf : Le (3 * (10 ^ 400 * 10 ^ 400)) (flip t u) := (lu.flip).mono (by decide +kernel)
  have ln : (nrm t u).natAbs ≤ 3 * (10 ^ 400 * 10 ^ 400) := lu.nrm
  refine ⟨fun d hd => ?_, (fun z => by cases z), ?_, ?_⟩
  · simp only [bigD, List.mem_cons, List.not_mem_nil, or_false] at hd
    rcases hd with rfl | rfl | rfl | rfl
    · exact big_pt lm
    · exact big_pt lm
    · exact .int (big_of ln)
    · exact big_pt lf
  · simp [bigD, ptD, PyData.depth, PyData.depthAll]
  · have z := PyData.shown_le_bulk 4301 (by decide) (.list (bigD t u v)) (by
      simp only [bigD, ptD, PyData.leavesShort, PyData.leavesShortAll, Bool.and_eq_true, Bool.and_true, decide_eq_true_eq]
      exact ⟨⟨big_short (big_of lm.1), big_short (big_of lm.2)⟩, ⟨big_short (big_of lm.1), big_short (big_of lm.2)⟩, big_short (big_of ln), big_short (big_of lf.1), big_short (big_of lf.2)⟩)
    refine Nat.le_trans z ?_
    simp [bigD, ptD, PyData.bulk, PyData.bulkAll]
    decide
theorem max_small {x y : Int} (h : ¬ (decide ((10 : Int) ^ (60 : Int).toNat < if (if y < 0 then -y else y) > (if x < 0 then -x else x) then (if y < 0 then -y else y) else (if x < 0 then -x else x)) = true)) : x.natAbs ≤ 10 ^ 60 ∧ y.natAbs ≤ 10 ^ 60 := by
  have h2 := of_decide_eq_false (Bool.not_eq_true _ ▸ h)
  have e : (10 : Int) ^ (60 : Int).toNat = ((10 ^ 60 : Nat) : Int) := by decide +kernel
  rw [e] at h2
  generalize (10 ^ 60 : Nat) = N at *
  omega
theorem Le.ok60 {u : Int × Int} {n : Nat} (h : Le n u) (hn : n ≤ 10 ^ 399) : ptOk u := by
  have b : (10 ^ 399 : Nat) < 10 ^ 400 := by decide +kernel
  exact ⟨by rw [int_short]; exact decide_eq_true (Nat.lt_of_le_of_lt (Nat.le_trans h.1 hn) b), by rw [int_short]; exact decide_eq_true (Nat.lt_of_le_of_lt (Nat.le_trans h.2 hn) b)⟩
def qD : Option (Int × Int) → PyData | none => .none | some q => ptD q
theorem qD_at {K : PySem.W.Frag} {H : Hp} {r : Option (Int × Int)} {x : V} (h : QAt K H r x) : Dp K H x (qD r) := by
  cases r with
  | none => rw [show x = V.non from h]; exact .non
  | some q => obtain ⟨p, rfl, hp⟩ := h; exact ptD_at hp
theorem int_shown6 {x : Int} (h : x.natAbs ≤ 10 ^ 6) : (PyData.shown (.int x)).length ≤ 13 := by
  have e := int_text_length_le10 (a := x) (k := 7) (by decide) (Nat.lt_of_le_of_lt h (by decide))
  show (Str.ofString (toString x)).length ≤ 13
  rw [PySem.ofString_length]
  exact Nat.le_trans e (by decide)
theorem qD_ok {r : Option (Int × Int)} (h : ∀ q, r = some q → Le (10 ^ 6) q) : (qD r).showable = true ∧ (qD r).hasDict = false ∧ (qD r).depth ≤ 20 ∧ (qD r).shown.length ≤ sizeLine := by
  cases r with
  | none => exact ⟨by decide +kernel, by decide +kernel, by decide +kernel, by decide +kernel⟩
  | some u =>
    have h := h u rfl
    have sh : ∀ {x : Int}, x.natAbs ≤ 10 ^ 6 → x.natAbs.log2 < 1920 := fun {x} h => Nat.lt_of_lt_of_le (PySem.Flt.log2_lt_of (show 0 < 20 by decide) (Nat.lt_of_le_of_lt h (show 10 ^ 6 < 2 ^ 20 by decide))) (by decide)
    have z := PyData.shown_le_bulk 13 (by decide) (ptD u) (by
      simp only [ptD, PyData.leavesShort, PyData.leavesShortAll, Bool.and_eq_true, Bool.and_true, decide_eq_true_eq]
      exact ⟨int_shown6 h.1, int_shown6 h.2⟩)
    refine ⟨?_, by simp [qD, ptD, PyData.hasDict, PyData.hasDictAll], by simp [qD, ptD, PyData.depth, PyData.depthAll], Nat.le_trans z (by simp [ptD, PyData.bulk, PyData.bulkAll]; decide)⟩
    simp only [qD, ptD, PyData.showable, PyData.showableAll, Bool.and_eq_true, Bool.and_true, decide_eq_true_eq]
    exact ⟨sh h.1, sh h.2⟩
def spQuots (C : Addr) (U : Bool → Addr) : Sp := fun vs H Q _ => ∃ p q g t, vs = [.ref p, .ref q, .ref g] ∧ Die H p ∧ PlainAt H q t ∧ GridAt C U H g t ∧ ∀ H', Got p H H' → Q (.bl true) H'
theorem quo_cases {t : Bool} {u v : Int × Int} : quo t u v = none ∨ quo t u v = some ((low t u v).1 / nrm t v, (low t u v).2 / nrm t v) := by
  unfold quo
  split
  · exact .inr rfl
  · exact .inl rfl
theorem div_small {a b : Int} {n : Nat} (h : a.natAbs ≤ n) : (a / b).natAbs ≤ n := Nat.le_trans (Int.natAbs_ediv_le_natAbs a b) h
end GL
/-! comparing instances of one class with an own == -/
namespace GL
open PySem PySem.Spec PyProof.Rows L2
section
variable {X : Cx} {CX : CXT} {k : Nat} {C : Addr} {sp : Sp} {E : XK}
theorem op_eqM (h : HasM X.prog X.w X.K X.mg X.base CX C "__eq__" k ["self", "other"] sp) (g : Gd X.A) (hr : Room k X.A) (hx : Passes CX X E) :
    OpR X (compareOp .Eq) (fun x y H Q => ∃ a b dx dy fs gs, x = .ref a ∧ y = .ref b ∧ H a = some (.ins C dx fs) ∧ H b = some (.ins C dy gs) ∧ sp [.ref a, .ref b] H (fun v H' => ∃ r, v = .bl r ∧ Q (.bl r) H') E) := by
  intro pins s σ H x y v u Q I rx ry hq
  obtain ⟨a, b, dx, dy, fs, gs, rfl, rfl, ha, hb, q⟩ := hq
  cases (show v = Value.ref a from rx)
  cases (show u = Value.ref b from ry)
  obtain ⟨f, fd, F, M, bi⟩ := h.ex
  obtain ⟨_, O1, _⟩ := ins_get I.hok ha
  obtain ⟨_, O2, _⟩ := ins_get I.hok hb
  obtain ⟨od, J, _⟩ := O1.look
  obtain ⟨od', J', _⟩ := O2.look
  obtain ⟨m', fr⟩ := I.fr
  have b1 := bi s [.ref a, .ref b] I.kIn rfl
  rw [List.append_nil] at b1
  show wpAny (model X.prog X.w) X.A (richCompare .Eq (.ref a) (.ref b)) (EP X pins σ Q) X.xe s
  refine PySem.W.cmp_K (op := .Eq) (tb := .ref C) (by have := hr.un; omega) fr I.mod.kin J J'.type (by simp [PySem.W.notFirst]) M.at_ M.fn ?_
  apply wpAny_call
  refine codeAny_mono (F.go g hr I.env0 b1 (vs := [.ref a, .ref b]) (.cons rfl (.cons rfl .nil)) q) (fun res s' z => ?_)
  match res, z with
  | .error _, z => exact hx pins σ H s _ s' I z
  | .ok (.ret _), z =>
    obtain ⟨v, H', I', rv, r, rfl, q2⟩ := I.after z
    cases (show _ = Value.bool r from rv)
    exact ⟨.bl r, H', I', rfl, q2⟩
end
end GL
/-! comparing an instance that has an own == with anything; str of an instance -/
namespace GL
open PySem PySem.Spec PyProof.Rows L2
section
variable {prog : Program} {w : World} {A : Around} {E : Value → Shared → Prop} {s : Shared} {K : PySem.W.Frag} {x C L f : Addr} {h₀ : Heap} {m : Str → Option Value} {ox : Obj} {od : Option Obj} {b tb : Value}
open PySem.W PySem.Calls Builtin in
theorem ne_own {Q : Value → Shared → Prop} (hu : A.units < cLine) (hu1 : A.in1.units < cLine) (F : Fr h₀ L s.heap m) (X₀ : K.In h₀) (I : InstAt s.heap x ox C od) (hb : Looks (model prog w) s.heap (typeOf b) tb) (hn : notFirst K C tb = true)
    (hs : findIn K (.ref C) "__eq__" = some (some (.ref f))) (hf : isFn K (.ref f) = true) (hne : findIn K (.ref C) "__ne__" = some (some (.builtin "object.__ne__"))) (hob : subIn K (.ref C) (.type "object") = some true)
    (h : wpAny (model prog w) A.in1 (call (.ref f) [.ref x, b]) (fun v s' => ∃ r, v = .bool r ∧ Q (.bool (!r)) s') E s) : wpAny (model prog w) A (richCompare .NotEq (.ref x) b) Q E s := by
  have X := X₀.keeps F.keep
  have isob : Looks (model prog w) s.heap (isInstance (.ref x) (.type "object")) true := I.type.andThen (looks_subIn X hob)
  have run : wpAny (model prog w) A (call (.builtin "object.__ne__") ([.ref x] ++ [b])) (fun v s' => ∃ r, v = .bool r ∧ Q (.bool r) s') E s := by
    refine wpAny_call (codeAny_call_builtin (by decide +kernel) PySem.F.cmpEntry_ne (check_slot PySem.F.cmpKind_ne PySem.F.cmpSplit_ne isob (PySem.F.cmpArgs_ne _ _) ?_))
    unfold Builtin.«object.__ne__»
    refine wpAny_bind (m := slotArgs "__ne__" 1 _) (wpAny_pure ?_)
    refine wpAny_bind (wpAny_cRoomFor hu1 ?_)
    refine wpAny_bind (m := callSpecialIfBound? (.ref x) (Str.ofString "__eq__") _) (ifBound_K X I hs hf (wpAny_mono h (fun v s' hv => ?_) fun _ _ e => e))
    obtain ⟨r, rfl, q⟩ := hv
    refine wpAny_bind (m := truthy (.bool r)) (wpAny_pure ?_)
    exact wpAny_pure ⟨!r, rfl, q⟩
  have one : wpAny (model prog w) A (tryCompare (.ref x) "__ne__" b) (fun r s' => ∃ v, r = some (.bool v) ∧ Q (.bool v) s') E s := by
    unfold tryCompare
    refine wpAny_bind ?_
    simp only [callSpecialIfBound?, bindSpecialIfBound?]
    refine wpAny_holding (wpAny_bind (wpAny_bind (wpAny_bind (I.type.here ((looks_findIn X hne).here ?_)))))
    have bd : bindSpecial (.builtin "object.__ne__") (.ref x) = pure (.builtin "object.__ne__", [.ref x]) := PySem.F.cmp_object.ne.bind _
    refine wpAny_bind (wpAny_askSetting (wpAny_ite ?_))
    have fin : wpAny (model prog w) A (call (.builtin "object.__ne__") ([.ref x] ++ [b]) >>= fun v => pure (some v)) (fun r s' => ∃ v, r = some (.bool v) ∧ Q (.bool v) s') E s :=
      wpAny_bind (wpAny_mono run (fun v s' h' => by obtain ⟨r, rfl, q⟩ := h'; exact wpAny_pure ⟨r, rfl, q⟩) fun _ _ h' => h')
    have fin2 : wpAny (model prog w) A (call (.builtin "object.__ne__") ([.ref x] ++ [b]) >>= fun v => pure (some v)) (fun r s' => wpAny (model prog w) A (match r with | some .notImplemented | none => pure none | some v => pure (some v)) (fun r s' => ∃ v, r = some (.bool v) ∧ Q (.bool v) s') E s') E s :=
      wpAny_mono fin (fun r s' h' => by obtain ⟨v, rfl, q⟩ := h'; exact wpAny_pure ⟨v, rfl, q⟩) fun _ _ e => e
    simp only [bd]
    split
    · exact wpAny_bind (wpAny_pure (wpAny_pure fin2))
    · exact wpAny_tryCatch (wpAny_bind (wpAny_pure (wpAny_pure fin2)))
  unfold richCompare
  simp only [oneThing_ref]
  refine wpAny_holding (wpAny_bind (wpAny_cRoomFor hu ?_))
  refine wpAny_bind (I.type.here (wpAny_bind (hb.here ?_)))
  have tail : wpAny (model prog w) A (do
      if let some v ← tryCompare (.ref x) "__ne__" b then return v
      if let some v ← tryCompare b "__ne__" (.ref x) then return v
      rule "compare.ne-identity"; return .bool (!(← isSame (.ref x) b))) Q E s := by
    refine wpAny_bind (wpAny_mono one (fun r s' z => ?_) fun _ _ e => e)
    obtain ⟨v, rfl, q⟩ := z
    exact wpAny_pure q
  split
  · rename_i q
    have e : subIn K tb (.ref C) = some false := by
      rcases Bool.or_eq_true_iff.mp hn with e | e
      · rw [beq_iff_eq.mp e] at q; simp at q
      · exact beq_iff_eq.mp e
    refine wpAny_bind ((looks_subIn X e).here ?_)
    exact tail
  · exact tail
end

section
variable {X : Cx} {CX : CXT} {k : Nat} {C : Addr} {sp : Sp} {E : XK}
/-- what of a class stands in the text, for its == and != -/
structure EqC (K : PySem.W.Frag) (C : Addr) : Prop where
  ne : PySem.W.findIn K (.ref C) "__ne__" = some (some (.builtin "object.__ne__"))
  ob : PySem.W.subIn K (.ref C) (.type "object") = some true
/-- x is an instance of C, y is of a type that is no subclass of C -/
def rEqA (K : PySem.W.Frag) (C : Addr) (sp : Sp) (E : XK) (neg : Bool) : R2 := fun x y H Q => ∃ a dx fs t, x = .ref a ∧ H a = some (.ins C dx fs) ∧ TyX K H y t ∧ PySem.W.notFirst K C t = true ∧
  sp [.ref a, y] H (fun v H' => ∃ r, v = .bl r ∧ Q (.bl (neg != r)) H') E
theorem op_eqA (h : HasM X.prog X.w X.K X.mg X.base CX C "__eq__" k ["self", "other"] sp) (g : Gd X.A) (hr : Room k X.A) (hx : Passes CX X E) :
    OpR X (compareOp .Eq) (rEqA X.K C sp E false) := by
  intro pins s σ H x y v u Q I rx ry hq
  obtain ⟨a, dx, fs, t, rfl, ha, ty, nf, q⟩ := hq
  cases (show v = Value.ref a from rx)
  obtain ⟨f, fd, F, M, bi⟩ := h.ex
  obtain ⟨_, O1, _⟩ := ins_get I.hok ha
  obtain ⟨od, J, _⟩ := O1.look
  obtain ⟨Z, KX, z, _⟩ := kit_of I ry ty
  obtain ⟨m', fr⟩ := I.fr
  have b1 := bi s [.ref a, u] I.kIn rfl
  rw [List.append_nil] at b1
  show wpAny (model X.prog X.w) X.A (richCompare .Eq (.ref a) u) (EP X pins σ Q) X.xe s
  refine PySem.W.cmp_K (op := .Eq) (tb := t) (by have := hr.un; omega) fr I.mod.kin J (KX.ty _ _ I.kIn z) nf M.at_ M.fn ?_
  apply wpAny_call
  refine codeAny_mono (F.go g hr I.env0 b1 (vs := [.ref a, y]) (.cons rfl (.cons ry .nil)) q) (fun res s' z => ?_)
  match res, z with
  | .error _, z => exact hx pins σ H s _ s' I z
  | .ok (.ret _), z =>
    obtain ⟨v, H', I', rv, r, rfl, q2⟩ := I.after z
    cases (show _ = Value.bool r from rv)
    exact ⟨.bl r, H', I', rfl, by simpa using q2⟩
theorem op_neA (h : HasM X.prog X.w X.K X.mg X.base CX C "__eq__" k ["self", "other"] sp) (e : EqC X.K C) (g : Gd X.A) (hr : Room (k + 1) X.A) (hx : Passes CX X E) :
    OpR X (compareOp .NotEq) (rEqA X.K C sp E true) := by
  intro pins s σ H x y v u Q I rx ry hq
  obtain ⟨a, dx, fs, t, rfl, ha, ty, nf, q⟩ := hq
  cases (show v = Value.ref a from rx)
  obtain ⟨f, fd, F, M, bi⟩ := h.ex
  obtain ⟨_, O1, _⟩ := ins_get I.hok ha
  obtain ⟨od, J, _⟩ := O1.look
  obtain ⟨Z, KX, z, _⟩ := kit_of I ry ty
  obtain ⟨m', fr⟩ := I.fr
  have b1 := bi s [.ref a, u] I.kIn rfl
  rw [List.append_nil] at b1
  show wpAny (model X.prog X.w) X.A (richCompare .NotEq (.ref a) u) (EP X pins σ Q) X.xe s
  refine ne_own (tb := t) (by have := hr.un; omega) (by have := hr.in1.un; omega) fr I.mod.kin J (KX.ty _ _ I.kIn z) nf M.at_ M.fn e.ne e.ob ?_
  apply wpAny_call
  refine codeAny_mono (F.go (A := X.A.in1) g hr.in1 I.env0.in1 b1 (vs := [.ref a, y]) (.cons rfl (.cons ry .nil)) q) (fun res s' z => ?_)
  match res, z with
  | .error _, z => exact hx pins σ H s _ s' I z
  | .ok (.ret _), z =>
    obtain ⟨v, H', I', rv, r, rfl, q2⟩ := I.after z
    cases (show _ = Value.bool r from rv)
    exact ⟨r, rfl, .bl (!r), H', I', rfl, by simpa using q2⟩
/-- str of an instance whose class has its own __str__ -/
def rStrM (C : Addr) (sp : Sp) (E : XK) : List V → Hp → VK → Prop := fun xs H Q => ∃ a dx fs, xs = [.ref a] ∧ H a = some (.ins C dx fs) ∧ sp [.ref a] H (fun v H' => ∃ y, v = .str y ∧ Q (.str y) H') E
theorem call_strM (h : HasM X.prog X.w X.K X.mg X.base CX C "__str__" k ["self"] sp) (g : Gd X.A) (hr : Room (k + 2) X.A) (hx : Passes CX X E) :
    CallR X (.type "str") (rStrM C sp E) := by
  intro pins s σ H xs us Q I r q
  obtain ⟨a, dx, fs, rfl, ea, q1⟩ := q
  obtain ⟨f, fd, F, M, b⟩ := h.ex
  obtain ⟨u, rfl, ru⟩ := vals1 r
  cases (show u = Value.ref a from ru)
  obtain ⟨mA, O, _⟩ := ins_get I.hok ea
  obtain ⟨od, J, _⟩ := O.look
  have b1 := b s [.ref a] I.kIn rfl
  rw [List.append_nil] at b1
  refine PySem.W.kso_call (by have := hr.in1.in1.un; omega) I.kIn J M.at_ M.fn ?_
  apply wpAny_call
  refine codeAny_mono (F.go (A := X.A.in1.in1) g hr.in1.in1 I.env0.in1.in1 b1 (vs := [.ref a]) (.cons rfl .nil) q1) (fun res s' z => ?_)
  match res, z with
  | .error _, z => exact hx pins σ H s _ s' I z
  | .ok (.ret _), z =>
    obtain ⟨v, H', I', rv, y, rfl, q2⟩ := I.after z
    obtain ⟨t, rfl⟩ := rv
    exact ⟨.str y, H', I', ⟨_, rfl⟩, q2⟩
end
end GL
/-! list of an instance whose __iter__ hands out the iterator of a tuple -/
namespace GL
open PySem PySem.Spec PyProof.Rows L2
/-- at it the iterator of the tuple at t, with i things taken -/
def ItT (t it : Addr) (i : Nat) : HO := .ext fun h => h.IsTupleIter it t i
def ItX (it : Addr) : HO := .ext fun h => ∃ o, h.get? it = some o
section
variable {X : Cx} {pins : List (Addr × Obj)} {σ : L2.St} {H : Hp} {s : Shared} {t it : Addr} {i : Nat}
theorem itT_ok {P : Program} {w : World} {H : Hp} {h : Heap} (e : h.IsTupleIter it t i) : ObjOk P w H h it (ItT t it i) := ⟨e, let ⟨o, ho, _⟩ := e; ⟨o, ho⟩, fun h1 h2 q k => Heap.IsTupleIter.at q k⟩
theorem itX_ok {P : Program} {w : World} {H : Hp} {h : Heap} {o : Obj} (e : h.get? it = some o) : ObjOk P w H h it (ItX it) := ⟨⟨o, e⟩, ⟨o, e⟩, fun h1 h2 ⟨o, q⟩ k => ⟨o, k _ q⟩⟩
theorem itT_get (I : Inv X pins σ H s) (e : H it = some (ItT t it i)) : s.heap.IsTupleIter it t i := (I.hok it _ e).1
/-- iter(t), t a tuple -/
def rIterT (K : PySem.W.Frag) : List V → Hp → VK → Prop := fun xs H Q => ∃ (l : Addr) (zs : List V), xs = [.ref l] ∧ SqT K H l zs ∧ ∀ it, H it = none → Q (.ref it) (upd H it (ItT l it 0))
theorem call_iterT : CallR X (.builtin "iter") (rIterT X.K) := by
  intro pins s σ H xs us Q I r h
  obtain ⟨l, zs, rfl, hq, q⟩ := h
  obtain ⟨u, rfl, ru⟩ := vals1 r
  cases (show u = Value.ref l from ru)
  obtain ⟨its, rv, tp, hz⟩ := I.tuple hq
  refine Calls.call_function_entry (by decide +kernel) (by decide +kernel) PySem.W.kdk_entry_iter (PySem.W.kdk_args_iter _) ?_
  unfold Builtin.«iter»
  refine wpAny_bind (m := someArgs "iter" 1 2 _) (wpAny_of_eq (a := [Value.ref l]) (by first | rfl | kernel_rfl!) ?_)
  show wpAny _ _ (pyIter (.ref l) >>= _) _ _ _
  refine wpAny_bind (wpAny_pyIter_tuple tp ?_)
  refine wpAny_pure ⟨_, rfl, ?_⟩
  exact ⟨.ref s.heap.objs.size, _, I.laid (t' := s.toks) (fun b u e => Heap.get?_push_of_some _ e) (Nat.le_refl _) (itT_ok ⟨_, Heap.get?_push_size _ rfl, rfl, rfl⟩), rfl, q _ (I.hok.fresh (Nat.le_refl _))⟩
end
section
variable {prog : Program} {w : World} {A : Around} {E : Value → Shared → Prop} {s : Shared}
/-- the end of a tuple's iterator, with what stands at it then -/
theorem tup_end {it t : Addr} {i : Nat} {items} {Q : Option Value → Shared → Prop} (hh : A.handled = none)
    (hit : s.heap.IsTupleIter it t i) (ht : s.heap.IsTuple t items) (hx : items[i]? = none)
    (hQ : ∀ h', Heap.ExtBut it s.heap h' → (∃ o, h'.get? it = some o) → Q none { s with heap := h' }) : wpAny (model prog w) A (pyNext (.ref it)) Q E s := by
  obtain ⟨o, ho, hc, hd⟩ := id hit
  obtain ⟨ol, hol, _, nl, hdl⟩ := ht
  unfold pyNext
  refine wpAny_bind (wpAny_attempt (wpAny_callSpecial?_slot (name := Str.ofString "__next__") hit.typeIs F.slot_tuple_iterator_next
    (wpAny_call_entry F.slot_tuple_iterator_next hit.typeIs F.entry_tuple_iterator_next ?_ (F.args_tuple_iterator_next_1 _))))
  show wpAny _ _ (field (.ref it) 0 >>= _) _ _ s
  refine wpAny_bind (wpAny_field ho hd (x := .ref t) rfl ?_)
  show wpAny _ _ (if (Value.ref t == Value.none) = true then _ else _) _ _ s
  rw [if_neg (show ¬ ((Value.ref t == Value.none) = true) from Bool.false_ne_true)]
  show wpAny _ _ (field (.ref it) 1 >>= _) _ _ s
  refine wpAny_bind (wpAny_field ho hd (x := .int i 0) rfl ?_)
  show wpAny _ _ (seqItems? (.ref t) >>= _) _ _ s
  refine wpAny_bind (wpAny_seqItems hol hdl ?_)
  simp only [Int.toNat_natCast, hx]
  refine wpAny_bind (wpAny_rule (wpAny_bind (wpAny_setField ho hd (by simp) ?_)))
  show wpAny _ _ (newExc (.type "StopIteration") [] >>= _) _ _ _
  refine wpAny_bind ?_
  simp only [newExc, newTuple]
  refine wpAny_bind (wpAny_newObj_type ?_ (by size_fits))
  refine wpAny_bind (m := firstArgMember _ _) (wpAny_of_eq (a := Value.none) (by first | rfl | (simp only [firstArgMember]; rfl)) ?_)
  refine wpAny_newObj_type ?_ (by size_fits)
  simp only [raiseNew]
  refine wpAny_bind (wpAny_handled ?_)
  first | rw [show A.in1.handled = none from hh] | rw [hh]
  refine wpAny_bind (wpAny_pure (wpAny_throw ?_))
  refine wpAny_bind (wpAny_isInstance (T := "StopIteration") (b := true) ⟨_, Heap.get?_push_size _ rfl, rfl⟩ isSubtype_stop ?_)
  exact wpAny_pure (hQ _ (((Heap.SameBut.update ..).extBut.push _).push _) ⟨_, Heap.get?_push_of_some _ (Heap.get?_push_of_some _ (Heap.get?_update_self _ ho (Obj.isFreed_of_fields (Obj.data_mapFields hd _))))⟩)
end
section
variable {X : Cx} {pins : List (Addr × Obj)} {σ : L2.St} {H1 : Hp} {q it t a : Addr} {zs : List V} {A1 : Around}
/-- the walk that fills the list at q out of the iterator at it -/
theorem it_loop {Rs : Result → Shared → Prop} (hh : A1.in1.handled = none) (hz : zs.length ≤ 1000) (qi : q ≠ it) (st : ∀ H : Hp, (∀ b o, b ≠ q → b ≠ it → H1 b = some o → H b = some o) → SqT X.K H t zs)
    (hdone : ∀ H s, Inv X pins σ H s → (∀ b o, b ≠ q → b ≠ it → H1 b = some o → H b = some o) → H q = some (.lst zs) → Rs (.ok (.ret .none)) s) :
    ∀ (k i : Nat) (H : Hp) (s : Shared), zs.length - i = k → i ≤ zs.length → Inv X pins σ H s → (∀ b o, b ≠ q → b ≠ it → H1 b = some o → H b = some o) → H it = some (ItT t it i) → H q = some (.lst (zs.take i)) →
      codeAny (model X.prog X.w) A1 (.builtin "list.extend.loop" ⟨[.ref q, .ref it, .none], []⟩) Rs s := by
  intro k
  induction k with
  | zero =>
    intro i H s hk hi I keep hit hq
    have ei : i = zs.length := by omega
    subst ei
    refine codeAny_builtin PySem.F.entry_extend_loop ?_
    rw [Around.under_plainId PySem.F.plain_extend_loop _]
    show wpAny _ A1.in1 (pyNext (.ref it) >>= _) _ _ s
    obtain ⟨its, rv, tp, _⟩ := I.tuple (st H keep)
    refine wpAny_bind (tup_end hh (itT_get I hit) tp (by rw [List.getElem?_toArray]; exact rv.none_of (List.getElem?_eq_none (Nat.le_refl _))) (fun h' ex ⟨o, eo⟩ => ?_))
    have I2 : Inv X pins σ (upd H it (ItX it)) { s with heap := h' } := I.write (x := it) (e := it) (t' := s.toks) (by rw [hit]; exact True.intro) (.inl rfl) (fun b o nb z => ex b o nb z) ⟨_, eo⟩ (itX_ok eo)
    refine wpAny_pure (hdone _ _ I2 (fun b o nq ni z => by rw [upd_ne ni]; exact keep b o nq ni z) ?_)
    rw [upd_ne qi, hq, List.take_length]
  | succ k ih =>
    intro i H s hk hi I keep hit hq
    refine codeAny_builtin PySem.F.entry_extend_loop ?_
    rw [Around.under_plainId PySem.F.plain_extend_loop _]
    show wpAny _ A1.in1 (pyNext (.ref it) >>= _) _ _ s
    obtain ⟨its, rv, tp, _⟩ := I.tuple (st H keep)
    have hlt : i < zs.length := by omega
    obtain ⟨u, hu, ru⟩ := rv.get (List.getElem?_eq_getElem hlt)
    refine wpAny_bind (wpAny_pyNext_tuple_item (itT_get I hit) tp (by rw [List.getElem?_toArray]; exact hu) (fun h' e' sb => ?_))
    have I2 : Inv X pins σ (upd H it (ItT t it (i + 1))) { s with heap := h' } := I.write (x := it) (e := it) (t' := s.toks) (by rw [hit]; exact True.intro) (.inl rfl) (fun b o nb z => (sb.2 b nb).trans z) (let ⟨o, ho, _⟩ := e'; ⟨o, ho⟩) (itT_ok e')
    have hq2 : upd H it (ItT t it (i + 1)) q = some (.lst (zs.take i)) := by rw [upd_ne qi]; exact hq
    show wpAny _ A1.in1 (updateSeq q (·.push u) >>= _) _ _ _
    obtain ⟨z, its', k', r2, hl, e⟩ := I2.lstM hq2
    have hsz : its'.length ≤ 1000 := by rw [← hl, List.length_take]; omega
    have big : 1000 < sizeLine := by rw [sizeLine_eq]; decide
    refine wpAny_bind (wpAny_updateSeq e rfl (wpAny_pure ⟨plainId_quiet PySem.F.plain_extend_loop _, ?_⟩) (by rw [List.size_toArray]; omega) (by show (its'.toArray.push u).size ≤ sizeLine + 1; rw [Array.size_push, List.size_toArray]; omega))
    have I3 := I2.lset (its' := its' ++ [u]) (ys := zs.take i ++ [zs[i]]) (f := (·.push u)) (t' := s.toks) hq2 e (by simp) (r2.append (.cons ru .nil)) (by rw [List.length_append, List.length_singleton, List.length_take]; omega)
    refine ih (i + 1) _ _ (by omega) (by omega) I3 (fun b o nq ni z => by rw [upd_ne nq, upd_ne ni]; exact keep b o nq ni z) (by rw [upd_ne qi.symm, upd_same]) (by rw [upd_same, List.take_add_one, List.getElem?_eq_getElem hlt]; rfl)
end

section
variable {X : Cx} {CX CX' : CXT} {k k' : Nat} {C : Addr} {sp spL : Sp} {E : XK}
/-- list(o): __iter__ hands out the iterator of a tuple, __len__ says how long it is -/
def rListIt (K : PySem.W.Frag) (C : Addr) (sp spL : Sp) (E : XK) : List V → Hp → VK → Prop := fun xs H Q => ∃ a dx fs, xs = [.ref a] ∧ H a = some (.ins C dx fs) ∧
  ∀ q, H q = none → sp [.ref a] (upd H q (.lst [])) (fun v H1 => ∃ it t zs, v = .ref it ∧ H1 it = some (ItT t it 0) ∧ H1 q = some (.lst []) ∧ H1 a = some (.ins C dx fs) ∧ zs.length ≤ 1000 ∧
    (∀ H : Hp, (∀ b o, b ≠ q → b ≠ it → H1 b = some o → H b = some o) → SqT K H t zs) ∧ spL [.ref a] H1 (fun v H2 => v = .int zs.length ∧ H2 = H1) E ∧
    ∀ H2, (∀ b o, b ≠ q → b ≠ it → H1 b = some o → H2 b = some o) → H2 q = some (.lst zs) → Q (.ref q) H2) E
theorem call_listIt (h : HasM X.prog X.w X.K X.mg X.base CX C "__iter__" k ["self"] sp) (hl : HasM X.prog X.w X.K X.mg X.base CX0 C "__len__" k ["self"] spL) (g : Gd X.A) (hr : Room (k + 3) X.A) (hx : Passes CX X E) :
    CallR X (.type "list") (rListIt X.K C sp spL E) := by
  intro pins s σ H xs us Q I r asked
  obtain ⟨a, dx, fs, rfl, ha, hq⟩ := asked
  obtain ⟨f, fd, F, M, bi⟩ := h.ex
  obtain ⟨fl, fdl, FL, ML, bl⟩ := hl.ex
  obtain ⟨u, rfl, ru⟩ := vals1 r
  cases (show u = Value.ref a from ru)
  refine callType_codes (Q₁ := fun obj s₁ => obj = .ref s.heap.objs.size ∧ s₁ = { s with heap := s.heap.push { cls := .type "list", data := .seq #[] } }) PySem.F.called_list (PySem.F.typeCall_list_1 _) PySem.F.entry_list_init
    (code_list_new _ ⟨rfl, rfl⟩) fun obj s₁ h₁ => ?_
  obtain ⟨rfl, rfl⟩ := h₁
  have hS : (s.heap.push { cls := .type "list", data := .seq #[] }).get? s.heap.objs.size = some { cls := .type "list", data := .seq #[] } := Heap.get?_push_size _ rfl
  refine ⟨⟨_, hS, rfl⟩, PySem.F.args_list_init_2 _ _, ?_⟩
  have fr : H s.heap.objs.size = none := I.hok.fresh (Nat.le_refl _)
  have asked := hq _ fr
  generalize hqq : s.heap.objs.size = q at *
  have I1 : Inv X pins σ (upd H q (.lst [])) { s with heap := s.heap.push { cls := .type "list", data := .seq #[] } } := by
    rw [← hqq]; exact I.lnew (its := []) (t' := s.toks) .nil (Nat.zero_le _)
  show wpAny _ _ (do let old ← Builtin.List.listItems (.ref q); Builtin.List.listUpdate (.ref q) (fun _ => #[]); letGo old.toList.reverse; Builtin.List.listExtendWith (.ref q) (.ref a) .none) _ _ _
  refine wpAny_bind ?_
  unfold Builtin.List.listItems
  refine wpAny_bind (wpAny_seqItems hS rfl (wpAny_pure ?_))
  show wpAny _ _ (updateSeq q (fun _ => #[]) >>= fun _ => letGo (#[] : Array Value).toList.reverse >>= fun _ => Builtin.List.listExtendWith (.ref q) (.ref a) .none) _ _ _
  refine wpAny_bind (wpAny_updateSeq hS rfl ?_)
  have I2 := I1.lset (f := fun _ => #[]) (its := []) (its' := []) (ys := []) (t' := s.toks) upd_same hS rfl .nil (Nat.zero_le _)
  rw [upd_upd] at I2
  refine wpAny_bind (wpAny_letGo ?_)
  have ha2 : upd H q (.lst []) a = some (.ins C dx fs) := by rw [upd_ne (ne_of_none ha fr)]; exact ha
  have hne : q ≠ a := fun z => by rw [z] at fr; rw [fr] at ha; cases ha
  have i2 : Sub X (k + 1) X.A.in1.in1 := (Sub.in1 (Sub.in1 (⟨hr, rfl⟩ : Sub X (k + 3) X.A)))
  generalize hB : X.A.in1 = A1 at *
  obtain ⟨mA, J, _⟩ := ins_get I2.hok ha2
  obtain ⟨od, J, _⟩ := J.look
  obtain ⟨m0, hF⟩ := I2.fr
  unfold Builtin.List.listExtendWith
  refine wpAny_bind (J.type.here ?_)
  have h1 : Builtin.List.listSameRef (.ref q) (.ref a) = false := by simp [Builtin.List.listSameRef, hne]
  have h2 : (Value.ref C == Value.type "list") = false := rfl
  have h3 : (Value.ref C == Value.type "tuple") = false := rfl
  simp only [h1, h2, h3, Bool.or_false, Bool.false_eq_true, if_false]
  refine wpAny_bind (PySem.W.owit_iter hF I2.ok.mod.kin J M.at_ M.fn ?_)
  have e0 : ∀ {H s}, Inv X pins σ H s → Env0 X.prog X.w X.K X.mg X.base A1.in1 X.stack s H := by
    intro H s I
    have e := I.env0
    exact ⟨by rw [i2.fr]; exact e.frames, e.mod, e.bs, e.bsz, e.funs, e.frf, e.hok, e.bare⟩
  have e0' : ∀ {H s}, Inv X pins σ H s → Env0 X.prog X.w X.K X.mg X.base A1.in1.in1 X.stack s H := by
    intro H s I
    have e := I.env0
    exact ⟨by rw [(Sub.in1 i2).fr]; exact e.frames, e.mod, e.bs, e.bsz, e.funs, e.frf, e.hok, e.bare⟩
  have b1 := bi { s with heap := (s.heap.push { cls := .type "list", data := .seq #[] }).update q (Obj.mapSeq fun _ => #[]) } [.ref a] I2.kIn rfl
  rw [List.append_nil] at b1
  have gd1 : Gd A1.in1 := by rw [← hB]; exact g
  refine wpAny_call (codeAny_mono (F.go (A := A1.in1) gd1 (i2.room.mono (by omega)) (e0 I2) b1 (vs := [.ref a]) (.cons rfl .nil) asked) fun r s' hq' => ?_)
  match r, hq' with
  | .error e, hq' => exact hx pins σ _ _ e s' I2 hq'
  | .ok (.ret u), hq' =>
    obtain ⟨v, H1, I3, rv, it, t, zs, rfl, hit, hq1, ha1, hz, st, sl, hQ⟩ := I2.after hq'
    cases (show u = Value.ref it from rv)
    have qi : q ≠ it := fun z => by rw [z] at hq1; rw [hit] at hq1; cases hq1
    unfold PySem.W.OwitIt
    refine wpAny_specialOf (itT_get I3 hit).typeIs PySem.F.slot_tuple_iterator_next.lookup ?_
    obtain ⟨mA', J', _⟩ := ins_get I3.hok ha1
    obtain ⟨od', J', _⟩ := J'.look
    obtain ⟨m1, hF'⟩ := I3.fr
    refine wpAny_bind (wpAny_holding ?_)
    have loopE : ∀ {s'}, Inv X pins σ H1 s' → codeAny (model X.prog X.w) A1 (.builtin "list.extend.loop" ⟨[.ref q, .ref it, .none], []⟩) (wants (fun r s₂ => r = .none ∧ EP X pins σ Q (.ref q) s₂) X.xe) s' := fun {s'} I' =>
      it_loop (H1 := H1) (by rw [show A1.in1.handled = X.A.handled by rw [← hB]]; exact hr.hd) hz qi st (fun H2 s2 I2 kp e => ⟨rfl, .ref q, H2, I2, rfl, hQ H2 kp e⟩) zs.length 0 H1 s' (by omega) (Nat.zero_le _) I' (fun b o _ _ e => e) hit hq1
    have b2 := bl { s' with heap := s'.heap } [.ref a] I3.kIn rfl
    rw [List.append_nil] at b2
    unfold Builtin.List.listLengthHint
    refine wpAny_bind (wpAny_bind (J'.type.here ((PySem.W.looks_findIn I3.kIn ML.at_).here ?_)))
    refine PySem.W.KFB.if_not rfl ?_
    refine PySem.W.KFB.if_so rfl ?_
    refine wpAny_bind (wpAny_rule ?_)
    refine wpAny_bind (wpAny_attempt ?_)
    have i3 : Sub X k A1.in1.in1 := Sub.in1 i2
    refine PySem.W.len_K hF' I3.mod.kin J' ML.at_ ML.fn ?_
    apply wpAny_call
    refine codeAny_mono (FL.go (A := A1.in1.in1) gd1 i3.room (e0' I3) b2 (vs := [.ref a]) (.cons rfl .nil) sl) (fun res s2 z => ?_)
    match res, z with
    | .error e, z => exact z.elim
    | .ok (.ret u), z =>
      obtain ⟨v, H2, I4, rv, rfl, eH⟩ := I3.after z
      rw [eH] at I4
      obtain ⟨tk, rfl⟩ := rv
      refine ⟨⟨by omega, by omega⟩, ?_⟩
      refine wpAny_bind (m := asInt? (.int zs.length _)) (wpAny_pure ?_)
      refine PySem.W.KFB.if_not (by unfold Builtin.List.listTooLong; exact decide_eq_false (by rw [sizeLine_eq]; omega)) ?_
      refine wpAny_pure ?_
      have I5 := I4.tok (s2.toks + 1)
      refine wpAny_ite_split (fun _ => ?_) (fun _ => wpAny_pure ⟨plainId_quiet PySem.F.plain_extend_loop _, loopE I5⟩)
      refine wpAny_bind (wpAny_rule ?_)
      refine wpAny_bind ?_
      obtain ⟨z, its, k3, r3, hl3, e3⟩ := I5.lstM hq1
      cases r3
      show wpAny _ _ (updateSeq q (·.push .none) >>= fun _ => updateSeq q (·.pop)) _ _ _
      refine wpAny_bind (wpAny_updateSeq e3 rfl ?_)
      have I6 := I5.lset (f := (·.push Value.none)) (its' := [Value.none]) (ys := [.non]) (t' := s2.toks + 1) hq1 e3 (by simp) (.cons rfl .nil) (by rw [List.length_singleton, sizeLine_eq]; decide)
      obtain ⟨z4, its4, k4, r4, hl4, e4⟩ := I6.lstM upd_same
      obtain ⟨u4, rfl, ru4⟩ := r4.one
      refine wpAny_updateSeq e4 rfl ?_ (by show 1 ≤ sizeLine; rw [sizeLine_eq]; decide) (by show 0 ≤ sizeLine + 1; exact Nat.zero_le _)
      have I7 := I6.lset (f := (·.pop)) (its := [u4]) (its' := []) (ys := []) (t' := s2.toks + 1) upd_same e4 (by rfl) .nil (Nat.zero_le _)
      rw [upd_upd] at I7
      have hH : upd H1 q (.lst []) = H1 := by
        funext b
        by_cases hb : b = q
        · rw [hb, upd_same, hq1]
        · rw [upd_ne hb]
      rw [hH] at I7
      exact wpAny_pure ⟨plainId_quiet PySem.F.plain_extend_loop _, loopE I7⟩
    | .ok .next, z => exact False.elim z
    | .ok .brk, z => exact False.elim z
    | .ok .cont, z => exact False.elim z
  | .ok .next, hq' => exact False.elim hq'
  | .ok .brk, hq' => exact False.elim hq'
  | .ok .cont, hq' => exact False.elim hq'
end
end GL
/-! t.index(x), t a tuple of data of any depth -/
namespace GL
open PySem PySem.Spec PyProof.Rows L2
section
variable {X : Cx}
def rIndexT (K : PySem.W.Frag) : V → List V → Hp → VK → Prop := fun x xs H Q => ∃ (a : Addr) (y : V) (d : PyData) (ds : List PyData) (j : Nat) (z : PyData), x = V.ref a ∧ xs = [y] ∧ Dp K H (V.ref a) (.tuple ds) ∧ Dp K H y d ∧
  SeqAt.shaped (.tuple ds) = true ∧ SeqAt.shaped d = true ∧ ds[j]? = some z ∧ PyData.eqv z d = true ∧ (∀ (m : Nat) (z' : PyData), m < j → ds[m]? = some z' → PyData.eqv z' d = false) ∧ Q (.int (j : Nat)) H
theorem mt_indexT (hu : X.A.units + 65 < cLine) : MtR X "tuple.index" (rIndexT X.K) := by
  intro pins s σ H x xs v us Q I rx rxs h
  obtain ⟨a, y, d, ds, j, z, rfl, rfl, hl, hy, sl, sd, hz, hzj, hno, q⟩ := h
  cases rx
  cases rxs with
  | cons ry rt =>
    rename_i uy ut
    cases rt
    obtain ⟨bs, r1⟩ := Dp.reads I d y uy hy ry
    have hxs : PyData.canLayAll0 ds = true := SeqAt.canLay_of_shaped sl
    have hroom : X.A.units + 1 + min (PyData.depthAll ds) d.depth < cLine := room_in_shaped sd hu
    cases hl with
    | tup hs ha =>
      obtain ⟨its, rv, pl, hlen⟩ := I.tuple hs
      obtain ⟨⟨cls, dd, dt, sls⟩, ho, hc, n, hdt⟩ := pl
      simp only at hc hdt
      subst hc hdt
      obtain ⟨as, h4⟩ := Dp.readsAll I ds _ its ha rv
      have hn : its.length = ds.length := SeqAt.ReadsAll.length ds its as h4
      have hmap : its.map (SeqAt.readOf s.heap) = ds := SeqAt.readsAll_map ds its as hxs h4
      have hvl := rv.length
      have hsl := sizeLine_eq
      obtain ⟨hjd, _⟩ := List.getElem?_eq_some_iff.mp hz
      have hjl : j < its.length := by omega
      have hj : j < its.toArray.size := by simpa using hjl
      have at_ : ∀ (m : Nat) (hm : m < its.toArray.size) (z' : PyData), ds[m]? = some z' → SeqAt.readOf s.heap its.toArray[m] = z' := by
        intro m hm z' hz'
        have hml : m < its.length := by simpa using hm
        rw [← hmap, List.getElem?_map, List.getElem?_eq_getElem hml] at hz'
        have e1 : SeqAt.readOf s.heap its[m] = z' := Option.some.inj (show some (SeqAt.readOf s.heap its[m]) = some z' from hz')
        simpa using e1
      refine call_meets PySem.F.slot_tuple_index ⟨_, ho, rfl⟩ PySem.F.entry_tuple_index (PySem.F.args_tuple_index_2 _ _)
        (TI.tuple_indexAt a its.toArray n dd sls uy (fun u => PyData.eqv (SeqAt.readOf s.heap u) d) j hj ?_ ?_) ⟨ho, SeqAt.items_eqAt (vs := its.toArray) (show ReadsAll s.heap its.toArray.toList ds as from h4) r1 hxs (SeqAt.canLay_of_shaped sd) hroom, ?_⟩
      · show PyData.eqv (SeqAt.readOf s.heap its.toArray[j]) d = true
        rw [at_ j hj z hz]
        exact hzj
      · intro m hm hmj
        have hmd : m < ds.length := by omega
        have hz' : ds[m]? = some ds[m] := List.getElem?_eq_getElem hmd
        show PyData.eqv (SeqAt.readOf s.heap its.toArray[m]) d = false
        rw [at_ m hm _ hz']
        exact hno m _ hmj hz'
      · exact ⟨.int (j : Nat), H, I.tok _, ⟨_, rfl⟩, q⟩
end
end GL
/-! points as data; what the Grid's own methods promise -/
namespace GL
open PySem PySem.Spec PyProof.Rows L2
variable {K : PySem.W.Frag} {C : Addr} {U : Bool → Addr} {us : Bool → List Addr} {t : Bool}
/-! ### points as data -/
theorem ptD_lay (u : Int × Int) : (ptD u).canLay0 = true := by simp [ptD, PyData.canLay0, PyData.canLayAll0]
theorem ptD_depth (u : Int × Int) : (ptD u).depth = 1 := by simp [ptD, PyData.depth, PyData.depthAll]
theorem ptDs_lay : ∀ zs : List (Int × Int), PyData.canLayAll0 (zs.map ptD) = true
  | [] => by simp [PyData.canLayAll0]
  | z :: zs => by simp [PyData.canLayAll0, ptD_lay z, ptDs_lay zs]
theorem ptDs_depth : ∀ zs : List (Int × Int), PyData.depthAll (zs.map ptD) ≤ 1
  | [] => by simp [PyData.depthAll]
  | z :: zs => by
    have h1 := ptDs_depth zs
    have h2 := ptD_depth z
    simp only [List.map_cons, PyData.depthAll]
    omega
theorem ptDs_shaped (zs : List (Int × Int)) : SeqAt.shaped (.list (zs.map ptD)) = true := by
  have h1 := ptDs_depth zs
  have h2 : PyData.depth (.list (zs.map ptD)) ≤ 64 := by
    simp only [PyData.depth]
    omega
  show (PyData.canLay0 (.list (zs.map ptD)) && decide (PyData.depth (.list (zs.map ptD)) ≤ 64)) = true
  rw [Bool.and_eq_true]
  exact ⟨by simp only [PyData.canLay0]; exact ptDs_lay zs, decide_eq_true h2⟩
theorem ptDt_shaped (zs : List (Int × Int)) : SeqAt.shaped (.tuple (zs.map ptD)) = true := by
  have h1 := ptDs_depth zs
  have h2 : PyData.depth (.tuple (zs.map ptD)) ≤ 64 := by
    simp only [PyData.depth]
    omega
  show (PyData.canLay0 (.tuple (zs.map ptD)) && decide (PyData.depth (.tuple (zs.map ptD)) ≤ 64)) = true
  rw [Bool.and_eq_true]
  exact ⟨by simp only [PyData.canLay0]; exact ptDs_lay zs, decide_eq_true h2⟩
theorem ptDs_eqv : ∀ zs ys : List (Int × Int), PyData.eqvAll (zs.map ptD) (ys.map ptD) = decide (zs = ys)
  | [], [] => rfl
  | [], y :: ys => rfl
  | z :: zs, [] => rfl
  | z :: zs, y :: ys => by
    rw [List.map_cons, List.map_cons, PyData.eqvAll, ptD_eqv, ptDs_eqv zs ys, Bool.eq_iff_iff]
    simp
theorem PAt.dp {H : Hp} {a : Addr} {u : Int × Int} (h : PAt K H a u) : Dp K H (.ref a) (ptD u) := .tup h (.cons (.int _) (.cons (.int _) .nil))
/-- at the addresses as stand the points ps -/
def PAts (K : PySem.W.Frag) (H : Hp) (as : List Addr) (ps : List (Int × Int)) : Prop := as.length = ps.length ∧ ∀ (i : Nat) a p, as[i]? = some a → ps[i]? = some p → PAt K H a p
theorem PAts.dp {H : Hp} : ∀ {as : List Addr} {ps : List (Int × Int)}, PAts K H as ps → DpAll K H (as.map V.ref) (ps.map ptD)
  | [], [], _ => .nil
  | [], p :: ps, h => by cases h.1
  | a :: as, [], h => by cases h.1
  | a :: as, p :: ps, h => .cons (h.2 0 a p rfl rfl).dp (PAts.dp (as := as) (ps := ps) ⟨Nat.succ.inj h.1, fun i a p e1 e2 => h.2 (i + 1) a p e1 e2⟩)
theorem PAts.same {H H' : Hp} {as : List Addr} {ps : List (Int × Int)} (h : PAts K H as ps) (s : Same H H') : PAts K H' as ps := ⟨h.1, fun i a p e1 e2 => (h.2 i a p e1 e2).same s⟩
theorem PAts.got {q : Addr} {H H' : Hp} {as : List Addr} {ps : List (Int × Int)} (h : PAts K H as ps) (g : Got q H H') (d : Die H q) : PAts K H' as ps := ⟨h.1, fun i a p e1 e2 => (h.2 i a p e1 e2).got g d⟩
theorem PAts.snoc {H : Hp} {as : List Addr} {ps : List (Int × Int)} {a : Addr} {p : Int × Int} (h : PAts K H as ps) (e : PAt K H a p) : PAts K H (as ++ [a]) (ps ++ [p]) := by
  refine ⟨by rw [List.length_append, List.length_append, h.1]; rfl, fun i b q e1 e2 => ?_⟩
  rcases Nat.lt_trichotomy i as.length with l | l | l
  · rw [List.getElem?_append_left l] at e1
    rw [List.getElem?_append_left (by rw [← h.1]; exact l)] at e2
    exact h.2 i b q e1 e2
  · rw [List.getElem?_append_right (Nat.le_of_eq l.symm), l, Nat.sub_self] at e1
    rw [List.getElem?_append_right (by rw [← h.1]; exact Nat.le_of_eq l.symm), ← h.1, l, Nat.sub_self] at e2
    cases e1
    cases e2
    exact e
  · rw [List.getElem?_eq_none (by rw [List.length_append]; exact l)] at e1
    cases e1
theorem PAt.lst {H : Hp} {a D : Addr} {u : Int × Int} {xs : List V} {o : HO} (h : PAt K H a u) (e : H D = some (.lst xs)) : PAt K (upd H D o) a u := by
  rcases h with (z | ⟨ob, z⟩) | z
  · exact .inl (.inl (by rw [upd_ne (ne_of z e (by intro z; cases z))]; exact z))
  · exact .inl (.inr ⟨ob, by rw [upd_ne (ne_of z e (by intro z; cases z))]; exact z⟩)
  · exact .inr z
theorem PAts.lst {H : Hp} {as : List Addr} {D : Addr} {ps : List (Int × Int)} {xs : List V} {o : HO} (h : PAts K H as ps) (e : H D = some (.lst xs)) : PAts K (upd H D o) as ps := ⟨h.1, fun i a p e1 e2 => (h.2 i a p e1 e2).lst e⟩
theorem Uni.pts {w : World} {aG dU : Addr} (hU : Uni K w aG dU U us) (t : Bool) (H : Hp) : PAts K H (us t) (ux t) := ⟨by rw [hU.len, len_ux], fun i a p e1 e2 => hU.pt t i a p e1 e2 H⟩
theorem pts_at {H : Hp} {as : List Addr} (h : PAts K H as (ux t)) (n : Int) : ∃ a : Addr, PAt K H a (uni t n) ∧ atI (as.map V.ref) (n % (num t : Int)) = some (.ref a) := by
  have h1 := Int.emod_nonneg n (Int.ne_of_gt (num_pos (t := t)))
  have h2 := Int.emod_lt_of_pos n (num_pos (t := t))
  obtain ⟨j, hj⟩ : ∃ j : Nat, n % (num t : Int) = (j : Int) := ⟨(n % (num t : Int)).toNat, by omega⟩
  have e := uni_at (t := t) n
  rw [hj] at e ⊢
  have l : j < as.length := by rw [h.1, len_ux]; omega
  refine ⟨as[j], h.2 j _ _ (List.getElem?_eq_getElem l) e, atI_nat ?_⟩
  rw [List.getElem?_map, List.getElem?_eq_getElem l]
  rfl
/-- which unit a point is -/
def dirOf (t : Bool) (u : Int × Int) : Option Nat := (ux t).findIdx? fun p => decide (p = u)
def dirV (t : Bool) (u : Int × Int) : V := match dirOf t u with | some j => .int (j : Nat) | none => .non
def dirD (t : Bool) (u : Int × Int) : PyData := match dirOf t u with | some j => .int (j : Nat) | none => .none
theorem dir_in (t : Bool) (u : Int × Int) : (((ux t).map ptD).any fun z => PyData.eqv z (ptD u)) = (dirOf t u).isSome := by
  unfold dirOf
  rw [List.findIdx?_isSome, List.any_map]
  congr 1
  funext p
  exact ptD_eqv p u
theorem dir_at {t : Bool} {u : Int × Int} {j : Nat} (h : dirOf t u = some j) : j < num t ∧ ((ux t).map ptD)[j]? = some (ptD u) ∧ ∀ (m : Nat) (z : PyData), m < j → ((ux t).map ptD)[m]? = some z → PyData.eqv z (ptD u) = false := by
  unfold dirOf at h
  obtain ⟨hj, e, no⟩ := List.findIdx?_eq_some_iff_getElem.mp h
  refine ⟨by rw [← len_ux]; exact hj, ?_, fun m z hm hz => ?_⟩
  · rw [List.getElem?_map, List.getElem?_eq_getElem hj, of_decide_eq_true e]
    rfl
  · have hm' : m < (ux t).length := Nat.lt_trans hm hj
    rw [List.getElem?_map, List.getElem?_eq_getElem hm'] at hz
    cases hz
    rw [ptD_eqv]
    exact Bool.eq_false_iff.mpr (no m hm)
theorem dirD_ok (t : Bool) (u : Int × Int) : (dirD t u).showable = true ∧ (dirD t u).hasDict = false ∧ (dirD t u).depth ≤ 20 ∧ (dirD t u).shown.length ≤ sizeLine := by
  unfold dirD
  cases e : dirOf t u with
  | none => exact ⟨by decide +kernel, by decide +kernel, by decide +kernel, by decide +kernel⟩
  | some j =>
    have hj : j < 6 := Nat.lt_of_lt_of_le (dir_at e).1 (by cases t <;> decide)
    have all : ∀ j, j < 6 → (PyData.int (j : Nat)).showable = true ∧ (PyData.int (j : Nat)).hasDict = false ∧ (PyData.int (j : Nat)).depth ≤ 20 ∧ (PyData.int (j : Nat)).shown.length ≤ sizeLine := by decide +kernel
    exact all j hj
theorem dirD_dp {H : Hp} {t : Bool} {u : Int × Int} : Dp K H (dirV t u) (dirD t u) := by
  unfold dirV dirD
  cases dirOf t u with
  | none => exact .non
  | some j => exact .int _
theorem uniD_ok (t : Bool) (k : Int) : (ptD (uni t k)).showable = true ∧ (ptD (uni t k)).hasDict = false ∧ (ptD (uni t k)).depth ≤ 20 ∧ (ptD (uni t k)).shown.length ≤ sizeLine := by
  have all : ∀ p ∈ ux t, (ptD p).showable = true ∧ (ptD p).hasDict = false ∧ (ptD p).depth ≤ 20 ∧ (ptD p).shown.length ≤ sizeLine := by cases t <;> decide +kernel
  exact all _ (List.mem_of_getElem? (uni_at (t := t) k))
/-- what is told of a grid -/
def toldD (t : Bool) : PyData := .tuple [.str (nm t), .int ((num t : Int) / 2), .tuple ((ux t).map ptD), .int (num t : Int), .str (nm t)]
theorem toldD_ok (t : Bool) : (toldD t).showable = true ∧ (toldD t).hasDict = false ∧ (toldD t).depth ≤ 20 ∧ (toldD t).shown.length ≤ sizeLine := by cases t <;> exact ⟨by decide +kernel, by decide +kernel, by decide +kernel, by decide +kernel⟩
theorem toldD_dp {H : Hp} {a b : Addr} {as : List Addr} (h : H a = some (.tup [.str (nm t), .int ((num t : Int) / 2), .ref b, .int (num t : Int), .str (nm t)])) (hb : SqT K H b (as.map V.ref)) (p : PAts K H as (ux t)) : Dp K H (.ref a) (toldD t) :=
  .tup (SqT.of h) (.cons (.str _) (.cons (.int _) (.cons (.tup hb p.dp) (.cons (.int _) (.cons (.str _) .nil)))))
/-! ### what of the class Grid stands in the text, for == and isinstance -/
structure GIs (K : PySem.W.Frag) (C : Addr) : Prop where
  eq : EqC K C
  is : (((PySem.W.clsIn K C).isSome && PySem.W.typeIn K (.ref C) == some (.type "type")) = true)
  ha : PySem.W.findIn K (.ref C) "__class__" = some (some (.builtin "object.__class__"))
  hn : PySem.W.specialIn K (.builtin "object.__class__") "__get__" = some (some (.builtin "getset_descriptor.__get__"))
  htk : PySem.W.takesIn K (.builtin "object.__class__") = some true
  hm : PySem.W.mroIn K C (.type "object") = some true
theorem gis_mk (h1 : PySem.W.isClsIn K C = true) (h2 : PySem.W.typeIn K (.ref C) = some (.type "type")) (ne : PySem.W.findIn K (.ref C) "__ne__" = some (some (.builtin "object.__ne__"))) (ob : PySem.W.subIn K (.ref C) (.type "object") = some true)
    (ha : PySem.W.findIn K (.ref C) "__class__" = some (some (.builtin "object.__class__"))) (hn : PySem.W.specialIn K (.builtin "object.__class__") "__get__" = some (some (.builtin "getset_descriptor.__get__"))) (htk : PySem.W.takesIn K (.builtin "object.__class__") = some true)
    (hm : PySem.W.mroIn K C (.type "object") = some true) : GIs K C :=
  ⟨⟨ne, ob⟩, by
    have h1' : (PySem.W.clsIn K C).isSome = true := h1
    rw [h1', h2]
    rfl, ha, hn, htk, hm⟩
theorem GIs.ty {H : Hp} {a dx : Addr} {fs : List (Str × V)} (i : GIs K C) (c : Cls K C) (e : H a = some (.ins C dx fs)) : TyX K H (.ref a) (.ref C) := .base (.ins e c i.ha i.hn i.htk i.hm)
theorem kit_self : PySem.W.kitOne K (.ref C) (.ref C) = some true := by
  unfold PySem.W.kitOne
  rw [if_pos (beq_self_eq_true _)]
theorem GIs.kit (i : GIs K C) (k : Kd) : PySem.W.kitOne K (.type k.nm) (.ref C) = some false := by
  unfold PySem.W.kitOne
  rw [if_neg (by intro z; cases beq_iff_eq.mp z)]
  show (if _ then _ else _) = _
  rw [if_pos i.is]
  cases k <;> rfl
theorem nf_kd (k : Kd) : PySem.W.notFirst K C (.type k.nm) = true := by cases k <;> rfl
theorem nf_self : PySem.W.notFirst K C (.ref C) = true := by
  unfold PySem.W.notFirst
  rw [beq_self_eq_true]
  rfl
theorem Of.got {p : Addr} {H H' : Hp} {x : V} {k : Kd} (h : Of K H x k) (g : Got p H H') (d : Die H p) : Of K H' x k := by
  obtain ⟨_, _, _, _, e0⟩ := d
  obtain ⟨_, _, _, _, e1⟩ := g.die
  have kp : ∀ {a : Addr} {o : HO}, H a = some o → (∀ l, o ≠ .lst l) → H' a = some o := fun {a o} e n => g.keep _ _ e (ne_of e e0 (by intro z; exact n _ z))
  unfold Of at h ⊢
  generalize ht : Value.type k.nm = t at h ⊢
  cases h with
  | base b =>
    cases b with
    | non => exact .base .non
    | bl x => exact .base (.bl x)
    | int i => exact .base (.int i)
    | str y => exact .base (.str y)
    | flt y => exact .base (.flt y)
    | @lst a xs e =>
      by_cases ep : a = p
      · subst ep; exact .base (.lst e1)
      · exact .base (.lst (g.keep _ _ e ep))
    | frz e => exact .base (.frz (kp e (fun l z => nomatch z)))
    | tup e => exact .base (.tup (kp e (fun l z => nomatch z)))
    | dK e => exact .base (.dK (kp e (fun l z => nomatch z)))
    | dT e => exact .base (.dT (kp e (fun l z => nomatch z)))
    | ins e a b c d e2 => exact .base (.ins (kp e (fun l z => nomatch z)) a b c d e2)
  | byt b => exact .byt b
  | set e => exact .set (kp e (fun l z => nomatch z))
  | kList e c => exact .kList e c
  | kTuple e c => exact .kTuple e c
  | kDict e c => exact .kDict e c
  | fTuple e => exact .fTuple (kp e (fun l z => nomatch z))
  | fDict e => exact .fDict (kp e (fun l z => nomatch z))
/-- the tuples of units have no dict -/
def UTy (K : PySem.W.Frag) (U : Bool → Addr) : Prop := ∀ t, ∃ o, K.lookup (U t) = some o ∧ o.cls = .type "tuple" ∧ o.dict = none
/-! ### promises -/
/-- y as the other side of a grid t: r tells whether it is a grid of that name -/
def GOpd (K : PySem.W.Frag) (C : Addr) (U : Bool → Addr) (H : Hp) (t : Bool) (y : V) (r : Bool) : Prop := (∃ b t', y = .ref b ∧ GridAt C U H b t' ∧ r = (t == t')) ∨ ∃ k : Kd, Of K H y k ∧ r = false
theorem GOpd.ty {H : Hp} {t r : Bool} {y : V} (i : GIs K C) (c : Cls K C) (h : GOpd K C U H t y r) : ∃ T, TyX K H y T ∧ PySem.W.notFirst K C T = true := by
  rcases h with ⟨b, t', rfl, ⟨dx, e⟩, _⟩ | ⟨k, o, _⟩
  · exact ⟨_, i.ty c e, nf_self⟩
  · exact ⟨_, o, nf_kd k⟩
def spGEq (K : PySem.W.Frag) (C : Addr) (U : Bool → Addr) : Sp := fun vs H Q _ => ∃ g t y r, vs = [.ref g, y] ∧ GridAt C U H g t ∧ GOpd K C U H t y r ∧ Q (.bl r) H
def spGIter (C : Addr) (U : Bool → Addr) : Sp := fun vs H Q _ => ∃ g t, vs = [.ref g] ∧ GridAt C U H g t ∧ ∀ it, H it = none → Q (.ref it) (upd H it (ItT (U t) it 0))
def spGStr (C : Addr) (U : Bool → Addr) : Sp := fun vs H Q _ => ∃ g t, vs = [.ref g] ∧ GridAt C U H g t ∧ Q (.str (nm t)) H
def spGDir (K : PySem.W.Frag) (C : Addr) (U : Bool → Addr) : Sp := fun vs H Q _ => ∃ g t a u, vs = [.ref g, .ref a] ∧ GridAt C U H g t ∧ PAt K H a u ∧ ptOk u ∧ Q (dirV t u) H
end GL
/-! operators of own classes: both sides of one class, of two classes, - x, bool(x), x[i] -/
namespace GL
open PySem PySem.Spec PyProof.Rows L2
section
variable {prog : Program} {w : World} {A : Around} {E : Value → Shared → Prop} {s : Shared} {K : PySem.W.Frag} {x C D L f fD : Addr} {h₀ : Heap} {m : Str → Option Value} {ox : Obj} {od : Option Obj} {b : Value}
theorem inst_keep {h h' : Heap} (I : PySem.W.InstAt h x ox C od) (k : ∀ b o, h.get? b = some o → h'.get? b = some o) : PySem.W.InstAt h' x ox C od := by
  refine ⟨k _ _ I.at_, I.cls, I.no, ?_⟩
  have z := I.dict
  revert z
  cases ox.dict <;> cases od <;> intro z <;> first | exact z | exact k _ _ z
/-- what of two classes the text has, where D is no subclass of C -/
structure BinC (K : PySem.W.Frag) (C : Addr) (nm : String) : Prop where
  first : PySem.W.selfFirst K C = true
  own : ∃ f : Addr, PySem.W.findIn K (.ref C) (PySem.dunder nm) = some (some (.ref f))
  refl : PySem.W.findIn K (.ref C) (dunderR nm) = some none
open PySem.W PySem.Calls Builtin in
theorem bin_mixed {op : Operator} {Q : Value → Shared → Prop} (F : Fr h₀ L s.heap m) (X₀ : K.In h₀) (I : InstAt s.heap x ox C od) (hb : Looks (model prog w) s.heap (typeOf b) (.ref D)) (hCD : C ≠ D)
    (cC : BinC K C op.info.2) (cD : BinC K D op.info.2) (hs : findIn K (.ref C) (PySem.dunder op.info.2) = some (some (.ref f))) (hf : isFn K (.ref f) = true) (hsub : subIn K (.ref D) (.ref C) = some false)
    (h : wpAny (model prog w) A (call (.ref f) [.ref x, b]) (PySem.W.CmpBack Q) E s) : wpAny (model prog w) A (binaryOp op (.ref x) b) Q E s := by
  have X := X₀.keeps F.keep
  obtain ⟨cd, rest, hcd, hm⟩ := ksp_first cC.first
  obtain ⟨cd2, rest2, hcd2, hm2⟩ := ksp_first cD.first
  obtain ⟨gD, hsD⟩ := cD.own
  have hrC := cC.refl
  have hrD := cD.refl
  rcases hi : op.info with ⟨sym, nm'⟩
  rw [hi] at hs hsD hrC hrD
  dsimp only at hs hsD hrC hrD
  have one := ksp_try X I hs hf h
  obtain ⟨hh, g, d, tt, os⟩ := s
  have M1 : Looks (model prog w) hh (typeOf (.ref x)) (.ref C) := I.type
  have M2 : Looks (model prog w) hh (typeOf b) (.ref D) := hb
  have M3 : Looks (model prog w) hh (fillsNumberSlot (.ref C) nm') true := fills_K X hcd hm hs
  have M4 : Looks (model prog w) hh (fillsNumberSlot (.ref D) nm') true := fills_K X hcd2 hm2 hsD
  have M5 : Looks (model prog w) hh (isSubtype (.ref D) (.ref C)) false := looks_subIn X hsub
  have M6 : Looks (model prog w) hh (numberSlotInPython (.ref C) nm') true := ksp_inPy X hs hrC (.inl rfl)
  have M7 : Looks (model prog w) hh (numberSlotInPython (.ref D) nm') true := ksp_inPy X hsD hrD (.inl rfl)
  have hne : (Value.ref C == Value.ref D) = false := Bool.eq_false_iff.mpr fun q => by cases beq_iff_eq.mp q; exact hCD rfl
  simp only [binaryOp, hi]
  refine wpAny_holding (wpAny_bind ?_)
  unfold binaryOp1
  refine wpAny_bind (M1.at (wpAny_bind (M2.at (wpAny_bind (M3.at ?_)))))
  simp only [hne, Bool.false_eq_true, if_false]
  ksp_lk
  refine wpAny_mono one (fun r s' hr' => ?_) fun _ _ e => e
  obtain ⟨v, rfl, hq⟩ := hr'
  ksp_lk
  exact hq

open PySem.W PySem.Calls Builtin in
theorem raise_attr {M : Model} {α : Type} {msg : Str} {Q : α → Shared → Prop} (hh : A.handled = none) (hm : msg.length ≤ sizeLine)
    (h : ∀ h' tk e, (∀ b o, s.heap.get? b = some o → h'.get? b = some o) → (∃ o, h'.get? e = some o ∧ o.cls = .type "AttributeError") → E (.ref e) { s with heap := h', toks := tk }) :
    wpAny M A (raiseErrorStr "AttributeError" msg : Sem α) Q E s := by
  obtain ⟨hp, g, d, tk, os⟩ := s
  unfold raiseErrorStr
  refine wpAny_bind (wpAny_mkStr ?_ hm)
  refine wpAny_bind ?_
  unfold newExc newTuple
  refine wpAny_bind (wpAny_newObj_type ?_ (by size_fits))
  refine wpAny_bind (m := firstArgMember _ _) (wpAny_of_eq (a := Value.none) (by simp only [firstArgMember, attrError_no_first]; rfl) ?_)
  rw [ownMembersOf_AttributeError]
  refine wpAny_newObj_type ?_ (by size_fits)
  unfold raiseNew
  refine wpAny_bind (wpAny_handled ?_)
  rw [hh]
  first
    | refine wpAny_throw ?_
    | refine wpAny_bind (wpAny_pure (wpAny_throw ?_))
  dsimp only
  exact h _ _ _ (fun b o e => Heap.get?_push_of_some _ (Heap.get?_push_of_some _ e)) ⟨_, Heap.get?_push_size _ rfl, rfl⟩
open PySem.W PySem.Calls Builtin in
/-- a class has no attribute of a name: an error is made and forgotten -/
theorem cls_miss {tk0 : Tok} {name nm : Str} {cd : ClassData} {Q : Option Value → Shared → Prop} (X : K.In s.heap) (ho : nsIn K cStatics "thirdparty.any" = some none) (hty : typeIn K (.ref D) = some (.type "type")) (h1 : findIn K (.type "type") name = some none)
    (h2 : findIn K (.ref D) name = some none) (hga : findIn K (.type "type") "__getattribute__" = some (some (.builtin "type.__getattribute__"))) (hgg : findIn K (.type "type") "__getattr__" = some none) (hcd : clsIn K D = some cd) (hcn : cd.name = nm)
    (hs8 : nm.cps.foldl (fun k c => k + (Str.utf8Of c).length) 0 ≤ 100) (hfit : (((s!"type object '{nm.toString}' has no attribute '" : String) : Str) ++ name ++ ("'" : Str)).length ≤ sizeLine) (hh : A.handled = none)
    (h : ∀ h' tk, (∀ b o, s.heap.get? b = some o → h'.get? b = some o) → Q none { s with heap := h', toks := tk }) : wpAny (model prog w) A (getAttrBy? (.ref D) (.str name tk0)) Q E s := by
  have LO : Looks (model prog w) s.heap (opaqueClassAbove (.ref D)) none := looks_opaque X ho
  have LT : Looks (model prog w) s.heap (typeOf (.ref D)) (.type "type") := looks_typeIn X hty
  have LG := looks_findIn (M := model prog w) X hga
  have L1 := looks_findIn (M := model prog w) X h1
  have L2 := looks_findIn (M := model prog w) X h2
  have L3 := looks_findIn (M := model prog w) X hgg
  have LC := looks_clsIn (M := model prog w) X hcd
  obtain ⟨hp, g, d, tk, os⟩ := s
  dsimp only at X LO LT LG L1 L2 L3 LC h
  unfold getAttrBy? getAttrBy
  refine wpAny_bind (wpAny_attempt (wpAny_holding (wpAny_bind (LT.at (wpAny_bind (LG.at ?_))))))
  dsimp only
  rw [show (onTheHeap (.type "type") && Value.builtin "type.__getattribute__" == Value.builtin "object.__getattribute__") = false from rfl, if_neg (by decide)]
  unfold getAttrByItsOwn
  refine wpAny_bind (m := hookBefore (.type "type")) (wpAny_pure ?_)
  refine wpAny_bind (wpAny_attempt (wpAny_holding ?_))
  unfold callGetattribute
  rw [show (false && onTheHeap (Value.builtin "type.__getattribute__")) = false from rfl, if_neg (by decide)]
  unfold boundAndCalled
  rw [KF.slot_tga.bind]
  refine wpAny_bind (wpAny_pure ?_)
  show wpAny _ _ (call (.builtin "type.__getattribute__") [.ref D, .str name tk0]) _ _ _
  refine wpAny_call ?_
  refine codeAny_call_builtin KF.slot_tga.plain KF.entry_tga ?_
  refine @check_slot (model prog w) _ _ ⟨hp, g, d, tk, os⟩ "type.__getattribute__" "type" "__getattribute__" (.ref D) [.str name tk0] [] _ (by decide +kernel) (by decide +kernel) (LT.andThen (Looks.of_pure (by rw [isSubtype_type]; kernel_rfl))) (KF.args_tga (.ref D) (.str name tk0)) ?_
  unfold Builtin.«type.__getattribute__»
  refine wpAny_bind (wpAny_pure (wpAny_bind (LO.at (wpAny_bind (LT.at (wpAny_bind (L1.at ?_)))))))
  refine wpAny_bind (wpAny_pure ?_)
  refine wpAny_bind (L2.at ?_)
  dsimp only
  refine wpAny_bind (wpAny_rule ?_)
  unfold typeNameCut
  refine wpAny_bind (wpAny_bind (LC.at ?_))
  dsimp only
  rw [hcn, if_pos hs8]
  refine wpAny_pure ?_
  refine raise_attr hh hfit fun h' tk' e keep ⟨o, ho', hc⟩ => ?_
  have L3' : Looks (model prog w) h' (typeLookup (.type "type") "__getattr__") none := L3.keeps keep
  have isE : ∀ t'', (⟨h', g, d, t'', os⟩ : Shared).TypeIs (.ref e) "AttributeError" := fun _ => ⟨o, ho', hc⟩
  unfold getattributeRaised
  refine wpAny_bind (wpAny_isInstance (isE _) sub_AttributeError ?_)
  rw [if_pos rfl]
  unfold hookBehind
  refine wpAny_bind (L3'.at ?_)
  show wpAny _ _ (throw (.ref e)) _ _ _
  refine wpAny_throw ?_
  refine wpAny_bind (wpAny_isInstance (isE _) sub_AttributeError ?_)
  rw [if_pos rfl]
  exact wpAny_pure (h _ _ keep)
open PySem.W PySem.Calls Builtin in
/-- b is of a class derived from that of x -/
theorem bin_sub {op : Operator} {nm : Str} {cd : ClassData} {Q : Value → Shared → Prop} (F : Fr h₀ L s.heap m) (X₀ : K.In h₀) (I : InstAt s.heap x ox C od) (hb : Looks (model prog w) s.heap (typeOf b) (.ref D)) (hCD : C ≠ D)
    (cC : BinC K C op.info.2) (cD : BinC K D op.info.2) (hs : findIn K (.ref C) (PySem.dunder op.info.2) = some (some (.ref f))) (hf : isFn K (.ref f) = true) (hsub : subIn K (.ref D) (.ref C) = some true)
    (ho : nsIn K cStatics "thirdparty.any" = some none) (hty : typeIn K (.ref D) = some (.type "type")) (h1 : findIn K (.type "type") (dunderR op.info.2) = some none)
    (hga : findIn K (.type "type") "__getattribute__" = some (some (.builtin "type.__getattribute__"))) (hgg : findIn K (.type "type") "__getattr__" = some none) (hcd : clsIn K D = some cd) (hcn : cd.name = nm)
    (hs8 : nm.cps.foldl (fun k c => k + (Str.utf8Of c).length) 0 ≤ 100) (hfit : (((s!"type object '{nm.toString}' has no attribute '" : String) : Str) ++ dunderR op.info.2 ++ ("'" : Str)).length ≤ sizeLine) (hfit2 : (dunderR op.info.2).length ≤ sizeLine) (hh : A.handled = none)
    (h : ∀ h' tk, (∀ b o, s.heap.get? b = some o → h'.get? b = some o) → wpAny (model prog w) A (call (.ref f) [.ref x, b]) (PySem.W.CmpBack Q) E { s with heap := h', toks := tk }) : wpAny (model prog w) A (binaryOp op (.ref x) b) Q E s := by
  have X := X₀.keeps F.keep
  obtain ⟨cd1, rest, hcd1, hm⟩ := ksp_first cC.first
  obtain ⟨cd2, rest2, hcd2, hm2⟩ := ksp_first cD.first
  obtain ⟨gD, hsD⟩ := cD.own
  have hrC := cC.refl
  have hrD := cD.refl
  rcases hi : op.info with ⟨sym, nm'⟩
  rw [hi] at hs hsD hrC hrD h1 hfit hfit2
  dsimp only at hs hsD hrC hrD h1 hfit hfit2
  obtain ⟨hp, g, d, tt, os⟩ := s
  have M1 : Looks (model prog w) hp (typeOf (.ref x)) (.ref C) := I.type
  have M2 : Looks (model prog w) hp (typeOf b) (.ref D) := hb
  have M3 : Looks (model prog w) hp (fillsNumberSlot (.ref C) nm') true := fills_K X hcd1 hm hs
  have M4 : Looks (model prog w) hp (fillsNumberSlot (.ref D) nm') true := fills_K X hcd2 hm2 hsD
  have M5 : Looks (model prog w) hp (isSubtype (.ref D) (.ref C)) true := looks_subIn X hsub
  have M6 : Looks (model prog w) hp (numberSlotInPython (.ref C) nm') true := ksp_inPy X hs hrC (.inl rfl)
  have M7 : Looks (model prog w) hp (numberSlotInPython (.ref D) nm') true := ksp_inPy X hsD hrD (.inl rfl)
  have hne : (Value.ref C == Value.ref D) = false := Bool.eq_false_iff.mpr fun q => by cases beq_iff_eq.mp q; exact hCD rfl
  simp only [binaryOp, hi]
  refine wpAny_holding (wpAny_bind ?_)
  unfold binaryOp1
  refine wpAny_bind (M1.at (wpAny_bind (M2.at (wpAny_bind (M3.at ?_)))))
  simp only [hne, Bool.false_eq_true, if_false]
  refine wpAny_bind (M4.at ?_)
  simp only [Bool.and_self, if_true]
  refine wpAny_bind (M5.at ?_)
  simp only [if_true]
  unfold reflectedDiffers
  refine wpAny_bind (wpAny_bind (M6.at ?_))
  simp only [Bool.not_true, Bool.false_eq_true, if_false]
  refine wpAny_bind (M7.at ?_)
  simp only [Bool.not_true, Bool.false_eq_true, if_false]
  refine wpAny_bind (wpAny_mkStr ?_ hfit2)
  refine wpAny_bind (cls_miss (s := ⟨hp, g, d, _, os⟩) X ho hty h1 hrD hga hgg hcd hcn hs8 hfit hh fun h' tk keep => ?_)
  have N6 : Looks (model prog w) h' (numberSlotInPython (.ref C) nm') true := M6.keeps keep
  have N7 : Looks (model prog w) h' (numberSlotInPython (.ref D) nm') true := M7.keeps keep
  have one := ksp_try (s := ⟨h', g, d, tk, os⟩) (X.keeps keep) (inst_keep I keep) hs hf (h h' tk keep)
  refine wpAny_pure ?_
  simp only [Bool.false_eq_true, if_false]
  refine wpAny_bind ?_
  simp only [Bool.not_false, Bool.and_self, if_true]
  refine N6.at ?_
  simp only [if_true]
  refine wpAny_bind (N7.at ?_)
  simp only [Bool.not_true, Bool.false_eq_true, if_false]
  refine wpAny_bind (wpAny_mono one (fun r s' hr' => ?_) fun _ _ e => e)
  obtain ⟨v, rfl, hq⟩ := hr'
  exact wpAny_pure (wpAny_pure hq)
end

section
variable {prog : Program} {w : World} {A : Around} {E : Value → Shared → Prop} {s : Shared} {x : Addr}
theorem plain_bool_new : plainId "bool.__new__" = true := by decide +kernel
theorem owner_bool_new : ("bool.__new__".splitOn ".__new__").headD "" = "bool" := by simp +decide [String.splitOn, String.splitOnAux]
theorem code_bool_new {Q₁ : Value → Shared → Prop} (h : wpAny (model prog w) A.in1 (truthy (.ref x)) (fun b s' => Q₁ (.bool b) s') E s) :
    codeAny (model prog w) A (.call (.builtin "bool.__new__") ⟨[.type "bool", .ref x], []⟩) (wants Q₁ E) s := by
  refine codeAny_of_tree ?_
  show wpAny _ A.in1 (do checkBuiltinCall "bool.__new__" ⟨[.type "bool", .ref x], []⟩; again (.builtin "bool.__new__" ⟨[.type "bool", .ref x], []⟩)) _ _ s
  refine wpAny_bind (wpAny_of_eq (F.newCall_bool_1 _) (wpAny_pure ⟨plainId_quiet plain_bool_new _, codeAny_builtin F.entry_bool_new ?_⟩))
  rw [Around.under_plainId plain_bool_new _]
  have hsub := F.conv_sub_bool
  have hown := owner_bool_new
  obtain ⟨hp, g, d, tk, os⟩ := s
  unfold Builtin.«bool.__new__»
  refine wpAny_bind (m := isType _) (wpAny_pure ?_)
  simp only [Bool.not_true, Bool.false_eq_true, if_false]
  refine wpAny_bind ?_
  rw [hsub]
  refine wpAny_pure ?_
  simp only [Bool.not_true, Bool.false_eq_true, if_false]
  refine wpAny_bind (m := someArgs _ _ _ _) (wpAny_of_eq (a := [Value.ref x]) (by first | rfl | kernel_rfl!) ?_)
  exact wpAny_bind (wpAny_mono h (fun b s' z => wpAny_pure z) fun _ _ z => z)
theorem call_bool_inst {Q : Value → Shared → Prop} (h : wpAny (model prog w) A.in1.in1 (truthy (.ref x)) (fun b s' => Q (.bool b) s') E s) : wpAny (model prog w) A (call (.type "bool") [.ref x]) Q E s := by
  refine callType_codes (Q₁ := fun obj s' => ∃ b, obj = .bool b ∧ Q (.bool b) s') F.called_bool (F.typeCall_bool_1 _) F.entry_object_init (code_bool_new (wpAny_mono h (fun b s' z => ⟨b, rfl, z⟩) fun _ _ z => z)) fun obj s₁ ⟨b, eb, q⟩ => ?_
  subst eb
  have hT : s₁.TypeIs (.bool b) "bool" := rfl
  exact ⟨hT, F.args_object_init_2 _ _, object_init_meets F.called_bool.init.lookup F.called_bool.made F.newNe_bool prog w A.in1 _ s₁ (⟨hT, rfl, q⟩)⟩
end

/-- what the text has of two classes, for an operator with an instance of each -/
structure SubC (K : PySem.W.Frag) (D : Addr) (r : Str) (nm : Str) (cd : ClassData) : Prop where
  ho : PySem.W.nsIn K cStatics "thirdparty.any" = some none
  hty : PySem.W.typeIn K (.ref D) = some (.type "type")
  h1 : PySem.W.findIn K (.type "type") r = some none
  hga : PySem.W.findIn K (.type "type") "__getattribute__" = some (some (.builtin "type.__getattribute__"))
  hgg : PySem.W.findIn K (.type "type") "__getattr__" = some none
  hcd : PySem.W.clsIn K D = some cd
  hcn : cd.name = nm
  hs8 : nm.cps.foldl (fun k c => k + (Str.utf8Of c).length) 0 ≤ 100
  hfit : (((s!"type object '{nm.toString}' has no attribute '" : String) : Str) ++ r ++ ("'" : Str)).length ≤ sizeLine
  hfit2 : r.length ≤ sizeLine
inductive BinK (K : PySem.W.Frag) (C D : Addr) (op : Operator) : Prop where
  | same (e : C = D) (c : PySem.W.selfFirst K C = true)
  | mixed (n : C ≠ D) (c : BinC K C op.info.2) (d : BinC K D op.info.2) (s : PySem.W.subIn K (.ref D) (.ref C) = some false)
  | sub (n : C ≠ D) (c : BinC K C op.info.2) (d : BinC K D op.info.2) (s : PySem.W.subIn K (.ref D) (.ref C) = some true) (nm : Str) (cd : ClassData) (z : SubC K D (dunderR op.info.2) nm cd)
theorem rel_back {v : V} {u : Value} {Q : Value → Shared → Prop} {s : Shared} (r : RelV v u) (q : Q u s) : PySem.W.CmpBack Q u s := by
  cases v with
  | non => cases (show u = Value.none from r); exact q
  | bl b => cases (show u = Value.bool b from r); exact q
  | int i => obtain ⟨t, rfl⟩ := (show ∃ t, u = Value.int i t from r); exact q
  | str x => obtain ⟨t, rfl⟩ := (show ∃ t, u = Value.str x t from r); exact q
  | byt b => obtain ⟨t, rfl⟩ := (show ∃ t, u = Value.bytes b t from r); exact q
  | flt b => obtain ⟨t, rfl⟩ := (show ∃ t, u = Value.float b t from r); exact q
  | ref a => cases (show u = Value.ref a from r); exact q
  | ty n => cases (show u = Value.type n from r); exact q
section
variable {X : Cx} {CX : CXT} {k : Nat} {IsV : Addr → Prop} {sp : Sp} {E : XK} {m : Str} {ta tb : TE} {t : TA} {o e a b : Expr} {es : List Expr} {pos apos : Pos}
/-- x op y, both of classes of a family -/
def rBinV (IsV : Addr → Prop) (sp : Sp) (E : XK) : R2 := fun x y H Q => ∃ a b C D dx dy fs gs, x = .ref a ∧ y = .ref b ∧ IsV C ∧ IsV D ∧ H a = some (.ins C dx fs) ∧ H b = some (.ins D dy gs) ∧ sp [.ref a, .ref b] H Q E
theorem op_binV {op : Operator} (hn : PySem.dunder op.info.2 = m) (h : ∀ C, IsV C → HasM X.prog X.w X.K X.mg X.base CX C m k ["self", "other"] sp) (bk : ∀ C D, IsV C → IsV D → BinK X.K C D op) (g : Gd X.A) (hr : Room k X.A) (hx : Passes CX X E) :
    OpR X (binaryOp op) (rBinV IsV sp E) := by
  intro pins s σ H x y v u Q I rx ry hq
  obtain ⟨a, b, C, D, dx, dy, fs, gs, rfl, rfl, vC, vD, ha, hb, q⟩ := hq
  cases (show v = Value.ref a from rx)
  cases (show u = Value.ref b from ry)
  obtain ⟨f, fd, F, M, bi⟩ := (h C vC).ex
  obtain ⟨_, O1, _⟩ := ins_get I.hok ha
  obtain ⟨_, O2, _⟩ := ins_get I.hok hb
  obtain ⟨od, J, _⟩ := O1.look
  obtain ⟨od2, J2, _⟩ := O2.look
  obtain ⟨m', fr⟩ := I.fr
  have tb : PySem.W.Looks (model X.prog X.w) s.heap (typeOf (.ref b)) (.ref D) := J2.type
  have at_ : PySem.W.findIn X.K (.ref C) (PySem.dunder op.info.2) = some (some (.ref f)) := by rw [hn]; exact M.at_
  have run : ∀ h' tk, (∀ b o, s.heap.get? b = some o → h'.get? b = some o) → wpAny (model X.prog X.w) X.A (call (.ref f) [.ref a, .ref b]) (PySem.W.CmpBack (EP X pins σ Q)) X.xe { s with heap := h', toks := tk } := by
    intro h' tk keep
    have I2 : Inv X pins σ H { s with heap := h', toks := tk } := I.kept keep
    have b1 := bi { s with heap := h', toks := tk } [.ref a, .ref b] I2.kIn rfl
    rw [List.append_nil] at b1
    apply wpAny_call
    refine codeAny_mono (F.go g hr I2.env0 b1 (vs := [.ref a, .ref b]) (.cons rfl (.cons rfl .nil)) q) (fun res s' z => ?_)
    match res, z with
    | .error _, z => exact hx pins σ H _ _ s' I2 z
    | .ok (.ret _), z =>
      obtain ⟨v, H', I', rv, q2⟩ := I2.after z
      exact rel_back rv ⟨v, H', I', rv, q2⟩
  cases bk C D vC vD with
  | same e c =>
    subst e
    exact PySem.W.binop_K fr I.mod.kin J tb c at_ M.fn (run s.heap s.toks (fun _ _ e => e))
  | mixed n c d sb => exact bin_mixed fr I.mod.kin J tb n c d at_ M.fn sb (run s.heap s.toks (fun _ _ e => e))
  | sub n c d sb nm cd z => exact bin_sub fr I.mod.kin J tb n c d at_ M.fn sb z.ho z.hty z.h1 z.hga z.hgg z.hcd z.hcn z.hs8 z.hfit z.hfit2 hr.hd run
/-- o.m(args), o of a class of the family -/
def tMethV (IsV : Addr → Prop) (m : Str) (sp : Sp) (E : XK) (ta : TE) (t : TA) : TE := fun σ H Q => ta σ H fun x H1 => ∃ a C dx fs, x = .ref a ∧ IsV C ∧ H1 a = some (.ins C dx fs) ∧ fs.lookup m = none ∧ t σ H1 fun vs H2 => sp (.ref a :: vs) H2 Q E
theorem pe_methV {pl : Sem Bool} (he : PE X o ta) (c : ∀ C, IsV C → Cls X.K C) (h : ∀ C, IsV C → ∃ ps, HasM X.prog X.w X.K X.mg X.base CX C m k ps sp) (g : Gd X.A) (hr : Room k X.A) (hx : Passes CX X E) (ha : PA X (e :: es) t)
    (hst : starEach (e :: es) X.env = (false, eval e X.env) :: starEach es X.env := by rfl) (hpl : (backTo pos (starEach es X.env)).any (·.1) = false := by rfl)
    (ht : eval (.Call (.Attribute o m apos) (e :: es) [] pos) X.env = ((eval o X.env).bind fun ov => (standAt apos.atName).bind fun _ => (holding [ov] (getMethod ov m pl)).bind fun fm =>
      callWith pos fm.1 fm.2 (backTo pos (starEach (e :: es) X.env)) (backToKw pos (keywordEach [] X.env))) := by rfl) :
    PE X (.Call (.Attribute o m apos) (e :: es) [] pos) (tMethV IsV m sp E ta t) := by
  constructor
  intro pins s σ H Q I q
  refine PySem.W.methodCall_KW (pl := pl) (thn (he.run pins s σ H _ I q) (fun u s1 z => ?_)) ht
  obtain ⟨x, H1, I1, rx, a, C, dx, fs, ex, vC, ea, l, q1⟩ := z
  subst ex
  obtain ⟨ps, hC⟩ := h C vC
  obtain ⟨f, fd, F, M, b⟩ := hC.ex
  cases (show u = Value.ref a from rx)
  apply getmeth_ok I1 ea (c C vC) M l
  refine PySem.W.callWith_K (first := [.ref a]) (h₀ := X.base) I.ok.mod.kin M.kp (thn (ha.run pos pins s1 σ H1 _ I1 q1) (fun us s2 z => ?_)) hst hpl
  obtain ⟨vs, H2, I2, r, q2⟩ := z
  exact ⟨I2.kIn, goes (us := .ref a :: us) (vs := .ref a :: vs) F g hr b hx I2 (.cons rfl r) q2⟩
theorem pe_methV0 {pl : Sem Bool} (he : PE X o ta) (c : ∀ C, IsV C → Cls X.K C) (h : ∀ C, IsV C → ∃ ps, HasM X.prog X.w X.K X.mg X.base CX C m k ps sp) (g : Gd X.A) (hr : Room k X.A) (hx : Passes CX X E)
    (ht : eval (.Call (.Attribute o m apos) [] [] pos) X.env = ((eval o X.env).bind fun ov => (standAt apos.atName).bind fun _ => (holding [ov] (getMethod ov m pl)).bind fun fm =>
      callWith pos fm.1 fm.2 (backTo pos (starEach [] X.env)) (backToKw pos (keywordEach [] X.env))) := by rfl) :
    PE X (.Call (.Attribute o m apos) [] [] pos) (tMethV IsV m sp E ta tNil) := by
  constructor
  intro pins s σ H Q I q
  refine PySem.W.methodCall_KW (pl := pl) (thn (he.run pins s σ H _ I q) (fun u s1 z => ?_)) ht
  obtain ⟨x, H1, I1, rx, a, C, dx, fs, ex, vC, ea, l, q1⟩ := z
  subst ex
  obtain ⟨ps, hC⟩ := h C vC
  obtain ⟨f, fd, F, M, b⟩ := hC.ex
  cases (show u = Value.ref a from rx)
  apply getmeth_ok I1 ea (c C vC) M l
  exact PySem.W.callWith_K0 (first := [.ref a]) I1.kIn M.kp (goes (us := [.ref a]) (vs := [.ref a]) F g hr b hx I1 (.cons rfl .nil) q1)
/-- x == y, x != y: x of a class of the family, y of no class below it -/
def rEqV (K : PySem.W.Frag) (IsV : Addr → Prop) (sp : Sp) (E : XK) (neg : Bool) : R2 := fun x y H Q => ∃ a C dx fs t, x = .ref a ∧ IsV C ∧ H a = some (.ins C dx fs) ∧ TyX K H y t ∧ PySem.W.notFirst K C t = true ∧
  sp [.ref a, y] H (fun v H' => ∃ r, v = .bl r ∧ Q (.bl (neg != r)) H') E
theorem op_eqV (h : ∀ C, IsV C → HasM X.prog X.w X.K X.mg X.base CX C "__eq__" k ["self", "other"] sp) (g : Gd X.A) (hr : Room k X.A) (hx : Passes CX X E) : OpR X (compareOp .Eq) (rEqV X.K IsV sp E false) := by
  intro pins s σ H x y v u Q I rx ry hq
  obtain ⟨a, C, dx, fs, t, rfl, vC, ha, ty, nf, q⟩ := hq
  exact op_eqA (h C vC) g hr hx pins s σ H _ y v u Q I rx ry ⟨a, dx, fs, t, rfl, ha, ty, nf, q⟩
theorem op_neV (h : ∀ C, IsV C → HasM X.prog X.w X.K X.mg X.base CX C "__eq__" k ["self", "other"] sp) (e : ∀ C, IsV C → EqC X.K C) (g : Gd X.A) (hr : Room (k + 1) X.A) (hx : Passes CX X E) : OpR X (compareOp .NotEq) (rEqV X.K IsV sp E true) := by
  intro pins s σ H x y v u Q I rx ry hq
  obtain ⟨a, C, dx, fs, t, rfl, vC, ha, ty, nf, q⟩ := hq
  exact op_neA (h C vC) (e C vC) g hr hx pins s σ H _ y v u Q I rx ry ⟨a, dx, fs, t, rfl, ha, ty, nf, q⟩
/-- an instance of the family, alone -/
def rOneV (IsV : Addr → Prop) (sp : Sp) (E : XK) : List V → Hp → VK → Prop := fun xs H Q => ∃ a C dx fs, xs = [.ref a] ∧ IsV C ∧ H a = some (.ins C dx fs) ∧ sp [.ref a] H Q E
theorem call_strV (h : ∀ C, IsV C → HasM X.prog X.w X.K X.mg X.base CX C "__str__" k ["self"] sp) (g : Gd X.A) (hr : Room (k + 2) X.A) (hx : Passes CX X E) :
    CallR X (.type "str") (fun xs H Q => rOneV IsV sp E xs H fun v H' => ∃ y, v = .str y ∧ Q (.str y) H') := by
  intro pins s σ H xs us Q I r q
  obtain ⟨a, C, dx, fs, rfl, vC, ea, q1⟩ := q
  exact call_strM (h C vC) g hr hx pins s σ H _ us Q I r ⟨a, dx, fs, rfl, ea, q1⟩
theorem call_boolV (h : ∀ C, IsV C → HasM X.prog X.w X.K X.mg X.base CX C "__bool__" k ["self"] sp) (g : Gd X.A) (hr : Room (k + 2) X.A) (hx : Passes CX X E) :
    CallR X (.type "bool") (fun xs H Q => rOneV IsV sp E xs H fun v H' => ∃ y, v = .bl y ∧ Q (.bl y) H') := by
  intro pins s σ H xs us Q I r q
  obtain ⟨a, C, dx, fs, rfl, vC, ea, q1⟩ := q
  obtain ⟨f, fd, F, M, b⟩ := (h C vC).ex
  obtain ⟨u, rfl, ru⟩ := vals1 r
  cases (show u = Value.ref a from ru)
  obtain ⟨mA, O, _⟩ := ins_get I.hok ea
  obtain ⟨od, J, _⟩ := O.look
  have b1 := b s [.ref a] I.kIn rfl
  rw [List.append_nil] at b1
  obtain ⟨m', fr⟩ := I.fr
  refine call_bool_inst ?_
  refine PySem.W.truthy_K fr I.mod.kin J M.at_ M.fn ?_
  apply wpAny_call
  refine codeAny_mono (F.go (A := X.A.in1.in1) g hr.in1.in1 I.env0.in1.in1 b1 (vs := [.ref a]) (.cons rfl .nil) q1) (fun res s' z => ?_)
  match res, z with
  | .error _, z => exact hx pins σ H s _ s' I z
  | .ok (.ret _), z =>
    obtain ⟨v, H', I', rv, y, rfl, q2⟩ := I.after z
    cases (show _ = Value.bool y from rv)
    exact ⟨.bl y, H', I', rfl, q2⟩
theorem un_negV (h : ∀ C, IsV C → HasM X.prog X.w X.K X.mg X.base CX C "__neg__" k ["self"] sp) (g : Gd X.A) (hr : Room k X.A) (hx : Passes CX X E) : UnR X (unaryOp .USub) (fun x H Q => rOneV IsV sp E [x] H Q) := by
  intro pins s σ H x v Q I rx q
  obtain ⟨a, C, dx, fs, ex, vC, ea, q1⟩ := q
  cases ex
  cases (show v = Value.ref a from rx)
  obtain ⟨f, fd, F, M, b⟩ := (h C vC).ex
  obtain ⟨mA, O, _⟩ := ins_get I.hok ea
  obtain ⟨od, J, _⟩ := O.look
  have b1 := b s [.ref a] I.kIn rfl
  rw [List.append_nil] at b1
  obtain ⟨m', fr⟩ := I.fr
  refine PySem.W.ksp_neg fr I.mod.kin J M.at_ M.fn ?_
  apply wpAny_call
  refine codeAny_mono (F.go g hr I.env0 b1 (vs := [.ref a]) (.cons rfl .nil) q1) (fun res s' z => ?_)
  match res, z with
  | .error _, z => exact hx pins σ H s _ s' I z
  | .ok (.ret _), z => exact I.after z
/-- x[i], x of a class of the family with its own __getitem__ -/
theorem pe_ixV (h : ∀ C, IsV C → HasM X.prog X.w X.K X.mg X.base CX C "__getitem__" k ["self", "index"] sp) (g : Gd X.A) (hr : Room (k + 1) X.A) (hx : Passes CX X E) (ha : PE X a ta) (hb : PE X b tb)
    (hfn : ∀ C f, IsV C → PySem.W.findIn X.K (.ref C) "__getitem__" = some (some (.ref f)) → PySem.W.fnIn X.K f = true)
    (hs : ∀ x i, subscripted b true (.ref x) i = runValue (.builtin "lifetime.subscript" ⟨[.ref x, i], []⟩) := by exact fun _ _ => rfl) :
    PE X (.Subscript a b pos) (tOp (fun x y H Q => ∃ p C dx fs, x = .ref p ∧ IsV C ∧ H p = some (.ins C dx fs) ∧ sp [.ref p, y] H Q E) ta tb) := by
  refine ⟨fun pins s σ H Q I q => ?_⟩
  refine Subscript_ (binT ha hb I q fun v u s2 x y H2 I2 rx ry q => ?_)
  obtain ⟨p, C, dx, fs, ex, vC, ea, q1⟩ := q
  subst ex
  cases (show v = Value.ref p from rx)
  obtain ⟨f, fd, F, M, b⟩ := (h C vC).ex
  obtain ⟨mA, O, _⟩ := ins_get I2.hok ea
  obtain ⟨od, J, _⟩ := O.look
  have b1 := b s2 [.ref p, u] I2.kIn rfl
  rw [List.append_nil] at b1
  obtain ⟨m', fr⟩ := I2.fr
  refine PySem.W.sub_K fr I2.mod.kin J M.at_ (hfn C f vC M.at_) M.fn ?_ (hs _ _)
  apply wpAny_call
  refine codeAny_mono (F.go (A := X.A.in1) g hr.in1 I2.env0.in1 b1 (vs := [.ref p, y]) (.cons rfl (.cons ry .nil)) q1) (fun res s' z => ?_)
  match res, z with
  | .error _, z => exact hx pins σ H2 s2 _ s' I2 z
  | .ok (.ret _), z => exact I2.after z
end
end GL
/-! repr of data of any form without dicts, its ints of up to 4300 digits -/
namespace GL
open PySem PySem.Spec PyProof.Rows L2
mutual
def okD : PyData → Bool
  | .int i => decide (i.natAbs < 10 ^ 4300)
  | .list xs => okAll xs
  | .tuple xs => okAll xs
  | .dict _ => false
  | _ => true
def okAll : List PyData → Bool
  | [] => true
  | d :: r => okD d && okAll r
end
section
variable {prog : Program} {w : World} {h₀ : Heap}
mutual
theorem rep_of (nd : h₀.NoDigits) : ∀ {v : Value} {d : PyData} {as : List Addr}, Reads h₀ v d as → okD d = true → d.shown.length ≤ sizeLine → ∃ bs, ReadAtMost h₀ d.depth bs ∧ ReprK prog w bs h₀ d.depth v d.shown
  | _, _, _, .none, _, _ => ⟨[], (fun _ z => nomatch z), by simp only [PyData.shown]; exact ReprK.of_is ReprIs.none _ _ _⟩
  | _, _, _, .bool b, _, _ => ⟨[], (fun _ z => nomatch z), by simp only [PyData.shown]; exact ReprK.of_is (ReprIs.bool b) _ _ _⟩
  | _, _, _, .int i t, ok, _ => ⟨[], (fun _ z => nomatch z), by simp only [PyData.shown]; exact big_leaf nd t (show i.natAbs < 10 ^ 4300 from of_decide_eq_true (by simpa only [okD] using ok)) [] _⟩
  | _, _, _, .str x t, _, sz => ⟨[], (fun _ z => nomatch z), by simp only [PyData.shown]; exact ReprK.of_is (ReprIs.str x t (by simpa only [PyData.shown] using sz)) _ _ _⟩
  | _, _, _, .list (a := a) (vs := vs) (xs := xs) p1 p2 p3 p4, ok, sz => by
    have sz2 : (listText (PyData.shownAll xs)).length ≤ sizeLine := by simpa only [PyData.shown] using sz
    obtain ⟨bs, few, all⟩ := rep_all nd p4 (by simpa only [okD] using ok) (fun t m => Nat.le_trans (listText_mem_le m) sz2)
    have rd := Reads.list p1 p2 p3 p4
    have out : a ∉ bs := not_mem_of_deeper rd (by simp only [PyData.depth]; omega) few
    refine ⟨a :: bs, ReadAtMost.cons rd (by simp only [PyData.depth]; omega) few, ?_⟩
    simp only [PyData.depth, PyData.shown]
    obtain ⟨l⟩ := vs
    cases l with
    | nil =>
      have p5 : ReadsAll h₀ [] xs _ := p4
      cases p5
      simp only [PyData.shownAll, listText_nil]
      exact .listEmpty p1 p2 p3
    | cons x l => exact .list p1 p2 p3 out (by simpa using all.length_eq) (fun i y e => all.item i y (by simpa using e))
  | _, _, _, .tuple (a := a) (xs := xs) p1 p2 p3 p4, ok, sz => by
    have sz2 : (tupleText (PyData.shownAll xs)).length ≤ sizeLine := by simpa only [PyData.shown] using sz
    obtain ⟨bs, few, all⟩ := rep_all nd p4 (by simpa only [okD] using ok) (fun t m => Nat.le_trans (tupleText_mem_le m) sz2)
    have rd := Reads.tuple p1 p2 p3 p4
    have out : a ∉ bs := not_mem_of_deeper rd (by simp only [PyData.depth]; omega) few
    refine ⟨a :: bs, ReadAtMost.cons rd (by simp only [PyData.depth]; omega) few, ?_⟩
    simp only [PyData.depth, PyData.shown]
    exact .tuple p1 p2 p3 out all
  | _, _, _, .dict .., ok, _ => by simp only [okD] at ok; cases ok
theorem rep_all (nd : h₀.NoDigits) : ∀ {vs : List Value} {ds : List PyData} {as : List Addr}, ReadsAll h₀ vs ds as → okAll ds = true → (∀ t ∈ PyData.shownAll ds, t.length ≤ sizeLine) → ∃ bs, ReadAtMost h₀ (PyData.depthAll ds) bs ∧ ReprAllK prog w bs h₀ (PyData.depthAll ds) vs (PyData.shownAll ds)
  | _, _, _, .nil, _, _ => ⟨[], (fun _ z => nomatch z), by simp only [PyData.shownAll]; exact .nil⟩
  | _, _, _, .cons (d := d) (ds := ds) r rs, ok, sz => by
    have ok2 : okD d = true ∧ okAll ds = true := by simpa [okAll] using ok
    obtain ⟨b1, f1, k1⟩ := rep_of nd r ok2.1 (sz _ (by simp only [PyData.shownAll]; exact List.mem_cons_self ..))
    obtain ⟨b2, f2, k2⟩ := rep_all nd rs ok2.2 (fun t m => sz t (by simp only [PyData.shownAll]; exact List.mem_cons_of_mem _ m))
    refine ⟨b1 ++ b2, (f1.mono (by simp only [PyData.depthAll]; omega)).append (f2.mono (by simp only [PyData.depthAll]; omega)), ?_⟩
    simp only [PyData.depthAll, PyData.shownAll]
    exact .cons ((k1.more fun b m => List.mem_append_left _ m).level_le (by omega)) (k2.more_le (fun b m => List.mem_append_right _ m) (by omega))
end
theorem repr_any {A : Around} {E : Value → Shared → Prop} {s : Shared} {Q : Value → Shared → Prop} {a : Addr} {d : PyData} {as : List Addr} (nd : s.heap.NoDigits) (r : Reads s.heap (.ref a) d as) (ok : okD d = true) (sz : d.shown.length ≤ sizeLine)
    (hg : A.guards = some []) (hu : A.units + (d.depth + 3) < cLine) (hQ : ∀ h' u tk, (∀ b o, s.heap.get? b = some o → h'.get? b = some o) → Q (.str d.shown u) { s with heap := h', toks := tk }) : wpAny (model prog w) A (call (.builtin "repr") [.ref a]) Q E s := by
  cases r with
  | list p1 p2 p3 p4 =>
    rename_i o vs n xs bs₀
    have sz2 : (listText (PyData.shownAll xs)).length ≤ sizeLine := by simpa only [PyData.shown] using sz
    obtain ⟨cs, few, all⟩ := rep_all (prog := prog) (w := w) nd p4 (by simpa only [okD] using ok) (fun t m => Nat.le_trans (listText_mem_le m) sz2)
    have rd := Reads.list p1 p2 p3 p4
    have out : a ∉ cs := not_mem_of_deeper rd (by simp only [PyData.depth]; omega) few
    simp only [PyData.depth] at hu
    simp only [PyData.shown] at hQ
    obtain ⟨l⟩ := vs
    cases l with
    | nil =>
      have p5 : ReadsAll s.heap [] xs _ := p4
      cases p5
      exact repr_of_reads' (.list p1 p2 p3 .nil) (by decide +kernel) (fun z => absurd z (by decide +kernel)) hg (by show A.units + 2 < cLine; omega) (fun _ _ e => e) (fun h' u tk hk => by simpa only [PyData.shown, PyData.shownAll] using hQ h' u tk hk) (by simpa only [PyData.shown] using sz2)
    | cons x l =>
      refine call_repr_slot (by omega) (T := "list") (idr := "list.__repr__") ⟨o, p1, p2⟩ F.slot_list_repr.toG ?_
      exact call_list_reprK p1 p2 p3 out (by simpa using all.length_eq) (fun i y e => all.item i y (by simpa using e)) hg (fun b _ => Clear.nil b) (by show A.units + 1 + (PyData.depthAll xs + 1) < cLine; omega) (fun _ _ e => e) (fun h' u tk hk => ⟨_, _, rfl, hQ h' u tk hk⟩) sz2
  | @tuple _ o vs n xs _ p1 p2 p3 p4 =>
    have sz2 : (tupleText (PyData.shownAll xs)).length ≤ sizeLine := by simpa only [PyData.shown] using sz
    obtain ⟨cs, few, all⟩ := rep_all (prog := prog) (w := w) nd p4 (by simpa only [okD] using ok) (fun t m => Nat.le_trans (tupleText_mem_le m) sz2)
    have rd := Reads.tuple p1 p2 p3 p4
    have out : a ∉ cs := not_mem_of_deeper rd (by simp only [PyData.depth]; omega) few
    simp only [PyData.depth] at hu
    simp only [PyData.shown] at hQ
    refine call_repr_slot (by omega) (T := "tuple") (idr := "tuple.__repr__") ⟨o, p1, p2⟩ F.slot_tuple_repr ?_
    exact call_tuple_reprK p1 p2 p3 out all hg (fun b _ => Clear.nil b) (by show A.units + 1 + (PyData.depthAll xs + 1) < cLine; omega) (fun _ _ e => e) (fun h' u tk hk => ⟨_, _, rfl, hQ h' u tk hk⟩) sz2
  | dict p1 p2 p3 p4 p5 => simp only [okD] at ok; cases ok
end
def rReprB (K : PySem.W.Frag) : List V → Hp → VK → Prop := fun xs H Q => ∃ a d, xs = [.ref a] ∧ Dp K H (.ref a) d ∧ okD d = true ∧ d.depth ≤ 20 ∧ d.shown.length ≤ sizeLine ∧ Q (.str d.shown) H
theorem call_reprB {X : Cx} (dig : PySem.W.nsIn X.K cStatics "sys.int_max_str_digits" = some none) (hg : Gd X.A) (hu : X.A.units + 64 < cLine) : CallR X (.builtin "repr") (rReprB X.K) := by
  intro pins s σ H xs us Q I r h
  obtain ⟨a, d, rfl, hd, ok, dp, sz, q⟩ := h
  obtain ⟨u, rfl, r1⟩ := vals1 r
  cases (show u = Value.ref a from r1)
  obtain ⟨as, hr⟩ := Dp.reads I d (.ref a) (.ref a) hd rfl
  exact repr_any (big_base dig I) hr ok sz hg (by omega) (fun h' u tk hk => ⟨.str _, H, I.kept hk, ⟨_, rfl⟩, q⟩)
end GL
/-! vectors -/
namespace GL
open PySem PySem.Spec PyProof.Rows L2
/-! ### a class that is called, its __init__ calling defs -/
structure HasG (P : Program) (w : World) (K : PySem.W.Frag) (mg : Str → Option Value) (base : Heap) (x : Str) (C : Addr) (k : Nat) (ps : List Str) (sp : Sp) : Prop where
  ex : ∃ f fd, FnG P w K mg base CX0 k f fd ps sp ∧ mg x = some (.ref C) ∧ Mk K C f ∧ Binds K fd ps []
section
variable {X : Cx} {CX : CXT} {k : Nat} {f C : Addr} {fd : FuncData} {ps : List Str} {sp : Sp} {E : XK} {x : Str} {p pos : Pos} {e : Expr} {es : List Expr} {t : TA}
theorem run_makeG {pins : List (Addr × Obj)} {σ : L2.St} {H : Hp} {s : Shared} {Q : VK} {us : List Value} {vs : List V} (M : Mk X.K C f) (F : FnG X.prog X.w X.K X.mg X.base CX k f fd ps sp) (g : Gd X.A) (hr : Room (k + 1) X.A) (hb : Binds X.K fd ps [])
    (hx : Passes CX X E) (I : Inv X pins σ H s) (r : Vals vs us) (h : ∀ a dx, H a = none → H dx = none → dx ≠ a → sp (.ref a :: (vs ++ [])) (upd (upd H dx (.own a)) a (.ins C dx [])) (fun v H2 => v = .non ∧ Q (.ref a) H2) E) :
    wpAny (model X.prog X.w) X.A (call (.ref C) us) (EP X pins σ Q) X.xe s := by
  have q := h (s.heap.objs.size + 1) s.heap.objs.size (I.hok.fresh (Nat.le_succ _)) (I.hok.fresh (Nat.le_refl _)) (Nat.ne_of_lt (Nat.lt_succ_self _))
  rw [List.append_nil] at q
  have J := Inv.made (C := C) I
  have rr : Vals (V.ref (s.heap.objs.size + 1) :: vs) (Value.ref (s.heap.objs.size + 1) :: us) := .cons rfl r
  have nl : (Value.ref (s.heap.objs.size + 1) :: us ++ []).length = ps.length := by
    rw [List.append_nil, ← rr.length]
    exact F.len _ _ _ _ q
  have b1 := hb _ (Value.ref (s.heap.objs.size + 1) :: us) J.kIn nl
  rw [List.append_nil] at b1
  refine wpAny_call (make_map (f := f) I.kIn M.makes M.init (beq_iff_eq.mp M.fn) (codeAny_mono (F.go (by exact g) (hr.make C us []) (J.env0.make C us []) b1 rr q) fun res s' z => ?_))
  match res, z with
  | .error e, z => exact hx pins σ _ _ e s' J z
  | .ok (.ret u), z =>
    obtain ⟨v, H', I3, rv, ev, q3⟩ := J.after z
    subst ev
    exact ⟨rv, V.ref (s.heap.objs.size + 1), H', I3, rfl, q3⟩
theorem pe_makeG (h : HasG X.prog X.w X.K X.mg X.base x C k ps sp) (g : Gd X.A) (hr : Room (k + 1) X.A) (hx : Passes CX0 X E) (ha : PA X (e :: es) t) (hg : Gl X x := by exact rfl)
    (hdb : (x == ("__debug__" : Str)) = false := by decide) (he : starEach (e :: es) X.env = (false, eval e X.env) :: starEach es X.env := by rfl) (hpl : (backTo pos (starEach es X.env)).any (·.1) = false := by rfl) :
    PE X (.Call (.Name x p) (e :: es) [] pos) (tMake C sp [] E t) := by
  obtain ⟨f, fd, F, m, M, b⟩ := h.ex
  refine ⟨fun pins s σ H Q I q => ?_⟩
  refine wpAny_Call_Name_kw (ld_glob I hg m ?_ hdb)
  refine PySem.W.callWith_K (h₀ := X.base) I.ok.mod.kin M.kp (thn (ha.run pos pins s σ H _ I q) fun us s1 ⟨vs, H1, I1, r, q1⟩ => ?_) he hpl
  exact ⟨I1.kIn, run_makeG M F g hr b hx I1 r q1⟩
end
theorem Dc.hasG {P : Program} {w : World} {K : PySem.W.Frag} {mg : Str → Option Value} {base : Heap} {C : Addr} {x qual : Str} {st : Stmt} {N ps : List Str} {k : Nat} {sp : Sp} (D : Dc K C qual st) (m : mg x = some (.ref C)) (S : FnScope N ps (defScope st)) (len : ∀ vs H Q E, sp vs H Q E → vs.length = ps.length)
    (bi : ∀ (kV doc pm : Value) (an : Option Addr) (cdv ct : Value) (us : List Value), us.length = ps.length → bindArgs (PySem.W.fnOf "__init__" qual (defArgs st) (defBody st) (defScope st) .none kV doc pm an cdv ct) ⟨us, []⟩ = pure (ps.zip us))
    (body : ∀ (f : Addr) (cdv : Value) (A : Around) (outer : List Env) (s : Shared) (H : Hp) (vs : List V) (Q : VK) (E : XK), Gd (A.deeper (envOfC qual (defScope st) s.heap.objs.size f cdv)) → Room k (A.deeper (envOfC qual (defScope st) s.heap.objs.size f cdv)) → sp vs H Q E →
      ∃ t, PSs (cxOf CX0 P w K mg base N qual (defScope st) f cdv A outer s H E).nox (defBody st) t ∧ t { nx := fun _ H' => Q .non H', rt := Q } (start N vs) H) : HasG P w K mg base x C (k + 1) ps sp := by
  obtain ⟨f, fd, F, M⟩ := D.ex
  exact ⟨f, fd, F.g S len (body f), m, M, F.binds bi⟩
variable {K : PySem.W.Frag} {C CV CM D D' : Addr} {U : Bool → Addr} {us : Bool → List Addr} {t : Bool} {u z : Int × Int}
def IsV (CV CM : Addr) (C : Addr) : Prop := C = CV ∨ C = CM
def vF (g a : Addr) (n : Int) : List (Str × V) := [("grid", .ref g), ("point", .ref a), ("norm", .int n)]
/-- at v a vector of the class D, of the grid t, with the point u -/
def VecAt (K : PySem.W.Frag) (C : Addr) (U : Bool → Addr) (D : Addr) (H : Hp) (v : Addr) (t : Bool) (u : Int × Int) : Prop := ∃ dx g a, H v = some (.ins D dx (vF g a (nrm t u))) ∧ GridAt C U H g t ∧ PAt K H a u
theorem vF_grid {g a : Addr} {n : Int} : (vF g a n).lookup ("grid" : Str) = some (.ref g) := rfl
theorem vF_point {g a : Addr} {n : Int} : (vF g a n).lookup ("point" : Str) = some (.ref a) := rfl
theorem vF_norm {g a : Addr} {n : Int} : (vF g a n).lookup ("norm" : Str) = some (.int n) := rfl
theorem VecAt.same {H H' : Hp} {v : Addr} (h : VecAt K C U D H v t u) (s : Same H H') : VecAt K C U D H' v t u := let ⟨dx, g, a, e, hg, hp⟩ := h; ⟨dx, g, a, s _ _ e, hg.same s, hp.same s⟩
theorem VecAt.got {p : Addr} {H H' : Hp} {v : Addr} (h : VecAt K C U D H v t u) (s : Got p H H') (d : Die H p) : VecAt K C U D H' v t u := by
  obtain ⟨dx, g, a, e, hg, hp⟩ := h
  have gg := hg.got s d
  have pp := hp.got s d
  obtain ⟨_, _, _, _, e0⟩ := d
  exact ⟨dx, g, a, s.keep _ _ e (ne_of e e0 (by intro z; cases z)), gg, pp⟩
def psub (u v : Int × Int) : Int × Int := (u.1 - v.1, u.2 - v.2)
def pw (t : Bool) (u : Int × Int) : Nat → Int × Int
  | 0 => (1, 0)
  | n + 1 => mul t (pw t u n) u
theorem mul_one' : mul t (1, 0) u = u := by unfold mul sl; cases t <;> simp
theorem one_mul' : mul t u (1, 0) = u := by rw [mul_comm', mul_one']
theorem pw_add (m n : Nat) : mul t (pw t u m) (pw t u n) = pw t u (m + n) := by
  induction n with
  | zero => exact one_mul'
  | succ n ih => rw [pw, ← mul_assoc', ih]; rfl
structure VCls (K : PySem.W.Frag) (D : Addr) : Prop where
  cls : Cls K D
  grid : NoAttr K D "grid"
  point : NoAttr K D "point"
  norm : NoAttr K D "norm"
theorem log_of {x : Int} (h : x.natAbs < 10 ^ 400) : x.natAbs.log2 < 1920 := Nat.lt_of_lt_of_le (PySem.Flt.log2_lt_of (k := 1329) (by decide) (Nat.lt_of_lt_of_le h (by decide +kernel))) (by decide)
theorem sign_neg {n : Int} (h : n < 0) : (toString n : String) = "-" ++ toString (-n) := by
  obtain ⟨m, rfl⟩ : ∃ m : Nat, n = Int.negSucc m := ⟨(-n).toNat - 1, by omega⟩
  rfl
theorem ofS_append (a b : String) : Str.ofString (a ++ b) = Str.ofString a ++ Str.ofString b := by
  rw [Str.ofString_eq_toList, Str.ofString_eq_toList, Str.ofString_eq_toList]
  refine Str.ext' ?_
  rw [Str.cps_append]
  simp
theorem sign_of (n : Int) : (if n < 0 then Str.ofString "-" else Str.ofString "") ++ Str.ofString (toString (if n < 0 then -n else n)) = Str.ofString (toString n) := by
  by_cases h : n < 0
  · rw [if_pos h, if_pos h, sign_neg h, ofS_append]
  · rw [if_neg h, if_neg h]
    exact Str.empty_append _
/-! ### promises -/
def spVInit (K : PySem.W.Frag) (C : Addr) (U : Bool → Addr) (D : Addr) (ok : Int × Int → Prop) : Sp := fun vs H Q _ => ∃ p dx g a t u, vs = [.ref p, .ref g, .ref a] ∧ H p = some (.ins D dx []) ∧ GridAt C U H g t ∧ PAt K H a u ∧ ok u ∧
  ∀ H', (∀ b, b ≠ p → H' b = H b) → H' p = some (.ins D dx (vF g a (nrm t u))) → Q .non H'
/-- what hands out a new vector, at u' -/
def VNew (K : PySem.W.Frag) (C : Addr) (U : Bool → Addr) (D : Addr) (H : Hp) (t : Bool) (u : Int × Int) (Q : VK) : Prop := ∀ r H', H r = none → Same H H' → VecAt K C U D H' r t u → Q (.ref r) H'
def spVBin (K : PySem.W.Frag) (C : Addr) (U : Bool → Addr) (CV CM : Addr) (f : Bool → Int × Int → Int × Int → Int × Int) : Sp := fun vs H Q _ => ∃ v w D D' t u z, vs = [.ref v, .ref w] ∧ IsV CV CM D ∧ IsV CV CM D' ∧ VecAt K C U D H v t u ∧ VecAt K C U D' H w t z ∧ Sm u ∧ Sm z ∧ Sm (f t u z) ∧ VNew K C U CM H t (f t u z) Q
def spVDiv (K : PySem.W.Frag) (C : Addr) (U : Bool → Addr) (CV CM : Addr) : Sp := fun vs H Q _ => ∃ v w D D' t u z q, vs = [.ref v, .ref w] ∧ IsV CV CM D ∧ IsV CV CM D' ∧ VecAt K C U D H v t u ∧ VecAt K C U D' H w t z ∧ Sm u ∧ Sm z ∧ Sm q ∧ Sm (flip t z) ∧ Sm (low t u z) ∧ (nrm t z).natAbs < 2 ^ 2000 ∧ 0 < nrm t z ∧ mul t q z = u ∧ VNew K C U CM H t q Q
def spVUn (K : PySem.W.Frag) (C : Addr) (U : Bool → Addr) (CV CM : Addr) (f : Bool → Int × Int → Int × Int) : Sp := fun vs H Q _ => ∃ v D t u, vs = [.ref v] ∧ IsV CV CM D ∧ VecAt K C U D H v t u ∧ Sm u ∧ Sm (f t u) ∧ VNew K C U CM H t (f t u) Q
def spVTurn (K : PySem.W.Frag) (C : Addr) (U : Bool → Addr) (CV CM : Addr) : Sp := fun vs H Q _ => ∃ v D t u k, vs = [.ref v, .int k] ∧ IsV CV CM D ∧ VecAt K C U D H v t u ∧ isIntV (.int k) = true ∧ Sm u ∧ Sm (mul t u (uni t k)) ∧ VNew K C U CM H t (mul t u (uni t k)) Q
def spVPow (K : PySem.W.Frag) (C : Addr) (U : Bool → Addr) (CV CM : Addr) : Sp := fun vs H Q _ => ∃ v D t u, ∃ n : Nat, vs = [.ref v, .int n] ∧ IsV CV CM D ∧ VecAt K C U D H v t u ∧ n ≤ 1000 ∧ Sm u ∧ (∀ i, i ≤ n → Sm (pw t u i)) ∧ VNew K C U CM H t (pw t u n) Q
def spVItem (K : PySem.W.Frag) (C : Addr) (U : Bool → Addr) (CV CM : Addr) : Sp := fun vs H Q _ => ∃ v D t u i, vs = [.ref v, .int i] ∧ IsV CV CM D ∧ VecAt K C U D H v t u ∧ (i = 0 ∨ i = 1) ∧ Q (.int (if i = 0 then u.1 else u.2)) H
def spVBool (K : PySem.W.Frag) (C : Addr) (U : Bool → Addr) (CV CM : Addr) : Sp := fun vs H Q _ => ∃ v D t u, vs = [.ref v] ∧ IsV CV CM D ∧ VecAt K C U D H v t u ∧ ∀ H', Same H H' → Q (.bl (!decide (u = (0, 0)))) H'
def vText (u : Int × Int) : Str := (toString u.1 : Str) ++ "," ++ (toString u.2 : Str)
def spVStr (K : PySem.W.Frag) (C : Addr) (U : Bool → Addr) (CV CM : Addr) : Sp := fun vs H Q _ => ∃ v D t u, vs = [.ref v] ∧ IsV CV CM D ∧ VecAt K C U D H v t u ∧ ptOk u ∧ ∀ H', Same H H' → Q (.str (vText u)) H'
/-- y as the other side of a vector of the grid t at u: r tells whether it is equal -/
def VOpd (K : PySem.W.Frag) (C : Addr) (U : Bool → Addr) (CV CM : Addr) (H : Hp) (t : Bool) (u : Int × Int) (y : V) (r : Bool) : Prop :=
  (∃ w D t' z, y = .ref w ∧ IsV CV CM D ∧ VecAt K C U D H w t' z ∧ r = (t == t' && decide (u = z))) ∨ (∃ k : Kd, Of K H y k ∧ r = false) ∨ (∃ g t', y = .ref g ∧ GridAt C U H g t' ∧ r = false)
def spVEq (K : PySem.W.Frag) (C : Addr) (U : Bool → Addr) (CV CM : Addr) : Sp := fun vs H Q _ => ∃ v D t u y r, vs = [.ref v, y] ∧ IsV CV CM D ∧ VecAt K C U D H v t u ∧ VOpd K C U CV CM H t u y r ∧ Q (.bl r) H
def spPartner (K : PySem.W.Frag) (C : Addr) (U : Bool → Addr) (CV CM : Addr) : Sp := fun vs H Q _ => ∃ v w D D' t u z, vs = [.ref v, .ref w] ∧ IsV CV CM D ∧ IsV CV CM D' ∧ VecAt K C U D H v t u ∧ VecAt K C U D' H w t z ∧ Q .non H
def spMinus (K : PySem.W.Frag) : Sp := fun vs H Q _ => ∃ a b u v, vs = [.ref a, .ref b] ∧ PAt K H a u ∧ PAt K H b v ∧ ∀ p, H p = none → Q (.ref p) (upd H p (.tup [.int (psub u v).1, .int (psub u v).2]))
def spRaised (K : PySem.W.Frag) (C : Addr) (U : Bool → Addr) (j : Nat) : Sp := fun vs H Q _ => ∃ g t a u, ∃ n : Nat, vs = [.ref g, .ref a, .int n] ∧ GridAt C U H g t ∧ PAt K H a u ∧ Sm u ∧ n < 2 ^ j ∧ (∀ i, i ≤ n → Sm (pw t u i)) ∧ ∀ p H', H p = none → Same H H' → PAt K H' p (pw t u n) → Q (.ref p) H'
def spWrite : Sp := fun vs H Q _ => ∃ n : Int, vs = [.int n] ∧ isIntV (.int n) = true ∧ ∀ H', Same H H' → Q (.str (toString n)) H'
def spDivG (K : PySem.W.Frag) (C : Addr) (U : Bool → Addr) : Sp := fun vs H Q _ => ∃ g t a b u v, vs = [.ref g, .ref a, .ref b] ∧ GridAt C U H g t ∧ PAt K H a u ∧ PAt K H b v ∧ Sm u ∧ Sm v ∧ Sm (flip t v) ∧ Sm (low t u v) ∧ (nrm t v).natAbs < 2 ^ 2000 ∧ 0 < nrm t v ∧ ∀ x H', Same H H' → QAt K H' (quo t u v) x → Q x H'
/-! ### classes -/
structure VIs (K : PySem.W.Frag) (C CV CM : Addr) : Prop where
  v : GIs K CV
  m : GIs K CM
  mv : PySem.W.subIn K (.ref CM) (.ref CV) = some true
  vm : PySem.W.subIn K (.ref CV) (.ref CM) = some false
  gv : PySem.W.subIn K (.ref C) (.ref CV) = some false
  gm : PySem.W.subIn K (.ref C) (.ref CM) = some false
  ne : CV ≠ CM
theorem VIs.is (i : VIs K C CV CM) (d : IsV CV CM D) : GIs K D := by rcases d with rfl | rfl; exact i.v; exact i.m
theorem VIs.kit (i : VIs K C CV CM) (d : IsV CV CM D) : PySem.W.kitOne K (.ref D) (.ref CV) = some true := by
  rcases d with rfl | rfl
  · exact kit_self
  · unfold PySem.W.kitOne
    rw [if_neg (by intro z; have z := beq_iff_eq.mp z; injection z with z; exact i.ne z.symm)]
    show (if _ then _ else _) = _
    rw [if_pos i.v.is]
    exact i.mv
theorem VIs.kitG (i : VIs K C CV CM) (n : C ≠ CV) : PySem.W.kitOne K (.ref C) (.ref CV) = some false := by
  unfold PySem.W.kitOne
  rw [if_neg (by intro z; have z := beq_iff_eq.mp z; injection z with z; exact n z)]
  show (if _ then _ else _) = _
  rw [if_pos i.v.is]
  exact i.gv
theorem VecAt.ty {H : Hp} {v : Addr} (h : VecAt K C U D H v t u) (i : GIs K D) (c : Cls K D) : TyX K H (.ref v) (.ref D) := let ⟨_, _, _, e, _⟩ := h; i.ty c e
end GL
namespace GL
open PySem PySem.Spec PyProof.Rows L2
variable {K : PySem.W.Frag} {CV CM : Addr}
theorem gm_mk {C f : Addr} {m : Str} (h1 : PySem.W.findIn K (.ref C) m = some (some (.ref f))) (h2 : PySem.W.fnIn K f = true) : ∃ f : Addr, PySem.W.findIn K (.ref C) m = some (some (.ref f)) ∧ PySem.W.fnIn K f = true := ⟨f, h1, h2⟩
/-- what the text has of an operator's names in both classes -/
structure OpTxt (K : PySem.W.Frag) (CV CM : Addr) (m r : Str) : Prop where
  fV : ∃ f : Addr, PySem.W.findIn K (.ref CV) m = some (some (.ref f))
  fM : ∃ f : Addr, PySem.W.findIn K (.ref CM) m = some (some (.ref f))
  rV : PySem.W.findIn K (.ref CV) r = some none
  rM : PySem.W.findIn K (.ref CM) r = some none
  rT : PySem.W.findIn K (.type "type") r = some none
theorem optxt_mk {m r : Str} {f g : Addr} (fV : PySem.W.findIn K (.ref CV) m = some (some (.ref f))) (fM : PySem.W.findIn K (.ref CM) m = some (some (.ref g))) (rV : PySem.W.findIn K (.ref CV) r = some none) (rM : PySem.W.findIn K (.ref CM) r = some none)
    (rT : PySem.W.findIn K (.type "type") r = some none) : OpTxt K CV CM m r := ⟨⟨_, fV⟩, ⟨_, fM⟩, rV, rM, rT⟩
structure ClsTxt (K : PySem.W.Frag) (CV CM : Addr) (nm : Str) : Prop where
  sfV : PySem.W.selfFirst K CV = true
  sfM : PySem.W.selfFirst K CM = true
  ho : PySem.W.nsIn K cStatics "thirdparty.any" = some none
  hty : PySem.W.typeIn K (.ref CM) = some (.type "type")
  hga : PySem.W.findIn K (.type "type") "__getattribute__" = some (some (.builtin "type.__getattribute__"))
  hgg : PySem.W.findIn K (.type "type") "__getattr__" = some none
  hcd : ∃ cd, PySem.W.clsIn K CM = some cd ∧ cd.name = nm
  mv : PySem.W.subIn K (.ref CM) (.ref CV) = some true
  vm : PySem.W.subIn K (.ref CV) (.ref CM) = some false
  ne : CV ≠ CM
theorem bink_mk {op : Operator} {m r nm : Str} (X : ClsTxt K CV CM nm) (O : OpTxt K CV CM m r) (hm : PySem.dunder op.info.2 = m) (hr : dunderR op.info.2 = r) (hs8 : nm.cps.foldl (fun k c => k + (Str.utf8Of c).length) 0 ≤ 100)
    (hfit : (((s!"type object '{nm.toString}' has no attribute '" : String) : Str) ++ r ++ ("'" : Str)).length ≤ sizeLine) (hfit2 : r.length ≤ sizeLine) : ∀ C D, IsV CV CM C → IsV CV CM D → BinK K C D op := by
  have bV : BinC K CV op.info.2 := ⟨X.sfV, by rw [hm]; exact O.fV, by rw [hr]; exact O.rV⟩
  have bM : BinC K CM op.info.2 := ⟨X.sfM, by rw [hm]; exact O.fM, by rw [hr]; exact O.rM⟩
  obtain ⟨cd, h1, h2⟩ := X.hcd
  intro C D hC hD
  rcases hC with rfl | rfl <;> rcases hD with rfl | rfl
  · exact .same rfl X.sfV
  · exact .sub X.ne bV bM X.mv nm cd ⟨X.ho, X.hty, by rw [hr]; exact O.rT, X.hga, X.hgg, h1, h2, hs8, by rw [hr]; exact hfit, by rw [hr]; exact hfit2⟩
  · exact .mixed (fun z => X.ne z.symm) bM bV X.vm
  · exact .same rfl X.sfM
end GL
/-! errors of own classes: made with a message or with one field, held as values, asked, raised, caught -/
namespace PySem
namespace GLE
open Builtin Builtin.ObjectAttr
/-- a chain of classes as the maker wants it: own ones first, then that of B -/
structure Chain (B : String) (bm : List Value) : Prop where
  hasB : bm.contains (.type B) = true
  exc : bm.contains (.type "BaseException") = true
  obj : bm.contains (.type "object") = true
  notA : bm.contains (.type "AttributeError") = false
  notN : bm.contains (.type "NameError") = false
  some_ : bm.isEmpty = false
  lets : ∀ me : Value, refuseLoop me "__setattr__" bm = pure ()
theorem Chain.cons {B : String} {bm : List Value} {c : Addr} (h : Chain B bm) : Chain B (.ref c :: bm) where
  hasB := by rw [List.contains_cons, h.hasB, Bool.or_true]
  exc := by rw [List.contains_cons, h.exc, Bool.or_true]
  obj := by rw [List.contains_cons, h.obj, Bool.or_true]
  notA := by rw [List.contains_cons, h.notA]; rfl
  notN := by rw [List.contains_cons, h.notN]; rfl
  some_ := rfl
  lets := fun me => by rw [refuseLoop_ref]; exact h.lets me
theorem chain_value : Chain "ValueError" [.type "ValueError", .type "Exception", .type "BaseException", .type "object"] :=
  ⟨by decide +kernel, by decide +kernel, by decide +kernel, by decide +kernel, by decide +kernel, rfl, fun me => by kernel_rfl⟩
theorem chain_key : Chain "LookupError" [.type "KeyError", .type "LookupError", .type "Exception", .type "BaseException", .type "object"] :=
  ⟨by decide +kernel, by decide +kernel, by decide +kernel, by decide +kernel, by decide +kernel, rfl, fun me => by kernel_rfl⟩
theorem chain_lookup : Chain "LookupError" [.type "LookupError", .type "Exception", .type "BaseException", .type "object"] :=
  ⟨by decide +kernel, by decide +kernel, by decide +kernel, by decide +kernel, by decide +kernel, rfl, fun me => by kernel_rfl⟩
theorem chain_index : Chain "IndexError" [.type "IndexError", .type "LookupError", .type "Exception", .type "BaseException", .type "object"] :=
  ⟨by decide +kernel, by decide +kernel, by decide +kernel, by decide +kernel, by decide +kernel, rfl, fun me => by kernel_rfl⟩
theorem chain_runtime : Chain "RuntimeError" [.type "RuntimeError", .type "Exception", .type "BaseException", .type "object"] :=
  ⟨by decide +kernel, by decide +kernel, by decide +kernel, by decide +kernel, by decide +kernel, rfl, fun me => by kernel_rfl⟩
theorem chain_overflow : Chain "OverflowError" [.type "OverflowError", .type "ArithmeticError", .type "Exception", .type "BaseException", .type "object"] :=
  ⟨by decide +kernel, by decide +kernel, by decide +kernel, by decide +kernel, by decide +kernel, rfl, fun me => by kernel_rfl⟩
theorem chain_arith : Chain "ArithmeticError" [.type "ArithmeticError", .type "Exception", .type "BaseException", .type "object"] :=
  ⟨by decide +kernel, by decide +kernel, by decide +kernel, by decide +kernel, by decide +kernel, rfl, fun me => by kernel_rfl⟩
theorem chain_zero : Chain "ZeroDivisionError" [.type "ZeroDivisionError", .type "ArithmeticError", .type "Exception", .type "BaseException", .type "object"] :=
  ⟨by decide +kernel, by decide +kernel, by decide +kernel, by decide +kernel, by decide +kernel, rfl, fun me => by kernel_rfl⟩

section
variable {prog : Program} {w : World} {A : Around} {E : Value → Shared → Prop} {R : Result → Shared → Prop} {h : Heap} {g : Array GenState} {d : Drawn} {t : Nat} {os : OsState}
variable {nm q : Str} {C N : Addr} {bs bm bB : List Value} {hdct : Bool} {sn : List Str} {sub : List Value} {ab : Bool} {col : Option Bool} {dd : Option Addr} {k0 k1 k2 k3 k5 : Option Value} {B nwId inId : String}
theorem mk_check (F : ExcBaseFacts B nwId inId bB) (ch : Chain B bm) {rest : List Value} {Q : Unit → Shared → Prop} (oC : h.get? C = some (excClassObj nm q C N bs bm hdct sn sub ab col dd k0 k1 k2 k3 k5 nwId)) (go : Q () ⟨h, g, d, t, os⟩) :
    wpAny (model prog w) A (checkBuiltinCall nwId ⟨.ref C :: rest, []⟩) Q E ⟨h, g, d, t, os⟩ := by
  have inB := (ch.cons (c := C)).hasB
  have noS := F.noStar
  simp only [checkBuiltinCall, F.newKind, F.newSplit, F.newRow]
  repeat (first | refine wpAny_loadPart_at oC ?_ | (refine wpAny_isSubtype_exc oC ?_; rw [inB]) | refine wpAny_staticBase_exc oC ?_ | refine wpAny_madeBy_exc oC ?_ | simp only [bne_self_eq_false, Bool.false_eq_true, if_false] | wp_step)
  exact go
theorem mk_new (F : ExcBaseFacts B nwId inId bB) (ch : Chain B bm) {rest : List Value} (oC : h.get? C = some (excClassObj nm q C N bs bm hdct sn sub ab col dd k0 k1 k2 k3 k5 nwId)) (few : rest.length ≤ sizeLine)
    (go : R (.ok (.ret (.ref (h.objs.size + 1)))) ⟨(h.push (W.kdv_tup rest)).push (HandSPX.excO C h.objs.size), g, d, t, os⟩) : codeAny (model prog w) A (.builtin nwId ⟨.ref C :: rest, []⟩) R ⟨h, g, d, t, os⟩ := by
  have inB := (ch.cons (c := C)).hasB
  have inA := (ch.cons (c := C)).notA
  have inN := (ch.cons (c := C)).notN
  have hend := F.ends
  refine codeAny_builtinAt F.entry ?_
  unfold Builtin.«BaseException.__new__»
  refine wpAt_bind ?_
  show wpAt _ _ _ (stack >>= _) _ _ _
  refine wpAt_bind (wpAt_stack fun p below => wpAt_of_wpAny ?_)
  wp_walk
  refine wpAt_of_wpAny ?_
  rw [F.owner]
  repeat (first | with_reducible refine wpAny_madeHere_exc F.canon oC ?_ | with_reducible refine wpAny_loadPart_at oC ?_ | (with_reducible refine wpAny_isSubtype_exc oC ?_; first | rw [inB] | rw [inA] | rw [inN]) | wp_step)
  show R _ _
  rw [Heap.size_push]
  exact go
theorem mk_tcall (F : ExcBaseFacts B nwId inId bB) (ch : Chain B bm) {rest : List Value} {fI : Addr} {Q : Fin → Shared → Prop} (oC : h.get? C = some (excClassObj nm q C N bs bm hdct sn sub ab col dd k0 k1 k2 k3 k5 nwId))
    (li : W.Looks (model prog w) h (typeLookup (.ref C) "__init__") (some (.ref fI))) (lb : ∀ me, W.Looks (model prog w) h (bindSpecial (.ref fI) me) (.ref fI, [me])) (few : rest.length ≤ sizeLine)
    (go : codeAny (model prog w) A (.call (.ref fI) ⟨.ref (h.objs.size + 1) :: rest, []⟩) (fun r s' => match r with | .ok (.ret v) => v = .none ∧ Q (.done (.ret (.ref (h.objs.size + 1)))) s' | .ok _ => False | .error e => E e s')
      ⟨(h.push (W.kdv_tup rest)).push (HandSPX.excO C h.objs.size), g, d, t, os⟩) : wpAny (model prog w) A (Builtin.«type.__call__» ⟨.ref C :: rest, []⟩) Q E ⟨h, g, d, t, os⟩ := by
  repeat (first | with_reducible refine wpAny_loadPart_at oC ?_ | with_reducible refine wpAny_madeBy_exc oC ?_ | wp_step)
  refine codeAny_call_builtin_code (Code.quiet_builtin _ F.quiet) (mk_check F ch oC ?_)
  refine mk_new F ch oC few ?_
  show wpAny _ _ _ _ _ _
  have old : ∀ b o, h.get? b = some o → ((h.push (W.kdv_tup rest)).push (HandSPX.excO C h.objs.size)).get? b = some o := fun b o z => Heap.get?_push_of_some _ (Heap.get?_push_of_some _ z)
  have oC1 := old _ _ oC
  have here : ((h.push (W.kdv_tup rest)).push (HandSPX.excO C h.objs.size)).get? (h.objs.size + 1) = some (HandSPX.excO C h.objs.size) := by heap_get
  have self_ : (Value.ref C :: bm).contains (.ref C) = true := by simp
  have li1 := li.keeps old
  have lb1 := (lb (.ref (h.objs.size + 1))).keeps old
  unfold isInstance
  repeat (first | with_reducible refine wpAny_loadPart_at here ?_ | (with_reducible refine wpAny_isSubtype_exc oC1 ?_; rw [self_]) | wp_step)
  show wpAny _ _ (typeLookup (.ref C) _) _ _ _
  refine li1.at ?_
  refine wpAny_holding (wpAny_bind (lb1.at ?_))
  refine wpAny_bind (wpAny_call (codeAny_mono go fun r s' z => ?_))
  rcases r with e | (v | _ | _ | _) <;> first | exact z | exact z.elim | skip
  obtain ⟨rfl, z⟩ := z
  first
    | exact wpAny_pure (wpAny_pure z)
    | (wp_walk; exact z)
theorem mk_call (F : ExcBaseFacts B nwId inId bB) (ch : Chain B bm) {rest : List Value} {fI : Addr} (oC : h.get? C = some (excClassObj nm q C N bs bm hdct sn sub ab col dd k0 k1 k2 k3 k5 nwId))
    (li : W.Looks (model prog w) h (typeLookup (.ref C) "__init__") (some (.ref fI))) (lb : ∀ me, W.Looks (model prog w) h (bindSpecial (.ref fI) me) (.ref fI, [me])) (few : rest.length ≤ sizeLine)
    (go : codeAny (model prog w) (A.under (.builtin "type.__call__" ⟨.ref C :: rest, []⟩)) (.call (.ref fI) ⟨.ref (h.objs.size + 1) :: rest, []⟩) (W.InitBack (h.objs.size + 1) R) ⟨(h.push (W.kdv_tup rest)).push (HandSPX.excO C h.objs.size), g, d, t, os⟩) :
    codeAny (model prog w) A (.call (.ref C) ⟨rest, []⟩) R ⟨h, g, d, t, os⟩ := by
  have f1 := tc_lookup
  have f2 := tc_bind (.ref C)
  have isT : (⟨h, g, d, t, os⟩ : Shared).TypeIs (.ref C) "type" := ⟨_, oC, rfl⟩
  refine codeAny_of_tree ?_
  show wpAny _ _ (callAny (.ref C) _) _ _ _
  repeat (any_goals (first | assumption | with_reducible refine wpAny_loadPart_at oC ?_ | wp_step))
  refine ⟨rfl, ?_⟩
  refine codeAny_call_builtin_at (Code.quiet_builtin _ (by decide +kernel)) entry_typeCall (wpAny_check_type_call_sub oC (mk_tcall F ch oC li lb few ?_))
  refine codeAny_mono go fun r s' z => ?_
  rcases r with e | (v | _ | _ | _) <;> exact z
end
end GLE
end PySem
namespace PySem
namespace GLE
open Builtin Builtin.ObjectAttr
section
variable {prog : Program} {w : World} {A : Around} {E : Value → Shared → Prop} {R : Result → Shared → Prop} {hp : Heap} {g : Array GenState} {d : Drawn} {t : Nat} {os : OsState}
/-- me.f = v on an error without a dict -/
theorem osa_first {K : W.Frag} {B : String} {f : Str} {tk : Tok} {v : Value} {x C : Addr} {fv : Array Value} {cd : ClassData} (X : K.In hp) (ox : hp.get? x = some { cls := .ref C, data := .fields fv }) (lc : W.clsIn K C = some cd) (ch : Chain B cd.mro)
    (hd : cd.hasDict = true) (no : W.findIn K (.ref C) f = some none)
    (go : ∀ h' tk' dx, (∀ b o, b ≠ x → hp.get? b = some o → h'.get? b = some o) → hp.objs.size ≤ dx → dx ≠ x → h'.get? x = some { cls := .ref C, dict := some dx, data := .fields fv } → h'.Ns1 dx (fun y => if y = f then some v else none) →
      R (.ok (.ret .none)) ⟨h', g, d, tk', os⟩) : codeAny (model prog w) A (.call (.builtin "object.__setattr__") ⟨[.ref x, .str f tk, v], []⟩) R ⟨hp, g, d, t, os⟩ := by
  have at_ : W.InstAt hp x { cls := .ref C, data := .fields fv } C none := ⟨ox, rfl, rfl, trivial⟩
  have SO := F.store_object
  have apart : x ≠ hp.objs.size := Nat.ne_of_lt (Heap.lt_size ox)
  have isO : W.Looks (model prog w) hp (isInstance (.ref x) (.type "object")) true := at_.type.andThen (W.looks_mroIn X (by unfold W.mroIn; rw [lc, Option.bind_some, if_neg (by rw [ch.some_]; decide), ch.obj]))
  refine codeAny_call_builtin SO.slot.plain SO.entry (@W.check_slot (model prog w) _ _ ⟨hp, g, d, t, os⟩ "object.__setattr__" "object" "__setattr__" (.ref x) [.str f tk, v] [] _ SO.kind SO.split isO (SO.args (.ref x) (.str f tk) v) ?_)
  have lm : W.Looks (model prog w) hp (mroOf (.ref C)) cd.mro := (W.looks_clsIn X lc).andThen .now
  have lt : W.Looks (model prog w) hp (storeTaker? none) none := .now
  have lcl : W.Looks (model prog w) hp (classData C) cd := W.looks_clsIn X lc
  rw [W.osa_eq, refuse_eq]
  refine wpAny_bind (wpAny_bind (at_.type.at (wpAny_bind (lm.at ?_))))
  rw [ch.lets]
  refine wpAny_pure (wpAny_bind (at_.type.at (wpAny_bind ((W.looks_findIn X no).at (wpAny_bind (lt.at ?_))))))
  show wpAny _ _ (storeInOwnDict (.ref x) (.ref C) (.str f tk) f v false) _ _ _
  obtain ⟨nm, bs, mro, ns, qn, has, sn, sb, ab, col, del⟩ := cd
  dsimp only at hd
  subst hd
  unfold storeInOwnDict ownDictForStores
  repeat (first | with_reducible refine HandSPX.store_in_new ?_ ?_ | with_reducible refine wpAny_loadPart_at ox ?_ | with_reducible refine lcl.at ?_ | wp_step)
  · exact ⟨_, #[], _, (Heap.get?_update_ne _ _ _ _ apart.symm).trans (Heap.get?_push_at rfl rfl), rfl, fun e he => absurd he (by simp), fun _ => rfl⟩
  · intro h' tk' hn' hs
    have ox1 : (hp.push { cls := .type "dict", data := .dict #[] }).get? x = some { cls := .ref C, data := .fields fv } := Heap.get?_push_of_some _ ox
    refine go h' tk' hp.objs.size (fun b o hb ho => ?_) (Nat.le_refl _) apart.symm ?_ hn'
    · exact (hs.2 b (Nat.ne_of_lt (Heap.lt_size ho))).trans ((Heap.get?_update_ne _ _ _ _ hb).trans (Heap.get?_push_of_some _ ho))
    · exact (hs.2 x apart).trans (Heap.get?_update_self _ ox1 rfl)
end
end GLE
end PySem
namespace PySem
namespace GLE
open PySem.W PySem.Calls PyProof.Rows PySem.HandSPX
/-- def __init__(self, f): self.f = f -/
def iArgs (f : Str) (p1 p2 : Pos) : Arguments := { posonlyargs := [], args := [{ arg := "self", annotation := none, pos := p1 }, { arg := f, annotation := none, pos := p2 }], vararg := none, kwonlyargs := [], kw_defaults := [], kwarg := none, defaults := [] }
def iBody (f : Str) (q1 q2 q3 q4 : Pos) : List Stmt := [.Assign [.Attribute (.Name "self" q1) f q2] (.Name f q3) q4]
def iScope (f : Str) : Scope := { kind := .function, names := [(PySem.Str.ofString "self", .local), (f, .local)], isGenerator := false, isCoroutine := false, more := [] }
/-- what the written part says of the class x at C, over B, whose __init__ at fI keeps one field f -/
structure ErrTxt (K : Frag) (mg : Str → Option Value) (x f : Str) (C fI : Addr) : Prop where
  gC : mg x = some (.ref C)
  cls : ∃ nm q N bs bm sn sub ab col dd k0 k1 k2 k3 k5 B nwId inId bB, ExcBaseFacts B nwId inId bB ∧ Chain B bm ∧ K.lookup C = some (excClassObj nm q C N bs bm true sn sub ab col dd k0 k1 k2 k3 k5 nwId)
  sa : findIn K (.ref C) "__setattr__" = some (some (.builtin "object.__setattr__"))
  ga : findIn K (.ref C) "__getattribute__" = some (some (.builtin "BaseException.__getattribute__"))
  gg : findIn K (.ref C) "__getattr__" = some none
  noN : findIn K (.ref C) f = some none
  iC : findIn K (.ref C) "__init__" = some (some (.ref fI))
  tC : typeIn K (.ref fI) = some (.type "function")
  kC : keepIn K (.ref C) = true
  exC : subIn K (.ref C) (.type "BaseException") = some true
  tyC : typeIn K (.ref C) = some (.type "type")
  hdC : hasDictIn K C = true
  f1 : (f == ("self" : Str)) = false
  f2 : (f == ("__debug__" : Str)) = false
  bd : ∀ (qual : Str) (p1 p2 q1 q2 q3 q4 : Pos) (doc pm : Value) (an : Option Addr) (cdv ct : Value) (a : Addr) (v : Value) (u : Unit), bindArgs (fnOf "__init__" qual (iArgs f p1 p2) (iBody f q1 q2 q3 q4) (iScope f) .none .none doc pm an cdv ct) ⟨[.ref a, v], []⟩ = pure [(PySem.Str.ofString "self", .ref a), (f, v)]
  fn : ∃ (oc : Value) (od : Option Addr) (qual : Str) (doc pm : Value) (an : Option Addr) (cdv ct : Value) (osl : Array (Option Value)) (p1 p2 q1 q2 q3 q4 : Pos),
    K.lookup fI = some ⟨oc, od, .func (fnOf "__init__" qual (iArgs f p1 p2) (iBody f q1 q2 q3 q4) (iScope f) .none .none doc pm an cdv ct), osl⟩ ∧ codeIn K cdv qual = true
theorem ld_slot {M : Model} {s : Shared} {name : Str} {scope : Scope} {L a : Addr} {cd : Value} {m : Str → Option Value} {x : Str} {pos : Pos} {v : Value} {Q : Value → Shared → Prop} {A : Around} {E : Value → Shared → Prop} (n : s.heap.Ns L m) (e : m x = some v) (go : Q v s)
    (hk : scope.kind = .function) (hl : (envOfC name scope L a cd).kindOf x = some .local) (hd : (x == ("__debug__" : Str)) = false) : wpAny M A (eval (.Name x pos) (envOfC name scope L a cd)) Q E s := wpAny_Name (wpAny_loadName_local hk hl n e go) hd
/-- an error with its dict at d, made at e -/
structure Born (h h' : Heap) (e C d : Addr) (f : Str) (v : Value) : Prop where
  old : ∀ b o, h.get? b = some o → h'.get? b = some o
  new : h.objs.size ≤ e
  obj : ∃ oe vs, h'.get? e = some oe ∧ oe.cls = .ref C ∧ oe.dict = some d ∧ oe.data = .fields vs ∧ vs[1]? = some .none
  dnew : h.objs.size ≤ d
  dne : d ≠ e
  ns : h'.Ns1 d (fun y => if y = f then some v else none)
section
variable {prog : Program} {w : World} {A : Around} {E : Value → Shared → Prop} {R : Result → Shared → Prop} {s : Shared} {K : Frag} {mg : Str → Option Value} {C fI : Addr} {x f : Str}
theorem kind_self {name : Str} {L a : Addr} {cd : Value} : (envOfC name (iScope f) L a cd).kindOf "self" = some .local := by
  show List.lookup ("self" : Str) [(PySem.Str.ofString "self", NameKind.local), (f, .local)] = some .local
  rfl
theorem kind_fld {name : Str} {L a : Addr} {cd : Value} (n : (f == ("self" : Str)) = false) : (envOfC name (iScope f) L a cd).kindOf f = some .local := by
  show List.lookup f [(("self" : Str), NameKind.local), (f, .local)] = some .local
  simp [List.lookup, n]
theorem bind_b {kf : Str → Option NameKind} {y z : Str} {a b : Value} (ky : kf y = some .local) (kz : kf z = some .local) : bindL kf [(y, a), (z, b)] (fun _ => none) z = some b := by
  simp [bindL, ky, kz]
theorem bind_a {kf : Str → Option NameKind} {y z : Str} {a b : Value} (ky : kf y = some .local) (kz : kf z = some .local) (n : y ≠ z) : bindL kf [(y, a), (z, b)] (fun _ => none) y = some a := by
  simp [bindL, ky, kz, n]
theorem err_init (T : ErrTxt K mg x f C fI) {a t0 : Addr} {v : Value} (X : K.In s.heap) (nl : s.heap.NoLimit) (oa : s.heap.get? a = some (excO C t0)) (hroom : A.depth < recursionLimit)
    (go : ∀ h' tk dx, (∀ b o, b ≠ a → s.heap.get? b = some o → h'.get? b = some o) → h'.get? a = some { cls := .ref C, dict := some dx, data := .fields #[.ref t0, .none, .none, .none, .bool false, .none] } → s.heap.objs.size ≤ dx → dx ≠ a →
      h'.Ns1 dx (fun y => if y = f then some v else none) → R (.ok (.ret .none)) { s with heap := h', toks := tk }) : codeAny (model prog w) A (.call (.ref fI) ⟨[.ref a, v], []⟩) R s := by
  obtain ⟨oc, od, qual, doc, pm, an, cdv, ct, osl, p1, p2, q1, q2, q3, q4, ho, hcd⟩ := T.fn
  obtain ⟨nm, q, N, bs, bm, sn, sub, ab, col, dd, k0, k1, k2, k3, k5, B, nwId, inId, bB, F, ch, oC⟩ := T.cls
  have lc : clsIn K C = some { name := nm, bases := bs, mro := .ref C :: bm, ns := N, qualname := q, hasDict := true, slotNames := sn, subclasses := sub, abstract := ab, collection := col, hasDel := false } := by unfold clsIn; rw [oC] <;> rfl
  refine Att.call_fn (binds := [("self", .ref a), (f, v)]) X nl ho hcd hroom (BindsTo.of_eq ?_) ?_ (fun s₁ IC => ?_) rfl rfl rfl
  · exact T.bd _ _ _ _ _ _ _ _ _ _ _ _ _ _ ()
  · have k : List.lookup f [(("self" : Str), NameKind.local), (f, .local)] = some .local := by simp [List.lookup, T.f1]
    show ((_ || _) && ((_ || _) && true)) = true
    rw [show List.lookup f (iScope f).names = some .local from k]
    rfl
  obtain ⟨h₁, tk₁, rfl⟩ := IC.toInCall.same
  have old : ∀ b o, s.heap.get? b = some o → h₁.get? b = some o := IC.toInCall.keep
  have ns := IC.toInCall.ns
  have X1 : K.In h₁ := X.keeps old
  have oa1 := old _ _ oa
  show wpAny _ _ (execs _ _) _ _ _
  refine wpAny_execs_cons (plainObj_wpAny_Assign_Attribute ?_)
  refine ld_slot (v := v) ns ?_ (ld_slot (v := .ref a) ns ?_ ?_ rfl kind_self (by decide)) rfl (kind_fld T.f1) T.f2
  · exact bind_b kind_self (kind_fld T.f1)
  · exact bind_a kind_self (kind_fld T.f1) (fun z => by
      have y := T.f1
      rw [← z] at y
      simp at y)
  refine set_plain X1 (ox := excO C t0) (od := none) ⟨oa1, rfl, rfl, trivial⟩ T.sa ?_
  refine osa_first X1 oa1 lc ch.cons rfl T.noN (fun h3 tk3 dx k3 dn dne ox3 n3 => ?_)
  show wpAny _ _ (execs _ _) _ _ _
  have z : s.heap.objs.size < h₁.objs.size := ns.lt
  exact wpAny_execs_nil (go h3 tk3 dx (fun b o hb e => k3 b o hb (old b o e)) ox3 (Nat.le_of_lt (Nat.lt_of_lt_of_le z dn)) dne n3)
theorem err_made (T : ErrTxt K mg x f C fI) {v : Value} (X : K.In s.heap) (nl : s.heap.NoLimit) (hroom : A.depth + 1 < recursionLimit) (go : ∀ h' tk e d, Born s.heap h' e C d f v → R (.ok (.ret (.ref e))) { s with heap := h', toks := tk }) :
    codeAny (model prog w) A (.call (.ref C) ⟨[v], []⟩) R s := by
  obtain ⟨nm, q, N, bs, bm, sn, sub, ab, col, dd, k0, k1, k2, k3, k5, B, nwId, inId, bB, F, ch, oC⟩ := T.cls
  obtain ⟨hp, g, dr, tk, os⟩ := s
  have old : ∀ b o, hp.get? b = some o → ((hp.push (kdv_tup [v])).push (excO C hp.objs.size)).get? b = some o := fun b o e => Heap.get?_push_of_some _ (Heap.get?_push_of_some _ e)
  have here : ((hp.push (kdv_tup [v])).push (excO C hp.objs.size)).get? (hp.objs.size + 1) = some (excO C hp.objs.size) := by heap_get
  refine mk_call F ch (X _ _ oC) (looks_findIn X T.iC) (fun me => bind_fn X me T.tC) (by rw [sizeLine_eq]; exact (by decide : 1 ≤ 16777216)) ?_
  refine err_init (s := ⟨(hp.push (kdv_tup [v])).push (excO C hp.objs.size), g, dr, tk, os⟩) T (X.keeps old) (nl.keeps old) here ?_ fun h' tk' dx k' ox dn dne n1 => ?_
  · show A.depth + 1 < recursionLimit
    exact hroom
  · have z : hp.objs.size + 1 + 1 ≤ dx := by
      have q := dn
      simpa only [Heap.size_push] using q
    exact ⟨rfl, go h' tk' (hp.objs.size + 1) dx ⟨fun b o e => k' b o (Nat.ne_of_lt (Nat.lt_succ_of_lt (Heap.lt_size e))) (old b o e), Nat.le_succ _, ⟨_, _, ox, rfl, rfl, rfl, rfl⟩, Nat.le_trans (by show hp.objs.size ≤ hp.objs.size + 1 + 1; omega) z, dne, n1⟩⟩
end
end GLE
end PySem
namespace GL
open PySem PySem.Spec PyProof.Rows L2 PySem.GLE
/-- an error of the class at C whose dict, if any, is at d, held as a value -/
def EV (C : Addr) (d : Option Addr) (a : Addr) : HO := .ext fun h => ∃ (oe : Obj) (vs : Array Value), h.get? a = some oe ∧ Zc (.ref C) d oe ∧ oe.data = .fields vs
theorem ev_ok {P : Program} {w : World} {H : Hp} {h : Heap} {a C : Addr} {d : Option Addr} {oe : Obj} {vs : Array Value} (e : h.get? a = some oe) (z : Zc (.ref C) d oe) (q : oe.data = .fields vs) : ObjOk P w H h a (EV C d a) :=
  ⟨⟨oe, vs, e, z, q⟩, ⟨oe, e⟩, fun _ _ ⟨o, v, q, r⟩ k => ⟨o, v, k o q, r⟩⟩
theorem ev_at {P : Program} {w : World} {H : Hp} {h : Heap} {a C : Addr} {d : Option Addr} (ok : HOk P w H h) (e : H a = some (EV C d a)) : ∃ (oe : Obj) (vs : Array Value), h.get? a = some oe ∧ Zc (.ref C) d oe ∧ oe.data = .fields vs := by
  have x : ObjOk P w H h a (.ext fun h => ∃ (oe : Obj) (vs : Array Value), h.get? a = some oe ∧ Zc (.ref C) d oe ∧ oe.data = .fields vs) := ok a _ e
  exact x.1
theorem exO_at {P : Program} {w : World} {H : Hp} {h : Heap} {a C : Addr} (ok : HOk P w H h) (e : H a = some (ExO (.ref C) a)) : ∃ (oe : Obj) (vs : Array Value), h.get? a = some oe ∧ Zc (.ref C) none oe ∧ oe.data = .fields vs := by
  have x : ObjOk P w H h a (.ext fun h => ∃ (oe : Obj) (vs : Array Value), h.get? a = some oe ∧ Zc (.ref C) none oe ∧ oe.data = .fields vs ∧ vs[1]? = some .none ∧ vs[2]? = some .none ∧ 4 < vs.size) := ok a _ e
  obtain ⟨⟨oe, vs, h1, h2, h3, _⟩, _⟩ := x
  exact ⟨oe, vs, h1, h2, h3⟩
theorem rel1 {f : Str} {v : V} {u : Value} (r : RelV v u) (g : Str) : RelO (List.lookup g [(f, v)]) (if g = f then some u else none) := by
  by_cases e : g = f
  · subst e
    rw [if_pos rfl]
    have q : List.lookup g [(g, v)] = some v := by simp [List.lookup]
    rw [q]
    exact r
  · rw [if_neg e]
    have n : (g == f) = false := by simpa using e
    have q : List.lookup g [(f, v)] = none := by simp [List.lookup, n]
    rw [q]
    trivial
section
variable {X : Cx} {C fI : Addr} {x f : Str} {a : Expr} {ta : TA} {p pos : Pos} {k : Nat}
/-- x(a) as a value: the error, its dict -/
def tErr (C : Addr) (f : Str) (ta : TA) : TE := fun σ H Q => ta σ H fun vs H1 => ∃ v, vs = [v] ∧ ∀ e d, H1 e = none → H1 d = none → d ≠ e → Q (.ref e) (upd (upd H1 d (.xd [(f, v)])) e (EV C (some d) e))
theorem pe_err (T : ErrTxt X.K X.mg x f C fI) (hr : Room k X.A) (ha : PA X [a] ta) (hg : Gl X x := by exact rfl) (hdb : (x == ("__debug__" : Str)) = false := by decide)
    (he : starEach [a] X.env = (false, eval a X.env) :: starEach [] X.env := by rfl) (hpl : (backTo pos (starEach [] X.env)).any (·.1) = false := by rfl) : PE X (.Call (.Name x p) [a] [] pos) (tErr C f ta) := by
  refine ⟨fun pins s σ H Q I h => ?_⟩
  refine wpAny_Call_Name_kw (ld_glob I hg T.gC ?_ hdb)
  refine PySem.W.callWith_K (h₀ := X.base) I.ok.mod.kin T.kC (thn (ha.run pos pins s σ H _ I h) fun us s1 hh => ?_) he hpl
  obtain ⟨vs, H1, I1, r1, v, ev, q1⟩ := hh
  subst ev
  refine ⟨I1.kIn, ?_⟩
  obtain ⟨u, rfl, ru⟩ := vals1 r1
  show wpAny _ _ (call (.ref C) [u]) _ _ _
  have nl := I1.nolimit
  obtain ⟨hp, g, dr, tk, os⟩ := s1
  refine wpAny_call (err_made T I1.kIn nl (by have := hr.dp; omega) fun h' tk' e d M => ?_)
  obtain ⟨oe, fv, oE, hc, hd, hdat, _⟩ := M.obj
  obtain ⟨G, g1, g2⟩ := restrict h' fun b => decide (b ≠ e)
  have gk : ∀ b, b ≠ e → G.get? b = h'.get? b := fun b hb => g1 b (decide_eq_true hb)
  have ge : G.get? e = none := g2 e (by simp)
  have old : ∀ b o, hp.get? b = some o → G.get? b = some o := fun b o q => (gk b (Nat.ne_of_lt (Nat.lt_of_lt_of_le (Heap.lt_size q) M.new))).trans (M.old b o q)
  have up : ∀ b o, G.get? b = some o → h'.get? b = some o := fun b o q => by
    by_cases hb : b = e
    · rw [hb, ge] at q; cases q
    · exact (gk b hb).symm.trans q
  have ob : ObjOk X.prog X.w (upd H1 d (.xd [(f, v)])) G d (.xd [(f, v)]) := ⟨_, M.ns.at (fun o q => (gk d M.dne).trans q), fun y => rel1 ru y⟩
  have J : Inv X pins σ (upd H1 d (.xd [(f, v)])) ⟨G, g, dr, tk', os⟩ := I1.laid (t' := tk') old M.dnew ob
  have ne : H1 e = none := I1.hok.fresh M.new
  have ne2 : upd H1 d (.xd [(f, v)]) e = none := by rw [upd_ne (Ne.symm M.dne)]; exact ne
  exact ⟨.ref e, _, J.laidN (t' := tk') up ge ne2 (ev_ok oE ⟨hc, hd⟩ hdat), rfl, q1 e d ne (I1.hok.fresh M.dnew) M.dne⟩
/-- x(a) as what is raised -/
def tMkErr (C : Addr) (f : Str) (ta : TA) : L2.St → Hp → XK → Prop := fun σ H Q => ta σ H fun vs H1 => ∃ v, vs = [v] ∧ ∀ d, H1 d = none → Q (.ref C) (some d) (upd H1 d (.xd [(f, v)]))
theorem pmk_err (T : ErrTxt X.K X.mg x f C fI) (hr : Room k X.A) (ha : PA X [a] ta) (hg : Gl X x := by exact rfl) (hdb : (x == ("__debug__" : Str)) = false := by decide)
    (he : starEach [a] X.env = (false, eval a X.env) :: starEach [] X.env := by rfl) (hpl : (backTo pos (starEach [] X.env)).any (·.1) = false := by rfl) : PMk X (.Call (.Name x p) [a] [] pos) (tMkErr C f ta) := by
  intro pins s σ H Q I h
  refine wpAny_Call_Name_kw (ld_glob I hg T.gC ?_ hdb)
  refine PySem.W.callWith_K (h₀ := X.base) I.ok.mod.kin T.kC (thn (ha.run pos pins s σ H _ I h) fun us s1 hh => ?_) he hpl
  obtain ⟨vs, H1, I1, r1, v, ev, q1⟩ := hh
  subst ev
  refine ⟨I1.kIn, ?_⟩
  obtain ⟨u, rfl, ru⟩ := vals1 r1
  show wpAny _ _ (call (.ref C) [u]) _ _ _
  have nl := I1.nolimit
  obtain ⟨hp, g, dr, tk, os⟩ := s1
  refine wpAny_call (err_made T I1.kIn nl (by have := hr.dp; omega) fun h' tk' e d M => ?_)
  show MkP X pins σ Q (.ref e) ⟨h', g, dr, tk', os⟩
  obtain ⟨oe, fv, oE, hc, hd, hdat, h1⟩ := M.obj
  obtain ⟨G, g1, g2⟩ := restrict h' fun b => decide (b ≠ e)
  have gk : ∀ b, b ≠ e → G.get? b = h'.get? b := fun b hb => g1 b (decide_eq_true hb)
  have ge : G.get? e = none := g2 e (by simp)
  have old : ∀ b o, hp.get? b = some o → G.get? b = some o := fun b o q => (gk b (Nat.ne_of_lt (Nat.lt_of_lt_of_le (Heap.lt_size q) M.new))).trans (M.old b o q)
  have up : ∀ b o, G.get? b = some o → h'.get? b = some o := fun b o q => by
    by_cases hb : b = e
    · rw [hb, ge] at q; cases q
    · exact (gk b hb).symm.trans q
  have ob : ObjOk X.prog X.w (upd H1 d (.xd [(f, v)])) G d (.xd [(f, v)]) := ⟨_, M.ns.at (fun o q => (gk d M.dne).trans q), fun y => rel1 ru y⟩
  have J : Inv X pins σ (upd H1 d (.xd [(f, v)])) ⟨G, g, dr, tk', os⟩ := I1.laid (t' := tk') old M.dnew ob
  refine ⟨e, oe, fv, ⟨G, g, dr, tk', os⟩, _, .ref C, some d, rfl, J, up, ge, oE, ⟨hc, hd⟩, hdat, h1, ?_, rfl, I1.bare, raises_own T.exC T.tyC, q1 d (I1.hok.fresh M.dnew)⟩
  rw [upd_ne (Ne.symm M.dne)]
  exact I1.hok.fresh M.new
/-- o.f, o an error held as a value -/
def tErrF (K : PySem.W.Frag) (f : Str) (to : TE) : TE := fun σ H Q => to σ H fun x H1 => ∃ (a C d : Addr) (fs : List (Str × V)) (v : V), x = .ref a ∧ XfC K C ∧ PySem.W.findIn K (.ref C) f = some none ∧ H1 a = some (EV C (some d) a) ∧ H1 d = some (.xd fs) ∧ fs.lookup f = some v ∧ Q v H1
theorem pe_errF {o : Expr} {to : TE} (ho : PE X o to) (hb : attributeBase o f X.env (eval o X.env) = eval o X.env := by rfl) : PE X (.Attribute o f pos) (tErrF X.K f to) := by
  refine ⟨fun pins s σ H Q I h => ?_⟩
  refine attr_of hb (thn (ho.run pins s σ H _ I h) fun u s1 hh => ?_)
  obtain ⟨x, H1, I1, rx, a, C, d, fs, v, ex, T, no, ea, ed, l, q⟩ := hh
  subst ex
  obtain rfl : u = Value.ref a := rx
  obtain ⟨oe, vs, oE, hz, hdat⟩ := ev_at I1.hok ea
  have hx : ObjOk X.prog X.w H1 s1.heap d (.xd fs) := I1.hok d _ ed
  obtain ⟨mA, hns, hr⟩ := hx
  obtain ⟨od, ho, hl⟩ := lookIn_ns hns
  obtain ⟨u, hu, ru⟩ := RelO.some_of (v := v) (o := mA f) (by rw [← l]; exact hr f)
  have J : PySem.W.InstAt s1.heap a oe C (some od) := ⟨oE, hz.1, by unfold PySem.W.notCls; rw [hdat] <;> rfl, by rw [hz.2]; exact ho⟩
  exact HandSPX.exc_get I1.kIn J T.ga T.gg T.exC (PySem.W.findObj_own T.hdC no rfl (by rw [hl, hu])) (handed_of ru) ⟨v, H1, I1.tok _, ru, q⟩
end
/-! ### isinstance -/
structure ErrC (K : PySem.W.Frag) (D : Addr) : Prop where
  cl : (PySem.W.clsIn K D).isSome = true
  hg : PySem.W.findIn K (.ref D) "__getattribute__" = some (some (.builtin "BaseException.__getattribute__"))
  hk : PySem.W.findIn K (.ref D) "__getattr__" = some none
  hs : PySem.W.subIn K (.ref D) (.type "BaseException") = some true
  ha : PySem.W.findIn K (.ref D) "__class__" = some (some (.builtin "object.__class__"))
  hn : PySem.W.specialIn K (.builtin "object.__class__") "__get__" = some (some (.builtin "getset_descriptor.__get__"))
  ht : PySem.W.takesIn K (.builtin "object.__class__") = some true
  hm : PySem.W.mroIn K D (.type "object") = some true
/-- an error of the class D is tracked at a, its dict at d, if any -/
def IsErr (H : Hp) (D a : Addr) : Prop := H a = some (ExO (.ref D) a) ∨ ∃ d fs, H a = some (EV D (some d) a) ∧ H d = some (.xd fs)
theorem is_run {X : Cx} {pins : List (Addr × Obj)} {σ : L2.St} {H : Hp} {s : Shared} {Q : Value → Shared → Prop} {E : Value → Shared → Prop} {A : Around} {D a : Addr} {cv : Value} {b : Bool} {oe : Obj} {od : Option Obj} (C : ErrC X.K D) (I : Inv X pins σ H s) (J : PySem.W.InstAt s.heap a oe D od)
    (e : PySem.W.kitOne X.K (.ref D) cv = some b) (q : ∀ tk, Q (.bool b) { s with toks := tk }) : wpAny (model X.prog X.w) A (call (.builtin "isinstance") [.ref a, cv]) Q E s :=
  PySem.W.kia_one (PySem.W.kitx_exc C.cl C.hg C.hk C.hs C.ha C.hn C.ht C.hm) I.kIn J e (fun z => nomatch z) q
theorem IsErr.inst {X : Cx} {pins : List (Addr × Obj)} {σ : L2.St} {H : Hp} {s : Shared} {D a : Addr} (I : Inv X pins σ H s) (h : IsErr H D a) : ∃ oe od, PySem.W.InstAt s.heap a oe D od := by
  rcases h with e | ⟨d, fs, e, ed⟩
  · obtain ⟨oe, vs, h1, h2, h3⟩ := exO_at I.hok e
    exact ⟨oe, none, h1, h2.1, by unfold PySem.W.notCls; rw [h3] <;> rfl, by rw [h2.2]; trivial⟩
  · obtain ⟨oe, vs, h1, h2, h3⟩ := ev_at I.hok e
    have hx : ObjOk X.prog X.w H s.heap d (.xd fs) := I.hok d _ ed
    obtain ⟨mA, hns, hr⟩ := hx
    obtain ⟨od, ho, hl⟩ := lookIn_ns hns
    exact ⟨oe, some od, h1, h2.1, by unfold PySem.W.notCls; rw [h3] <;> rfl, by rw [h2.2]; exact ho⟩
def rIsErr (K : PySem.W.Frag) : List V → Hp → VK → Prop := fun xs H Q => ∃ (a D : Addr) (c : V) (cv : Value) (b : Bool), xs = [.ref a, c] ∧ ErrC K D ∧ IsErr H D a ∧ ClsV c cv ∧ PySem.W.kitOne K (.ref D) cv = some b ∧ Q (.bl b) H
theorem call_isErr {X : Cx} : CallR X (.builtin "isinstance") (rIsErr X.K) := by
  intro pins s σ H xs us Q I r h
  obtain ⟨a, D, c, cv, b, rfl, C, ie, hc, e, q⟩ := h
  obtain ⟨u1, u2, rfl, r1, r2⟩ := vals2 r
  have e2 := hc.eq r2
  subst e2
  cases (show u1 = Value.ref a from r1)
  obtain ⟨oe, od, J⟩ := ie.inst I
  exact is_run C I J e fun tk => ⟨.bl b, H, I.tok tk, rfl, q⟩
/-- .. of an error that is pinned -/
def rIsPin (K : PySem.W.Frag) (pn : List (Addr × Obj)) : List V → Hp → VK → Prop := fun xs H Q => ∃ (p : Addr × Obj) (D : Addr) (c : V) (cv : Value) (b : Bool), xs = [.ref p.1, c] ∧ p ∈ pn ∧ Zc (.ref D) none p.2 ∧ (∃ vs, p.2.data = .fields vs) ∧ ErrC K D ∧ ClsV c cv ∧ PySem.W.kitOne K (.ref D) cv = some b ∧ Q (.bl b) H
theorem call_isPin {X : Cx} : CallR X (.builtin "isinstance") (rIsPin X.K X.pn) := by
  intro pins s σ H xs us Q I r h
  obtain ⟨p, D, c, cv, b, rfl, hp, hz, ⟨vs, hd⟩, C, hc, e, q⟩ := h
  obtain ⟨u1, u2, rfl, r1, r2⟩ := vals2 r
  have e2 := hc.eq r2
  subst e2
  cases (show u1 = Value.ref p.1 from r1)
  have P := I.pin p (List.mem_append_left _ hp)
  have J : PySem.W.InstAt s.heap p.1 p.2 D none := ⟨P.1, hz.1, by unfold PySem.W.notCls; rw [hd] <;> rfl, by rw [hz.2]; trivial⟩
  exact is_run C I J e fun tk => ⟨.bl b, H, I.tok tk, rfl, q⟩
/-! ### a text, or none of it -/
def wd (t : Str) (b : Bool) : Str := if b then t else ""
theorem wd_le {t : Str} {b : Bool} {n : Nat} (h : t.length ≤ n) : (wd t b).length ≤ n := by
  cases b
  · exact Nat.le_trans (show (("" : Str).length) ≤ 0 by decide) (Nat.zero_le _)
  · exact h
def rTimesB : R2 := fun x y H Q => ∃ (t : Str) (b : Bool), x = .str t ∧ y = .int (if b then 1 else 0) ∧ t.length < 1000 ∧ Q (.str (wd t b)) H
theorem op_timesB {X : Cx} : OpR X (binaryOp .Mult) rTimesB := by
  intro pins s σ H x y v u Q I rx ry h
  obtain ⟨t, b, rfl, rfl, ht, q⟩ := h
  obtain ⟨t1, rfl⟩ := rx
  obtain ⟨t2, rfl⟩ := ry
  cases b with
  | true =>
    refine P.mul_str (n := 1) (by decide) (fun _ z => absurd z (by simp)) (fun _ z => absurd z (by simp)) ?_
    show (Made.val (.str t t1)).post _ s
    exact ⟨.str t, H, I, ⟨_, rfl⟩, q⟩
  | false =>
    refine P.mul_str_none (n := 0) (by decide) (by decide) ?_
    exact ⟨.str "", H, I.tok _, ⟨_, rfl⟩, q⟩
end GL
/-! except clauses with and without a name, one behind the other; defs called in a suite with the error that it holds -/
namespace GL
open PySem PySem.Spec PyProof.Rows L2 PySem.GLE
/-- a clause: its class, the slot of its name if it has one, its suite's reading -/
structure Cls1 where
  c : Value
  i : Option Nat
  ts : Addr → Value → Option Addr → TS
def goEnd (i : Nat) (D : Ends) : Ends := { nx := fun σ H => D.nx (σ.set i none) H, rt := D.rt, bk := fun σ H => D.bk (σ.set i none) H, ct := fun σ H => D.ct (σ.set i none) H }
def runC (q : Cls1) (D : Ends) (a : Addr) (cls : Value) (d : Option Addr) (σ : L2.St) (H : Hp) : Prop :=
  match q.i with
  | none => q.ts a cls d D σ H
  | some i => q.ts a cls d (goEnd i D) (σ.set i (some (.ref a))) H
/-- what the clauses together wish of an error of the body -/
def wCls (K : PySem.W.Frag) (W0 : WX) (D : Ends) : List Cls1 → WX
  | [] => W0
  | q :: r => fun cls d σ H => ∃ b, PySem.W.exmOne K cls q.c = some b ∧ (b = true → ∀ a, H a = none → runC q D a cls d σ H) ∧ (b = false → wCls K W0 D r cls d σ H)
inductive Clauses (X : Cx) : List ExceptHandler → List Cls1 → Prop
  | nil : Clauses X [] []
  | bare {x : Str} {c : Value} {ts : Addr → Value → Option Addr → TS} {b₀ : Stmt} {suite : List Stmt} {np pos' : Pos} {hds : List ExceptHandler} {l : List Cls1} (nm : Names X x c)
      (su : ∀ (a : Addr) (oe : Obj) (cls : Value) (d : Option Addr) (pn : List (Addr × Obj)), Zc cls d oe → (∃ vs, oe.data = .fields vs) → PSs (X.suite a ((a, oe) :: pn)) (b₀ :: suite) (ts a cls d)) (r : Clauses X hds l) :
      Clauses X (.ExceptHandler (some (.Name x np)) none (b₀ :: suite) pos' :: hds) (⟨c, none, ts⟩ :: l)
  | named {x n : Str} {i : Nat} {c : Value} {ts : Addr → Value → Option Addr → TS} {b₀ : Stmt} {suite : List Stmt} {np pos' : Pos} {hds : List ExceptHandler} {l : List Cls1} (nm : Names X x c) (nd : X.N.Nodup) (at_ : X.N[i]? = some n) (ln : X.env.kindOf n = some .local)
      (su : ∀ (a : Addr) (oe : Obj) (cls : Value) (d : Option Addr) (pn : List (Addr × Obj)), Zc cls d oe → (∃ vs, oe.data = .fields vs) → PSs (X.suite a ((a, oe) :: pn)) (b₀ :: suite) (ts a cls d)) (r : Clauses X hds l) :
      Clauses X (.ExceptHandler (some (.Name x np)) (some n) (b₀ :: suite) pos' :: hds) (⟨c, some i, ts⟩ :: l)
section
variable {X : Cx} {body : List Stmt} {h₀ : ExceptHandler} {hds : List ExceptHandler} {l : List Cls1} {pos : Pos} {tb : WX → TS} {W0 : WX}
theorem ps_clauses (hs : X.stack = X.env :: X.outer) (hf : X.env.frame = some X.env.locals) (tk : Takes X W0)
    (hb : ∀ (W : WX) (pn : List (Addr × Obj)) (xe : Value → Shared → Prop), Takes (X.tr pn xe) W → PassesOwn (model X.prog X.w) X.A X.env xe → PSs (X.tr pn xe) body (tb W))
    (hh : Clauses X (h₀ :: hds) l) : PS X (.Try body (h₀ :: hds) [] [] pos) (fun D σ H => tb (wCls X.K W0 D l) D σ H) := by
  refine ⟨fun pins s σ H D I h => ?_⟩
  have ok := I.ok
  have frA : X.A.frames = some (X.env :: X.outer) := by rw [ok.frames, hs]
  refine wpAny_Try_except ?_
  refine wpAny_mono ((hb (wCls X.K W0 D l) (X.pn ++ pins) (fun e s₁ => wpAny (model X.prog X.w) X.A (noteFrame e X.env) (fun _ s₂ => wpAny (model X.prog X.w) X.A (setFlight e none) (fun _ s₃ =>
    wpAny (model X.prog X.w) X.A (handleBy e X.env (h₀ :: hds)) (SP X pins D) X.xe s₃) X.xe s₂) X.xe s₁) (fun u s' xx => ?_) PassesOwn.looking).run [] s σ H D (I.toTry _) h) (fun f s1 sp1 => ?_) (fun e s1 he => he)
  · obtain ⟨a, B, sI, pins', σ', H', cls, d, rfl, J', nb, up, sky, na, os, ag, w⟩ := xx
    have J : Inv X pins σ' H' sI := J'.ofTry ok
    have sky1 : Sky B (X.env :: X.outer) a (Zc cls d) X.env.locals s'.heap := by rw [← hs]; exact sky
    show wpAny (model X.prog X.w) X.A (noteFrame (.ref a) X.env) _ _ _
    refine Sky.land Zc.steady frA hf sky1 fun h3 fl3 up3 => ?_
    have J3 : Inv X pins σ' H' { s' with heap := h3 } := J.landed nb fl3.1 (up.trans up3) os ag
    obtain ⟨oe3, vs3, oa3, zc3, dt3⟩ := fl3.there
    have outF : ∀ {h : Heap} {o : Obj} {vs : Array Value}, h.FunFrames B (X.env :: X.outer) → h.get? a = some o → o.data = .fields vs → a ∉ frs (X.env :: X.outer) := fun {h o vs} ff e dd hm => by
      obtain ⟨_, o', e', hnf⟩ := ff.mem hm
      rw [e] at e'; cases e'
      exact hnf _ dd
    have nfr := outF fl3.2.2.1 oa3 dt3
    have nL : a ≠ X.env.locals := fun z => nfr (List.mem_filterMap.mpr ⟨X.env, List.mem_cons_self, by rw [hf, z]⟩)
    have nF : a ∉ X.fs := fun hm => by
      obtain ⟨e, he, q⟩ := List.mem_filterMap.mp hm
      exact nfr (List.mem_filterMap.mpr ⟨e, List.mem_cons_of_mem _ he, q⟩)
    have S3 := J3.suite oa3 dt3 na nL nF
    have tell : ∀ {x : Str} {c : Value} {np : Pos} {Q : Value → Shared → Prop} {E : Value → Shared → Prop}, Names X x c → Q c { s' with heap := h3 } → wpAny (model X.prog X.w) (X.A.mark (some (.ref a))) (eval (.Name x np) X.env) Q E { s' with heap := h3 } := fun {x c np Q E} nm q => by
      obtain ⟨hg, hdbg, hm | ⟨hm, hv, hnn⟩⟩ := nm
      · exact ld_glob (X := X.suite a ((a, oe3) :: (X.pn ++ pins))) S3 hg hm q hdbg
      · exact ld_blt (X := X.suite a ((a, oe3) :: (X.pn ++ pins))) S3 hg hm hv q hnn hdbg
    have LT : PySem.W.Looks (model X.prog X.w) h3 (typeOf (.ref a)) cls := fun A Q E s k q => wpAny_typeOf_ref (k _ _ oa3) (by rw [zc3.1]; exact q)
    have all : ∀ {hds' : List ExceptHandler} {l' : List Cls1}, Clauses X hds' l' → wCls X.K W0 D l' cls d σ' H' → wpAny (model X.prog X.w) X.A (handleBy (.ref a) X.env hds') (SP X pins D) X.xe { s' with heap := h3 } := by
      intro hds' l' hk
      induction hk with
      | nil =>
        intro w
        refine wpAny_handleBy_nil ?_
        obtain ⟨k1, k2, k3, oe, vs, T, oT, ts', he, hz, hd, h1, hr⟩ := id fl3
        unfold PySem.passOn
        refine wpAny_bind (wpAny_field he hd h1 ?_)
        rw [if_neg (show ¬ ((Value.ref T == Value.none) = true) from by simp)]
        have fin : wpAny (model X.prog X.w) X.A (setFlight (.ref a) X.env.frame) (fun _ s4 => wpAny (model X.prog X.w) X.A (throw (.ref a) : Sem Flow) (SP X pins D) X.xe s4) X.xe { s' with heap := h3 } := by
          rw [hf]
          refine HandSPX.setFlight_upZ fl3 fun h4 hh4 up4 => wpAny_throw (tk _ _ ?_)
          exact ⟨a, B, sI, pins, σ', H', cls, d, rfl, J, nb, (up.trans up3).trans up4, .inr (.inr (by rw [hs]; exact hh4)), na, os, ag, w⟩
        first
          | exact wpAny_bind (wpAny_pure (wpAny_bind fin))
          | exact wpAny_bind fin
      | @bare x c ts b₀ suite np pos' hds2 l2 nm su r ih =>
        intro w
        obtain ⟨b, hb1, yes, no⟩ := w
        refine wpAny_handleBy_cons (codeAny_handlers_test ?_) (by intro q; cases q)
        have LM := PySem.W.exm_one (M := model X.prog X.w) (J3.kIn) LT hb1
        refine tell nm (LM.here ?_)
        cases b with
        | false =>
          show wpAny _ X.A (handleBy (.ref a) X.env hds2) _ _ _
          exact ih (no rfl)
        | true =>
          refine codeAny_handlers_suite ?_
          refine HandSPX.lands_againZ fl3 fun h4 fl4 up4 => ?_
          have J4 : Inv X pins σ' H' { s' with heap := h4 } := J.landed nb fl4.1 ((up.trans up3).trans up4) os ag
          obtain ⟨oe4, vs4, oa4, zc4, dt4⟩ := fl4.there
          have S4 := J4.suite oa4 dt4 na nL nF
          refine wpAny_mono ((su a oe4 cls d (X.pn ++ pins) zc4 ⟨_, dt4⟩).run [] _ _ H' _ S4 (yes rfl a na)) (fun f s6 sp6 => ?_) (fun _ _ z => False.elim z)
          cases f with
          | ret u =>
            obtain ⟨v6, σ6, H6, S6, r6, q6⟩ := sp6
            exact ⟨_, _, _, S6.unsuite ok, r6, q6⟩
          | next | brk | cont =>
            obtain ⟨σ6, H6, S6, q6⟩ := sp6
            exact ⟨_, _, S6.unsuite ok, q6⟩
      | @named x n i c ts b₀ suite np pos' hds2 l2 nm nd at_ ln su r ih =>
        intro w
        obtain ⟨b, hb1, yes, no⟩ := w
        refine wpAny_handleBy_cons (codeAny_handlers_test ?_) (by intro q; cases q)
        have LM := PySem.W.exm_one (M := model X.prog X.w) (J3.kIn) LT hb1
        refine tell nm (LM.here ?_)
        cases b with
        | false =>
          show wpAny _ X.A (handleBy (.ref a) X.env hds2) _ _ _
          exact ih (no rfl)
        | true =>
          refine codeAny_handlers_suite_as ?_
          refine HandSPX.lands_againZ fl3 fun h4 fl4 up4 => ?_
          have J4 : Inv X pins σ' H' { s' with heap := h4 } := J.landed nb fl4.1 ((up.trans up3).trans up4) os ag
          obtain ⟨oe4, vs4, oa4, zc4, dt4⟩ := fl4.there
          have S4 := J4.suite oa4 dt4 na nL nF
          refine store_ok (X := X.suite a ((a, oe4) :: (X.pn ++ pins))) (v := .ref a) S4 nd at_ (.inl ln) rfl (fun s5 S5 => ?_) (.inr ln)
          refine wpAny_mono ((su a oe4 cls d (X.pn ++ pins) zc4 ⟨_, dt4⟩).run [] s5 _ H' _ S5 (yes rfl a na)) (fun f s6 sp6 => ?_) (fun _ _ z => False.elim z)
          have end_ : ∀ {σ6 : L2.St} {H6 : Hp} {Q : Shared → Prop}, Inv (X.suite a ((a, oe4) :: (X.pn ++ pins))) [] σ6 H6 s6 → (∀ s7, Inv X pins (σ6.set i none) H6 s7 → Q s7) →
              wpAny (model X.prog X.w) X.A (do bindName X.env n .none; unbindBehindTheSuite X.env n pos') (fun _ s7 => Q s7) X.xe s6 := fun {σ6 H6 Q} S6 hq => gone_ok (S6.unsuite ok) nd at_ ln hq
          cases f with
          | ret u =>
            obtain ⟨v6, σ6, H6, S6, r6, q6⟩ := sp6
            exact end_ S6 fun s7 J7 => ⟨_, _, _, J7, r6, q6⟩
          | next | brk | cont =>
            obtain ⟨σ6, H6, S6, q6⟩ := sp6
            exact end_ S6 fun s7 J7 => ⟨_, _, J7, q6⟩
    exact all hh w
  · cases f with
    | next =>
      obtain ⟨σ', H', J', q⟩ := sp1
      exact wpAny_execs_nil ⟨σ', H', J'.ofTry ok, q⟩
    | ret u =>
      obtain ⟨v, σ', H', J', r, q⟩ := sp1
      exact ⟨v, σ', H', J'.ofTry ok, r, q⟩
    | brk | cont =>
      obtain ⟨σ', H', J', q⟩ := sp1
      exact ⟨σ', H', J'.ofTry ok, q⟩
end
/-- a def that gets the error that is handled where it is called -/
structure FnE (P : Program) (w : World) (K : PySem.W.Frag) (mg : Str → Option Value) (base : Heap) (k : Nat) (f : Addr) (fd : FuncData) (ps : List Str) (sp : Addr × Obj → Sp) : Prop where
  len : ∀ p vs H Q E, sp p vs H Q E → vs.length = ps.length
  go : ∀ {A : Around} {outer : List Env} {s : Shared} {H : Hp} {args : Args} {us : List Value} {vs : List V} {Q : VK} {E : XK} {p : Addr × Obj}, L2H.RoomH k A → L2H.PinOk outer H s p → Env0 P w K mg base A outer s H → BindsTo s fd args (ps.zip us) → Vals vs us → sp p vs H Q E →
    codeAny (model P w) A (.call (.ref f) args) (CR CX0 outer P w H s Q E) s
theorem fnE_mk {P : Program} {w : World} {K : PySem.W.Frag} {mg : Str → Option Value} {base : Heap} {k : Nat} {f : Addr} {fd : FuncData} {ps N : List Str} {sp : Addr × Obj → Sp} {x qual : Str} {st : Stmt} (F : Fun K x qual st f fd) (S : FnScope N ps (defScope st)) (len : ∀ p vs H Q E, sp p vs H Q E → vs.length = ps.length)
    (body : ∀ (cdv : Value) (A : Around) (outer : List Env) (s : Shared) (H : Hp) (vs : List V) (Q : VK) (E : XK) (p : Addr × Obj), L2H.RoomH k (A.deeper (envOfC qual (defScope st) s.heap.objs.size f cdv)) → sp p vs H Q E →
      ∃ t, PSs (L2H.cxH CX0 P w K mg base N qual (defScope st) f cdv A outer s H E p) (defBody st) t ∧ t { nx := fun _ H' => Q .non H', rt := Q } (start N vs) H) : FnE P w K mg base (k + 1) f fd ps sp := by
  obtain ⟨oc, od, kV, doc, pm, an, cdv, ct, osl, eF, at_, cR⟩ := F.ex
  subst eF
  constructor
  · exact len
  intro A outer s H args us vs Q E p room pin e0 bi vals asked
  have inK : K.In s.heap := e0.mod.kin.keeps (fun b o q => (e0.bs b o q).1)
  have line : s.heap.NoLimit := e0.mod.nolimit.keeps (fun b o q => (e0.bs b o q).1)
  have kinds : ∀ y ∈ ps.zip us, (defScope st).names.lookup y.1 = some .local ∨ ((defScope st).names.lookup y.1 = some .cell ∧ ((cellsFrom (s.heap.objs.size + 1) (defScope st).names []).lookup y.1).isSome = true) := by
    intro ⟨n, v⟩ hy
    cases S.par n (List.of_mem_zip hy).1 with
    | inl q => exact Or.inl q
    | inr q => exact Or.inr ⟨q, PySem.W.cellsFrom_some _ _ _ (Or.inl q)⟩
  apply codeAny_call_function room.depth (inK _ _ at_) rfl S.co S.gen rfl (PySem.W.codeRec_of inK cR)
  apply bi
  refine wpAny_newFunctionEnv_cells S.kind kinds (fun env eE s1 x1 => ?_)
  subst eE
  obtain ⟨t, rule, q⟩ := body cdv A outer s H vs Q E p (room.deeper _) asked
  have I0 := L2H.inv_startH (CX := CX0) (E := E) S pin e0 (len _ _ _ _ _ asked) vals x1
  refine ⟨line.keeps x1.toInCall.keep, codeAny_func (wpAny_mono (rule.run [] s1 _ H _ I0 q) (fun fl s' done => ?_) (fun _ _ z => z))⟩
  cases fl with
  | ret u => obtain ⟨v, _, H', J, rv, qv⟩ := done; exact ⟨v, H', J.os, J.bare, J.base, J.hok, rv, qv⟩
  | next => obtain ⟨_, H', J, qv⟩ := done; exact ⟨V.non, H', J.os, J.bare, J.base, J.hok, rfl, qv⟩
  | brk => obtain ⟨_, _, _, z⟩ := done; exact z.elim
  | cont => obtain ⟨_, _, _, z⟩ := done; exact z.elim
structure HasE (P : Program) (w : World) (K : PySem.W.Frag) (mg : Str → Option Value) (base : Heap) (x : Str) (k : Nat) (ps : List Str) (sp : Addr × Obj → Sp) : Prop where
  ex : ∃ f fd, FnE P w K mg base k f fd ps sp ∧ mg x = some (.ref f) ∧ PySem.W.keepIn K (.ref f) = true ∧ Binds K fd ps []
section
variable {X : Cx} {k : Nat} {ps : List Str} {sp : Addr × Obj → Sp} {E : XK} {x : Str} {p pos : Pos} {e : Expr} {es : List Expr} {t : TA}
theorem pe_callE {a : Addr} {oe : Obj} {pn : List (Addr × Obj)} (h : HasE X.prog X.w X.K X.mg X.base x k ps sp) (hr : L2H.RoomH k (X.suite a ((a, oe) :: pn)).A) (hx : Passes CX0 (X.suite a ((a, oe) :: pn)) E) (ha : PA (X.suite a ((a, oe) :: pn)) (e :: es) t) (hg : Gl X x := by exact rfl)
    (hdb : (x == ("__debug__" : Str)) = false := by decide) (he : starEach (e :: es) X.env = (false, eval e X.env) :: starEach es X.env := by rfl) (hpl : (backTo pos (starEach es X.env)).any (·.1) = false := by rfl) :
    PE (X.suite a ((a, oe) :: pn)) (.Call (.Name x p) (e :: es) [] pos) (tCall (sp (a, oe)) [] E t) := by
  obtain ⟨f, fd, F, m, kp, b⟩ := h.ex
  constructor
  intro pins s σ H Q I q
  apply wpAny_Call_Name_kw
  apply ld_glob I hg m _ hdb
  refine PySem.W.callWith_K (h₀ := X.base) I.ok.mod.kin kp (thn (ha.run pos pins s σ H _ I q) (fun us s1 z => ?_)) he hpl
  obtain ⟨vs, H1, I1, r, q1⟩ := z
  rw [List.append_nil] at q1
  refine ⟨I1.kIn, ?_⟩
  have n1 : (us ++ []).length = ps.length := by rw [List.append_nil, ← r.length]; exact F.len _ _ _ _ _ q1
  have b1 := b s1 us I1.kIn n1
  rw [List.append_nil] at b1
  have P1 := I1.pin (a, oe) (List.mem_append_left _ List.mem_cons_self)
  have pin : L2H.PinOk X.stack H1 s1 (a, oe) := ⟨P1.1, P1.2.1, fun hm => (List.mem_cons.mp (I1.stkSub a hm)).elim P1.2.2.1 P1.2.2.2.1, P1.2.2.2.2⟩
  refine wpAny_call (codeAny_mono (F.go hr pin I1.env0 b1 r q1) fun res s' z => ?_)
  match res, z with
  | .error _, z => exact hx pins σ H1 s1 _ s' I1 z
  | .ok (.ret _), z => exact I1.after z
end
end GL
/-! repr of data in which a dict of one int to an int may stand -/
namespace GL
open PySem PySem.Spec PyProof.Rows L2
mutual
inductive Dq (K : PySem.W.Frag) (H : Hp) : V → PyData → Prop
  | dp {v : V} {d : PyData} : Dp K H v d → okD d = true → Dq K H v d
  | one {a : Addr} {k n : Int} : H a = some (.dK [(.inl k, .int n)]) → k.natAbs < 10 ^ 4300 → n.natAbs < 10 ^ 4300 → Dq K H (.ref a) (.dict [(.int k, .int n)])
  | lst {a : Addr} {xs : List V} {ds : List PyData} : SqL K H a xs → DqAll K H xs ds → Dq K H (.ref a) (.list ds)
  | tup {a : Addr} {xs : List V} {ds : List PyData} : SqT K H a xs → DqAll K H xs ds → Dq K H (.ref a) (.tuple ds)
inductive DqAll (K : PySem.W.Frag) (H : Hp) : List V → List PyData → Prop
  | nil : DqAll K H [] []
  | cons {v : V} {vs : List V} {d : PyData} {ds : List PyData} : Dq K H v d → DqAll K H vs ds → DqAll K H (v :: vs) (d :: ds)
end
section
variable {X : Cx} {pins : List (Addr × Obj)} {σ : L2.St} {H : Hp} {s : Shared} {prog : Program} {w : World}
mutual
theorem Dq.reads (I : Inv X pins σ H s) : ∀ {d : PyData} {v : V} {u : Value}, Dq X.K H v d → RelV v u → ∃ as, Reads s.heap u d as
  | _, _, _, .dp h _, r => Dp.reads I _ _ _ h r
  | _, _, u, .one (k := k) (n := n) e k1 n1, r => by
    cases (show u = .ref _ from r)
    obtain ⟨_, _, vs, rel, dd⟩ := dk_of I.hok e
    obtain ⟨o, es, ep, ho, hx, hdat, _, hp, _⟩ := dd
    cases rel with
    | cons r1 rs =>
      cases rs
      generalize he : es.toList = l at hp
      cases hp with
      | cons p1 p2 ps =>
        cases ps
        rename_i q _ en
        obtain ⟨e1, tn, e3⟩ := r1
        have pk : keyIs (.inl k) en.key = true := by
          have z : keyIs q.1 en.key = true := p1
          rw [← show (Sum.inl k : Key) = q.1 from e1] at z
          exact z
        obtain ⟨i, t, z1, z2⟩ | ⟨x, t, z1, z2⟩ := keyIs_shape pk
        · cases z1
          refine ⟨_, Reads.dict (as := []) (bs := []) ho hx.1 hdat ?_ ?_⟩
          · rw [he]
            show ReadsAll _ [en.key] [_] _
            rw [z2]
            exact ReadsAll.cons (Reads.int k t) ReadsAll.nil
          · rw [he]
            show ReadsAll _ [en.val] [_] _
            rw [p2, e3]
            exact ReadsAll.cons (Reads.int n tn) ReadsAll.nil
        · cases z1
  | _, _, u, .lst hs ha, r => by
    cases (show u = .ref _ from r)
    obtain ⟨its, rv, ⟨o, n, ho, hc, _, hd⟩, _⟩ := I.list hs
    obtain ⟨as, hr⟩ := Dq.readsAll I ha rv
    exact ⟨_, Reads.list ho hc hd hr⟩
  | _, _, u, .tup hs ha, r => by
    cases (show u = .ref _ from r)
    obtain ⟨its, rv, ⟨o, ho, hc, n, hd⟩, _⟩ := I.tuple hs
    obtain ⟨as, hr⟩ := Dq.readsAll I ha rv
    exact ⟨_, Reads.tuple ho hc hd hr⟩
theorem Dq.readsAll (I : Inv X pins σ H s) : ∀ {ds : List PyData} {vs : List V} {us : List Value}, DqAll X.K H vs ds → Vals vs us → ∃ as, ReadsAll s.heap us ds as
  | _, _, _, .nil, .nil => ⟨_, ReadsAll.nil⟩
  | _, _, _, .cons h1 h2, .cons r1 r2 => by
    obtain ⟨as, q1⟩ := Dq.reads I h1 r1
    obtain ⟨bs, q2⟩ := Dq.readsAll I h2 r2
    exact ⟨_, ReadsAll.cons q1 q2⟩
end
mutual
theorem Dq.rep (I : Inv X pins σ H s) (nd : s.heap.NoDigits) : ∀ {d : PyData} {v : V} {u : Value}, Dq X.K H v d → RelV v u → d.shown.length ≤ sizeLine → ∃ bs, ReadAtMost s.heap d.depth bs ∧ ReprK prog w bs s.heap d.depth u d.shown
  | _, _, _, .dp h ok, r, sz => by
    obtain ⟨as, q⟩ := Dp.reads I _ _ _ h r
    exact rep_of nd q ok sz
  | _, _, u, .one (a := a) (k := k) (n := n) e k1 n1, r, sz => by
    cases (show u = .ref _ from r)
    obtain ⟨as, rd⟩ := Dq.reads I (.one e k1 n1) (show RelV (.ref a) (.ref a) from rfl)
    obtain ⟨_, sys, _⟩ := dk_of I.hok e
    obtain ⟨o, es, ep, ho, hc, hdat, h4, h5⟩ : ∃ o es ep, s.heap.get? a = some o ∧ o.cls = .type "dict" ∧ o.data = .dict es ep ∧ ReadsAll s.heap (es.toList.map (·.key)) [.int k] [] ∧ ReadsAll s.heap (es.toList.map (·.val)) [.int n] [] := by
      cases rd with
      | dict h1 h2 h3 h4 h5 =>
        refine ⟨_, _, _, h1, h2, h3, ?_, ?_⟩
        · generalize hz : List.map _ _ = zs at h4
          cases h4 with
          | cons a1 a2 =>
            cases a1
            cases a2
            exact ReadsAll.cons (Reads.int _ _) ReadsAll.nil
        · generalize hz : List.map _ _ = zs at h5
          cases h5 with
          | cons a1 a2 =>
            cases a1
            cases a2
            exact ReadsAll.cons (Reads.int _ _) ReadsAll.nil
    have szd : (dictText (PyData.shownKv [(.int k, .int n)])).length ≤ sizeLine := by simpa only [PyData.shown] using sz
    obtain ⟨b1, f1, r1⟩ := rep_all (prog := prog) (w := w) nd h4 (by simp only [okAll, okD, decide_eq_true k1, Bool.and_self]) (fun t m => by
      obtain ⟨p, hp, hl⟩ := PyData.shownKv_key_le [(.int k, .int n)] t m
      exact Nat.le_trans hl (Nat.le_trans (dictText_mem_le hp) szd))
    obtain ⟨b2, f2, r2⟩ := rep_all (prog := prog) (w := w) nd h5 (by simp only [okAll, okD, decide_eq_true n1, Bool.and_self]) (fun t m => by
      obtain ⟨p, hp, hl⟩ := PyData.shownKv_val_le [(.int k, .int n)] t m
      exact Nat.le_trans hl (Nat.le_trans (dictText_mem_le hp) szd))
    have rd2 : Reads s.heap (.ref a) (.dict [(.int k, .int n)]) _ := .dict ho hc hdat h4 h5
    have out : a ∉ b1 ++ b2 := not_mem_of_deeper rd2 (by simp only [PyData.depth, PyData.depthKv, PyData.depthAll]; omega) ((f1.mono (m := 0) (by simp [PyData.depth, PyData.depthAll])).append (f2.mono (m := 0) (by simp [PyData.depth, PyData.depthAll])))
    refine ⟨a :: (b1 ++ b2), ReadAtMost.cons rd2 (Nat.le_refl _) ((f1.append f2).mono (by simp [PyData.depth, PyData.depthAll])), ?_⟩
    have ent := ReprEntriesK.of_two es.toList _ _ (r1.more_le (fun b m => List.mem_append_left b2 m) (Nat.le_refl _)) (r2.more_le (d' := PyData.depthAll [PyData.int k]) (fun b m => List.mem_append_right b1 m) (by simp [PyData.depth, PyData.depthAll]))
    have fin := ReprK.dict ho hc hdat sys out ent
    have e1 : PyData.depth (.dict [(.int k, .int n)]) = PyData.depthAll [PyData.int k] + 1 := by simp [PyData.depth, PyData.depthKv, PyData.depthAll]
    rw [e1]
    exact fin
  | _, _, u, .lst (a := a) (xs := xs) (ds := ds) hs ha, r, sz => by
    cases (show u = .ref _ from r)
    obtain ⟨its, rv, ⟨o, n, ho, hc, _, hd⟩, _⟩ := I.list hs
    have sz2 : (listText (PyData.shownAll ds)).length ≤ sizeLine := by simpa only [PyData.shown] using sz
    obtain ⟨bs, few, all⟩ := Dq.repAll I nd ha rv (fun t m => Nat.le_trans (listText_mem_le m) sz2)
    obtain ⟨as, rr⟩ := Dq.readsAll I ha rv
    have rd : Reads s.heap (.ref a) (.list ds) _ := Reads.list ho hc hd rr
    have out : a ∉ bs := not_mem_of_deeper rd (by simp only [PyData.depth]; omega) few
    refine ⟨a :: bs, ReadAtMost.cons rd (by simp only [PyData.depth]; omega) few, ?_⟩
    simp only [PyData.depth, PyData.shown]
    cases its with
    | nil =>
      cases rr
      simp only [PyData.shownAll, listText_nil]
      exact .listEmpty ho hc hd
    | cons x l => exact .list ho hc hd out (by simpa using all.length_eq) (fun i y e => all.item i y (by simpa using e))
  | _, _, u, .tup (a := a) (xs := xs) (ds := ds) hs ha, r, sz => by
    cases (show u = .ref _ from r)
    obtain ⟨its, rv, ⟨o, ho, hc, n, hd⟩, _⟩ := I.tuple hs
    have sz2 : (tupleText (PyData.shownAll ds)).length ≤ sizeLine := by simpa only [PyData.shown] using sz
    obtain ⟨bs, few, all⟩ := Dq.repAll I nd ha rv (fun t m => Nat.le_trans (tupleText_mem_le m) sz2)
    obtain ⟨as, rr⟩ := Dq.readsAll I ha rv
    have rd : Reads s.heap (.ref a) (.tuple ds) _ := Reads.tuple ho hc hd rr
    have out : a ∉ bs := not_mem_of_deeper rd (by simp only [PyData.depth]; omega) few
    refine ⟨a :: bs, ReadAtMost.cons rd (by simp only [PyData.depth]; omega) few, ?_⟩
    simp only [PyData.depth, PyData.shown]
    exact .tuple ho hc hd out all
theorem Dq.repAll (I : Inv X pins σ H s) (nd : s.heap.NoDigits) : ∀ {ds : List PyData} {vs : List V} {us : List Value}, DqAll X.K H vs ds → Vals vs us → (∀ t ∈ PyData.shownAll ds, t.length ≤ sizeLine) →
    ∃ bs, ReadAtMost s.heap (PyData.depthAll ds) bs ∧ ReprAllK prog w bs s.heap (PyData.depthAll ds) us (PyData.shownAll ds)
  | _, _, _, .nil, .nil, _ => ⟨[], (fun _ z => nomatch z), by simp only [PyData.shownAll]; exact .nil⟩
  | _, _, _, .cons (d := d) (ds := ds) h1 h2, .cons r1 r2, sz => by
    obtain ⟨b1, f1, k1⟩ := Dq.rep I nd h1 r1 (sz _ (by simp only [PyData.shownAll]; exact List.mem_cons_self ..))
    obtain ⟨b2, f2, k2⟩ := Dq.repAll I nd h2 r2 (fun t m => sz t (by simp only [PyData.shownAll]; exact List.mem_cons_of_mem _ m))
    refine ⟨b1 ++ b2, (f1.mono (by simp only [PyData.depthAll]; omega)).append (f2.mono (by simp only [PyData.depthAll]; omega)), ?_⟩
    simp only [PyData.depthAll, PyData.shownAll]
    exact .cons ((k1.more fun b m => List.mem_append_left _ m).level_le (by omega)) (k2.more_le (fun b m => List.mem_append_right _ m) (by omega))
end
end
section
variable {X : Cx} {pins : List (Addr × Obj)} {σ : L2.St} {H : Hp} {s : Shared}
theorem repr_dq (I : Inv X pins σ H s) (nd : s.heap.NoDigits) {A : Around} {E : Value → Shared → Prop} {Q : Value → Shared → Prop} {a : Addr} {d : PyData} (h : Dq X.K H (.ref a) d) (sz : d.shown.length ≤ sizeLine) (hg : A.guards = some []) (hu : A.units + (d.depth + 3) < cLine)
    (hQ : ∀ h' u tk, (∀ b o, s.heap.get? b = some o → h'.get? b = some o) → Q (.str d.shown u) { s with heap := h', toks := tk }) : wpAny (model X.prog X.w) A (call (.builtin "repr") [.ref a]) Q E s := by
  cases h with
  | dp h ok =>
    obtain ⟨as, q⟩ := Dp.reads I _ _ _ h (show RelV (.ref a) (.ref a) from rfl)
    exact repr_any nd q ok sz hg hu hQ
  | one e k1 n1 =>
    rename_i k n
    obtain ⟨as, rd⟩ := Dq.reads I (.one e k1 n1) (show RelV (.ref a) (.ref a) from rfl)
    obtain ⟨_, sys, _⟩ := dk_of I.hok e
    obtain ⟨o, es, ep, ho, hc, hdat, h4, h5⟩ : ∃ o es ep, s.heap.get? a = some o ∧ o.cls = .type "dict" ∧ o.data = .dict es ep ∧ ReadsAll s.heap (es.toList.map (·.key)) [.int k] [] ∧ ReadsAll s.heap (es.toList.map (·.val)) [.int n] [] := by
      cases rd with
      | dict h1 h2 h3 h4 h5 =>
        refine ⟨_, _, _, h1, h2, h3, ?_, ?_⟩
        · generalize hz : List.map _ _ = zs at h4
          cases h4 with
          | cons a1 a2 =>
            cases a1
            cases a2
            exact ReadsAll.cons (Reads.int _ _) ReadsAll.nil
        · generalize hz : List.map _ _ = zs at h5
          cases h5 with
          | cons a1 a2 =>
            cases a1
            cases a2
            exact ReadsAll.cons (Reads.int _ _) ReadsAll.nil
    have szd : (dictText (PyData.shownKv [(.int k, .int n)])).length ≤ sizeLine := by simpa only [PyData.shown] using sz
    obtain ⟨b1, f1, r1⟩ := rep_all (prog := X.prog) (w := X.w) nd h4 (by simp only [okAll, okD, decide_eq_true k1, Bool.and_self]) (fun t m => by
      obtain ⟨p, hp, hl⟩ := PyData.shownKv_key_le [(.int k, .int n)] t m
      exact Nat.le_trans hl (Nat.le_trans (dictText_mem_le hp) szd))
    obtain ⟨b2, f2, r2⟩ := rep_all (prog := X.prog) (w := X.w) nd h5 (by simp only [okAll, okD, decide_eq_true n1, Bool.and_self]) (fun t m => by
      obtain ⟨p, hp, hl⟩ := PyData.shownKv_val_le [(.int k, .int n)] t m
      exact Nat.le_trans hl (Nat.le_trans (dictText_mem_le hp) szd))
    have rd2 : Reads s.heap (.ref a) (.dict [(.int k, .int n)]) _ := .dict ho hc hdat h4 h5
    have out : a ∉ b1 ++ b2 := not_mem_of_deeper rd2 (by simp only [PyData.depth, PyData.depthKv, PyData.depthAll]; omega) ((f1.mono (m := 0) (by simp [PyData.depth, PyData.depthAll])).append (f2.mono (m := 0) (by simp [PyData.depth, PyData.depthAll])))
    have ent := ReprEntriesK.of_two es.toList _ _ (r1.more_le (fun b m => List.mem_append_left b2 m) (Nat.le_refl _)) (r2.more_le (d' := PyData.depthAll [PyData.int k]) (fun b m => List.mem_append_right b1 m) (by simp [PyData.depth, PyData.depthAll]))
    have dz : PyData.depthAll [PyData.int k] = 0 := by simp [PyData.depth, PyData.depthAll]
    have ent : ReprEntriesK X.prog X.w (b1 ++ b2) s.heap (PyData.depthAll [PyData.int k]) es.toList [PyData.shown (.int k) ++ ": " ++ PyData.shown (.int n)] := by simp only [PyData.shownAll, List.zipWith] at ent; exact ent
    refine call_repr_slot (by omega) (T := "dict") (idr := "dict.__repr__") ⟨o, ho, hc⟩ F.slot_dict_repr ?_
    exact call_dict_reprK ho hc hdat sys out ent hg (fun b _ => Clear.nil b) (by show A.units + 1 + (PyData.depthAll [PyData.int k] + 1) < cLine; rw [dz]; omega) (fun _ _ e => e) (fun h' u tk hk => ⟨_, _, rfl, by have z := hQ h' u tk hk; simp only [PyData.shown, PyData.shownKv] at z; exact z⟩) (by simp only [PyData.shownKv] at szd; exact szd)
  | lst hs ha =>
    rename_i xs ds
    obtain ⟨its, rv, ⟨o, n, ho, hc, _, hd⟩, _⟩ := I.list hs
    have sz2 : (listText (PyData.shownAll ds)).length ≤ sizeLine := by simpa only [PyData.shown] using sz
    obtain ⟨bs, few, all⟩ := Dq.repAll (prog := X.prog) (w := X.w) I nd ha rv (fun t m => Nat.le_trans (listText_mem_le m) sz2)
    obtain ⟨as, rr⟩ := Dq.readsAll I ha rv
    have rd : Reads s.heap (.ref a) (.list ds) _ := Reads.list ho hc hd rr
    have out : a ∉ bs := not_mem_of_deeper rd (by simp only [PyData.depth]; omega) few
    simp only [PyData.depth] at hu
    simp only [PyData.shown] at hQ
    cases its with
    | nil =>
      cases rr
      exact repr_of_reads' (.list ho hc hd .nil) (by decide +kernel) (fun z => absurd z (by decide +kernel)) hg (by show A.units + 2 < cLine; omega) (fun _ _ e => e) (fun h' u tk hk => by simpa only [PyData.shown, PyData.shownAll] using hQ h' u tk hk) (by simpa only [PyData.shown] using sz2)
    | cons x l =>
      refine call_repr_slot (by omega) (T := "list") (idr := "list.__repr__") ⟨o, ho, hc⟩ F.slot_list_repr.toG ?_
      exact call_list_reprK ho hc hd out (by simpa using all.length_eq) (fun i y e => all.item i y (by simpa using e)) hg (fun b _ => Clear.nil b) (by show A.units + 1 + (PyData.depthAll ds + 1) < cLine; omega) (fun _ _ e => e) (fun h' u tk hk => ⟨_, _, rfl, hQ h' u tk hk⟩) sz2
  | tup hs ha =>
    rename_i xs ds
    obtain ⟨its, rv, ⟨o, ho, hc, n, hd⟩, _⟩ := I.tuple hs
    have sz2 : (tupleText (PyData.shownAll ds)).length ≤ sizeLine := by simpa only [PyData.shown] using sz
    obtain ⟨bs, few, all⟩ := Dq.repAll (prog := X.prog) (w := X.w) I nd ha rv (fun t m => Nat.le_trans (tupleText_mem_le m) sz2)
    obtain ⟨as, rr⟩ := Dq.readsAll I ha rv
    have rd : Reads s.heap (.ref a) (.tuple ds) _ := Reads.tuple ho hc hd rr
    have out : a ∉ bs := not_mem_of_deeper rd (by simp only [PyData.depth]; omega) few
    simp only [PyData.depth] at hu
    simp only [PyData.shown] at hQ
    refine call_repr_slot (by omega) (T := "tuple") (idr := "tuple.__repr__") ⟨o, ho, hc⟩ F.slot_tuple_repr ?_
    exact call_tuple_reprK ho hc hd out all hg (fun b _ => Clear.nil b) (by show A.units + 1 + (PyData.depthAll ds + 1) < cLine; omega) (fun _ _ e => e) (fun h' u tk hk => ⟨_, _, rfl, hQ h' u tk hk⟩) sz2
end
/-- repr(x), x an atom or data of any form -/
def rReprQ (K : PySem.W.Frag) : List V → Hp → VK → Prop := fun xs H Q => ∃ (x : V) (d : PyData), xs = [x] ∧ ((Dp K H x d ∧ d.showable = true ∧ d.hasDict = false) ∨ ∃ a, x = .ref a ∧ Dq K H x d) ∧ d.depth ≤ 20 ∧ d.shown.length ≤ sizeLine ∧ Q (.str d.shown) H
theorem call_reprQ {X : Cx} (dig : PySem.W.nsIn X.K cStatics "sys.int_max_str_digits" = some none) (hg : Gd X.A) (hu : X.A.units + 64 < cLine) : CallR X (.builtin "repr") (rReprQ X.K) := by
  intro pins s σ H xs us Q I r h
  obtain ⟨x, d, rfl, hd, dp, sz, q⟩ := h
  rcases hd with ⟨h1, h2, h3⟩ | ⟨a, rfl, hd⟩
  · exact call_repr hg hu pins s σ H [x] us Q I r ⟨x, d, rfl, h1, h2, h3, dp, sz, q⟩
  · obtain ⟨u, rfl, r1⟩ := vals1 r
    cases (show u = Value.ref a from r1)
    exact repr_dq I (big_base dig I) hd sz hg (by omega) (fun h' u tk hk => ⟨.str _, H, I.kept hk, ⟨_, rfl⟩, q⟩)
end GL
/-! small values of any kind whose repr is asked -/
namespace GL
open PySem PySem.Spec PyProof.Rows L2
theorem ofS_ok (s : String) : PyData.strOk (Str.ofString s) = true := by
  unfold PyData.strOk
  rw [Str.ofString_eq_toList]
  rw [Array.all_eq_true]
  intro i hi
  simp only [List.getElem_toArray, List.getElem_map, decide_eq_true_eq]
  have v := (s.toList[i]'(by simpa using hi)).valid
  generalize s.toList[i]'(by simpa using hi) = c at *
  rcases v with h | ⟨_, h⟩
  · exact Nat.lt_of_lt_of_le h (by decide)
  · exact h
theorem app_ok {x y : Str} (hx : PyData.strOk x = true) (hy : PyData.strOk y = true) : PyData.strOk (x ++ y) = true := by
  unfold PyData.strOk at *
  show Array.all (x.cps ++ y.cps) _ = true
  rw [Array.all_append, hx, hy]
  rfl
section
variable {K : PySem.W.Frag} {H H' : Hp}
theorem sqL_same {a : Addr} {xs : List V} (h : SqL K H a xs) (s : Same H H') : SqL K H' a xs := by
  rcases h with (z | ⟨o, z⟩) | z
  · exact .inl (.inl (s _ _ z))
  · exact .inl (.inr ⟨o, s _ _ z⟩)
  · exact .inr z
theorem sqT_same {a : Addr} {xs : List V} (h : SqT K H a xs) (s : Same H H') : SqT K H' a xs := by
  rcases h with (z | ⟨o, z⟩) | z
  · exact .inl (.inl (s _ _ z))
  · exact .inl (.inr ⟨o, s _ _ z⟩)
  · exact .inr z
mutual
theorem dp_same (s : Same H H') : ∀ {v : V} {d : PyData}, Dp K H v d → Dp K H' v d
  | _, _, .non => .non
  | _, _, .bl b => .bl b
  | _, _, .int i => .int i
  | _, _, .str x => .str x
  | _, _, .lst h a => .lst (sqL_same h s) (dps_same s a)
  | _, _, .tup h a => .tup (sqT_same h s) (dps_same s a)
theorem dps_same (s : Same H H') : ∀ {vs : List V} {ds : List PyData}, DpAll K H vs ds → DpAll K H' vs ds
  | _, _, .nil => .nil
  | _, _, .cons h a => .cons (dp_same s h) (dps_same s a)
end
mutual
theorem dq_same (s : Same H H') : ∀ {v : V} {d : PyData}, Dq K H v d → Dq K H' v d
  | _, _, .dp h ok => .dp (dp_same s h) ok
  | _, _, .one e a b => .one (s _ _ e) a b
  | _, _, .lst h a => .lst (sqL_same h s) (dqs_same s a)
  | _, _, .tup h a => .tup (sqT_same h s) (dqs_same s a)
theorem dqs_same (s : Same H H') : ∀ {vs : List V} {ds : List PyData}, DqAll K H vs ds → DqAll K H' vs ds
  | _, _, .nil => .nil
  | _, _, .cons h a => .cons (dq_same s h) (dqs_same s a)
end
structure Val (K : PySem.W.Frag) (H : Hp) (v : V) (d : PyData) : Prop where
  dq : Dq K H v d
  rp : (Dp K H v d ∧ d.showable = true ∧ d.hasDict = false) ∨ ∃ a, v = .ref a ∧ Dq K H v d
  dep : d.depth ≤ 3
  ls : PyData.leavesShort 300 d = true
  bk : d.bulk ≤ 100
  so : PyData.strOk d.shown = true
theorem Val.same {v : V} {d : PyData} (h : Val K H v d) (s : Same H H') : Val K H' v d :=
  ⟨dq_same s h.dq, h.rp.imp (fun ⟨a, b, c⟩ => ⟨dp_same s a, b, c⟩) (fun ⟨a, b, c⟩ => ⟨a, b, dq_same s c⟩), h.dep, h.ls, h.bk, h.so⟩
theorem Val.len {v : V} {d : PyData} (h : Val K H v d) : d.shown.length ≤ 31000 := by
  have z := PyData.shown_le_bulk 300 (by decide) d h.ls
  have b := h.bk
  omega
theorem Val.lenS {v : V} {d : PyData} (h : Val K H v d) : d.shown.length ≤ sizeLine := Nat.le_trans h.len (by rw [sizeLine_eq]; decide)
theorem Val.flat {v : V} {d : PyData} (h : Dp K H v d) (ok : okD d = true) (sh : d.showable = true) (nd : d.hasDict = false) (dep : d.depth ≤ 3) (ls : PyData.leavesShort 300 d = true) (bk : d.bulk ≤ 100) (so : PyData.strOk d.shown = true) : Val K H v d := ⟨.dp h ok, .inl ⟨h, sh, nd⟩, dep, ls, bk, so⟩
theorem Val.int {n : Int} (h : n.natAbs < 10 ^ 40) : Val K H (.int n) (.int n) := by
  have z : n.natAbs.log2 < 1920 := Nat.lt_trans (PySem.Flt.log2_lt_of (k := 200) (by decide) (Nat.lt_of_lt_of_le h (by decide +kernel))) (by decide)
  refine .flat (.int n) (decide_eq_true (Nat.lt_of_lt_of_le h (by decide +kernel))) (decide_eq_true z) rfl (by simp [PyData.depth]) ?_ (by simp [PyData.bulk]) (ofS_ok _)
  · have e := int_text_length_le10 (a := n) (k := 40) (by decide) h
    refine decide_eq_true ?_
    show (Str.ofString (toString n)).length ≤ 300
    rw [PySem.ofString_length]
    exact Nat.le_trans e (by decide)
end
theorem pe_imp {X : Cx} {e : Expr} {t t' : TE} (h : PE X e t) (i : ∀ σ H Q, t' σ H Q → t σ H Q) : PE X e t' := ⟨fun pins s σ H Q I q => h.run pins s σ H Q I (i σ H Q q)⟩
theorem same_err {H : Hp} {e d : Addr} {o u : HO} (he : H e = none) (hd : H d = none) : Same H (upd (upd H d o) e u) := fun b w q => by rw [upd_ne (ne_of_none q he), upd_ne (ne_of_none q hd)]; exact q
theorem Same.tr {H H1 H2 : Hp} (a : Same H H1) (b : Same H1 H2) : Same H H2 := fun x o e => b x o (a x o e)
end GL
namespace GL
open PySem PySem.Spec PyProof.Rows L2 PySem.GLE
theorem err_mk {K : PySem.W.Frag} {h : Heap} {mg : Str → Option Value} {x f nm q qual : Str} {C fI N : Addr} {bs bm bB : List Value} {sn : List Str} {sub : List Value} {ab : Bool} {col : Option Bool} {dd od an : Option Addr} {k0 k1 k2 k3 k5 : Option Value} {B nwId inId : String}
    {oc doc pm cdv ct : Value} {osl : Array (Option Value)} {p1 p2 q1 q2 q3 q4 : Pos} (X : K.In h) (G : h.Ns mainGlobals mg) (F : ExcBaseFacts B nwId inId bB) (ch : Chain B bm)
    (f1 : (f == ("self" : Str)) = false) (f2 : (f == ("__debug__" : Str)) = false)
    (bd : ∀ (qual : Str) (p1 p2 q1 q2 q3 q4 : Pos) (doc pm : Value) (an : Option Addr) (cdv ct : Value) (a : Addr) (v : Value) (u : Unit), bindArgs (PySem.W.fnOf "__init__" qual (iArgs f p1 p2) (iBody f q1 q2 q3 q4) (iScope f) .none .none doc pm an cdv ct) ⟨[.ref a, v], []⟩ = pure [(PySem.Str.ofString "self", .ref a), (f, v)])
    (n : PySem.W.nsIn K mainGlobals x = some (some (.ref C))) (l : K.lookup C = some (excClassObj nm q C N bs bm true sn sub ab col dd k0 k1 k2 k3 k5 nwId))
    (iC : PySem.W.findIn K (.ref C) "__init__" = some (some (.ref fI))) (lf : K.lookup fI = some ⟨oc, od, .func (PySem.W.fnOf "__init__" qual (iArgs f p1 p2) (iBody f q1 q2 q3 q4) (iScope f) .none .none doc pm an cdv ct), osl⟩) (cd : PySem.W.codeIn K cdv qual = true)
    (sa : PySem.W.findIn K (.ref C) "__setattr__" = some (some (.builtin "object.__setattr__"))) (ga : PySem.W.findIn K (.ref C) "__getattribute__" = some (some (.builtin "BaseException.__getattribute__"))) (gg : PySem.W.findIn K (.ref C) "__getattr__" = some none)
    (no : PySem.W.findIn K (.ref C) f = some none) (tC : PySem.W.typeIn K (.ref fI) = some (.type "function")) (kC : PySem.W.keepIn K (.ref C) = true) (exC : PySem.W.subIn K (.ref C) (.type "BaseException") = some true) (tyC : PySem.W.typeIn K (.ref C) = some (.type "type"))
    (hdC : PySem.W.hasDictIn K C = true) : ErrTxt K mg x f C fI :=
  { gC := PySem.W.mg_of X G n, cls := ⟨nm, q, N, bs, bm, sn, sub, ab, col, dd, k0, k1, k2, k3, k5, B, nwId, inId, bB, F, ch, l⟩, sa := sa, ga := ga, gg := gg, noN := no, iC := iC, tC := tC, kC := kC, exC := exC, tyC := tyC, hdC := hdC, f1 := f1, f2 := f2, bd := bd,
    fn := ⟨_, _, qual, _, _, _, _, _, _, _, _, _, _, _, _, lf, cd⟩ }
end GL
namespace K01
open PySem PySem.Spec PyProof.Rows L2 GL PySem.GLE
def topS (i : Nat) : Stmt := PySem.Challenge.pw_grownlines_k01_errors_and_what_they_keep.main.body.getD i (.Pass ⟨0, 0, 0, 0⟩)
abbrev s__law_dice : Stmt := topS 18
abbrev N__law_dice : List Str := ["_law_script", "_law_spot", "_law_cell", "_law_left"]
theorem sc__law_dice : FnScope N__law_dice ["_law_script", "_law_spot"] (defScope s__law_dice) := ⟨rfl, rfl, rfl, by decide +kernel, rfl, by decide +kernel, by decide +kernel⟩
abbrev s__law_roll : Stmt := topS 19
abbrev N__law_roll : List Str := ["_law_dice_here", "_law_total", "_law_found", "_law_one", "_law_two"]
theorem sc__law_roll : FnScope N__law_roll ["_law_dice_here", "_law_total"] (defScope s__law_roll) := ⟨rfl, rfl, rfl, by decide +kernel, rfl, by decide +kernel, by decide +kernel⟩
abbrev s__law_pick : Stmt := topS 20
abbrev N__law_pick : List Str := ["_law_dice_here", "_law_items"]
theorem sc__law_pick : FnScope N__law_pick ["_law_dice_here", "_law_items"] (defScope s__law_pick) := ⟨rfl, rfl, rfl, by decide +kernel, rfl, by decide +kernel, by decide +kernel⟩
abbrev s__law_own : Stmt := topS 21
abbrev N__law_own : List Str := ["_law_error", "_law_found"]
theorem sc__law_own : FnScope N__law_own ["_law_error"] (defScope s__law_own) := ⟨rfl, rfl, rfl, by decide +kernel, rfl, by decide +kernel, by decide +kernel⟩
abbrev s__law_all : Stmt := topS 22
abbrev N__law_all : List Str := ["_law_error", "_law_found"]
theorem sc__law_all : FnScope N__law_all ["_law_error"] (defScope s__law_all) := ⟨rfl, rfl, rfl, by decide +kernel, rfl, by decide +kernel, by decide +kernel⟩
abbrev s__law_messages : Stmt := topS 23
abbrev N__law_messages : List Str := ["_law_found"]
theorem sc__law_messages : FnScope N__law_messages [] (defScope s__law_messages) := ⟨rfl, rfl, rfl, by decide +kernel, rfl, by decide +kernel, by decide +kernel⟩
abbrev s__law_kept : Stmt := topS 24
abbrev N__law_kept : List Str := ["_law_value", "_law_index", "_law_parse", "_law_unknown", "_law_lost", "_law_number", "_law_undo", "_law_limit", "_law_refused", "_law_quotient", "_law_found"]
theorem sc__law_kept : FnScope N__law_kept ["_law_value", "_law_index"] (defScope s__law_kept) := ⟨rfl, rfl, rfl, by decide +kernel, rfl, by decide +kernel, by decide +kernel⟩
abbrev s__law_caught : Stmt := topS 25
abbrev N__law_caught : List Str := ["_law_value", "_law_way", "e"]
theorem sc__law_caught : FnScope N__law_caught ["_law_value", "_law_way"] (defScope s__law_caught) := ⟨rfl, rfl, rfl, by decide +kernel, rfl, by decide +kernel, by decide +kernel⟩
abbrev s__law_right : Stmt := topS 26
abbrev N__law_right : List Str := ["_law_value", "_law_index", "_law_due", "_law_told", "_law_way"]
theorem sc__law_right : FnScope N__law_right ["_law_value", "_law_index"] (defScope s__law_right) := ⟨rfl, rfl, rfl, by decide +kernel, rfl, by decide +kernel, by decide +kernel⟩
abbrev s__law_due_messages : Stmt := topS 27
abbrev N__law_due_messages : List Str := ["_law_letter"]
theorem sc__law_due_messages : FnScope N__law_due_messages [] (defScope s__law_due_messages) := ⟨rfl, rfl, rfl, by decide +kernel, rfl, by decide +kernel, by decide +kernel⟩
abbrev s_law : Stmt := topS 28
abbrev N_law : List Str := ["_law_script", "_law_spot", "_law_dice_here", "_law_some", "_law_index", "_law_turn"]
theorem sc_law : FnScope N_law ["_law_script"] (defScope s_law) := ⟨rfl, rfl, rfl, by decide +kernel, rfl, by decide +kernel, by decide +kernel⟩
/-- the classes of the package, and the eight __init__ -/
structure Cs where
  (g p r s d q o x U A N Z M R Q L ix iU iA iN iZ iM iR iQ : Addr)
/-- how an error of the class D answers all the questions -/
structure Ans (K : PySem.W.Frag) (c : Cs) (D : Addr) (b : Nat → Bool) : Prop where
  e : ErrC K D
  k0 : PySem.W.kitOne K (.ref D) (.ref c.g) = some (b 0)
  k1 : PySem.W.kitOne K (.ref D) (.ref c.p) = some (b 1)
  k2 : PySem.W.kitOne K (.ref D) (.ref c.r) = some (b 2)
  k3 : PySem.W.kitOne K (.ref D) (.ref c.s) = some (b 3)
  k4 : PySem.W.kitOne K (.ref D) (.ref c.d) = some (b 4)
  k5 : PySem.W.kitOne K (.ref D) (.ref c.q) = some (b 5)
  k6 : PySem.W.kitOne K (.ref D) (.ref c.o) = some (b 6)
  k7 : PySem.W.kitOne K (.ref D) (.ref c.x) = some (b 7)
  k8 : PySem.W.kitOne K (.ref D) (.ref c.U) = some (b 8)
  k9 : PySem.W.kitOne K (.ref D) (.ref c.A) = some (b 9)
  k10 : PySem.W.kitOne K (.ref D) (.ref c.N) = some (b 10)
  k11 : PySem.W.kitOne K (.ref D) (.ref c.Z) = some (b 11)
  k12 : PySem.W.kitOne K (.ref D) (.ref c.M) = some (b 12)
  k13 : PySem.W.kitOne K (.ref D) (.ref c.R) = some (b 13)
  k14 : PySem.W.kitOne K (.ref D) (.ref c.Q) = some (b 14)
  k15 : PySem.W.kitOne K (.ref D) (.ref c.L) = some (b 15)
  k16 : PySem.W.kitOne K (.ref D) (.type "ValueError") = some (b 16)
  k17 : PySem.W.kitOne K (.ref D) (.type "KeyError") = some (b 17)
  k18 : PySem.W.kitOne K (.ref D) (.type "IndexError") = some (b 18)
  k19 : PySem.W.kitOne K (.ref D) (.type "LookupError") = some (b 19)
  k20 : PySem.W.kitOne K (.ref D) (.type "RuntimeError") = some (b 20)
  k21 : PySem.W.kitOne K (.ref D) (.type "OverflowError") = some (b 21)
  k22 : PySem.W.kitOne K (.ref D) (.type "ZeroDivisionError") = some (b 22)
  k23 : PySem.W.kitOne K (.ref D) (.type "ArithmeticError") = some (b 23)
/-- a class without an own __init__ -/
structure Msg (K : PySem.W.Frag) (mg : Str → Option Value) (x : Str) (C : Addr) : Prop where
  q : PySem.W.excIn K C [.type "ValueError", .type "Exception", .type "BaseException", .type "object"] "ValueError.__new__" = true
  g : mg x = some (.ref C)
  k : PySem.W.keepIn K (.ref C) = true
def on (l : List Nat) (i : Nat) : Bool := l.contains i
structure Txt (K : PySem.W.Frag) (mg : Str → Option Value) (c : Cs) : Prop where
  zisinstance : mg "isinstance" = none
  zint : mg "int" = none
  zlen : mg "len" = none
  zmax : mg "max" = none
  zmin : mg "min" = none
  zabs : mg "abs" = none
  zrange : mg "range" = none
  zrepr : mg "repr" = none
  zValueError : mg "ValueError" = none
  zKeyError : mg "KeyError" = none
  zIndexError : mg "IndexError" = none
  zLookupError : mg "LookupError" = none
  zRuntimeError : mg "RuntimeError" = none
  zOverflowError : mg "OverflowError" = none
  zZeroDivisionError : mg "ZeroDivisionError" = none
  zArithmeticError : mg "ArithmeticError" = none
  mLineError : Msg K mg "LineError" c.L
  mInvalidGrid : Msg K mg "InvalidGrid" c.g
  mInvalidPoint : Msg K mg "InvalidPoint" c.p
  mInvalidRule : Msg K mg "InvalidRule" c.r
  mInvalidScheme : Msg K mg "InvalidScheme" c.s
  mInvalidStand : Msg K mg "InvalidStand" c.d
  mInvalidPaper : Msg K mg "InvalidPaper" c.q
  mInvalidOperation : Msg K mg "InvalidOperation" c.o
  eParseError : ErrTxt K mg "ParseError" "number" c.x c.ix
  eUnknownLetter : ErrTxt K mg "UnknownLetter" "word" c.U c.iU
  eUnknownAddress : ErrTxt K mg "UnknownAddress" "lost" c.A c.iA
  eInvalidNumber : ErrTxt K mg "InvalidNumber" "value" c.N c.iN
  eNothingToUndo : ErrTxt K mg "NothingToUndo" "many" c.Z c.iZ
  eTooMany : ErrTxt K mg "TooMany" "limit" c.M c.iM
  eRefused : ErrTxt K mg "Refused" "pledge" c.R c.iR
  eNoQuotient : ErrTxt K mg "NoQuotient" "divisor" c.Q c.iQ
  ag : Ans K c c.g (on [0, 15, 16])
  ap : Ans K c c.p (on [1, 15, 16])
  ar : Ans K c c.r (on [2, 15, 16])
  as : Ans K c c.s (on [3, 15, 16])
  ad : Ans K c c.d (on [4, 15, 16])
  aq : Ans K c c.q (on [5, 15, 16])
  ao : Ans K c c.o (on [6, 15, 16])
  aL : Ans K c c.L (on [15, 16])
  ax : Ans K c c.x (on [7, 15, 16])
  aU : Ans K c c.U (on [8, 17, 19])
  aA : Ans K c c.A (on [9, 19])
  aN : Ans K c c.N (on [10, 18, 19])
  aZ : Ans K c c.Z (on [11, 20])
  aM : Ans K c c.M (on [12, 21, 23])
  aR : Ans K c c.R (on [13, 23])
  aQ : Ans K c c.Q (on [14, 22, 23])
  bR : PySem.W.subIn K (.ref c.r) (.type "BaseException") = some true
  tR : PySem.W.typeIn K (.ref c.r) = some (.type "type")
  x1 : PySem.W.exmOne K (.ref c.r) (.ref c.L) = some true
  x2 : PySem.W.exmOne K (.ref c.Q) (.ref c.L) = some false
  x3 : PySem.W.exmOne K (.ref c.Q) (.ref c.Q) = some true
  x4 : PySem.W.exmOne K (.ref c.A) (.ref c.L) = some false
  x5 : PySem.W.exmOne K (.ref c.A) (.ref c.Q) = some false
  x6 : PySem.W.exmOne K (.ref c.A) (.ref c.A) = some true
section
variable {K : PySem.W.Frag} {mg : Str → Option Value} {c : Cs}
theorem Txt.gInvalidGrid (T : Txt K mg c) : MgV mg "InvalidGrid" (.ref c.g) := ⟨_, T.mInvalidGrid.g, rfl⟩
theorem Txt.gInvalidPoint (T : Txt K mg c) : MgV mg "InvalidPoint" (.ref c.p) := ⟨_, T.mInvalidPoint.g, rfl⟩
theorem Txt.gInvalidRule (T : Txt K mg c) : MgV mg "InvalidRule" (.ref c.r) := ⟨_, T.mInvalidRule.g, rfl⟩
theorem Txt.gInvalidScheme (T : Txt K mg c) : MgV mg "InvalidScheme" (.ref c.s) := ⟨_, T.mInvalidScheme.g, rfl⟩
theorem Txt.gInvalidStand (T : Txt K mg c) : MgV mg "InvalidStand" (.ref c.d) := ⟨_, T.mInvalidStand.g, rfl⟩
theorem Txt.gInvalidPaper (T : Txt K mg c) : MgV mg "InvalidPaper" (.ref c.q) := ⟨_, T.mInvalidPaper.g, rfl⟩
theorem Txt.gInvalidOperation (T : Txt K mg c) : MgV mg "InvalidOperation" (.ref c.o) := ⟨_, T.mInvalidOperation.g, rfl⟩
theorem Txt.gLineError (T : Txt K mg c) : MgV mg "LineError" (.ref c.L) := ⟨_, T.mLineError.g, rfl⟩
theorem Txt.gParseError (T : Txt K mg c) : MgV mg "ParseError" (.ref c.x) := ⟨_, T.eParseError.gC, rfl⟩
theorem Txt.gUnknownLetter (T : Txt K mg c) : MgV mg "UnknownLetter" (.ref c.U) := ⟨_, T.eUnknownLetter.gC, rfl⟩
theorem Txt.gUnknownAddress (T : Txt K mg c) : MgV mg "UnknownAddress" (.ref c.A) := ⟨_, T.eUnknownAddress.gC, rfl⟩
theorem Txt.gInvalidNumber (T : Txt K mg c) : MgV mg "InvalidNumber" (.ref c.N) := ⟨_, T.eInvalidNumber.gC, rfl⟩
theorem Txt.gNothingToUndo (T : Txt K mg c) : MgV mg "NothingToUndo" (.ref c.Z) := ⟨_, T.eNothingToUndo.gC, rfl⟩
theorem Txt.gTooMany (T : Txt K mg c) : MgV mg "TooMany" (.ref c.M) := ⟨_, T.eTooMany.gC, rfl⟩
theorem Txt.gRefused (T : Txt K mg c) : MgV mg "Refused" (.ref c.R) := ⟨_, T.eRefused.gC, rfl⟩
theorem Txt.gNoQuotient (T : Txt K mg c) : MgV mg "NoQuotient" (.ref c.Q) := ⟨_, T.eNoQuotient.gC, rfl⟩
end
def ownT (b : Nat → Bool) : Str := wd "g" (b 0) ++ wd "p" (b 1) ++ wd "r" (b 2) ++ wd "s" (b 3) ++ wd "d" (b 4) ++ wd "q" (b 5) ++ wd "o" (b 6) ++ wd "x" (b 7) ++ wd "U" (b 8) ++ wd "A" (b 9) ++ wd "N" (b 10) ++ wd "Z" (b 11) ++ wd "M" (b 12) ++ wd "R" (b 13) ++ wd "Q" (b 14)
def allT (b : Nat → Bool) : Str := ownT b ++ " " ++ wd "line " (b 15) ++ wd "value " (b 16) ++ wd "key " (b 17) ++ wd "index " (b 18) ++ wd "lookup " (b 19) ++ wd "runtime " (b 20) ++ wd "overflow " (b 21) ++ wd "zero " (b 22) ++ wd "arithmetic " (b 23)
def spOwn (K : PySem.W.Frag) (c : Cs) (out : (Nat → Bool) → Str) : Sp := fun vs H Q _ => ∃ a D b, vs = [.ref a] ∧ Ans K c D b ∧ IsErr H D a ∧ Q (.str (out b)) H
def spOwnE (K : PySem.W.Frag) (c : Cs) : Addr × Obj → Sp := fun p vs H Q _ => ∃ D b, vs = [.ref p.1] ∧ Ans K c D b ∧ Zc (.ref D) none p.2 ∧ (∃ vs, p.2.data = .fields vs) ∧ Q (.str (ownT b)) H
/-- the eight texts of the errors with a message -/
def msgT : List Str := ["g line value ", "p line value ", "r line value ", "s line value ", "d line value ", "q line value ", "o line value ", " line value "]
def spMsgs : Sp := fun vs H Q _ => vs = [] ∧ ∀ p H', Same H H' → H' p = some (.lst (msgT.map V.str)) → Q (.ref p) H'
def keptD (dv di : PyData) : PyData := .list [.tuple [.str "x line value ", di], .tuple [.str "U key lookup ", dv], .tuple [.str "A lookup ", dv], .tuple [.str "N index lookup ", dv], .tuple [.str "Z runtime ", dv], .tuple [.str "M overflow arithmetic ", dv], .tuple [.str "R arithmetic ", dv], .tuple [.str "Q zero arithmetic ", dv]]
def spKept (K : PySem.W.Frag) : Sp := fun vs H Q _ => ∃ v i dv di, vs = [v, i] ∧ Val K H v dv ∧ Val K H i di ∧ ∀ p H', Same H H' → Dq K H' (.ref p) (keptD dv di) → Q (.ref p) H'
def caughtT (dv : PyData) : Nat → Str
  | 0 => "base r"
  | 1 => "quotient " ++ dv.shown
  | _ => "lost " ++ dv.shown
def spCaught (K : PySem.W.Frag) : Sp := fun vs H Q _ => ∃ (v : V) (j : Nat) (dv : PyData), vs = [v, .int (j : Int)] ∧ j < 3 ∧ Val K H v dv ∧ ∀ H', Same H H' → Q (.str (caughtT dv j)) H'
def spRight (K : PySem.W.Frag) : Sp := fun vs H Q _ => ∃ v i dv di, vs = [v, i] ∧ Val K H v dv ∧ Val K H i di ∧ ∀ H', Same H H' → Q (.bl true) H'
section
variable {P : Program} {w : World} {K : PySem.W.Frag} {mg : Str → Option Value} {base : Heap} {c : Cs}
theorem h_law_roll (T : Txt K mg c) (D : Df K mg "_law_roll" s__law_roll) : Has P w K mg base CX0 "_law_roll" 1 ["_law_dice_here", "_law_total"] spRoll := by
  refine D.has sc__law_roll (fun vs H Q E h => ?_) (fun kV doc pm an cdv ct us hl => match us, hl with | [_, _], _ => rfl) (fun f cdv A outer s H vs Q E gd hr h => ?_)
  · obtain ⟨p, t, rfl, _⟩ := h
    rfl
  · obtain ⟨p, t, rfl, ⟨l, b, c, l0, hp⟩, t0, tl, q⟩ := h
    refine ⟨_, (pss_cons
 (ps_if (pt_cmpR op_gt (pe_ix ix_list (pv 0) pe_int (fun _ _ => rfl)) pe_int (nomark _)) (pss_cons
 (ps_set (i := 2) sc__law_roll.nd rfl (Or.inl rfl) (pe_op op_mod (pe_callTy call_int1 (by exact rfl) T.zint (by decide +kernel) (pa_cons (pe_ix ix_list (pv 0) pe_int (fun _ _ => rfl)) pa_nil)) (pv 1)))
 (pss_cons
 (ps_asg (pe_op op_fdivW (pe_ix ix_list (pv 0) pe_int (fun _ _ => rfl)) (pv 1)) (pg_sub (pv 0) pe_int set_list))
 (pss_one
 (ps_ret (pv 2))))) pss_nil)
 (pss_cons
 (ps_asg (pe_op op_add (pe_ix ix_list (pv 0) pe_int (fun _ _ => rfl)) pe_int) (pg_sub (pv 0) pe_int set_list))
 (pss_cons
 (ps_set (i := 3) sc__law_roll.nd rfl (Or.inl rfl) (pe_op op_mod (pe_callTy call_int1 (by exact rfl) T.zint (by decide +kernel) (pa_cons (pe_op op_add (pe_ix ix_list (pv 0) pe_int (fun _ _ => rfl)) (pe_op op_mul pe_int (pe_ix ix_list (pv 0) pe_int (fun _ _ => rfl)))) pa_nil)) pe_int))
 (pss_cons
 (ps_set (i := 4) sc__law_roll.nd rfl (Or.inl rfl) (pe_op op_add (pe_op op_mul (pe_op op_mod (pe_callTy call_int1 (by exact rfl) T.zint (by decide +kernel) (pa_cons (pe_op op_add (pe_op op_mul (pv 3) (pv 3)) (pe_op op_mul pe_int (pe_ix ix_list (pv 0) pe_int (fun _ _ => rfl)))) pa_nil)) pe_int) pe_int) (pv 3)))
 (pss_one
 (ps_ret (pe_op op_mod (pe_callTy call_int1 (by exact rfl) T.zint (by decide +kernel) (pa_cons (pe_op op_fdiv (pv 4) pe_int) pa_nil)) (pv 1)))))))), ?_⟩
    have hS : ∀ {H : Hp} {xs}, H p = some (.lst xs) → SqL K H p xs := fun h => SqL.of h
    refine ⟨_, rfl, _, _, _, _, rfl, rfl, hS hp, atI_nat (j := 0) rfl, _, _, rfl, rfl, _, rfl, ?_⟩
    refine ite2 (fun c1 => ?_) (fun c1 => ?_)
    · refine ⟨_, rfl, _, _, _, _, rfl, rfl, hS hp, atI_nat (j := 0) rfl, .inl ⟨_, rfl, _, rfl, _, _, rfl, rfl, t0, ?_⟩⟩
      refine ⟨_, rfl, _, _, _, _, rfl, rfl, hS hp, atI_nat (j := 0) rfl, _, rfl, _, _, rfl, rfl, wide_div t0 tl (by decide) (by decide), _, rfl, _, _, _, _, rfl, rfl, hp, rfl, _, rfl, ?_⟩
      exact q _ _ (Int.emod_nonneg _ (Int.ne_of_gt t0)) (Int.emod_lt_of_pos _ t0) (Got.roll (Int.ediv_nonneg l0 (Int.le_of_lt t0)))
    · refine ⟨_, rfl, _, _, _, _, rfl, rfl, hS hp, atI_nat (j := 2) rfl, _, _, rfl, rfl, _, rfl, _, _, _, _, rfl, rfl, hp, rfl, ?_⟩
      have hp2 : (upd H p (.lst [.int l, .int b, .int (c + 1)])) p = some (.lst [.int l, .int b, .int (c + 1)]) := upd_same
      refine ⟨_, rfl, _, _, _, _, rfl, rfl, hS hp2, atI_nat (j := 1) rfl, _, rfl, _, _, _, _, rfl, rfl, hS hp2, atI_nat (j := 2) rfl, _, _, rfl, rfl, .inl ⟨by decide, by decide⟩, _, _, rfl, rfl, .inl ⟨_, rfl, _, _, rfl, rfl, by show (0 : Int) < _; decide, ?_⟩⟩
      generalize hx : (b + 15485863 * (c + 1)) % 2305843009213693693 = x1
      have x0 : 0 ≤ x1 ∧ x1 < 2305843009213693693 := by rw [← hx]; exact ⟨Int.emod_nonneg _ (by decide), Int.emod_lt_of_pos _ (by decide)⟩
      refine ⟨_, rfl, _, rfl, _, _, rfl, rfl, .inl ⟨by omega, by omega⟩, _, rfl, _, _, _, _, rfl, rfl, hS hp2, atI_nat (j := 2) rfl, _, _, rfl, rfl, .inl ⟨by decide, by decide⟩, _, _, rfl, rfl, .inl ⟨_, rfl, _, _, rfl, rfl, by show (0 : Int) < _; decide, _, _, rfl, rfl, .inr ⟨by decide, by decide⟩, _, rfl, _, _, rfl, rfl, ?_⟩⟩
      refine ⟨_, rfl, _, _, rfl, rfl, ⟨by decide, by decide⟩, .inl ⟨_, rfl, _, rfl, _, _, rfl, rfl, t0, ?_⟩⟩
      exact q _ _ (Int.emod_nonneg _ (Int.ne_of_gt t0)) (Int.emod_lt_of_pos _ t0) (Got.roll l0)

theorem h_law_dice (T : Txt K mg c) (D : Df K mg "_law_dice" s__law_dice) : Has P w K mg base CX0 "_law_dice" 1 ["_law_script", "_law_spot"] (spDice K) := by
  refine D.has sc__law_dice (fun vs H Q E h => ?_) (fun kV doc pm an cdv ct us hl => match us, hl with | [_, _], _ => rfl) (fun f cdv A outer s H vs Q E gd hr h => ?_)
  · obtain ⟨a, ns, spot, rfl, _⟩ := h
    rfl
  · obtain ⟨a, ns, spot, rfl, hS, s0, q⟩ := h
    refine ⟨_, (Evl.pss_cut
 (ps_set (i := 2) sc__law_dice.nd rfl (Or.inl rfl) (pe_ifExp (pt_cmpR op_lt (pv 1) (pe_callB call_len_seq (by exact rfl) T.zlen PySem.boot_len (pa_cons (pv 0) pa_nil)) (nomark _)) (pe_callTy call_int1 (by exact rfl) T.zint (by decide +kernel) (pa_cons (pe_ix ix_list (pv 0) (pv 1) (fun _ _ => rfl)) pa_nil)) (pe_op op_add (pe_op op_mul pe_int (pv 1)) pe_int)))
 (pss_cons
 (ps_set (i := 3) sc__law_dice.nd rfl (Or.inl rfl) (pe_op op_mod (pe_callB (call_max2 rfl) (by exact rfl) T.zmax (by decide +kernel) (pa_cons pe_int (pa_cons (pe_op op_sub (pe_callB call_abs (by exact rfl) T.zabs (by decide +kernel) (pa_cons (pv 2) pa_nil)) (pe_op op_pow pe_int pe_int)) pa_nil))) (pe_op op_mulW (pe_op op_pow pe_int pe_int) (pe_op op_pow pe_int pe_int))))
 (pss_one
 (ps_ret (pe_lst (pa_cons (pv 3) (pa_cons (pe_op op_add (pe_op op_add (pe_op op_add (pe_op op_mul (pe_op op_mod (pe_callB call_abs (by exact rfl) T.zabs (by decide +kernel) (pa_cons (pv 2) pa_nil)) pe_int) pe_int) (pe_op op_mul pe_int (pv 1))) (pe_op op_mul pe_int (pe_callTy call_int1 (by exact rfl) T.zint (by decide +kernel) (pa_cons (pe_cmpR op_lt (pv 2) pe_int (nomark _)) pa_nil)))) pe_int) (pa_cons pe_int pa_nil)))))))), ?_⟩
    refine ⟨fun σ' H' => ∃ cell : Int, σ' = [some (.ref a), some (.int spot), some (.int cell), none] ∧ H' = H, ?_, ?_⟩
    · refine ⟨_, rfl, _, rfl, _, _, rfl, .inl hS, _, _, rfl, rfl, _, rfl, ?_⟩
      refine ite2 (fun c1 => ?_) (fun c1 => ?_)
      · have c1' : spot < ((ns.map V.int).length : Int) := of_decide_eq_true c1
        rw [List.length_map] at c1'
        obtain ⟨n, hn⟩ := at_ints s0 c1'
        exact ⟨_, rfl, _, rfl, _, _, _, _, rfl, rfl, hS, hn, .inl ⟨_, rfl, _, rfl, rfl⟩⟩
      · exact ⟨_, rfl, _, _, rfl, rfl, .inl ⟨by decide, by decide⟩, _, _, rfl, rfl, _, rfl, rfl⟩
    rintro _ _ ⟨cell, rfl, rfl⟩
    refine ⟨_, rfl, _, rfl, _, _, rfl, rfl, ⟨by decide, by decide, by decide⟩, _, _, rfl, rfl, _, _, rfl, _, _, rfl, rfl, ⟨by decide, by decide, by decide⟩, _, _, rfl, rfl, ⟨by decide, by decide, by decide⟩, _, _, rfl, rfl, wide_mul (a := 250) (b := 250) (by decide +kernel) (by decide +kernel) (by decide) (by decide) (by decide), _, _, rfl, rfl, by show (0 : Int) < _; decide +kernel, ?_⟩
    refine ⟨_, rfl, _, rfl, _, rfl, _, _, rfl, rfl, by show (0 : Int) < _; decide, _, _, rfl, rfl, .inr ⟨by decide, by decide⟩, _, rfl, _, _, rfl, rfl, .inl ⟨by decide, by decide⟩, _, _, rfl, rfl, _, rfl, _, _, rfl, rfl, .inr ⟨_, rfl, _, _, rfl, rfl, .inl ⟨by decide, by decide⟩, _, _, rfl, rfl, _, _, rfl, rfl, by show 3 ≤ sizeLine; decide, fun p hp => ?_⟩⟩
    exact q p _ hp (fun b o e => by rw [upd_ne (ne_of_none e hp)]; exact e) ⟨_, _, _, Int.emod_nonneg _ (by decide +kernel), upd_same⟩

theorem h_law_pick (T : Txt K mg c) (D : Df K mg "_law_pick" s__law_pick) (h_law_roll : Has P w K mg base CX0 "_law_roll" 1 ["_law_dice_here", "_law_total"] spRoll) : Has P w K mg base CX0 "_law_pick" 2 ["_law_dice_here", "_law_items"] spPick := by
  refine D.has sc__law_pick (fun vs H Q E h => ?_) (fun kV doc pm an cdv ct us hl => match us, hl with | [_, _], _ => rfl) (fun f cdv A outer s H vs Q E gd hr h => ?_)
  · obtain ⟨p, q, xs, rfl, _⟩ := h
    rfl
  · obtain ⟨p, q, xs, rfl, hd, hx, ne, l0, l1, k⟩ := h
    refine ⟨_, (pss_one
 (ps_ret (pe_ix ix_seq (pv 1) (pe_callH h_law_roll gd (hr.mono (by decide)) pass0 (pa_cons (pv 0) (pa_cons (pe_callB call_len_seq (by exact rfl) T.zlen PySem.boot_len (pa_cons (pv 1) pa_nil)) pa_nil))) (fun _ _ => rfl)))), ?_⟩
    have hs : SqL K H q xs ∨ SqT K H q xs := hx.imp SqL.of SqT.of
    refine ⟨_, rfl, _, rfl, _, rfl, _, _, rfl, hs, _, _, rfl, hd, (by omega), Nat.lt_of_le_of_lt (show ((xs.length : Int)).natAbs ≤ 1000 by omega) (by decide), fun r H1 r0 r1 g => ?_⟩
    obtain ⟨j, rfl⟩ : ∃ j : Nat, r = (j : Int) := ⟨r.toNat, by omega⟩
    have hj : j < xs.length := by omega
    have hg : xs[j]? = some xs[j] := List.getElem?_eq_getElem hj
    rcases hx with hx | hx
    · exact .inl ⟨q, xs, _, _, rfl, rfl, SqL.of (g.keep _ _ hx ne), atI_nat hg, k _ _ (List.getElem_mem hj) g⟩
    · exact .inr (.inl ⟨q, xs, _, _, rfl, rfl, SqT.of (g.keep _ _ hx ne), atI_nat hg, k _ _ (List.getElem_mem hj) g⟩)

theorem h_law_own (T : Txt K mg c) (D : Df K mg "_law_own" s__law_own) : Has P w K mg base CX0 "_law_own" 1 ["_law_error"] (spOwn K c ownT) := by
  refine D.has sc__law_own (fun vs H Q E h => ?_) (fun kV doc pm an cdv ct us hl => match us, hl with | [_], _ => rfl) (fun f cdv A outer s H vs Q E gd hr h => ?_)
  · obtain ⟨a, D, b, rfl, _⟩ := h
    rfl
  · obtain ⟨a, D, b, rfl, an, ie, k⟩ := h
    refine ⟨_, (pss_cons
 (ps_set (i := 1) sc__law_own.nd rfl (Or.inl rfl) (pe_op op_add_str (pe_op op_timesB pe_str (pe_callTy call_int1 (by exact rfl) T.zint (by decide +kernel) (pa_cons (pe_callB call_isErr (by exact rfl) T.zisinstance (by decide +kernel) (pa_cons (pv 0) (pa_cons (pe_globV T.gInvalidGrid) pa_nil))) pa_nil))) (pe_op op_timesB pe_str (pe_callTy call_int1 (by exact rfl) T.zint (by decide +kernel) (pa_cons (pe_callB call_isErr (by exact rfl) T.zisinstance (by decide +kernel) (pa_cons (pv 0) (pa_cons (pe_globV T.gInvalidPoint) pa_nil))) pa_nil)))))
 (pss_cons
 (ps_set (i := 1) sc__law_own.nd rfl (Or.inl rfl) (pe_op op_add_str (pe_op op_add_str (pv 1) (pe_op op_timesB pe_str (pe_callTy call_int1 (by exact rfl) T.zint (by decide +kernel) (pa_cons (pe_callB call_isErr (by exact rfl) T.zisinstance (by decide +kernel) (pa_cons (pv 0) (pa_cons (pe_globV T.gInvalidRule) pa_nil))) pa_nil)))) (pe_op op_timesB pe_str (pe_callTy call_int1 (by exact rfl) T.zint (by decide +kernel) (pa_cons (pe_callB call_isErr (by exact rfl) T.zisinstance (by decide +kernel) (pa_cons (pv 0) (pa_cons (pe_globV T.gInvalidScheme) pa_nil))) pa_nil)))))
 (pss_cons
 (ps_set (i := 1) sc__law_own.nd rfl (Or.inl rfl) (pe_op op_add_str (pe_op op_add_str (pv 1) (pe_op op_timesB pe_str (pe_callTy call_int1 (by exact rfl) T.zint (by decide +kernel) (pa_cons (pe_callB call_isErr (by exact rfl) T.zisinstance (by decide +kernel) (pa_cons (pv 0) (pa_cons (pe_globV T.gInvalidStand) pa_nil))) pa_nil)))) (pe_op op_timesB pe_str (pe_callTy call_int1 (by exact rfl) T.zint (by decide +kernel) (pa_cons (pe_callB call_isErr (by exact rfl) T.zisinstance (by decide +kernel) (pa_cons (pv 0) (pa_cons (pe_globV T.gInvalidPaper) pa_nil))) pa_nil)))))
 (pss_cons
 (ps_set (i := 1) sc__law_own.nd rfl (Or.inl rfl) (pe_op op_add_str (pe_op op_add_str (pv 1) (pe_op op_timesB pe_str (pe_callTy call_int1 (by exact rfl) T.zint (by decide +kernel) (pa_cons (pe_callB call_isErr (by exact rfl) T.zisinstance (by decide +kernel) (pa_cons (pv 0) (pa_cons (pe_globV T.gInvalidOperation) pa_nil))) pa_nil)))) (pe_op op_timesB pe_str (pe_callTy call_int1 (by exact rfl) T.zint (by decide +kernel) (pa_cons (pe_callB call_isErr (by exact rfl) T.zisinstance (by decide +kernel) (pa_cons (pv 0) (pa_cons (pe_globV T.gParseError) pa_nil))) pa_nil)))))
 (pss_cons
 (ps_set (i := 1) sc__law_own.nd rfl (Or.inl rfl) (pe_op op_add_str (pe_op op_add_str (pv 1) (pe_op op_timesB pe_str (pe_callTy call_int1 (by exact rfl) T.zint (by decide +kernel) (pa_cons (pe_callB call_isErr (by exact rfl) T.zisinstance (by decide +kernel) (pa_cons (pv 0) (pa_cons (pe_globV T.gUnknownLetter) pa_nil))) pa_nil)))) (pe_op op_timesB pe_str (pe_callTy call_int1 (by exact rfl) T.zint (by decide +kernel) (pa_cons (pe_callB call_isErr (by exact rfl) T.zisinstance (by decide +kernel) (pa_cons (pv 0) (pa_cons (pe_globV T.gUnknownAddress) pa_nil))) pa_nil)))))
 (pss_cons
 (ps_set (i := 1) sc__law_own.nd rfl (Or.inl rfl) (pe_op op_add_str (pe_op op_add_str (pv 1) (pe_op op_timesB pe_str (pe_callTy call_int1 (by exact rfl) T.zint (by decide +kernel) (pa_cons (pe_callB call_isErr (by exact rfl) T.zisinstance (by decide +kernel) (pa_cons (pv 0) (pa_cons (pe_globV T.gInvalidNumber) pa_nil))) pa_nil)))) (pe_op op_timesB pe_str (pe_callTy call_int1 (by exact rfl) T.zint (by decide +kernel) (pa_cons (pe_callB call_isErr (by exact rfl) T.zisinstance (by decide +kernel) (pa_cons (pv 0) (pa_cons (pe_globV T.gNothingToUndo) pa_nil))) pa_nil)))))
 (pss_cons
 (ps_set (i := 1) sc__law_own.nd rfl (Or.inl rfl) (pe_op op_add_str (pe_op op_add_str (pv 1) (pe_op op_timesB pe_str (pe_callTy call_int1 (by exact rfl) T.zint (by decide +kernel) (pa_cons (pe_callB call_isErr (by exact rfl) T.zisinstance (by decide +kernel) (pa_cons (pv 0) (pa_cons (pe_globV T.gTooMany) pa_nil))) pa_nil)))) (pe_op op_timesB pe_str (pe_callTy call_int1 (by exact rfl) T.zint (by decide +kernel) (pa_cons (pe_callB call_isErr (by exact rfl) T.zisinstance (by decide +kernel) (pa_cons (pv 0) (pa_cons (pe_globV T.gRefused) pa_nil))) pa_nil)))))
 (pss_one
 (ps_ret (pe_op op_add_str (pv 1) (pe_op op_timesB pe_str (pe_callTy call_int1 (by exact rfl) T.zint (by decide +kernel) (pa_cons (pe_callB call_isErr (by exact rfl) T.zisinstance (by decide +kernel) (pa_cons (pv 0) (pa_cons (pe_globV T.gNoQuotient) pa_nil))) pa_nil))))))))))))), ?_⟩
    have l0 : (wd "g" (b 0)).length ≤ 11 := wd_le (by decide)
    have l1 : (wd "p" (b 1)).length ≤ 11 := wd_le (by decide)
    have l2 : (wd "r" (b 2)).length ≤ 11 := wd_le (by decide)
    have l3 : (wd "s" (b 3)).length ≤ 11 := wd_le (by decide)
    have l4 : (wd "d" (b 4)).length ≤ 11 := wd_le (by decide)
    have l5 : (wd "q" (b 5)).length ≤ 11 := wd_le (by decide)
    have l6 : (wd "o" (b 6)).length ≤ 11 := wd_le (by decide)
    have l7 : (wd "x" (b 7)).length ≤ 11 := wd_le (by decide)
    have l8 : (wd "U" (b 8)).length ≤ 11 := wd_le (by decide)
    have l9 : (wd "A" (b 9)).length ≤ 11 := wd_le (by decide)
    have l10 : (wd "N" (b 10)).length ≤ 11 := wd_le (by decide)
    have l11 : (wd "Z" (b 11)).length ≤ 11 := wd_le (by decide)
    have l12 : (wd "M" (b 12)).length ≤ 11 := wd_le (by decide)
    have l13 : (wd "R" (b 13)).length ≤ 11 := wd_le (by decide)
    have l14 : (wd "Q" (b 14)).length ≤ 11 := wd_le (by decide)
    refine ⟨_, rfl, a, D, _, _, _, rfl, an.e, ie, .own _, an.k0, .inr ⟨_, rfl, _, _, rfl, rfl, by decide, ?_⟩⟩
    refine ⟨_, rfl, a, D, _, _, _, rfl, an.e, ie, .own _, an.k1, .inr ⟨_, rfl, _, _, rfl, rfl, by decide, ?_⟩⟩
    refine ⟨_, _, rfl, rfl, by first | (simp only [strLen_append]; rw [sizeLine_eq]; omega) | (rw [sizeLine_eq]; omega), ?_⟩
    refine ⟨_, rfl, ?_⟩
    refine ⟨_, rfl, a, D, _, _, _, rfl, an.e, ie, .own _, an.k2, .inr ⟨_, rfl, _, _, rfl, rfl, by decide, ?_⟩⟩
    refine ⟨_, _, rfl, rfl, by first | (simp only [strLen_append]; rw [sizeLine_eq]; omega) | (rw [sizeLine_eq]; omega), ?_⟩
    refine ⟨_, rfl, a, D, _, _, _, rfl, an.e, ie, .own _, an.k3, .inr ⟨_, rfl, _, _, rfl, rfl, by decide, ?_⟩⟩
    refine ⟨_, _, rfl, rfl, by first | (simp only [strLen_append]; rw [sizeLine_eq]; omega) | (rw [sizeLine_eq]; omega), ?_⟩
    refine ⟨_, rfl, ?_⟩
    refine ⟨_, rfl, a, D, _, _, _, rfl, an.e, ie, .own _, an.k4, .inr ⟨_, rfl, _, _, rfl, rfl, by decide, ?_⟩⟩
    refine ⟨_, _, rfl, rfl, by first | (simp only [strLen_append]; rw [sizeLine_eq]; omega) | (rw [sizeLine_eq]; omega), ?_⟩
    refine ⟨_, rfl, a, D, _, _, _, rfl, an.e, ie, .own _, an.k5, .inr ⟨_, rfl, _, _, rfl, rfl, by decide, ?_⟩⟩
    refine ⟨_, _, rfl, rfl, by first | (simp only [strLen_append]; rw [sizeLine_eq]; omega) | (rw [sizeLine_eq]; omega), ?_⟩
    refine ⟨_, rfl, ?_⟩
    refine ⟨_, rfl, a, D, _, _, _, rfl, an.e, ie, .own _, an.k6, .inr ⟨_, rfl, _, _, rfl, rfl, by decide, ?_⟩⟩
    refine ⟨_, _, rfl, rfl, by first | (simp only [strLen_append]; rw [sizeLine_eq]; omega) | (rw [sizeLine_eq]; omega), ?_⟩
    refine ⟨_, rfl, a, D, _, _, _, rfl, an.e, ie, .own _, an.k7, .inr ⟨_, rfl, _, _, rfl, rfl, by decide, ?_⟩⟩
    refine ⟨_, _, rfl, rfl, by first | (simp only [strLen_append]; rw [sizeLine_eq]; omega) | (rw [sizeLine_eq]; omega), ?_⟩
    refine ⟨_, rfl, ?_⟩
    refine ⟨_, rfl, a, D, _, _, _, rfl, an.e, ie, .own _, an.k8, .inr ⟨_, rfl, _, _, rfl, rfl, by decide, ?_⟩⟩
    refine ⟨_, _, rfl, rfl, by first | (simp only [strLen_append]; rw [sizeLine_eq]; omega) | (rw [sizeLine_eq]; omega), ?_⟩
    refine ⟨_, rfl, a, D, _, _, _, rfl, an.e, ie, .own _, an.k9, .inr ⟨_, rfl, _, _, rfl, rfl, by decide, ?_⟩⟩
    refine ⟨_, _, rfl, rfl, by first | (simp only [strLen_append]; rw [sizeLine_eq]; omega) | (rw [sizeLine_eq]; omega), ?_⟩
    refine ⟨_, rfl, ?_⟩
    refine ⟨_, rfl, a, D, _, _, _, rfl, an.e, ie, .own _, an.k10, .inr ⟨_, rfl, _, _, rfl, rfl, by decide, ?_⟩⟩
    refine ⟨_, _, rfl, rfl, by first | (simp only [strLen_append]; rw [sizeLine_eq]; omega) | (rw [sizeLine_eq]; omega), ?_⟩
    refine ⟨_, rfl, a, D, _, _, _, rfl, an.e, ie, .own _, an.k11, .inr ⟨_, rfl, _, _, rfl, rfl, by decide, ?_⟩⟩
    refine ⟨_, _, rfl, rfl, by first | (simp only [strLen_append]; rw [sizeLine_eq]; omega) | (rw [sizeLine_eq]; omega), ?_⟩
    refine ⟨_, rfl, ?_⟩
    refine ⟨_, rfl, a, D, _, _, _, rfl, an.e, ie, .own _, an.k12, .inr ⟨_, rfl, _, _, rfl, rfl, by decide, ?_⟩⟩
    refine ⟨_, _, rfl, rfl, by first | (simp only [strLen_append]; rw [sizeLine_eq]; omega) | (rw [sizeLine_eq]; omega), ?_⟩
    refine ⟨_, rfl, a, D, _, _, _, rfl, an.e, ie, .own _, an.k13, .inr ⟨_, rfl, _, _, rfl, rfl, by decide, ?_⟩⟩
    refine ⟨_, _, rfl, rfl, by first | (simp only [strLen_append]; rw [sizeLine_eq]; omega) | (rw [sizeLine_eq]; omega), ?_⟩
    refine ⟨_, rfl, ?_⟩
    refine ⟨_, rfl, a, D, _, _, _, rfl, an.e, ie, .own _, an.k14, .inr ⟨_, rfl, _, _, rfl, rfl, by decide, ?_⟩⟩
    refine ⟨_, _, rfl, rfl, by first | (simp only [strLen_append]; rw [sizeLine_eq]; omega) | (rw [sizeLine_eq]; omega), k⟩
theorem h_own_e (T : Txt K mg c) (D : Df K mg "_law_own" s__law_own) : HasE P w K mg base "_law_own" 1 ["_law_error"] (spOwnE K c) := by
  obtain ⟨f, fd, F, m⟩ := D.ex
  refine ⟨f, fd, ?_, m, F.kp, F.binds fun kV doc pm an cdv ct us hl => match us, hl with | [_], _ => rfl⟩
  refine fnE_mk F sc__law_own (fun p vs H Q E h => ?_) (fun cdv A outer s H vs Q E p hr h => ?_)
  · obtain ⟨D, b, rfl, _⟩ := h
    rfl
  · obtain ⟨D, b, rfl, an, hz, hf, k⟩ := h
    refine ⟨_, (pss_cons
 (ps_set (i := 1) sc__law_own.nd rfl (Or.inl rfl) (pe_op op_add_str (pe_op op_timesB pe_str (pe_callTy call_int1 (by exact rfl) T.zint (by decide +kernel) (pa_cons (pe_callB call_isPin (by exact rfl) T.zisinstance (by decide +kernel) (pa_cons (pv 0) (pa_cons (pe_globV T.gInvalidGrid) pa_nil))) pa_nil))) (pe_op op_timesB pe_str (pe_callTy call_int1 (by exact rfl) T.zint (by decide +kernel) (pa_cons (pe_callB call_isPin (by exact rfl) T.zisinstance (by decide +kernel) (pa_cons (pv 0) (pa_cons (pe_globV T.gInvalidPoint) pa_nil))) pa_nil)))))
 (pss_cons
 (ps_set (i := 1) sc__law_own.nd rfl (Or.inl rfl) (pe_op op_add_str (pe_op op_add_str (pv 1) (pe_op op_timesB pe_str (pe_callTy call_int1 (by exact rfl) T.zint (by decide +kernel) (pa_cons (pe_callB call_isPin (by exact rfl) T.zisinstance (by decide +kernel) (pa_cons (pv 0) (pa_cons (pe_globV T.gInvalidRule) pa_nil))) pa_nil)))) (pe_op op_timesB pe_str (pe_callTy call_int1 (by exact rfl) T.zint (by decide +kernel) (pa_cons (pe_callB call_isPin (by exact rfl) T.zisinstance (by decide +kernel) (pa_cons (pv 0) (pa_cons (pe_globV T.gInvalidScheme) pa_nil))) pa_nil)))))
 (pss_cons
 (ps_set (i := 1) sc__law_own.nd rfl (Or.inl rfl) (pe_op op_add_str (pe_op op_add_str (pv 1) (pe_op op_timesB pe_str (pe_callTy call_int1 (by exact rfl) T.zint (by decide +kernel) (pa_cons (pe_callB call_isPin (by exact rfl) T.zisinstance (by decide +kernel) (pa_cons (pv 0) (pa_cons (pe_globV T.gInvalidStand) pa_nil))) pa_nil)))) (pe_op op_timesB pe_str (pe_callTy call_int1 (by exact rfl) T.zint (by decide +kernel) (pa_cons (pe_callB call_isPin (by exact rfl) T.zisinstance (by decide +kernel) (pa_cons (pv 0) (pa_cons (pe_globV T.gInvalidPaper) pa_nil))) pa_nil)))))
 (pss_cons
 (ps_set (i := 1) sc__law_own.nd rfl (Or.inl rfl) (pe_op op_add_str (pe_op op_add_str (pv 1) (pe_op op_timesB pe_str (pe_callTy call_int1 (by exact rfl) T.zint (by decide +kernel) (pa_cons (pe_callB call_isPin (by exact rfl) T.zisinstance (by decide +kernel) (pa_cons (pv 0) (pa_cons (pe_globV T.gInvalidOperation) pa_nil))) pa_nil)))) (pe_op op_timesB pe_str (pe_callTy call_int1 (by exact rfl) T.zint (by decide +kernel) (pa_cons (pe_callB call_isPin (by exact rfl) T.zisinstance (by decide +kernel) (pa_cons (pv 0) (pa_cons (pe_globV T.gParseError) pa_nil))) pa_nil)))))
 (pss_cons
 (ps_set (i := 1) sc__law_own.nd rfl (Or.inl rfl) (pe_op op_add_str (pe_op op_add_str (pv 1) (pe_op op_timesB pe_str (pe_callTy call_int1 (by exact rfl) T.zint (by decide +kernel) (pa_cons (pe_callB call_isPin (by exact rfl) T.zisinstance (by decide +kernel) (pa_cons (pv 0) (pa_cons (pe_globV T.gUnknownLetter) pa_nil))) pa_nil)))) (pe_op op_timesB pe_str (pe_callTy call_int1 (by exact rfl) T.zint (by decide +kernel) (pa_cons (pe_callB call_isPin (by exact rfl) T.zisinstance (by decide +kernel) (pa_cons (pv 0) (pa_cons (pe_globV T.gUnknownAddress) pa_nil))) pa_nil)))))
 (pss_cons
 (ps_set (i := 1) sc__law_own.nd rfl (Or.inl rfl) (pe_op op_add_str (pe_op op_add_str (pv 1) (pe_op op_timesB pe_str (pe_callTy call_int1 (by exact rfl) T.zint (by decide +kernel) (pa_cons (pe_callB call_isPin (by exact rfl) T.zisinstance (by decide +kernel) (pa_cons (pv 0) (pa_cons (pe_globV T.gInvalidNumber) pa_nil))) pa_nil)))) (pe_op op_timesB pe_str (pe_callTy call_int1 (by exact rfl) T.zint (by decide +kernel) (pa_cons (pe_callB call_isPin (by exact rfl) T.zisinstance (by decide +kernel) (pa_cons (pv 0) (pa_cons (pe_globV T.gNothingToUndo) pa_nil))) pa_nil)))))
 (pss_cons
 (ps_set (i := 1) sc__law_own.nd rfl (Or.inl rfl) (pe_op op_add_str (pe_op op_add_str (pv 1) (pe_op op_timesB pe_str (pe_callTy call_int1 (by exact rfl) T.zint (by decide +kernel) (pa_cons (pe_callB call_isPin (by exact rfl) T.zisinstance (by decide +kernel) (pa_cons (pv 0) (pa_cons (pe_globV T.gTooMany) pa_nil))) pa_nil)))) (pe_op op_timesB pe_str (pe_callTy call_int1 (by exact rfl) T.zint (by decide +kernel) (pa_cons (pe_callB call_isPin (by exact rfl) T.zisinstance (by decide +kernel) (pa_cons (pv 0) (pa_cons (pe_globV T.gRefused) pa_nil))) pa_nil)))))
 (pss_one
 (ps_ret (pe_op op_add_str (pv 1) (pe_op op_timesB pe_str (pe_callTy call_int1 (by exact rfl) T.zint (by decide +kernel) (pa_cons (pe_callB call_isPin (by exact rfl) T.zisinstance (by decide +kernel) (pa_cons (pv 0) (pa_cons (pe_globV T.gNoQuotient) pa_nil))) pa_nil))))))))))))), ?_⟩
    have l0 : (wd "g" (b 0)).length ≤ 11 := wd_le (by decide)
    have l1 : (wd "p" (b 1)).length ≤ 11 := wd_le (by decide)
    have l2 : (wd "r" (b 2)).length ≤ 11 := wd_le (by decide)
    have l3 : (wd "s" (b 3)).length ≤ 11 := wd_le (by decide)
    have l4 : (wd "d" (b 4)).length ≤ 11 := wd_le (by decide)
    have l5 : (wd "q" (b 5)).length ≤ 11 := wd_le (by decide)
    have l6 : (wd "o" (b 6)).length ≤ 11 := wd_le (by decide)
    have l7 : (wd "x" (b 7)).length ≤ 11 := wd_le (by decide)
    have l8 : (wd "U" (b 8)).length ≤ 11 := wd_le (by decide)
    have l9 : (wd "A" (b 9)).length ≤ 11 := wd_le (by decide)
    have l10 : (wd "N" (b 10)).length ≤ 11 := wd_le (by decide)
    have l11 : (wd "Z" (b 11)).length ≤ 11 := wd_le (by decide)
    have l12 : (wd "M" (b 12)).length ≤ 11 := wd_le (by decide)
    have l13 : (wd "R" (b 13)).length ≤ 11 := wd_le (by decide)
    have l14 : (wd "Q" (b 14)).length ≤ 11 := wd_le (by decide)
    refine ⟨_, rfl, p, D, _, _, _, rfl, List.mem_cons_self, hz, hf, an.e, .own _, an.k0, .inr ⟨_, rfl, _, _, rfl, rfl, by decide, ?_⟩⟩
    refine ⟨_, rfl, p, D, _, _, _, rfl, List.mem_cons_self, hz, hf, an.e, .own _, an.k1, .inr ⟨_, rfl, _, _, rfl, rfl, by decide, ?_⟩⟩
    refine ⟨_, _, rfl, rfl, by first | (simp only [strLen_append]; rw [sizeLine_eq]; omega) | (rw [sizeLine_eq]; omega), ?_⟩
    refine ⟨_, rfl, ?_⟩
    refine ⟨_, rfl, p, D, _, _, _, rfl, List.mem_cons_self, hz, hf, an.e, .own _, an.k2, .inr ⟨_, rfl, _, _, rfl, rfl, by decide, ?_⟩⟩
    refine ⟨_, _, rfl, rfl, by first | (simp only [strLen_append]; rw [sizeLine_eq]; omega) | (rw [sizeLine_eq]; omega), ?_⟩
    refine ⟨_, rfl, p, D, _, _, _, rfl, List.mem_cons_self, hz, hf, an.e, .own _, an.k3, .inr ⟨_, rfl, _, _, rfl, rfl, by decide, ?_⟩⟩
    refine ⟨_, _, rfl, rfl, by first | (simp only [strLen_append]; rw [sizeLine_eq]; omega) | (rw [sizeLine_eq]; omega), ?_⟩
    refine ⟨_, rfl, ?_⟩
    refine ⟨_, rfl, p, D, _, _, _, rfl, List.mem_cons_self, hz, hf, an.e, .own _, an.k4, .inr ⟨_, rfl, _, _, rfl, rfl, by decide, ?_⟩⟩
    refine ⟨_, _, rfl, rfl, by first | (simp only [strLen_append]; rw [sizeLine_eq]; omega) | (rw [sizeLine_eq]; omega), ?_⟩
    refine ⟨_, rfl, p, D, _, _, _, rfl, List.mem_cons_self, hz, hf, an.e, .own _, an.k5, .inr ⟨_, rfl, _, _, rfl, rfl, by decide, ?_⟩⟩
    refine ⟨_, _, rfl, rfl, by first | (simp only [strLen_append]; rw [sizeLine_eq]; omega) | (rw [sizeLine_eq]; omega), ?_⟩
    refine ⟨_, rfl, ?_⟩
    refine ⟨_, rfl, p, D, _, _, _, rfl, List.mem_cons_self, hz, hf, an.e, .own _, an.k6, .inr ⟨_, rfl, _, _, rfl, rfl, by decide, ?_⟩⟩
    refine ⟨_, _, rfl, rfl, by first | (simp only [strLen_append]; rw [sizeLine_eq]; omega) | (rw [sizeLine_eq]; omega), ?_⟩
    refine ⟨_, rfl, p, D, _, _, _, rfl, List.mem_cons_self, hz, hf, an.e, .own _, an.k7, .inr ⟨_, rfl, _, _, rfl, rfl, by decide, ?_⟩⟩
    refine ⟨_, _, rfl, rfl, by first | (simp only [strLen_append]; rw [sizeLine_eq]; omega) | (rw [sizeLine_eq]; omega), ?_⟩
    refine ⟨_, rfl, ?_⟩
    refine ⟨_, rfl, p, D, _, _, _, rfl, List.mem_cons_self, hz, hf, an.e, .own _, an.k8, .inr ⟨_, rfl, _, _, rfl, rfl, by decide, ?_⟩⟩
    refine ⟨_, _, rfl, rfl, by first | (simp only [strLen_append]; rw [sizeLine_eq]; omega) | (rw [sizeLine_eq]; omega), ?_⟩
    refine ⟨_, rfl, p, D, _, _, _, rfl, List.mem_cons_self, hz, hf, an.e, .own _, an.k9, .inr ⟨_, rfl, _, _, rfl, rfl, by decide, ?_⟩⟩
    refine ⟨_, _, rfl, rfl, by first | (simp only [strLen_append]; rw [sizeLine_eq]; omega) | (rw [sizeLine_eq]; omega), ?_⟩
    refine ⟨_, rfl, ?_⟩
    refine ⟨_, rfl, p, D, _, _, _, rfl, List.mem_cons_self, hz, hf, an.e, .own _, an.k10, .inr ⟨_, rfl, _, _, rfl, rfl, by decide, ?_⟩⟩
    refine ⟨_, _, rfl, rfl, by first | (simp only [strLen_append]; rw [sizeLine_eq]; omega) | (rw [sizeLine_eq]; omega), ?_⟩
    refine ⟨_, rfl, p, D, _, _, _, rfl, List.mem_cons_self, hz, hf, an.e, .own _, an.k11, .inr ⟨_, rfl, _, _, rfl, rfl, by decide, ?_⟩⟩
    refine ⟨_, _, rfl, rfl, by first | (simp only [strLen_append]; rw [sizeLine_eq]; omega) | (rw [sizeLine_eq]; omega), ?_⟩
    refine ⟨_, rfl, ?_⟩
    refine ⟨_, rfl, p, D, _, _, _, rfl, List.mem_cons_self, hz, hf, an.e, .own _, an.k12, .inr ⟨_, rfl, _, _, rfl, rfl, by decide, ?_⟩⟩
    refine ⟨_, _, rfl, rfl, by first | (simp only [strLen_append]; rw [sizeLine_eq]; omega) | (rw [sizeLine_eq]; omega), ?_⟩
    refine ⟨_, rfl, p, D, _, _, _, rfl, List.mem_cons_self, hz, hf, an.e, .own _, an.k13, .inr ⟨_, rfl, _, _, rfl, rfl, by decide, ?_⟩⟩
    refine ⟨_, _, rfl, rfl, by first | (simp only [strLen_append]; rw [sizeLine_eq]; omega) | (rw [sizeLine_eq]; omega), ?_⟩
    refine ⟨_, rfl, ?_⟩
    refine ⟨_, rfl, p, D, _, _, _, rfl, List.mem_cons_self, hz, hf, an.e, .own _, an.k14, .inr ⟨_, rfl, _, _, rfl, rfl, by decide, ?_⟩⟩
    refine ⟨_, _, rfl, rfl, by first | (simp only [strLen_append]; rw [sizeLine_eq]; omega) | (rw [sizeLine_eq]; omega), k⟩
theorem h_law_all (T : Txt K mg c) (D : Df K mg "_law_all" s__law_all) (h_law_own : Has P w K mg base CX0 "_law_own" 1 ["_law_error"] (spOwn K c ownT)) : Has P w K mg base CX0 "_law_all" 2 ["_law_error"] (spOwn K c allT) := by
  refine D.has sc__law_all (fun vs H Q E h => ?_) (fun kV doc pm an cdv ct us hl => match us, hl with | [_], _ => rfl) (fun f cdv A outer s H vs Q E gd hr h => ?_)
  · obtain ⟨a, D, b, rfl, _⟩ := h
    rfl
  · obtain ⟨a, D, b, rfl, an, ie, k⟩ := h
    refine ⟨_, (pss_cons
 (ps_set (i := 1) sc__law_all.nd rfl (Or.inl rfl) (pe_op op_add_str (pe_op op_add_str (pe_callH h_law_own gd (hr.mono (by decide)) pass0 (pa_cons (pv 0) pa_nil)) pe_str) (pe_op op_timesB pe_str (pe_callTy call_int1 (by exact rfl) T.zint (by decide +kernel) (pa_cons (pe_callB call_isErr (by exact rfl) T.zisinstance (by decide +kernel) (pa_cons (pv 0) (pa_cons (pe_globV T.gLineError) pa_nil))) pa_nil)))))
 (pss_cons
 (ps_set (i := 1) sc__law_all.nd rfl (Or.inl rfl) (pe_op op_add_str (pe_op op_add_str (pv 1) (pe_op op_timesB pe_str (pe_callTy call_int1 (by exact rfl) T.zint (by decide +kernel) (pa_cons (pe_callB call_isErr (by exact rfl) T.zisinstance (by decide +kernel) (pa_cons (pv 0) (pa_cons (pe_bltn (v := .ty "ValueError") (by exact rfl) T.zValueError (by decide +kernel) rfl) pa_nil))) pa_nil)))) (pe_op op_timesB pe_str (pe_callTy call_int1 (by exact rfl) T.zint (by decide +kernel) (pa_cons (pe_callB call_isErr (by exact rfl) T.zisinstance (by decide +kernel) (pa_cons (pv 0) (pa_cons (pe_bltn (v := .ty "KeyError") (by exact rfl) T.zKeyError (by decide +kernel) rfl) pa_nil))) pa_nil)))))
 (pss_cons
 (ps_set (i := 1) sc__law_all.nd rfl (Or.inl rfl) (pe_op op_add_str (pe_op op_add_str (pv 1) (pe_op op_timesB pe_str (pe_callTy call_int1 (by exact rfl) T.zint (by decide +kernel) (pa_cons (pe_callB call_isErr (by exact rfl) T.zisinstance (by decide +kernel) (pa_cons (pv 0) (pa_cons (pe_bltn (v := .ty "IndexError") (by exact rfl) T.zIndexError (by decide +kernel) rfl) pa_nil))) pa_nil)))) (pe_op op_timesB pe_str (pe_callTy call_int1 (by exact rfl) T.zint (by decide +kernel) (pa_cons (pe_callB call_isErr (by exact rfl) T.zisinstance (by decide +kernel) (pa_cons (pv 0) (pa_cons (pe_bltn (v := .ty "LookupError") (by exact rfl) T.zLookupError (by decide +kernel) rfl) pa_nil))) pa_nil)))))
 (pss_cons
 (ps_set (i := 1) sc__law_all.nd rfl (Or.inl rfl) (pe_op op_add_str (pv 1) (pe_op op_timesB pe_str (pe_callTy call_int1 (by exact rfl) T.zint (by decide +kernel) (pa_cons (pe_callB call_isErr (by exact rfl) T.zisinstance (by decide +kernel) (pa_cons (pv 0) (pa_cons (pe_bltn (v := .ty "RuntimeError") (by exact rfl) T.zRuntimeError (by decide +kernel) rfl) pa_nil))) pa_nil)))))
 (pss_cons
 (ps_set (i := 1) sc__law_all.nd rfl (Or.inl rfl) (pe_op op_add_str (pv 1) (pe_op op_timesB pe_str (pe_callTy call_int1 (by exact rfl) T.zint (by decide +kernel) (pa_cons (pe_callB call_isErr (by exact rfl) T.zisinstance (by decide +kernel) (pa_cons (pv 0) (pa_cons (pe_bltn (v := .ty "OverflowError") (by exact rfl) T.zOverflowError (by decide +kernel) rfl) pa_nil))) pa_nil)))))
 (pss_cons
 (ps_set (i := 1) sc__law_all.nd rfl (Or.inl rfl) (pe_op op_add_str (pv 1) (pe_op op_timesB pe_str (pe_callTy call_int1 (by exact rfl) T.zint (by decide +kernel) (pa_cons (pe_callB call_isErr (by exact rfl) T.zisinstance (by decide +kernel) (pa_cons (pv 0) (pa_cons (pe_bltn (v := .ty "ZeroDivisionError") (by exact rfl) T.zZeroDivisionError (by decide +kernel) rfl) pa_nil))) pa_nil)))))
 (pss_one
 (ps_ret (pe_op op_add_str (pv 1) (pe_op op_timesB pe_str (pe_callTy call_int1 (by exact rfl) T.zint (by decide +kernel) (pa_cons (pe_callB call_isErr (by exact rfl) T.zisinstance (by decide +kernel) (pa_cons (pv 0) (pa_cons (pe_bltn (v := .ty "ArithmeticError") (by exact rfl) T.zArithmeticError (by decide +kernel) rfl) pa_nil))) pa_nil)))))))))))), ?_⟩
    have l0 : (wd "g" (b 0)).length ≤ 11 := wd_le (by decide)
    have l1 : (wd "p" (b 1)).length ≤ 11 := wd_le (by decide)
    have l2 : (wd "r" (b 2)).length ≤ 11 := wd_le (by decide)
    have l3 : (wd "s" (b 3)).length ≤ 11 := wd_le (by decide)
    have l4 : (wd "d" (b 4)).length ≤ 11 := wd_le (by decide)
    have l5 : (wd "q" (b 5)).length ≤ 11 := wd_le (by decide)
    have l6 : (wd "o" (b 6)).length ≤ 11 := wd_le (by decide)
    have l7 : (wd "x" (b 7)).length ≤ 11 := wd_le (by decide)
    have l8 : (wd "U" (b 8)).length ≤ 11 := wd_le (by decide)
    have l9 : (wd "A" (b 9)).length ≤ 11 := wd_le (by decide)
    have l10 : (wd "N" (b 10)).length ≤ 11 := wd_le (by decide)
    have l11 : (wd "Z" (b 11)).length ≤ 11 := wd_le (by decide)
    have l12 : (wd "M" (b 12)).length ≤ 11 := wd_le (by decide)
    have l13 : (wd "R" (b 13)).length ≤ 11 := wd_le (by decide)
    have l14 : (wd "Q" (b 14)).length ≤ 11 := wd_le (by decide)
    have l15 : (wd "line " (b 15)).length ≤ 11 := wd_le (by decide)
    have l16 : (wd "value " (b 16)).length ≤ 11 := wd_le (by decide)
    have l17 : (wd "key " (b 17)).length ≤ 11 := wd_le (by decide)
    have l18 : (wd "index " (b 18)).length ≤ 11 := wd_le (by decide)
    have l19 : (wd "lookup " (b 19)).length ≤ 11 := wd_le (by decide)
    have l20 : (wd "runtime " (b 20)).length ≤ 11 := wd_le (by decide)
    have l21 : (wd "overflow " (b 21)).length ≤ 11 := wd_le (by decide)
    have l22 : (wd "zero " (b 22)).length ≤ 11 := wd_le (by decide)
    have l23 : (wd "arithmetic " (b 23)).length ≤ 11 := wd_le (by decide)
    have lo : (ownT b).length ≤ 165 := by unfold ownT; simp only [strLen_append]; omega
    refine ⟨_, rfl, a, D, b, rfl, an, ie, ?_⟩
    refine ⟨_, _, rfl, rfl, by have : (" " : Str).length = 1 := by decide
                               rw [sizeLine_eq]; omega, ?_⟩
    have ls : (" " : Str).length = 1 := by decide
    refine ⟨_, rfl, a, D, _, _, _, rfl, an.e, ie, .own _, an.k15, .inr ⟨_, rfl, _, _, rfl, rfl, by decide, ?_⟩⟩
    refine ⟨_, _, rfl, rfl, by first | (simp only [strLen_append]; rw [sizeLine_eq]; omega) | (rw [sizeLine_eq]; omega), ?_⟩
    refine ⟨_, rfl, ?_⟩
    refine ⟨_, rfl, a, D, _, _, _, rfl, an.e, ie, .ty _, an.k16, .inr ⟨_, rfl, _, _, rfl, rfl, by decide, ?_⟩⟩
    refine ⟨_, _, rfl, rfl, by first | (simp only [strLen_append]; rw [sizeLine_eq]; omega) | (rw [sizeLine_eq]; omega), ?_⟩
    refine ⟨_, rfl, a, D, _, _, _, rfl, an.e, ie, .ty _, an.k17, .inr ⟨_, rfl, _, _, rfl, rfl, by decide, ?_⟩⟩
    refine ⟨_, _, rfl, rfl, by first | (simp only [strLen_append]; rw [sizeLine_eq]; omega) | (rw [sizeLine_eq]; omega), ?_⟩
    refine ⟨_, rfl, ?_⟩
    refine ⟨_, rfl, a, D, _, _, _, rfl, an.e, ie, .ty _, an.k18, .inr ⟨_, rfl, _, _, rfl, rfl, by decide, ?_⟩⟩
    refine ⟨_, _, rfl, rfl, by first | (simp only [strLen_append]; rw [sizeLine_eq]; omega) | (rw [sizeLine_eq]; omega), ?_⟩
    refine ⟨_, rfl, a, D, _, _, _, rfl, an.e, ie, .ty _, an.k19, .inr ⟨_, rfl, _, _, rfl, rfl, by decide, ?_⟩⟩
    refine ⟨_, _, rfl, rfl, by first | (simp only [strLen_append]; rw [sizeLine_eq]; omega) | (rw [sizeLine_eq]; omega), ?_⟩
    refine ⟨_, rfl, ?_⟩
    refine ⟨_, rfl, a, D, _, _, _, rfl, an.e, ie, .ty _, an.k20, .inr ⟨_, rfl, _, _, rfl, rfl, by decide, ?_⟩⟩
    refine ⟨_, _, rfl, rfl, by first | (simp only [strLen_append]; rw [sizeLine_eq]; omega) | (rw [sizeLine_eq]; omega), ?_⟩
    refine ⟨_, rfl, ?_⟩
    refine ⟨_, rfl, a, D, _, _, _, rfl, an.e, ie, .ty _, an.k21, .inr ⟨_, rfl, _, _, rfl, rfl, by decide, ?_⟩⟩
    refine ⟨_, _, rfl, rfl, by first | (simp only [strLen_append]; rw [sizeLine_eq]; omega) | (rw [sizeLine_eq]; omega), ?_⟩
    refine ⟨_, rfl, ?_⟩
    refine ⟨_, rfl, a, D, _, _, _, rfl, an.e, ie, .ty _, an.k22, .inr ⟨_, rfl, _, _, rfl, rfl, by decide, ?_⟩⟩
    refine ⟨_, _, rfl, rfl, by first | (simp only [strLen_append]; rw [sizeLine_eq]; omega) | (rw [sizeLine_eq]; omega), ?_⟩
    refine ⟨_, rfl, ?_⟩
    refine ⟨_, rfl, a, D, _, _, _, rfl, an.e, ie, .ty _, an.k23, .inr ⟨_, rfl, _, _, rfl, rfl, by decide, ?_⟩⟩
    refine ⟨_, _, rfl, rfl, by first | (simp only [strLen_append]; rw [sizeLine_eq]; omega) | (rw [sizeLine_eq]; omega), k⟩
theorem h__law_messages (T : Txt K mg c) (D : Df K mg "_law_messages" s__law_messages) (h_law_all : Has P w K mg base CX0 "_law_all" 2 ["_law_error"] (spOwn K c allT)) : Has P w K mg base CX0 "_law_messages" 3 [] spMsgs := by
  refine D.has sc__law_messages (fun vs H Q E h => ?_) (fun kV doc pm an cdv ct us hl => match us, hl with | [], _ => rfl) (fun f cdv A outer s H vs Q E gd hr h => ?_)
  · obtain ⟨rfl, _⟩ := h
    rfl
  · obtain ⟨rfl, k⟩ := h
    refine ⟨_, (pss_cons
 (ps_set (i := 0) sc__law_messages.nd rfl (Or.inl rfl) (pe_lst (pa_cons (pe_callH h_law_all gd (hr.mono (by decide)) pass0 (pa_cons (pe_exc1 PySem.F.excBase_ValueError T.mInvalidGrid.q T.mInvalidGrid.g T.mInvalidGrid.k rfl pe_str) pa_nil)) (pa_cons (pe_callH h_law_all gd (hr.mono (by decide)) pass0 (pa_cons (pe_exc1 PySem.F.excBase_ValueError T.mInvalidPoint.q T.mInvalidPoint.g T.mInvalidPoint.k rfl pe_str) pa_nil)) (pa_cons (pe_callH h_law_all gd (hr.mono (by decide)) pass0 (pa_cons (pe_exc1 PySem.F.excBase_ValueError T.mInvalidRule.q T.mInvalidRule.g T.mInvalidRule.k rfl pe_str) pa_nil)) pa_nil)))))
 (pss_cons
 (ps_set (i := 0) sc__law_messages.nd rfl (Or.inl rfl) (pe_op op_cat (pv 0) (pe_lst (pa_cons (pe_callH h_law_all gd (hr.mono (by decide)) pass0 (pa_cons (pe_exc1 PySem.F.excBase_ValueError T.mInvalidScheme.q T.mInvalidScheme.g T.mInvalidScheme.k rfl pe_str) pa_nil)) (pa_cons (pe_callH h_law_all gd (hr.mono (by decide)) pass0 (pa_cons (pe_exc1 PySem.F.excBase_ValueError T.mInvalidStand.q T.mInvalidStand.g T.mInvalidStand.k rfl pe_str) pa_nil)) (pa_cons (pe_callH h_law_all gd (hr.mono (by decide)) pass0 (pa_cons (pe_exc1 PySem.F.excBase_ValueError T.mInvalidPaper.q T.mInvalidPaper.g T.mInvalidPaper.k rfl pe_str) pa_nil)) pa_nil))))))
 (pss_one
 (ps_ret (pe_op op_cat (pv 0) (pe_lst (pa_cons (pe_callH h_law_all gd (hr.mono (by decide)) pass0 (pa_cons (pe_exc1 PySem.F.excBase_ValueError T.mInvalidOperation.q T.mInvalidOperation.g T.mInvalidOperation.k rfl pe_str) pa_nil)) (pa_cons (pe_callH h_law_all gd (hr.mono (by decide)) pass0 (pa_cons (pe_exc1 PySem.F.excBase_ValueError T.mLineError.q T.mLineError.g T.mLineError.k rfl pe_str) pa_nil)) pa_nil)))))))), ?_⟩
    have t0 : allT (on [0, 15, 16]) = "g line value " := by decide +kernel
    have t1 : allT (on [1, 15, 16]) = "p line value " := by decide +kernel
    have t2 : allT (on [2, 15, 16]) = "r line value " := by decide +kernel
    have t3 : allT (on [3, 15, 16]) = "s line value " := by decide +kernel
    have t4 : allT (on [4, 15, 16]) = "d line value " := by decide +kernel
    have t5 : allT (on [5, 15, 16]) = "q line value " := by decide +kernel
    have t6 : allT (on [6, 15, 16]) = "o line value " := by decide +kernel
    have t7 : allT (on [15, 16]) = " line value " := by decide +kernel
    intro a0 na0
    have sa0 : Same H (upd H a0 (ExO (.ref c.g) a0)) := Same.new na0
    have ea0 : upd H a0 (ExO (.ref c.g) a0) a0 = some (ExO (.ref c.g) a0) := upd_same
    generalize upd H a0 (ExO (.ref c.g) a0) = H1 at *
    refine ⟨a0, c.g, _, rfl, T.ag, .inl ea0, ?_⟩
    intro a1 na1
    have sa1 : Same H1 (upd H1 a1 (ExO (.ref c.p) a1)) := Same.new na1
    have ea1 : upd H1 a1 (ExO (.ref c.p) a1) a1 = some (ExO (.ref c.p) a1) := upd_same
    generalize upd H1 a1 (ExO (.ref c.p) a1) = H2 at *
    refine ⟨a1, c.p, _, rfl, T.ap, .inl ea1, ?_⟩
    intro a2 na2
    have sa2 : Same H2 (upd H2 a2 (ExO (.ref c.r) a2)) := Same.new na2
    have ea2 : upd H2 a2 (ExO (.ref c.r) a2) a2 = some (ExO (.ref c.r) a2) := upd_same
    generalize upd H2 a2 (ExO (.ref c.r) a2) = H3 at *
    refine ⟨a2, c.r, _, rfl, T.ar, .inl ea2, ?_⟩
    refine ⟨by show 3 ≤ sizeLine; decide, ?_⟩
    intro p0 np0
    have sp0 : Same H3 (upd H3 p0 (.lst [.str (allT (on [0, 15, 16])), .str (allT (on [1, 15, 16])), .str (allT (on [2, 15, 16]))])) := Same.new np0
    have ep0 : upd H3 p0 (.lst [.str (allT (on [0, 15, 16])), .str (allT (on [1, 15, 16])), .str (allT (on [2, 15, 16]))]) p0 = some (.lst [.str (allT (on [0, 15, 16])), .str (allT (on [1, 15, 16])), .str (allT (on [2, 15, 16]))]) := upd_same
    generalize upd H3 p0 (.lst [.str (allT (on [0, 15, 16])), .str (allT (on [1, 15, 16])), .str (allT (on [2, 15, 16]))]) = H4 at *
    refine ⟨_, rfl, ?_⟩
    intro a3 na3
    have sa3 : Same H4 (upd H4 a3 (ExO (.ref c.s) a3)) := Same.new na3
    have ea3 : upd H4 a3 (ExO (.ref c.s) a3) a3 = some (ExO (.ref c.s) a3) := upd_same
    generalize upd H4 a3 (ExO (.ref c.s) a3) = H5 at *
    refine ⟨a3, c.s, _, rfl, T.as, .inl ea3, ?_⟩
    intro a4 na4
    have sa4 : Same H5 (upd H5 a4 (ExO (.ref c.d) a4)) := Same.new na4
    have ea4 : upd H5 a4 (ExO (.ref c.d) a4) a4 = some (ExO (.ref c.d) a4) := upd_same
    generalize upd H5 a4 (ExO (.ref c.d) a4) = H6 at *
    refine ⟨a4, c.d, _, rfl, T.ad, .inl ea4, ?_⟩
    intro a5 na5
    have sa5 : Same H6 (upd H6 a5 (ExO (.ref c.q) a5)) := Same.new na5
    have ea5 : upd H6 a5 (ExO (.ref c.q) a5) a5 = some (ExO (.ref c.q) a5) := upd_same
    generalize upd H6 a5 (ExO (.ref c.q) a5) = H7 at *
    refine ⟨a5, c.q, _, rfl, T.aq, .inl ea5, ?_⟩
    refine ⟨by show 3 ≤ sizeLine; decide, ?_⟩
    intro p1 np1
    have sp1 : Same H7 (upd H7 p1 (.lst [.str (allT (on [3, 15, 16])), .str (allT (on [4, 15, 16])), .str (allT (on [5, 15, 16]))])) := Same.new np1
    have ep1 : upd H7 p1 (.lst [.str (allT (on [3, 15, 16])), .str (allT (on [4, 15, 16])), .str (allT (on [5, 15, 16]))]) p1 = some (.lst [.str (allT (on [3, 15, 16])), .str (allT (on [4, 15, 16])), .str (allT (on [5, 15, 16]))]) := upd_same
    generalize upd H7 p1 (.lst [.str (allT (on [3, 15, 16])), .str (allT (on [4, 15, 16])), .str (allT (on [5, 15, 16]))]) = H8 at *
    refine ⟨_, _, _, _, rfl, rfl, (sp1 _ _ (sa5 _ _ (sa4 _ _ (sa3 _ _ ep0)))), ep1, by show 6 ≤ sizeLine; decide, ?_⟩
    intro q1 nq1
    have sq1 : Same H8 (upd H8 q1 (.lst ([.str (allT (on [0, 15, 16])), .str (allT (on [1, 15, 16])), .str (allT (on [2, 15, 16]))] ++ [.str (allT (on [3, 15, 16])), .str (allT (on [4, 15, 16])), .str (allT (on [5, 15, 16]))]))) := Same.new nq1
    have eq1 : upd H8 q1 (.lst ([.str (allT (on [0, 15, 16])), .str (allT (on [1, 15, 16])), .str (allT (on [2, 15, 16]))] ++ [.str (allT (on [3, 15, 16])), .str (allT (on [4, 15, 16])), .str (allT (on [5, 15, 16]))])) q1 = some (.lst [.str (allT (on [0, 15, 16])), .str (allT (on [1, 15, 16])), .str (allT (on [2, 15, 16])), .str (allT (on [3, 15, 16])), .str (allT (on [4, 15, 16])), .str (allT (on [5, 15, 16]))]) := upd_same
    generalize upd H8 q1 (.lst ([.str (allT (on [0, 15, 16])), .str (allT (on [1, 15, 16])), .str (allT (on [2, 15, 16]))] ++ [.str (allT (on [3, 15, 16])), .str (allT (on [4, 15, 16])), .str (allT (on [5, 15, 16]))])) = H9 at *
    refine ⟨_, rfl, ?_⟩
    intro a6 na6
    have sa6 : Same H9 (upd H9 a6 (ExO (.ref c.o) a6)) := Same.new na6
    have ea6 : upd H9 a6 (ExO (.ref c.o) a6) a6 = some (ExO (.ref c.o) a6) := upd_same
    generalize upd H9 a6 (ExO (.ref c.o) a6) = H10 at *
    refine ⟨a6, c.o, _, rfl, T.ao, .inl ea6, ?_⟩
    intro a7 na7
    have sa7 : Same H10 (upd H10 a7 (ExO (.ref c.L) a7)) := Same.new na7
    have ea7 : upd H10 a7 (ExO (.ref c.L) a7) a7 = some (ExO (.ref c.L) a7) := upd_same
    generalize upd H10 a7 (ExO (.ref c.L) a7) = H11 at *
    refine ⟨a7, c.L, _, rfl, T.aL, .inl ea7, ?_⟩
    refine ⟨by show 2 ≤ sizeLine; decide, ?_⟩
    intro p2 np2
    have sp2 : Same H11 (upd H11 p2 (.lst [.str (allT (on [6, 15, 16])), .str (allT (on [15, 16]))])) := Same.new np2
    have ep2 : upd H11 p2 (.lst [.str (allT (on [6, 15, 16])), .str (allT (on [15, 16]))]) p2 = some (.lst [.str (allT (on [6, 15, 16])), .str (allT (on [15, 16]))]) := upd_same
    generalize upd H11 p2 (.lst [.str (allT (on [6, 15, 16])), .str (allT (on [15, 16]))]) = H12 at *
    refine ⟨_, _, _, _, rfl, rfl, (sp2 _ _ (sa7 _ _ (sa6 _ _ eq1))), ep2, by show 8 ≤ sizeLine; decide, ?_⟩
    intro q2 nq2
    have sq2 : Same H12 (upd H12 q2 (.lst ([.str (allT (on [0, 15, 16])), .str (allT (on [1, 15, 16])), .str (allT (on [2, 15, 16])), .str (allT (on [3, 15, 16])), .str (allT (on [4, 15, 16])), .str (allT (on [5, 15, 16]))] ++ [.str (allT (on [6, 15, 16])), .str (allT (on [15, 16]))]))) := Same.new nq2
    have eq2 : upd H12 q2 (.lst ([.str (allT (on [0, 15, 16])), .str (allT (on [1, 15, 16])), .str (allT (on [2, 15, 16])), .str (allT (on [3, 15, 16])), .str (allT (on [4, 15, 16])), .str (allT (on [5, 15, 16]))] ++ [.str (allT (on [6, 15, 16])), .str (allT (on [15, 16]))])) q2 = some (.lst [.str (allT (on [0, 15, 16])), .str (allT (on [1, 15, 16])), .str (allT (on [2, 15, 16])), .str (allT (on [3, 15, 16])), .str (allT (on [4, 15, 16])), .str (allT (on [5, 15, 16])), .str (allT (on [6, 15, 16])), .str (allT (on [15, 16]))]) := upd_same
    generalize upd H12 q2 (.lst ([.str (allT (on [0, 15, 16])), .str (allT (on [1, 15, 16])), .str (allT (on [2, 15, 16])), .str (allT (on [3, 15, 16])), .str (allT (on [4, 15, 16])), .str (allT (on [5, 15, 16]))] ++ [.str (allT (on [6, 15, 16])), .str (allT (on [15, 16]))])) = H13 at *
    rw [t0, t1, t2, t3, t4, t5, t6, t7] at eq2
    exact k _ _ (Same.trans (Same.trans (Same.trans (Same.trans (Same.trans (Same.trans (Same.trans (Same.trans (Same.trans (Same.trans (Same.trans (Same.trans sa0 sa1) sa2) sp0) sa3) sa4) sa5) sp1) sq1) sa6) sa7) sp2) sq2) eq2
end
end K01
namespace K01
open PySem PySem.Spec PyProof.Rows L2 GL PySem.GLE
theorem _root_.PySem.GLE.ErrTxt.xf {K : PySem.W.Frag} {mg : Str → Option Value} {x f : Str} {C fI : Addr} (T : ErrTxt K mg x f C fI) : XfC K C := ⟨T.ga, T.gg, T.exC, T.hdC⟩
theorem xd_at {H : Hp} {e d : Addr} {o u : HO} (n : d ≠ e) : upd (upd H d o) e u d = some o := by rw [upd_ne n]; exact upd_same
section
variable {P : Program} {w : World} {K : PySem.W.Frag} {mg : Str → Option Value} {base : Heap} {c : Cs}
theorem h__law_due_messages (D : Df K mg "_law_due_messages" s__law_due_messages) : Has P w K mg base CX0 "_law_due_messages" 1 [] spMsgs := by
  refine D.has sc__law_due_messages (fun vs H Q E h => ?_) (fun kV doc pm an cdv ct us hl => match us, hl with | [], _ => rfl) (fun f cdv A outer s H vs Q E gd hr h => ?_)
  · obtain ⟨rfl, _⟩ := h
    rfl
  · obtain ⟨rfl, k⟩ := h
    refine ⟨_, (pss_one
 (ps_ret (pe_op op_cat (pe_lc (own := [("_law_letter", 0)]) (g := gName 0) (tt := tYes) (by rfl) sc__law_due_messages.nd (pi_tup (pe_tup (pa_cons pe_str (pa_cons pe_str (pa_cons pe_str (pa_cons pe_str (pa_cons pe_str (pa_cons pe_str (pa_cons pe_str pa_nil))))))))) (blkOk_by (own := [("_law_letter", 0)]) (N := N__law_due_messages) (sc := defScope s__law_due_messages) (by decide +kernel)) (fun _ _ _ _ _ => pg_name (i := 0) sc__law_due_messages.nd rfl (Or.inl rfl)) (fun _ _ _ _ _ => pts_nil) (fun _ _ _ _ _ => (pe_op op_add_str (pv 0) pe_str))) (pe_lst (pa_cons pe_str pa_nil))))), ?_⟩
    refine ⟨by show 7 ≤ sizeLine; decide, ?_⟩
    intro q nq
    have sq : Same H (upd H q (.tup [V.str "g", V.str "p", V.str "r", V.str "s", V.str "d", V.str "q", V.str "o"])) := Same.new nq
    have eq : upd H q (.tup [V.str "g", V.str "p", V.str "r", V.str "s", V.str "d", V.str "q", V.str "o"]) q = some (.tup [V.str "g", V.str "p", V.str "r", V.str "s", V.str "d", V.str "q", V.str "o"]) := upd_same
    generalize upd H q (.tup [V.str "g", V.str "p", V.str "r", V.str "s", V.str "d", V.str "q", V.str "o"]) = H1 at *
    refine ⟨q, rfl, ⟨_, SqT.of eq⟩, fun D hD => lc_tup (a := q) (xs := [V.str "g", V.str "p", V.str "r", V.str "s", V.str "d", V.str "q", V.str "o"]) (fun i H' => Same H1 H' ∧ H' D = some (.lst ([V.str "g line value ", V.str "p line value ", V.str "r line value ", V.str "s line value ", V.str "d line value ", V.str "q line value ", V.str "o line value "].take i))) ⟨Same.new hD, upd_same⟩ (fun i H' _ h => SqT.of (h.1 _ _ eq)) ?_ ?_⟩
    · rintro i x H' hx ⟨s1, hacc⟩
      refine ⟨rfl, ?_⟩
      simp only [tYes, if_true]
      obtain ⟨t, rfl, lt, ht⟩ : ∃ t : Str, x = V.str t ∧ t.length ≤ 1 ∧ [V.str "g line value ", V.str "p line value ", V.str "r line value ", V.str "s line value ", V.str "d line value ", V.str "q line value ", V.str "o line value "].take (i + 1) = [V.str "g line value ", V.str "p line value ", V.str "r line value ", V.str "s line value ", V.str "d line value ", V.str "q line value ", V.str "o line value "].take i ++ [V.str (t ++ " line value ")] := by
        match i, hx with
        | 0, h => exact ⟨_, (Option.some.inj h).symm, by decide, by rw [show (("g" : Str) ++ " line value ") = "g line value " by decide +kernel]; rfl⟩
        | 1, h => exact ⟨_, (Option.some.inj h).symm, by decide, by rw [show (("p" : Str) ++ " line value ") = "p line value " by decide +kernel]; rfl⟩
        | 2, h => exact ⟨_, (Option.some.inj h).symm, by decide, by rw [show (("r" : Str) ++ " line value ") = "r line value " by decide +kernel]; rfl⟩
        | 3, h => exact ⟨_, (Option.some.inj h).symm, by decide, by rw [show (("s" : Str) ++ " line value ") = "s line value " by decide +kernel]; rfl⟩
        | 4, h => exact ⟨_, (Option.some.inj h).symm, by decide, by rw [show (("d" : Str) ++ " line value ") = "d line value " by decide +kernel]; rfl⟩
        | 5, h => exact ⟨_, (Option.some.inj h).symm, by decide, by rw [show (("q" : Str) ++ " line value ") = "q line value " by decide +kernel]; rfl⟩
        | 6, h => exact ⟨_, (Option.some.inj h).symm, by decide, by rw [show (("o" : Str) ++ " line value ") = "o line value " by decide +kernel]; rfl⟩
      refine ⟨_, rfl, _, _, rfl, rfl, by have : (" line value " : Str).length = 12 := by decide
                                         rw [sizeLine_eq]; omega, _, hacc, Nat.lt_of_le_of_lt (List.length_take_le' _ _) (by show 7 < sizeLine; decide), Same.over s1 hD _, ?_⟩
      rw [upd_same, ht]
    · rintro H2 ⟨s2, hacc⟩
      refine ⟨by show 1 ≤ sizeLine; decide, ?_⟩
      have hacc : H2 D = some (.lst [V.str "g line value ", V.str "p line value ", V.str "r line value ", V.str "s line value ", V.str "d line value ", V.str "q line value ", V.str "o line value "]) := hacc
      intro r nr
      have sr : Same H2 (upd H2 r (.lst [.str " line value "])) := Same.new nr
      have er : upd H2 r (.lst [.str " line value "]) r = some (.lst [.str " line value "]) := upd_same
      generalize upd H2 r (.lst [.str " line value "]) = H3 at *
      refine ⟨_, _, _, _, rfl, rfl, sr _ _ hacc, er, by show 8 ≤ sizeLine; decide, fun p np => ?_⟩
      exact k p _ (Same.trans (Same.trans (Same.trans sq s2) sr) (Same.new np)) upd_same
theorem h__law_kept (T : Txt K mg c) (D : Df K mg "_law_kept" s__law_kept) (h_law_all : Has P w K mg base CX0 "_law_all" 2 ["_law_error"] (spOwn K c allT)) : Has P w K mg base CX0 "_law_kept" 3 ["_law_value", "_law_index"] (spKept K) := by
  refine D.has sc__law_kept (fun vs H Q E h => ?_) (fun kV doc pm an cdv ct us hl => match us, hl with | [_, _], _ => rfl) (fun f cdv A outer s H vs Q E gd hr h => ?_)
  · obtain ⟨v, i, dv, di, rfl, _⟩ := h
    rfl
  · obtain ⟨v, i, dv, di, rfl, hv, hi, k⟩ := h
    refine ⟨_, (pss_cons
 (ps_par3 (i := 2) (j := 3) (l := 4) (by rfl) sc__law_kept.nd rfl rfl rfl (by decide) (by decide) (by decide) rfl rfl rfl (pa_cons (pe_err T.eParseError hr (pa_cons (pv 1) pa_nil)) (pa_cons (pe_err T.eUnknownLetter hr (pa_cons (pv 0) pa_nil)) (pa_cons (pe_err T.eUnknownAddress hr (pa_cons (pv 0) pa_nil)) pa_nil))) (by rfl))
 (pss_cons
 (ps_par3 (i := 5) (j := 6) (l := 7) (by rfl) sc__law_kept.nd rfl rfl rfl (by decide) (by decide) (by decide) rfl rfl rfl (pa_cons (pe_err T.eInvalidNumber hr (pa_cons (pv 0) pa_nil)) (pa_cons (pe_err T.eNothingToUndo hr (pa_cons (pv 0) pa_nil)) (pa_cons (pe_err T.eTooMany hr (pa_cons (pv 0) pa_nil)) pa_nil))) (by rfl))
 (pss_cons
 (ps_par (i := 8) (j := 9) (by rfl) sc__law_kept.nd rfl rfl (by decide) rfl rfl (pa_cons (pe_err T.eRefused hr (pa_cons (pv 0) pa_nil)) (pa_cons (pe_err T.eNoQuotient hr (pa_cons (pv 0) pa_nil)) pa_nil)) (by rfl))
 (pss_cons
 (ps_set (i := 10) sc__law_kept.nd rfl (Or.inl rfl) (pe_lst (pa_cons (pe_tup (pa_cons (pe_callH h_law_all gd (hr.mono (by decide)) pass0 (pa_cons (pv 2) pa_nil)) (pa_cons (pe_errF (pv 2)) pa_nil))) (pa_cons (pe_tup (pa_cons (pe_callH h_law_all gd (hr.mono (by decide)) pass0 (pa_cons (pv 3) pa_nil)) (pa_cons (pe_errF (pv 3)) pa_nil))) (pa_cons (pe_tup (pa_cons (pe_callH h_law_all gd (hr.mono (by decide)) pass0 (pa_cons (pv 4) pa_nil)) (pa_cons (pe_errF (pv 4)) pa_nil))) pa_nil)))))
 (pss_cons
 (ps_set (i := 10) sc__law_kept.nd rfl (Or.inl rfl) (pe_op op_cat (pv 10) (pe_lst (pa_cons (pe_tup (pa_cons (pe_callH h_law_all gd (hr.mono (by decide)) pass0 (pa_cons (pv 5) pa_nil)) (pa_cons (pe_errF (pv 5)) pa_nil))) (pa_cons (pe_tup (pa_cons (pe_callH h_law_all gd (hr.mono (by decide)) pass0 (pa_cons (pv 6) pa_nil)) (pa_cons (pe_errF (pv 6)) pa_nil))) (pa_cons (pe_tup (pa_cons (pe_callH h_law_all gd (hr.mono (by decide)) pass0 (pa_cons (pv 7) pa_nil)) (pa_cons (pe_errF (pv 7)) pa_nil))) pa_nil))))))
 (pss_one
 (ps_ret (pe_op op_cat (pv 10) (pe_lst (pa_cons (pe_tup (pa_cons (pe_callH h_law_all gd (hr.mono (by decide)) pass0 (pa_cons (pv 8) pa_nil)) (pa_cons (pe_errF (pv 8)) pa_nil))) (pa_cons (pe_tup (pa_cons (pe_callH h_law_all gd (hr.mono (by decide)) pass0 (pa_cons (pv 9) pa_nil)) (pa_cons (pe_errF (pv 9)) pa_nil))) pa_nil))))))))))), ?_⟩
    have t0 : allT (on [7, 15, 16]) = "x line value " := by decide +kernel
    have t1 : allT (on [8, 17, 19]) = "U key lookup " := by decide +kernel
    have t2 : allT (on [9, 19]) = "A lookup " := by decide +kernel
    have t3 : allT (on [10, 18, 19]) = "N index lookup " := by decide +kernel
    have t4 : allT (on [11, 20]) = "Z runtime " := by decide +kernel
    have t5 : allT (on [12, 21, 23]) = "M overflow arithmetic " := by decide +kernel
    have t6 : allT (on [13, 23]) = "R arithmetic " := by decide +kernel
    have t7 : allT (on [14, 22, 23]) = "Q zero arithmetic " := by decide +kernel
    refine ⟨_, rfl, _, rfl, ?_⟩
    intro z0 d0 nz0 nd0 mz0
    have sz0 : Same H (upd (upd H d0 (.xd [("number", i)])) z0 (EV c.x (some d0) z0)) := same_err nz0 nd0
    have ez0 : (upd (upd H d0 (.xd [("number", i)])) z0 (EV c.x (some d0) z0)) z0 = some (EV c.x (some d0) z0) := upd_same
    have ed0 : (upd (upd H d0 (.xd [("number", i)])) z0 (EV c.x (some d0) z0)) d0 = some (.xd [("number", i)]) := xd_at mz0
    generalize upd (upd H d0 (.xd [("number", i)])) z0 (EV c.x (some d0) z0) = H1 at *
    refine ⟨_, rfl, _, rfl, ?_⟩
    intro z1 d1 nz1 nd1 mz1
    have sz1 : Same H1 (upd (upd H1 d1 (.xd [("word", v)])) z1 (EV c.U (some d1) z1)) := same_err nz1 nd1
    have ez1 : (upd (upd H1 d1 (.xd [("word", v)])) z1 (EV c.U (some d1) z1)) z1 = some (EV c.U (some d1) z1) := upd_same
    have ed1 : (upd (upd H1 d1 (.xd [("word", v)])) z1 (EV c.U (some d1) z1)) d1 = some (.xd [("word", v)]) := xd_at mz1
    generalize upd (upd H1 d1 (.xd [("word", v)])) z1 (EV c.U (some d1) z1) = H2 at *
    refine ⟨_, rfl, _, rfl, ?_⟩
    intro z2 d2 nz2 nd2 mz2
    have sz2 : Same H2 (upd (upd H2 d2 (.xd [("lost", v)])) z2 (EV c.A (some d2) z2)) := same_err nz2 nd2
    have ez2 : (upd (upd H2 d2 (.xd [("lost", v)])) z2 (EV c.A (some d2) z2)) z2 = some (EV c.A (some d2) z2) := upd_same
    have ed2 : (upd (upd H2 d2 (.xd [("lost", v)])) z2 (EV c.A (some d2) z2)) d2 = some (.xd [("lost", v)]) := xd_at mz2
    generalize upd (upd H2 d2 (.xd [("lost", v)])) z2 (EV c.A (some d2) z2) = H3 at *
    refine ⟨_, _, _, rfl, ?_⟩
    refine ⟨_, rfl, _, rfl, ?_⟩
    intro z3 d3 nz3 nd3 mz3
    have sz3 : Same H3 (upd (upd H3 d3 (.xd [("value", v)])) z3 (EV c.N (some d3) z3)) := same_err nz3 nd3
    have ez3 : (upd (upd H3 d3 (.xd [("value", v)])) z3 (EV c.N (some d3) z3)) z3 = some (EV c.N (some d3) z3) := upd_same
    have ed3 : (upd (upd H3 d3 (.xd [("value", v)])) z3 (EV c.N (some d3) z3)) d3 = some (.xd [("value", v)]) := xd_at mz3
    generalize upd (upd H3 d3 (.xd [("value", v)])) z3 (EV c.N (some d3) z3) = H4 at *
    refine ⟨_, rfl, _, rfl, ?_⟩
    intro z4 d4 nz4 nd4 mz4
    have sz4 : Same H4 (upd (upd H4 d4 (.xd [("many", v)])) z4 (EV c.Z (some d4) z4)) := same_err nz4 nd4
    have ez4 : (upd (upd H4 d4 (.xd [("many", v)])) z4 (EV c.Z (some d4) z4)) z4 = some (EV c.Z (some d4) z4) := upd_same
    have ed4 : (upd (upd H4 d4 (.xd [("many", v)])) z4 (EV c.Z (some d4) z4)) d4 = some (.xd [("many", v)]) := xd_at mz4
    generalize upd (upd H4 d4 (.xd [("many", v)])) z4 (EV c.Z (some d4) z4) = H5 at *
    refine ⟨_, rfl, _, rfl, ?_⟩
    intro z5 d5 nz5 nd5 mz5
    have sz5 : Same H5 (upd (upd H5 d5 (.xd [("limit", v)])) z5 (EV c.M (some d5) z5)) := same_err nz5 nd5
    have ez5 : (upd (upd H5 d5 (.xd [("limit", v)])) z5 (EV c.M (some d5) z5)) z5 = some (EV c.M (some d5) z5) := upd_same
    have ed5 : (upd (upd H5 d5 (.xd [("limit", v)])) z5 (EV c.M (some d5) z5)) d5 = some (.xd [("limit", v)]) := xd_at mz5
    generalize upd (upd H5 d5 (.xd [("limit", v)])) z5 (EV c.M (some d5) z5) = H6 at *
    refine ⟨_, _, _, rfl, ?_⟩
    refine ⟨_, rfl, _, rfl, ?_⟩
    intro z6 d6 nz6 nd6 mz6
    have sz6 : Same H6 (upd (upd H6 d6 (.xd [("pledge", v)])) z6 (EV c.R (some d6) z6)) := same_err nz6 nd6
    have ez6 : (upd (upd H6 d6 (.xd [("pledge", v)])) z6 (EV c.R (some d6) z6)) z6 = some (EV c.R (some d6) z6) := upd_same
    have ed6 : (upd (upd H6 d6 (.xd [("pledge", v)])) z6 (EV c.R (some d6) z6)) d6 = some (.xd [("pledge", v)]) := xd_at mz6
    generalize upd (upd H6 d6 (.xd [("pledge", v)])) z6 (EV c.R (some d6) z6) = H7 at *
    refine ⟨_, rfl, _, rfl, ?_⟩
    intro z7 d7 nz7 nd7 mz7
    have sz7 : Same H7 (upd (upd H7 d7 (.xd [("divisor", v)])) z7 (EV c.Q (some d7) z7)) := same_err nz7 nd7
    have ez7 : (upd (upd H7 d7 (.xd [("divisor", v)])) z7 (EV c.Q (some d7) z7)) z7 = some (EV c.Q (some d7) z7) := upd_same
    have ed7 : (upd (upd H7 d7 (.xd [("divisor", v)])) z7 (EV c.Q (some d7) z7)) d7 = some (.xd [("divisor", v)]) := xd_at mz7
    generalize upd (upd H7 d7 (.xd [("divisor", v)])) z7 (EV c.Q (some d7) z7) = H8 at *
    refine ⟨_, _, rfl, ?_⟩
    refine ⟨_, rfl, z0, c.x, _, rfl, T.ax, .inr ⟨d0, _, ((Same.trans (Same.trans (Same.trans (Same.trans (Same.trans (Same.trans sz1 sz2) sz3) sz4) sz5) sz6) sz7) _ _ ez0), ((Same.trans (Same.trans (Same.trans (Same.trans (Same.trans (Same.trans sz1 sz2) sz3) sz4) sz5) sz6) sz7) _ _ ed0)⟩, _, rfl, z0, c.x, d0, _, i, rfl, T.eParseError.xf, T.eParseError.noN, ((Same.trans (Same.trans (Same.trans (Same.trans (Same.trans (Same.trans sz1 sz2) sz3) sz4) sz5) sz6) sz7) _ _ ez0), ((Same.trans (Same.trans (Same.trans (Same.trans (Same.trans (Same.trans sz1 sz2) sz3) sz4) sz5) sz6) sz7) _ _ ed0), by simp [List.lookup], by show 2 ≤ sizeLine; decide, ?_⟩
    intro u0 nu0
    have su0 : Same H8 (upd H8 u0 (.tup [.str (allT (on [7, 15, 16])), i])) := Same.new nu0
    have eu0 : upd H8 u0 (.tup [.str (allT (on [7, 15, 16])), i]) u0 = some (.tup [.str (allT (on [7, 15, 16])), i]) := upd_same
    generalize upd H8 u0 (.tup [.str (allT (on [7, 15, 16])), i]) = H9 at *
    rw [t0] at eu0
    refine ⟨_, rfl, z1, c.U, _, rfl, T.aU, .inr ⟨d1, _, ((Same.trans (Same.trans (Same.trans (Same.trans (Same.trans (Same.trans sz2 sz3) sz4) sz5) sz6) sz7) su0) _ _ ez1), ((Same.trans (Same.trans (Same.trans (Same.trans (Same.trans (Same.trans sz2 sz3) sz4) sz5) sz6) sz7) su0) _ _ ed1)⟩, _, rfl, z1, c.U, d1, _, v, rfl, T.eUnknownLetter.xf, T.eUnknownLetter.noN, ((Same.trans (Same.trans (Same.trans (Same.trans (Same.trans (Same.trans sz2 sz3) sz4) sz5) sz6) sz7) su0) _ _ ez1), ((Same.trans (Same.trans (Same.trans (Same.trans (Same.trans (Same.trans sz2 sz3) sz4) sz5) sz6) sz7) su0) _ _ ed1), by simp [List.lookup], by show 2 ≤ sizeLine; decide, ?_⟩
    intro u1 nu1
    have su1 : Same H9 (upd H9 u1 (.tup [.str (allT (on [8, 17, 19])), v])) := Same.new nu1
    have eu1 : upd H9 u1 (.tup [.str (allT (on [8, 17, 19])), v]) u1 = some (.tup [.str (allT (on [8, 17, 19])), v]) := upd_same
    generalize upd H9 u1 (.tup [.str (allT (on [8, 17, 19])), v]) = H10 at *
    rw [t1] at eu1
    refine ⟨_, rfl, z2, c.A, _, rfl, T.aA, .inr ⟨d2, _, ((Same.trans (Same.trans (Same.trans (Same.trans (Same.trans (Same.trans sz3 sz4) sz5) sz6) sz7) su0) su1) _ _ ez2), ((Same.trans (Same.trans (Same.trans (Same.trans (Same.trans (Same.trans sz3 sz4) sz5) sz6) sz7) su0) su1) _ _ ed2)⟩, _, rfl, z2, c.A, d2, _, v, rfl, T.eUnknownAddress.xf, T.eUnknownAddress.noN, ((Same.trans (Same.trans (Same.trans (Same.trans (Same.trans (Same.trans sz3 sz4) sz5) sz6) sz7) su0) su1) _ _ ez2), ((Same.trans (Same.trans (Same.trans (Same.trans (Same.trans (Same.trans sz3 sz4) sz5) sz6) sz7) su0) su1) _ _ ed2), by simp [List.lookup], by show 2 ≤ sizeLine; decide, ?_⟩
    intro u2 nu2
    have su2 : Same H10 (upd H10 u2 (.tup [.str (allT (on [9, 19])), v])) := Same.new nu2
    have eu2 : upd H10 u2 (.tup [.str (allT (on [9, 19])), v]) u2 = some (.tup [.str (allT (on [9, 19])), v]) := upd_same
    generalize upd H10 u2 (.tup [.str (allT (on [9, 19])), v]) = H11 at *
    rw [t2] at eu2
    refine ⟨by show 3 ≤ sizeLine; decide, ?_⟩
    intro p0 np0
    have sp0 : Same H11 (upd H11 p0 (.lst [.ref u0, .ref u1, .ref u2])) := Same.new np0
    have ep0 : upd H11 p0 (.lst [.ref u0, .ref u1, .ref u2]) p0 = some (.lst [.ref u0, .ref u1, .ref u2]) := upd_same
    generalize upd H11 p0 (.lst [.ref u0, .ref u1, .ref u2]) = H12 at *
    refine ⟨_, rfl, ?_⟩
    refine ⟨_, rfl, z3, c.N, _, rfl, T.aN, .inr ⟨d3, _, ((Same.trans (Same.trans (Same.trans (Same.trans (Same.trans (Same.trans (Same.trans sz4 sz5) sz6) sz7) su0) su1) su2) sp0) _ _ ez3), ((Same.trans (Same.trans (Same.trans (Same.trans (Same.trans (Same.trans (Same.trans sz4 sz5) sz6) sz7) su0) su1) su2) sp0) _ _ ed3)⟩, _, rfl, z3, c.N, d3, _, v, rfl, T.eInvalidNumber.xf, T.eInvalidNumber.noN, ((Same.trans (Same.trans (Same.trans (Same.trans (Same.trans (Same.trans (Same.trans sz4 sz5) sz6) sz7) su0) su1) su2) sp0) _ _ ez3), ((Same.trans (Same.trans (Same.trans (Same.trans (Same.trans (Same.trans (Same.trans sz4 sz5) sz6) sz7) su0) su1) su2) sp0) _ _ ed3), by simp [List.lookup], by show 2 ≤ sizeLine; decide, ?_⟩
    intro u3 nu3
    have su3 : Same H12 (upd H12 u3 (.tup [.str (allT (on [10, 18, 19])), v])) := Same.new nu3
    have eu3 : upd H12 u3 (.tup [.str (allT (on [10, 18, 19])), v]) u3 = some (.tup [.str (allT (on [10, 18, 19])), v]) := upd_same
    generalize upd H12 u3 (.tup [.str (allT (on [10, 18, 19])), v]) = H13 at *
    rw [t3] at eu3
    refine ⟨_, rfl, z4, c.Z, _, rfl, T.aZ, .inr ⟨d4, _, ((Same.trans (Same.trans (Same.trans (Same.trans (Same.trans (Same.trans (Same.trans sz5 sz6) sz7) su0) su1) su2) sp0) su3) _ _ ez4), ((Same.trans (Same.trans (Same.trans (Same.trans (Same.trans (Same.trans (Same.trans sz5 sz6) sz7) su0) su1) su2) sp0) su3) _ _ ed4)⟩, _, rfl, z4, c.Z, d4, _, v, rfl, T.eNothingToUndo.xf, T.eNothingToUndo.noN, ((Same.trans (Same.trans (Same.trans (Same.trans (Same.trans (Same.trans (Same.trans sz5 sz6) sz7) su0) su1) su2) sp0) su3) _ _ ez4), ((Same.trans (Same.trans (Same.trans (Same.trans (Same.trans (Same.trans (Same.trans sz5 sz6) sz7) su0) su1) su2) sp0) su3) _ _ ed4), by simp [List.lookup], by show 2 ≤ sizeLine; decide, ?_⟩
    intro u4 nu4
    have su4 : Same H13 (upd H13 u4 (.tup [.str (allT (on [11, 20])), v])) := Same.new nu4
    have eu4 : upd H13 u4 (.tup [.str (allT (on [11, 20])), v]) u4 = some (.tup [.str (allT (on [11, 20])), v]) := upd_same
    generalize upd H13 u4 (.tup [.str (allT (on [11, 20])), v]) = H14 at *
    rw [t4] at eu4
    refine ⟨_, rfl, z5, c.M, _, rfl, T.aM, .inr ⟨d5, _, ((Same.trans (Same.trans (Same.trans (Same.trans (Same.trans (Same.trans (Same.trans sz6 sz7) su0) su1) su2) sp0) su3) su4) _ _ ez5), ((Same.trans (Same.trans (Same.trans (Same.trans (Same.trans (Same.trans (Same.trans sz6 sz7) su0) su1) su2) sp0) su3) su4) _ _ ed5)⟩, _, rfl, z5, c.M, d5, _, v, rfl, T.eTooMany.xf, T.eTooMany.noN, ((Same.trans (Same.trans (Same.trans (Same.trans (Same.trans (Same.trans (Same.trans sz6 sz7) su0) su1) su2) sp0) su3) su4) _ _ ez5), ((Same.trans (Same.trans (Same.trans (Same.trans (Same.trans (Same.trans (Same.trans sz6 sz7) su0) su1) su2) sp0) su3) su4) _ _ ed5), by simp [List.lookup], by show 2 ≤ sizeLine; decide, ?_⟩
    intro u5 nu5
    have su5 : Same H14 (upd H14 u5 (.tup [.str (allT (on [12, 21, 23])), v])) := Same.new nu5
    have eu5 : upd H14 u5 (.tup [.str (allT (on [12, 21, 23])), v]) u5 = some (.tup [.str (allT (on [12, 21, 23])), v]) := upd_same
    generalize upd H14 u5 (.tup [.str (allT (on [12, 21, 23])), v]) = H15 at *
    rw [t5] at eu5
    refine ⟨by show 3 ≤ sizeLine; decide, ?_⟩
    intro p1 np1
    have sp1 : Same H15 (upd H15 p1 (.lst [.ref u3, .ref u4, .ref u5])) := Same.new np1
    have ep1 : upd H15 p1 (.lst [.ref u3, .ref u4, .ref u5]) p1 = some (.lst [.ref u3, .ref u4, .ref u5]) := upd_same
    generalize upd H15 p1 (.lst [.ref u3, .ref u4, .ref u5]) = H16 at *
    refine ⟨_, _, _, _, rfl, rfl, ((Same.trans (Same.trans (Same.trans su3 su4) su5) sp1) _ _ ep0), ep1, by show 6 ≤ sizeLine; decide, ?_⟩
    intro q1 nq1
    have sq1 : Same H16 (upd H16 q1 (.lst ([.ref u0, .ref u1, .ref u2] ++ [.ref u3, .ref u4, .ref u5]))) := Same.new nq1
    have eq1 : upd H16 q1 (.lst ([.ref u0, .ref u1, .ref u2] ++ [.ref u3, .ref u4, .ref u5])) q1 = some (.lst [.ref u0, .ref u1, .ref u2, .ref u3, .ref u4, .ref u5]) := upd_same
    generalize upd H16 q1 (.lst ([.ref u0, .ref u1, .ref u2] ++ [.ref u3, .ref u4, .ref u5])) = H17 at *
    refine ⟨_, rfl, ?_⟩
    refine ⟨_, rfl, z6, c.R, _, rfl, T.aR, .inr ⟨d6, _, ((Same.trans (Same.trans (Same.trans (Same.trans (Same.trans (Same.trans (Same.trans (Same.trans (Same.trans sz7 su0) su1) su2) sp0) su3) su4) su5) sp1) sq1) _ _ ez6), ((Same.trans (Same.trans (Same.trans (Same.trans (Same.trans (Same.trans (Same.trans (Same.trans (Same.trans sz7 su0) su1) su2) sp0) su3) su4) su5) sp1) sq1) _ _ ed6)⟩, _, rfl, z6, c.R, d6, _, v, rfl, T.eRefused.xf, T.eRefused.noN, ((Same.trans (Same.trans (Same.trans (Same.trans (Same.trans (Same.trans (Same.trans (Same.trans (Same.trans sz7 su0) su1) su2) sp0) su3) su4) su5) sp1) sq1) _ _ ez6), ((Same.trans (Same.trans (Same.trans (Same.trans (Same.trans (Same.trans (Same.trans (Same.trans (Same.trans sz7 su0) su1) su2) sp0) su3) su4) su5) sp1) sq1) _ _ ed6), by simp [List.lookup], by show 2 ≤ sizeLine; decide, ?_⟩
    intro u6 nu6
    have su6 : Same H17 (upd H17 u6 (.tup [.str (allT (on [13, 23])), v])) := Same.new nu6
    have eu6 : upd H17 u6 (.tup [.str (allT (on [13, 23])), v]) u6 = some (.tup [.str (allT (on [13, 23])), v]) := upd_same
    generalize upd H17 u6 (.tup [.str (allT (on [13, 23])), v]) = H18 at *
    rw [t6] at eu6
    refine ⟨_, rfl, z7, c.Q, _, rfl, T.aQ, .inr ⟨d7, _, ((Same.trans (Same.trans (Same.trans (Same.trans (Same.trans (Same.trans (Same.trans (Same.trans (Same.trans su0 su1) su2) sp0) su3) su4) su5) sp1) sq1) su6) _ _ ez7), ((Same.trans (Same.trans (Same.trans (Same.trans (Same.trans (Same.trans (Same.trans (Same.trans (Same.trans su0 su1) su2) sp0) su3) su4) su5) sp1) sq1) su6) _ _ ed7)⟩, _, rfl, z7, c.Q, d7, _, v, rfl, T.eNoQuotient.xf, T.eNoQuotient.noN, ((Same.trans (Same.trans (Same.trans (Same.trans (Same.trans (Same.trans (Same.trans (Same.trans (Same.trans su0 su1) su2) sp0) su3) su4) su5) sp1) sq1) su6) _ _ ez7), ((Same.trans (Same.trans (Same.trans (Same.trans (Same.trans (Same.trans (Same.trans (Same.trans (Same.trans su0 su1) su2) sp0) su3) su4) su5) sp1) sq1) su6) _ _ ed7), by simp [List.lookup], by show 2 ≤ sizeLine; decide, ?_⟩
    intro u7 nu7
    have su7 : Same H18 (upd H18 u7 (.tup [.str (allT (on [14, 22, 23])), v])) := Same.new nu7
    have eu7 : upd H18 u7 (.tup [.str (allT (on [14, 22, 23])), v]) u7 = some (.tup [.str (allT (on [14, 22, 23])), v]) := upd_same
    generalize upd H18 u7 (.tup [.str (allT (on [14, 22, 23])), v]) = H19 at *
    rw [t7] at eu7
    refine ⟨by show 2 ≤ sizeLine; decide, ?_⟩
    intro p2 np2
    have sp2 : Same H19 (upd H19 p2 (.lst [.ref u6, .ref u7])) := Same.new np2
    have ep2 : upd H19 p2 (.lst [.ref u6, .ref u7]) p2 = some (.lst [.ref u6, .ref u7]) := upd_same
    generalize upd H19 p2 (.lst [.ref u6, .ref u7]) = H20 at *
    refine ⟨_, _, _, _, rfl, rfl, ((Same.trans (Same.trans su6 su7) sp2) _ _ eq1), ep2, by show 8 ≤ sizeLine; decide, ?_⟩
    intro q2 nq2
    have sq2 : Same H20 (upd H20 q2 (.lst ([.ref u0, .ref u1, .ref u2, .ref u3, .ref u4, .ref u5] ++ [.ref u6, .ref u7]))) := Same.new nq2
    have eq2 : upd H20 q2 (.lst ([.ref u0, .ref u1, .ref u2, .ref u3, .ref u4, .ref u5] ++ [.ref u6, .ref u7])) q2 = some (.lst [.ref u0, .ref u1, .ref u2, .ref u3, .ref u4, .ref u5, .ref u6, .ref u7]) := upd_same
    generalize upd H20 q2 (.lst ([.ref u0, .ref u1, .ref u2, .ref u3, .ref u4, .ref u5] ++ [.ref u6, .ref u7])) = H21 at *
    have sT := (Same.trans (Same.trans (Same.trans (Same.trans (Same.trans (Same.trans (Same.trans (Same.trans (Same.trans (Same.trans (Same.trans (Same.trans (Same.trans (Same.trans (Same.trans (Same.trans (Same.trans (Same.trans (Same.trans (Same.trans sz0 sz1) sz2) sz3) sz4) sz5) sz6) sz7) su0) su1) su2) sp0) su3) su4) su5) sp1) sq1) su6) su7) sp2) sq2)
    exact k _ _ sT (.lst (SqL.of eq2) (.cons (.tup (SqT.of ((Same.trans (Same.trans (Same.trans (Same.trans (Same.trans (Same.trans (Same.trans (Same.trans (Same.trans (Same.trans (Same.trans su1 su2) sp0) su3) su4) su5) sp1) sq1) su6) su7) sp2) sq2) _ _ eu0)) (.cons (.dp (.str _) rfl) (.cons (dq_same sT hi.dq) .nil))) (.cons (.tup (SqT.of ((Same.trans (Same.trans (Same.trans (Same.trans (Same.trans (Same.trans (Same.trans (Same.trans (Same.trans (Same.trans su2 sp0) su3) su4) su5) sp1) sq1) su6) su7) sp2) sq2) _ _ eu1)) (.cons (.dp (.str _) rfl) (.cons (dq_same sT hv.dq) .nil))) (.cons (.tup (SqT.of ((Same.trans (Same.trans (Same.trans (Same.trans (Same.trans (Same.trans (Same.trans (Same.trans (Same.trans sp0 su3) su4) su5) sp1) sq1) su6) su7) sp2) sq2) _ _ eu2)) (.cons (.dp (.str _) rfl) (.cons (dq_same sT hv.dq) .nil))) (.cons (.tup (SqT.of ((Same.trans (Same.trans (Same.trans (Same.trans (Same.trans (Same.trans (Same.trans su4 su5) sp1) sq1) su6) su7) sp2) sq2) _ _ eu3)) (.cons (.dp (.str _) rfl) (.cons (dq_same sT hv.dq) .nil))) (.cons (.tup (SqT.of ((Same.trans (Same.trans (Same.trans (Same.trans (Same.trans (Same.trans su5 sp1) sq1) su6) su7) sp2) sq2) _ _ eu4)) (.cons (.dp (.str _) rfl) (.cons (dq_same sT hv.dq) .nil))) (.cons (.tup (SqT.of ((Same.trans (Same.trans (Same.trans (Same.trans (Same.trans sp1 sq1) su6) su7) sp2) sq2) _ _ eu5)) (.cons (.dp (.str _) rfl) (.cons (dq_same sT hv.dq) .nil))) (.cons (.tup (SqT.of ((Same.trans (Same.trans su7 sp2) sq2) _ _ eu6)) (.cons (.dp (.str _) rfl) (.cons (dq_same sT hv.dq) .nil))) (.cons (.tup (SqT.of ((Same.trans sp2 sq2) _ _ eu7)) (.cons (.dp (.str _) rfl) (.cons (dq_same sT hv.dq) .nil))) .nil)))))))))
end
end K01
namespace K01
open PySem PySem.Spec PyProof.Rows L2 GL PySem.GLE
def rAdS : R2 := fun x y H Q => ∃ i j, x = .str i ∧ y = .str j ∧ i.length + j.length ≤ sizeLine ∧ Q (.str (i ++ j)) H
/-- _law_own(e), e the error that the suite holds -/
def tOwnE (K : PySem.W.Frag) (c : Cs) (a : Addr) (cls : Value) (d : Option Addr) (t : TA) : TE := fun σ H Q => t σ H fun vs H1 => ∃ D b, vs = [.ref a] ∧ cls = .ref D ∧ d = none ∧ Ans K c D b ∧ Q (.str (ownT b)) H1
def tsL (K : PySem.W.Frag) (c : Cs) : Addr → Value → Option Addr → TS := fun a cls d => tRet (tOp rAdS (tC (.str "base ")) (tOwnE K c a cls d (tCons (tVar 2) tNil)))
def tsV (K : PySem.W.Frag) (C : Addr) (f pre : Str) : Addr → Value → Option Addr → TS := fun a cls d => tRet (tOp rAdS (tC (.str pre)) (tCB (rReprQ K) (tCons (tXf a cls d C f (tVar 2)) tNil)))
section
variable {P : Program} {w : World} {K : PySem.W.Frag} {mg : Str → Option Value} {base : Heap} {c : Cs}
theorem h__law_caught (T : Txt K mg c) (D : Df K mg "_law_caught" s__law_caught) (hown : HasE P w K mg base "_law_own" 1 ["_law_error"] (spOwnE K c)) (dig : PySem.W.nsIn K cStatics "sys.int_max_str_digits" = some none) : Has P w K mg base CX0 "_law_caught" 3 ["_law_value", "_law_way"] (spCaught K) := by
  refine D.has sc__law_caught (fun vs H Q E h => ?_) (fun kV doc pm an cdv ct us hl => match us, hl with | [_, _], _ => rfl) (fun f cdv A outer s H vs Q E gd hr h => ?_)
  · obtain ⟨v, j, dv, rfl, _⟩ := h
    rfl
  · obtain ⟨v, j, dv, rfl, hj, hv, k⟩ := h
    have hu := hr.units
    refine ⟨_, pss_one (ps_clauses (W0 := fun _ _ _ _ => False) (l := [⟨.ref c.L, some 2, tsL K c⟩, ⟨.ref c.Q, some 2, tsV K c.Q "divisor" "quotient "⟩, ⟨.ref c.A, some 2, tsV K c.A "lost" "lost "⟩]) rfl rfl takes_none5
      (fun W pn xe tk _ => pss_cons (ps_if (pt_cmpR op_eq (pv 1) pe_int (nomark _)) (pss_one (ps_raise rfl tk (pmk_own PySem.F.excBase_ValueError T.mInvalidRule.q T.mInvalidRule.g T.mInvalidRule.k (raises_own T.bR T.tR) rfl))) pss_nil)
        (pss_cons (ps_if (pt_cmpR op_eq (pv 1) pe_int (nomark _)) (pss_one (ps_raise rfl tk (pmk_err T.eNoQuotient (Room.mono (k := 2) (j := 2) hr (by decide)) (pa_cons (pv 0) pa_nil)))) pss_nil)
        (pss_one (ps_raise rfl tk (pmk_err T.eUnknownAddress (Room.mono (k := 2) (j := 2) hr (by decide)) (pa_cons (pv 0) pa_nil))))))
      (.named ⟨rfl, by decide, .inl T.mLineError.g⟩ sc__law_caught.nd rfl rfl (fun a oe cls d pn hz hf => pss_one (ps_ret (pe_op op_add_str pe_str (pe_imp (pe_callE hown ⟨(Room.mono (k := 2) (j := 1) hr (by decide)).dp, (Room.mono (k := 2) (j := 1) hr (by decide)).un⟩ pass0 (pa_cons (pv 2) pa_nil)) (fun σ H Q q => ?own)))))
      (.named ⟨rfl, by decide, .inl T.eNoQuotient.gC⟩ sc__law_caught.nd rfl rfl (fun a oe cls d pn hz hf => pss_one (ps_ret (pe_op op_add_str pe_str (pe_callB (call_reprQ dig gd hu) (by exact rfl) T.zrepr (by decide +kernel) (pa_cons (pe_xf T.eNoQuotient.xf T.eNoQuotient.noN hz hf (pv 2)) pa_nil)))))
      (.named ⟨rfl, by decide, .inl T.eUnknownAddress.gC⟩ sc__law_caught.nd rfl rfl (fun a oe cls d pn hz hf => pss_one (ps_ret (pe_op op_add_str pe_str (pe_callB (call_reprQ dig gd hu) (by exact rfl) T.zrepr (by decide +kernel) (pa_cons (pe_xf T.eUnknownAddress.xf T.eUnknownAddress.noN hz hf (pv 2)) pa_nil)))))
      .nil)))), ?_⟩
    case own =>
      obtain ⟨u, hu2, D, b, e1, e2, e3, an, q⟩ := q
      subst e2 e3
      exact ⟨u, hu2, D, b, e1, an, hz, hf, q⟩
    have ld := hv.len
    have lq : ("quotient " : Str).length = 9 := by decide
    have ll : ("lost " : Str).length = 5 := by decide
    obtain rfl | rfl | rfl : j = 0 ∨ j = 1 ∨ j = 2 := by omega
    · refine ⟨_, rfl, rfl, _, rfl, ?_⟩
      rw [show decide (V.int ((0 : Nat) : Int) = V.int 0) = true by decide]
      refine iteT ⟨true, T.x1, fun _ a na => ⟨_, rfl, c.r, _, rfl, rfl, rfl, T.ar, _, _, rfl, rfl, by decide +kernel, ?_⟩, fun z => nomatch z⟩
      have e : ("base " : Str) ++ ownT (on [2, 15, 16]) = "base r" := by decide +kernel
      rw [e]
      exact k _ (fun _ _ e => e)
    · refine ⟨_, rfl, rfl, _, rfl, ?_⟩
      rw [show decide (V.int ((1 : Nat) : Int) = V.int 0) = false by decide]
      refine iteF ⟨_, rfl, rfl, _, rfl, ?_⟩
      rw [show decide (V.int ((1 : Nat) : Int) = V.int 1) = true by decide]
      refine iteT ⟨_, rfl, _, rfl, fun d nd => ⟨false, T.x2, (fun z => nomatch z), fun _ => ⟨true, T.x3, fun _ a na => ?_, fun z => nomatch z⟩⟩⟩
      have hv2 := hv.same (Same.new (o := .xd [("divisor", v)]) nd)
      exact ⟨_, rfl, rfl, rfl, d, _, v, rfl, upd_same, by simp [List.lookup], v, dv, rfl, hv2.rp, Nat.le_trans hv2.dep (by decide), hv2.lenS, _, _, rfl, rfl, by rw [lq, sizeLine_eq]; omega, k _ (Same.new nd)⟩
    · refine ⟨_, rfl, rfl, _, rfl, ?_⟩
      rw [show decide (V.int ((2 : Nat) : Int) = V.int 0) = false by decide]
      refine iteF ⟨_, rfl, rfl, _, rfl, ?_⟩
      rw [show decide (V.int ((2 : Nat) : Int) = V.int 1) = false by decide]
      refine iteF ⟨_, rfl, _, rfl, fun d nd => ⟨false, T.x4, (fun z => nomatch z), fun _ => ⟨false, T.x5, (fun z => nomatch z), fun _ => ⟨true, T.x6, fun _ a na => ?_, fun z => nomatch z⟩⟩⟩⟩
      have hv2 := hv.same (Same.new (o := .xd [("lost", v)]) nd)
      exact ⟨_, rfl, rfl, rfl, d, _, v, rfl, upd_same, by simp [List.lookup], v, dv, rfl, hv2.rp, Nat.le_trans hv2.dep (by decide), hv2.lenS, _, _, rfl, rfl, by rw [ll, sizeLine_eq]; omega, k _ (Same.new nd)⟩
end
end K01
namespace K01
open PySem PySem.Spec PyProof.Rows L2 GL PySem.GLE
def msgD : PyData := .list (msgT.map .str)
theorem msg_dp {K : PySem.W.Frag} {H : Hp} {p : Addr} (e : H p = some (.lst (msgT.map V.str))) : Dp K H (.ref p) msgD := .lst (SqL.of e) (.cons (.str _) (.cons (.str _) (.cons (.str _) (.cons (.str _) (.cons (.str _) (.cons (.str _) (.cons (.str _) (.cons (.str _) .nil))))))))
theorem kept_ok {K : PySem.W.Frag} {H : Hp} {v i : V} {dv di : PyData} (hv : Val K H v dv) (hi : Val K H i di) : (keptD dv di).depth ≤ 20 ∧ (keptD dv di).shown.length ≤ sizeLine := by
  have a1 := hv.dep; have a2 := hi.dep
  have b1 := hv.bk; have b2 := hi.bk
  constructor
  · simp only [keptD, PyData.depth, PyData.depthAll]
    omega
  · have z := PyData.shown_le_bulk 300 (by decide) (keptD dv di) (by
      simp only [keptD, PyData.leavesShort, PyData.leavesShortAll, hv.ls, hi.ls, Bool.and_true]
      decide +kernel)
    have e : (keptD dv di).bulk ≤ 2000 := by
      have k : ∀ {t : Str} {d : PyData}, t.cps.size ≤ 30 → d.bulk ≤ 100 → PyData.bulk (.tuple [.str t, d]) ≤ 132 := fun {t d} h1 h2 => by
        simp only [PyData.bulk, PyData.bulkAll]
        omega
      simp only [keptD]
      show PyData.bulkAll _ ≤ 2000
      simp only [PyData.bulkAll]
      have k0 := k (t := "x line value ") (d := di) (by decide) b2
      have k1 := k (t := "U key lookup ") (d := dv) (by decide) b1
      have k2 := k (t := "A lookup ") (d := dv) (by decide) b1
      have k3 := k (t := "N index lookup ") (d := dv) (by decide) b1
      have k4 := k (t := "Z runtime ") (d := dv) (by decide) b1
      have k5 := k (t := "M overflow arithmetic ") (d := dv) (by decide) b1
      have k6 := k (t := "R arithmetic ") (d := dv) (by decide) b1
      have k7 := k (t := "Q zero arithmetic ") (d := dv) (by decide) b1
      omega
    refine Nat.le_trans z ?_
    rw [sizeLine_eq]
    omega
theorem strs_eqv : ∀ ts : List Str, PyData.eqvAll (ts.map .str) (ts.map .str) = true
  | [] => rfl
  | t :: r => by
    rw [List.map_cons, PyData.eqvAll, strs_eqv r, Bool.and_true]
    simp [PyData.eqv]
theorem strs_lay : ∀ ts : List Str, ts.all PyData.strOk = true → PyData.canLayAll0 (ts.map .str) = true
  | [], _ => by simp [PyData.canLayAll0]
  | t :: r, h => by
    have h2 : PyData.strOk t = true ∧ r.all PyData.strOk = true := by simpa using h
    rw [List.map_cons, PyData.canLayAll0, strs_lay r h2.2, Bool.and_true]
    simpa [PyData.canLay0] using h2.1
theorem strs_depth : ∀ ts : List Str, PyData.depthAll (ts.map .str) = 0
  | [] => by simp [PyData.depthAll]
  | t :: r => by
    rw [List.map_cons, PyData.depthAll, strs_depth r]
    simp [PyData.depth]
theorem strs_shaped {ts : List Str} (h : ts.all PyData.strOk = true) : SeqAt.shaped (.list (ts.map .str)) = true := by
  show (PyData.canLay0 (.list (ts.map .str)) && decide (PyData.depth (.list (ts.map .str)) ≤ 64)) = true
  rw [Bool.and_eq_true]
  exact ⟨by simp only [PyData.canLay0]; exact strs_lay ts h, decide_eq_true (by simp only [PyData.depth, strs_depth]; decide)⟩
theorem strs_dp {K : PySem.W.Frag} {H : Hp} : ∀ ts : List Str, DpAll K H (ts.map V.str) (ts.map .str)
  | [] => .nil
  | t :: r => .cons (.str t) (strs_dp r)
section
variable {P : Program} {w : World} {K : PySem.W.Frag} {mg : Str → Option Value} {base : Heap} {c : Cs}
theorem h__law_right (T : Txt K mg c) (D : Df K mg "_law_right" s__law_right) (h_law_messages : Has P w K mg base CX0 "_law_messages" 3 [] spMsgs) (h_law_due_messages : Has P w K mg base CX0 "_law_due_messages" 1 [] spMsgs)
    (h_law_kept : Has P w K mg base CX0 "_law_kept" 3 ["_law_value", "_law_index"] (spKept K)) (h_law_caught : Has P w K mg base CX0 "_law_caught" 3 ["_law_value", "_law_way"] (spCaught K)) (dig : PySem.W.nsIn K cStatics "sys.int_max_str_digits" = some none) : Has P w K mg base CX0 "_law_right" 4 ["_law_value", "_law_index"] (spRight K) := by
  refine D.has sc__law_right (fun vs H Q E h => ?_) (fun kV doc pm an cdv ct us hl => match us, hl with | [_, _], _ => rfl) (fun f cdv A outer s H vs Q E gd hr h => ?_)
  · obtain ⟨v, i, dv, di, rfl, _⟩ := h
    rfl
  · obtain ⟨v, i, dv, di, rfl, hv, hi, k⟩ := h
    have hu := hr.units
    refine ⟨_, (pss_cons
 (ps_if (pt_cmpR (op_neD hu) (pe_call0H h_law_messages gd (hr.mono (by decide)) pass0) (pe_call0H h_law_due_messages gd (hr.mono (by decide)) pass0) (nomark _)) (pss_one
 (ps_ret pe_bl)) pss_nil)
 (pss_cons
 (ps_set (i := 2) sc__law_right.nd rfl (Or.inl rfl) (pe_lst (pa_cons (pe_tup (pa_cons pe_str (pa_cons (pv 1) pa_nil))) (pa_cons (pe_tup (pa_cons pe_str (pa_cons (pv 0) pa_nil))) (pa_cons (pe_tup (pa_cons pe_str (pa_cons (pv 0) pa_nil))) (pa_cons (pe_tup (pa_cons pe_str (pa_cons (pv 0) pa_nil))) pa_nil))))))
 (pss_cons
 (ps_set (i := 2) sc__law_right.nd rfl (Or.inl rfl) (pe_op op_cat (pv 2) (pe_lst (pa_cons (pe_tup (pa_cons pe_str (pa_cons (pv 0) pa_nil))) (pa_cons (pe_tup (pa_cons pe_str (pa_cons (pv 0) pa_nil))) (pa_cons (pe_tup (pa_cons pe_str (pa_cons (pv 0) pa_nil))) pa_nil))))))
 (pss_cons
 (ps_set (i := 2) sc__law_right.nd rfl (Or.inl rfl) (pe_op op_cat (pv 2) (pe_lst (pa_cons (pe_tup (pa_cons pe_str (pa_cons (pv 0) pa_nil))) pa_nil))))
 (pss_cons
 (ps_if (pt_cmpR op_ne (pe_callB (call_reprQ dig gd hu) (by exact rfl) T.zrepr (by decide +kernel) (pa_cons (pe_callH h_law_kept gd (hr.mono (by decide)) pass0 (pa_cons (pv 0) (pa_cons (pv 1) pa_nil))) pa_nil)) (pe_callB (call_reprQ dig gd hu) (by exact rfl) T.zrepr (by decide +kernel) (pa_cons (pv 2) pa_nil)) (nomark _)) (pss_one
 (ps_ret pe_bl)) pss_nil)
 (pss_cons
 (ps_setLc (i := 3) (own := [("_law_way", 4)]) (g := gName 4) (tt := tYes) (by rfl) sc__law_right.nd rfl rfl (sw_true rfl rfl rfl (by decide +kernel)) (pi_range1 (by exact rfl) T.zrange (pa_cons pe_int pa_nil)) (blkOk_by (own := [("_law_way", 4)]) (N := N__law_right) (sc := defScope s__law_right) (by decide +kernel)) (fun _ _ _ _ _ => pg_name (i := 4) sc__law_right.nd rfl (Or.inl rfl)) (fun _ _ _ _ _ => pts_nil) (fun _ _ _ _ _ => (pe_callH h_law_caught gd (hr.mono (by decide)) pass0 (pa_cons (pv 0) (pa_cons (pv 4) pa_nil)))))
 (pss_one
 (ps_ret (pe_cmpR (op_eqD hu) (pv 3) (pe_lst (pa_cons pe_str (pa_cons (pe_op op_add_str pe_str (pe_callB (call_reprQ dig gd hu) (by exact rfl) T.zrepr (by decide +kernel) (pa_cons (pv 0) pa_nil))) (pa_cons (pe_op op_add_str pe_str (pe_callB (call_reprQ dig gd hu) (by exact rfl) T.zrepr (by decide +kernel) (pa_cons (pv 0) pa_nil))) pa_nil)))) (nomark _)))))))))), ?_⟩
    refine ⟨rfl, fun a0 H1 s0 e0 => ⟨rfl, fun a1 H2 s1 e1 => ⟨msgD, msgD, msg_dp (s1 _ _ e0), msg_dp e1, strs_shaped (by decide +kernel), strs_shaped (by decide +kernel), _, rfl, ?_⟩⟩⟩
    rw [show PyData.eqv msgD msgD = true by show PyData.eqvAll _ _ = true; exact strs_eqv _]
    refine iteF ?_
    refine ⟨_, rfl, by show 2 ≤ sizeLine; decide, ?_⟩
    intro u0 nu0
    have su0 : Same H2 (upd H2 u0 (.tup [.str "x line value ", i])) := Same.new nu0
    have eu0 : upd H2 u0 (.tup [.str "x line value ", i]) u0 = some (.tup [.str "x line value ", i]) := upd_same
    generalize upd H2 u0 (.tup [.str "x line value ", i]) = H3 at *
    refine ⟨_, rfl, by show 2 ≤ sizeLine; decide, ?_⟩
    intro u1 nu1
    have su1 : Same H3 (upd H3 u1 (.tup [.str "U key lookup ", v])) := Same.new nu1
    have eu1 : upd H3 u1 (.tup [.str "U key lookup ", v]) u1 = some (.tup [.str "U key lookup ", v]) := upd_same
    generalize upd H3 u1 (.tup [.str "U key lookup ", v]) = H4 at *
    refine ⟨_, rfl, by show 2 ≤ sizeLine; decide, ?_⟩
    intro u2 nu2
    have su2 : Same H4 (upd H4 u2 (.tup [.str "A lookup ", v])) := Same.new nu2
    have eu2 : upd H4 u2 (.tup [.str "A lookup ", v]) u2 = some (.tup [.str "A lookup ", v]) := upd_same
    generalize upd H4 u2 (.tup [.str "A lookup ", v]) = H5 at *
    refine ⟨_, rfl, by show 2 ≤ sizeLine; decide, ?_⟩
    intro u3 nu3
    have su3 : Same H5 (upd H5 u3 (.tup [.str "N index lookup ", v])) := Same.new nu3
    have eu3 : upd H5 u3 (.tup [.str "N index lookup ", v]) u3 = some (.tup [.str "N index lookup ", v]) := upd_same
    generalize upd H5 u3 (.tup [.str "N index lookup ", v]) = H6 at *
    refine ⟨by show 4 ≤ sizeLine; decide, ?_⟩
    intro p0 np0
    have sp0 : Same H6 (upd H6 p0 (.lst [.ref u0, .ref u1, .ref u2, .ref u3])) := Same.new np0
    have ep0 : upd H6 p0 (.lst [.ref u0, .ref u1, .ref u2, .ref u3]) p0 = some (.lst [.ref u0, .ref u1, .ref u2, .ref u3]) := upd_same
    generalize upd H6 p0 (.lst [.ref u0, .ref u1, .ref u2, .ref u3]) = H7 at *
    refine ⟨_, rfl, ?_⟩
    refine ⟨_, rfl, by show 2 ≤ sizeLine; decide, ?_⟩
    intro u4 nu4
    have su4 : Same H7 (upd H7 u4 (.tup [.str "Z runtime ", v])) := Same.new nu4
    have eu4 : upd H7 u4 (.tup [.str "Z runtime ", v]) u4 = some (.tup [.str "Z runtime ", v]) := upd_same
    generalize upd H7 u4 (.tup [.str "Z runtime ", v]) = H8 at *
    refine ⟨_, rfl, by show 2 ≤ sizeLine; decide, ?_⟩
    intro u5 nu5
    have su5 : Same H8 (upd H8 u5 (.tup [.str "M overflow arithmetic ", v])) := Same.new nu5
    have eu5 : upd H8 u5 (.tup [.str "M overflow arithmetic ", v]) u5 = some (.tup [.str "M overflow arithmetic ", v]) := upd_same
    generalize upd H8 u5 (.tup [.str "M overflow arithmetic ", v]) = H9 at *
    refine ⟨_, rfl, by show 2 ≤ sizeLine; decide, ?_⟩
    intro u6 nu6
    have su6 : Same H9 (upd H9 u6 (.tup [.str "R arithmetic ", v])) := Same.new nu6
    have eu6 : upd H9 u6 (.tup [.str "R arithmetic ", v]) u6 = some (.tup [.str "R arithmetic ", v]) := upd_same
    generalize upd H9 u6 (.tup [.str "R arithmetic ", v]) = H10 at *
    refine ⟨by show 3 ≤ sizeLine; decide, ?_⟩
    intro p1 np1
    have sp1 : Same H10 (upd H10 p1 (.lst [.ref u4, .ref u5, .ref u6])) := Same.new np1
    have ep1 : upd H10 p1 (.lst [.ref u4, .ref u5, .ref u6]) p1 = some (.lst [.ref u4, .ref u5, .ref u6]) := upd_same
    generalize upd H10 p1 (.lst [.ref u4, .ref u5, .ref u6]) = H11 at *
    refine ⟨_, _, _, _, rfl, rfl, ((Same.trans (Same.trans (Same.trans su4 su5) su6) sp1) _ _ ep0), ep1, by show 7 ≤ sizeLine; decide, ?_⟩
    intro q1 nq1
    have sq1 : Same H11 (upd H11 q1 (.lst ([.ref u0, .ref u1, .ref u2, .ref u3] ++ [.ref u4, .ref u5, .ref u6]))) := Same.new nq1
    have eq1 : upd H11 q1 (.lst ([.ref u0, .ref u1, .ref u2, .ref u3] ++ [.ref u4, .ref u5, .ref u6])) q1 = some (.lst [.ref u0, .ref u1, .ref u2, .ref u3, .ref u4, .ref u5, .ref u6]) := upd_same
    generalize upd H11 q1 (.lst ([.ref u0, .ref u1, .ref u2, .ref u3] ++ [.ref u4, .ref u5, .ref u6])) = H12 at *
    refine ⟨_, rfl, ?_⟩
    refine ⟨_, rfl, by show 2 ≤ sizeLine; decide, ?_⟩
    intro u7 nu7
    have su7 : Same H12 (upd H12 u7 (.tup [.str "Q zero arithmetic ", v])) := Same.new nu7
    have eu7 : upd H12 u7 (.tup [.str "Q zero arithmetic ", v]) u7 = some (.tup [.str "Q zero arithmetic ", v]) := upd_same
    generalize upd H12 u7 (.tup [.str "Q zero arithmetic ", v]) = H13 at *
    refine ⟨by show 1 ≤ sizeLine; decide, ?_⟩
    intro p2 np2
    have sp2 : Same H13 (upd H13 p2 (.lst [.ref u7])) := Same.new np2
    have ep2 : upd H13 p2 (.lst [.ref u7]) p2 = some (.lst [.ref u7]) := upd_same
    generalize upd H13 p2 (.lst [.ref u7]) = H14 at *
    refine ⟨_, _, _, _, rfl, rfl, ((Same.trans su7 sp2) _ _ eq1), ep2, by show 8 ≤ sizeLine; decide, ?_⟩
    intro q2 nq2
    have sq2 : Same H14 (upd H14 q2 (.lst ([.ref u0, .ref u1, .ref u2, .ref u3, .ref u4, .ref u5, .ref u6] ++ [.ref u7]))) := Same.new nq2
    have eq2 : upd H14 q2 (.lst ([.ref u0, .ref u1, .ref u2, .ref u3, .ref u4, .ref u5, .ref u6] ++ [.ref u7])) q2 = some (.lst [.ref u0, .ref u1, .ref u2, .ref u3, .ref u4, .ref u5, .ref u6, .ref u7]) := upd_same
    generalize upd H14 q2 (.lst ([.ref u0, .ref u1, .ref u2, .ref u3, .ref u4, .ref u5, .ref u6] ++ [.ref u7])) = H15 at *
    have sT := (Same.trans (Same.trans (Same.trans (Same.trans (Same.trans (Same.trans (Same.trans (Same.trans (Same.trans (Same.trans (Same.trans (Same.trans (Same.trans (Same.trans s0 s1) su0) su1) su2) su3) sp0) su4) su5) su6) sp1) sq1) su7) sp2) sq2)
    have dD : Dq K H15 (.ref q2) (keptD dv di) := .lst (SqL.of eq2) (.cons (.tup (SqT.of ((Same.trans (Same.trans (Same.trans (Same.trans (Same.trans (Same.trans (Same.trans (Same.trans (Same.trans (Same.trans (Same.trans su1 su2) su3) sp0) su4) su5) su6) sp1) sq1) su7) sp2) sq2) _ _ eu0)) (.cons (.dp (.str _) rfl) (.cons (dq_same sT hi.dq) .nil))) (.cons (.tup (SqT.of ((Same.trans (Same.trans (Same.trans (Same.trans (Same.trans (Same.trans (Same.trans (Same.trans (Same.trans (Same.trans su2 su3) sp0) su4) su5) su6) sp1) sq1) su7) sp2) sq2) _ _ eu1)) (.cons (.dp (.str _) rfl) (.cons (dq_same sT hv.dq) .nil))) (.cons (.tup (SqT.of ((Same.trans (Same.trans (Same.trans (Same.trans (Same.trans (Same.trans (Same.trans (Same.trans (Same.trans su3 sp0) su4) su5) su6) sp1) sq1) su7) sp2) sq2) _ _ eu2)) (.cons (.dp (.str _) rfl) (.cons (dq_same sT hv.dq) .nil))) (.cons (.tup (SqT.of ((Same.trans (Same.trans (Same.trans (Same.trans (Same.trans (Same.trans (Same.trans (Same.trans sp0 su4) su5) su6) sp1) sq1) su7) sp2) sq2) _ _ eu3)) (.cons (.dp (.str _) rfl) (.cons (dq_same sT hv.dq) .nil))) (.cons (.tup (SqT.of ((Same.trans (Same.trans (Same.trans (Same.trans (Same.trans (Same.trans su5 su6) sp1) sq1) su7) sp2) sq2) _ _ eu4)) (.cons (.dp (.str _) rfl) (.cons (dq_same sT hv.dq) .nil))) (.cons (.tup (SqT.of ((Same.trans (Same.trans (Same.trans (Same.trans (Same.trans su6 sp1) sq1) su7) sp2) sq2) _ _ eu5)) (.cons (.dp (.str _) rfl) (.cons (dq_same sT hv.dq) .nil))) (.cons (.tup (SqT.of ((Same.trans (Same.trans (Same.trans (Same.trans sp1 sq1) su7) sp2) sq2) _ _ eu6)) (.cons (.dp (.str _) rfl) (.cons (dq_same sT hv.dq) .nil))) (.cons (.tup (SqT.of ((Same.trans sp2 sq2) _ _ eu7)) (.cons (.dp (.str _) rfl) (.cons (dq_same sT hv.dq) .nil))) .nil))))))))
    have hv1 := hv.same sT
    have hi1 := hi.same sT
    obtain ⟨ko, kz⟩ := kept_ok hv hi
    refine ⟨_, rfl, _, rfl, v, i, dv, di, rfl, hv1, hi1, fun p HK sK dK => ?_⟩
    refine ⟨_, _, rfl, .inr ⟨p, rfl, dK⟩, ko, kz, ?_⟩
    refine ⟨_, rfl, _, _, rfl, .inr ⟨_, rfl, dq_same sK dD⟩, ko, kz, ?_⟩
    refine ⟨rfl, _, rfl, ?_⟩
    rw [str_self]
    refine iteF ?_
    have sA := Same.trans sT sK
    refine ⟨_, rfl, by decide, by decide, fun D hD => lc_range (lo := 0) (n := 3) (fun j H' => Same HK H' ∧ H' D = some (.lst (([caughtT dv 0, caughtT dv 1, caughtT dv 2].take j).map V.str))) ⟨Same.new hD, upd_same⟩ ?_ ?_⟩
    · rintro j H' hj ⟨s', hacc⟩
      refine ⟨rfl, ?_⟩
      simp only [tYes, if_true]
      refine ⟨_, rfl, _, rfl, v, j, dv, by simp, hj, hv.same (Same.trans sA s'), fun H3 s3 => ?_⟩
      refine ⟨_, s3 _ _ hacc, ?_, Same.over (Same.trans s' s3) hD _, ?_⟩
      · rw [List.length_map, List.length_take]
        exact Nat.lt_of_le_of_lt (Nat.min_le_right _ _) (by show 3 < sizeLine; decide)
      · rw [upd_same]
        match j, hj with
        | 0, _ => rfl
        | 1, _ => rfl
        | 2, _ => rfl
    rintro HC ⟨sC, eC⟩
    have sB := Same.trans sA sC
    have cok : [caughtT dv 0, caughtT dv 1, caughtT dv 2].all PyData.strOk = true := by
      simp only [List.all_cons, List.all_nil, Bool.and_true, Bool.and_eq_true]
      exact ⟨by show PyData.strOk "base r" = true; decide +kernel, app_ok (ofS_ok _) hv.so, app_ok (ofS_ok _) hv.so⟩
    have hv3 := hv.same sB
    have ld := hv.len
    have lq : ("quotient " : Str).length = 9 := by decide
    have ll : ("lost " : Str).length = 5 := by decide
    refine ⟨_, rfl, _, rfl, v, dv, rfl, hv3.rp, Nat.le_trans hv3.dep (by decide), hv3.lenS, _, _, rfl, rfl, by rw [lq, sizeLine_eq]; omega, ?_⟩
    refine ⟨_, rfl, v, dv, rfl, hv3.rp, Nat.le_trans hv3.dep (by decide), hv3.lenS, _, _, rfl, rfl, by rw [ll, sizeLine_eq]; omega, ?_⟩
    refine ⟨by show 3 ≤ sizeLine; decide, fun L hL => ?_⟩
    refine ⟨.list ([caughtT dv 0, caughtT dv 1, caughtT dv 2].map .str), .list ([caughtT dv 0, caughtT dv 1, caughtT dv 2].map .str), .lst (SqL.of (new_keep eC hL)) (strs_dp _), .lst (SqL.of upd_same) (strs_dp [caughtT dv 0, caughtT dv 1, caughtT dv 2]), strs_shaped cok, strs_shaped cok, ?_⟩
    rw [show PyData.eqv (.list ([caughtT dv 0, caughtT dv 1, caughtT dv 2].map .str)) (.list ([caughtT dv 0, caughtT dv 1, caughtT dv 2].map .str)) = true by show PyData.eqvAll _ _ = true; exact strs_eqv _]
    exact k _ (Same.trans sB (Same.new hL))
end
end K01
namespace K01
open PySem PySem.Spec PyProof.Rows L2 GL PySem.GLE
theorem same_free {H H' : Hp} {a : Addr} (s : Same H H') (n : H' a = none) : H a = none := by
  cases e : H a with
  | none => rfl
  | some o => rw [s a o e] at n; cases n
section
variable {P : Program} {w : World} {K : PySem.W.Frag} {mg : Str → Option Value} {base : Heap} {c : Cs}
def spLaw (K : PySem.W.Frag) : Sp := fun vs H Q _ => ∃ (a : Addr) (ns : List Int), vs = [.ref a] ∧ SqL K H a (ns.map V.int) ∧ ns.length ≤ 63 ∧ ∀ H', Q (.bl true) H'
theorem law_ok (T : Txt K mg c) (h_law_dice : Has P w K mg base CX0 "_law_dice" 1 ["_law_script", "_law_spot"] (spDice K)) (h_law_roll : Has P w K mg base CX0 "_law_roll" 1 ["_law_dice_here", "_law_total"] spRoll)
    (h_law_pick : Has P w K mg base CX0 "_law_pick" 2 ["_law_dice_here", "_law_items"] spPick) (h_law_right : Has P w K mg base CX0 "_law_right" 4 ["_law_value", "_law_index"] (spRight K))
    {f : Addr} {fd : FuncData} (F : Fun K "law" "law" s_law f fd) : FnG P w K mg base CX0 7 f fd ["_law_script"] (spLaw K) := by
  refine F.g sc_law (fun vs H Q E h => ?_) (fun cdv A outer s H vs Q E gd hr h => ?_)
  · obtain ⟨a, ns, rfl, _⟩ := h
    rfl
  · obtain ⟨a, ns, rfl, hS, hl, k⟩ := h
    have hu := hr.units
    refine ⟨_, (pss_cons
 (ps_for PassesOwn.never rfl (pi_range1 (by exact rfl) T.zrange (pa_cons (pe_callB (call_max2 rfl) (by exact rfl) T.zmax (by decide +kernel) (pa_cons pe_int (pa_cons (pe_callB (call_min2 rfl) (by exact rfl) T.zmin (by decide +kernel) (pa_cons pe_int (pa_cons (pe_callB call_len_seq (by exact rfl) T.zlen PySem.boot_len (pa_cons (pv 0) pa_nil)) pa_nil))) pa_nil))) pa_nil)) (pg_name (i := 1) sc_law.nd rfl (Or.inl rfl)) (pss_cons
 (ps_set (i := 2) sc_law.nd rfl (Or.inl rfl) (pe_callH h_law_dice gd (hr.mono (by decide)) pass0 (pa_cons (pv 0) (pa_cons (pv 1) pa_nil))))
 (pss_cons
 (ps_set (i := 3) sc_law.nd rfl (Or.inl rfl) (pe_lst (pa_cons pe_non (pa_cons pe_bl (pa_cons pe_int (pa_cons pe_str (pa_cons pe_str (pa_cons (pe_tup (pa_cons pe_int (pa_cons pe_int pa_nil))) (pa_cons (pe_lst (pa_cons pe_int pa_nil)) (pa_cons (pe_disp (pps_cons pe_int pe_int pps_nil) (by rfl) (by rfl) (fun z => by cases z) (by decide)) (pa_cons (pe_tup (pa_cons (pe_tup pa_nil) (pa_cons (pe_tup (pa_cons pe_str (pa_cons pe_int pa_nil))) pa_nil))) (pa_cons (pe_tup (pa_cons pe_str (pa_cons pe_str pa_nil))) (pa_cons (pe_tup (pa_cons pe_int (pa_cons pe_int pa_nil))) pa_nil)))))))))))))
 (pss_cons
 (ps_expr (pe_bm PySem.F.plainAttrs_list PySem.F.slot_list_append PySem.F.type_list_append mt_append (pv 3) (pa_cons (pe_callH h_law_roll gd (hr.mono (by decide)) pass0 (pa_cons (pv 2) (pa_cons (pe_op op_pow pe_int pe_int) pa_nil))) pa_nil)))
 (pss_cons
 (ps_set (i := 4) sc_law.nd rfl (Or.inl rfl) (pe_callH h_law_pick gd (hr.mono (by decide)) pass0 (pa_cons (pv 2) (pa_cons (pe_lst (pa_cons pe_non (pa_cons pe_int (pa_cons pe_int (pa_cons (pe_callH h_law_roll gd (hr.mono (by decide)) pass0 (pa_cons (pv 2) (pa_cons (pe_op op_pow pe_int pe_int) pa_nil))) pa_nil))))) pa_nil))))
 (pss_one
 (ps_for PassesOwn.never rfl (pi_range1 (by exact rfl) T.zrange (pa_cons pe_int pa_nil)) (pg_name (i := 5) sc_law.nd rfl (Or.inl rfl)) (pss_one
 (ps_if (pt_not (pt_val (pe_callH h_law_right gd (hr.mono (by decide)) pass0 (pa_cons (pe_callH h_law_pick gd (hr.mono (by decide)) pass0 (pa_cons (pv 2) (pa_cons (pv 3) pa_nil))) (pa_cons (pv 4) pa_nil))))) (pss_one
 (ps_ret pe_bl)) pss_nil)))))))))
 (pss_one
 (ps_ret pe_bl))), ?_⟩
    refine ⟨_, rfl, _, _, rfl, .inl hS, _, _, rfl, _, _, rfl, ?_⟩
    generalize hz : (if (if ((ns.map V.int).length : Int) < 4 then ((ns.map V.int).length : Int) else 4) > 1 then (if ((ns.map V.int).length : Int) < 4 then ((ns.map V.int).length : Int) else 4) else 1) = z
    obtain ⟨z0, z5⟩ := few_of (k := 4) (by decide) z hz
    refine ⟨z, rfl, by omega, by omega, for_range (lo := 0) (n := z.toNat) (fun i σ' H' => ∃ v1 v2 v3 v4 v5, σ' = [some (.ref a), v1, v2, v3, v4, v5] ∧ SqL K H' a (ns.map V.int))
      ⟨none, none, none, none, none, rfl, hS⟩ ?_ ?_⟩
    · rintro i' _ H0 hi ⟨v1, v2, v3, v4, v5, rfl, hS0⟩
      refine ⟨_, rfl, _, rfl, a, ns, _, rfl, hS0, (by omega), fun p H1 np same die => ?_⟩
      refine ⟨by show 2 ≤ sizeLine; decide, ?_⟩
      intro t0 nt0
      have st0 : Same H1 (upd H1 t0 (.tup [.int 7, .int 0])) := Same.new nt0
      have et0 : upd H1 t0 (.tup [.int 7, .int 0]) t0 = some (.tup [.int 7, .int 0]) := upd_same
      generalize upd H1 t0 (.tup [.int 7, .int 0]) = H2 at *
      refine ⟨by show 1 ≤ sizeLine; decide, ?_⟩
      intro l0 nl0
      have sl0 : Same H2 (upd H2 l0 (.lst [.int 7])) := Same.new nl0
      have el0 : upd H2 l0 (.lst [.int 7]) l0 = some (.lst [.int 7]) := upd_same
      generalize upd H2 l0 (.lst [.int 7]) = H3 at *
      intro q0 nq0
      refine ⟨upd_same, [(.inl 7, .int 7)], rfl, by show 1 ≤ 15; decide, ?_⟩
      have sq0 : Same H3 (upd (upd H3 q0 (.dK [])) q0 (.dK (mergeK [] [(.inl 7, .int 7)]))) := fun b o z => new_keep2 z nq0
      have eq0 : (upd (upd H3 q0 (.dK [])) q0 (.dK (mergeK [] [(.inl 7, .int 7)]))) q0 = some (.dK [(.inl 7, .int 7)]) := upd_same
      generalize upd (upd H3 q0 (.dK [])) q0 (.dK (mergeK [] [(.inl 7, .int 7)])) = H4 at *
      refine ⟨by show 0 ≤ sizeLine; decide, ?_⟩
      intro t1 nt1
      have st1 : Same H4 (upd H4 t1 (.tup [])) := Same.new nt1
      have et1 : upd H4 t1 (.tup []) t1 = some (.tup []) := upd_same
      generalize upd H4 t1 (.tup []) = H5 at *
      refine ⟨by show 2 ≤ sizeLine; decide, ?_⟩
      intro t2 nt2
      have st2 : Same H5 (upd H5 t2 (.tup [.str "a", .int 1])) := Same.new nt2
      have et2 : upd H5 t2 (.tup [.str "a", .int 1]) t2 = some (.tup [.str "a", .int 1]) := upd_same
      generalize upd H5 t2 (.tup [.str "a", .int 1]) = H6 at *
      refine ⟨by show 2 ≤ sizeLine; decide, ?_⟩
      intro t3 nt3
      have st3 : Same H6 (upd H6 t3 (.tup [.ref t1, .ref t2])) := Same.new nt3
      have et3 : upd H6 t3 (.tup [.ref t1, .ref t2]) t3 = some (.tup [.ref t1, .ref t2]) := upd_same
      generalize upd H6 t3 (.tup [.ref t1, .ref t2]) = H7 at *
      refine ⟨by show 2 ≤ sizeLine; decide, ?_⟩
      intro t4 nt4
      have st4 : Same H7 (upd H7 t4 (.tup [.str "clear", .str "edge"])) := Same.new nt4
      have et4 : upd H7 t4 (.tup [.str "clear", .str "edge"]) t4 = some (.tup [.str "clear", .str "edge"]) := upd_same
      generalize upd H7 t4 (.tup [.str "clear", .str "edge"]) = H8 at *
      refine ⟨by show 2 ≤ sizeLine; decide, ?_⟩
      intro t5 nt5
      have st5 : Same H8 (upd H8 t5 (.tup [.int 0, .int 0])) := Same.new nt5
      have et5 : upd H8 t5 (.tup [.int 0, .int 0]) t5 = some (.tup [.int 0, .int 0]) := upd_same
      generalize upd H8 t5 (.tup [.int 0, .int 0]) = H9 at *
      refine ⟨by show 11 ≤ sizeLine; decide, ?_⟩
      intro L nL
      have sL : Same H9 (upd H9 L (.lst [.non, .bl true, .int 0, .str "7", .str "", .ref t0, .ref l0, .ref q0, .ref t3, .ref t4, .ref t5])) := Same.new nL
      have eL : upd H9 L (.lst [.non, .bl true, .int 0, .str "7", .str "", .ref t0, .ref l0, .ref q0, .ref t3, .ref t4, .ref t5]) L = some (.lst [.non, .bl true, .int 0, .str "7", .str "", .ref t0, .ref l0, .ref q0, .ref t3, .ref t4, .ref t5]) := upd_same
      generalize upd H9 L (.lst [.non, .bl true, .int 0, .str "7", .str "", .ref t0, .ref l0, .ref q0, .ref t3, .ref t4, .ref t5]) = H10 at *
      have sT := (Same.trans (Same.trans (Same.trans (Same.trans (Same.trans (Same.trans (Same.trans (Same.trans st0 sl0) sq0) st1) st2) st3) st4) st5) sL)
      have nLo := same_free (Same.trans (Same.trans (Same.trans (Same.trans (Same.trans (Same.trans (Same.trans st0 sl0) sq0) st1) st2) st3) st4) st5) nL
      have gT : Got p H1 H10 := (Got.same die).over_same sT
      have dT := gT.die
      obtain ⟨dl, db, dc, dl0, eP⟩ := id dT
      have Lp : L ≠ p := ne_of eL eP (by intro z; cases z)
      have wt0 := ((Same.trans (Same.trans (Same.trans (Same.trans (Same.trans (Same.trans (Same.trans sl0 sq0) st1) st2) st3) st4) st5) sL) _ _ et0)
      have mt0 : t0 ≠ p := ne_of wt0 eP (by intro z; cases z)
      have Mt0 : t0 ≠ L := ne_of wt0 eL (by intro z; cases z)
      have wl0 := ((Same.trans (Same.trans (Same.trans (Same.trans (Same.trans (Same.trans sq0 st1) st2) st3) st4) st5) sL) _ _ el0)
      have ml0 : l0 ≠ p := ne_of wl0 eP (by intro z; cases z)
      have Ml0 : l0 ≠ L := ne_of wl0 eL (by intro z; cases z)
      have wq0 := ((Same.trans (Same.trans (Same.trans (Same.trans (Same.trans st1 st2) st3) st4) st5) sL) _ _ eq0)
      have mq0 : q0 ≠ p := ne_of wq0 eP (by intro z; cases z)
      have Mq0 : q0 ≠ L := ne_of wq0 eL (by intro z; cases z)
      have wt1 := ((Same.trans (Same.trans (Same.trans (Same.trans st2 st3) st4) st5) sL) _ _ et1)
      have mt1 : t1 ≠ p := ne_of wt1 eP (by intro z; cases z)
      have Mt1 : t1 ≠ L := ne_of wt1 eL (by intro z; cases z)
      have wt2 := ((Same.trans (Same.trans (Same.trans st3 st4) st5) sL) _ _ et2)
      have mt2 : t2 ≠ p := ne_of wt2 eP (by intro z; cases z)
      have Mt2 : t2 ≠ L := ne_of wt2 eL (by intro z; cases z)
      have wt3 := ((Same.trans (Same.trans st4 st5) sL) _ _ et3)
      have mt3 : t3 ≠ p := ne_of wt3 eP (by intro z; cases z)
      have Mt3 : t3 ≠ L := ne_of wt3 eL (by intro z; cases z)
      have wt4 := ((Same.trans st5 sL) _ _ et4)
      have mt4 : t4 ≠ p := ne_of wt4 eP (by intro z; cases z)
      have Mt4 : t4 ≠ L := ne_of wt4 eL (by intro z; cases z)
      have wt5 := (sL _ _ et5)
      have mt5 : t5 ≠ p := ne_of wt5 eP (by intro z; cases z)
      have Mt5 : t5 ≠ L := ne_of wt5 eL (by intro z; cases z)
      refine ⟨_, rfl, .inl ⟨rfl, _, SqL.of eL⟩, _, rfl, _, _, rfl, rfl, ⟨by decide, by decide, by decide⟩, p, _, rfl, dT, by decide, by decide, fun r H20 r0 r1 g20 => ?_⟩
      have eL2 := g20.keep _ _ eL Lp
      refine ⟨L, _, _, rfl, rfl, eL2, by show 11 < sizeLine; decide, ?_⟩
      have gB : Got p H1 (upd H20 L (.lst ([.non, .bl true, .int 0, .str "7", .str "", .ref t0, .ref l0, .ref q0, .ref t3, .ref t4, .ref t5] ++ [.int r]))) := (gT.trans g20).over die nLo _
      have eLB : (upd H20 L (.lst ([.non, .bl true, .int 0, .str "7", .str "", .ref t0, .ref l0, .ref q0, .ref t3, .ref t4, .ref t5] ++ [.int r]))) L = some (.lst [.non, .bl true, .int 0, .str "7", .str "", .ref t0, .ref l0, .ref q0, .ref t3, .ref t4, .ref t5, .int r]) := upd_same
      have bt0 : (upd H20 L (.lst ([.non, .bl true, .int 0, .str "7", .str "", .ref t0, .ref l0, .ref q0, .ref t3, .ref t4, .ref t5] ++ [.int r]))) t0 = some (.tup [.int 7, .int 0]) := (upd_ne Mt0).trans (g20.keep _ _ wt0 mt0)
      have bl0 : (upd H20 L (.lst ([.non, .bl true, .int 0, .str "7", .str "", .ref t0, .ref l0, .ref q0, .ref t3, .ref t4, .ref t5] ++ [.int r]))) l0 = some (.lst [.int 7]) := (upd_ne Ml0).trans (g20.keep _ _ wl0 ml0)
      have bq0 : (upd H20 L (.lst ([.non, .bl true, .int 0, .str "7", .str "", .ref t0, .ref l0, .ref q0, .ref t3, .ref t4, .ref t5] ++ [.int r]))) q0 = some (.dK [(.inl 7, .int 7)]) := (upd_ne Mq0).trans (g20.keep _ _ wq0 mq0)
      have bt1 : (upd H20 L (.lst ([.non, .bl true, .int 0, .str "7", .str "", .ref t0, .ref l0, .ref q0, .ref t3, .ref t4, .ref t5] ++ [.int r]))) t1 = some (.tup []) := (upd_ne Mt1).trans (g20.keep _ _ wt1 mt1)
      have bt2 : (upd H20 L (.lst ([.non, .bl true, .int 0, .str "7", .str "", .ref t0, .ref l0, .ref q0, .ref t3, .ref t4, .ref t5] ++ [.int r]))) t2 = some (.tup [.str "a", .int 1]) := (upd_ne Mt2).trans (g20.keep _ _ wt2 mt2)
      have bt3 : (upd H20 L (.lst ([.non, .bl true, .int 0, .str "7", .str "", .ref t0, .ref l0, .ref q0, .ref t3, .ref t4, .ref t5] ++ [.int r]))) t3 = some (.tup [.ref t1, .ref t2]) := (upd_ne Mt3).trans (g20.keep _ _ wt3 mt3)
      have bt4 : (upd H20 L (.lst ([.non, .bl true, .int 0, .str "7", .str "", .ref t0, .ref l0, .ref q0, .ref t3, .ref t4, .ref t5] ++ [.int r]))) t4 = some (.tup [.str "clear", .str "edge"]) := (upd_ne Mt4).trans (g20.keep _ _ wt4 mt4)
      have bt5 : (upd H20 L (.lst ([.non, .bl true, .int 0, .str "7", .str "", .ref t0, .ref l0, .ref q0, .ref t3, .ref t4, .ref t5] ++ [.int r]))) t5 = some (.tup [.int 0, .int 0]) := (upd_ne Mt5).trans (g20.keep _ _ wt5 mt5)
      generalize upd H20 L (.lst ([.non, .bl true, .int 0, .str "7", .str "", .ref t0, .ref l0, .ref q0, .ref t3, .ref t4, .ref t5] ++ [.int r])) = HB at *
      have rb : r.natAbs < 10 ^ 40 := by
        have u : r < 10 ^ 30 := r1
        have big : 10 ^ 30 ≤ (10 ^ 40 : Nat) := by decide
        omega
      have hval : ∀ x ∈ ([.non, .bl true, .int 0, .str "7", .str "", .ref t0, .ref l0, .ref q0, .ref t3, .ref t4, .ref t5, .int r] : List V), ∀ H', Got p HB H' → ∃ d, Val K H' x d := by
        intro x hx H' g
        have ct0 := g.keep _ _ bt0 mt0
        have cl0 := g.keep _ _ bl0 ml0
        have cq0 := g.keep _ _ bq0 mq0
        have ct1 := g.keep _ _ bt1 mt1
        have ct2 := g.keep _ _ bt2 mt2
        have ct3 := g.keep _ _ bt3 mt3
        have ct4 := g.keep _ _ bt4 mt4
        have ct5 := g.keep _ _ bt5 mt5
        simp only [List.mem_cons, List.not_mem_nil, or_false] at hx
        rcases hx with h | h | h | h | h | h | h | h | h | h | h | h <;> subst h
        · exact ⟨_, .flat .non (by decide +kernel) (by decide +kernel) rfl (by decide +kernel) (by decide +kernel) (by decide +kernel) (by decide +kernel)⟩
        · exact ⟨_, .flat (.bl true) (by decide +kernel) (by decide +kernel) rfl (by decide +kernel) (by decide +kernel) (by decide +kernel) (by decide +kernel)⟩
        · exact ⟨_, Val.int (by decide)⟩
        · exact ⟨_, .flat (.str "7") (by decide +kernel) (by decide +kernel) rfl (by decide +kernel) (by decide +kernel) (by decide +kernel) (by decide +kernel)⟩
        · exact ⟨_, .flat (.str "") (by decide +kernel) (by decide +kernel) rfl (by decide +kernel) (by decide +kernel) (by decide +kernel) (by decide +kernel)⟩
        · exact ⟨_, .flat (.tup (SqT.of ct0) (.cons (.int 7) (.cons (.int 0) .nil))) (by decide +kernel) (by decide +kernel) rfl (by decide +kernel) (by decide +kernel) (by decide +kernel) (by decide +kernel)⟩
        · exact ⟨_, .flat (.lst (SqL.of cl0) (.cons (.int 7) .nil)) (by decide +kernel) (by decide +kernel) rfl (by decide +kernel) (by decide +kernel) (by decide +kernel) (by decide +kernel)⟩
        · exact ⟨_, .one cq0 (by decide +kernel) (by decide +kernel), .inr ⟨_, rfl, .one cq0 (by decide +kernel) (by decide +kernel)⟩, by decide +kernel, by decide +kernel, by decide +kernel, by decide +kernel⟩
        · exact ⟨_, .flat (.tup (SqT.of ct3) (.cons (.tup (SqT.of ct1) .nil) (.cons (.tup (SqT.of ct2) (.cons (.str "a") (.cons (.int 1) .nil))) .nil))) (by decide +kernel) (by decide +kernel) rfl (by decide +kernel) (by decide +kernel) (by decide +kernel) (by decide +kernel)⟩
        · exact ⟨_, .flat (.tup (SqT.of ct4) (.cons (.str "clear") (.cons (.str "edge") .nil))) (by decide +kernel) (by decide +kernel) rfl (by decide +kernel) (by decide +kernel) (by decide +kernel) (by decide +kernel)⟩
        · exact ⟨_, .flat (.tup (SqT.of ct5) (.cons (.int 0) (.cons (.int 0) .nil))) (by decide +kernel) (by decide +kernel) rfl (by decide +kernel) (by decide +kernel) (by decide +kernel) (by decide +kernel)⟩
        · exact ⟨_, Val.int rb⟩
      refine ⟨_, rfl, _, rfl, _, _, rfl, rfl, ⟨by decide, by decide, by decide⟩, p, _, rfl, gB.die, by decide, by decide, fun r2 H21 r20 r21 g21 => ?_⟩
      refine ⟨by show 4 ≤ sizeLine; decide, fun A0 nA0 => ?_⟩
      have A0p : A0 ≠ p := (g21.die.ne nA0).symm
      have g22 : Got p HB (upd H21 A0 (.lst [.non, .int 0, .int 1, .int r2])) := g21.trans (Got.new g21.die nA0)
      refine ⟨p, A0, _, rfl, g22.die, .inl upd_same, A0p, by show 0 < 4; decide, by show 4 ≤ 1000; decide, fun y H23 hy g23 => ?_⟩
      have hidx : ∃ di, ∀ H' : Hp, Val K H' y di := by
        have rb2 : r2.natAbs < 10 ^ 40 := by
          have u : r2 < 10 ^ 20 := r21
          have big : 10 ^ 20 ≤ (10 ^ 40 : Nat) := by decide
          omega
        simp only [List.mem_cons, List.not_mem_nil, or_false] at hy
        rcases hy with h | h | h | h <;> subst h
        · exact ⟨_, fun H' => .flat .non (by decide +kernel) (by decide +kernel) rfl (by decide +kernel) (by decide +kernel) (by decide +kernel) (by decide +kernel)⟩
        · exact ⟨_, fun H' => Val.int (by decide)⟩
        · exact ⟨_, fun H' => Val.int (by decide)⟩
        · exact ⟨_, fun H' => Val.int rb2⟩
      obtain ⟨di, hidx⟩ := hidx
      have g24 := g22.trans g23
      refine ⟨3, rfl, by decide, by decide, for_range (lo := 0) (n := 3) (fun j σ' H' => ∃ v5, σ' = [some (.ref a), some (.int (0 + (i' : Int))), some (.ref p), some (.ref L), some y, v5] ∧ Got p HB H') ⟨_, rfl, g24⟩ ?_ ?_⟩
      · rintro j _ H3 hj ⟨v5, rfl, g3⟩
        refine ⟨_, rfl, _, rfl, p, L, _, rfl, g3.die, .inl (g3.keep _ _ eLB Lp), Lp, by show 0 < 12; decide, by show 12 ≤ 1000; decide, fun x H4 hx g4 => ?_⟩
        have g5 := g3.trans g4
        obtain ⟨dx, hx2⟩ := hval x hx H4 g5
        refine ⟨_, rfl, x, y, dx, di, rfl, hx2, hidx _, fun H5 s5 => ⟨true, rfl, (iteF ?_ : if (!true) = true then _ else _)⟩⟩
        exact ⟨_, rfl, g5.over_same s5⟩
      · rintro _ H3 ⟨v5, rfl, g3⟩
        exact ⟨_, _, _, _, _, rfl, seq_got hS0 np same (gB.trans g3)⟩
    · rintro _ H0 ⟨v1, v2, v3, v4, v5, rfl, hS0⟩
      exact k _
end
end K01
namespace K01
open PySem PySem.Spec PyProof.Rows L2 GL PySem.GLE
theorem all_mk {P : Program} {w : World} {K : PySem.W.Frag} {h : Heap} {mg : Str → Option Value} {fa : Addr} {g p r s d q o x U A N Z M R Q L ix iU iA iN iZ iM iR iQ : Addr} (X : K.In h) (G : h.Ns mainGlobals mg) (hfa : mg "law" = some (.ref fa))
    (z0 : PySem.W.nsIn K mainGlobals "isinstance" = some none)
    (z1 : PySem.W.nsIn K mainGlobals "int" = some none)
    (z2 : PySem.W.nsIn K mainGlobals "len" = some none)
    (z3 : PySem.W.nsIn K mainGlobals "max" = some none)
    (z4 : PySem.W.nsIn K mainGlobals "min" = some none)
    (z5 : PySem.W.nsIn K mainGlobals "abs" = some none)
    (z6 : PySem.W.nsIn K mainGlobals "range" = some none)
    (z7 : PySem.W.nsIn K mainGlobals "repr" = some none)
    (z8 : PySem.W.nsIn K mainGlobals "ValueError" = some none)
    (z9 : PySem.W.nsIn K mainGlobals "KeyError" = some none)
    (z10 : PySem.W.nsIn K mainGlobals "IndexError" = some none)
    (z11 : PySem.W.nsIn K mainGlobals "LookupError" = some none)
    (z12 : PySem.W.nsIn K mainGlobals "RuntimeError" = some none)
    (z13 : PySem.W.nsIn K mainGlobals "OverflowError" = some none)
    (z14 : PySem.W.nsIn K mainGlobals "ZeroDivisionError" = some none)
    (z15 : PySem.W.nsIn K mainGlobals "ArithmeticError" = some none)
    (dig : PySem.W.nsIn K cStatics "sys.int_max_str_digits" = some none)
    (nL : PySem.W.nsIn K mainGlobals "LineError" = some (some (.ref L))) (qL : PySem.W.excIn K L [.type "ValueError", .type "Exception", .type "BaseException", .type "object"] "ValueError.__new__" = true) (kL : PySem.W.keepIn K (.ref L) = true)
    (ng : PySem.W.nsIn K mainGlobals "InvalidGrid" = some (some (.ref g))) (qg : PySem.W.excIn K g [.type "ValueError", .type "Exception", .type "BaseException", .type "object"] "ValueError.__new__" = true) (kg : PySem.W.keepIn K (.ref g) = true)
    (np : PySem.W.nsIn K mainGlobals "InvalidPoint" = some (some (.ref p))) (qp : PySem.W.excIn K p [.type "ValueError", .type "Exception", .type "BaseException", .type "object"] "ValueError.__new__" = true) (kp : PySem.W.keepIn K (.ref p) = true)
    (nr : PySem.W.nsIn K mainGlobals "InvalidRule" = some (some (.ref r))) (qr : PySem.W.excIn K r [.type "ValueError", .type "Exception", .type "BaseException", .type "object"] "ValueError.__new__" = true) (kr : PySem.W.keepIn K (.ref r) = true)
    (ns : PySem.W.nsIn K mainGlobals "InvalidScheme" = some (some (.ref s))) (qs : PySem.W.excIn K s [.type "ValueError", .type "Exception", .type "BaseException", .type "object"] "ValueError.__new__" = true) (ks : PySem.W.keepIn K (.ref s) = true)
    (nd : PySem.W.nsIn K mainGlobals "InvalidStand" = some (some (.ref d))) (qd : PySem.W.excIn K d [.type "ValueError", .type "Exception", .type "BaseException", .type "object"] "ValueError.__new__" = true) (kd : PySem.W.keepIn K (.ref d) = true)
    (nq : PySem.W.nsIn K mainGlobals "InvalidPaper" = some (some (.ref q))) (qq : PySem.W.excIn K q [.type "ValueError", .type "Exception", .type "BaseException", .type "object"] "ValueError.__new__" = true) (kq : PySem.W.keepIn K (.ref q) = true)
    (no : PySem.W.nsIn K mainGlobals "InvalidOperation" = some (some (.ref o))) (qo : PySem.W.excIn K o [.type "ValueError", .type "Exception", .type "BaseException", .type "object"] "ValueError.__new__" = true) (ko : PySem.W.keepIn K (.ref o) = true)
    (ex : ErrTxt K mg "ParseError" "number" x ix)
    (eU : ErrTxt K mg "UnknownLetter" "word" U iU)
    (eA : ErrTxt K mg "UnknownAddress" "lost" A iA)
    (eN : ErrTxt K mg "InvalidNumber" "value" N iN)
    (eZ : ErrTxt K mg "NothingToUndo" "many" Z iZ)
    (eM : ErrTxt K mg "TooMany" "limit" M iM)
    (eR : ErrTxt K mg "Refused" "pledge" R iR)
    (eQ : ErrTxt K mg "NoQuotient" "divisor" Q iQ)
    (ag : Ans K ⟨g, p, r, s, d, q, o, x, U, A, N, Z, M, R, Q, L, ix, iU, iA, iN, iZ, iM, iR, iQ⟩ g (on [0, 15, 16]))
    (ap : Ans K ⟨g, p, r, s, d, q, o, x, U, A, N, Z, M, R, Q, L, ix, iU, iA, iN, iZ, iM, iR, iQ⟩ p (on [1, 15, 16]))
    (ar : Ans K ⟨g, p, r, s, d, q, o, x, U, A, N, Z, M, R, Q, L, ix, iU, iA, iN, iZ, iM, iR, iQ⟩ r (on [2, 15, 16]))
    (as : Ans K ⟨g, p, r, s, d, q, o, x, U, A, N, Z, M, R, Q, L, ix, iU, iA, iN, iZ, iM, iR, iQ⟩ s (on [3, 15, 16]))
    (ad : Ans K ⟨g, p, r, s, d, q, o, x, U, A, N, Z, M, R, Q, L, ix, iU, iA, iN, iZ, iM, iR, iQ⟩ d (on [4, 15, 16]))
    (aq : Ans K ⟨g, p, r, s, d, q, o, x, U, A, N, Z, M, R, Q, L, ix, iU, iA, iN, iZ, iM, iR, iQ⟩ q (on [5, 15, 16]))
    (ao : Ans K ⟨g, p, r, s, d, q, o, x, U, A, N, Z, M, R, Q, L, ix, iU, iA, iN, iZ, iM, iR, iQ⟩ o (on [6, 15, 16]))
    (aL : Ans K ⟨g, p, r, s, d, q, o, x, U, A, N, Z, M, R, Q, L, ix, iU, iA, iN, iZ, iM, iR, iQ⟩ L (on [15, 16]))
    (ax : Ans K ⟨g, p, r, s, d, q, o, x, U, A, N, Z, M, R, Q, L, ix, iU, iA, iN, iZ, iM, iR, iQ⟩ x (on [7, 15, 16]))
    (aU : Ans K ⟨g, p, r, s, d, q, o, x, U, A, N, Z, M, R, Q, L, ix, iU, iA, iN, iZ, iM, iR, iQ⟩ U (on [8, 17, 19]))
    (aA : Ans K ⟨g, p, r, s, d, q, o, x, U, A, N, Z, M, R, Q, L, ix, iU, iA, iN, iZ, iM, iR, iQ⟩ A (on [9, 19]))
    (aN : Ans K ⟨g, p, r, s, d, q, o, x, U, A, N, Z, M, R, Q, L, ix, iU, iA, iN, iZ, iM, iR, iQ⟩ N (on [10, 18, 19]))
    (aZ : Ans K ⟨g, p, r, s, d, q, o, x, U, A, N, Z, M, R, Q, L, ix, iU, iA, iN, iZ, iM, iR, iQ⟩ Z (on [11, 20]))
    (aM : Ans K ⟨g, p, r, s, d, q, o, x, U, A, N, Z, M, R, Q, L, ix, iU, iA, iN, iZ, iM, iR, iQ⟩ M (on [12, 21, 23]))
    (aR : Ans K ⟨g, p, r, s, d, q, o, x, U, A, N, Z, M, R, Q, L, ix, iU, iA, iN, iZ, iM, iR, iQ⟩ R (on [13, 23]))
    (aQ : Ans K ⟨g, p, r, s, d, q, o, x, U, A, N, Z, M, R, Q, L, ix, iU, iA, iN, iZ, iM, iR, iQ⟩ Q (on [14, 22, 23]))
    (bR : PySem.W.subIn K (.ref r) (.type "BaseException") = some true) (tR : PySem.W.typeIn K (.ref r) = some (.type "type"))
    (x1 : PySem.W.exmOne K (.ref r) (.ref L) = some true) (x2 : PySem.W.exmOne K (.ref Q) (.ref L) = some false) (x3 : PySem.W.exmOne K (.ref Q) (.ref Q) = some true)
    (x4 : PySem.W.exmOne K (.ref A) (.ref L) = some false) (x5 : PySem.W.exmOne K (.ref A) (.ref Q) = some false) (x6 : PySem.W.exmOne K (.ref A) (.ref A) = some true)
    (dd0 : Df K mg "_law_dice" s__law_dice)
    (dd1 : Df K mg "_law_roll" s__law_roll)
    (dd2 : Df K mg "_law_pick" s__law_pick)
    (dd3 : Df K mg "_law_own" s__law_own)
    (dd4 : Df K mg "_law_all" s__law_all)
    (dd5 : Df K mg "_law_messages" s__law_messages)
    (dd6 : Df K mg "_law_kept" s__law_kept)
    (dd7 : Df K mg "_law_caught" s__law_caught)
    (dd8 : Df K mg "_law_right" s__law_right)
    (dd9 : Df K mg "_law_due_messages" s__law_due_messages)
    (dd10 : Df K mg "law" s_law)
    : ∃ fd : FuncData, (∀ (s : Shared) (u : Value), BindsTo s fd ⟨[u], []⟩ [("_law_script", u)]) ∧ ∀ base : Heap, K.In base → base.Ns mainGlobals mg → FnG P w K mg base CX0 7 fa fd ["_law_script"] (spLaw K) := by
  have T : Txt K mg ⟨g, p, r, s, d, q, o, x, U, A, N, Z, M, R, Q, L, ix, iU, iA, iN, iZ, iM, iR, iQ⟩ := ⟨PySem.W.mg_none_of X G z0, PySem.W.mg_none_of X G z1, PySem.W.mg_none_of X G z2, PySem.W.mg_none_of X G z3, PySem.W.mg_none_of X G z4, PySem.W.mg_none_of X G z5, PySem.W.mg_none_of X G z6, PySem.W.mg_none_of X G z7, PySem.W.mg_none_of X G z8, PySem.W.mg_none_of X G z9, PySem.W.mg_none_of X G z10, PySem.W.mg_none_of X G z11, PySem.W.mg_none_of X G z12, PySem.W.mg_none_of X G z13, PySem.W.mg_none_of X G z14, PySem.W.mg_none_of X G z15, ⟨qL, PySem.W.mg_of X G nL, kL⟩, ⟨qg, PySem.W.mg_of X G ng, kg⟩, ⟨qp, PySem.W.mg_of X G np, kp⟩, ⟨qr, PySem.W.mg_of X G nr, kr⟩, ⟨qs, PySem.W.mg_of X G ns, ks⟩, ⟨qd, PySem.W.mg_of X G nd, kd⟩, ⟨qq, PySem.W.mg_of X G nq, kq⟩, ⟨qo, PySem.W.mg_of X G no, ko⟩, ex, eU, eA, eN, eZ, eM, eR, eQ, ag, ap, ar, as, ad, aq, ao, aL, ax, aU, aA, aN, aZ, aM, aR, aQ, bR, tR, x1, x2, x3, x4, x5, x6⟩
  refine Df.law dd10 hfa (fun base kin hns f fd F => ?_) (fun _ _ _ _ _ _ u => rfl)
  have hdice := h_law_dice (P := P) (w := w) (base := base) T dd0
  have hroll := h_law_roll (P := P) (w := w) (base := base) T dd1
  have hpick := h_law_pick T dd2 hroll
  have hown := h_law_own (P := P) (w := w) (base := base) T dd3
  have howE := h_own_e (P := P) (w := w) (base := base) T dd3
  have hall := h_law_all T dd4 hown
  have hmsg := h__law_messages T dd5 hall
  have hdue := h__law_due_messages (P := P) (w := w) (mg := mg) (base := base) dd9
  have hkept := h__law_kept T dd6 hall
  have hcau := h__law_caught T dd7 howE dig
  have hright := h__law_right T dd8 hmsg hdue hkept hcau dig
  exact law_ok T hdice hroll hpick hright F
end K01
open PySem PySem.W PyProof.Rows in
set_option maxRecDepth 100000 in
set_option maxHeartbeats 0 in
theorem PySem.Challenge.cw_grownlines_k01_errors_and_what_they_keep_holds : PySem.Challenge.rw_grownlines_k01_errors_and_what_they_keep.Holds := by
  w_on; o_law; k_head; (case hw => w_witness2)
  k_fill
  refine GL.walk_to (l := PySem.Challenge.rw_grownlines_k01_errors_and_what_they_keep) (n := 63) (k := 7) (sp := K01.spLaw) (x := "_law_script") rfl (by decide) rfl ⟨rfl, by decide, by decide⟩ (fun w h Y => PySem.W.kIn_of Y) ?F (fun K H a ns hl hS => ⟨a, ns, rfl, hS, hl, fun _ => rfl⟩)
  case F =>
    intro w mg fa h KX G hmg
    refine' K01.all_mk KX G hmg ?zz0 ?zz1 ?zz2 ?zz3 ?zz4 ?zz5 ?zz6 ?zz7 ?zz8 ?zz9 ?zz10 ?zz11 ?zz12 ?zz13 ?zz14 ?zz15 ?xd ?nL ?qL ?kL ?ng ?qg ?kg ?np ?qp ?kp ?nr ?qr ?kr ?ns ?qs ?ks ?nd ?qd ?kd ?nq ?qq ?kq ?no ?qo ?ko ?ex ?eU ?eA ?eN ?eZ ?eM ?eR ?eQ ?ag ?ap ?ar ?as ?ad ?aq ?ao ?aL ?ax ?aU ?aA ?aN ?aZ ?aM ?aR ?aQ ?bR ?tR ?x1 ?x2 ?x3 ?x4 ?x5 ?x6 ?dd0 ?dd1 ?dd2 ?dd3 ?dd4 ?dd5 ?dd6 ?dd7 ?dd8 ?dd9 ?dd10
    (case zz0 => k_is)
    (case zz1 => k_is)
    (case zz2 => k_is)
    (case zz3 => k_is)
    (case zz4 => k_is)
    (case zz5 => k_is)
    (case zz6 => k_is)
    (case zz7 => k_is)
    (case zz8 => k_is)
    (case zz9 => k_is)
    (case zz10 => k_is)
    (case zz11 => k_is)
    (case zz12 => k_is)
    (case zz13 => k_is)
    (case zz14 => k_is)
    (case zz15 => k_is)
    (case xd => k_is)
    (case nL => k_is)
    (case qL => k_exc)
    (case kL => k_is)
    (case ng => k_is)
    (case qg => k_exc)
    (case kg => k_is)
    (case np => k_is)
    (case qp => k_exc)
    (case kp => k_is)
    (case nr => k_is)
    (case qr => k_exc)
    (case kr => k_is)
    (case ns => k_is)
    (case qs => k_exc)
    (case ks => k_is)
    (case nd => k_is)
    (case qd => k_exc)
    (case kd => k_is)
    (case nq => k_is)
    (case qq => k_exc)
    (case kq => k_is)
    (case no => k_is)
    (case qo => k_exc)
    (case ko => k_is)
    (case ex => refine' GL.err_mk KX G PySem.F.excBase_ValueError PySem.GLE.chain_value.cons (by decide) (by decide) (fun _ _ _ _ _ _ _ _ _ _ _ _ _ _ _ => rfl) ?yn ?yl ?yiC ?ylf ?ycd ?ysa ?yga ?ygg ?yno ?ytC ?ykC ?yexC ?ytyC ?yhdC; (case yn => k_is); (case yl => k_is); (case yiC => k_is); (case ylf => k_is); (case ycd => k_is); (case ysa => k_is); (case yga => k_is); (case ygg => k_is); (case yno => k_is); (case ytC => k_is); (case ykC => k_is); (case yexC => k_is); (case ytyC => k_is); (case yhdC => k_is))
    (case eU => refine' GL.err_mk KX G PySem.F.excBase_LookupError PySem.GLE.chain_key (by decide) (by decide) (fun _ _ _ _ _ _ _ _ _ _ _ _ _ _ _ => rfl) ?yn ?yl ?yiC ?ylf ?ycd ?ysa ?yga ?ygg ?yno ?ytC ?ykC ?yexC ?ytyC ?yhdC; (case yn => k_is); (case yl => k_is); (case yiC => k_is); (case ylf => k_is); (case ycd => k_is); (case ysa => k_is); (case yga => k_is); (case ygg => k_is); (case yno => k_is); (case ytC => k_is); (case ykC => k_is); (case yexC => k_is); (case ytyC => k_is); (case yhdC => k_is))
    (case eA => refine' GL.err_mk KX G PySem.F.excBase_LookupError PySem.GLE.chain_lookup (by decide) (by decide) (fun _ _ _ _ _ _ _ _ _ _ _ _ _ _ _ => rfl) ?yn ?yl ?yiC ?ylf ?ycd ?ysa ?yga ?ygg ?yno ?ytC ?ykC ?yexC ?ytyC ?yhdC; (case yn => k_is); (case yl => k_is); (case yiC => k_is); (case ylf => k_is); (case ycd => k_is); (case ysa => k_is); (case yga => k_is); (case ygg => k_is); (case yno => k_is); (case ytC => k_is); (case ykC => k_is); (case yexC => k_is); (case ytyC => k_is); (case yhdC => k_is))
    (case eN => refine' GL.err_mk KX G PySem.F.excBase_IndexError PySem.GLE.chain_index (by decide) (by decide) (fun _ _ _ _ _ _ _ _ _ _ _ _ _ _ _ => rfl) ?yn ?yl ?yiC ?ylf ?ycd ?ysa ?yga ?ygg ?yno ?ytC ?ykC ?yexC ?ytyC ?yhdC; (case yn => k_is); (case yl => k_is); (case yiC => k_is); (case ylf => k_is); (case ycd => k_is); (case ysa => k_is); (case yga => k_is); (case ygg => k_is); (case yno => k_is); (case ytC => k_is); (case ykC => k_is); (case yexC => k_is); (case ytyC => k_is); (case yhdC => k_is))
    (case eZ => refine' GL.err_mk KX G PySem.F.excBase_RuntimeError PySem.GLE.chain_runtime (by decide) (by decide) (fun _ _ _ _ _ _ _ _ _ _ _ _ _ _ _ => rfl) ?yn ?yl ?yiC ?ylf ?ycd ?ysa ?yga ?ygg ?yno ?ytC ?ykC ?yexC ?ytyC ?yhdC; (case yn => k_is); (case yl => k_is); (case yiC => k_is); (case ylf => k_is); (case ycd => k_is); (case ysa => k_is); (case yga => k_is); (case ygg => k_is); (case yno => k_is); (case ytC => k_is); (case ykC => k_is); (case yexC => k_is); (case ytyC => k_is); (case yhdC => k_is))
    (case eM => refine' GL.err_mk KX G PySem.F.excBase_OverflowError PySem.GLE.chain_overflow (by decide) (by decide) (fun _ _ _ _ _ _ _ _ _ _ _ _ _ _ _ => rfl) ?yn ?yl ?yiC ?ylf ?ycd ?ysa ?yga ?ygg ?yno ?ytC ?ykC ?yexC ?ytyC ?yhdC; (case yn => k_is); (case yl => k_is); (case yiC => k_is); (case ylf => k_is); (case ycd => k_is); (case ysa => k_is); (case yga => k_is); (case ygg => k_is); (case yno => k_is); (case ytC => k_is); (case ykC => k_is); (case yexC => k_is); (case ytyC => k_is); (case yhdC => k_is))
    (case eR => refine' GL.err_mk KX G PySem.F.excBase_ArithmeticError PySem.GLE.chain_arith (by decide) (by decide) (fun _ _ _ _ _ _ _ _ _ _ _ _ _ _ _ => rfl) ?yn ?yl ?yiC ?ylf ?ycd ?ysa ?yga ?ygg ?yno ?ytC ?ykC ?yexC ?ytyC ?yhdC; (case yn => k_is); (case yl => k_is); (case yiC => k_is); (case ylf => k_is); (case ycd => k_is); (case ysa => k_is); (case yga => k_is); (case ygg => k_is); (case yno => k_is); (case ytC => k_is); (case ykC => k_is); (case yexC => k_is); (case ytyC => k_is); (case yhdC => k_is))
    (case eQ => refine' GL.err_mk KX G PySem.F.excBase_ZeroDivisionError PySem.GLE.chain_zero (by decide) (by decide) (fun _ _ _ _ _ _ _ _ _ _ _ _ _ _ _ => rfl) ?yn ?yl ?yiC ?ylf ?ycd ?ysa ?yga ?ygg ?yno ?ytC ?ykC ?yexC ?ytyC ?yhdC; (case yn => k_is); (case yl => k_is); (case yiC => k_is); (case ylf => k_is); (case ycd => k_is); (case ysa => k_is); (case yga => k_is); (case ygg => k_is); (case yno => k_is); (case ytC => k_is); (case ykC => k_is); (case yexC => k_is); (case ytyC => k_is); (case yhdC => k_is))
    (case ag => exact ⟨⟨(show PySem.W.isClsIn _ _ = true by k_is), by k_is, by k_is, by k_is, by k_is, by k_is, by k_is, by k_is⟩, (show PySem.W.kitOne _ _ _ = some true by kit_is), (show PySem.W.kitOne _ _ _ = some false by kit_is), (show PySem.W.kitOne _ _ _ = some false by kit_is), (show PySem.W.kitOne _ _ _ = some false by kit_is), (show PySem.W.kitOne _ _ _ = some false by kit_is), (show PySem.W.kitOne _ _ _ = some false by kit_is), (show PySem.W.kitOne _ _ _ = some false by kit_is), (show PySem.W.kitOne _ _ _ = some false by kit_is), (show PySem.W.kitOne _ _ _ = some false by kit_is), (show PySem.W.kitOne _ _ _ = some false by kit_is), (show PySem.W.kitOne _ _ _ = some false by kit_is), (show PySem.W.kitOne _ _ _ = some false by kit_is), (show PySem.W.kitOne _ _ _ = some false by kit_is), (show PySem.W.kitOne _ _ _ = some false by kit_is), (show PySem.W.kitOne _ _ _ = some false by kit_is), (show PySem.W.kitOne _ _ _ = some true by kit_is), (show PySem.W.kitOne _ _ _ = some true by kit_is), (show PySem.W.kitOne _ _ _ = some false by kit_is), (show PySem.W.kitOne _ _ _ = some false by kit_is), (show PySem.W.kitOne _ _ _ = some false by kit_is), (show PySem.W.kitOne _ _ _ = some false by kit_is), (show PySem.W.kitOne _ _ _ = some false by kit_is), (show PySem.W.kitOne _ _ _ = some false by kit_is), (show PySem.W.kitOne _ _ _ = some false by kit_is)⟩)
    (case ap => exact ⟨⟨(show PySem.W.isClsIn _ _ = true by k_is), by k_is, by k_is, by k_is, by k_is, by k_is, by k_is, by k_is⟩, (show PySem.W.kitOne _ _ _ = some false by kit_is), (show PySem.W.kitOne _ _ _ = some true by kit_is), (show PySem.W.kitOne _ _ _ = some false by kit_is), (show PySem.W.kitOne _ _ _ = some false by kit_is), (show PySem.W.kitOne _ _ _ = some false by kit_is), (show PySem.W.kitOne _ _ _ = some false by kit_is), (show PySem.W.kitOne _ _ _ = some false by kit_is), (show PySem.W.kitOne _ _ _ = some false by kit_is), (show PySem.W.kitOne _ _ _ = some false by kit_is), (show PySem.W.kitOne _ _ _ = some false by kit_is), (show PySem.W.kitOne _ _ _ = some false by kit_is), (show PySem.W.kitOne _ _ _ = some false by kit_is), (show PySem.W.kitOne _ _ _ = some false by kit_is), (show PySem.W.kitOne _ _ _ = some false by kit_is), (show PySem.W.kitOne _ _ _ = some false by kit_is), (show PySem.W.kitOne _ _ _ = some true by kit_is), (show PySem.W.kitOne _ _ _ = some true by kit_is), (show PySem.W.kitOne _ _ _ = some false by kit_is), (show PySem.W.kitOne _ _ _ = some false by kit_is), (show PySem.W.kitOne _ _ _ = some false by kit_is), (show PySem.W.kitOne _ _ _ = some false by kit_is), (show PySem.W.kitOne _ _ _ = some false by kit_is), (show PySem.W.kitOne _ _ _ = some false by kit_is), (show PySem.W.kitOne _ _ _ = some false by kit_is)⟩)
    (case ar => exact ⟨⟨(show PySem.W.isClsIn _ _ = true by k_is), by k_is, by k_is, by k_is, by k_is, by k_is, by k_is, by k_is⟩, (show PySem.W.kitOne _ _ _ = some false by kit_is), (show PySem.W.kitOne _ _ _ = some false by kit_is), (show PySem.W.kitOne _ _ _ = some true by kit_is), (show PySem.W.kitOne _ _ _ = some false by kit_is), (show PySem.W.kitOne _ _ _ = some false by kit_is), (show PySem.W.kitOne _ _ _ = some false by kit_is), (show PySem.W.kitOne _ _ _ = some false by kit_is), (show PySem.W.kitOne _ _ _ = some false by kit_is), (show PySem.W.kitOne _ _ _ = some false by kit_is), (show PySem.W.kitOne _ _ _ = some false by kit_is), (show PySem.W.kitOne _ _ _ = some false by kit_is), (show PySem.W.kitOne _ _ _ = some false by kit_is), (show PySem.W.kitOne _ _ _ = some false by kit_is), (show PySem.W.kitOne _ _ _ = some false by kit_is), (show PySem.W.kitOne _ _ _ = some false by kit_is), (show PySem.W.kitOne _ _ _ = some true by kit_is), (show PySem.W.kitOne _ _ _ = some true by kit_is), (show PySem.W.kitOne _ _ _ = some false by kit_is), (show PySem.W.kitOne _ _ _ = some false by kit_is), (show PySem.W.kitOne _ _ _ = some false by kit_is), (show PySem.W.kitOne _ _ _ = some false by kit_is), (show PySem.W.kitOne _ _ _ = some false by kit_is), (show PySem.W.kitOne _ _ _ = some false by kit_is), (show PySem.W.kitOne _ _ _ = some false by kit_is)⟩)
    (case as => exact ⟨⟨(show PySem.W.isClsIn _ _ = true by k_is), by k_is, by k_is, by k_is, by k_is, by k_is, by k_is, by k_is⟩, (show PySem.W.kitOne _ _ _ = some false by kit_is), (show PySem.W.kitOne _ _ _ = some false by kit_is), (show PySem.W.kitOne _ _ _ = some false by kit_is), (show PySem.W.kitOne _ _ _ = some true by kit_is), (show PySem.W.kitOne _ _ _ = some false by kit_is), (show PySem.W.kitOne _ _ _ = some false by kit_is), (show PySem.W.kitOne _ _ _ = some false by kit_is), (show PySem.W.kitOne _ _ _ = some false by kit_is), (show PySem.W.kitOne _ _ _ = some false by kit_is), (show PySem.W.kitOne _ _ _ = some false by kit_is), (show PySem.W.kitOne _ _ _ = some false by kit_is), (show PySem.W.kitOne _ _ _ = some false by kit_is), (show PySem.W.kitOne _ _ _ = some false by kit_is), (show PySem.W.kitOne _ _ _ = some false by kit_is), (show PySem.W.kitOne _ _ _ = some false by kit_is), (show PySem.W.kitOne _ _ _ = some true by kit_is), (show PySem.W.kitOne _ _ _ = some true by kit_is), (show PySem.W.kitOne _ _ _ = some false by kit_is), (show PySem.W.kitOne _ _ _ = some false by kit_is), (show PySem.W.kitOne _ _ _ = some false by kit_is), (show PySem.W.kitOne _ _ _ = some false by kit_is), (show PySem.W.kitOne _ _ _ = some false by kit_is), (show PySem.W.kitOne _ _ _ = some false by kit_is), (show PySem.W.kitOne _ _ _ = some false by kit_is)⟩)
    (case ad => exact ⟨⟨(show PySem.W.isClsIn _ _ = true by k_is), by k_is, by k_is, by k_is, by k_is, by k_is, by k_is, by k_is⟩, (show PySem.W.kitOne _ _ _ = some false by kit_is), (show PySem.W.kitOne _ _ _ = some false by kit_is), (show PySem.W.kitOne _ _ _ = some false by kit_is), (show PySem.W.kitOne _ _ _ = some false by kit_is), (show PySem.W.kitOne _ _ _ = some true by kit_is), (show PySem.W.kitOne _ _ _ = some false by kit_is), (show PySem.W.kitOne _ _ _ = some false by kit_is), (show PySem.W.kitOne _ _ _ = some false by kit_is), (show PySem.W.kitOne _ _ _ = some false by kit_is), (show PySem.W.kitOne _ _ _ = some false by kit_is), (show PySem.W.kitOne _ _ _ = some false by kit_is), (show PySem.W.kitOne _ _ _ = some false by kit_is), (show PySem.W.kitOne _ _ _ = some false by kit_is), (show PySem.W.kitOne _ _ _ = some false by kit_is), (show PySem.W.kitOne _ _ _ = some false by kit_is), (show PySem.W.kitOne _ _ _ = some true by kit_is), (show PySem.W.kitOne _ _ _ = some true by kit_is), (show PySem.W.kitOne _ _ _ = some false by kit_is), (show PySem.W.kitOne _ _ _ = some false by kit_is), (show PySem.W.kitOne _ _ _ = some false by kit_is), (show PySem.W.kitOne _ _ _ = some false by kit_is), (show PySem.W.kitOne _ _ _ = some false by kit_is), (show PySem.W.kitOne _ _ _ = some false by kit_is), (show PySem.W.kitOne _ _ _ = some false by kit_is)⟩)
    (case aq => exact ⟨⟨(show PySem.W.isClsIn _ _ = true by k_is), by k_is, by k_is, by k_is, by k_is, by k_is, by k_is, by k_is⟩, (show PySem.W.kitOne _ _ _ = some false by kit_is), (show PySem.W.kitOne _ _ _ = some false by kit_is), (show PySem.W.kitOne _ _ _ = some false by kit_is), (show PySem.W.kitOne _ _ _ = some false by kit_is), (show PySem.W.kitOne _ _ _ = some false by kit_is), (show PySem.W.kitOne _ _ _ = some true by kit_is), (show PySem.W.kitOne _ _ _ = some false by kit_is), (show PySem.W.kitOne _ _ _ = some false by kit_is), (show PySem.W.kitOne _ _ _ = some false by kit_is), (show PySem.W.kitOne _ _ _ = some false by kit_is), (show PySem.W.kitOne _ _ _ = some false by kit_is), (show PySem.W.kitOne _ _ _ = some false by kit_is), (show PySem.W.kitOne _ _ _ = some false by kit_is), (show PySem.W.kitOne _ _ _ = some false by kit_is), (show PySem.W.kitOne _ _ _ = some false by kit_is), (show PySem.W.kitOne _ _ _ = some true by kit_is), (show PySem.W.kitOne _ _ _ = some true by kit_is), (show PySem.W.kitOne _ _ _ = some false by kit_is), (show PySem.W.kitOne _ _ _ = some false by kit_is), (show PySem.W.kitOne _ _ _ = some false by kit_is), (show PySem.W.kitOne _ _ _ = some false by kit_is), (show PySem.W.kitOne _ _ _ = some false by kit_is), (show PySem.W.kitOne _ _ _ = some false by kit_is), (show PySem.W.kitOne _ _ _ = some false by kit_is)⟩)
    (case ao => exact ⟨⟨(show PySem.W.isClsIn _ _ = true by k_is), by k_is, by k_is, by k_is, by k_is, by k_is, by k_is, by k_is⟩, (show PySem.W.kitOne _ _ _ = some false by kit_is), (show PySem.W.kitOne _ _ _ = some false by kit_is), (show PySem.W.kitOne _ _ _ = some false by kit_is), (show PySem.W.kitOne _ _ _ = some false by kit_is), (show PySem.W.kitOne _ _ _ = some false by kit_is), (show PySem.W.kitOne _ _ _ = some false by kit_is), (show PySem.W.kitOne _ _ _ = some true by kit_is), (show PySem.W.kitOne _ _ _ = some false by kit_is), (show PySem.W.kitOne _ _ _ = some false by kit_is), (show PySem.W.kitOne _ _ _ = some false by kit_is), (show PySem.W.kitOne _ _ _ = some false by kit_is), (show PySem.W.kitOne _ _ _ = some false by kit_is), (show PySem.W.kitOne _ _ _ = some false by kit_is), (show PySem.W.kitOne _ _ _ = some false by kit_is), (show PySem.W.kitOne _ _ _ = some false by kit_is), (show PySem.W.kitOne _ _ _ = some true by kit_is), (show PySem.W.kitOne _ _ _ = some true by kit_is), (show PySem.W.kitOne _ _ _ = some false by kit_is), (show PySem.W.kitOne _ _ _ = some false by kit_is), (show PySem.W.kitOne _ _ _ = some false by kit_is), (show PySem.W.kitOne _ _ _ = some false by kit_is), (show PySem.W.kitOne _ _ _ = some false by kit_is), (show PySem.W.kitOne _ _ _ = some false by kit_is), (show PySem.W.kitOne _ _ _ = some false by kit_is)⟩)
    (case aL => exact ⟨⟨(show PySem.W.isClsIn _ _ = true by k_is), by k_is, by k_is, by k_is, by k_is, by k_is, by k_is, by k_is⟩, (show PySem.W.kitOne _ _ _ = some false by kit_is), (show PySem.W.kitOne _ _ _ = some false by kit_is), (show PySem.W.kitOne _ _ _ = some false by kit_is), (show PySem.W.kitOne _ _ _ = some false by kit_is), (show PySem.W.kitOne _ _ _ = some false by kit_is), (show PySem.W.kitOne _ _ _ = some false by kit_is), (show PySem.W.kitOne _ _ _ = some false by kit_is), (show PySem.W.kitOne _ _ _ = some false by kit_is), (show PySem.W.kitOne _ _ _ = some false by kit_is), (show PySem.W.kitOne _ _ _ = some false by kit_is), (show PySem.W.kitOne _ _ _ = some false by kit_is), (show PySem.W.kitOne _ _ _ = some false by kit_is), (show PySem.W.kitOne _ _ _ = some false by kit_is), (show PySem.W.kitOne _ _ _ = some false by kit_is), (show PySem.W.kitOne _ _ _ = some false by kit_is), (show PySem.W.kitOne _ _ _ = some true by kit_is), (show PySem.W.kitOne _ _ _ = some true by kit_is), (show PySem.W.kitOne _ _ _ = some false by kit_is), (show PySem.W.kitOne _ _ _ = some false by kit_is), (show PySem.W.kitOne _ _ _ = some false by kit_is), (show PySem.W.kitOne _ _ _ = some false by kit_is), (show PySem.W.kitOne _ _ _ = some false by kit_is), (show PySem.W.kitOne _ _ _ = some false by kit_is), (show PySem.W.kitOne _ _ _ = some false by kit_is)⟩)
    (case ax => exact ⟨⟨(show PySem.W.isClsIn _ _ = true by k_is), by k_is, by k_is, by k_is, by k_is, by k_is, by k_is, by k_is⟩, (show PySem.W.kitOne _ _ _ = some false by kit_is), (show PySem.W.kitOne _ _ _ = some false by kit_is), (show PySem.W.kitOne _ _ _ = some false by kit_is), (show PySem.W.kitOne _ _ _ = some false by kit_is), (show PySem.W.kitOne _ _ _ = some false by kit_is), (show PySem.W.kitOne _ _ _ = some false by kit_is), (show PySem.W.kitOne _ _ _ = some false by kit_is), (show PySem.W.kitOne _ _ _ = some true by kit_is), (show PySem.W.kitOne _ _ _ = some false by kit_is), (show PySem.W.kitOne _ _ _ = some false by kit_is), (show PySem.W.kitOne _ _ _ = some false by kit_is), (show PySem.W.kitOne _ _ _ = some false by kit_is), (show PySem.W.kitOne _ _ _ = some false by kit_is), (show PySem.W.kitOne _ _ _ = some false by kit_is), (show PySem.W.kitOne _ _ _ = some false by kit_is), (show PySem.W.kitOne _ _ _ = some true by kit_is), (show PySem.W.kitOne _ _ _ = some true by kit_is), (show PySem.W.kitOne _ _ _ = some false by kit_is), (show PySem.W.kitOne _ _ _ = some false by kit_is), (show PySem.W.kitOne _ _ _ = some false by kit_is), (show PySem.W.kitOne _ _ _ = some false by kit_is), (show PySem.W.kitOne _ _ _ = some false by kit_is), (show PySem.W.kitOne _ _ _ = some false by kit_is), (show PySem.W.kitOne _ _ _ = some false by kit_is)⟩)
    (case aU => exact ⟨⟨(show PySem.W.isClsIn _ _ = true by k_is), by k_is, by k_is, by k_is, by k_is, by k_is, by k_is, by k_is⟩, (show PySem.W.kitOne _ _ _ = some false by kit_is), (show PySem.W.kitOne _ _ _ = some false by kit_is), (show PySem.W.kitOne _ _ _ = some false by kit_is), (show PySem.W.kitOne _ _ _ = some false by kit_is), (show PySem.W.kitOne _ _ _ = some false by kit_is), (show PySem.W.kitOne _ _ _ = some false by kit_is), (show PySem.W.kitOne _ _ _ = some false by kit_is), (show PySem.W.kitOne _ _ _ = some false by kit_is), (show PySem.W.kitOne _ _ _ = some true by kit_is), (show PySem.W.kitOne _ _ _ = some false by kit_is), (show PySem.W.kitOne _ _ _ = some false by kit_is), (show PySem.W.kitOne _ _ _ = some false by kit_is), (show PySem.W.kitOne _ _ _ = some false by kit_is), (show PySem.W.kitOne _ _ _ = some false by kit_is), (show PySem.W.kitOne _ _ _ = some false by kit_is), (show PySem.W.kitOne _ _ _ = some false by kit_is), (show PySem.W.kitOne _ _ _ = some false by kit_is), (show PySem.W.kitOne _ _ _ = some true by kit_is), (show PySem.W.kitOne _ _ _ = some false by kit_is), (show PySem.W.kitOne _ _ _ = some true by kit_is), (show PySem.W.kitOne _ _ _ = some false by kit_is), (show PySem.W.kitOne _ _ _ = some false by kit_is), (show PySem.W.kitOne _ _ _ = some false by kit_is), (show PySem.W.kitOne _ _ _ = some false by kit_is)⟩)
    (case aA => exact ⟨⟨(show PySem.W.isClsIn _ _ = true by k_is), by k_is, by k_is, by k_is, by k_is, by k_is, by k_is, by k_is⟩, (show PySem.W.kitOne _ _ _ = some false by kit_is), (show PySem.W.kitOne _ _ _ = some false by kit_is), (show PySem.W.kitOne _ _ _ = some false by kit_is), (show PySem.W.kitOne _ _ _ = some false by kit_is), (show PySem.W.kitOne _ _ _ = some false by kit_is), (show PySem.W.kitOne _ _ _ = some false by kit_is), (show PySem.W.kitOne _ _ _ = some false by kit_is), (show PySem.W.kitOne _ _ _ = some false by kit_is), (show PySem.W.kitOne _ _ _ = some false by kit_is), (show PySem.W.kitOne _ _ _ = some true by kit_is), (show PySem.W.kitOne _ _ _ = some false by kit_is), (show PySem.W.kitOne _ _ _ = some false by kit_is), (show PySem.W.kitOne _ _ _ = some false by kit_is), (show PySem.W.kitOne _ _ _ = some false by kit_is), (show PySem.W.kitOne _ _ _ = some false by kit_is), (show PySem.W.kitOne _ _ _ = some false by kit_is), (show PySem.W.kitOne _ _ _ = some false by kit_is), (show PySem.W.kitOne _ _ _ = some false by kit_is), (show PySem.W.kitOne _ _ _ = some false by kit_is), (show PySem.W.kitOne _ _ _ = some true by kit_is), (show PySem.W.kitOne _ _ _ = some false by kit_is), (show PySem.W.kitOne _ _ _ = some false by kit_is), (show PySem.W.kitOne _ _ _ = some false by kit_is), (show PySem.W.kitOne _ _ _ = some false by kit_is)⟩)
    (case aN => exact ⟨⟨(show PySem.W.isClsIn _ _ = true by k_is), by k_is, by k_is, by k_is, by k_is, by k_is, by k_is, by k_is⟩, (show PySem.W.kitOne _ _ _ = some false by kit_is), (show PySem.W.kitOne _ _ _ = some false by kit_is), (show PySem.W.kitOne _ _ _ = some false by kit_is), (show PySem.W.kitOne _ _ _ = some false by kit_is), (show PySem.W.kitOne _ _ _ = some false by kit_is), (show PySem.W.kitOne _ _ _ = some false by kit_is), (show PySem.W.kitOne _ _ _ = some false by kit_is), (show PySem.W.kitOne _ _ _ = some false by kit_is), (show PySem.W.kitOne _ _ _ = some false by kit_is), (show PySem.W.kitOne _ _ _ = some false by kit_is), (show PySem.W.kitOne _ _ _ = some true by kit_is), (show PySem.W.kitOne _ _ _ = some false by kit_is), (show PySem.W.kitOne _ _ _ = some false by kit_is), (show PySem.W.kitOne _ _ _ = some false by kit_is), (show PySem.W.kitOne _ _ _ = some false by kit_is), (show PySem.W.kitOne _ _ _ = some false by kit_is), (show PySem.W.kitOne _ _ _ = some false by kit_is), (show PySem.W.kitOne _ _ _ = some false by kit_is), (show PySem.W.kitOne _ _ _ = some true by kit_is), (show PySem.W.kitOne _ _ _ = some true by kit_is), (show PySem.W.kitOne _ _ _ = some false by kit_is), (show PySem.W.kitOne _ _ _ = some false by kit_is), (show PySem.W.kitOne _ _ _ = some false by kit_is), (show PySem.W.kitOne _ _ _ = some false by kit_is)⟩)
    (case aZ => exact ⟨⟨(show PySem.W.isClsIn _ _ = true by k_is), by k_is, by k_is, by k_is, by k_is, by k_is, by k_is, by k_is⟩, (show PySem.W.kitOne _ _ _ = some false by kit_is), (show PySem.W.kitOne _ _ _ = some false by kit_is), (show PySem.W.kitOne _ _ _ = some false by kit_is), (show PySem.W.kitOne _ _ _ = some false by kit_is), (show PySem.W.kitOne _ _ _ = some false by kit_is), (show PySem.W.kitOne _ _ _ = some false by kit_is), (show PySem.W.kitOne _ _ _ = some false by kit_is), (show PySem.W.kitOne _ _ _ = some false by kit_is), (show PySem.W.kitOne _ _ _ = some false by kit_is), (show PySem.W.kitOne _ _ _ = some false by kit_is), (show PySem.W.kitOne _ _ _ = some false by kit_is), (show PySem.W.kitOne _ _ _ = some true by kit_is), (show PySem.W.kitOne _ _ _ = some false by kit_is), (show PySem.W.kitOne _ _ _ = some false by kit_is), (show PySem.W.kitOne _ _ _ = some false by kit_is), (show PySem.W.kitOne _ _ _ = some false by kit_is), (show PySem.W.kitOne _ _ _ = some false by kit_is), (show PySem.W.kitOne _ _ _ = some false by kit_is), (show PySem.W.kitOne _ _ _ = some false by kit_is), (show PySem.W.kitOne _ _ _ = some false by kit_is), (show PySem.W.kitOne _ _ _ = some true by kit_is), (show PySem.W.kitOne _ _ _ = some false by kit_is), (show PySem.W.kitOne _ _ _ = some false by kit_is), (show PySem.W.kitOne _ _ _ = some false by kit_is)⟩)
    (case aM => exact ⟨⟨(show PySem.W.isClsIn _ _ = true by k_is), by k_is, by k_is, by k_is, by k_is, by k_is, by k_is, by k_is⟩, (show PySem.W.kitOne _ _ _ = some false by kit_is), (show PySem.W.kitOne _ _ _ = some false by kit_is), (show PySem.W.kitOne _ _ _ = some false by kit_is), (show PySem.W.kitOne _ _ _ = some false by kit_is), (show PySem.W.kitOne _ _ _ = some false by kit_is), (show PySem.W.kitOne _ _ _ = some false by kit_is), (show PySem.W.kitOne _ _ _ = some false by kit_is), (show PySem.W.kitOne _ _ _ = some false by kit_is), (show PySem.W.kitOne _ _ _ = some false by kit_is), (show PySem.W.kitOne _ _ _ = some false by kit_is), (show PySem.W.kitOne _ _ _ = some false by kit_is), (show PySem.W.kitOne _ _ _ = some false by kit_is), (show PySem.W.kitOne _ _ _ = some true by kit_is), (show PySem.W.kitOne _ _ _ = some false by kit_is), (show PySem.W.kitOne _ _ _ = some false by kit_is), (show PySem.W.kitOne _ _ _ = some false by kit_is), (show PySem.W.kitOne _ _ _ = some false by kit_is), (show PySem.W.kitOne _ _ _ = some false by kit_is), (show PySem.W.kitOne _ _ _ = some false by kit_is), (show PySem.W.kitOne _ _ _ = some false by kit_is), (show PySem.W.kitOne _ _ _ = some false by kit_is), (show PySem.W.kitOne _ _ _ = some true by kit_is), (show PySem.W.kitOne _ _ _ = some false by kit_is), (show PySem.W.kitOne _ _ _ = some true by kit_is)⟩)
    (case aR => exact ⟨⟨(show PySem.W.isClsIn _ _ = true by k_is), by k_is, by k_is, by k_is, by k_is, by k_is, by k_is, by k_is⟩, (show PySem.W.kitOne _ _ _ = some false by kit_is), (show PySem.W.kitOne _ _ _ = some false by kit_is), (show PySem.W.kitOne _ _ _ = some false by kit_is), (show PySem.W.kitOne _ _ _ = some false by kit_is), (show PySem.W.kitOne _ _ _ = some false by kit_is), (show PySem.W.kitOne _ _ _ = some false by kit_is), (show PySem.W.kitOne _ _ _ = some false by kit_is), (show PySem.W.kitOne _ _ _ = some false by kit_is), (show PySem.W.kitOne _ _ _ = some false by kit_is), (show PySem.W.kitOne _ _ _ = some false by kit_is), (show PySem.W.kitOne _ _ _ = some false by kit_is), (show PySem.W.kitOne _ _ _ = some false by kit_is), (show PySem.W.kitOne _ _ _ = some false by kit_is), (show PySem.W.kitOne _ _ _ = some true by kit_is), (show PySem.W.kitOne _ _ _ = some false by kit_is), (show PySem.W.kitOne _ _ _ = some false by kit_is), (show PySem.W.kitOne _ _ _ = some false by kit_is), (show PySem.W.kitOne _ _ _ = some false by kit_is), (show PySem.W.kitOne _ _ _ = some false by kit_is), (show PySem.W.kitOne _ _ _ = some false by kit_is), (show PySem.W.kitOne _ _ _ = some false by kit_is), (show PySem.W.kitOne _ _ _ = some false by kit_is), (show PySem.W.kitOne _ _ _ = some false by kit_is), (show PySem.W.kitOne _ _ _ = some true by kit_is)⟩)
    (case aQ => exact ⟨⟨(show PySem.W.isClsIn _ _ = true by k_is), by k_is, by k_is, by k_is, by k_is, by k_is, by k_is, by k_is⟩, (show PySem.W.kitOne _ _ _ = some false by kit_is), (show PySem.W.kitOne _ _ _ = some false by kit_is), (show PySem.W.kitOne _ _ _ = some false by kit_is), (show PySem.W.kitOne _ _ _ = some false by kit_is), (show PySem.W.kitOne _ _ _ = some false by kit_is), (show PySem.W.kitOne _ _ _ = some false by kit_is), (show PySem.W.kitOne _ _ _ = some false by kit_is), (show PySem.W.kitOne _ _ _ = some false by kit_is), (show PySem.W.kitOne _ _ _ = some false by kit_is), (show PySem.W.kitOne _ _ _ = some false by kit_is), (show PySem.W.kitOne _ _ _ = some false by kit_is), (show PySem.W.kitOne _ _ _ = some false by kit_is), (show PySem.W.kitOne _ _ _ = some false by kit_is), (show PySem.W.kitOne _ _ _ = some false by kit_is), (show PySem.W.kitOne _ _ _ = some true by kit_is), (show PySem.W.kitOne _ _ _ = some false by kit_is), (show PySem.W.kitOne _ _ _ = some false by kit_is), (show PySem.W.kitOne _ _ _ = some false by kit_is), (show PySem.W.kitOne _ _ _ = some false by kit_is), (show PySem.W.kitOne _ _ _ = some false by kit_is), (show PySem.W.kitOne _ _ _ = some false by kit_is), (show PySem.W.kitOne _ _ _ = some false by kit_is), (show PySem.W.kitOne _ _ _ = some true by kit_is), (show PySem.W.kitOne _ _ _ = some true by kit_is)⟩)
    (case bR => k_is)
    (case tR => k_is)
    (case x1 => exact PySem.W.exm_ref (by k_is) (by k_is) (by k_is) (by k_is))
    (case x2 => exact PySem.W.exm_ref (by k_is) (by k_is) (by k_is) (by k_is))
    (case x3 => exact PySem.W.exm_ref (by k_is) (by k_is) (by k_is) (by k_is))
    (case x4 => exact PySem.W.exm_ref (by k_is) (by k_is) (by k_is) (by k_is))
    (case x5 => exact PySem.W.exm_ref (by k_is) (by k_is) (by k_is) (by k_is))
    (case x6 => exact PySem.W.exm_ref (by k_is) (by k_is) (by k_is) (by k_is))
    (case dd0 => refine' GL.df_mk KX G ?a ?l ?c ?k; (case a => k_is); (case l => k_is); (case c => k_is); (case k => k_is))
    (case dd1 => refine' GL.df_mk KX G ?a ?l ?c ?k; (case a => k_is); (case l => k_is); (case c => k_is); (case k => k_is))
    (case dd2 => refine' GL.df_mk KX G ?a ?l ?c ?k; (case a => k_is); (case l => k_is); (case c => k_is); (case k => k_is))
    (case dd3 => refine' GL.df_mk KX G ?a ?l ?c ?k; (case a => k_is); (case l => k_is); (case c => k_is); (case k => k_is))
    (case dd4 => refine' GL.df_mk KX G ?a ?l ?c ?k; (case a => k_is); (case l => k_is); (case c => k_is); (case k => k_is))
    (case dd5 => refine' GL.df_mk KX G ?a ?l ?c ?k; (case a => k_is); (case l => k_is); (case c => k_is); (case k => k_is))
    (case dd6 => refine' GL.df_mk KX G ?a ?l ?c ?k; (case a => k_is); (case l => k_is); (case c => k_is); (case k => k_is))
    (case dd7 => refine' GL.df_mk KX G ?a ?l ?c ?k; (case a => k_is); (case l => k_is); (case c => k_is); (case k => k_is))
    (case dd8 => refine' GL.df_mk KX G ?a ?l ?c ?k; (case a => k_is); (case l => k_is); (case c => k_is); (case k => k_is))
    (case dd9 => refine' GL.df_mk KX G ?a ?l ?c ?k; (case a => k_is); (case l => k_is); (case c => k_is); (case k => k_is))
    (case dd10 => refine' GL.df_mk KX G ?a ?l ?c ?k; (case a => k_is); (case l => k_is); (case c => k_is); (case k => k_is))
