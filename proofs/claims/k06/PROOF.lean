import PyProof.Rows.All
import Wide.All
import OpenK.AllK
import Wide.FinOn
import HandS.ForMost
import HandS.IsInst
import HandS.Wide
import HandS.Style
import HandS.TupLe
import HandS.TupAny
import HandS.Walk
import HandS.Evl
import HandS.More
import HandS.Zip
import PyProof.Rows.StrOr
import PyProof.ReprRoads
import KE.KIsAll
import KE.KCallOwn
import PyProof.InstEq
import HandS.OwnIter
import HandS.IterVal
import PyProof.WalksMore
import HandS.Deep
import HandS.Strs
import KE.KOpsOwn
import OpenK.KMeth
import OpenK.KOps
import OpenK.KCls
import PyProof.AttrMiss
import PyProof.Conv_bool
import PyProof.ListNew
import HandS.RaiseMore
import HandS.FStr
import HandS.Text
import HandS.Style
import HandS.StrMore
import HandS.WideBits
import PySem.Challenge.RW_grownlines_k06_whole_vectors_with_operat
set_option Elab.async false
set_option linter.all false
set_option maxRecDepth 100000
set_option exponentiation.threshold 7000
set_option maxHeartbeats 4000000
/-! Promises of defs that are called where nothing is being shown (repr asks it). -/
namespace GL
open PySem PySem.Spec PyProof.Rows L2

def Gd (A : Around) : Prop := A.guards = some []
structure FnG (P : Program) (w : World) (K : PySem.W.Frag) (mg : Str → Option Value) (base : Heap) (CX : CXT) (k : Nat) (f : Addr) (fd : FuncData) (ps : List Str) (sp : Sp) : Prop where
  len : ∀ vs H Q E, sp vs H Q E → vs.length = ps.length
  go : ∀ {A : Around} {outer : List Env} {s : Shared} {H : Hp} {args : Args} {us : List Value} {vs : List V} {Q : VK} {E : XK}, Gd A → Room k A → Env0 P w K mg base A outer s H →
    BindsTo s fd args (ps.zip us) → Vals vs us → sp vs H Q E → codeAny (model P w) A (.call (.ref f) args) (CR CX outer P w H s Q E) s
section
variable {P : Program} {w : World} {K : PySem.W.Frag} {mg : Str → Option Value} {base : Heap} {CX : CXT} {k : Nat} {f : Addr} {fd : FuncData} {ps N : List Str} {sp : Sp} {x qual : Str} {st : Stmt}
theorem FnG.of (F : FnOk P w K mg base CX k f fd ps sp) : FnG P w K mg base CX k f fd ps sp :=
  ⟨F.len, fun {A outer s H args us vs Q E} _ r e b v q => F.run A outer s H args us vs Q E r e b v q⟩
theorem FnG.up {j : Nat} (F : FnG P w K mg base CX j f fd ps sp) (h : j ≤ k) : FnG P w K mg base CX k f fd ps sp :=
  ⟨F.len, fun g r => F.go g (r.mono h)⟩
theorem fnG_mk (F : Fun K x qual st f fd) (S : FnScope N ps (defScope st)) (len : ∀ vs H Q E, sp vs H Q E → vs.length = ps.length)
    (body : ∀ (cdv : Value) (A : Around) (outer : List Env) (s : Shared) (H : Hp) (vs : List V) (Q : VK) (E : XK), Gd A → Room k (A.deeper (envOfC qual (defScope st) s.heap.objs.size f cdv)) → sp vs H Q E →
      ∃ t, PSs (cxOf CX P w K mg base N qual (defScope st) f cdv A outer s H E) (defBody st) t ∧ t { nx := fun _ H' => Q .non H', rt := Q } (start N vs) H) :
    FnG P w K mg base CX (k + 1) f fd ps sp := by
  obtain ⟨oc, od, kV, doc, pm, an, cdv, ct, osl, eF, at_, cR⟩ := F.ex
  subst eF
  constructor
  · exact len
  intro A outer s H args us vs Q E g room e0 bi vals asked
  have inK : K.In s.heap := e0.mod.kin.keeps (fun b o q => (e0.bs b o q).1)
  have line : s.heap.NoLimit := e0.mod.nolimit.keeps (fun b o q => (e0.bs b o q).1)
  have kinds : ∀ y ∈ ps.zip us, (defScope st).names.lookup y.1 = some .local ∨ ((defScope st).names.lookup y.1 = some .cell ∧ ((cellsFrom (s.heap.objs.size + 1) (defScope st).names []).lookup y.1).isSome = true) := by
    intro ⟨n, v⟩ hy
    cases S.par n (List.of_mem_zip hy).1 with
    | inl q => exact Or.inl q
    | inr q => exact Or.inr ⟨q, PySem.W.cellsFrom_some _ _ _ (Or.inl q)⟩
  apply codeAny_call_function room.depth (inK _ _ at_) rfl S.co S.gen rfl (PySem.W.codeRec_of inK cR)
  apply bi
  refine wpAny_newFunctionEnv_cells S.kind kinds (fun env eE s1 x1 => ?_)
  subst eE
  obtain ⟨t, rule, q⟩ := body cdv A outer s H vs Q E g (room.deeper _) asked
  have I0 := inv_start (CX := CX) (E := E) S room.hd e0 (len _ _ _ _ asked) vals x1
  refine ⟨line.keeps x1.toInCall.keep, codeAny_func (wpAny_mono (rule.run [] s1 _ H _ I0 q) (fun fl s' done => ?_) (fun _ _ z => z))⟩
  cases fl with
  | ret u => obtain ⟨v, _, H', J, rv, qv⟩ := done; exact ⟨v, H', J.os, J.bare, J.base, J.hok, rv, qv⟩
  | next => obtain ⟨_, H', J, qv⟩ := done; exact ⟨V.non, H', J.os, J.bare, J.base, J.hok, rfl, qv⟩
  | brk => obtain ⟨_, _, _, z⟩ := done; exact z.elim
  | cont => obtain ⟨_, _, _, z⟩ := done; exact z.elim
end

section
variable {X : Cx} {CX : CXT} {k : Nat} {f C : Addr} {fd : FuncData} {ps : List Str} {sp : Sp} {E : XK} {x m : Str} {p pos apos : Pos} {e o : Expr} {es : List Expr} {ta : TE} {t : TA}

theorem goes {pins : List (Addr × Obj)} {σ : L2.St} {H : Hp} {s : Shared} {Q : VK} {us : List Value} {vs : List V} (F : FnG X.prog X.w X.K X.mg X.base CX k f fd ps sp) (g : Gd X.A) (hr : Room k X.A) (hb : Binds X.K fd ps []) (hx : Passes CX X E)
    (I : Inv X pins σ H s) (r : Vals vs us) (h : sp vs H Q E) : wpAny (model X.prog X.w) X.A (call (.ref f) us) (EP X pins σ Q) X.xe s := by
  have n1 : (us ++ []).length = ps.length := by rw [List.append_nil, ← r.length]; exact F.len _ _ _ _ h
  have b1 := hb s us I.kIn n1
  rw [List.append_nil] at b1
  apply wpAny_call
  refine codeAny_mono (F.go g hr I.env0 b1 r h) (fun res s' z => ?_)
  match res, z with
  | .error _, z => exact hx pins σ H s _ s' I z
  | .ok (.ret _), z => exact I.after z
/-- what a name of a def is good for: the def at it keeps a promise -/
structure Has (P : Program) (w : World) (K : PySem.W.Frag) (mg : Str → Option Value) (base : Heap) (CX : CXT) (x : Str) (k : Nat) (ps : List Str) (sp : Sp) : Prop where
  ex : ∃ f fd, FnG P w K mg base CX k f fd ps sp ∧ mg x = some (.ref f) ∧ PySem.W.keepIn K (.ref f) = true ∧ Binds K fd ps []
theorem pe_callH (h : Has X.prog X.w X.K X.mg X.base CX x k ps sp) (g : Gd X.A) (hr : Room k X.A) (hx : Passes CX X E) (ha : PA X (e :: es) t) (hg : Gl X x := by exact rfl)
    (hdb : (x == ("__debug__" : Str)) = false := by decide) (he : starEach (e :: es) X.env = (false, eval e X.env) :: starEach es X.env := by rfl) (hpl : (backTo pos (starEach es X.env)).any (·.1) = false := by rfl) :
    PE X (.Call (.Name x p) (e :: es) [] pos) (tCall sp [] E t) := by
  obtain ⟨f, fd, F, m, kp, b⟩ := h.ex
  constructor
  intro pins s σ H Q I q
  apply wpAny_Call_Name_kw
  apply ld_glob I hg m _ hdb
  refine PySem.W.callWith_K (h₀ := X.base) I.ok.mod.kin kp (thn (ha.run pos pins s σ H _ I q) (fun us s1 z => ?_)) he hpl
  obtain ⟨vs, H1, I1, r, q1⟩ := z
  rw [List.append_nil] at q1
  exact ⟨I1.kIn, goes F g hr b hx I1 r q1⟩
theorem pe_call0H (h : Has X.prog X.w X.K X.mg X.base CX x k ps sp) (g : Gd X.A) (hr : Room k X.A) (hx : Passes CX X E) (hg : Gl X x := by exact rfl)
    (hdb : (x == ("__debug__" : Str)) = false := by decide) : PE X (.Call (.Name x p) [] [] pos) (tCall sp [] E tNil) := by
  obtain ⟨f, fd, F, m, kp, b⟩ := h.ex
  constructor
  intro pins s σ H Q I q
  apply wpAny_Call_Name_kw
  apply ld_glob I hg m _ hdb
  exact PySem.W.callWith_K0 I.kIn kp (goes (us := []) F g hr b hx I .nil q)
/-- a method of the instances of a class -/
structure HasM (P : Program) (w : World) (K : PySem.W.Frag) (mg : Str → Option Value) (base : Heap) (CX : CXT) (C : Addr) (m : Str) (k : Nat) (ps : List Str) (sp : Sp) : Prop where
  ex : ∃ f fd, FnG P w K mg base CX k f fd ps sp ∧ Meth K C m f ∧ Binds K fd ps []
theorem pe_methH {pl : Sem Bool} (he : PE X o ta) (c : Cls X.K C) (h : HasM X.prog X.w X.K X.mg X.base CX C m k ps sp) (g : Gd X.A) (hr : Room k X.A) (hx : Passes CX X E) (ha : PA X (e :: es) t)
    (hst : starEach (e :: es) X.env = (false, eval e X.env) :: starEach es X.env := by rfl) (hpl : (backTo pos (starEach es X.env)).any (·.1) = false := by rfl)
    (ht : eval (.Call (.Attribute o m apos) (e :: es) [] pos) X.env = ((eval o X.env).bind fun ov => (standAt apos.atName).bind fun _ => (holding [ov] (getMethod ov m pl)).bind fun fm =>
      callWith pos fm.1 fm.2 (backTo pos (starEach (e :: es) X.env)) (backToKw pos (keywordEach [] X.env))) := by rfl) :
    PE X (.Call (.Attribute o m apos) (e :: es) [] pos) (tMeth C m sp [] E ta t) := by
  obtain ⟨f, fd, F, M, b⟩ := h.ex
  constructor
  intro pins s σ H Q I q
  refine PySem.W.methodCall_KW (pl := pl) (thn (he.run pins s σ H _ I q) (fun u s1 z => ?_)) ht
  obtain ⟨x, H1, I1, rx, a, dx, fs, ex, ea, l, q1⟩ := z
  subst ex
  cases (show u = Value.ref a from rx)
  apply getmeth_ok I1 ea c M l
  refine PySem.W.callWith_K (first := [.ref a]) (h₀ := X.base) I.ok.mod.kin M.kp (thn (ha.run pos pins s1 σ H1 _ I1 q1) (fun us s2 z => ?_)) hst hpl
  obtain ⟨vs, H2, I2, r, q2⟩ := z
  rw [List.append_nil] at q2
  exact ⟨I2.kIn, goes (us := .ref a :: us) (vs := .ref a :: vs) F g hr b hx I2 (.cons rfl r) q2⟩
theorem pe_meth0H {pl : Sem Bool} (he : PE X o ta) (c : Cls X.K C) (h : HasM X.prog X.w X.K X.mg X.base CX C m k ps sp) (g : Gd X.A) (hr : Room k X.A) (hx : Passes CX X E)
    (ht : eval (.Call (.Attribute o m apos) [] [] pos) X.env = ((eval o X.env).bind fun ov => (standAt apos.atName).bind fun _ => (holding [ov] (getMethod ov m pl)).bind fun fm =>
      callWith pos fm.1 fm.2 (backTo pos (starEach [] X.env)) (backToKw pos (keywordEach [] X.env))) := by rfl) :
    PE X (.Call (.Attribute o m apos) [] [] pos) (tMeth C m sp [] E ta tNil) := by
  obtain ⟨f, fd, F, M, b⟩ := h.ex
  constructor
  intro pins s σ H Q I q
  refine PySem.W.methodCall_KW (pl := pl) (thn (he.run pins s σ H _ I q) (fun u s1 z => ?_)) ht
  obtain ⟨x, H1, I1, rx, a, dx, fs, ex, ea, l, q1⟩ := z
  subst ex
  cases (show u = Value.ref a from rx)
  apply getmeth_ok I1 ea c M l
  exact PySem.W.callWith_K0 (first := [.ref a]) I1.kIn M.kp (goes (us := [.ref a]) (vs := [.ref a]) F g hr b hx I1 (.cons rfl .nil) q1)
/-- len of an instance whose class has its own __len__ -/
theorem call_lenM (h : HasM X.prog X.w X.K X.mg X.base CX C "__len__" k ["self"] sp) (g : Gd X.A) (hr : Room (k + 1) X.A) (hx : Passes CX X E) :
    CallR X (.builtin "len") (fun xs H Q => ∃ a dx fs, xs = [.ref a] ∧ H a = some (.ins C dx fs) ∧ sp [.ref a] H (fun v H' => ∃ n : Int, v = .int n ∧ 0 ≤ n ∧ n < 2 ^ 63 ∧ Q (.int n) H') E) := by
  intro pins s σ H xs us Q I r q
  obtain ⟨a, dx, fs, rfl, ea, q1⟩ := q
  obtain ⟨f, fd, F, M, b⟩ := h.ex
  obtain ⟨u, rfl, ru⟩ := vals1 r
  cases (show u = Value.ref a from ru)
  obtain ⟨mA, O, _⟩ := ins_get I.hok ea
  obtain ⟨od, J, _⟩ := O.look
  have n1 : ([.ref a] : List Value).length = ["self"].length := rfl
  have b1 := b s [.ref a] I.kIn n1
  rw [List.append_nil] at b1
  obtain ⟨m', fr⟩ := I.fr
  refine PySem.W.len_K fr I.mod.kin J M.at_ M.fn ?_
  apply wpAny_call
  refine codeAny_mono (F.go (A := X.A.in1) g hr.in1 I.env0.in1 b1 (vs := [.ref a]) (.cons rfl .nil) q1) (fun res s' z => ?_)
  match res, z with
  | .error _, z => exact hx pins σ H s _ s' I z
  | .ok (.ret _), z =>
    obtain ⟨v, H', I', rv, n, rfl, n0, n1, q2⟩ := I.after z
    obtain ⟨t, rfl⟩ := rv
    exact ⟨⟨n0, n1⟩, .int n, H', I'.tok _, ⟨_, rfl⟩, q2⟩
/-- a class that is called: its __init__ keeps a promise -/
structure HasC (P : Program) (w : World) (K : PySem.W.Frag) (mg : Str → Option Value) (base : Heap) (x : Str) (C : Addr) (k : Nat) (ps : List Str) (sp : Sp) : Prop where
  ex : ∃ f fd, FnOk P w K mg base CX0 k f fd ps sp ∧ mg x = some (.ref C) ∧ Mk K C f ∧ Binds K fd ps []
theorem pe_makeH (h : HasC X.prog X.w X.K X.mg X.base x C k ps sp) (hr : Room (k + 1) X.A) (hx : Passes CX0 X E) (ha : PA X (e :: es) t) (hg : Gl X x := by exact rfl)
    (hdb : (x == ("__debug__" : Str)) = false := by decide) (he : starEach (e :: es) X.env = (false, eval e X.env) :: starEach es X.env := by rfl) (hpl : (backTo pos (starEach es X.env)).any (·.1) = false := by rfl) :
    PE X (.Call (.Name x p) (e :: es) [] pos) (tMake C sp [] E t) := by
  obtain ⟨f, fd, F, m, M, b⟩ := h.ex
  exact pe_make M F hr hg m b .nil hx ha hdb he hpl
end

/-! ### the script's end -/
section
variable {P : Program} {w : World} {K : PySem.W.Frag} {mg mb : Str → Option Value} {k : Nat} {fa a : Addr} {fd : FuncData} {x : Str} {sp : Sp} {s1 : Shared} {vs : List Value} {ns : List Int} {CX : CXT}
theorem core_end {H : Hp} (inK : K.In s1.heap) (hns : s1.heap.Ns mainGlobals mg) (hb : s1.heap.Ns builtinsNs mb) (hbb : ∀ x : Str, x ≠ "__name__" → mb x = bootBuiltins x) (lim : s1.heap.NoLimit) (hg : s1.gens = #[])
    (ha : s1.heap.get? a = some { cls := .type "list", data := .seq vs.toArray }) (hr : Room k callerA) (F : ∀ base : Heap, K.In base → base.Ns mainGlobals mg → FnG P w K mg base CX k fa fd [x] sp)
    (bi : ∀ (s : Shared) (u : Value), BindsTo s fd ⟨[u], []⟩ [(x, u)]) (asked : sp [.ref a] H (fun v _ => v = .bl true) (fun _ _ _ => False)) (none_ : ∀ e s', CX [] H s1 (fun _ _ _ => False) e s' → False)
    (hO : Only H) (ok : HOk P w H s1.heap) (hA : ∀ b, H b ≠ none → b = a) (hK : H a ≠ none → K.lookup a = none) :
    codeAny (model P w) callerA (.call (.ref fa) ⟨[.ref a], []⟩) (fun r s' => r = .ok (.ret (.bool true)) ∧ OldK s1.heap s'.heap ∧ s'.os = s1.os ∧ AllBare s'.gens) s1 := by
  have untracked : ∀ b o es ep, s1.heap.get? b = some o → o.data = .dict es ep → H b = none := by
    intro b o es ep e d
    rcases hq : H b with _ | u
    · rfl
    · have eb := hA b (by rw [hq]; exact nofun)
      rw [eb, ha] at e
      rw [← Option.some.inj e] at d
      exact absurd d (by exact nofun)
  have ns_ : ∀ b m, s1.heap.Ns b m → (hidT s1.heap H).Ns b m := by
    rintro b m ⟨o, es, ep, e, d, r⟩
    exact ⟨o, es, ep, hidT_get e (untracked b o es ep e d), d, r⟩
  have kin : K.In (hidT s1.heap H) := by
    intro b o e
    apply hidT_get (inK b o e)
    rcases hq : H b with _ | u
    · rfl
    · have eb := hA b (by rw [hq]; exact nofun)
      subst eb
      rw [hK (by rw [hq]; exact nofun)] at e
      exact absurd e nofun
  obtain ⟨mc, l1, l2⟩ := lim
  have e0 : Env0 P w K mg (hidT s1.heap H) callerA [] s1 H :=
    { frames := rfl, mod := ⟨kin, ns_ _ _ hns, ⟨mb, ns_ _ _ hb, hbb⟩, ⟨mc, ns_ _ _ l1, l2⟩⟩, bs := fun b o e => of_hidT e, bsz := Nat.le_of_eq (hidT_size _ _), funs := trivial,
      frf := fun b z => absurd (show b ∈ ([] : List Addr) from z) (List.not_mem_nil), hok := ok, bare := .of_eq hg }
  refine codeAny_mono ((F _ kin (ns_ _ _ hns)).go (args := ⟨[.ref a], []⟩) (us := [.ref a]) (vs := [.ref a]) rfl hr e0 (bi s1 (.ref a)) (.cons rfl .nil) asked) (fun r s' z => ?_)
  match r, z with
  | .error e, z => exact (none_ e s' z).elim
  | .ok (.ret u), z =>
    obtain ⟨v, H', os, bare, un, ok', rv, qv⟩ := z
    cases (show v = .bl true from qv)
    cases (show u = Value.bool true from rv)
    refine ⟨rfl, OldK.of_keep (fun b o e => ?_), os, bare⟩
    rcases hq : H b with _ | u
    · exact un.keep b o e hq (fun z => absurd (show b ∈ ([] : List Addr) from z) List.not_mem_nil) List.not_mem_nil
    · rcases hO b with z | ⟨ob, xs, z⟩
      · rw [z] at hq; cases hq
      · have g1 := (ok b _ z).1
        have g2 := (ok' b _ (un.frzs b ob _ z)).1
        rw [e] at g1
        rw [g2, ← g1]
theorem law_end (inK : K.In s1.heap) (hns : s1.heap.Ns mainGlobals mg) (hb : s1.heap.Ns builtinsNs mb) (hbb : ∀ x : Str, x ≠ "__name__" → mb x = bootBuiltins x) (lim : s1.heap.NoLimit) (hg : s1.gens = #[])
    (ha : s1.heap.get? a = some { cls := .type "list", data := .seq vs.toArray }) (hi : IntsAre vs ns) (hl : ns.length ≤ sizeLine) (hr : Room k callerA) (F : ∀ base : Heap, K.In base → base.Ns mainGlobals mg → FnG P w K mg base CX k fa fd [x] sp)
    (bi : ∀ (s : Shared) (u : Value), BindsTo s fd ⟨[u], []⟩ [(x, u)]) (asked : ∀ H : Hp, Only H → SqL K H a (ns.map V.int) → sp [.ref a] H (fun v _ => v = .bl true) (fun _ _ _ => False)) (none_ : ∀ H e s', CX [] H s1 (fun _ _ _ => False) e s' → False) :
    codeAny (model P w) callerA (.call (.ref fa) ⟨[.ref a], []⟩) (fun r s' => r = .ok (.ret (.bool true)) ∧ OldK s1.heap s'.heap ∧ s'.os = s1.os ∧ AllBare s'.gens) s1 := by
  have rv := vals_ints hi
  have lv : ns.length = vs.length := by have := rv.length; rwa [List.length_map] at this
  rcases hk : K.lookup a with _ | o
  · have own : ∀ b, (fun b => if b = a then some (HO.frz { cls := .type "list", data := .seq vs.toArray } (.lst (ns.map V.int))) else none : Hp) b ≠ none → b = a := by
      intro b z
      by_cases e : b = a
      · exact e
      · exact absurd (if_neg e) z
    have here : (fun b => if b = a then some (HO.frz { cls := .type "list", data := .seq vs.toArray } (.lst (ns.map V.int))) else none : Hp) a = some (HO.frz { cls := .type "list", data := .seq vs.toArray } (.lst (ns.map V.int))) := if_pos rfl
    have only : Only (fun b => if b = a then some (HO.frz { cls := .type "list", data := .seq vs.toArray } (.lst (ns.map V.int))) else none) := by
      intro b
      by_cases e : b = a
      · subst e; exact .inr ⟨_, _, here⟩
      · exact .inl (if_neg e)
    refine core_end inK hns hb hbb lim hg ha hr F bi (asked _ only (.inl (.inr ⟨_, here⟩))) (none_ _) only (fun b u z => ?_) own (fun _ => hk)
    have e := own b (fun h0 => by have z2 : some u = none := z.symm.trans h0; cases z2)
    subst e
    have z := here.symm.trans z
    cases z
    exact ⟨ha, by rw [List.length_map]; exact hl, vs, _, rv, ha⟩
  · have e := inK a o hk
    rw [ha] at e
    have e' := Option.some.inj e
    subst e'
    exact core_end (H := fun _ => none) inK hns hb hbb lim hg ha hr F bi (asked _ (fun _ => .inl rfl) (.inr ⟨_, vs.toArray, _, hk, rfl, rfl, rfl, by rw [List.size_toArray, ← lv]; exact hl, by simpa using rv⟩)) (none_ _) (fun _ => .inl rfl) (fun b u z => by cases z) (fun b z => absurd rfl z) (fun z => absurd rfl z)
theorem walk_to {l : PySem.W.OpenLaw} {n k : Nat} {q : Program} {loose : List Str} {XP : (Str → Option Value) → Heap → Prop} {YP : World → Heap → Prop} {d : DefRec} {Kf : Params → PySem.W.Frag} {sp : PySem.W.Frag → Sp} {x : Str}
    (hn : l.most = some n) (hn2 : n ≤ sizeLine) (hdf : d.params.defaults = []) (hr : Room k callerA) (hY : ∀ (w : World) (h : Heap), YP w h → (Kf w.params).In h)
    (F : ∀ (w : World) (mg : Str → Option Value) (fa : Addr) (h : Heap), (Kf w.params).In h → h.Ns mainGlobals mg → mg d.name = some (.ref fa) →
      ∃ fd : FuncData, (∀ (s : Shared) (u : Value), BindsTo s fd ⟨[u], []⟩ [(x, u)]) ∧ ∀ base : Heap, (Kf w.params).In base → base.Ns mainGlobals mg → FnG l.prog w (Kf w.params) mg base CX0 k fa fd [x] (sp (Kf w.params)))
    (hsp : ∀ (K : PySem.W.Frag) (H : Hp) (a : Addr) (ns : List Int), ns.length ≤ n → SqL K H a (ns.map V.int) → sp K [.ref a] H (fun v _ => v = .bl true) (fun _ _ _ => False)) :
    PySem.W.WalkO q loose XP YP l.row.toRowW d [] (fun f vs => PySem.call f vs) := by
  apply Att.attach_call hn hdf
  intro w s0 s1 mg mb fa o pm cd doc a vs ns G Y _ _ _ hmg obj hInts few gens
  obtain ⟨fd, bi, hF⟩ := F w mg fa _ (hY w _ Y) G.T.g hmg
  exact law_end (hY w _ Y) G.T.g G.T.b G.T.builtins G.T.nolimit gens obj hInts (Nat.le_trans few hn2) hr hF bi (fun H _ S => hsp _ H a ns few S) (fun _ _ _ z => z)
end
end GL
/-! Rules and promises that the proofs of this program share. -/
namespace GL
open PySem PySem.Spec PyProof.Rows L2

/-- a def as it stands behind the top -/
structure Df (K : PySem.W.Frag) (mg : Str → Option Value) (x : Str) (st : Stmt) : Prop where
  ex : ∃ f fd, Fun K x x st f fd ∧ mg x = some (.ref f)
theorem df_mk {K : PySem.W.Frag} {h : Heap} {mg : Str → Option Value} {x : Str} {st : Stmt} {f : Addr} {oc : Value} {od an : Option Addr} {osl : Array (Option Value)} {kV doc pm cdv ct : Value} (X : K.In h) (G : h.Ns mainGlobals mg)
    (a : PySem.W.nsIn K mainGlobals x = some (some (.ref f))) (l : K.lookup f = some ⟨oc, od, .func (PySem.W.fnOf x x (defArgs st) (defBody st) (defScope st) .none kV doc pm an cdv ct), osl⟩)
    (c : PySem.W.codeIn K cdv x = true) (k : PySem.W.keepIn K (.ref f) = true) : Df K mg x st := ⟨f, _, fun_mk l c k, PySem.W.mg_of X G a⟩
section
variable {P : Program} {w : World} {K : PySem.W.Frag} {mg : Str → Option Value} {base : Heap}
theorem _root_.L2.Fun.g {x qual : Str} {st : Stmt} {N ps : List Str} {k : Nat} {sp : Sp} {f : Addr} {fd : FuncData} (F : Fun K x qual st f fd) (S : FnScope N ps (defScope st)) (len : ∀ vs H Q E, sp vs H Q E → vs.length = ps.length)
    (body : ∀ (cdv : Value) (A : Around) (outer : List Env) (s : Shared) (H : Hp) (vs : List V) (Q : VK) (E : XK), Gd (A.deeper (envOfC qual (defScope st) s.heap.objs.size f cdv)) → Room k (A.deeper (envOfC qual (defScope st) s.heap.objs.size f cdv)) → sp vs H Q E →
      ∃ t, PSs (cxOf CX0 P w K mg base N qual (defScope st) f cdv A outer s H E).nox (defBody st) t ∧ t { nx := fun _ H' => Q .non H', rt := Q } (start N vs) H) : FnG P w K mg base CX0 (k + 1) f fd ps sp := by
  refine fnG_mk F S len (fun cdv A outer s H vs Q E g hr q => ?_)
  obtain ⟨t, ht, q⟩ := body cdv A outer s H vs Q E g hr q
  exact ⟨t, ht.nox, q⟩
/-- a method, and the __init__ of a class, as they stand behind the top -/
structure Dm (K : PySem.W.Frag) (C : Addr) (m qual : Str) (st : Stmt) : Prop where
  ex : ∃ f fd, Fun K m qual st f fd ∧ Meth K C m f
structure Dc (K : PySem.W.Frag) (C : Addr) (qual : Str) (st : Stmt) : Prop where
  ex : ∃ f fd, Fun K "__init__" qual st f fd ∧ Mk K C f
theorem dm_mk {C f : Addr} {m qual : Str} {st : Stmt} {oc : Value} {od an : Option Addr} {osl : Array (Option Value)} {kV doc pm cdv ct : Value} (a : PySem.W.findIn K (.ref C) m = some (some (.ref f))) (i : PySem.W.isFn K (.ref f) = true)
    (l : K.lookup f = some ⟨oc, od, .func (PySem.W.fnOf m qual (defArgs st) (defBody st) (defScope st) .none kV doc pm an cdv ct), osl⟩) (c : PySem.W.codeIn K cdv qual = true) (k : PySem.W.keepIn K (.ref f) = true) : Dm K C m qual st :=
  ⟨f, _, fun_mk l c k, ⟨a, i, k⟩⟩
theorem dc_mk {C f : Addr} {qual : Str} {st : Stmt} {oc : Value} {od an : Option Addr} {osl : Array (Option Value)} {kV doc pm cdv ct : Value} (a : PySem.W.findIn K (.ref C) "__init__" = some (some (.ref f))) (i : PySem.W.isFn K (.ref f) = true)
    (l : K.lookup f = some ⟨oc, od, .func (PySem.W.fnOf "__init__" qual (defArgs st) (defBody st) (defScope st) .none kV doc pm an cdv ct), osl⟩) (c : PySem.W.codeIn K cdv qual = true) (k : PySem.W.keepIn K (.ref f) = true)
    (mk : PySem.W.makesIn K C = true) (kc : PySem.W.keepIn K (.ref C) = true) : Dc K C qual st :=
  ⟨f, _, fun_mk l c k, ⟨mk, a, i, kc⟩⟩
theorem Dm.has {C : Addr} {m qual : Str} {st : Stmt} {N ps : List Str} {k : Nat} {sp : Sp} (D : Dm K C m qual st) (S : FnScope N ps (defScope st)) (len : ∀ vs H Q E, sp vs H Q E → vs.length = ps.length)
    (bi : ∀ (kV doc pm : Value) (an : Option Addr) (cdv ct : Value) (us : List Value), us.length = ps.length → bindArgs (PySem.W.fnOf m qual (defArgs st) (defBody st) (defScope st) .none kV doc pm an cdv ct) ⟨us, []⟩ = pure (ps.zip us))
    (body : ∀ (f : Addr) (cdv : Value) (A : Around) (outer : List Env) (s : Shared) (H : Hp) (vs : List V) (Q : VK) (E : XK), Gd (A.deeper (envOfC qual (defScope st) s.heap.objs.size f cdv)) → Room k (A.deeper (envOfC qual (defScope st) s.heap.objs.size f cdv)) → sp vs H Q E →
      ∃ t, PSs (cxOf CX0 P w K mg base N qual (defScope st) f cdv A outer s H E).nox (defBody st) t ∧ t { nx := fun _ H' => Q .non H', rt := Q } (start N vs) H) : HasM P w K mg base CX0 C m (k + 1) ps sp := by
  obtain ⟨f, fd, F, M⟩ := D.ex
  exact ⟨f, fd, F.g S len (body f), M, F.binds bi⟩
theorem Dc.has {C : Addr} {x qual : Str} {st : Stmt} {N ps : List Str} {k : Nat} {sp : Sp} (D : Dc K C qual st) (m : mg x = some (.ref C)) (S : FnScope N ps (defScope st)) (len : ∀ vs H Q E, sp vs H Q E → vs.length = ps.length)
    (bi : ∀ (kV doc pm : Value) (an : Option Addr) (cdv ct : Value) (us : List Value), us.length = ps.length → bindArgs (PySem.W.fnOf "__init__" qual (defArgs st) (defBody st) (defScope st) .none kV doc pm an cdv ct) ⟨us, []⟩ = pure (ps.zip us))
    (body : ∀ (f : Addr) (cdv : Value) (A : Around) (outer : List Env) (s : Shared) (H : Hp) (vs : List V) (Q : VK) (E : XK), Room k (A.deeper (envOfC qual (defScope st) s.heap.objs.size f cdv)) → sp vs H Q E →
      ∃ t, PSs (cxOf CX0 P w K mg base N qual (defScope st) f cdv A outer s H E).nox (defBody st) t ∧ t { nx := fun _ H' => Q .non H', rt := Q } (start N vs) H) : HasC P w K mg base x C (k + 1) ps sp := by
  obtain ⟨f, fd, F, M⟩ := D.ex
  exact ⟨f, fd, F.ok S len (body f), m, M, F.binds bi⟩
theorem Df.has {x : Str} {st : Stmt} {N ps : List Str} {k : Nat} {sp : Sp} (D : Df K mg x st) (S : FnScope N ps (defScope st)) (len : ∀ vs H Q E, sp vs H Q E → vs.length = ps.length)
    (bi : ∀ (kV doc pm : Value) (an : Option Addr) (cdv ct : Value) (us : List Value), us.length = ps.length → bindArgs (PySem.W.fnOf x x (defArgs st) (defBody st) (defScope st) .none kV doc pm an cdv ct) ⟨us, []⟩ = pure (ps.zip us))
    (body : ∀ (f : Addr) (cdv : Value) (A : Around) (outer : List Env) (s : Shared) (H : Hp) (vs : List V) (Q : VK) (E : XK), Gd (A.deeper (envOfC x (defScope st) s.heap.objs.size f cdv)) → Room k (A.deeper (envOfC x (defScope st) s.heap.objs.size f cdv)) → sp vs H Q E →
      ∃ t, PSs (cxOf CX0 P w K mg base N x (defScope st) f cdv A outer s H E).nox (defBody st) t ∧ t { nx := fun _ H' => Q .non H', rt := Q } (start N vs) H) : Has P w K mg base CX0 x (k + 1) ps sp := by
  obtain ⟨f, fd, F, m⟩ := D.ex
  exact ⟨f, fd, F.g S len (body f), m, F.kp, F.binds bi⟩
/-- the law's own def, for the end -/
theorem Df.law {x : Str} {st : Stmt} {p : Str} {k : Nat} {sp : Sp} {fa : Addr} (D : Df K mg x st) (m : mg x = some (.ref fa)) (S : ∀ base : Heap, K.In base → base.Ns mainGlobals mg → ∀ f fd, Fun K x x st f fd → FnG P w K mg base CX0 k f fd [p] sp)
    (bi : ∀ (kV doc pm : Value) (an : Option Addr) (cdv ct : Value) (u : Value), bindArgs (PySem.W.fnOf x x (defArgs st) (defBody st) (defScope st) .none kV doc pm an cdv ct) ⟨[u], []⟩ = pure [(p, u)]) :
    ∃ fd : FuncData, (∀ (s : Shared) (u : Value), BindsTo s fd ⟨[u], []⟩ [(p, u)]) ∧ ∀ base : Heap, K.In base → base.Ns mainGlobals mg → FnG P w K mg base CX0 k fa fd [p] sp := by
  obtain ⟨f, fd, F, m'⟩ := D.ex
  rw [m] at m'
  cases m'
  obtain ⟨oc, od, kV, doc, pm, an, cdv, ct, osl, eF, at_, cR⟩ := F.ex
  exact ⟨fd, fun s u => by subst eF; exact .of_eq (bi kV doc pm an cdv ct u), fun base kin hns => S base kin hns _ _ F⟩
end

/-- what a name of the module holds -/
def MgV (mg : Str → Option Value) (x : Str) (v : V) : Prop := ∃ u, mg x = some u ∧ RelV v u
theorem pe_globV {X : Cx} {x : Str} {v : V} {pos : Pos} (h : MgV X.mg x v) (hg : Gl X x := by exact rfl) (hd : (x == ("__debug__" : Str)) = false := by decide) : PE X (.Name x pos) (tC v) := by
  obtain ⟨u, m, r⟩ := h
  exact pe_glob hg m r hd

/-! ### repr of data -/
def rRepr (K : PySem.W.Frag) : List V → Hp → VK → Prop := fun xs H Q => ∃ x d, xs = [x] ∧ Dp K H x d ∧ d.showable = true ∧ d.hasDict = false ∧ d.depth ≤ 20 ∧ d.shown.length ≤ sizeLine ∧ Q (.str d.shown) H
theorem call_repr {X : Cx} (hg : Gd X.A) (hu : X.A.units + 64 < cLine) : CallR X (.builtin "repr") (rRepr X.K) := by
  intro pins s σ H xs us Q I r h
  obtain ⟨x, d, rfl, hd, hs, hn, hp, hz, q⟩ := h
  obtain ⟨u, rfl, r1⟩ := vals1 r
  have hh : ∀ v, RelV x v → ∃ as, Reads s.heap v d as := fun v rv => Dp.reads I d x v hd rv
  obtain ⟨as, hr⟩ := hh u r1
  cases d with
  | none => cases hr; exact PySem.P.repr_of_none ⟨.str _, H, I.tok _, ⟨_, rfl⟩, q⟩
  | bool b => cases hr; exact PySem.P.repr_of_bool ⟨.str _, H, I.tok _, ⟨_, rfl⟩, q⟩
  | int i => cases hr; exact PySem.P.repr_of_int (by simpa [PyData.showable] using hs) ⟨.str _, H, I.tok _, ⟨_, rfl⟩, q⟩
  | str y => cases hr; exact PySem.P.repr_of_str ⟨.str _, H, I.tok _, ⟨_, rfl⟩, q⟩ hz
  | list ds =>
    obtain ⟨a, rfl⟩ := isRef_of_reads hr rfl
    exact repr_of_reads' hr hs (PyData.noDict_hsm hn) hg (by omega) (fun _ _ e => e) (fun h' u tk hk => ⟨.str _, H, I.kept hk, ⟨_, rfl⟩, q⟩) hz
  | tuple ds =>
    obtain ⟨a, rfl⟩ := isRef_of_reads hr rfl
    exact repr_of_reads' hr hs (PyData.noDict_hsm hn) hg (by omega) (fun _ _ e => e) (fun h' u tk hk => ⟨.str _, H, I.kept hk, ⟨_, rfl⟩, q⟩) hz
  | dict kvs => cases hd

/-! ### values of expressions that change nothing -/
def Vl (te : TE) (σ : L2.St) (v : V) : Prop := ∀ (H : Hp) (Q : VK), Q v H → te σ H Q
theorem vl_and {ta tb : TE} {σ : L2.St} {a b : Bool} (ha : Vl ta σ (.bl a)) (hb : a = true → Vl tb σ (.bl b)) : Vl (tAndV ta tb) σ (.bl (a && b)) := by
  intro H Q q
  refine ha H _ ⟨a, rfl, ?_⟩
  cases a with
  | true => exact iteT (hb rfl H _ q)
  | false => exact iteF q
theorem vl_or {ta tb : TE} {σ : L2.St} {a b : Bool} (ha : Vl ta σ (.bl a)) (hb : a = false → Vl tb σ (.bl b)) : Vl (tOrV ta tb) σ (.bl (a || b)) := by
  intro H Q q
  refine ha H _ ⟨a, rfl, ?_⟩
  cases a with
  | true => exact iteT q
  | false => exact iteF (hb rfl H _ q)

/-! ### in a tuple of data, whatever the depth -/
def rInT (K : PySem.W.Frag) : R2 := fun x y H Q => ∃ d ds, Dp K H x d ∧ Dp K H y (.tuple ds) ∧ SeqAt.shaped d = true ∧ SeqAt.shaped (.tuple ds) = true ∧ Q (.bl (ds.any fun z => PyData.eqv z d)) H
theorem op_inT {X : Cx} (hu : X.A.units + 66 < cLine) : OpR X (compareOp .In) (rInT X.K) := by
  intro pins s σ H x y v u Q I rx ry asked
  obtain ⟨d, ds, hd, he, sd, se, q⟩ := asked
  obtain ⟨_, r1⟩ := Dp.reads I d x v hd rx
  obtain ⟨_, r2⟩ := Dp.reads I (.tuple ds) y u he ry
  have z := SeqAt.depth_of_shaped sd
  exact SeqAt.in_tuple_reads r2 r1 (SeqAt.canLay_of_shaped se) (SeqAt.canLay_of_shaped sd) (by have := Nat.min_le_right (PyData.depthAll ds) d.depth; omega) ⟨.bl _, H, I, rfl, q⟩

/-! ### how many different ints -/
def dist (ns : List Int) : Nat := (ns.foldl PyProof.Rows.step_dedup []).length
theorem range_getD (ns : List Int) : (List.range ns.length).map (fun i => ns.getD i 0) = ns := by
  apply List.ext_getElem
  · rw [List.length_map, List.length_range]
  · intro i h1 h2
    rw [List.getElem_map, List.getElem_range, List.getD_eq_getElem?_getD, List.getElem?_eq_getElem h2]
    rfl
def tLenSet (K : PySem.W.Frag) (ta : TE) : TE := fun σ H Q => ta σ H fun x H1 => ∃ (l : Addr) (ns : List Int), x = .ref l ∧ SqL K H1 l (ns.map V.int) ∧ ns.length < 64 ∧ Q (.int (dist ns : Nat)) H1
theorem pe_lenSet {X : Cx} {a : Expr} {ta : TE} {p p2 q pos : Pos} (hm : X.mg "len" = none) (hm2 : X.mg "set" = none) (ha : PE X a ta) (hg : Gl X "len" := by exact rfl) (hg2 : Gl X "set" := by exact rfl) (hc : X.calm = true := by rfl)
    (na : starEach [a] X.env = (false, eval a X.env) :: starEach [] X.env := by rfl) : PE X (.Call (.Name "len" p) [.Call (.Name "set" p2) [a] [] q] [] pos) (tLenSet X.K ta) := by
  constructor
  intro pins s σ H Q I asked
  refine Call_ ?_
  apply ld_blt I hg hm PySem.boot_len
  apply PyProof.Rows.callWith_builtin1 _ rfl rfl
  apply PyProof.Rows.args_cons _ rfl
  refine Call_ ?_
  apply ld_blt I hg2 hm2 PyProof.Rows.boot_set
  refine PyProof.Rows.callWith_type1 (PyProof.Rows.args_cons (thn (ha.run pins s σ H _ I asked) (fun v s1 z => PyProof.Rows.args_nil ?_)) na) na rfl
  obtain ⟨x, H1, I1, r1, l, ns, ex, hq, small, q1⟩ := z
  subst ex
  cases (show v = Value.ref l from r1)
  obtain ⟨its, r, pl, _⟩ := I1.list hq
  have size : its.toArray.size = ns.length := by have := r.length; rw [List.length_map] at this; rw [List.size_toArray, this]
  refine call_set_list (I1.ok.hd hc) pl.isList (ns := ns) (by simpa using r.ints) (by rw [size]; unfold scanBound; omega) (fun h' tk hS hk => ?_)
  apply PyProof.Rows.args_nil
  have e : (PyProof.Rows.firstMet (fun i => ns.getD i 0) its.toArray.size).length = dist ns := by
    rw [size]
    unfold PyProof.Rows.firstMet dist
    rw [range_getD]
  have few : dist ns ≤ ns.length := by rw [← e, size]; exact PyProof.Rows.firstMet_length_le _ _
  obtain ⟨o, es, ep, t, ho, hex, hd, _, _, _, hf, hn⟩ := hS
  rw [e] at hn
  have I2 : Inv X pins σ H1 { s1 with heap := h', toks := tk } := I1.kept (fun b o e => hk b o (Heap.lt_size e) e)
  exact call_len_set ho hex hd hf (by rw [hn]; omega) ⟨.int (dist ns : Nat), H1, I2.tok _, ⟨_, by rw [hn]⟩, q1⟩

/-! ### great powers -/
def CPowW (i j : Int) : Prop := 0 ≤ j ∧ (Builtin.Int.intBits i : Int) * j ≤ 2 ^ 27
theorem op_powW {X : Cx} : OpR X (binaryOp .Pow) (rI CPowW fun i j => .int (i ^ j.toNat)) := opI fun _ _ _ _ _ _ _ hc q => pow_int hc.1 hc.2 q

/-! ### kinds of values -/
inductive Kd where | non | bl | int | str | lst | tup | dct
def Kd.nm : Kd → String
  | .non => "NoneType" | .bl => "bool" | .int => "int" | .str => "str" | .lst => "list" | .tup => "tuple" | .dct => "dict"
def Kd.isB : Kd → Bool | .bl => true | _ => false
def Kd.isI : Kd → Bool | .bl => true | .int => true | _ => false
def Kd.isS : Kd → Bool | .str => true | _ => false
def Kd.isT : Kd → Bool | .tup => true | _ => false
theorem kit_bool {K : PySem.W.Frag} (k : Kd) : PySem.W.kitOne K (.type k.nm) (.type "bool") = some k.isB := by cases k <;> exact kit_ty (by decide +kernel)
theorem kit_int {K : PySem.W.Frag} (k : Kd) : PySem.W.kitOne K (.type k.nm) (.type "int") = some k.isI := by cases k <;> exact kit_ty (by decide +kernel)
theorem kit_str {K : PySem.W.Frag} (k : Kd) : PySem.W.kitOne K (.type k.nm) (.type "str") = some k.isS := by cases k <;> exact kit_ty (by decide +kernel)
theorem kit_tup {K : PySem.W.Frag} (k : Kd) : PySem.W.kitOne K (.type k.nm) (.type "tuple") = some k.isT := by cases k <;> exact kit_ty (by decide +kernel)
/-- a value of a kind -/
def Of (K : PySem.W.Frag) (H : Hp) (x : V) (k : Kd) : Prop := TyX K H x (.type k.nm)
theorem Of.bl {K : PySem.W.Frag} {H : Hp} {b : Bool} : Of K H (.bl b) .bl := .base (.bl b)
theorem Of.int {K : PySem.W.Frag} {H : Hp} {i : Int} : Of K H (.int i) .int := .base (.int i)
theorem Of.str {K : PySem.W.Frag} {H : Hp} {y : Str} : Of K H (.str y) .str := .base (.str y)
theorem Of.non {K : PySem.W.Frag} {H : Hp} : Of K H .non .non := .base .non
theorem Of.lst {K : PySem.W.Frag} {H : Hp} {a : Addr} {xs : List V} (h : H a = some (.lst xs)) : Of K H (.ref a) .lst := .base (.lst h)
theorem Of.tup {K : PySem.W.Frag} {H : Hp} {a : Addr} {xs : List V} (h : H a = some (.tup xs)) : Of K H (.ref a) .tup := .base (.tup h)
theorem Of.dct {K : PySem.W.Frag} {H : Hp} {a : Addr} {xs : List (Key × V)} (h : H a = some (.dK xs)) : Of K H (.ref a) .dct := .base (.dK h)
theorem Of.blI {K : PySem.W.Frag} {H : Hp} {x : V} (h : Of K H x .bl) : ∃ i, x = .bl i := by
  have e : Value.type (Kd.nm .bl) = .type "bool" := rfl
  unfold Of at h
  rw [e] at h
  generalize ht : Value.type "bool" = t at h
  cases h with
  | base b => cases b <;> first | exact ⟨_, rfl⟩ | exact absurd ht (by decide +kernel) | (exact absurd ht (by intro z; cases z))
  | byt b => exact absurd ht (by decide +kernel)
  | set _ => exact absurd ht (by decide +kernel)
  | kList _ _ => exact absurd ht (by decide +kernel)
  | kTuple _ _ => exact absurd ht (by decide +kernel)
  | kDict _ _ => exact absurd ht (by decide +kernel)
  | fTuple _ => exact absurd ht (by decide +kernel)
  | fDict _ => exact absurd ht (by decide +kernel)
theorem Of.intI {K : PySem.W.Frag} {H : Hp} {x : V} (h : Of K H x .int) : ∃ i, x = .int i := by
  have e : Value.type (Kd.nm .int) = .type "int" := rfl
  unfold Of at h
  rw [e] at h
  generalize ht : Value.type "int" = t at h
  cases h with
  | base b => cases b <;> first | exact ⟨_, rfl⟩ | exact absurd ht (by decide +kernel) | (exact absurd ht (by intro z; cases z))
  | byt b => exact absurd ht (by decide +kernel)
  | set _ => exact absurd ht (by decide +kernel)
  | kList _ _ => exact absurd ht (by decide +kernel)
  | kTuple _ _ => exact absurd ht (by decide +kernel)
  | kDict _ _ => exact absurd ht (by decide +kernel)
  | fTuple _ => exact absurd ht (by decide +kernel)
  | fDict _ => exact absurd ht (by decide +kernel)
theorem Of.strI {K : PySem.W.Frag} {H : Hp} {x : V} (h : Of K H x .str) : ∃ i, x = .str i := by
  have e : Value.type (Kd.nm .str) = .type "str" := rfl
  unfold Of at h
  rw [e] at h
  generalize ht : Value.type "str" = t at h
  cases h with
  | base b => cases b <;> first | exact ⟨_, rfl⟩ | exact absurd ht (by decide +kernel) | (exact absurd ht (by intro z; cases z))
  | byt b => exact absurd ht (by decide +kernel)
  | set _ => exact absurd ht (by decide +kernel)
  | kList _ _ => exact absurd ht (by decide +kernel)
  | kTuple _ _ => exact absurd ht (by decide +kernel)
  | kDict _ _ => exact absurd ht (by decide +kernel)
  | fTuple _ => exact absurd ht (by decide +kernel)
  | fDict _ => exact absurd ht (by decide +kernel)
/-- a value that is no int -/
theorem Of.notInt {K : PySem.W.Frag} {H : Hp} {i : Int} {k : Kd} (h : Of K H (.int i) k) : k = .int := by
  unfold Of at h
  generalize ht : Value.type k.nm = t at h
  cases h with
  | base b =>
    cases b
    cases k <;> first | rfl | exact absurd ht (by decide +kernel)
theorem Of.notStr {K : PySem.W.Frag} {H : Hp} {i : Str} {k : Kd} (h : Of K H (.str i) k) : k = .str := by
  unfold Of at h
  generalize ht : Value.type k.nm = t at h
  cases h with
  | base b =>
    cases b
    cases k <;> first | rfl | exact absurd ht (by decide +kernel)

/-! ### the dice: a list of three ints, the first of them not below nought -/
def Die (H : Hp) (p : Addr) : Prop := ∃ l b c : Int, 0 ≤ l ∧ H p = some (.lst [.int l, .int b, .int c])
/-- all but the dice at p is as it was -/
structure Got (p : Addr) (H H' : Hp) : Prop where
  keep : ∀ b o, H b = some o → b ≠ p → H' b = some o
  die : Die H' p
theorem Got.same {p : Addr} {H : Hp} (d : Die H p) : Got p H H := ⟨fun _ _ e _ => e, d⟩
theorem Got.trans {p : Addr} {H H1 H2 : Hp} (a : Got p H H1) (b : Got p H1 H2) : Got p H H2 := ⟨fun c o e n => b.keep c o (a.keep c o e n) n, b.die⟩
theorem Got.roll {p : Addr} {H : Hp} {l b c : Int} (h : 0 ≤ l) : Got p H (upd H p (.lst [.int l, .int b, .int c])) := ⟨fun d o e n => by rw [upd_ne n]; exact e, l, b, c, h, upd_same⟩
theorem Got.new {p q : Addr} {H : Hp} {o : HO} (d : Die H p) (n : H q = none) : Got p H (upd H q o) := by
  obtain ⟨l, b, c, l0, e⟩ := d
  exact ⟨fun x u z _ => by rw [upd_ne (ne_of_none z n)]; exact z, l, b, c, l0, by rw [upd_ne (ne_of_none e n)]; exact e⟩
theorem Got.free {p q : Addr} {H H' : Hp} (g : Got p H H') (d : Die H p) (n : H' q = none) : H q = none := by
  cases e : H q with
  | none => rfl
  | some o =>
    obtain ⟨l, b, c, _, ep⟩ := g.die
    by_cases z : q = p
    · rw [z, ep] at n; cases n
    · rw [g.keep q o e z] at n; cases n
theorem Got.over {p t : Addr} {H H' : Hp} (g : Got p H H') (d : Die H p) (n : H t = none) (u : HO) : Got p H (upd H' t u) := by
  refine ⟨fun b o e z => by rw [upd_ne (ne_of_none e n)]; exact g.keep b o e z, ?_⟩
  obtain ⟨l, b, c, l0, e⟩ := g.die
  obtain ⟨_, _, _, _, e0⟩ := d
  exact ⟨l, b, c, l0, by rw [upd_ne (ne_of_none e0 n)]; exact e⟩
theorem new_keep {H : Hp} {a p : Addr} {o u : HO} (h : H a = some o) (n : H p = none) : upd H p u a = some o := by rw [upd_ne (ne_of_none h n)]; exact h
theorem new_keep2 {H : Hp} {a p : Addr} {o u u' : HO} (h : H a = some o) (n : H p = none) : upd (upd H p u) p u' a = some o := by rw [upd_ne (ne_of_none h n), upd_ne (ne_of_none h n)]; exact h
theorem Die.ne {p q : Addr} {H : Hp} (d : Die H p) (n : H q = none) : p ≠ q := by
  obtain ⟨l, b, c, _, e⟩ := d
  exact ne_of_none e n
end GL
namespace GL
open PySem PySem.Spec PyProof.Rows L2
variable {K : PySem.W.Frag}
@[irreducible] def B : Int := 10 ^ 400
theorem B_eq : (B : Int) = 10 ^ 400 := by unfold B; rfl
def isIntV : V → Bool
  | .int i => decide (-B < i) && decide (i < B)
  | _ => false
def spIsInt (K : PySem.W.Frag) : Sp := fun vs H Q _ => ∃ x k, vs = [x] ∧ Of K H x k ∧ Q (.bl (isIntV x)) H
def isCountV : V → Bool
  | .int i => isIntV (.int i) && decide (0 ≤ i)
  | _ => false
def spIsCount (K : PySem.W.Frag) : Sp := fun vs H Q _ => ∃ x k, vs = [x] ∧ Of K H x k ∧ Q (.bl (isCountV x)) H
theorem one_sign {y : Str} (h : y.length = 1) : ∃ c, y = ⟨#[c]⟩ := by
  obtain ⟨⟨l⟩⟩ := y
  match l, h with
  | [c], _ => exact ⟨c, rfl⟩
def spRoll : Sp := fun vs H Q _ => ∃ p t, vs = [.ref p, .int t] ∧ Die H p ∧ 0 < t ∧ t.natAbs < 2 ^ 2000 ∧ ∀ r H', 0 ≤ r → r < t → Got p H H' → Q (.int r) H'
theorem at_ints {ns : List Int} {i : Int} (h0 : 0 ≤ i) (h1 : i < ns.length) : ∃ n, atI (ns.map V.int) i = some (.int n) := by
  obtain ⟨j, rfl⟩ : ∃ j : Nat, i = (j : Int) := ⟨i.toNat, by omega⟩
  have hj : j < ns.length := by omega
  exact ⟨ns[j], atI_nat (by rw [List.getElem?_map, List.getElem?_eq_getElem hj]; rfl)⟩
def spDice (K : PySem.W.Frag) : Sp := fun vs H Q _ => ∃ (a : Addr) (ns : List Int) (spot : Int), vs = [.ref a, .int spot] ∧ SqL K H a (ns.map V.int) ∧ 0 ≤ spot ∧ ∀ p H', H p = none → Same H H' → Die H' p → Q (.ref p) H'
def spPick : Sp := fun vs H Q _ => ∃ (p q : Addr) (xs : List V), vs = [.ref p, .ref q] ∧ Die H p ∧ (H q = some (.lst xs) ∨ H q = some (.tup xs)) ∧ q ≠ p ∧ 0 < xs.length ∧ xs.length ≤ 1000 ∧ ∀ v H', v ∈ xs → Got p H H' → Q v H'
def spLimit : Sp := fun vs H Q _ => vs = [] ∧ Q (.int B) H
theorem int_short {n : Int} : isIntV (.int n) = decide (n.natAbs < 10 ^ 400) := by
  have e : (10 : Int) ^ 400 = ((10 ^ 400 : Nat) : Int) := by rw [Int.natCast_pow]; rfl
  show (decide (-B < n) && decide (n < B)) = _
  rw [B_eq, e]
  generalize (10 ^ 400 : Nat) = N
  rw [Bool.eq_iff_iff]
  simp only [Bool.and_eq_true, decide_eq_true_eq]
  omega

theorem _root_.GL.Of.same {H H' : Hp} {x : V} {k : Kd} (h : Of K H x k) (s : Same H H') : Of K H' x k := by
  unfold Of at h ⊢
  generalize Value.type k.nm = t at h ⊢
  cases h with
  | base b =>
    cases b with
    | non => exact .base .non
    | bl x => exact .base (.bl x)
    | int i => exact .base (.int i)
    | str y => exact .base (.str y)
    | flt y => exact .base (.flt y)
    | lst e => exact .base (.lst (s _ _ e))
    | frz e => exact .base (.frz (s _ _ e))
    | tup e => exact .base (.tup (s _ _ e))
    | dK e => exact .base (.dK (s _ _ e))
    | dT e => exact .base (.dT (s _ _ e))
    | ins e a b c d e2 => exact .base (.ins (s _ _ e) a b c d e2)
  | byt b => exact .byt b
  | set e => exact .set (s _ _ e)
  | kList e c => exact .kList e c
  | kTuple e c => exact .kTuple e c
  | kDict e c => exact .kDict e c
  | fTuple e => exact .fTuple (s _ _ e)
  | fDict e => exact .fDict (s _ _ e)
/-- what is told of a value as a point -/
def PtV (K : PySem.W.Frag) (H : Hp) (x : V) (r : Bool) : Prop := ∃ k, Of K H x k ∧ (k.isT = false → r = false) ∧
  (k.isT = true → ∃ a xs, x = .ref a ∧ SqT K H a xs ∧ xs.length ≤ 1000 ∧ (xs.length ≠ 2 → r = false) ∧ (xs.length = 2 → ∃ u v ku kv, xs = [u, v] ∧ Of K H u ku ∧ Of K H v kv ∧ r = (isIntV u && isIntV v)))
def spIsPoint (K : PySem.W.Frag) : Sp := fun vs H Q _ => ∃ x r, vs = [x] ∧ PtV K H x r ∧ Q (.bl r) H
theorem ptTup2 {H : Hp} {a : Addr} {u v : V} {ku kv : Kd} (h : H a = some (.tup [u, v])) (hu : Of K H u ku) (hv : Of K H v kv) : PtV K H (.ref a) (isIntV u && isIntV v) :=
  ⟨.tup, .tup h, (fun z => nomatch z), fun _ => ⟨a, _, rfl, SqT.of h, (by show 2 ≤ 1000; decide), fun z => absurd rfl z, fun _ => ⟨u, v, ku, kv, rfl, hu, hv, rfl⟩⟩⟩
theorem ptTupN {H : Hp} {a : Addr} {xs : List V} (h : H a = some (.tup xs)) (l : xs.length ≤ 1000) (n : xs.length ≠ 2) : PtV K H (.ref a) false :=
  ⟨.tup, .tup h, (fun z => nomatch z), fun _ => ⟨a, _, rfl, SqT.of h, l, fun _ => rfl, fun z => absurd z n⟩⟩
theorem ptNo {H : Hp} {x : V} {k : Kd} (h : Of K H x k) (e : k.isT = false) : PtV K H x false := ⟨k, h, fun _ => rfl, fun z => by rw [e] at z; cases z⟩
def spPart : Sp := fun vs H Q _ => ∃ p, vs = [.ref p] ∧ Die H p ∧ ∀ n H', isIntV (.int n) = true → Got p H H' → Q (.int n) H'
def spMixed : Sp := fun vs H Q _ => ∃ (p q : Addr) (xs : List V), vs = [.ref p, .ref q] ∧ Die H p ∧ H q = some (.lst xs) ∧ q ≠ p ∧ xs.length ≤ 1000 ∧ ∀ l ys H', H l = none → l ≠ p → ys.length = xs.length → (∀ v ∈ ys, v ∈ xs) → H' l = some (.lst ys) → Got p H H' → Q (.ref l) H'

theorem Same.new {H : Hp} {p : Addr} {o : HO} (n : H p = none) : Same H (upd H p o) := fun b u e => by rw [upd_ne (ne_of_none e n)]; exact e
theorem Same.over {H H' : Hp} {p : Addr} (s : Same H H') (n : H p = none) (o : HO) : Same H (upd H' p o) := fun b u e => by rw [upd_ne (ne_of_none e n)]; exact s b u e
/-! ### lists of truth values -/
def bls (bs : List Bool) : PyData := .list (bs.map .bool)
theorem bls_dp {K : PySem.W.Frag} {H : Hp} : ∀ {bs : List Bool}, DpAll K H (bs.map V.bl) (bs.map .bool)
  | [] => .nil
  | b :: _ => .cons (.bl b) bls_dp
theorem bls_at {K : PySem.W.Frag} {H : Hp} {l : Addr} {bs : List Bool} (h : H l = some (.lst (bs.map V.bl))) : Dp K H (.ref l) (bls bs) := .lst (SqL.of h) bls_dp
theorem bls_eqv (bs : List Bool) : PyData.eqv (bls bs) (bls bs) = true := by
  show PyData.eqvAll (bs.map .bool) (bs.map .bool) = true
  induction bs with
  | nil => rfl
  | cons b r ih => rw [List.map_cons, PyData.eqvAll, ih]; cases b <;> rfl
theorem b4_ok (x y z u : Bool) : (bls [x, y, z, u]).showable = true ∧ (bls [x, y, z, u]).hasDict = false ∧ (bls [x, y, z, u]).depth ≤ 20 ∧ (bls [x, y, z, u]).shown.length ≤ sizeLine := by
  cases x <;> cases y <;> cases z <;> cases u <;> exact ⟨by decide +kernel, by decide +kernel, by decide +kernel, by decide +kernel⟩
theorem b4_shaped (x y z u : Bool) : SeqAt.shaped (bls [x, y, z, u]) = true := by cases x <;> cases y <;> cases z <;> cases u <;> decide +kernel
theorem few_of {n k : Nat} (hk : 1 ≤ k) (z : Int) (hz : (if (if (n : Int) < k then (n : Int) else k) > 1 then (if (n : Int) < k then (n : Int) else k) else 1) = z) : 0 ≤ z ∧ z ≤ k := by
  subst hz
  constructor <;> (split <;> (try split) <;> omega)
theorem seq_got {K : PySem.W.Frag} {a p : Addr} {xs : List V} {H0 H1 H' : Hp} (h : SqL K H0 a xs) (np : H0 p = none) (same : Same H0 H1) (g : Got p H1 H') : SqL K H' a xs := by
  have kp : ∀ o, H0 a = some o → H' a = some o := fun o e => g.keep a o (same a o e) (ne_of_none e np)
  rcases h with (z | ⟨o, z⟩) | z
  · exact .inl (.inl (kp _ z))
  · exact .inl (.inr ⟨o, kp _ z⟩)
  · exact .inr z
theorem take_map {α β : Type} {f : α → β} {l : List α} {i : Nat} {x : α} (h : l[i]? = some x) : (l.take i).map f ++ [f x] = (l.take (i + 1)).map f := by
  rw [List.take_add_one, h, List.map_append]
  rfl
theorem four {l : List V} (h : l.length = 4) : ∃ a b c d, l = [a, b, c, d] := by
  match l, h with
  | [a, b, c, d], _ => exact ⟨a, b, c, d, rfl⟩
end GL
namespace GL
open PySem PySem.Spec PyProof.Rows L2
/-! ### the two grids: false is the square one, true the other -/
def nm : Bool → Str | false => "square" | true => "triangle"
def num : Bool → Nat | false => 4 | true => 6
def sl : Bool → Int | false => 0 | true => 1
def ux : Bool → List (Int × Int)
  | false => [(1, 0), (0, 1), (-1, 0), (0, -1)]
  | true => [(1, 0), (0, 1), (-1, 1), (-1, 0), (0, -1), (1, -1)]
def mul (t : Bool) (u v : Int × Int) : Int × Int := (u.1 * v.1 - u.2 * v.2, u.1 * v.2 + u.2 * v.1 + sl t * (u.2 * v.2))
def nrm (t : Bool) (u : Int × Int) : Int := u.1 * u.1 + sl t * u.1 * u.2 + u.2 * u.2
def flip (t : Bool) (u : Int × Int) : Int × Int := (u.1 + sl t * u.2, -u.2)
def uni (t : Bool) (k : Int) : Int × Int := (ux t).getD (k % (num t : Int)).toNat (0, 0)
/-- what of the grids stands in the text -/
structure Uni (K : PySem.W.Frag) (w : World) (aG dU : Addr) (U : Bool → Addr) (us : Bool → List Addr) : Prop where
  grids : ∀ H, SqT K H aG [.str "square", .str "triangle"]
  key : ∀ t, KDct K w dU (nm t) (.ref (U t))
  tup : ∀ t H, SqT K H (U t) ((us t).map V.ref)
  len : ∀ t, (us t).length = num t
  pt : ∀ t (i : Nat) a p, (us t)[i]? = some a → (ux t)[i]? = some p → ∀ H, SqT K H a [.int p.1, .int p.2]
def gF (U : Bool → Addr) (t : Bool) : List (Str × V) := [("name", .str (nm t)), ("units", .ref (U t)), ("half", .int ((num t : Int) / 2)), ("slant", .int (sl t))]
def GridAt (C : Addr) (U : Bool → Addr) (H : Hp) (g : Addr) (t : Bool) : Prop := ∃ dx, H g = some (.ins C dx (gF U t))
structure GCls (K : PySem.W.Frag) (C : Addr) : Prop where
  cls : Cls K C
  name : NoAttr K C "name"
  units : NoAttr K C "units"
  half : NoAttr K C "half"
  slant : NoAttr K C "slant"
theorem put2 {a b : Str} {x y : V} (h : ¬ a = b) : putF b y [(a, x)] = [(a, x), (b, y)] := by
  show (if a = b then _ else (a, x) :: putF b y []) = _
  rw [if_neg h]
  rfl
theorem put3 {a b c : Str} {x y z : V} (h1 : ¬ a = c) (h2 : ¬ b = c) : putF c z [(a, x), (b, y)] = [(a, x), (b, y), (c, z)] := by
  show (if a = c then _ else (a, x) :: putF c z [(b, y)]) = _
  rw [if_neg h1, put2 h2]
theorem put4 {a b c d : Str} {x y z u : V} (h1 : ¬ a = d) (h2 : ¬ b = d) (h3 : ¬ c = d) : putF d u [(a, x), (b, y), (c, z)] = [(a, x), (b, y), (c, z), (d, u)] := by
  show (if a = d then _ else (a, x) :: putF d u [(b, y), (c, z)]) = _
  rw [if_neg h1, put3 h2 h3]
variable {K : PySem.W.Frag} {C : Addr} {U : Bool → Addr} {us : Bool → List Addr} {t : Bool}
theorem gF_units : (gF U t).lookup ("units" : Str) = some (.ref (U t)) := by unfold gF; cases t <;> rfl
theorem gF_slant : (gF U t).lookup ("slant" : Str) = some (.int (sl t)) := by unfold gF; cases t <;> rfl
theorem gF_half : (gF U t).lookup ("half" : Str) = some (.int ((num t : Int) / 2)) := by unfold gF; cases t <;> rfl
theorem gF_name : (gF U t).lookup ("name" : Str) = some (.str (nm t)) := by unfold gF; cases t <;> rfl
theorem GridAt.same {H H' : Hp} {g : Addr} (h : GridAt C U H g t) (s : Same H H') : GridAt C U H' g t := let ⟨dx, e⟩ := h; ⟨dx, s _ _ e⟩
theorem GridAt.got {p : Addr} {H H' : Hp} {g : Addr} (h : GridAt C U H g t) (s : Got p H H') (d : Die H p) : GridAt C U H' g t := by
  obtain ⟨dx, e⟩ := h
  obtain ⟨_, _, _, _, e0⟩ := d
  exact ⟨dx, s.keep _ _ e (ne_of e e0 (by intro z; cases z))⟩
/-- a point that stands at an address -/
def PAt (K : PySem.W.Frag) (H : Hp) (a : Addr) (u : Int × Int) : Prop := SqT K H a [.int u.1, .int u.2]
theorem PAt.same {H H' : Hp} {a : Addr} {u : Int × Int} (h : PAt K H a u) (s : Same H H') : PAt K H' a u := by
  rcases h with (z | ⟨o, z⟩) | z
  · exact .inl (.inl (s _ _ z))
  · exact .inl (.inr ⟨o, s _ _ z⟩)
  · exact .inr z
theorem PAt.got {p : Addr} {H H' : Hp} {a : Addr} {u : Int × Int} (h : PAt K H a u) (s : Got p H H') (d : Die H p) : PAt K H' a u := by
  obtain ⟨_, _, _, _, e0⟩ := d
  rcases h with (z | ⟨o, z⟩) | z
  · exact .inl (.inl (s.keep _ _ z (ne_of z e0 (by intro z; cases z))))
  · exact .inl (.inr ⟨o, s.keep _ _ z (ne_of z e0 (by intro z; cases z))⟩)
  · exact .inr z
theorem PAt.of {H : Hp} {a : Addr} {u : Int × Int} (h : H a = some (.tup [.int u.1, .int u.2])) : PAt K H a u := SqT.of h
def Sm (u : Int × Int) : Prop := u.1.natAbs < 2 ^ 3000 ∧ u.2.natAbs < 2 ^ 3000
theorem sm_mul {x y : Int} (hx : x.natAbs < 2 ^ 3000) (hy : y.natAbs < 2 ^ 3000) : CMulW x y := wide_mul hx hy (by decide) (by decide) (by decide)
theorem sl_mul {x : Int} (hx : x.natAbs < 2 ^ 6000) : CMulW (sl t) x := wide_mul (a := 1) (by cases t <;> decide) hx (by decide) (by decide) (by decide)
theorem num_pos : (0 : Int) < (num t : Int) := by cases t <;> decide
theorem len_ux : (ux t).length = num t := by cases t <;> rfl
theorem uni_at (k : Int) : (ux t)[(k % (num t : Int)).toNat]? = some (uni t k) := by
  have h1 := Int.emod_nonneg k (Int.ne_of_gt (num_pos (t := t)))
  have h2 := Int.emod_lt_of_pos k (num_pos (t := t))
  have h3 : (k % (num t : Int)).toNat < (ux t).length := by rw [len_ux]; omega
  rw [List.getElem?_eq_getElem h3]
  unfold uni
  rw [List.getD_eq_getElem?_getD, List.getElem?_eq_getElem h3]
  rfl
theorem uni_sm {k : Int} : Sm (uni t k) := by
  have h : ∀ p ∈ ux t, p.1.natAbs ≤ 1 ∧ p.2.natAbs ≤ 1 := by cases t <;> decide
  have z := h _ (List.mem_of_getElem? (uni_at (t := t) k))
  have b : (1 : Nat) < 2 ^ 3000 := by decide
  exact ⟨Nat.lt_of_le_of_lt z.1 b, Nat.lt_of_le_of_lt z.2 b⟩
theorem SqT.tup' {H : Hp} {a : Addr} {xs : List V} (h : SqT K H a xs) : Of K H (.ref a) .tup := by
  rcases h with (z | ⟨o, z⟩) | ⟨o, its, n, l, cl, _⟩
  · exact .base (.tup z)
  · exact .fTuple z
  · exact .kTuple l cl
theorem ptOk_sm {u : Int × Int} (h1 : isIntV (.int u.1) = true) (h2 : isIntV (.int u.2) = true) : Sm u := by
  rw [int_short] at h1 h2
  have b : (10 ^ 400 : Nat) ≤ 2 ^ 3000 := by decide +kernel
  exact ⟨Nat.lt_of_lt_of_le (of_decide_eq_true h1) b, Nat.lt_of_lt_of_le (of_decide_eq_true h2) b⟩
theorem len_put {f : Str} {y : V} : ∀ {fs : List (Str × V)}, (putF f y fs).length ≤ fs.length + 1
  | [] => Nat.le_refl _
  | (a, x) :: r => by
    show (if a = f then (a, y) :: r else (a, x) :: putF f y r).length ≤ _
    by_cases h : a = f
    · rw [if_pos h]; exact Nat.le_succ _
    · rw [if_neg h]; exact Nat.succ_le_succ len_put
theorem small_put {f : Str} {y : V} {fs : List (Str × V)} {n : Nat} (h : fs.length ≤ n) : (putF f y fs).length ≤ n + 1 := Nat.le_trans len_put (Nat.succ_le_succ h)
theorem bl_ne (x y : Bool) : (!decide (V.bl x = V.bl y)) = (x != y) := by cases x <;> cases y <;> decide +kernel
theorem bl_eq (x y : Bool) : decide (V.bl x = V.bl y) = (x == y) := by cases x <;> cases y <;> decide +kernel
theorem nat_eq (n m : Nat) : decide (V.int (n : Int) = V.int (m : Int)) = decide (n = m) := by
  by_cases h : n = m
  · subst h; rw [decide_eq_true rfl, decide_eq_true rfl]
  · rw [decide_eq_false h, decide_eq_false (fun z => h (by injection z with z; omega))]
/-! ### promises -/
def spInit (C : Addr) (U : Bool → Addr) : Sp := fun vs H Q _ => ∃ p dx t, vs = [.ref p, .str (nm t)] ∧ H p = some (.ins C dx []) ∧ ∀ H', (∀ b, b ≠ p → H' b = H b) → H' p = some (.ins C dx (gF U t)) → Q .non H'
def spTimes (K : PySem.W.Frag) (C : Addr) (U : Bool → Addr) : Sp := fun vs H Q _ => ∃ g t a b u v, vs = [.ref g, .ref a, .ref b] ∧ GridAt C U H g t ∧ PAt K H a u ∧ PAt K H b v ∧ Sm u ∧ Sm v ∧ ∀ p, H p = none → Q (.ref p) (upd H p (.tup [.int (mul t u v).1, .int (mul t u v).2]))
def spNorm (K : PySem.W.Frag) (C : Addr) (U : Bool → Addr) : Sp := fun vs H Q _ => ∃ g t a u, vs = [.ref g, .ref a] ∧ GridAt C U H g t ∧ PAt K H a u ∧ Sm u ∧ Q (.int (nrm t u)) H
def spFlip (K : PySem.W.Frag) (C : Addr) (U : Bool → Addr) : Sp := fun vs H Q _ => ∃ g t a u, vs = [.ref g, .ref a] ∧ GridAt C U H g t ∧ PAt K H a u ∧ Sm u ∧ ∀ p, H p = none → Q (.ref p) (upd H p (.tup [.int (flip t u).1, .int (flip t u).2]))
def spTurned (K : PySem.W.Frag) (C : Addr) (U : Bool → Addr) : Sp := fun vs H Q _ => ∃ g t a u k, vs = [.ref g, .ref a, .int k] ∧ GridAt C U H g t ∧ PAt K H a u ∧ Sm u ∧ ∀ p, H p = none → Q (.ref p) (upd H p (.tup [.int (mul t u (uni t k)).1, .int (mul t u (uni t k)).2]))
def ptOk (u : Int × Int) : Prop := isIntV (.int u.1) = true ∧ isIntV (.int u.2) = true
def spCheckP (K : PySem.W.Frag) : Sp := fun vs H Q _ => ∃ a u, vs = [.ref a] ∧ PAt K H a u ∧ ptOk u ∧ Q .non H
def spCheckN : Sp := fun vs H Q _ => ∃ k, vs = [.int k] ∧ isIntV (.int k) = true ∧ Q .non H
def spMUnit (K : PySem.W.Frag) (C : Addr) (U : Bool → Addr) : Sp := fun vs H Q _ => ∃ g t k, vs = [.ref g, .int k] ∧ GridAt C U H g t ∧ isIntV (.int k) = true ∧ ∀ i, (∀ H', PAt K H' i (uni t k)) → Q (.ref i) H
def spMNorm (K : PySem.W.Frag) (C : Addr) (U : Bool → Addr) : Sp := fun vs H Q _ => ∃ g t a u, vs = [.ref g, .ref a] ∧ GridAt C U H g t ∧ PAt K H a u ∧ ptOk u ∧ Q (.int (nrm t u)) H
def spMFlip (K : PySem.W.Frag) (C : Addr) (U : Bool → Addr) : Sp := fun vs H Q _ => ∃ g t a u, vs = [.ref g, .ref a] ∧ GridAt C U H g t ∧ PAt K H a u ∧ ptOk u ∧ ∀ p, H p = none → Q (.ref p) (upd H p (.tup [.int (flip t u).1, .int (flip t u).2]))
def spMTurned (K : PySem.W.Frag) (C : Addr) (U : Bool → Addr) : Sp := fun vs H Q _ => ∃ g t a u k, vs = [.ref g, .ref a, .int k] ∧ GridAt C U H g t ∧ PAt K H a u ∧ ptOk u ∧ isIntV (.int k) = true ∧ ∀ p, H p = none → Q (.ref p) (upd H p (.tup [.int (mul t u (uni t k)).1, .int (mul t u (uni t k)).2]))
def spMLen (C : Addr) (U : Bool → Addr) : Sp := fun vs H Q _ => ∃ g t, vs = [.ref g] ∧ GridAt C U H g t ∧ Q (.int (num t : Nat)) H
def alt (t : Bool) (e o : Int × Int) : Bool :=
  decide (dist [0, (e.2 - e.1) % (num t : Int), (o.1 - e.1) % (num t : Int), (o.2 - e.1) % (num t : Int)] = 4) &&
    (decide ((o.1 - e.1) % (num t : Int) < (e.2 - e.1) % (num t : Int)) != decide ((o.2 - e.1) % (num t : Int) < (e.2 - e.1) % (num t : Int)))
def spMAlt (K : PySem.W.Frag) (C : Addr) (U : Bool → Addr) : Sp := fun vs H Q _ => ∃ g t a b e o, vs = [.ref g, .ref a, .ref b] ∧ GridAt C U H g t ∧ PAt K H a e ∧ PAt K H b o ∧ ptOk e ∧ ptOk o ∧ ∀ H', Same H H' → Q (.bl (alt t e o)) H'
/-! ### the law's own grids -/
def PlainAt (H : Hp) (q : Addr) (t : Bool) : Prop := H q = some (.dK [(.inr "grid", .str (nm t))])
theorem PlainAt.get {H : Hp} {q : Addr} {t : Bool} (h : PlainAt H q t) : DGet H q (.str "grid") (some (.str (nm t))) := by
  have z := DGet.k (k := .inr "grid") h
  exact z
def spPlain : Sp := fun vs H Q _ => ∃ p, vs = [.ref p] ∧ Die H p ∧ ∀ q t H', H q = none → q ≠ p → PlainAt H' q t → Got p H H' → Q (.ref q) H'
def spAround : Sp := fun vs H Q _ => ∃ q t, vs = [.ref q] ∧ PlainAt H q t ∧ Q (.int (num t : Nat)) H
def spUnitL (K : PySem.W.Frag) : Sp := fun vs H Q _ => ∃ q t k, vs = [.ref q, .int k] ∧ PlainAt H q t ∧ ∀ p H', Same H H' → PAt K H' p (uni t k) → Q (.ref p) H'
def spTimesL (K : PySem.W.Frag) : Sp := fun vs H Q _ => ∃ q t a b u v, vs = [.ref q, .ref a, .ref b] ∧ PlainAt H q t ∧ PAt K H a u ∧ PAt K H b v ∧ Sm u ∧ Sm v ∧ ∀ p, H p = none → Q (.ref p) (upd H p (.tup [.int (mul t u v).1, .int (mul t u v).2]))
def spSpun (K : PySem.W.Frag) : Sp := fun vs H Q _ => ∃ q t a u k, vs = [.ref q, .ref a, .int k] ∧ PlainAt H q t ∧ PAt K H a u ∧ Sm u ∧ ∀ p H', Same H H' → PAt K H' p (mul t u (uni t k)) → Q (.ref p) H'
/-- how many of a pair have the rest d -/
def cnt2 (m : Int) (u : Int × Int) (d : Nat) : Nat := (if u.1 % m = (d : Int) then 1 else 0) + (if u.2 % m = (d : Int) then 1 else 0)
def metUp (m : Int) (e o : Int × Int) : Nat → List Int
  | 0 => []
  | d + 1 => (metUp m e o d ++ List.replicate (cnt2 m e d) 0) ++ List.replicate (cnt2 m o d) 1
def doAlt (m : Nat) (e o : Int × Int) : Bool := decide (dist [e.1 % (m : Int), e.2 % (m : Int), o.1 % (m : Int), o.2 % (m : Int)] = 4) && ([[0, 1, 0, 1], [1, 0, 1, 0]].any fun z => decide (z = metUp m e o m))
def spDoAlt (K : PySem.W.Frag) : Sp := fun vs H Q _ => ∃ t a b e o, vs = [.int (num t : Nat), .ref a, .ref b] ∧ PAt K H a e ∧ PAt K H b o ∧ ∀ H', Same H H' → Q (.bl (doAlt (num t) e o)) H'
/-! ### lists of ints -/
def intL (ns : List Int) : PyData := .list (ns.map .int)
theorem intL_dp {K : PySem.W.Frag} {H : Hp} : ∀ {ns : List Int}, DpAll K H (ns.map V.int) (ns.map .int)
  | [] => .nil
  | n :: _ => .cons (.int n) intL_dp
theorem intL_at {K : PySem.W.Frag} {H : Hp} {l : Addr} {ns : List Int} (h : H l = some (.lst (ns.map V.int))) : Dp K H (.ref l) (intL ns) := .lst (SqL.of h) intL_dp
theorem intL_eqv (a b : List Int) : PyData.eqv (intL a) (intL b) = decide (a = b) := by
  show PyData.eqvAll (a.map .int) (b.map .int) = _
  induction a generalizing b with
  | nil => cases b <;> simp [PyData.eqvAll]
  | cons x r ih =>
    cases b with
    | nil => simp [PyData.eqvAll]
    | cons y q =>
      rw [List.map_cons, List.map_cons, PyData.eqvAll, ih q, show PyData.eqv (.int x) (.int y) = (x == y) from rfl]
      rw [Bool.eq_iff_iff]
      simp
theorem flat_rep (c : Nat) (x : Int) : (List.replicate c [V.int x]).flatten = (List.replicate c x).map V.int := by
  induction c with
  | zero => rfl
  | succ n ih => rw [List.replicate_succ, List.flatten_cons, ih]; rfl
theorem metUp_len {m : Int} {e o : Int × Int} : ∀ i, (metUp m e o i).length ≤ 4 * i
  | 0 => Nat.le_refl _
  | i + 1 => by
    have := metUp_len (m := m) (e := e) (o := o) i
    have h : ∀ u : Int × Int, cnt2 m u i ≤ 2 := by intro u; unfold cnt2; split <;> split <;> decide
    have h1 := h e
    have h2 := h o
    rw [metUp, List.length_append, List.length_append, List.length_replicate, List.length_replicate]
    omega
theorem shaped_intL (ns : List Int) : SeqAt.shaped (intL ns) = true := PySem.W.shaped_ints ns
theorem int_eq {x y : Int} : decide (V.int x = V.int y) = decide (x = y) := by
  by_cases h : x = y
  · subst h; rw [decide_eq_true rfl, decide_eq_true rfl]
  · rw [decide_eq_false h, decide_eq_false (fun z => h (by injection z))]
/-- how many of the first j of a pair have the rest d -/
def cntU (m : Int) (u : Int × Int) (d : Nat) : Nat → Nat
  | 0 => 0
  | 1 => if u.1 % m = (d : Int) then 1 else 0
  | _ => cnt2 m u d
theorem cntU_all {m : Int} {u : Int × Int} {d : Nat} : cntU m u d [V.int u.1, V.int u.2].length = cnt2 m u d := rfl
theorem cnt2_le {m : Int} {u : Int × Int} {d : Nat} : cnt2 m u d ≤ 2 := by unfold cnt2; split <;> split <;> decide
theorem cntU_le {m : Int} {u : Int × Int} {d j : Nat} : cntU m u d j ≤ 2 := by
  match j with
  | 0 => exact Nat.zero_le _
  | 1 => show (if _ then 1 else 0) ≤ 2; split <;> decide
  | _ + 2 => exact cnt2_le
theorem pair_at {u : Int × Int} {j : Nat} {x : V} (h : [V.int u.1, V.int u.2][j]? = some x) : ∃ y, x = .int y ∧ [u.1, u.2][j]? = some y := by
  match j, h with
  | 0, h => exact ⟨_, (Option.some.inj h).symm, rfl⟩
  | 1, h => exact ⟨_, (Option.some.inj h).symm, rfl⟩
theorem cntU_yes {m : Int} {u : Int × Int} {d j : Nat} {y : Int} (h : [u.1, u.2][j]? = some y) (c : y % m = (d : Int)) : cntU m u d j + 1 = cntU m u d (j + 1) := by
  match j, h with
  | 0, h => cases (Option.some.inj h); show 0 + 1 = if _ then 1 else 0; rw [if_pos c]
  | 1, h => cases (Option.some.inj h); show (if _ then 1 else 0) + 1 = cnt2 m u d; unfold cnt2; rw [if_pos c]
theorem cntU_no {m : Int} {u : Int × Int} {d j : Nat} {y : Int} (h : [u.1, u.2][j]? = some y) (c : ¬ y % m = (d : Int)) : cntU m u d j = cntU m u d (j + 1) := by
  match j, h with
  | 0, h => cases (Option.some.inj h); show 0 = if _ then 1 else 0; rw [if_neg c]
  | 1, h => cases (Option.some.inj h); show (if _ then 1 else 0) = cnt2 m u d; unfold cnt2; rw [if_neg c]; rfl
/-! ### what the text has, for the end -/
def TupK (K : PySem.W.Frag) (a : Addr) (xs : List V) : Prop := ∃ (o : Obj) (its : Array Value) (n : Nat), K.lookup a = some o ∧ o.cls = .type "tuple" ∧ o.data = .seq its n ∧ its.size ≤ sizeLine ∧ Vals xs its.toList
theorem TupK.at {K : PySem.W.Frag} {a : Addr} {xs : List V} (h : TupK K a xs) (H : Hp) : SqT K H a xs := .inr h
theorem uni_mk {K : PySem.W.Frag} {w : World} {aG dU aS aT s0 s1 s2 s3 t0 t1 t2 t3 t4 t5 : Addr} (g : TupK K aG [.str "square", .str "triangle"]) (kS : KDct K w dU "square" (.ref aS)) (kT : KDct K w dU "triangle" (.ref aT))
    (hS : TupK K aS [.ref s0, .ref s1, .ref s2, .ref s3]) (hT : TupK K aT [.ref t0, .ref t1, .ref t2, .ref t3, .ref t4, .ref t5])
    (p0 : TupK K s0 [.int 1, .int 0]) (p1 : TupK K s1 [.int 0, .int 1]) (p2 : TupK K s2 [.int (-1), .int 0]) (p3 : TupK K s3 [.int 0, .int (-1)])
    (q0 : TupK K t0 [.int 1, .int 0]) (q1 : TupK K t1 [.int 0, .int 1]) (q2 : TupK K t2 [.int (-1), .int 1]) (q3 : TupK K t3 [.int (-1), .int 0]) (q4 : TupK K t4 [.int 0, .int (-1)]) (q5 : TupK K t5 [.int 1, .int (-1)]) :
    Uni K w aG dU (fun t => cond t aT aS) (fun t => cond t [t0, t1, t2, t3, t4, t5] [s0, s1, s2, s3]) where
  grids := g.at
  key := fun t => by cases t; exact kS; exact kT
  tup := fun t H => by cases t; exact hS.at H; exact hT.at H
  len := fun t => by cases t <;> rfl
  pt := fun t i a p ha hp H => by
    cases t
    · match i, ha, hp with
      | 0, ha, hp => cases Option.some.inj ha; cases Option.some.inj hp; exact p0.at H
      | 1, ha, hp => cases Option.some.inj ha; cases Option.some.inj hp; exact p1.at H
      | 2, ha, hp => cases Option.some.inj ha; cases Option.some.inj hp; exact p2.at H
      | 3, ha, hp => cases Option.some.inj ha; cases Option.some.inj hp; exact p3.at H
    · match i, ha, hp with
      | 0, ha, hp => cases Option.some.inj ha; cases Option.some.inj hp; exact q0.at H
      | 1, ha, hp => cases Option.some.inj ha; cases Option.some.inj hp; exact q1.at H
      | 2, ha, hp => cases Option.some.inj ha; cases Option.some.inj hp; exact q2.at H
      | 3, ha, hp => cases Option.some.inj ha; cases Option.some.inj hp; exact q3.at H
      | 4, ha, hp => cases Option.some.inj ha; cases Option.some.inj hp; exact q4.at H
      | 5, ha, hp => cases Option.some.inj ha; cases Option.some.inj hp; exact q5.at H
theorem kdct_mk {K : PySem.W.Frag} {w : World} {a v : Addr} {x : Str} {es : Array DictEntry} {n : Nat} (l : K.lookup a = some ⟨.type "dict", none, .dict es n, #[]⟩) (k : PySem.W.nsIn K a x = some (some (.ref v))) (kk : PySem.W.KeysLit w.params es.toList) : KDct K w a x (.ref v) :=
  ⟨es, n, .ref v, l, kk, k, rfl⟩
end GL
namespace GL
open PySem PySem.Spec PyProof.Rows L2
/-! ### what turns do to points -/
variable {t : Bool} {u : Int × Int} {a b k : Int}
theorem uni_congr {k l : Int} (h : k % (num t : Int) = l % (num t : Int)) : uni t k = uni t l := by unfold uni; rw [h]
theorem res4 (k : Int) : k % 4 = 0 ∨ k % 4 = 1 ∨ k % 4 = 2 ∨ k % 4 = 3 := by omega
theorem res6 (k : Int) : k % 6 = 0 ∨ k % 6 = 1 ∨ k % 6 = 2 ∨ k % 6 = 3 ∨ k % 6 = 4 ∨ k % 6 = 5 := by omega
theorem u4 : uni false 0 = (1, 0) ∧ uni false 1 = (0, 1) ∧ uni false 2 = (-1, 0) ∧ uni false 3 = (0, -1) := ⟨rfl, rfl, rfl, rfl⟩
theorem turn_add : mul t (mul t u (uni t a)) (uni t b) = mul t u (uni t (a + b)) := by
  obtain ⟨x, y⟩ := u
  cases t
  · rcases res4 a with h1 | h1 | h1 | h1 <;> rcases res4 b with h2 | h2 | h2 | h2 <;>
      (have e1 := uni_congr (t := false) (k := a) (l := a % 4) (by show a % 4 = (a % 4) % 4; omega)
       have e2 := uni_congr (t := false) (k := b) (l := b % 4) (by show b % 4 = (b % 4) % 4; omega)
       have e3 := uni_congr (t := false) (k := a + b) (l := a % 4 + b % 4) (by show (a + b) % 4 = (a % 4 + b % 4) % 4; omega)
       rw [h1] at e1
       rw [h2] at e2
       rw [h1, h2] at e3
       rw [e1, e2, e3]
       refine Prod.ext ?_ ?_ <;> simp [mul, sl, uni, ux, num] <;> omega)
  · rcases res6 a with h1 | h1 | h1 | h1 | h1 | h1 <;> rcases res6 b with h2 | h2 | h2 | h2 | h2 | h2 <;>
      (have e1 := uni_congr (t := true) (k := a) (l := a % 6) (by show a % 6 = (a % 6) % 6; omega)
       have e2 := uni_congr (t := true) (k := b) (l := b % 6) (by show b % 6 = (b % 6) % 6; omega)
       have e3 := uni_congr (t := true) (k := a + b) (l := a % 6 + b % 6) (by show (a + b) % 6 = (a % 6 + b % 6) % 6; omega)
       rw [h1] at e1
       rw [h2] at e2
       rw [h1, h2] at e3
       rw [e1, e2, e3]
       refine Prod.ext ?_ ?_ <;> simp [mul, sl, uni, ux, num] <;> omega)
theorem uni_red4 (k : Int) : uni false k = uni false (k % 4) := uni_congr (t := false) (by show k % 4 = (k % 4) % 4; omega)
theorem uni_red6 (k : Int) : uni true k = uni true (k % 6) := uni_congr (t := true) (by show k % 6 = (k % 6) % 6; omega)
theorem turn_all : mul t u (uni t (num t : Nat)) = u := by
  obtain ⟨x, y⟩ := u
  cases t <;> (refine Prod.ext ?_ ?_ <;> simp [mul, sl, uni, ux, num])
theorem turn_half : mul t u (uni t ((num t : Int) / 2)) = (0 - u.1, 0 - u.2) := by
  obtain ⟨x, y⟩ := u
  cases t <;> (refine Prod.ext ?_ ?_ <;> simp [mul, sl, uni, ux, num])
theorem turn_one : mul t (1, 0) (uni t k) = uni t k := by
  generalize uni t k = v
  obtain ⟨x, y⟩ := v
  cases t <;> (refine Prod.ext ?_ ?_ <;> simp [mul, sl])
theorem turn_flip : flip t (mul t (flip t u) (uni t k)) = mul t u (uni t (0 - k)) := by
  obtain ⟨x, y⟩ := u
  cases t
  · rcases res4 k with h1 | h1 | h1 | h1 <;>
      (have e1 := uni_red4 k
       have e3 := uni_congr (t := false) (k := 0 - k) (l := 0 - k % 4) (by show (0 - k) % 4 = (0 - k % 4) % 4; omega)
       rw [h1] at e1 e3
       rw [e1, e3]
       refine Prod.ext ?_ ?_ <;> simp [flip, mul, sl, uni, ux, num] <;> omega)
  · rcases res6 k with h1 | h1 | h1 | h1 | h1 | h1 <;>
      (have e1 := uni_red6 k
       have e3 := uni_congr (t := true) (k := 0 - k) (l := 0 - k % 6) (by show (0 - k) % 6 = (0 - k % 6) % 6; omega)
       rw [h1] at e1 e3
       rw [e1, e3]
       refine Prod.ext ?_ ?_ <;> simp [flip, mul, sl, uni, ux, num] <;> omega)
theorem turn_norm : nrm t (mul t u (uni t k)) = nrm t u := by
  obtain ⟨x, y⟩ := u
  cases t
  · rcases res4 k with h1 | h1 | h1 | h1 <;>
      (have e1 := uni_red4 k
       rw [h1] at e1
       rw [e1]
       simp [nrm, mul, sl, uni, ux, num] <;> grind)
  · rcases res6 k with h1 | h1 | h1 | h1 | h1 | h1 <;>
      (have e1 := uni_red6 k
       rw [h1] at e1
       rw [e1]
       simp [nrm, mul, sl, uni, ux, num] <;> grind)
/-- small points -/
def Le (n : Nat) (u : Int × Int) : Prop := u.1.natAbs ≤ n ∧ u.2.natAbs ≤ n
theorem Le.turn {n : Nat} (h : Le n u) : Le (2 * n) (mul t u (uni t k)) := by
  obtain ⟨x, y⟩ := u
  obtain ⟨h1, h2⟩ : x.natAbs ≤ n ∧ y.natAbs ≤ n := h
  cases t
  · rcases res4 k with h1 | h1 | h1 | h1 <;>
      (have e1 := uni_red4 k
       rw [h1] at e1
       rw [e1]
       refine ⟨?_, ?_⟩ <;> simp [mul, sl, uni, ux, num] <;> omega)
  · rcases res6 k with h1 | h1 | h1 | h1 | h1 | h1 <;>
      (have e1 := uni_red6 k
       rw [h1] at e1
       rw [e1]
       refine ⟨?_, ?_⟩ <;> simp [mul, sl, uni, ux, num] <;> omega)
theorem Le.flip {n : Nat} (h : Le n u) : Le (2 * n) (flip t u) := by
  obtain ⟨x, y⟩ := u
  obtain ⟨h1, h2⟩ : x.natAbs ≤ n ∧ y.natAbs ≤ n := h
  cases t <;> (refine ⟨?_, ?_⟩ <;> simp [GL.flip, sl] <;> omega)
theorem short_of {x : Int} (h : x.natAbs ≤ 10 ^ 9) : isIntV (.int x) = true := by rw [int_short]; exact decide_eq_true (Nat.lt_of_le_of_lt h (by decide +kernel))
theorem Le.ok {n : Nat} (h : Le n u) (hn : n ≤ 10 ^ 9) : ptOk u := ⟨short_of (Nat.le_trans h.1 hn), short_of (Nat.le_trans h.2 hn)⟩
theorem Le.sm {n : Nat} (h : Le n u) (hn : n ≤ 10 ^ 9) : Sm u := ptOk_sm (h.ok hn).1 (h.ok hn).2
/-! ### the text of a small point -/
def ptD (u : Int × Int) : PyData := .tuple [.int u.1, .int u.2]
theorem ptD_at {K : PySem.W.Frag} {H : Hp} {a : Addr} (h : PAt K H a u) : Dp K H (.ref a) (ptD u) := .tup h (.cons (.int _) (.cons (.int _) .nil))
theorem one_short : ∀ i : Fin 401, (PyData.shown (.int ((i.val : Int) - 200))).length ≤ 13 := by decide +kernel
theorem int_shown {x : Int} (h : x.natAbs ≤ 200) : (PyData.shown (.int x)).length ≤ 13 := by
  have z := one_short ⟨(x + 200).toNat, by omega⟩
  have e : (((x + 200).toNat : Nat) : Int) - 200 = x := by omega
  rw [e] at z
  exact z
theorem ptD_ok (h : Le 200 u) : (ptD u).showable = true ∧ (ptD u).hasDict = false ∧ (ptD u).depth ≤ 20 ∧ (ptD u).shown.length ≤ sizeLine := by
  have sh : ∀ {x : Int}, x.natAbs ≤ 200 → PyData.showable (.int x) = true := fun {x} h => by
    simp only [PyData.showable]
    exact decide_eq_true (Nat.lt_of_le_of_lt (Nat.log2_le_self _) (Nat.lt_of_le_of_lt h (by decide)))
  refine ⟨?_, ?_, ?_, ?_⟩
  · simp only [ptD, PyData.showable, PyData.showableAll, Bool.and_eq_true, Bool.and_true]
    have a1 := sh h.1
    have a2 := sh h.2
    simp only [PyData.showable] at a1 a2
    exact ⟨a1, a2⟩
  · simp [ptD, PyData.hasDict, PyData.hasDictAll]
  · simp [ptD, PyData.depth, PyData.depthAll]
  · refine Nat.le_trans (shown_le13 (d := ptD u) ?_ ?_) (by decide)
    · simp [ptD, PyData.layable0, PyData.canLay0, PyData.canLayAll0, PyData.depth, PyData.depthAll, PyData.weight, PyData.weightAll]
      have l1 : u.fst.natAbs.log2 ≤ 200 := Nat.le_trans (Nat.log2_le_self _) h.1
      have l2 : u.snd.natAbs.log2 ≤ 200 := Nat.le_trans (Nat.log2_le_self _) h.2
      split <;> split <;> omega
    · simp only [ptD, PyData.intsShort, PyData.intsShortAll, Bool.and_eq_true, Bool.and_true]
      exact ⟨decide_eq_true (int_shown h.1), decide_eq_true (int_shown h.2)⟩
theorem ptD_shaped (u : Int × Int) : SeqAt.shaped (ptD u) = true := by
  simp [ptD, SeqAt.shaped, PyData.canLay0, PyData.canLayAll0, PyData.depth, PyData.depthAll]
theorem ptD_eqv (u v : Int × Int) : PyData.eqv (ptD u) (ptD v) = decide (u = v) := by
  obtain ⟨x, y⟩ := u
  obtain ⟨z, w⟩ := v
  show PyData.eqvAll [.int x, .int y] [.int z, .int w] = _
  simp only [PyData.eqvAll]
  rw [show PyData.eqv (.int x) (.int z) = (x == z) from rfl, show PyData.eqv (.int y) (.int w) = (y == w) from rfl, Bool.eq_iff_iff]
  simp
theorem ptD_self (u : Int × Int) : PyData.eqv (ptD u) (ptD u) = true := by rw [ptD_eqv]; exact decide_eq_true rfl
theorem PlainAt.got {p q : Addr} {H H' : Hp} (h : PlainAt H q t) (s : Got p H H') (d : Die H p) : PlainAt H' q t := by
  obtain ⟨_, _, _, _, e0⟩ := d
  exact s.keep _ _ h (ne_of h e0 (by intro z; cases z))
def spTurns (C : Addr) (U : Bool → Addr) : Sp := fun vs H Q _ => ∃ p q g t, vs = [.ref p, .ref q, .ref g] ∧ Die H p ∧ PlainAt H q t ∧ GridAt C U H g t ∧ ∀ H', Got p H H' → Q (.bl true) H'
theorem Got.over_same {p : Addr} {H H1 H2 : Hp} (g : Got p H H1) (s : Same H1 H2) : Got p H H2 :=
  ⟨fun b o e n => s _ _ (g.keep b o e n), let ⟨l, b, c, l0, e⟩ := g.die; ⟨l, b, c, l0, s _ _ e⟩⟩
theorem str_self (x : Str) : (!decide (V.str x = V.str x)) = false := by rw [decide_eq_true rfl]; rfl
theorem int_self (x : Int) : (!decide (V.int x = V.int x)) = false := by rw [decide_eq_true rfl]; rfl
theorem Le.mono {n m : Nat} (h : Le n u) (hn : n ≤ m) : Le m u := ⟨Nat.le_trans h.1 hn, Nat.le_trans h.2 hn⟩
theorem uni_mod {t : Bool} (k : Int) : uni t (k % (num t : Int)) = uni t k := uni_congr (Int.emod_emod_of_dvd _ (Int.dvd_refl _))
theorem small_mod {t : Bool} (k : Int) : isIntV (.int (k % (num t : Int))) = true := by
  have h1 := Int.emod_nonneg k (Int.ne_of_gt (num_pos (t := t)))
  have h2 := Int.emod_lt_of_pos k (num_pos (t := t))
  have h3 : num t ≤ 6 := by cases t <;> decide
  refine short_of (Nat.le_trans (show _ ≤ 6 by omega) (by decide))
theorem num_small {t : Bool} : ((num t : Nat) : Int) < 2 ^ 63 := by cases t <;> decide
theorem num_ok {t : Bool} : isIntV (.int (num t : Nat)) = true := by cases t <;> exact short_of (by decide)
theorem half_ok {t : Bool} : isIntV (.int ((num t : Int) / 2)) = true := by cases t <;> exact short_of (by decide)
/-! ### all pairs of pairs of directions -/
theorem alt_fin4 : ∀ a b c d : Fin 4, (let D := doAlt 4 ((a.val : Int), (b.val : Int)) ((c.val : Int), (d.val : Int))
    alt false ((a.val : Int), (b.val : Int)) ((c.val : Int), (d.val : Int)) = D ∧ alt false ((c.val : Int), (d.val : Int)) ((a.val : Int), (b.val : Int)) = D ∧ alt false ((b.val : Int), (a.val : Int)) ((c.val : Int), (d.val : Int)) = D ∧
    alt false (0 - (a.val : Int), 0 - (b.val : Int)) (0 - (c.val : Int), 0 - (d.val : Int)) = D) := by decide +kernel
theorem alt_fin6 : ∀ a b c d : Fin 6, (let D := doAlt 6 ((a.val : Int), (b.val : Int)) ((c.val : Int), (d.val : Int))
    alt true ((a.val : Int), (b.val : Int)) ((c.val : Int), (d.val : Int)) = D ∧ alt true ((c.val : Int), (d.val : Int)) ((a.val : Int), (b.val : Int)) = D ∧ alt true ((b.val : Int), (a.val : Int)) ((c.val : Int), (d.val : Int)) = D ∧
    alt true (0 - (a.val : Int), 0 - (b.val : Int)) (0 - (c.val : Int), 0 - (d.val : Int)) = D) := by decide +kernel
theorem alt_four {t : Bool} {a b c d : Int} (ha : 0 ≤ a ∧ a < (num t : Int)) (hb : 0 ≤ b ∧ b < (num t : Int)) (hc : 0 ≤ c ∧ c < (num t : Int)) (hd : 0 ≤ d ∧ d < (num t : Int)) :
    alt t (a, b) (c, d) = doAlt (num t) (a, b) (c, d) ∧ alt t (c, d) (a, b) = doAlt (num t) (a, b) (c, d) ∧ alt t (b, a) (c, d) = doAlt (num t) (a, b) (c, d) ∧ alt t (0 - a, 0 - b) (0 - c, 0 - d) = doAlt (num t) (a, b) (c, d) := by
  obtain ⟨a, rfl⟩ : ∃ n : Nat, a = (n : Int) := ⟨a.toNat, by omega⟩
  obtain ⟨b, rfl⟩ : ∃ n : Nat, b = (n : Int) := ⟨b.toNat, by omega⟩
  obtain ⟨c, rfl⟩ : ∃ n : Nat, c = (n : Int) := ⟨c.toNat, by omega⟩
  obtain ⟨d, rfl⟩ : ∃ n : Nat, d = (n : Int) := ⟨d.toNat, by omega⟩
  cases t
  · exact alt_fin4 ⟨a, Int.ofNat_lt.mp ha.2⟩ ⟨b, Int.ofNat_lt.mp hb.2⟩ ⟨c, Int.ofNat_lt.mp hc.2⟩ ⟨d, Int.ofNat_lt.mp hd.2⟩
  · exact alt_fin6 ⟨a, Int.ofNat_lt.mp ha.2⟩ ⟨b, Int.ofNat_lt.mp hb.2⟩ ⟨c, Int.ofNat_lt.mp hc.2⟩ ⟨d, Int.ofNat_lt.mp hd.2⟩
theorem alt_next {t : Bool} {a b c d : Int} : alt t (a + 1, b + 1) (c + 1, d + 1) = alt t (a, b) (c, d) := by
  unfold alt
  rw [show b + 1 - (a + 1) = b - a by omega, show c + 1 - (a + 1) = c - a by omega, show d + 1 - (a + 1) = d - a by omega]
theorem alt_far {t : Bool} {a b c d s : Int} (hs : s % (num t : Int) = 0) : alt t (a + s, b) (c, d - (num t : Nat)) = alt t (a, b) (c, d) := by
  unfold alt
  have e1 : (b - (a + s)) % (num t : Int) = (b - a) % (num t : Int) := by cases t <;> (simp only [num] at hs ⊢; omega)
  have e2 : (c - (a + s)) % (num t : Int) = (c - a) % (num t : Int) := by cases t <;> (simp only [num] at hs ⊢; omega)
  have e3 : (d - (num t : Nat) - (a + s)) % (num t : Int) = (d - a) % (num t : Int) := by cases t <;> (simp only [num] at hs ⊢; omega)
  simp only [e1, e2, e3]
theorem b6_ok (x : Bool) : (bls [x, x, x, x, x, x]).showable = true ∧ (bls [x, x, x, x, x, x]).hasDict = false ∧ (bls [x, x, x, x, x, x]).depth ≤ 20 ∧ (bls [x, x, x, x, x, x]).shown.length ≤ sizeLine := by
  cases x <;> exact ⟨by decide +kernel, by decide +kernel, by decide +kernel, by decide +kernel⟩
theorem sub_mod (n : Int) {m : Int} (h : 0 < m) : (n - n % m) % m = 0 := by
  rw [Int.sub_emod, Int.emod_emod_of_dvd _ (Int.dvd_refl _), Int.sub_self, Int.zero_emod]
theorem sub_small (n : Int) {m : Int} (h : 0 < m) (h6 : m ≤ 6) (hn : (if n < 0 then -n else n) < (10 : Int) ^ (50 : Int).toNat * (10 : Int) ^ (50 : Int).toNat) : (n - n % m).natAbs ≤ 10 ^ 101 := by
  have h1 := Int.emod_nonneg n (Int.ne_of_gt h)
  have h2 := Int.emod_lt_of_pos n h
  have e : (10 : Int) ^ (50 : Int).toNat * (10 : Int) ^ (50 : Int).toNat = ((10 ^ 100 : Nat) : Int) := by decide +kernel
  rw [e] at hn
  have b : (10 ^ 100 : Nat) + 6 ≤ 10 ^ 101 := by decide +kernel
  generalize (10 ^ 100 : Nat) = N at *
  generalize (10 ^ 101 : Nat) = M at *
  split at hn <;> omega
theorem far_ok {x s : Int} (hs : s.natAbs ≤ 10 ^ 101) (hx : x.natAbs ≤ 10) : isIntV (.int (x + s)) = true := by
  rw [int_short]
  refine decide_eq_true (Nat.lt_of_le_of_lt (show _ ≤ 10 ^ 101 + 10 by generalize (10 ^ 101 : Nat) = M at *; omega) (by decide +kernel))
theorem same_made {H H3 : Hp} {x dx : Addr} {o1 o2 : HO} (hx : H x = none) (hdx : H dx = none) (hk : ∀ b, b ≠ x → H3 b = upd (upd H dx o1) x o2 b) : Same H H3 := by
  intro b o e
  have n1 := ne_of_none e hx
  have n2 := ne_of_none e hdx
  rw [hk b n1, upd_ne n1, upd_ne n2]
  exact e
end GL
/-! repr of lists and tuples of ints that have up to 4300 digits -/
namespace GL
open PySem PySem.Spec PyProof.Rows L2
def Big (i : Int) : Prop := i.natAbs < 10 ^ 4300
section
variable {prog : Program} {w : World} {h₀ : Heap}
theorem big_call {A : Around} {E : Value → Shared → Prop} {s : Shared} {Q : Value → Shared → Prop} {i : Int} {t : Tok} (nd : s.heap.NoDigits) (hi : Big i) (h : Q (.str (toString i) s.toks) { s with toks := s.toks + 1 }) :
    wpAny (model prog w) A (call (.builtin "int.__repr__") [.int i t]) Q E s := by
  refine wpAny_call_entry F.slot_int_repr (typeIs_int s i t) F.entry_int_repr ?_ (F.args_int_repr_1 _)
  unfold Builtin.«int.__repr__»
  show wpAny (model prog w) _ (Builtin.overDigitLimit? i >>= _) _ _ s
  refine wpAny_bind (overDigitLimit_any nd (fun lt => ?_) (fun ge => absurd hi (Nat.not_lt.mpr ge)))
  exact wpAny_bind (wpAny_mkStr (wpAny_pure ⟨_, rfl, h⟩) (int_text_fits10 lt))
theorem big_leaf (nd : h₀.NoDigits) {i : Int} (t : Tok) (hi : Big i) (as : List Addr) (d : Nat) : ReprK prog w as h₀ d (.int i t) (toString i) := by
  intro base hb A g E s Q hg hcl hu hk hQ
  have hb' : base ≤ sizeLine := Nat.le_trans (Nat.le_add_right _ _) hb
  rw [pyReprUnder_leaf (v := Value.int i t) hb' (fun _ z => by cases z)]
  unfold pyRepr
  refine wpAny_bind (wpAny_pyReprObj_slot (Nat.lt_of_le_of_lt (Nat.le_add_right _ _) hu) (typeIs_int s i t) F.slot_int_repr.toG (big_call (nd.keeps hk) hi ⟨_, _, rfl, ?_⟩))
  exact wpAny_pure (hQ s.heap _ fun _ _ e => e)
/-- ints alone -/
def BigInts (ds : List PyData) : Prop := ∀ d ∈ ds, ∃ i, d = .int i ∧ Big i
theorem int_at {v : Value} {i : Int} {as : List Addr} (r : Reads h₀ v (.int i) as) : ∃ t, v = .int i t := by
  cases r
  exact ⟨_, rfl⟩
theorem big_ints (nd : h₀.NoDigits) (as : List Addr) (n : Nat) : ∀ {vs : List Value} {ds : List PyData} {bs : List Addr}, ReadsAll h₀ vs ds bs → BigInts ds → ReprAllK prog w as h₀ n vs (PyData.shownAll ds)
  | _, _, _, .nil, _ => by simp only [PyData.shownAll]; exact .nil
  | _, _, _, .cons (d := d) r rs, h => by
    obtain ⟨i, e, hi⟩ := h d (List.mem_cons_self ..)
    subst e
    obtain ⟨t, e⟩ := int_at r
    subst e
    simp only [PyData.shownAll, PyData.shown]
    exact .cons (big_leaf nd t hi as n) (big_ints nd as n rs (fun d hd => h d (List.mem_cons_of_mem _ hd)))
/-- an int, or a tuple of ints -/
inductive BigItem : PyData → Prop where
  | int {i : Int} : Big i → BigItem (.int i)
  | tup {xs : List PyData} : BigInts xs → BigItem (.tuple xs)
theorem depth_ints : ∀ {ds : List PyData}, BigInts ds → PyData.depthAll ds ≤ 0
  | [], _ => by simp [PyData.depthAll]
  | d :: r, h => by
    obtain ⟨i, e, _⟩ := h d (List.mem_cons_self ..)
    subst e
    have := depth_ints (ds := r) (fun d hd => h d (List.mem_cons_of_mem _ hd))
    simp only [PyData.depthAll, PyData.depth]
    omega
theorem big_item (nd : h₀.NoDigits) {v : Value} {d : PyData} {as : List Addr} (r : Reads h₀ v d as) (h : BigItem d) : ∃ bs, ReadAtMost h₀ 1 bs ∧ ReprK prog w bs h₀ 2 v d.shown := by
  cases h with
  | @int i hi =>
    obtain ⟨t, e⟩ := int_at r
    subst e
    exact ⟨[], (fun _ z => by cases z), by simp only [PyData.shown]; exact big_leaf nd t hi [] 2⟩
  | @tup xs hx =>
    have dp := depth_ints hx
    cases r with
    | tuple h1 h2 h3 h4 =>
      rename_i a o vs n
      have k := big_ints (prog := prog) (w := w) nd [] 1 h4 hx
      refine ⟨[a], fun b hb => ?_, ?_⟩
      · rw [List.mem_singleton.mp hb]
        exact ⟨_, _, .tuple h1 h2 h3 h4, by simp only [PyData.depth]; omega⟩
      · simp only [PyData.shown]
        exact ReprK.tuple h1 h2 h3 (fun z => by cases z) k
theorem big_items (nd : h₀.NoDigits) : ∀ {vs : List Value} {ds : List PyData} {bs : List Addr}, ReadsAll h₀ vs ds bs → (∀ d ∈ ds, BigItem d) → ∃ cs, ReadAtMost h₀ 1 cs ∧ ReprAllK prog w cs h₀ 2 vs (PyData.shownAll ds)
  | _, _, _, .nil, _ => ⟨[], (fun _ z => by cases z), by simp only [PyData.shownAll]; exact .nil⟩
  | _, _, _, .cons (d := d) r rs, h => by
    obtain ⟨c1, m1, k1⟩ := big_item (prog := prog) (w := w) nd r (h d (List.mem_cons_self ..))
    obtain ⟨c2, m2, k2⟩ := big_items nd rs (fun d hd => h d (List.mem_cons_of_mem _ hd))
    refine ⟨c1 ++ c2, fun b hb => (List.mem_append.mp hb).elim (m1 b) (m2 b), ?_⟩
    simp only [PyData.shownAll]
    exact .cons (k1.more fun b hb => List.mem_append_left _ hb) (k2.more_le (fun b hb => List.mem_append_right _ hb) (Nat.le_refl _))
theorem depth_items : ∀ {ds : List PyData}, (∀ d ∈ ds, BigItem d) → PyData.depthAll ds ≤ 1
  | [], _ => by simp [PyData.depthAll]
  | d :: r, h => by
    have h2 := depth_items (ds := r) (fun d hd => h d (List.mem_cons_of_mem _ hd))
    have h1 : d.depth ≤ 1 := by
      cases h d (List.mem_cons_self ..) with
      | int _ => simp [PyData.depth]
      | tup hx => have := depth_ints hx; simp only [PyData.depth]; omega
    simp only [PyData.depthAll]
    omega
/-- repr of a list that is not empty -/
theorem repr_big {A : Around} {E : Value → Shared → Prop} {s : Shared} {Q : Value → Shared → Prop} {a : Addr} {ds : List PyData} {as : List Addr} (nd : s.heap.NoDigits) (r : Reads s.heap (.ref a) (.list ds) as) (h : ∀ d ∈ ds, BigItem d) (ne : ds ≠ [])
    (hg : A.guards = some []) (hu : A.units + 10 < cLine) (hz : (PyData.shown (.list ds)).length ≤ sizeLine) (dp : 1 < (PyData.list ds).depth)
    (hQ : ∀ h' u tk, (∀ b o, s.heap.get? b = some o → h'.get? b = some o) → Q (.str (PyData.shown (.list ds)) u) { s with heap := h', toks := tk }) : wpAny (model prog w) A (call (.builtin "repr") [.ref a]) Q E s := by
  cases r with
  | list h1 h2 h3 h4 =>
    rename_i o vs n bs₀
    obtain ⟨cs, m, k⟩ := big_items (prog := prog) (w := w) nd h4 h
    obtain ⟨l⟩ := vs
    cases l with
    | nil =>
      have h4' : ReadsAll s.heap [] ds _ := h4
      cases h4'
      exact absurd rfl ne
    | cons x l =>
      refine call_repr_slot (by omega) (T := "list") (idr := "list.__repr__") ⟨o, h1, h2⟩ F.slot_list_repr.toG ?_
      simp only [PyData.shown] at hQ hz
      exact call_list_reprK h1 h2 h3 (not_mem_of_deeper (.list h1 h2 h3 h4) dp m) (by simpa using k.length_eq) (fun i y e => k.item i y (by simpa using e)) hg (fun b _ => Clear.nil b) (by show A.units + 1 + 3 < cLine; omega) (fun _ _ e => e) (fun h' u tk hk => ⟨_, _, rfl, hQ h' u tk hk⟩) hz
end
theorem ns_none {K : PySem.W.Frag} {h : Heap} {m : Str → Option Value} {a : Addr} {n : Str} (X : K.In h) (G : h.Ns a m) (e : PySem.W.nsIn K a n = some none) : m n = none := by
  obtain ⟨ob, es, ep, here, isDict, _, get⟩ := G
  rw [← get]
  unfold PySem.W.nsIn at e
  split at e
  case h_1 q =>
    cases (X _ _ q).symm.trans here
    cases isDict
    split at e
    case h_1 => cases e
    case h_2 no => unfold nsFind findBy; simp only [← Array.find?_toList, no]; rfl
  case h_2 => cases e
theorem big_base {X : Cx} {pins : List (Addr × Obj)} {σ : L2.St} {H : Hp} {s : Shared} (dig : PySem.W.nsIn X.K cStatics "sys.int_max_str_digits" = some none) (I : Inv X pins σ H s) : s.heap.NoDigits := by
  obtain ⟨mc, hns, _⟩ := I.nolimit
  exact ⟨mc, hns, ns_none I.kIn hns dig⟩
def rReprBig (K : PySem.W.Frag) : List V → Hp → VK → Prop := fun xs H Q => ∃ a ds, xs = [.ref a] ∧ Dp K H (.ref a) (.list ds) ∧ (∀ d ∈ ds, BigItem d) ∧ ds ≠ [] ∧ 1 < (PyData.list ds).depth ∧ (PyData.shown (.list ds)).length ≤ sizeLine ∧ Q (.str (PyData.shown (.list ds))) H
theorem call_reprBig {X : Cx} (dig : PySem.W.nsIn X.K cStatics "sys.int_max_str_digits" = some none) (hg : Gd X.A) (hu : X.A.units + 64 < cLine) : CallR X (.builtin "repr") (rReprBig X.K) := by
  intro pins s σ H xs us Q I r h
  obtain ⟨a, ds, rfl, hd, hb, ne, dp, hz, q⟩ := h
  obtain ⟨u, rfl, r1⟩ := vals1 r
  cases (show u = Value.ref a from r1)
  obtain ⟨as, hr⟩ := Dp.reads I (.list ds) (.ref a) (.ref a) hd rfl
  exact repr_big (big_base dig I) hr hb ne hg (by omega) hz dp (fun h' u tk hk => ⟨.str _, H, I.kept hk, ⟨_, rfl⟩, q⟩)
/-! ### how long the text of such a list is -/
end GL
namespace GL
open PySem PySem.Spec PyProof.Rows L2
/-! ### products and quotients -/
section
variable {t : Bool} {u v f q z : Int × Int} {a b : Int}
theorem mul_comm' : mul t u v = mul t v u := by
  obtain ⟨x, y⟩ := u
  obtain ⟨z, w⟩ := v
  cases t <;> (refine Prod.ext ?_ ?_ <;> simp [mul, sl] <;> grind)
theorem mul_assoc' : mul t (mul t u v) z = mul t u (mul t v z) := by
  obtain ⟨x, y⟩ := u
  obtain ⟨x1, y1⟩ := v
  obtain ⟨x2, y2⟩ := z
  cases t <;> (refine Prod.ext ?_ ?_ <;> simp [mul, sl] <;> grind)
def padd (u v : Int × Int) : Int × Int := (u.1 + v.1, u.2 + v.2)
theorem mul_add' : mul t (padd u v) z = padd (mul t u z) (mul t v z) := by
  obtain ⟨x, y⟩ := u
  obtain ⟨x1, y1⟩ := v
  obtain ⟨x2, y2⟩ := z
  cases t <;> (refine Prod.ext ?_ ?_ <;> simp [mul, sl, padd] <;> grind)
theorem nrm_mul : nrm t (mul t u v) = nrm t u * nrm t v := by
  obtain ⟨x, y⟩ := u
  obtain ⟨z, w⟩ := v
  cases t <;> (simp [mul, sl, nrm] <;> grind)
theorem flip_flip : flip t (flip t u) = u := by
  obtain ⟨x, y⟩ := u
  cases t <;> (refine Prod.ext ?_ ?_ <;> simp [flip, sl] <;> grind)
theorem mul_flip : mul t u (flip t u) = (nrm t u, 0) := by
  obtain ⟨x, y⟩ := u
  cases t <;> (refine Prod.ext ?_ ?_ <;> simp [flip, sl, mul, nrm] <;> grind)
theorem flip_mul : flip t (mul t u v) = mul t (flip t u) (flip t v) := by
  obtain ⟨x, y⟩ := u
  obtain ⟨z, w⟩ := v
  cases t <;> (refine Prod.ext ?_ ?_ <;> simp [flip, sl, mul] <;> grind)
def low (t : Bool) (u v : Int × Int) : Int × Int := mul t u (flip t v)
theorem low_of (h : mul t f v = u) : low t u v = (f.1 * nrm t v, f.2 * nrm t v) := by
  subst h
  obtain ⟨x, y⟩ := f
  obtain ⟨z, w⟩ := v
  cases t <;> (refine Prod.ext ?_ ?_ <;> simp [low, flip, sl, mul, nrm] <;> grind)
theorem of_low (hn : nrm t v ≠ 0) (h : low t u v = (f.1 * nrm t v, f.2 * nrm t v)) : mul t f v = u := by
  have e : mul t (low t u v) v = (u.1 * nrm t v, u.2 * nrm t v) := by
    obtain ⟨x, y⟩ := u
    obtain ⟨z, w⟩ := v
    cases t <;> (refine Prod.ext ?_ ?_ <;> simp [low, flip, sl, mul, nrm] <;> grind)
  have e2 : mul t (f.1 * nrm t v, f.2 * nrm t v) v = ((mul t f v).1 * nrm t v, (mul t f v).2 * nrm t v) := by
    generalize nrm t v = n
    obtain ⟨x, y⟩ := f
    obtain ⟨z, w⟩ := v
    cases t <;> (refine Prod.ext ?_ ?_ <;> simp [sl, mul] <;> grind)
  rw [h, e2] at e
  have e3 := congrArg Prod.fst e
  have e4 := congrArg Prod.snd e
  exact Prod.ext (Int.eq_of_mul_eq_mul_right hn e3) (Int.eq_of_mul_eq_mul_right hn e4)
def quo (t : Bool) (u v : Int × Int) : Option (Int × Int) := if (low t u v).1 % nrm t v = 0 ∧ (low t u v).2 % nrm t v = 0 then some ((low t u v).1 / nrm t v, (low t u v).2 / nrm t v) else none
theorem mul_div {r n : Int} (h : r % n = 0) : r = r / n * n := by
  have := Int.mul_ediv_add_emod r n
  rw [h, Int.add_zero, Int.mul_comm] at this
  exact this.symm
theorem quo_some (hn : 0 < nrm t v) (h : quo t u v = some q) : mul t q v = u := by
  unfold quo at h
  split at h
  case isTrue c =>
    cases h
    exact of_low (Int.ne_of_gt hn) (Prod.ext (mul_div c.1) (mul_div c.2))
  case isFalse c => cases h
theorem quo_of (hn : 0 < nrm t v) (h : mul t f v = u) : quo t u v = some f := by
  have e := low_of h
  have n0 := Int.ne_of_gt hn
  unfold quo
  rw [e]
  simp only
  rw [Int.mul_emod_left, Int.mul_emod_left, if_pos ⟨rfl, rfl⟩, Int.mul_ediv_cancel _ n0, Int.mul_ediv_cancel _ n0]
/-- only the first of the four places can be it -/
theorem quo_near (hn : 0 < nrm t v) {i j : Int} (hi : 0 ≤ i ∧ i < 2) (hj : 0 ≤ j ∧ j < 2) (h : mul t ((low t u v).1 / nrm t v + i, (low t u v).2 / nrm t v + j) v = u) : i = 0 ∧ j = 0 := by
  have e := low_of h
  have e1 := congrArg Prod.fst e
  have e2 := congrArg Prod.snd e
  simp only at e1 e2
  generalize nrm t v = n at *
  have d1 := Int.mul_ediv_cancel ((low t u v).1 / n + i) (Int.ne_of_gt hn)
  have d2 := Int.mul_ediv_cancel ((low t u v).2 / n + j) (Int.ne_of_gt hn)
  rw [← e1] at d1
  rw [← e2] at d2
  omega
theorem nrm_fin : ∀ (t : Bool) (a b : Fin 41), ¬ (a.val = 20 ∧ b.val = 20) → 0 < nrm t ((a.val : Int) - 20, (b.val : Int) - 20) := by decide +kernel
theorem nrm_pos (h : Le 20 v) (h0 : v ≠ (0, 0)) : 0 < nrm t v := by
  obtain ⟨x, y⟩ := v
  obtain ⟨h1, h2⟩ : x.natAbs ≤ 20 ∧ y.natAbs ≤ 20 := h
  have z := nrm_fin t ⟨(x + 20).toNat, by omega⟩ ⟨(y + 20).toNat, by omega⟩ (fun c => h0 (by have c1 : (x + 20).toNat = 20 := c.1; have c2 : (y + 20).toNat = 20 := c.2; exact Prod.ext (by show x = 0; omega) (by show y = 0; omega)))
  have e1 : (((x + 20).toNat : Nat) : Int) - 20 = x := by omega
  have e2 : (((y + 20).toNat : Nat) : Int) - 20 = y := by omega
  simp only [e1, e2] at z
  exact z
end
/-! ### promises -/
theorem natAbs_mul_le {x y : Int} {m n : Nat} (hx : x.natAbs ≤ m) (hy : y.natAbs ≤ n) : (x * y).natAbs ≤ m * n := by rw [Int.natAbs_mul]; exact Nat.mul_le_mul hx hy
theorem Le.mul {t : Bool} {u v : Int × Int} {m n : Nat} (hu : Le m u) (hv : Le n v) : Le (3 * (m * n)) (mul t u v) := by
  have a1 := natAbs_mul_le hu.1 hv.1
  have a2 := natAbs_mul_le hu.2 hv.2
  have a3 := natAbs_mul_le hu.1 hv.2
  have a4 := natAbs_mul_le hu.2 hv.1
  obtain ⟨x, y⟩ := u
  obtain ⟨z, w⟩ := v
  simp only at a1 a2 a3 a4
  generalize m * n = k at *
  generalize e1 : x * z = p1 at *
  generalize e2 : y * w = p2 at *
  generalize e3 : x * w = p3 at *
  generalize e4 : y * z = p4 at *
  cases t <;> (refine ⟨?_, ?_⟩ <;> simp [GL.mul, sl, e1, e2, e3, e4] <;> omega)
theorem Le.nrm {t : Bool} {u : Int × Int} {m : Nat} (hu : Le m u) : (nrm t u).natAbs ≤ 3 * (m * m) := by
  have a1 := natAbs_mul_le hu.1 hu.1
  have a2 := natAbs_mul_le hu.2 hu.2
  have a3 := natAbs_mul_le hu.1 hu.2
  obtain ⟨x, y⟩ := u
  simp only at a1 a2 a3
  generalize m * m = k at *
  generalize e1 : x * x = p1 at *
  generalize e2 : y * y = p2 at *
  generalize e3 : x * y = p3 at *
  cases t <;> (simp [GL.nrm, sl, e1, e2, e3] <;> omega)
def spMProd (K : PySem.W.Frag) (C : Addr) (U : Bool → Addr) : Sp := fun vs H Q _ => ∃ g t a b u v, vs = [.ref g, .ref a, .ref b] ∧ GridAt C U H g t ∧ PAt K H a u ∧ PAt K H b v ∧ ptOk u ∧ ptOk v ∧ ∀ p, H p = none → Q (.ref p) (upd H p (.tup [.int (mul t u v).1, .int (mul t u v).2]))
/-- what stands for a quotient -/
def QAt (K : PySem.W.Frag) (H : Hp) (r : Option (Int × Int)) (x : V) : Prop := match r with | none => x = .non | some q => ∃ p, x = .ref p ∧ PAt K H p q
theorem QAt.same {K : PySem.W.Frag} {H H' : Hp} {r : Option (Int × Int)} {x : V} (h : QAt K H r x) (s : Same H H') : QAt K H' r x := by
  cases r with
  | none => exact h
  | some q => obtain ⟨p, e, hp⟩ := h; exact ⟨p, e, hp.same s⟩
def spDiv (K : PySem.W.Frag) (C : Addr) (U : Bool → Addr) : Sp := fun vs H Q _ => ∃ g t a b u v, vs = [.ref g, .ref a, .ref b] ∧ GridAt C U H g t ∧ PAt K H a u ∧ PAt K H b v ∧ Le (10 ^ 6) u ∧ Le (10 ^ 3) v ∧ 0 < nrm t v ∧ ∀ x H', Same H H' → QAt K H' (quo t u v) x → Q x H'
def spPlus (K : PySem.W.Frag) : Sp := fun vs H Q _ => ∃ a b u v, vs = [.ref a, .ref b] ∧ PAt K H a u ∧ PAt K H b v ∧ ∀ p, H p = none → Q (.ref p) (upd H p (.tup [.int (padd u v).1, .int (padd u v).2]))
def spNormL (K : PySem.W.Frag) : Sp := fun vs H Q _ => ∃ q t a u, vs = [.ref q, .ref a] ∧ PlainAt H q t ∧ PAt K H a u ∧ Sm u ∧ Q (.int (nrm t u)) H
def spFlipL (K : PySem.W.Frag) : Sp := fun vs H Q _ => ∃ q t a u, vs = [.ref q, .ref a] ∧ PlainAt H q t ∧ PAt K H a u ∧ ∀ p, H p = none → Q (.ref p) (upd H p (.tup [.int (flip t u).1, .int (flip t u).2]))
def spPlace (K : PySem.W.Frag) : Sp := fun vs H Q _ => ∃ p, vs = [.ref p] ∧ Die H p ∧ ∀ a u H', ptOk u → PAt K H' a u → Got p H H' → Q (.ref a) H'
def spSmall (K : PySem.W.Frag) : Sp := fun vs H Q _ => ∃ p, vs = [.ref p] ∧ Die H p ∧ ∀ a u H', Le 20 u → PAt K H' a u → Got p H H' → Q (.ref a) H'
def spParts (K : PySem.W.Frag) (C : Addr) (U : Bool → Addr) : Sp := fun vs H Q _ => ∃ q g t a b u v, vs = [.ref q, .ref g, .ref a, .ref b] ∧ PlainAt H q t ∧ GridAt C U H g t ∧ PAt K H a u ∧ PAt K H b v ∧ ptOk u ∧ ptOk v ∧ ∀ H', Same H H' → Q (.bl true) H'
/-! ### the list that is shown -/
def bigD (t : Bool) (u v : Int × Int) : List PyData := [ptD (mul t u v), ptD (mul t u v), .int (nrm t u), ptD (flip t u)]
theorem ptOk_le {u : Int × Int} (h : ptOk u) : Le (10 ^ 400) u := by
  obtain ⟨h1, h2⟩ := h
  rw [int_short] at h1 h2
  exact ⟨Nat.le_of_lt (of_decide_eq_true h1), Nat.le_of_lt (of_decide_eq_true h2)⟩
theorem big_of {x : Int} (h : x.natAbs ≤ 3 * (10 ^ 400 * 10 ^ 400)) : Big x := Nat.lt_of_le_of_lt h (by decide +kernel)
theorem big_pt {w : Int × Int} (h : Le (3 * (10 ^ 400 * 10 ^ 400)) w) : BigItem (ptD w) := .tup (by
  intro d hd
  simp only [List.mem_cons, List.not_mem_nil, or_false] at hd
  rcases hd with rfl | rfl
  · exact ⟨_, rfl, big_of h.1⟩
  · exact ⟨_, rfl, big_of h.2⟩)
theorem big_short {x : Int} (h : Big x) : (PyData.shown (.int x)).length ≤ 4301 := by
  have e := int_text_length_le10 (k := 4300) (by decide) h
  show (Str.ofString (toString x)).length ≤ 4301
  rw [PySem.ofString_length]
  exact e
theorem bigD_ok {t : Bool} {u v : Int × Int} (ou : ptOk u) (ov : ptOk v) : (∀ d ∈ bigD t u v, BigItem d) ∧ bigD t u v ≠ [] ∧ 1 < (PyData.list (bigD t u v)).depth ∧ (PyData.shown (.list (bigD t u v))).length ≤ sizeLine := by
  have lu := ptOk_le ou
  have lv := ptOk_le ov
  have lm : Le (3 * (10 ^ 400 * 10 ^ 400)) (mul t u v) := lu.mul lv
  have lf : Le (3 * (10 ^ 400 * 10 ^ 400)) (flip t u) := (lu.flip).mono (by decide +kernel)
  have ln : (nrm t u).natAbs ≤ 3 * (10 ^ 400 * 10 ^ 400) := lu.nrm
  refine ⟨fun d hd => ?_, (fun z => by cases z), ?_, ?_⟩
  · simp only [bigD, List.mem_cons, List.not_mem_nil, or_false] at hd
    rcases hd with rfl | rfl | rfl | rfl
    · exact big_pt lm
    · exact big_pt lm
    · exact .int (big_of ln)
    · exact big_pt lf
  · simp [bigD, ptD, PyData.depth, PyData.depthAll]
  · have z := PyData.shown_le_bulk 4301 (by decide) (.list (bigD t u v)) (by
      simp only [bigD, ptD, PyData.leavesShort, PyData.leavesShortAll, Bool.and_eq_true, Bool.and_true, decide_eq_true_eq]
      exact ⟨⟨big_short (big_of lm.1), big_short (big_of lm.2)⟩, ⟨big_short (big_of lm.1), big_short (big_of lm.2)⟩, big_short (big_of ln), big_short (big_of lf.1), big_short (big_of lf.2)⟩)
    refine Nat.le_trans z ?_
    simp [bigD, ptD, PyData.bulk, PyData.bulkAll]
    decide
theorem max_small {x y : Int} (h : ¬ (decide ((10 : Int) ^ (60 : Int).toNat < if (if y < 0 then -y else y) > (if x < 0 then -x else x) then (if y < 0 then -y else y) else (if x < 0 then -x else x)) = true)) : x.natAbs ≤ 10 ^ 60 ∧ y.natAbs ≤ 10 ^ 60 := by
  have h2 := of_decide_eq_false (Bool.not_eq_true _ ▸ h)
  have e : (10 : Int) ^ (60 : Int).toNat = ((10 ^ 60 : Nat) : Int) := by decide +kernel
  rw [e] at h2
  generalize (10 ^ 60 : Nat) = N at *
  omega
theorem Le.ok60 {u : Int × Int} {n : Nat} (h : Le n u) (hn : n ≤ 10 ^ 399) : ptOk u := by
  have b : (10 ^ 399 : Nat) < 10 ^ 400 := by decide +kernel
  exact ⟨by rw [int_short]; exact decide_eq_true (Nat.lt_of_le_of_lt (Nat.le_trans h.1 hn) b), by rw [int_short]; exact decide_eq_true (Nat.lt_of_le_of_lt (Nat.le_trans h.2 hn) b)⟩
def qD : Option (Int × Int) → PyData | none => .none | some q => ptD q
theorem qD_at {K : PySem.W.Frag} {H : Hp} {r : Option (Int × Int)} {x : V} (h : QAt K H r x) : Dp K H x (qD r) := by
  cases r with
  | none => rw [show x = V.non from h]; exact .non
  | some q => obtain ⟨p, rfl, hp⟩ := h; exact ptD_at hp
theorem int_shown6 {x : Int} (h : x.natAbs ≤ 10 ^ 6) : (PyData.shown (.int x)).length ≤ 13 := by
  have e := int_text_length_le10 (a := x) (k := 7) (by decide) (Nat.lt_of_le_of_lt h (by decide))
  show (Str.ofString (toString x)).length ≤ 13
  rw [PySem.ofString_length]
  exact Nat.le_trans e (by decide)
theorem qD_ok {r : Option (Int × Int)} (h : ∀ q, r = some q → Le (10 ^ 6) q) : (qD r).showable = true ∧ (qD r).hasDict = false ∧ (qD r).depth ≤ 20 ∧ (qD r).shown.length ≤ sizeLine := by
  cases r with
  | none => exact ⟨by decide +kernel, by decide +kernel, by decide +kernel, by decide +kernel⟩
  | some u =>
    have h := h u rfl
    have sh : ∀ {x : Int}, x.natAbs ≤ 10 ^ 6 → x.natAbs.log2 < 1920 := fun {x} h => Nat.lt_of_lt_of_le (PySem.Flt.log2_lt_of (show 0 < 20 by decide) (Nat.lt_of_le_of_lt h (show 10 ^ 6 < 2 ^ 20 by decide))) (by decide)
    have z := PyData.shown_le_bulk 13 (by decide) (ptD u) (by
      simp only [ptD, PyData.leavesShort, PyData.leavesShortAll, Bool.and_eq_true, Bool.and_true, decide_eq_true_eq]
      exact ⟨int_shown6 h.1, int_shown6 h.2⟩)
    refine ⟨?_, by simp [qD, ptD, PyData.hasDict, PyData.hasDictAll], by simp [qD, ptD, PyData.depth, PyData.depthAll], Nat.le_trans z (by simp [ptD, PyData.bulk, PyData.bulkAll]; decide)⟩
    simp only [qD, ptD, PyData.showable, PyData.showableAll, Bool.and_eq_true, Bool.and_true, decide_eq_true_eq]
    exact ⟨sh h.1, sh h.2⟩
def spQuots (C : Addr) (U : Bool → Addr) : Sp := fun vs H Q _ => ∃ p q g t, vs = [.ref p, .ref q, .ref g] ∧ Die H p ∧ PlainAt H q t ∧ GridAt C U H g t ∧ ∀ H', Got p H H' → Q (.bl true) H'
theorem quo_cases {t : Bool} {u v : Int × Int} : quo t u v = none ∨ quo t u v = some ((low t u v).1 / nrm t v, (low t u v).2 / nrm t v) := by
  unfold quo
  split
  · exact .inr rfl
  · exact .inl rfl
theorem div_small {a b : Int} {n : Nat} (h : a.natAbs ≤ n) : (a / b).natAbs ≤ n := Nat.le_trans (Int.natAbs_ediv_le_natAbs a b) h
end GL
/-! comparing instances of one class with an own == -/
namespace GL
open PySem PySem.Spec PyProof.Rows L2
section
variable {X : Cx} {CX : CXT} {k : Nat} {C : Addr} {sp : Sp} {E : XK}
theorem op_eqM (h : HasM X.prog X.w X.K X.mg X.base CX C "__eq__" k ["self", "other"] sp) (g : Gd X.A) (hr : Room k X.A) (hx : Passes CX X E) :
    OpR X (compareOp .Eq) (fun x y H Q => ∃ a b dx dy fs gs, x = .ref a ∧ y = .ref b ∧ H a = some (.ins C dx fs) ∧ H b = some (.ins C dy gs) ∧ sp [.ref a, .ref b] H (fun v H' => ∃ r, v = .bl r ∧ Q (.bl r) H') E) := by
  intro pins s σ H x y v u Q I rx ry hq
  obtain ⟨a, b, dx, dy, fs, gs, rfl, rfl, ha, hb, q⟩ := hq
  cases (show v = Value.ref a from rx)
  cases (show u = Value.ref b from ry)
  obtain ⟨f, fd, F, M, bi⟩ := h.ex
  obtain ⟨_, O1, _⟩ := ins_get I.hok ha
  obtain ⟨_, O2, _⟩ := ins_get I.hok hb
  obtain ⟨od, J, _⟩ := O1.look
  obtain ⟨od', J', _⟩ := O2.look
  obtain ⟨m', fr⟩ := I.fr
  have b1 := bi s [.ref a, .ref b] I.kIn rfl
  rw [List.append_nil] at b1
  show wpAny (model X.prog X.w) X.A (richCompare .Eq (.ref a) (.ref b)) (EP X pins σ Q) X.xe s
  refine PySem.W.cmp_K (op := .Eq) (tb := .ref C) (by have := hr.un; omega) fr I.mod.kin J J'.type (by simp [PySem.W.notFirst]) M.at_ M.fn ?_
  apply wpAny_call
  refine codeAny_mono (F.go g hr I.env0 b1 (vs := [.ref a, .ref b]) (.cons rfl (.cons rfl .nil)) q) (fun res s' z => ?_)
  match res, z with
  | .error _, z => exact hx pins σ H s _ s' I z
  | .ok (.ret _), z =>
    obtain ⟨v, H', I', rv, r, rfl, q2⟩ := I.after z
    cases (show _ = Value.bool r from rv)
    exact ⟨.bl r, H', I', rfl, q2⟩
end
end GL
/-! comparing an instance that has an own == with anything; str of an instance -/
namespace GL
open PySem PySem.Spec PyProof.Rows L2
section
variable {prog : Program} {w : World} {A : Around} {E : Value → Shared → Prop} {s : Shared} {K : PySem.W.Frag} {x C L f : Addr} {h₀ : Heap} {m : Str → Option Value} {ox : Obj} {od : Option Obj} {b tb : Value}
open PySem.W PySem.Calls Builtin in
theorem ne_own {Q : Value → Shared → Prop} (hu : A.units < cLine) (hu1 : A.in1.units < cLine) (F : Fr h₀ L s.heap m) (X₀ : K.In h₀) (I : InstAt s.heap x ox C od) (hb : Looks (model prog w) s.heap (typeOf b) tb) (hn : notFirst K C tb = true)
    (hs : findIn K (.ref C) "__eq__" = some (some (.ref f))) (hf : isFn K (.ref f) = true) (hne : findIn K (.ref C) "__ne__" = some (some (.builtin "object.__ne__"))) (hob : subIn K (.ref C) (.type "object") = some true)
    (h : wpAny (model prog w) A.in1 (call (.ref f) [.ref x, b]) (fun v s' => ∃ r, v = .bool r ∧ Q (.bool (!r)) s') E s) : wpAny (model prog w) A (richCompare .NotEq (.ref x) b) Q E s := by
  have X := X₀.keeps F.keep
  have isob : Looks (model prog w) s.heap (isInstance (.ref x) (.type "object")) true := I.type.andThen (looks_subIn X hob)
  have run : wpAny (model prog w) A (call (.builtin "object.__ne__") ([.ref x] ++ [b])) (fun v s' => ∃ r, v = .bool r ∧ Q (.bool r) s') E s := by
    refine wpAny_call (codeAny_call_builtin (by decide +kernel) PySem.F.cmpEntry_ne (check_slot PySem.F.cmpKind_ne PySem.F.cmpSplit_ne isob (PySem.F.cmpArgs_ne _ _) ?_))
    unfold Builtin.«object.__ne__»
    refine wpAny_bind (m := slotArgs "__ne__" 1 _) (wpAny_pure ?_)
    refine wpAny_bind (wpAny_cRoomFor hu1 ?_)
    refine wpAny_bind (m := callSpecialIfBound? (.ref x) (Str.ofString "__eq__") _) (ifBound_K X I hs hf (wpAny_mono h (fun v s' hv => ?_) fun _ _ e => e))
    obtain ⟨r, rfl, q⟩ := hv
    refine wpAny_bind (m := truthy (.bool r)) (wpAny_pure ?_)
    exact wpAny_pure ⟨!r, rfl, q⟩
  have one : wpAny (model prog w) A (tryCompare (.ref x) "__ne__" b) (fun r s' => ∃ v, r = some (.bool v) ∧ Q (.bool v) s') E s := by
    unfold tryCompare
    refine wpAny_bind ?_
    simp only [callSpecialIfBound?, bindSpecialIfBound?]
    refine wpAny_holding (wpAny_bind (wpAny_bind (wpAny_bind (I.type.here ((looks_findIn X hne).here ?_)))))
    have bd : bindSpecial (.builtin "object.__ne__") (.ref x) = pure (.builtin "object.__ne__", [.ref x]) := PySem.F.cmp_object.ne.bind _
    refine wpAny_bind (wpAny_askSetting (wpAny_ite ?_))
    have fin : wpAny (model prog w) A (call (.builtin "object.__ne__") ([.ref x] ++ [b]) >>= fun v => pure (some v)) (fun r s' => ∃ v, r = some (.bool v) ∧ Q (.bool v) s') E s :=
      wpAny_bind (wpAny_mono run (fun v s' h' => by obtain ⟨r, rfl, q⟩ := h'; exact wpAny_pure ⟨r, rfl, q⟩) fun _ _ h' => h')
    have fin2 : wpAny (model prog w) A (call (.builtin "object.__ne__") ([.ref x] ++ [b]) >>= fun v => pure (some v)) (fun r s' => wpAny (model prog w) A (match r with | some .notImplemented | none => pure none | some v => pure (some v)) (fun r s' => ∃ v, r = some (.bool v) ∧ Q (.bool v) s') E s') E s :=
      wpAny_mono fin (fun r s' h' => by obtain ⟨v, rfl, q⟩ := h'; exact wpAny_pure ⟨v, rfl, q⟩) fun _ _ e => e
    simp only [bd]
    split
    · exact wpAny_bind (wpAny_pure (wpAny_pure fin2))
    · exact wpAny_tryCatch (wpAny_bind (wpAny_pure (wpAny_pure fin2)))
  unfold richCompare
  simp only [oneThing_ref]
  refine wpAny_holding (wpAny_bind (wpAny_cRoomFor hu ?_))
  refine wpAny_bind (I.type.here (wpAny_bind (hb.here ?_)))
  have tail : wpAny (model prog w) A (do
      if let some v ← tryCompare (.ref x) "__ne__" b then return v
      if let some v ← tryCompare b "__ne__" (.ref x) then return v
      rule "compare.ne-identity"; return .bool (!(← isSame (.ref x) b))) Q E s := by
    refine wpAny_bind (wpAny_mono one (fun r s' z => ?_) fun _ _ e => e)
    obtain ⟨v, rfl, q⟩ := z
    exact wpAny_pure q
  split
  · rename_i q
    have e : subIn K tb (.ref C) = some false := by
      rcases Bool.or_eq_true_iff.mp hn with e | e
      · rw [beq_iff_eq.mp e] at q; simp at q
      · exact beq_iff_eq.mp e
    refine wpAny_bind ((looks_subIn X e).here ?_)
    exact tail
  · exact tail
end

section
variable {X : Cx} {CX : CXT} {k : Nat} {C : Addr} {sp : Sp} {E : XK}
/-- what of a class stands in the text, for its == and != -/
structure EqC (K : PySem.W.Frag) (C : Addr) : Prop where
  ne : PySem.W.findIn K (.ref C) "__ne__" = some (some (.builtin "object.__ne__"))
  ob : PySem.W.subIn K (.ref C) (.type "object") = some true
/-- x is an instance of C, y is of a type that is no subclass of C -/
def rEqA (K : PySem.W.Frag) (C : Addr) (sp : Sp) (E : XK) (neg : Bool) : R2 := fun x y H Q => ∃ a dx fs t, x = .ref a ∧ H a = some (.ins C dx fs) ∧ TyX K H y t ∧ PySem.W.notFirst K C t = true ∧
  sp [.ref a, y] H (fun v H' => ∃ r, v = .bl r ∧ Q (.bl (neg != r)) H') E
theorem op_eqA (h : HasM X.prog X.w X.K X.mg X.base CX C "__eq__" k ["self", "other"] sp) (g : Gd X.A) (hr : Room k X.A) (hx : Passes CX X E) :
    OpR X (compareOp .Eq) (rEqA X.K C sp E false) := by
  intro pins s σ H x y v u Q I rx ry hq
  obtain ⟨a, dx, fs, t, rfl, ha, ty, nf, q⟩ := hq
  cases (show v = Value.ref a from rx)
  obtain ⟨f, fd, F, M, bi⟩ := h.ex
  obtain ⟨_, O1, _⟩ := ins_get I.hok ha
  obtain ⟨od, J, _⟩ := O1.look
  obtain ⟨Z, KX, z, _⟩ := kit_of I ry ty
  obtain ⟨m', fr⟩ := I.fr
  have b1 := bi s [.ref a, u] I.kIn rfl
  rw [List.append_nil] at b1
  show wpAny (model X.prog X.w) X.A (richCompare .Eq (.ref a) u) (EP X pins σ Q) X.xe s
  refine PySem.W.cmp_K (op := .Eq) (tb := t) (by have := hr.un; omega) fr I.mod.kin J (KX.ty _ _ I.kIn z) nf M.at_ M.fn ?_
  apply wpAny_call
  refine codeAny_mono (F.go g hr I.env0 b1 (vs := [.ref a, y]) (.cons rfl (.cons ry .nil)) q) (fun res s' z => ?_)
  match res, z with
  | .error _, z => exact hx pins σ H s _ s' I z
  | .ok (.ret _), z =>
    obtain ⟨v, H', I', rv, r, rfl, q2⟩ := I.after z
    cases (show _ = Value.bool r from rv)
    exact ⟨.bl r, H', I', rfl, by simpa using q2⟩
theorem op_neA (h : HasM X.prog X.w X.K X.mg X.base CX C "__eq__" k ["self", "other"] sp) (e : EqC X.K C) (g : Gd X.A) (hr : Room (k + 1) X.A) (hx : Passes CX X E) :
    OpR X (compareOp .NotEq) (rEqA X.K C sp E true) := by
  intro pins s σ H x y v u Q I rx ry hq
  obtain ⟨a, dx, fs, t, rfl, ha, ty, nf, q⟩ := hq
  cases (show v = Value.ref a from rx)
  obtain ⟨f, fd, F, M, bi⟩ := h.ex
  obtain ⟨_, O1, _⟩ := ins_get I.hok ha
  obtain ⟨od, J, _⟩ := O1.look
  obtain ⟨Z, KX, z, _⟩ := kit_of I ry ty
  obtain ⟨m', fr⟩ := I.fr
  have b1 := bi s [.ref a, u] I.kIn rfl
  rw [List.append_nil] at b1
  show wpAny (model X.prog X.w) X.A (richCompare .NotEq (.ref a) u) (EP X pins σ Q) X.xe s
  refine ne_own (tb := t) (by have := hr.un; omega) (by have := hr.in1.un; omega) fr I.mod.kin J (KX.ty _ _ I.kIn z) nf M.at_ M.fn e.ne e.ob ?_
  apply wpAny_call
  refine codeAny_mono (F.go (A := X.A.in1) g hr.in1 I.env0.in1 b1 (vs := [.ref a, y]) (.cons rfl (.cons ry .nil)) q) (fun res s' z => ?_)
  match res, z with
  | .error _, z => exact hx pins σ H s _ s' I z
  | .ok (.ret _), z =>
    obtain ⟨v, H', I', rv, r, rfl, q2⟩ := I.after z
    cases (show _ = Value.bool r from rv)
    exact ⟨r, rfl, .bl (!r), H', I', rfl, by simpa using q2⟩
/-- str of an instance whose class has its own __str__ -/
def rStrM (C : Addr) (sp : Sp) (E : XK) : List V → Hp → VK → Prop := fun xs H Q => ∃ a dx fs, xs = [.ref a] ∧ H a = some (.ins C dx fs) ∧ sp [.ref a] H (fun v H' => ∃ y, v = .str y ∧ Q (.str y) H') E
theorem call_strM (h : HasM X.prog X.w X.K X.mg X.base CX C "__str__" k ["self"] sp) (g : Gd X.A) (hr : Room (k + 2) X.A) (hx : Passes CX X E) :
    CallR X (.type "str") (rStrM C sp E) := by
  intro pins s σ H xs us Q I r q
  obtain ⟨a, dx, fs, rfl, ea, q1⟩ := q
  obtain ⟨f, fd, F, M, b⟩ := h.ex
  obtain ⟨u, rfl, ru⟩ := vals1 r
  cases (show u = Value.ref a from ru)
  obtain ⟨mA, O, _⟩ := ins_get I.hok ea
  obtain ⟨od, J, _⟩ := O.look
  have b1 := b s [.ref a] I.kIn rfl
  rw [List.append_nil] at b1
  refine PySem.W.kso_call (by have := hr.in1.in1.un; omega) I.kIn J M.at_ M.fn ?_
  apply wpAny_call
  refine codeAny_mono (F.go (A := X.A.in1.in1) g hr.in1.in1 I.env0.in1.in1 b1 (vs := [.ref a]) (.cons rfl .nil) q1) (fun res s' z => ?_)
  match res, z with
  | .error _, z => exact hx pins σ H s _ s' I z
  | .ok (.ret _), z =>
    obtain ⟨v, H', I', rv, y, rfl, q2⟩ := I.after z
    obtain ⟨t, rfl⟩ := rv
    exact ⟨.str y, H', I', ⟨_, rfl⟩, q2⟩
end
end GL
/-! list of an instance whose __iter__ hands out the iterator of a tuple -/
namespace GL
open PySem PySem.Spec PyProof.Rows L2
/-- at it the iterator of the tuple at t, with i things taken -/
def ItT (t it : Addr) (i : Nat) : HO := .ext fun h => h.IsTupleIter it t i
def ItX (it : Addr) : HO := .ext fun h => ∃ o, h.get? it = some o
section
variable {X : Cx} {pins : List (Addr × Obj)} {σ : L2.St} {H : Hp} {s : Shared} {t it : Addr} {i : Nat}
theorem itT_ok {P : Program} {w : World} {H : Hp} {h : Heap} (e : h.IsTupleIter it t i) : ObjOk P w H h it (ItT t it i) := ⟨e, let ⟨o, ho, _⟩ := e; ⟨o, ho⟩, fun h1 h2 q k => Heap.IsTupleIter.at q k⟩
theorem itX_ok {P : Program} {w : World} {H : Hp} {h : Heap} {o : Obj} (e : h.get? it = some o) : ObjOk P w H h it (ItX it) := ⟨⟨o, e⟩, ⟨o, e⟩, fun h1 h2 ⟨o, q⟩ k => ⟨o, k _ q⟩⟩
theorem itT_get (I : Inv X pins σ H s) (e : H it = some (ItT t it i)) : s.heap.IsTupleIter it t i := (I.hok it _ e).1
/-- iter(t), t a tuple -/
def rIterT (K : PySem.W.Frag) : List V → Hp → VK → Prop := fun xs H Q => ∃ (l : Addr) (zs : List V), xs = [.ref l] ∧ SqT K H l zs ∧ ∀ it, H it = none → Q (.ref it) (upd H it (ItT l it 0))
theorem call_iterT : CallR X (.builtin "iter") (rIterT X.K) := by
  intro pins s σ H xs us Q I r h
  obtain ⟨l, zs, rfl, hq, q⟩ := h
  obtain ⟨u, rfl, ru⟩ := vals1 r
  cases (show u = Value.ref l from ru)
  obtain ⟨its, rv, tp, hz⟩ := I.tuple hq
  refine Calls.call_function_entry (by decide +kernel) (by decide +kernel) PySem.W.kdk_entry_iter (PySem.W.kdk_args_iter _) ?_
  unfold Builtin.«iter»
  refine wpAny_bind (m := someArgs "iter" 1 2 _) (wpAny_of_eq (a := [Value.ref l]) (by first | rfl | kernel_rfl!) ?_)
  show wpAny _ _ (pyIter (.ref l) >>= _) _ _ _
  refine wpAny_bind (wpAny_pyIter_tuple tp ?_)
  refine wpAny_pure ⟨_, rfl, ?_⟩
  exact ⟨.ref s.heap.objs.size, _, I.laid (t' := s.toks) (fun b u e => Heap.get?_push_of_some _ e) (Nat.le_refl _) (itT_ok ⟨_, Heap.get?_push_size _ rfl, rfl, rfl⟩), rfl, q _ (I.hok.fresh (Nat.le_refl _))⟩
end
section
variable {prog : Program} {w : World} {A : Around} {E : Value → Shared → Prop} {s : Shared}
/-- the end of a tuple's iterator, with what stands at it then -/
theorem tup_end {it t : Addr} {i : Nat} {items} {Q : Option Value → Shared → Prop} (hh : A.handled = none)
    (hit : s.heap.IsTupleIter it t i) (ht : s.heap.IsTuple t items) (hx : items[i]? = none)
    (hQ : ∀ h', Heap.ExtBut it s.heap h' → (∃ o, h'.get? it = some o) → Q none { s with heap := h' }) : wpAny (model prog w) A (pyNext (.ref it)) Q E s := by
  obtain ⟨o, ho, hc, hd⟩ := id hit
  obtain ⟨ol, hol, _, nl, hdl⟩ := ht
  unfold pyNext
  refine wpAny_bind (wpAny_attempt (wpAny_callSpecial?_slot (name := Str.ofString "__next__") hit.typeIs F.slot_tuple_iterator_next
    (wpAny_call_entry F.slot_tuple_iterator_next hit.typeIs F.entry_tuple_iterator_next ?_ (F.args_tuple_iterator_next_1 _))))
  show wpAny _ _ (field (.ref it) 0 >>= _) _ _ s
  refine wpAny_bind (wpAny_field ho hd (x := .ref t) rfl ?_)
  show wpAny _ _ (if (Value.ref t == Value.none) = true then _ else _) _ _ s
  rw [if_neg (show ¬ ((Value.ref t == Value.none) = true) from Bool.false_ne_true)]
  show wpAny _ _ (field (.ref it) 1 >>= _) _ _ s
  refine wpAny_bind (wpAny_field ho hd (x := .int i 0) rfl ?_)
  show wpAny _ _ (seqItems? (.ref t) >>= _) _ _ s
  refine wpAny_bind (wpAny_seqItems hol hdl ?_)
  simp only [Int.toNat_natCast, hx]
  refine wpAny_bind (wpAny_rule (wpAny_bind (wpAny_setField ho hd (by simp) ?_)))
  show wpAny _ _ (newExc (.type "StopIteration") [] >>= _) _ _ _
  refine wpAny_bind ?_
  simp only [newExc, newTuple]
  refine wpAny_bind (wpAny_newObj_type ?_ (by size_fits))
  refine wpAny_bind (m := firstArgMember _ _) (wpAny_of_eq (a := Value.none) (by first | rfl | (simp only [firstArgMember]; rfl)) ?_)
  refine wpAny_newObj_type ?_ (by size_fits)
  simp only [raiseNew]
  refine wpAny_bind (wpAny_handled ?_)
  first | rw [show A.in1.handled = none from hh] | rw [hh]
  refine wpAny_bind (wpAny_pure (wpAny_throw ?_))
  refine wpAny_bind (wpAny_isInstance (T := "StopIteration") (b := true) ⟨_, Heap.get?_push_size _ rfl, rfl⟩ isSubtype_stop ?_)
  exact wpAny_pure (hQ _ (((Heap.SameBut.update ..).extBut.push _).push _) ⟨_, Heap.get?_push_of_some _ (Heap.get?_push_of_some _ (Heap.get?_update_self _ ho (Obj.isFreed_of_fields (Obj.data_mapFields hd _))))⟩)
end
section
variable {X : Cx} {pins : List (Addr × Obj)} {σ : L2.St} {H1 : Hp} {q it t a : Addr} {zs : List V} {A1 : Around}
/-- the walk that fills the list at q out of the iterator at it -/
theorem it_loop {Rs : Result → Shared → Prop} (hh : A1.in1.handled = none) (hz : zs.length ≤ 1000) (qi : q ≠ it) (st : ∀ H : Hp, (∀ b o, b ≠ q → b ≠ it → H1 b = some o → H b = some o) → SqT X.K H t zs)
    (hdone : ∀ H s, Inv X pins σ H s → (∀ b o, b ≠ q → b ≠ it → H1 b = some o → H b = some o) → H q = some (.lst zs) → Rs (.ok (.ret .none)) s) :
    ∀ (k i : Nat) (H : Hp) (s : Shared), zs.length - i = k → i ≤ zs.length → Inv X pins σ H s → (∀ b o, b ≠ q → b ≠ it → H1 b = some o → H b = some o) → H it = some (ItT t it i) → H q = some (.lst (zs.take i)) →
      codeAny (model X.prog X.w) A1 (.builtin "list.extend.loop" ⟨[.ref q, .ref it, .none], []⟩) Rs s := by
  intro k
  induction k with
  | zero =>
    intro i H s hk hi I keep hit hq
    have ei : i = zs.length := by omega
    subst ei
    refine codeAny_builtin PySem.F.entry_extend_loop ?_
    rw [Around.under_plainId PySem.F.plain_extend_loop _]
    show wpAny _ A1.in1 (pyNext (.ref it) >>= _) _ _ s
    obtain ⟨its, rv, tp, _⟩ := I.tuple (st H keep)
    refine wpAny_bind (tup_end hh (itT_get I hit) tp (by rw [List.getElem?_toArray]; exact rv.none_of (List.getElem?_eq_none (Nat.le_refl _))) (fun h' ex ⟨o, eo⟩ => ?_))
    have I2 : Inv X pins σ (upd H it (ItX it)) { s with heap := h' } := I.write (x := it) (e := it) (t' := s.toks) (by rw [hit]; exact True.intro) (.inl rfl) (fun b o nb z => ex b o nb z) ⟨_, eo⟩ (itX_ok eo)
    refine wpAny_pure (hdone _ _ I2 (fun b o nq ni z => by rw [upd_ne ni]; exact keep b o nq ni z) ?_)
    rw [upd_ne qi, hq, List.take_length]
  | succ k ih =>
    intro i H s hk hi I keep hit hq
    refine codeAny_builtin PySem.F.entry_extend_loop ?_
    rw [Around.under_plainId PySem.F.plain_extend_loop _]
    show wpAny _ A1.in1 (pyNext (.ref it) >>= _) _ _ s
    obtain ⟨its, rv, tp, _⟩ := I.tuple (st H keep)
    have hlt : i < zs.length := by omega
    obtain ⟨u, hu, ru⟩ := rv.get (List.getElem?_eq_getElem hlt)
    refine wpAny_bind (wpAny_pyNext_tuple_item (itT_get I hit) tp (by rw [List.getElem?_toArray]; exact hu) (fun h' e' sb => ?_))
    have I2 : Inv X pins σ (upd H it (ItT t it (i + 1))) { s with heap := h' } := I.write (x := it) (e := it) (t' := s.toks) (by rw [hit]; exact True.intro) (.inl rfl) (fun b o nb z => (sb.2 b nb).trans z) (let ⟨o, ho, _⟩ := e'; ⟨o, ho⟩) (itT_ok e')
    have hq2 : upd H it (ItT t it (i + 1)) q = some (.lst (zs.take i)) := by rw [upd_ne qi]; exact hq
    show wpAny _ A1.in1 (updateSeq q (·.push u) >>= _) _ _ _
    obtain ⟨z, its', k', r2, hl, e⟩ := I2.lstM hq2
    have hsz : its'.length ≤ 1000 := by rw [← hl, List.length_take]; omega
    have big : 1000 < sizeLine := by rw [sizeLine_eq]; decide
    refine wpAny_bind (wpAny_updateSeq e rfl (wpAny_pure ⟨plainId_quiet PySem.F.plain_extend_loop _, ?_⟩) (by rw [List.size_toArray]; omega) (by show (its'.toArray.push u).size ≤ sizeLine + 1; rw [Array.size_push, List.size_toArray]; omega))
    have I3 := I2.lset (its' := its' ++ [u]) (ys := zs.take i ++ [zs[i]]) (f := (·.push u)) (t' := s.toks) hq2 e (by simp) (r2.append (.cons ru .nil)) (by rw [List.length_append, List.length_singleton, List.length_take]; omega)
    refine ih (i + 1) _ _ (by omega) (by omega) I3 (fun b o nq ni z => by rw [upd_ne nq, upd_ne ni]; exact keep b o nq ni z) (by rw [upd_ne qi.symm, upd_same]) (by rw [upd_same, List.take_add_one, List.getElem?_eq_getElem hlt]; rfl)
end

section
variable {X : Cx} {CX CX' : CXT} {k k' : Nat} {C : Addr} {sp spL : Sp} {E : XK}
/-- list(o): __iter__ hands out the iterator of a tuple, __len__ says how long it is -/
def rListIt (K : PySem.W.Frag) (C : Addr) (sp spL : Sp) (E : XK) : List V → Hp → VK → Prop := fun xs H Q => ∃ a dx fs, xs = [.ref a] ∧ H a = some (.ins C dx fs) ∧
  ∀ q, H q = none → sp [.ref a] (upd H q (.lst [])) (fun v H1 => ∃ it t zs, v = .ref it ∧ H1 it = some (ItT t it 0) ∧ H1 q = some (.lst []) ∧ H1 a = some (.ins C dx fs) ∧ zs.length ≤ 1000 ∧
    (∀ H : Hp, (∀ b o, b ≠ q → b ≠ it → H1 b = some o → H b = some o) → SqT K H t zs) ∧ spL [.ref a] H1 (fun v H2 => v = .int zs.length ∧ H2 = H1) E ∧
    ∀ H2, (∀ b o, b ≠ q → b ≠ it → H1 b = some o → H2 b = some o) → H2 q = some (.lst zs) → Q (.ref q) H2) E
theorem call_listIt (h : HasM X.prog X.w X.K X.mg X.base CX C "__iter__" k ["self"] sp) (hl : HasM X.prog X.w X.K X.mg X.base CX0 C "__len__" k ["self"] spL) (g : Gd X.A) (hr : Room (k + 3) X.A) (hx : Passes CX X E) :
    CallR X (.type "list") (rListIt X.K C sp spL E) := by
  intro pins s σ H xs us Q I r asked
  obtain ⟨a, dx, fs, rfl, ha, hq⟩ := asked
  obtain ⟨f, fd, F, M, bi⟩ := h.ex
  obtain ⟨fl, fdl, FL, ML, bl⟩ := hl.ex
  obtain ⟨u, rfl, ru⟩ := vals1 r
  cases (show u = Value.ref a from ru)
  refine callType_codes (Q₁ := fun obj s₁ => obj = .ref s.heap.objs.size ∧ s₁ = { s with heap := s.heap.push { cls := .type "list", data := .seq #[] } }) PySem.F.called_list (PySem.F.typeCall_list_1 _) PySem.F.entry_list_init
    (code_list_new _ ⟨rfl, rfl⟩) fun obj s₁ h₁ => ?_
  obtain ⟨rfl, rfl⟩ := h₁
  have hS : (s.heap.push { cls := .type "list", data := .seq #[] }).get? s.heap.objs.size = some { cls := .type "list", data := .seq #[] } := Heap.get?_push_size _ rfl
  refine ⟨⟨_, hS, rfl⟩, PySem.F.args_list_init_2 _ _, ?_⟩
  have fr : H s.heap.objs.size = none := I.hok.fresh (Nat.le_refl _)
  have asked := hq _ fr
  generalize hqq : s.heap.objs.size = q at *
  have I1 : Inv X pins σ (upd H q (.lst [])) { s with heap := s.heap.push { cls := .type "list", data := .seq #[] } } := by
    rw [← hqq]; exact I.lnew (its := []) (t' := s.toks) .nil (Nat.zero_le _)
  show wpAny _ _ (do let old ← Builtin.List.listItems (.ref q); Builtin.List.listUpdate (.ref q) (fun _ => #[]); letGo old.toList.reverse; Builtin.List.listExtendWith (.ref q) (.ref a) .none) _ _ _
  refine wpAny_bind ?_
  unfold Builtin.List.listItems
  refine wpAny_bind (wpAny_seqItems hS rfl (wpAny_pure ?_))
  show wpAny _ _ (updateSeq q (fun _ => #[]) >>= fun _ => letGo (#[] : Array Value).toList.reverse >>= fun _ => Builtin.List.listExtendWith (.ref q) (.ref a) .none) _ _ _
  refine wpAny_bind (wpAny_updateSeq hS rfl ?_)
  have I2 := I1.lset (f := fun _ => #[]) (its := []) (its' := []) (ys := []) (t' := s.toks) upd_same hS rfl .nil (Nat.zero_le _)
  rw [upd_upd] at I2
  refine wpAny_bind (wpAny_letGo ?_)
  have ha2 : upd H q (.lst []) a = some (.ins C dx fs) := by rw [upd_ne (ne_of_none ha fr)]; exact ha
  have hne : q ≠ a := fun z => by rw [z] at fr; rw [fr] at ha; cases ha
  have i2 : Sub X (k + 1) X.A.in1.in1 := (Sub.in1 (Sub.in1 (⟨hr, rfl⟩ : Sub X (k + 3) X.A)))
  generalize hB : X.A.in1 = A1 at *
  obtain ⟨mA, J, _⟩ := ins_get I2.hok ha2
  obtain ⟨od, J, _⟩ := J.look
  obtain ⟨m0, hF⟩ := I2.fr
  unfold Builtin.List.listExtendWith
  refine wpAny_bind (J.type.here ?_)
  have h1 : Builtin.List.listSameRef (.ref q) (.ref a) = false := by simp [Builtin.List.listSameRef, hne]
  have h2 : (Value.ref C == Value.type "list") = false := rfl
  have h3 : (Value.ref C == Value.type "tuple") = false := rfl
  simp only [h1, h2, h3, Bool.or_false, Bool.false_eq_true, if_false]
  refine wpAny_bind (PySem.W.owit_iter hF I2.ok.mod.kin J M.at_ M.fn ?_)
  have e0 : ∀ {H s}, Inv X pins σ H s → Env0 X.prog X.w X.K X.mg X.base A1.in1 X.stack s H := by
    intro H s I
    have e := I.env0
    exact ⟨by rw [i2.fr]; exact e.frames, e.mod, e.bs, e.bsz, e.funs, e.frf, e.hok, e.bare⟩
  have e0' : ∀ {H s}, Inv X pins σ H s → Env0 X.prog X.w X.K X.mg X.base A1.in1.in1 X.stack s H := by
    intro H s I
    have e := I.env0
    exact ⟨by rw [(Sub.in1 i2).fr]; exact e.frames, e.mod, e.bs, e.bsz, e.funs, e.frf, e.hok, e.bare⟩
  have b1 := bi { s with heap := (s.heap.push { cls := .type "list", data := .seq #[] }).update q (Obj.mapSeq fun _ => #[]) } [.ref a] I2.kIn rfl
  rw [List.append_nil] at b1
  have gd1 : Gd A1.in1 := by rw [← hB]; exact g
  refine wpAny_call (codeAny_mono (F.go (A := A1.in1) gd1 (i2.room.mono (by omega)) (e0 I2) b1 (vs := [.ref a]) (.cons rfl .nil) asked) fun r s' hq' => ?_)
  match r, hq' with
  | .error e, hq' => exact hx pins σ _ _ e s' I2 hq'
  | .ok (.ret u), hq' =>
    obtain ⟨v, H1, I3, rv, it, t, zs, rfl, hit, hq1, ha1, hz, st, sl, hQ⟩ := I2.after hq'
    cases (show u = Value.ref it from rv)
    have qi : q ≠ it := fun z => by rw [z] at hq1; rw [hit] at hq1; cases hq1
    unfold PySem.W.OwitIt
    refine wpAny_specialOf (itT_get I3 hit).typeIs PySem.F.slot_tuple_iterator_next.lookup ?_
    obtain ⟨mA', J', _⟩ := ins_get I3.hok ha1
    obtain ⟨od', J', _⟩ := J'.look
    obtain ⟨m1, hF'⟩ := I3.fr
    refine wpAny_bind (wpAny_holding ?_)
    have loopE : ∀ {s'}, Inv X pins σ H1 s' → codeAny (model X.prog X.w) A1 (.builtin "list.extend.loop" ⟨[.ref q, .ref it, .none], []⟩) (wants (fun r s₂ => r = .none ∧ EP X pins σ Q (.ref q) s₂) X.xe) s' := fun {s'} I' =>
      it_loop (H1 := H1) (by rw [show A1.in1.handled = X.A.handled by rw [← hB]]; exact hr.hd) hz qi st (fun H2 s2 I2 kp e => ⟨rfl, .ref q, H2, I2, rfl, hQ H2 kp e⟩) zs.length 0 H1 s' (by omega) (Nat.zero_le _) I' (fun b o _ _ e => e) hit hq1
    have b2 := bl { s' with heap := s'.heap } [.ref a] I3.kIn rfl
    rw [List.append_nil] at b2
    unfold Builtin.List.listLengthHint
    refine wpAny_bind (wpAny_bind (J'.type.here ((PySem.W.looks_findIn I3.kIn ML.at_).here ?_)))
    refine PySem.W.KFB.if_not rfl ?_
    refine PySem.W.KFB.if_so rfl ?_
    refine wpAny_bind (wpAny_rule ?_)
    refine wpAny_bind (wpAny_attempt ?_)
    have i3 : Sub X k A1.in1.in1 := Sub.in1 i2
    refine PySem.W.len_K hF' I3.mod.kin J' ML.at_ ML.fn ?_
    apply wpAny_call
    refine codeAny_mono (FL.go (A := A1.in1.in1) gd1 i3.room (e0' I3) b2 (vs := [.ref a]) (.cons rfl .nil) sl) (fun res s2 z => ?_)
    match res, z with
    | .error e, z => exact z.elim
    | .ok (.ret u), z =>
      obtain ⟨v, H2, I4, rv, rfl, eH⟩ := I3.after z
      rw [eH] at I4
      obtain ⟨tk, rfl⟩ := rv
      refine ⟨⟨by omega, by omega⟩, ?_⟩
      refine wpAny_bind (m := asInt? (.int zs.length _)) (wpAny_pure ?_)
      refine PySem.W.KFB.if_not (by unfold Builtin.List.listTooLong; exact decide_eq_false (by rw [sizeLine_eq]; omega)) ?_
      refine wpAny_pure ?_
      have I5 := I4.tok (s2.toks + 1)
      refine wpAny_ite_split (fun _ => ?_) (fun _ => wpAny_pure ⟨plainId_quiet PySem.F.plain_extend_loop _, loopE I5⟩)
      refine wpAny_bind (wpAny_rule ?_)
      refine wpAny_bind ?_
      obtain ⟨z, its, k3, r3, hl3, e3⟩ := I5.lstM hq1
      cases r3
      show wpAny _ _ (updateSeq q (·.push .none) >>= fun _ => updateSeq q (·.pop)) _ _ _
      refine wpAny_bind (wpAny_updateSeq e3 rfl ?_)
      have I6 := I5.lset (f := (·.push Value.none)) (its' := [Value.none]) (ys := [.non]) (t' := s2.toks + 1) hq1 e3 (by simp) (.cons rfl .nil) (by rw [List.length_singleton, sizeLine_eq]; decide)
      obtain ⟨z4, its4, k4, r4, hl4, e4⟩ := I6.lstM upd_same
      obtain ⟨u4, rfl, ru4⟩ := r4.one
      refine wpAny_updateSeq e4 rfl ?_ (by show 1 ≤ sizeLine; rw [sizeLine_eq]; decide) (by show 0 ≤ sizeLine + 1; exact Nat.zero_le _)
      have I7 := I6.lset (f := (·.pop)) (its := [u4]) (its' := []) (ys := []) (t' := s2.toks + 1) upd_same e4 (by rfl) .nil (Nat.zero_le _)
      rw [upd_upd] at I7
      have hH : upd H1 q (.lst []) = H1 := by
        funext b
        by_cases hb : b = q
        · rw [hb, upd_same, hq1]
        · rw [upd_ne hb]
      rw [hH] at I7
      exact wpAny_pure ⟨plainId_quiet PySem.F.plain_extend_loop _, loopE I7⟩
    | .ok .next, z => exact False.elim z
    | .ok .brk, z => exact False.elim z
    | .ok .cont, z => exact False.elim z
  | .ok .next, hq' => exact False.elim hq'
  | .ok .brk, hq' => exact False.elim hq'
  | .ok .cont, hq' => exact False.elim hq'
end
end GL
/-! t.index(x), t a tuple of data of any depth -/
namespace GL
open PySem PySem.Spec PyProof.Rows L2
section
variable {X : Cx}
def rIndexT (K : PySem.W.Frag) : V → List V → Hp → VK → Prop := fun x xs H Q => ∃ (a : Addr) (y : V) (d : PyData) (ds : List PyData) (j : Nat) (z : PyData), x = V.ref a ∧ xs = [y] ∧ Dp K H (V.ref a) (.tuple ds) ∧ Dp K H y d ∧
  SeqAt.shaped (.tuple ds) = true ∧ SeqAt.shaped d = true ∧ ds[j]? = some z ∧ PyData.eqv z d = true ∧ (∀ (m : Nat) (z' : PyData), m < j → ds[m]? = some z' → PyData.eqv z' d = false) ∧ Q (.int (j : Nat)) H
theorem mt_indexT (hu : X.A.units + 65 < cLine) : MtR X "tuple.index" (rIndexT X.K) := by
  intro pins s σ H x xs v us Q I rx rxs h
  obtain ⟨a, y, d, ds, j, z, rfl, rfl, hl, hy, sl, sd, hz, hzj, hno, q⟩ := h
  cases rx
  cases rxs with
  | cons ry rt =>
    rename_i uy ut
    cases rt
    obtain ⟨bs, r1⟩ := Dp.reads I d y uy hy ry
    have hxs : PyData.canLayAll0 ds = true := SeqAt.canLay_of_shaped sl
    have hroom : X.A.units + 1 + min (PyData.depthAll ds) d.depth < cLine := room_in_shaped sd hu
    cases hl with
    | tup hs ha =>
      obtain ⟨its, rv, pl, hlen⟩ := I.tuple hs
      obtain ⟨⟨cls, dd, dt, sls⟩, ho, hc, n, hdt⟩ := pl
      simp only at hc hdt
      subst hc hdt
      obtain ⟨as, h4⟩ := Dp.readsAll I ds _ its ha rv
      have hn : its.length = ds.length := SeqAt.ReadsAll.length ds its as h4
      have hmap : its.map (SeqAt.readOf s.heap) = ds := SeqAt.readsAll_map ds its as hxs h4
      have hvl := rv.length
      have hsl := sizeLine_eq
      obtain ⟨hjd, _⟩ := List.getElem?_eq_some_iff.mp hz
      have hjl : j < its.length := by omega
      have hj : j < its.toArray.size := by simpa using hjl
      have at_ : ∀ (m : Nat) (hm : m < its.toArray.size) (z' : PyData), ds[m]? = some z' → SeqAt.readOf s.heap its.toArray[m] = z' := by
        intro m hm z' hz'
        have hml : m < its.length := by simpa using hm
        rw [← hmap, List.getElem?_map, List.getElem?_eq_getElem hml] at hz'
        have e1 : SeqAt.readOf s.heap its[m] = z' := Option.some.inj (show some (SeqAt.readOf s.heap its[m]) = some z' from hz')
        simpa using e1
      refine call_meets PySem.F.slot_tuple_index ⟨_, ho, rfl⟩ PySem.F.entry_tuple_index (PySem.F.args_tuple_index_2 _ _)
        (TI.tuple_indexAt a its.toArray n dd sls uy (fun u => PyData.eqv (SeqAt.readOf s.heap u) d) j hj ?_ ?_) ⟨ho, SeqAt.items_eqAt (vs := its.toArray) (show ReadsAll s.heap its.toArray.toList ds as from h4) r1 hxs (SeqAt.canLay_of_shaped sd) hroom, ?_⟩
      · show PyData.eqv (SeqAt.readOf s.heap its.toArray[j]) d = true
        rw [at_ j hj z hz]
        exact hzj
      · intro m hm hmj
        have hmd : m < ds.length := by omega
        have hz' : ds[m]? = some ds[m] := List.getElem?_eq_getElem hmd
        show PyData.eqv (SeqAt.readOf s.heap its.toArray[m]) d = false
        rw [at_ m hm _ hz']
        exact hno m _ hmj hz'
      · exact ⟨.int (j : Nat), H, I.tok _, ⟨_, rfl⟩, q⟩
end
end GL
/-! points as data; what the Grid's own methods promise -/
namespace GL
open PySem PySem.Spec PyProof.Rows L2
variable {K : PySem.W.Frag} {C : Addr} {U : Bool → Addr} {us : Bool → List Addr} {t : Bool}
/-! ### points as data -/
theorem ptD_lay (u : Int × Int) : (ptD u).canLay0 = true := by simp [ptD, PyData.canLay0, PyData.canLayAll0]
theorem ptD_depth (u : Int × Int) : (ptD u).depth = 1 := by simp [ptD, PyData.depth, PyData.depthAll]
theorem ptDs_lay : ∀ zs : List (Int × Int), PyData.canLayAll0 (zs.map ptD) = true
  | [] => by simp [PyData.canLayAll0]
  | z :: zs => by simp [PyData.canLayAll0, ptD_lay z, ptDs_lay zs]
theorem ptDs_depth : ∀ zs : List (Int × Int), PyData.depthAll (zs.map ptD) ≤ 1
  | [] => by simp [PyData.depthAll]
  | z :: zs => by
    have h1 := ptDs_depth zs
    have h2 := ptD_depth z
    simp only [List.map_cons, PyData.depthAll]
    omega
theorem ptDs_shaped (zs : List (Int × Int)) : SeqAt.shaped (.list (zs.map ptD)) = true := by
  have h1 := ptDs_depth zs
  have h2 : PyData.depth (.list (zs.map ptD)) ≤ 64 := by
    simp only [PyData.depth]
    omega
  show (PyData.canLay0 (.list (zs.map ptD)) && decide (PyData.depth (.list (zs.map ptD)) ≤ 64)) = true
  rw [Bool.and_eq_true]
  exact ⟨by simp only [PyData.canLay0]; exact ptDs_lay zs, decide_eq_true h2⟩
theorem ptDt_shaped (zs : List (Int × Int)) : SeqAt.shaped (.tuple (zs.map ptD)) = true := by
  have h1 := ptDs_depth zs
  have h2 : PyData.depth (.tuple (zs.map ptD)) ≤ 64 := by
    simp only [PyData.depth]
    omega
  show (PyData.canLay0 (.tuple (zs.map ptD)) && decide (PyData.depth (.tuple (zs.map ptD)) ≤ 64)) = true
  rw [Bool.and_eq_true]
  exact ⟨by simp only [PyData.canLay0]; exact ptDs_lay zs, decide_eq_true h2⟩
theorem ptDs_eqv : ∀ zs ys : List (Int × Int), PyData.eqvAll (zs.map ptD) (ys.map ptD) = decide (zs = ys)
  | [], [] => rfl
  | [], y :: ys => rfl
  | z :: zs, [] => rfl
  | z :: zs, y :: ys => by
    rw [List.map_cons, List.map_cons, PyData.eqvAll, ptD_eqv, ptDs_eqv zs ys, Bool.eq_iff_iff]
    simp
theorem PAt.dp {H : Hp} {a : Addr} {u : Int × Int} (h : PAt K H a u) : Dp K H (.ref a) (ptD u) := .tup h (.cons (.int _) (.cons (.int _) .nil))
/-- at the addresses as stand the points ps -/
def PAts (K : PySem.W.Frag) (H : Hp) (as : List Addr) (ps : List (Int × Int)) : Prop := as.length = ps.length ∧ ∀ (i : Nat) a p, as[i]? = some a → ps[i]? = some p → PAt K H a p
theorem PAts.dp {H : Hp} : ∀ {as : List Addr} {ps : List (Int × Int)}, PAts K H as ps → DpAll K H (as.map V.ref) (ps.map ptD)
  | [], [], _ => .nil
  | [], p :: ps, h => by cases h.1
  | a :: as, [], h => by cases h.1
  | a :: as, p :: ps, h => .cons (h.2 0 a p rfl rfl).dp (PAts.dp (as := as) (ps := ps) ⟨Nat.succ.inj h.1, fun i a p e1 e2 => h.2 (i + 1) a p e1 e2⟩)
theorem PAts.same {H H' : Hp} {as : List Addr} {ps : List (Int × Int)} (h : PAts K H as ps) (s : Same H H') : PAts K H' as ps := ⟨h.1, fun i a p e1 e2 => (h.2 i a p e1 e2).same s⟩
theorem PAts.got {q : Addr} {H H' : Hp} {as : List Addr} {ps : List (Int × Int)} (h : PAts K H as ps) (g : Got q H H') (d : Die H q) : PAts K H' as ps := ⟨h.1, fun i a p e1 e2 => (h.2 i a p e1 e2).got g d⟩
theorem PAts.snoc {H : Hp} {as : List Addr} {ps : List (Int × Int)} {a : Addr} {p : Int × Int} (h : PAts K H as ps) (e : PAt K H a p) : PAts K H (as ++ [a]) (ps ++ [p]) := by
  refine ⟨by rw [List.length_append, List.length_append, h.1]; rfl, fun i b q e1 e2 => ?_⟩
  rcases Nat.lt_trichotomy i as.length with l | l | l
  · rw [List.getElem?_append_left l] at e1
    rw [List.getElem?_append_left (by rw [← h.1]; exact l)] at e2
    exact h.2 i b q e1 e2
  · rw [List.getElem?_append_right (Nat.le_of_eq l.symm), l, Nat.sub_self] at e1
    rw [List.getElem?_append_right (by rw [← h.1]; exact Nat.le_of_eq l.symm), ← h.1, l, Nat.sub_self] at e2
    cases e1
    cases e2
    exact e
  · rw [List.getElem?_eq_none (by rw [List.length_append]; exact l)] at e1
    cases e1
theorem PAt.lst {H : Hp} {a D : Addr} {u : Int × Int} {xs : List V} {o : HO} (h : PAt K H a u) (e : H D = some (.lst xs)) : PAt K (upd H D o) a u := by
  rcases h with (z | ⟨ob, z⟩) | z
  · exact .inl (.inl (by rw [upd_ne (ne_of z e (by intro z; cases z))]; exact z))
  · exact .inl (.inr ⟨ob, by rw [upd_ne (ne_of z e (by intro z; cases z))]; exact z⟩)
  · exact .inr z
theorem PAts.lst {H : Hp} {as : List Addr} {D : Addr} {ps : List (Int × Int)} {xs : List V} {o : HO} (h : PAts K H as ps) (e : H D = some (.lst xs)) : PAts K (upd H D o) as ps := ⟨h.1, fun i a p e1 e2 => (h.2 i a p e1 e2).lst e⟩
theorem Uni.pts {w : World} {aG dU : Addr} (hU : Uni K w aG dU U us) (t : Bool) (H : Hp) : PAts K H (us t) (ux t) := ⟨by rw [hU.len, len_ux], fun i a p e1 e2 => hU.pt t i a p e1 e2 H⟩
theorem pts_at {H : Hp} {as : List Addr} (h : PAts K H as (ux t)) (n : Int) : ∃ a : Addr, PAt K H a (uni t n) ∧ atI (as.map V.ref) (n % (num t : Int)) = some (.ref a) := by
  have h1 := Int.emod_nonneg n (Int.ne_of_gt (num_pos (t := t)))
  have h2 := Int.emod_lt_of_pos n (num_pos (t := t))
  obtain ⟨j, hj⟩ : ∃ j : Nat, n % (num t : Int) = (j : Int) := ⟨(n % (num t : Int)).toNat, by omega⟩
  have e := uni_at (t := t) n
  rw [hj] at e ⊢
  have l : j < as.length := by rw [h.1, len_ux]; omega
  refine ⟨as[j], h.2 j _ _ (List.getElem?_eq_getElem l) e, atI_nat ?_⟩
  rw [List.getElem?_map, List.getElem?_eq_getElem l]
  rfl
/-- which unit a point is -/
def dirOf (t : Bool) (u : Int × Int) : Option Nat := (ux t).findIdx? fun p => decide (p = u)
def dirV (t : Bool) (u : Int × Int) : V := match dirOf t u with | some j => .int (j : Nat) | none => .non
def dirD (t : Bool) (u : Int × Int) : PyData := match dirOf t u with | some j => .int (j : Nat) | none => .none
theorem dir_in (t : Bool) (u : Int × Int) : (((ux t).map ptD).any fun z => PyData.eqv z (ptD u)) = (dirOf t u).isSome := by
  unfold dirOf
  rw [List.findIdx?_isSome, List.any_map]
  congr 1
  funext p
  exact ptD_eqv p u
theorem dir_at {t : Bool} {u : Int × Int} {j : Nat} (h : dirOf t u = some j) : j < num t ∧ ((ux t).map ptD)[j]? = some (ptD u) ∧ ∀ (m : Nat) (z : PyData), m < j → ((ux t).map ptD)[m]? = some z → PyData.eqv z (ptD u) = false := by
  unfold dirOf at h
  obtain ⟨hj, e, no⟩ := List.findIdx?_eq_some_iff_getElem.mp h
  refine ⟨by rw [← len_ux]; exact hj, ?_, fun m z hm hz => ?_⟩
  · rw [List.getElem?_map, List.getElem?_eq_getElem hj, of_decide_eq_true e]
    rfl
  · have hm' : m < (ux t).length := Nat.lt_trans hm hj
    rw [List.getElem?_map, List.getElem?_eq_getElem hm'] at hz
    cases hz
    rw [ptD_eqv]
    exact Bool.eq_false_iff.mpr (no m hm)
theorem dirD_ok (t : Bool) (u : Int × Int) : (dirD t u).showable = true ∧ (dirD t u).hasDict = false ∧ (dirD t u).depth ≤ 20 ∧ (dirD t u).shown.length ≤ sizeLine := by
  unfold dirD
  cases e : dirOf t u with
  | none => exact ⟨by decide +kernel, by decide +kernel, by decide +kernel, by decide +kernel⟩
  | some j =>
    have hj : j < 6 := Nat.lt_of_lt_of_le (dir_at e).1 (by cases t <;> decide)
    have all : ∀ j, j < 6 → (PyData.int (j : Nat)).showable = true ∧ (PyData.int (j : Nat)).hasDict = false ∧ (PyData.int (j : Nat)).depth ≤ 20 ∧ (PyData.int (j : Nat)).shown.length ≤ sizeLine := by decide +kernel
    exact all j hj
theorem dirD_dp {H : Hp} {t : Bool} {u : Int × Int} : Dp K H (dirV t u) (dirD t u) := by
  unfold dirV dirD
  cases dirOf t u with
  | none => exact .non
  | some j => exact .int _
theorem uniD_ok (t : Bool) (k : Int) : (ptD (uni t k)).showable = true ∧ (ptD (uni t k)).hasDict = false ∧ (ptD (uni t k)).depth ≤ 20 ∧ (ptD (uni t k)).shown.length ≤ sizeLine := by
  have all : ∀ p ∈ ux t, (ptD p).showable = true ∧ (ptD p).hasDict = false ∧ (ptD p).depth ≤ 20 ∧ (ptD p).shown.length ≤ sizeLine := by cases t <;> decide +kernel
  exact all _ (List.mem_of_getElem? (uni_at (t := t) k))
/-- what is told of a grid -/
def toldD (t : Bool) : PyData := .tuple [.str (nm t), .int ((num t : Int) / 2), .tuple ((ux t).map ptD), .int (num t : Int), .str (nm t)]
theorem toldD_ok (t : Bool) : (toldD t).showable = true ∧ (toldD t).hasDict = false ∧ (toldD t).depth ≤ 20 ∧ (toldD t).shown.length ≤ sizeLine := by cases t <;> exact ⟨by decide +kernel, by decide +kernel, by decide +kernel, by decide +kernel⟩
theorem toldD_dp {H : Hp} {a b : Addr} {as : List Addr} (h : H a = some (.tup [.str (nm t), .int ((num t : Int) / 2), .ref b, .int (num t : Int), .str (nm t)])) (hb : SqT K H b (as.map V.ref)) (p : PAts K H as (ux t)) : Dp K H (.ref a) (toldD t) :=
  .tup (SqT.of h) (.cons (.str _) (.cons (.int _) (.cons (.tup hb p.dp) (.cons (.int _) (.cons (.str _) .nil)))))
/-! ### what of the class Grid stands in the text, for == and isinstance -/
structure GIs (K : PySem.W.Frag) (C : Addr) : Prop where
  eq : EqC K C
  is : (((PySem.W.clsIn K C).isSome && PySem.W.typeIn K (.ref C) == some (.type "type")) = true)
  ha : PySem.W.findIn K (.ref C) "__class__" = some (some (.builtin "object.__class__"))
  hn : PySem.W.specialIn K (.builtin "object.__class__") "__get__" = some (some (.builtin "getset_descriptor.__get__"))
  htk : PySem.W.takesIn K (.builtin "object.__class__") = some true
  hm : PySem.W.mroIn K C (.type "object") = some true
theorem gis_mk (h1 : PySem.W.isClsIn K C = true) (h2 : PySem.W.typeIn K (.ref C) = some (.type "type")) (ne : PySem.W.findIn K (.ref C) "__ne__" = some (some (.builtin "object.__ne__"))) (ob : PySem.W.subIn K (.ref C) (.type "object") = some true)
    (ha : PySem.W.findIn K (.ref C) "__class__" = some (some (.builtin "object.__class__"))) (hn : PySem.W.specialIn K (.builtin "object.__class__") "__get__" = some (some (.builtin "getset_descriptor.__get__"))) (htk : PySem.W.takesIn K (.builtin "object.__class__") = some true)
    (hm : PySem.W.mroIn K C (.type "object") = some true) : GIs K C :=
  ⟨⟨ne, ob⟩, by
    have h1' : (PySem.W.clsIn K C).isSome = true := h1
    rw [h1', h2]
    rfl, ha, hn, htk, hm⟩
theorem GIs.ty {H : Hp} {a dx : Addr} {fs : List (Str × V)} (i : GIs K C) (c : Cls K C) (e : H a = some (.ins C dx fs)) : TyX K H (.ref a) (.ref C) := .base (.ins e c i.ha i.hn i.htk i.hm)
theorem kit_self : PySem.W.kitOne K (.ref C) (.ref C) = some true := by
  unfold PySem.W.kitOne
  rw [if_pos (beq_self_eq_true _)]
theorem GIs.kit (i : GIs K C) (k : Kd) : PySem.W.kitOne K (.type k.nm) (.ref C) = some false := by
  unfold PySem.W.kitOne
  rw [if_neg (by intro z; cases beq_iff_eq.mp z)]
  show (if _ then _ else _) = _
  rw [if_pos i.is]
  cases k <;> rfl
theorem nf_kd (k : Kd) : PySem.W.notFirst K C (.type k.nm) = true := by cases k <;> rfl
theorem nf_self : PySem.W.notFirst K C (.ref C) = true := by
  unfold PySem.W.notFirst
  rw [beq_self_eq_true]
  rfl
theorem Of.got {p : Addr} {H H' : Hp} {x : V} {k : Kd} (h : Of K H x k) (g : Got p H H') (d : Die H p) : Of K H' x k := by
  obtain ⟨_, _, _, _, e0⟩ := d
  obtain ⟨_, _, _, _, e1⟩ := g.die
  have kp : ∀ {a : Addr} {o : HO}, H a = some o → (∀ l, o ≠ .lst l) → H' a = some o := fun {a o} e n => g.keep _ _ e (ne_of e e0 (by intro z; exact n _ z))
  unfold Of at h ⊢
  generalize ht : Value.type k.nm = t at h ⊢
  cases h with
  | base b =>
    cases b with
    | non => exact .base .non
    | bl x => exact .base (.bl x)
    | int i => exact .base (.int i)
    | str y => exact .base (.str y)
    | flt y => exact .base (.flt y)
    | @lst a xs e =>
      by_cases ep : a = p
      · subst ep; exact .base (.lst e1)
      · exact .base (.lst (g.keep _ _ e ep))
    | frz e => exact .base (.frz (kp e (fun l z => nomatch z)))
    | tup e => exact .base (.tup (kp e (fun l z => nomatch z)))
    | dK e => exact .base (.dK (kp e (fun l z => nomatch z)))
    | dT e => exact .base (.dT (kp e (fun l z => nomatch z)))
    | ins e a b c d e2 => exact .base (.ins (kp e (fun l z => nomatch z)) a b c d e2)
  | byt b => exact .byt b
  | set e => exact .set (kp e (fun l z => nomatch z))
  | kList e c => exact .kList e c
  | kTuple e c => exact .kTuple e c
  | kDict e c => exact .kDict e c
  | fTuple e => exact .fTuple (kp e (fun l z => nomatch z))
  | fDict e => exact .fDict (kp e (fun l z => nomatch z))
/-- the tuples of units have no dict -/
def UTy (K : PySem.W.Frag) (U : Bool → Addr) : Prop := ∀ t, ∃ o, K.lookup (U t) = some o ∧ o.cls = .type "tuple" ∧ o.dict = none
/-! ### promises -/
/-- y as the other side of a grid t: r tells whether it is a grid of that name -/
def GOpd (K : PySem.W.Frag) (C : Addr) (U : Bool → Addr) (H : Hp) (t : Bool) (y : V) (r : Bool) : Prop := (∃ b t', y = .ref b ∧ GridAt C U H b t' ∧ r = (t == t')) ∨ ∃ k : Kd, Of K H y k ∧ r = false
theorem GOpd.ty {H : Hp} {t r : Bool} {y : V} (i : GIs K C) (c : Cls K C) (h : GOpd K C U H t y r) : ∃ T, TyX K H y T ∧ PySem.W.notFirst K C T = true := by
  rcases h with ⟨b, t', rfl, ⟨dx, e⟩, _⟩ | ⟨k, o, _⟩
  · exact ⟨_, i.ty c e, nf_self⟩
  · exact ⟨_, o, nf_kd k⟩
def spGEq (K : PySem.W.Frag) (C : Addr) (U : Bool → Addr) : Sp := fun vs H Q _ => ∃ g t y r, vs = [.ref g, y] ∧ GridAt C U H g t ∧ GOpd K C U H t y r ∧ Q (.bl r) H
def spGIter (C : Addr) (U : Bool → Addr) : Sp := fun vs H Q _ => ∃ g t, vs = [.ref g] ∧ GridAt C U H g t ∧ ∀ it, H it = none → Q (.ref it) (upd H it (ItT (U t) it 0))
def spGStr (C : Addr) (U : Bool → Addr) : Sp := fun vs H Q _ => ∃ g t, vs = [.ref g] ∧ GridAt C U H g t ∧ Q (.str (nm t)) H
def spGDir (K : PySem.W.Frag) (C : Addr) (U : Bool → Addr) : Sp := fun vs H Q _ => ∃ g t a u, vs = [.ref g, .ref a] ∧ GridAt C U H g t ∧ PAt K H a u ∧ ptOk u ∧ Q (dirV t u) H
end GL
/-! operators of own classes: both sides of one class, of two classes, - x, bool(x), x[i] -/
namespace GL
open PySem PySem.Spec PyProof.Rows L2
section
variable {prog : Program} {w : World} {A : Around} {E : Value → Shared → Prop} {s : Shared} {K : PySem.W.Frag} {x C D L f fD : Addr} {h₀ : Heap} {m : Str → Option Value} {ox : Obj} {od : Option Obj} {b : Value}
theorem inst_keep {h h' : Heap} (I : PySem.W.InstAt h x ox C od) (k : ∀ b o, h.get? b = some o → h'.get? b = some o) : PySem.W.InstAt h' x ox C od := by
  refine ⟨k _ _ I.at_, I.cls, I.no, ?_⟩
  have z := I.dict
  revert z
  cases ox.dict <;> cases od <;> intro z <;> first | exact z | exact k _ _ z
/-- what of two classes the text has, where D is no subclass of C -/
structure BinC (K : PySem.W.Frag) (C : Addr) (nm : String) : Prop where
  first : PySem.W.selfFirst K C = true
  own : ∃ f : Addr, PySem.W.findIn K (.ref C) (PySem.dunder nm) = some (some (.ref f))
  refl : PySem.W.findIn K (.ref C) (dunderR nm) = some none
open PySem.W PySem.Calls Builtin in
theorem bin_mixed {op : Operator} {Q : Value → Shared → Prop} (F : Fr h₀ L s.heap m) (X₀ : K.In h₀) (I : InstAt s.heap x ox C od) (hb : Looks (model prog w) s.heap (typeOf b) (.ref D)) (hCD : C ≠ D)
    (cC : BinC K C op.info.2) (cD : BinC K D op.info.2) (hs : findIn K (.ref C) (PySem.dunder op.info.2) = some (some (.ref f))) (hf : isFn K (.ref f) = true) (hsub : subIn K (.ref D) (.ref C) = some false)
    (h : wpAny (model prog w) A (call (.ref f) [.ref x, b]) (PySem.W.CmpBack Q) E s) : wpAny (model prog w) A (binaryOp op (.ref x) b) Q E s := by
  have X := X₀.keeps F.keep
  obtain ⟨cd, rest, hcd, hm⟩ := ksp_first cC.first
  obtain ⟨cd2, rest2, hcd2, hm2⟩ := ksp_first cD.first
  obtain ⟨gD, hsD⟩ := cD.own
  have hrC := cC.refl
  have hrD := cD.refl
  rcases hi : op.info with ⟨sym, nm'⟩
  rw [hi] at hs hsD hrC hrD
  dsimp only at hs hsD hrC hrD
  have one := ksp_try X I hs hf h
  obtain ⟨hh, g, d, tt, os⟩ := s
  have M1 : Looks (model prog w) hh (typeOf (.ref x)) (.ref C) := I.type
  have M2 : Looks (model prog w) hh (typeOf b) (.ref D) := hb
  have M3 : Looks (model prog w) hh (fillsNumberSlot (.ref C) nm') true := fills_K X hcd hm hs
  have M4 : Looks (model prog w) hh (fillsNumberSlot (.ref D) nm') true := fills_K X hcd2 hm2 hsD
  have M5 : Looks (model prog w) hh (isSubtype (.ref D) (.ref C)) false := looks_subIn X hsub
  have M6 : Looks (model prog w) hh (numberSlotInPython (.ref C) nm') true := ksp_inPy X hs hrC (.inl rfl)
  have M7 : Looks (model prog w) hh (numberSlotInPython (.ref D) nm') true := ksp_inPy X hsD hrD (.inl rfl)
  have hne : (Value.ref C == Value.ref D) = false := Bool.eq_false_iff.mpr fun q => by cases beq_iff_eq.mp q; exact hCD rfl
  simp only [binaryOp, hi]
  refine wpAny_holding (wpAny_bind ?_)
  unfold binaryOp1
  refine wpAny_bind (M1.at (wpAny_bind (M2.at (wpAny_bind (M3.at ?_)))))
  simp only [hne, Bool.false_eq_true, if_false]
  ksp_lk
  refine wpAny_mono one (fun r s' hr' => ?_) fun _ _ e => e
  obtain ⟨v, rfl, hq⟩ := hr'
  ksp_lk
  exact hq

open PySem.W PySem.Calls Builtin in
theorem raise_attr {M : Model} {α : Type} {msg : Str} {Q : α → Shared → Prop} (hh : A.handled = none) (hm : msg.length ≤ sizeLine)
    (h : ∀ h' tk e, (∀ b o, s.heap.get? b = some o → h'.get? b = some o) → (∃ o, h'.get? e = some o ∧ o.cls = .type "AttributeError") → E (.ref e) { s with heap := h', toks := tk }) :
    wpAny M A (raiseErrorStr "AttributeError" msg : Sem α) Q E s := by
  obtain ⟨hp, g, d, tk, os⟩ := s
  unfold raiseErrorStr
  refine wpAny_bind (wpAny_mkStr ?_ hm)
  refine wpAny_bind ?_
  unfold newExc newTuple
  refine wpAny_bind (wpAny_newObj_type ?_ (by size_fits))
  refine wpAny_bind (m := firstArgMember _ _) (wpAny_of_eq (a := Value.none) (by simp only [firstArgMember, attrError_no_first]; rfl) ?_)
  rw [ownMembersOf_AttributeError]
  refine wpAny_newObj_type ?_ (by size_fits)
  unfold raiseNew
  refine wpAny_bind (wpAny_handled ?_)
  rw [hh]
  first
    | refine wpAny_throw ?_
    | refine wpAny_bind (wpAny_pure (wpAny_throw ?_))
  dsimp only
  exact h _ _ _ (fun b o e => Heap.get?_push_of_some _ (Heap.get?_push_of_some _ e)) ⟨_, Heap.get?_push_size _ rfl, rfl⟩
open PySem.W PySem.Calls Builtin in
/-- a class has no attribute of a name: an error is made and forgotten -/
theorem cls_miss {tk0 : Tok} {name nm : Str} {cd : ClassData} {Q : Option Value → Shared → Prop} (X : K.In s.heap) (ho : nsIn K cStatics "thirdparty.any" = some none) (hty : typeIn K (.ref D) = some (.type "type")) (h1 : findIn K (.type "type") name = some none)
    (h2 : findIn K (.ref D) name = some none) (hga : findIn K (.type "type") "__getattribute__" = some (some (.builtin "type.__getattribute__"))) (hgg : findIn K (.type "type") "__getattr__" = some none) (hcd : clsIn K D = some cd) (hcn : cd.name = nm)
    (hs8 : nm.cps.foldl (fun k c => k + (Str.utf8Of c).length) 0 ≤ 100) (hfit : (((s!"type object '{nm.toString}' has no attribute '" : String) : Str) ++ name ++ ("'" : Str)).length ≤ sizeLine) (hh : A.handled = none)
    (h : ∀ h' tk, (∀ b o, s.heap.get? b = some o → h'.get? b = some o) → Q none { s with heap := h', toks := tk }) : wpAny (model prog w) A (getAttrBy? (.ref D) (.str name tk0)) Q E s := by
  have LO : Looks (model prog w) s.heap (opaqueClassAbove (.ref D)) none := looks_opaque X ho
  have LT : Looks (model prog w) s.heap (typeOf (.ref D)) (.type "type") := looks_typeIn X hty
  have LG := looks_findIn (M := model prog w) X hga
  have L1 := looks_findIn (M := model prog w) X h1
  have L2 := looks_findIn (M := model prog w) X h2
  have L3 := looks_findIn (M := model prog w) X hgg
  have LC := looks_clsIn (M := model prog w) X hcd
  obtain ⟨hp, g, d, tk, os⟩ := s
  dsimp only at X LO LT LG L1 L2 L3 LC h
  unfold getAttrBy? getAttrBy
  refine wpAny_bind (wpAny_attempt (wpAny_holding (wpAny_bind (LT.at (wpAny_bind (LG.at ?_))))))
  dsimp only
  rw [show (onTheHeap (.type "type") && Value.builtin "type.__getattribute__" == Value.builtin "object.__getattribute__") = false from rfl, if_neg (by decide)]
  unfold getAttrByItsOwn
  refine wpAny_bind (m := hookBefore (.type "type")) (wpAny_pure ?_)
  refine wpAny_bind (wpAny_attempt (wpAny_holding ?_))
  unfold callGetattribute
  rw [show (false && onTheHeap (Value.builtin "type.__getattribute__")) = false from rfl, if_neg (by decide)]
  unfold boundAndCalled
  rw [KF.slot_tga.bind]
  refine wpAny_bind (wpAny_pure ?_)
  show wpAny _ _ (call (.builtin "type.__getattribute__") [.ref D, .str name tk0]) _ _ _
  refine wpAny_call ?_
  refine codeAny_call_builtin KF.slot_tga.plain KF.entry_tga ?_
  refine @check_slot (model prog w) _ _ ⟨hp, g, d, tk, os⟩ "type.__getattribute__" "type" "__getattribute__" (.ref D) [.str name tk0] [] _ (by decide +kernel) (by decide +kernel) (LT.andThen (Looks.of_pure (by rw [isSubtype_type]; kernel_rfl))) (KF.args_tga (.ref D) (.str name tk0)) ?_
  unfold Builtin.«type.__getattribute__»
  refine wpAny_bind (wpAny_pure (wpAny_bind (LO.at (wpAny_bind (LT.at (wpAny_bind (L1.at ?_)))))))
  refine wpAny_bind (wpAny_pure ?_)
  refine wpAny_bind (L2.at ?_)
  dsimp only
  refine wpAny_bind (wpAny_rule ?_)
  unfold typeNameCut
  refine wpAny_bind (wpAny_bind (LC.at ?_))
  dsimp only
  rw [hcn, if_pos hs8]
  refine wpAny_pure ?_
  refine raise_attr hh hfit fun h' tk' e keep ⟨o, ho', hc⟩ => ?_
  have L3' : Looks (model prog w) h' (typeLookup (.type "type") "__getattr__") none := L3.keeps keep
  have isE : ∀ t'', (⟨h', g, d, t'', os⟩ : Shared).TypeIs (.ref e) "AttributeError" := fun _ => ⟨o, ho', hc⟩
  unfold getattributeRaised
  refine wpAny_bind (wpAny_isInstance (isE _) sub_AttributeError ?_)
  rw [if_pos rfl]
  unfold hookBehind
  refine wpAny_bind (L3'.at ?_)
  show wpAny _ _ (throw (.ref e)) _ _ _
  refine wpAny_throw ?_
  refine wpAny_bind (wpAny_isInstance (isE _) sub_AttributeError ?_)
  rw [if_pos rfl]
  exact wpAny_pure (h _ _ keep)
open PySem.W PySem.Calls Builtin in
/-- b is of a class derived from that of x -/
theorem bin_sub {op : Operator} {nm : Str} {cd : ClassData} {Q : Value → Shared → Prop} (F : Fr h₀ L s.heap m) (X₀ : K.In h₀) (I : InstAt s.heap x ox C od) (hb : Looks (model prog w) s.heap (typeOf b) (.ref D)) (hCD : C ≠ D)
    (cC : BinC K C op.info.2) (cD : BinC K D op.info.2) (hs : findIn K (.ref C) (PySem.dunder op.info.2) = some (some (.ref f))) (hf : isFn K (.ref f) = true) (hsub : subIn K (.ref D) (.ref C) = some true)
    (ho : nsIn K cStatics "thirdparty.any" = some none) (hty : typeIn K (.ref D) = some (.type "type")) (h1 : findIn K (.type "type") (dunderR op.info.2) = some none)
    (hga : findIn K (.type "type") "__getattribute__" = some (some (.builtin "type.__getattribute__"))) (hgg : findIn K (.type "type") "__getattr__" = some none) (hcd : clsIn K D = some cd) (hcn : cd.name = nm)
    (hs8 : nm.cps.foldl (fun k c => k + (Str.utf8Of c).length) 0 ≤ 100) (hfit : (((s!"type object '{nm.toString}' has no attribute '" : String) : Str) ++ dunderR op.info.2 ++ ("'" : Str)).length ≤ sizeLine) (hfit2 : (dunderR op.info.2).length ≤ sizeLine) (hh : A.handled = none)
    (h : ∀ h' tk, (∀ b o, s.heap.get? b = some o → h'.get? b = some o) → wpAny (model prog w) A (call (.ref f) [.ref x, b]) (PySem.W.CmpBack Q) E { s with heap := h', toks := tk }) : wpAny (model prog w) A (binaryOp op (.ref x) b) Q E s := by
  have X := X₀.keeps F.keep
  obtain ⟨cd1, rest, hcd1, hm⟩ := ksp_first cC.first
  obtain ⟨cd2, rest2, hcd2, hm2⟩ := ksp_first cD.first
  obtain ⟨gD, hsD⟩ := cD.own
  have hrC := cC.refl
  have hrD := cD.refl
  rcases hi : op.info with ⟨sym, nm'⟩
  rw [hi] at hs hsD hrC hrD h1 hfit hfit2
  dsimp only at hs hsD hrC hrD h1 hfit hfit2
  obtain ⟨hp, g, d, tt, os⟩ := s
  have M1 : Looks (model prog w) hp (typeOf (.ref x)) (.ref C) := I.type
  have M2 : Looks (model prog w) hp (typeOf b) (.ref D) := hb
  have M3 : Looks (model prog w) hp (fillsNumberSlot (.ref C) nm') true := fills_K X hcd1 hm hs
  have M4 : Looks (model prog w) hp (fillsNumberSlot (.ref D) nm') true := fills_K X hcd2 hm2 hsD
  have M5 : Looks (model prog w) hp (isSubtype (.ref D) (.ref C)) true := looks_subIn X hsub
  have M6 : Looks (model prog w) hp (numberSlotInPython (.ref C) nm') true := ksp_inPy X hs hrC (.inl rfl)
  have M7 : Looks (model prog w) hp (numberSlotInPython (.ref D) nm') true := ksp_inPy X hsD hrD (.inl rfl)
  have hne : (Value.ref C == Value.ref D) = false := Bool.eq_false_iff.mpr fun q => by cases beq_iff_eq.mp q; exact hCD rfl
  simp only [binaryOp, hi]
  refine wpAny_holding (wpAny_bind ?_)
  unfold binaryOp1
  refine wpAny_bind (M1.at (wpAny_bind (M2.at (wpAny_bind (M3.at ?_)))))
  simp only [hne, Bool.false_eq_true, if_false]
  refine wpAny_bind (M4.at ?_)
  simp only [Bool.and_self, if_true]
  refine wpAny_bind (M5.at ?_)
  simp only [if_true]
  unfold reflectedDiffers
  refine wpAny_bind (wpAny_bind (M6.at ?_))
  simp only [Bool.not_true, Bool.false_eq_true, if_false]
  refine wpAny_bind (M7.at ?_)
  simp only [Bool.not_true, Bool.false_eq_true, if_false]
  refine wpAny_bind (wpAny_mkStr ?_ hfit2)
  refine wpAny_bind (cls_miss (s := ⟨hp, g, d, _, os⟩) X ho hty h1 hrD hga hgg hcd hcn hs8 hfit hh fun h' tk keep => ?_)
  have N6 : Looks (model prog w) h' (numberSlotInPython (.ref C) nm') true := M6.keeps keep
  have N7 : Looks (model prog w) h' (numberSlotInPython (.ref D) nm') true := M7.keeps keep
  have one := ksp_try (s := ⟨h', g, d, tk, os⟩) (X.keeps keep) (inst_keep I keep) hs hf (h h' tk keep)
  refine wpAny_pure ?_
  simp only [Bool.false_eq_true, if_false]
  refine wpAny_bind ?_
  simp only [Bool.not_false, Bool.and_self, if_true]
  refine N6.at ?_
  simp only [if_true]
  refine wpAny_bind (N7.at ?_)
  simp only [Bool.not_true, Bool.false_eq_true, if_false]
  refine wpAny_bind (wpAny_mono one (fun r s' hr' => ?_) fun _ _ e => e)
  obtain ⟨v, rfl, hq⟩ := hr'
  exact wpAny_pure (wpAny_pure hq)
end

section
variable {prog : Program} {w : World} {A : Around} {E : Value → Shared → Prop} {s : Shared} {x : Addr}
theorem plain_bool_new : plainId "bool.__new__" = true := by decide +kernel
theorem owner_bool_new : ("bool.__new__".splitOn ".__new__").headD "" = "bool" := by simp +decide [String.splitOn, String.splitOnAux]
theorem code_bool_new {Q₁ : Value → Shared → Prop} (h : wpAny (model prog w) A.in1 (truthy (.ref x)) (fun b s' => Q₁ (.bool b) s') E s) :
    codeAny (model prog w) A (.call (.builtin "bool.__new__") ⟨[.type "bool", .ref x], []⟩) (wants Q₁ E) s := by
  refine codeAny_of_tree ?_
  show wpAny _ A.in1 (do checkBuiltinCall "bool.__new__" ⟨[.type "bool", .ref x], []⟩; again (.builtin "bool.__new__" ⟨[.type "bool", .ref x], []⟩)) _ _ s
  refine wpAny_bind (wpAny_of_eq (F.newCall_bool_1 _) (wpAny_pure ⟨plainId_quiet plain_bool_new _, codeAny_builtin F.entry_bool_new ?_⟩))
  rw [Around.under_plainId plain_bool_new _]
  have hsub := F.conv_sub_bool
  have hown := owner_bool_new
  obtain ⟨hp, g, d, tk, os⟩ := s
  unfold Builtin.«bool.__new__»
  refine wpAny_bind (m := isType _) (wpAny_pure ?_)
  simp only [Bool.not_true, Bool.false_eq_true, if_false]
  refine wpAny_bind ?_
  rw [hsub]
  refine wpAny_pure ?_
  simp only [Bool.not_true, Bool.false_eq_true, if_false]
  refine wpAny_bind (m := someArgs _ _ _ _) (wpAny_of_eq (a := [Value.ref x]) (by first | rfl | kernel_rfl!) ?_)
  exact wpAny_bind (wpAny_mono h (fun b s' z => wpAny_pure z) fun _ _ z => z)
theorem call_bool_inst {Q : Value → Shared → Prop} (h : wpAny (model prog w) A.in1.in1 (truthy (.ref x)) (fun b s' => Q (.bool b) s') E s) : wpAny (model prog w) A (call (.type "bool") [.ref x]) Q E s := by
  refine callType_codes (Q₁ := fun obj s' => ∃ b, obj = .bool b ∧ Q (.bool b) s') F.called_bool (F.typeCall_bool_1 _) F.entry_object_init (code_bool_new (wpAny_mono h (fun b s' z => ⟨b, rfl, z⟩) fun _ _ z => z)) fun obj s₁ ⟨b, eb, q⟩ => ?_
  subst eb
  have hT : s₁.TypeIs (.bool b) "bool" := rfl
  exact ⟨hT, F.args_object_init_2 _ _, object_init_meets F.called_bool.init.lookup F.called_bool.made F.newNe_bool prog w A.in1 _ s₁ (⟨hT, rfl, q⟩)⟩
end

/-- what the text has of two classes, for an operator with an instance of each -/
structure SubC (K : PySem.W.Frag) (D : Addr) (r : Str) (nm : Str) (cd : ClassData) : Prop where
  ho : PySem.W.nsIn K cStatics "thirdparty.any" = some none
  hty : PySem.W.typeIn K (.ref D) = some (.type "type")
  h1 : PySem.W.findIn K (.type "type") r = some none
  hga : PySem.W.findIn K (.type "type") "__getattribute__" = some (some (.builtin "type.__getattribute__"))
  hgg : PySem.W.findIn K (.type "type") "__getattr__" = some none
  hcd : PySem.W.clsIn K D = some cd
  hcn : cd.name = nm
  hs8 : nm.cps.foldl (fun k c => k + (Str.utf8Of c).length) 0 ≤ 100
  hfit : (((s!"type object '{nm.toString}' has no attribute '" : String) : Str) ++ r ++ ("'" : Str)).length ≤ sizeLine
  hfit2 : r.length ≤ sizeLine
inductive BinK (K : PySem.W.Frag) (C D : Addr) (op : Operator) : Prop where
  | same (e : C = D) (c : PySem.W.selfFirst K C = true)
  | mixed (n : C ≠ D) (c : BinC K C op.info.2) (d : BinC K D op.info.2) (s : PySem.W.subIn K (.ref D) (.ref C) = some false)
  | sub (n : C ≠ D) (c : BinC K C op.info.2) (d : BinC K D op.info.2) (s : PySem.W.subIn K (.ref D) (.ref C) = some true) (nm : Str) (cd : ClassData) (z : SubC K D (dunderR op.info.2) nm cd)
theorem rel_back {v : V} {u : Value} {Q : Value → Shared → Prop} {s : Shared} (r : RelV v u) (q : Q u s) : PySem.W.CmpBack Q u s := by
  cases v with
  | non => cases (show u = Value.none from r); exact q
  | bl b => cases (show u = Value.bool b from r); exact q
  | int i => obtain ⟨t, rfl⟩ := (show ∃ t, u = Value.int i t from r); exact q
  | str x => obtain ⟨t, rfl⟩ := (show ∃ t, u = Value.str x t from r); exact q
  | byt b => obtain ⟨t, rfl⟩ := (show ∃ t, u = Value.bytes b t from r); exact q
  | flt b => obtain ⟨t, rfl⟩ := (show ∃ t, u = Value.float b t from r); exact q
  | ref a => cases (show u = Value.ref a from r); exact q
  | ty n => cases (show u = Value.type n from r); exact q
section
variable {X : Cx} {CX : CXT} {k : Nat} {IsV : Addr → Prop} {sp : Sp} {E : XK} {m : Str} {ta tb : TE} {t : TA} {o e a b : Expr} {es : List Expr} {pos apos : Pos}
/-- x op y, both of classes of a family -/
def rBinV (IsV : Addr → Prop) (sp : Sp) (E : XK) : R2 := fun x y H Q => ∃ a b C D dx dy fs gs, x = .ref a ∧ y = .ref b ∧ IsV C ∧ IsV D ∧ H a = some (.ins C dx fs) ∧ H b = some (.ins D dy gs) ∧ sp [.ref a, .ref b] H Q E
theorem op_binV {op : Operator} (hn : PySem.dunder op.info.2 = m) (h : ∀ C, IsV C → HasM X.prog X.w X.K X.mg X.base CX C m k ["self", "other"] sp) (bk : ∀ C D, IsV C → IsV D → BinK X.K C D op) (g : Gd X.A) (hr : Room k X.A) (hx : Passes CX X E) :
    OpR X (binaryOp op) (rBinV IsV sp E) := by
  intro pins s σ H x y v u Q I rx ry hq
  obtain ⟨a, b, C, D, dx, dy, fs, gs, rfl, rfl, vC, vD, ha, hb, q⟩ := hq
  cases (show v = Value.ref a from rx)
  cases (show u = Value.ref b from ry)
  obtain ⟨f, fd, F, M, bi⟩ := (h C vC).ex
  obtain ⟨_, O1, _⟩ := ins_get I.hok ha
  obtain ⟨_, O2, _⟩ := ins_get I.hok hb
  obtain ⟨od, J, _⟩ := O1.look
  obtain ⟨od2, J2, _⟩ := O2.look
  obtain ⟨m', fr⟩ := I.fr
  have tb : PySem.W.Looks (model X.prog X.w) s.heap (typeOf (.ref b)) (.ref D) := J2.type
  have at_ : PySem.W.findIn X.K (.ref C) (PySem.dunder op.info.2) = some (some (.ref f)) := by rw [hn]; exact M.at_
  have run : ∀ h' tk, (∀ b o, s.heap.get? b = some o → h'.get? b = some o) → wpAny (model X.prog X.w) X.A (call (.ref f) [.ref a, .ref b]) (PySem.W.CmpBack (EP X pins σ Q)) X.xe { s with heap := h', toks := tk } := by
    intro h' tk keep
    have I2 : Inv X pins σ H { s with heap := h', toks := tk } := I.kept keep
    have b1 := bi { s with heap := h', toks := tk } [.ref a, .ref b] I2.kIn rfl
    rw [List.append_nil] at b1
    apply wpAny_call
    refine codeAny_mono (F.go g hr I2.env0 b1 (vs := [.ref a, .ref b]) (.cons rfl (.cons rfl .nil)) q) (fun res s' z => ?_)
    match res, z with
    | .error _, z => exact hx pins σ H _ _ s' I2 z
    | .ok (.ret _), z =>
      obtain ⟨v, H', I', rv, q2⟩ := I2.after z
      exact rel_back rv ⟨v, H', I', rv, q2⟩
  cases bk C D vC vD with
  | same e c =>
    subst e
    exact PySem.W.binop_K fr I.mod.kin J tb c at_ M.fn (run s.heap s.toks (fun _ _ e => e))
  | mixed n c d sb => exact bin_mixed fr I.mod.kin J tb n c d at_ M.fn sb (run s.heap s.toks (fun _ _ e => e))
  | sub n c d sb nm cd z => exact bin_sub fr I.mod.kin J tb n c d at_ M.fn sb z.ho z.hty z.h1 z.hga z.hgg z.hcd z.hcn z.hs8 z.hfit z.hfit2 hr.hd run
/-- o.m(args), o of a class of the family -/
def tMethV (IsV : Addr → Prop) (m : Str) (sp : Sp) (E : XK) (ta : TE) (t : TA) : TE := fun σ H Q => ta σ H fun x H1 => ∃ a C dx fs, x = .ref a ∧ IsV C ∧ H1 a = some (.ins C dx fs) ∧ fs.lookup m = none ∧ t σ H1 fun vs H2 => sp (.ref a :: vs) H2 Q E
theorem pe_methV {pl : Sem Bool} (he : PE X o ta) (c : ∀ C, IsV C → Cls X.K C) (h : ∀ C, IsV C → ∃ ps, HasM X.prog X.w X.K X.mg X.base CX C m k ps sp) (g : Gd X.A) (hr : Room k X.A) (hx : Passes CX X E) (ha : PA X (e :: es) t)
    (hst : starEach (e :: es) X.env = (false, eval e X.env) :: starEach es X.env := by rfl) (hpl : (backTo pos (starEach es X.env)).any (·.1) = false := by rfl)
    (ht : eval (.Call (.Attribute o m apos) (e :: es) [] pos) X.env = ((eval o X.env).bind fun ov => (standAt apos.atName).bind fun _ => (holding [ov] (getMethod ov m pl)).bind fun fm =>
      callWith pos fm.1 fm.2 (backTo pos (starEach (e :: es) X.env)) (backToKw pos (keywordEach [] X.env))) := by rfl) :
    PE X (.Call (.Attribute o m apos) (e :: es) [] pos) (tMethV IsV m sp E ta t) := by
  constructor
  intro pins s σ H Q I q
  refine PySem.W.methodCall_KW (pl := pl) (thn (he.run pins s σ H _ I q) (fun u s1 z => ?_)) ht
  obtain ⟨x, H1, I1, rx, a, C, dx, fs, ex, vC, ea, l, q1⟩ := z
  subst ex
  obtain ⟨ps, hC⟩ := h C vC
  obtain ⟨f, fd, F, M, b⟩ := hC.ex
  cases (show u = Value.ref a from rx)
  apply getmeth_ok I1 ea (c C vC) M l
  refine PySem.W.callWith_K (first := [.ref a]) (h₀ := X.base) I.ok.mod.kin M.kp (thn (ha.run pos pins s1 σ H1 _ I1 q1) (fun us s2 z => ?_)) hst hpl
  obtain ⟨vs, H2, I2, r, q2⟩ := z
  exact ⟨I2.kIn, goes (us := .ref a :: us) (vs := .ref a :: vs) F g hr b hx I2 (.cons rfl r) q2⟩
theorem pe_methV0 {pl : Sem Bool} (he : PE X o ta) (c : ∀ C, IsV C → Cls X.K C) (h : ∀ C, IsV C → ∃ ps, HasM X.prog X.w X.K X.mg X.base CX C m k ps sp) (g : Gd X.A) (hr : Room k X.A) (hx : Passes CX X E)
    (ht : eval (.Call (.Attribute o m apos) [] [] pos) X.env = ((eval o X.env).bind fun ov => (standAt apos.atName).bind fun _ => (holding [ov] (getMethod ov m pl)).bind fun fm =>
      callWith pos fm.1 fm.2 (backTo pos (starEach [] X.env)) (backToKw pos (keywordEach [] X.env))) := by rfl) :
    PE X (.Call (.Attribute o m apos) [] [] pos) (tMethV IsV m sp E ta tNil) := by
  constructor
  intro pins s σ H Q I q
  refine PySem.W.methodCall_KW (pl := pl) (thn (he.run pins s σ H _ I q) (fun u s1 z => ?_)) ht
  obtain ⟨x, H1, I1, rx, a, C, dx, fs, ex, vC, ea, l, q1⟩ := z
  subst ex
  obtain ⟨ps, hC⟩ := h C vC
  obtain ⟨f, fd, F, M, b⟩ := hC.ex
  cases (show u = Value.ref a from rx)
  apply getmeth_ok I1 ea (c C vC) M l
  exact PySem.W.callWith_K0 (first := [.ref a]) I1.kIn M.kp (goes (us := [.ref a]) (vs := [.ref a]) F g hr b hx I1 (.cons rfl .nil) q1)
/-- x == y, x != y: x of a class of the family, y of no class below it -/
def rEqV (K : PySem.W.Frag) (IsV : Addr → Prop) (sp : Sp) (E : XK) (neg : Bool) : R2 := fun x y H Q => ∃ a C dx fs t, x = .ref a ∧ IsV C ∧ H a = some (.ins C dx fs) ∧ TyX K H y t ∧ PySem.W.notFirst K C t = true ∧
  sp [.ref a, y] H (fun v H' => ∃ r, v = .bl r ∧ Q (.bl (neg != r)) H') E
theorem op_eqV (h : ∀ C, IsV C → HasM X.prog X.w X.K X.mg X.base CX C "__eq__" k ["self", "other"] sp) (g : Gd X.A) (hr : Room k X.A) (hx : Passes CX X E) : OpR X (compareOp .Eq) (rEqV X.K IsV sp E false) := by
  intro pins s σ H x y v u Q I rx ry hq
  obtain ⟨a, C, dx, fs, t, rfl, vC, ha, ty, nf, q⟩ := hq
  exact op_eqA (h C vC) g hr hx pins s σ H _ y v u Q I rx ry ⟨a, dx, fs, t, rfl, ha, ty, nf, q⟩
theorem op_neV (h : ∀ C, IsV C → HasM X.prog X.w X.K X.mg X.base CX C "__eq__" k ["self", "other"] sp) (e : ∀ C, IsV C → EqC X.K C) (g : Gd X.A) (hr : Room (k + 1) X.A) (hx : Passes CX X E) : OpR X (compareOp .NotEq) (rEqV X.K IsV sp E true) := by
  intro pins s σ H x y v u Q I rx ry hq
  obtain ⟨a, C, dx, fs, t, rfl, vC, ha, ty, nf, q⟩ := hq
  exact op_neA (h C vC) (e C vC) g hr hx pins s σ H _ y v u Q I rx ry ⟨a, dx, fs, t, rfl, ha, ty, nf, q⟩
/-- an instance of the family, alone -/
def rOneV (IsV : Addr → Prop) (sp : Sp) (E : XK) : List V → Hp → VK → Prop := fun xs H Q => ∃ a C dx fs, xs = [.ref a] ∧ IsV C ∧ H a = some (.ins C dx fs) ∧ sp [.ref a] H Q E
theorem call_strV (h : ∀ C, IsV C → HasM X.prog X.w X.K X.mg X.base CX C "__str__" k ["self"] sp) (g : Gd X.A) (hr : Room (k + 2) X.A) (hx : Passes CX X E) :
    CallR X (.type "str") (fun xs H Q => rOneV IsV sp E xs H fun v H' => ∃ y, v = .str y ∧ Q (.str y) H') := by
  intro pins s σ H xs us Q I r q
  obtain ⟨a, C, dx, fs, rfl, vC, ea, q1⟩ := q
  exact call_strM (h C vC) g hr hx pins s σ H _ us Q I r ⟨a, dx, fs, rfl, ea, q1⟩
theorem call_boolV (h : ∀ C, IsV C → HasM X.prog X.w X.K X.mg X.base CX C "__bool__" k ["self"] sp) (g : Gd X.A) (hr : Room (k + 2) X.A) (hx : Passes CX X E) :
    CallR X (.type "bool") (fun xs H Q => rOneV IsV sp E xs H fun v H' => ∃ y, v = .bl y ∧ Q (.bl y) H') := by
  intro pins s σ H xs us Q I r q
  obtain ⟨a, C, dx, fs, rfl, vC, ea, q1⟩ := q
  obtain ⟨f, fd, F, M, b⟩ := (h C vC).ex
  obtain ⟨u, rfl, ru⟩ := vals1 r
  cases (show u = Value.ref a from ru)
  obtain ⟨mA, O, _⟩ := ins_get I.hok ea
  obtain ⟨od, J, _⟩ := O.look
  have b1 := b s [.ref a] I.kIn rfl
  rw [List.append_nil] at b1
  obtain ⟨m', fr⟩ := I.fr
  refine call_bool_inst ?_
  refine PySem.W.truthy_K fr I.mod.kin J M.at_ M.fn ?_
  apply wpAny_call
  refine codeAny_mono (F.go (A := X.A.in1.in1) g hr.in1.in1 I.env0.in1.in1 b1 (vs := [.ref a]) (.cons rfl .nil) q1) (fun res s' z => ?_)
  match res, z with
  | .error _, z => exact hx pins σ H s _ s' I z
  | .ok (.ret _), z =>
    obtain ⟨v, H', I', rv, y, rfl, q2⟩ := I.after z
    cases (show _ = Value.bool y from rv)
    exact ⟨.bl y, H', I', rfl, q2⟩
theorem un_negV (h : ∀ C, IsV C → HasM X.prog X.w X.K X.mg X.base CX C "__neg__" k ["self"] sp) (g : Gd X.A) (hr : Room k X.A) (hx : Passes CX X E) : UnR X (unaryOp .USub) (fun x H Q => rOneV IsV sp E [x] H Q) := by
  intro pins s σ H x v Q I rx q
  obtain ⟨a, C, dx, fs, ex, vC, ea, q1⟩ := q
  cases ex
  cases (show v = Value.ref a from rx)
  obtain ⟨f, fd, F, M, b⟩ := (h C vC).ex
  obtain ⟨mA, O, _⟩ := ins_get I.hok ea
  obtain ⟨od, J, _⟩ := O.look
  have b1 := b s [.ref a] I.kIn rfl
  rw [List.append_nil] at b1
  obtain ⟨m', fr⟩ := I.fr
  refine PySem.W.ksp_neg fr I.mod.kin J M.at_ M.fn ?_
  apply wpAny_call
  refine codeAny_mono (F.go g hr I.env0 b1 (vs := [.ref a]) (.cons rfl .nil) q1) (fun res s' z => ?_)
  match res, z with
  | .error _, z => exact hx pins σ H s _ s' I z
  | .ok (.ret _), z => exact I.after z
/-- x[i], x of a class of the family with its own __getitem__ -/
theorem pe_ixV (h : ∀ C, IsV C → HasM X.prog X.w X.K X.mg X.base CX C "__getitem__" k ["self", "index"] sp) (g : Gd X.A) (hr : Room (k + 1) X.A) (hx : Passes CX X E) (ha : PE X a ta) (hb : PE X b tb)
    (hfn : ∀ C f, IsV C → PySem.W.findIn X.K (.ref C) "__getitem__" = some (some (.ref f)) → PySem.W.fnIn X.K f = true)
    (hs : ∀ x i, subscripted b true (.ref x) i = runValue (.builtin "lifetime.subscript" ⟨[.ref x, i], []⟩) := by exact fun _ _ => rfl) :
    PE X (.Subscript a b pos) (tOp (fun x y H Q => ∃ p C dx fs, x = .ref p ∧ IsV C ∧ H p = some (.ins C dx fs) ∧ sp [.ref p, y] H Q E) ta tb) := by
  refine ⟨fun pins s σ H Q I q => ?_⟩
  refine Subscript_ (binT ha hb I q fun v u s2 x y H2 I2 rx ry q => ?_)
  obtain ⟨p, C, dx, fs, ex, vC, ea, q1⟩ := q
  subst ex
  cases (show v = Value.ref p from rx)
  obtain ⟨f, fd, F, M, b⟩ := (h C vC).ex
  obtain ⟨mA, O, _⟩ := ins_get I2.hok ea
  obtain ⟨od, J, _⟩ := O.look
  have b1 := b s2 [.ref p, u] I2.kIn rfl
  rw [List.append_nil] at b1
  obtain ⟨m', fr⟩ := I2.fr
  refine PySem.W.sub_K fr I2.mod.kin J M.at_ (hfn C f vC M.at_) M.fn ?_ (hs _ _)
  apply wpAny_call
  refine codeAny_mono (F.go (A := X.A.in1) g hr.in1 I2.env0.in1 b1 (vs := [.ref p, y]) (.cons rfl (.cons ry .nil)) q1) (fun res s' z => ?_)
  match res, z with
  | .error _, z => exact hx pins σ H2 s2 _ s' I2 z
  | .ok (.ret _), z => exact I2.after z
end
end GL
/-! repr of data of any form without dicts, its ints of up to 4300 digits -/
namespace GL
open PySem PySem.Spec PyProof.Rows L2
mutual
def okD : PyData → Bool
  | .int i => decide (i.natAbs < 10 ^ 4300)
  | .list xs => okAll xs
  | .tuple xs => okAll xs
  | .dict _ => false
  | _ => true
def okAll : List PyData → Bool
  | [] => true
  | d :: r => okD d && okAll r
end
section
variable {prog : Program} {w : World} {h₀ : Heap}
mutual
theorem rep_of (nd : h₀.NoDigits) : ∀ {v : Value} {d : PyData} {as : List Addr}, Reads h₀ v d as → okD d = true → d.shown.length ≤ sizeLine → ∃ bs, ReadAtMost h₀ d.depth bs ∧ ReprK prog w bs h₀ d.depth v d.shown
  | _, _, _, .none, _, _ => ⟨[], (fun _ z => nomatch z), by simp only [PyData.shown]; exact ReprK.of_is ReprIs.none _ _ _⟩
  | _, _, _, .bool b, _, _ => ⟨[], (fun _ z => nomatch z), by simp only [PyData.shown]; exact ReprK.of_is (ReprIs.bool b) _ _ _⟩
  | _, _, _, .int i t, ok, _ => ⟨[], (fun _ z => nomatch z), by simp only [PyData.shown]; exact big_leaf nd t (show i.natAbs < 10 ^ 4300 from of_decide_eq_true (by simpa only [okD] using ok)) [] _⟩
  | _, _, _, .str x t, _, sz => ⟨[], (fun _ z => nomatch z), by simp only [PyData.shown]; exact ReprK.of_is (ReprIs.str x t (by simpa only [PyData.shown] using sz)) _ _ _⟩
  | _, _, _, .list (a := a) (vs := vs) (xs := xs) p1 p2 p3 p4, ok, sz => by
    have sz2 : (listText (PyData.shownAll xs)).length ≤ sizeLine := by simpa only [PyData.shown] using sz
    obtain ⟨bs, few, all⟩ := rep_all nd p4 (by simpa only [okD] using ok) (fun t m => Nat.le_trans (listText_mem_le m) sz2)
    have rd := Reads.list p1 p2 p3 p4
    have out : a ∉ bs := not_mem_of_deeper rd (by simp only [PyData.depth]; omega) few
    refine ⟨a :: bs, ReadAtMost.cons rd (by simp only [PyData.depth]; omega) few, ?_⟩
    simp only [PyData.depth, PyData.shown]
    obtain ⟨l⟩ := vs
    cases l with
    | nil =>
      have p5 : ReadsAll h₀ [] xs _ := p4
      cases p5
      simp only [PyData.shownAll, listText_nil]
      exact .listEmpty p1 p2 p3
    | cons x l => exact .list p1 p2 p3 out (by simpa using all.length_eq) (fun i y e => all.item i y (by simpa using e))
  | _, _, _, .tuple (a := a) (xs := xs) p1 p2 p3 p4, ok, sz => by
    have sz2 : (tupleText (PyData.shownAll xs)).length ≤ sizeLine := by simpa only [PyData.shown] using sz
    obtain ⟨bs, few, all⟩ := rep_all nd p4 (by simpa only [okD] using ok) (fun t m => Nat.le_trans (tupleText_mem_le m) sz2)
    have rd := Reads.tuple p1 p2 p3 p4
    have out : a ∉ bs := not_mem_of_deeper rd (by simp only [PyData.depth]; omega) few
    refine ⟨a :: bs, ReadAtMost.cons rd (by simp only [PyData.depth]; omega) few, ?_⟩
    simp only [PyData.depth, PyData.shown]
    exact .tuple p1 p2 p3 out all
  | _, _, _, .dict .., ok, _ => by simp only [okD] at ok; cases ok
theorem rep_all (nd : h₀.NoDigits) : ∀ {vs : List Value} {ds : List PyData} {as : List Addr}, ReadsAll h₀ vs ds as → okAll ds = true → (∀ t ∈ PyData.shownAll ds, t.length ≤ sizeLine) → ∃ bs, ReadAtMost h₀ (PyData.depthAll ds) bs ∧ ReprAllK prog w bs h₀ (PyData.depthAll ds) vs (PyData.shownAll ds)
  | _, _, _, .nil, _, _ => ⟨[], (fun _ z => nomatch z), by simp only [PyData.shownAll]; exact .nil⟩
  | _, _, _, .cons (d := d) (ds := ds) r rs, ok, sz => by
    have ok2 : okD d = true ∧ okAll ds = true := by simpa [okAll] using ok
    obtain ⟨b1, f1, k1⟩ := rep_of nd r ok2.1 (sz _ (by simp only [PyData.shownAll]; exact List.mem_cons_self ..))
    obtain ⟨b2, f2, k2⟩ := rep_all nd rs ok2.2 (fun t m => sz t (by simp only [PyData.shownAll]; exact List.mem_cons_of_mem _ m))
    refine ⟨b1 ++ b2, (f1.mono (by simp only [PyData.depthAll]; omega)).append (f2.mono (by simp only [PyData.depthAll]; omega)), ?_⟩
    simp only [PyData.depthAll, PyData.shownAll]
    exact .cons ((k1.more fun b m => List.mem_append_left _ m).level_le (by omega)) (k2.more_le (fun b m => List.mem_append_right _ m) (by omega))
end
theorem repr_any {A : Around} {E : Value → Shared → Prop} {s : Shared} {Q : Value → Shared → Prop} {a : Addr} {d : PyData} {as : List Addr} (nd : s.heap.NoDigits) (r : Reads s.heap (.ref a) d as) (ok : okD d = true) (sz : d.shown.length ≤ sizeLine)
    (hg : A.guards = some []) (hu : A.units + (d.depth + 3) < cLine) (hQ : ∀ h' u tk, (∀ b o, s.heap.get? b = some o → h'.get? b = some o) → Q (.str d.shown u) { s with heap := h', toks := tk }) : wpAny (model prog w) A (call (.builtin "repr") [.ref a]) Q E s := by
  cases r with
  | list p1 p2 p3 p4 =>
    rename_i o vs n xs bs₀
    have sz2 : (listText (PyData.shownAll xs)).length ≤ sizeLine := by simpa only [PyData.shown] using sz
    obtain ⟨cs, few, all⟩ := rep_all (prog := prog) (w := w) nd p4 (by simpa only [okD] using ok) (fun t m => Nat.le_trans (listText_mem_le m) sz2)
    have rd := Reads.list p1 p2 p3 p4
    have out : a ∉ cs := not_mem_of_deeper rd (by simp only [PyData.depth]; omega) few
    simp only [PyData.depth] at hu
    simp only [PyData.shown] at hQ
    obtain ⟨l⟩ := vs
    cases l with
    | nil =>
      have p5 : ReadsAll s.heap [] xs _ := p4
      cases p5
      exact repr_of_reads' (.list p1 p2 p3 .nil) (by decide +kernel) (fun z => absurd z (by decide +kernel)) hg (by show A.units + 2 < cLine; omega) (fun _ _ e => e) (fun h' u tk hk => by simpa only [PyData.shown, PyData.shownAll] using hQ h' u tk hk) (by simpa only [PyData.shown] using sz2)
    | cons x l =>
      refine call_repr_slot (by omega) (T := "list") (idr := "list.__repr__") ⟨o, p1, p2⟩ F.slot_list_repr.toG ?_
      exact call_list_reprK p1 p2 p3 out (by simpa using all.length_eq) (fun i y e => all.item i y (by simpa using e)) hg (fun b _ => Clear.nil b) (by show A.units + 1 + (PyData.depthAll xs + 1) < cLine; omega) (fun _ _ e => e) (fun h' u tk hk => ⟨_, _, rfl, hQ h' u tk hk⟩) sz2
  | @tuple _ o vs n xs _ p1 p2 p3 p4 =>
    have sz2 : (tupleText (PyData.shownAll xs)).length ≤ sizeLine := by simpa only [PyData.shown] using sz
    obtain ⟨cs, few, all⟩ := rep_all (prog := prog) (w := w) nd p4 (by simpa only [okD] using ok) (fun t m => Nat.le_trans (tupleText_mem_le m) sz2)
    have rd := Reads.tuple p1 p2 p3 p4
    have out : a ∉ cs := not_mem_of_deeper rd (by simp only [PyData.depth]; omega) few
    simp only [PyData.depth] at hu
    simp only [PyData.shown] at hQ
    refine call_repr_slot (by omega) (T := "tuple") (idr := "tuple.__repr__") ⟨o, p1, p2⟩ F.slot_tuple_repr ?_
    exact call_tuple_reprK p1 p2 p3 out all hg (fun b _ => Clear.nil b) (by show A.units + 1 + (PyData.depthAll xs + 1) < cLine; omega) (fun _ _ e => e) (fun h' u tk hk => ⟨_, _, rfl, hQ h' u tk hk⟩) sz2
  | dict p1 p2 p3 p4 p5 => simp only [okD] at ok; cases ok
end
def rReprB (K : PySem.W.Frag) : List V → Hp → VK → Prop := fun xs H Q => ∃ a d, xs = [.ref a] ∧ Dp K H (.ref a) d ∧ okD d = true ∧ d.depth ≤ 20 ∧ d.shown.length ≤ sizeLine ∧ Q (.str d.shown) H
theorem call_reprB {X : Cx} (dig : PySem.W.nsIn X.K cStatics "sys.int_max_str_digits" = some none) (hg : Gd X.A) (hu : X.A.units + 64 < cLine) : CallR X (.builtin "repr") (rReprB X.K) := by
  intro pins s σ H xs us Q I r h
  obtain ⟨a, d, rfl, hd, ok, dp, sz, q⟩ := h
  obtain ⟨u, rfl, r1⟩ := vals1 r
  cases (show u = Value.ref a from r1)
  obtain ⟨as, hr⟩ := Dp.reads I d (.ref a) (.ref a) hd rfl
  exact repr_any (big_base dig I) hr ok sz hg (by omega) (fun h' u tk hk => ⟨.str _, H, I.kept hk, ⟨_, rfl⟩, q⟩)
end GL
/-! vectors -/
namespace GL
open PySem PySem.Spec PyProof.Rows L2
/-! ### a class that is called, its __init__ calling defs -/
structure HasG (P : Program) (w : World) (K : PySem.W.Frag) (mg : Str → Option Value) (base : Heap) (x : Str) (C : Addr) (k : Nat) (ps : List Str) (sp : Sp) : Prop where
  ex : ∃ f fd, FnG P w K mg base CX0 k f fd ps sp ∧ mg x = some (.ref C) ∧ Mk K C f ∧ Binds K fd ps []
section
variable {X : Cx} {CX : CXT} {k : Nat} {f C : Addr} {fd : FuncData} {ps : List Str} {sp : Sp} {E : XK} {x : Str} {p pos : Pos} {e : Expr} {es : List Expr} {t : TA}
theorem run_makeG {pins : List (Addr × Obj)} {σ : L2.St} {H : Hp} {s : Shared} {Q : VK} {us : List Value} {vs : List V} (M : Mk X.K C f) (F : FnG X.prog X.w X.K X.mg X.base CX k f fd ps sp) (g : Gd X.A) (hr : Room (k + 1) X.A) (hb : Binds X.K fd ps [])
    (hx : Passes CX X E) (I : Inv X pins σ H s) (r : Vals vs us) (h : ∀ a dx, H a = none → H dx = none → dx ≠ a → sp (.ref a :: (vs ++ [])) (upd (upd H dx (.own a)) a (.ins C dx [])) (fun v H2 => v = .non ∧ Q (.ref a) H2) E) :
    wpAny (model X.prog X.w) X.A (call (.ref C) us) (EP X pins σ Q) X.xe s := by
  have q := h (s.heap.objs.size + 1) s.heap.objs.size (I.hok.fresh (Nat.le_succ _)) (I.hok.fresh (Nat.le_refl _)) (Nat.ne_of_lt (Nat.lt_succ_self _))
  rw [List.append_nil] at q
  have J := Inv.made (C := C) I
  have rr : Vals (V.ref (s.heap.objs.size + 1) :: vs) (Value.ref (s.heap.objs.size + 1) :: us) := .cons rfl r
  have nl : (Value.ref (s.heap.objs.size + 1) :: us ++ []).length = ps.length := by
    rw [List.append_nil, ← rr.length]
    exact F.len _ _ _ _ q
  have b1 := hb _ (Value.ref (s.heap.objs.size + 1) :: us) J.kIn nl
  rw [List.append_nil] at b1
  refine wpAny_call (make_map (f := f) I.kIn M.makes M.init (beq_iff_eq.mp M.fn) (codeAny_mono (F.go (by exact g) (hr.make C us []) (J.env0.make C us []) b1 rr q) fun res s' z => ?_))
  match res, z with
  | .error e, z => exact hx pins σ _ _ e s' J z
  | .ok (.ret u), z =>
    obtain ⟨v, H', I3, rv, ev, q3⟩ := J.after z
    subst ev
    exact ⟨rv, V.ref (s.heap.objs.size + 1), H', I3, rfl, q3⟩
theorem pe_makeG (h : HasG X.prog X.w X.K X.mg X.base x C k ps sp) (g : Gd X.A) (hr : Room (k + 1) X.A) (hx : Passes CX0 X E) (ha : PA X (e :: es) t) (hg : Gl X x := by exact rfl)
    (hdb : (x == ("__debug__" : Str)) = false := by decide) (he : starEach (e :: es) X.env = (false, eval e X.env) :: starEach es X.env := by rfl) (hpl : (backTo pos (starEach es X.env)).any (·.1) = false := by rfl) :
    PE X (.Call (.Name x p) (e :: es) [] pos) (tMake C sp [] E t) := by
  obtain ⟨f, fd, F, m, M, b⟩ := h.ex
  refine ⟨fun pins s σ H Q I q => ?_⟩
  refine wpAny_Call_Name_kw (ld_glob I hg m ?_ hdb)
  refine PySem.W.callWith_K (h₀ := X.base) I.ok.mod.kin M.kp (thn (ha.run pos pins s σ H _ I q) fun us s1 ⟨vs, H1, I1, r, q1⟩ => ?_) he hpl
  exact ⟨I1.kIn, run_makeG M F g hr b hx I1 r q1⟩
end
theorem Dc.hasG {P : Program} {w : World} {K : PySem.W.Frag} {mg : Str → Option Value} {base : Heap} {C : Addr} {x qual : Str} {st : Stmt} {N ps : List Str} {k : Nat} {sp : Sp} (D : Dc K C qual st) (m : mg x = some (.ref C)) (S : FnScope N ps (defScope st)) (len : ∀ vs H Q E, sp vs H Q E → vs.length = ps.length)
    (bi : ∀ (kV doc pm : Value) (an : Option Addr) (cdv ct : Value) (us : List Value), us.length = ps.length → bindArgs (PySem.W.fnOf "__init__" qual (defArgs st) (defBody st) (defScope st) .none kV doc pm an cdv ct) ⟨us, []⟩ = pure (ps.zip us))
    (body : ∀ (f : Addr) (cdv : Value) (A : Around) (outer : List Env) (s : Shared) (H : Hp) (vs : List V) (Q : VK) (E : XK), Gd (A.deeper (envOfC qual (defScope st) s.heap.objs.size f cdv)) → Room k (A.deeper (envOfC qual (defScope st) s.heap.objs.size f cdv)) → sp vs H Q E →
      ∃ t, PSs (cxOf CX0 P w K mg base N qual (defScope st) f cdv A outer s H E).nox (defBody st) t ∧ t { nx := fun _ H' => Q .non H', rt := Q } (start N vs) H) : HasG P w K mg base x C (k + 1) ps sp := by
  obtain ⟨f, fd, F, M⟩ := D.ex
  exact ⟨f, fd, F.g S len (body f), m, M, F.binds bi⟩
variable {K : PySem.W.Frag} {C CV CM D D' : Addr} {U : Bool → Addr} {us : Bool → List Addr} {t : Bool} {u z : Int × Int}
def IsV (CV CM : Addr) (C : Addr) : Prop := C = CV ∨ C = CM
def vF (g a : Addr) (n : Int) : List (Str × V) := [("grid", .ref g), ("point", .ref a), ("norm", .int n)]
/-- at v a vector of the class D, of the grid t, with the point u -/
def VecAt (K : PySem.W.Frag) (C : Addr) (U : Bool → Addr) (D : Addr) (H : Hp) (v : Addr) (t : Bool) (u : Int × Int) : Prop := ∃ dx g a, H v = some (.ins D dx (vF g a (nrm t u))) ∧ GridAt C U H g t ∧ PAt K H a u
theorem vF_grid {g a : Addr} {n : Int} : (vF g a n).lookup ("grid" : Str) = some (.ref g) := rfl
theorem vF_point {g a : Addr} {n : Int} : (vF g a n).lookup ("point" : Str) = some (.ref a) := rfl
theorem vF_norm {g a : Addr} {n : Int} : (vF g a n).lookup ("norm" : Str) = some (.int n) := rfl
theorem VecAt.same {H H' : Hp} {v : Addr} (h : VecAt K C U D H v t u) (s : Same H H') : VecAt K C U D H' v t u := let ⟨dx, g, a, e, hg, hp⟩ := h; ⟨dx, g, a, s _ _ e, hg.same s, hp.same s⟩
theorem VecAt.got {p : Addr} {H H' : Hp} {v : Addr} (h : VecAt K C U D H v t u) (s : Got p H H') (d : Die H p) : VecAt K C U D H' v t u := by
  obtain ⟨dx, g, a, e, hg, hp⟩ := h
  have gg := hg.got s d
  have pp := hp.got s d
  obtain ⟨_, _, _, _, e0⟩ := d
  exact ⟨dx, g, a, s.keep _ _ e (ne_of e e0 (by intro z; cases z)), gg, pp⟩
def psub (u v : Int × Int) : Int × Int := (u.1 - v.1, u.2 - v.2)
def pw (t : Bool) (u : Int × Int) : Nat → Int × Int
  | 0 => (1, 0)
  | n + 1 => mul t (pw t u n) u
theorem mul_one' : mul t (1, 0) u = u := by unfold mul sl; cases t <;> simp
theorem one_mul' : mul t u (1, 0) = u := by rw [mul_comm', mul_one']
theorem pw_add (m n : Nat) : mul t (pw t u m) (pw t u n) = pw t u (m + n) := by
  induction n with
  | zero => exact one_mul'
  | succ n ih => rw [pw, ← mul_assoc', ih]; rfl
structure VCls (K : PySem.W.Frag) (D : Addr) : Prop where
  cls : Cls K D
  grid : NoAttr K D "grid"
  point : NoAttr K D "point"
  norm : NoAttr K D "norm"
theorem log_of {x : Int} (h : x.natAbs < 10 ^ 400) : x.natAbs.log2 < 1920 := Nat.lt_of_lt_of_le (PySem.Flt.log2_lt_of (k := 1329) (by decide) (Nat.lt_of_lt_of_le h (by decide +kernel))) (by decide)
theorem sign_neg {n : Int} (h : n < 0) : (toString n : String) = "-" ++ toString (-n) := by
  obtain ⟨m, rfl⟩ : ∃ m : Nat, n = Int.negSucc m := ⟨(-n).toNat - 1, by omega⟩
  rfl
theorem ofS_append (a b : String) : Str.ofString (a ++ b) = Str.ofString a ++ Str.ofString b := by
  rw [Str.ofString_eq_toList, Str.ofString_eq_toList, Str.ofString_eq_toList]
  refine Str.ext' ?_
  rw [Str.cps_append]
  simp
theorem sign_of (n : Int) : (if n < 0 then Str.ofString "-" else Str.ofString "") ++ Str.ofString (toString (if n < 0 then -n else n)) = Str.ofString (toString n) := by
  by_cases h : n < 0
  · rw [if_pos h, if_pos h, sign_neg h, ofS_append]
  · rw [if_neg h, if_neg h]
    exact Str.empty_append _
/-! ### promises -/
def spVInit (K : PySem.W.Frag) (C : Addr) (U : Bool → Addr) (D : Addr) (ok : Int × Int → Prop) : Sp := fun vs H Q _ => ∃ p dx g a t u, vs = [.ref p, .ref g, .ref a] ∧ H p = some (.ins D dx []) ∧ GridAt C U H g t ∧ PAt K H a u ∧ ok u ∧
  ∀ H', (∀ b, b ≠ p → H' b = H b) → H' p = some (.ins D dx (vF g a (nrm t u))) → Q .non H'
/-- what hands out a new vector, at u' -/
def VNew (K : PySem.W.Frag) (C : Addr) (U : Bool → Addr) (D : Addr) (H : Hp) (t : Bool) (u : Int × Int) (Q : VK) : Prop := ∀ r H', H r = none → Same H H' → VecAt K C U D H' r t u → Q (.ref r) H'
def spVBin (K : PySem.W.Frag) (C : Addr) (U : Bool → Addr) (CV CM : Addr) (f : Bool → Int × Int → Int × Int → Int × Int) : Sp := fun vs H Q _ => ∃ v w D D' t u z, vs = [.ref v, .ref w] ∧ IsV CV CM D ∧ IsV CV CM D' ∧ VecAt K C U D H v t u ∧ VecAt K C U D' H w t z ∧ Sm u ∧ Sm z ∧ Sm (f t u z) ∧ VNew K C U CM H t (f t u z) Q
def spVDiv (K : PySem.W.Frag) (C : Addr) (U : Bool → Addr) (CV CM : Addr) : Sp := fun vs H Q _ => ∃ v w D D' t u z q, vs = [.ref v, .ref w] ∧ IsV CV CM D ∧ IsV CV CM D' ∧ VecAt K C U D H v t u ∧ VecAt K C U D' H w t z ∧ Sm u ∧ Sm z ∧ Sm q ∧ Sm (flip t z) ∧ Sm (low t u z) ∧ (nrm t z).natAbs < 2 ^ 2000 ∧ 0 < nrm t z ∧ mul t q z = u ∧ VNew K C U CM H t q Q
def spVUn (K : PySem.W.Frag) (C : Addr) (U : Bool → Addr) (CV CM : Addr) (f : Bool → Int × Int → Int × Int) : Sp := fun vs H Q _ => ∃ v D t u, vs = [.ref v] ∧ IsV CV CM D ∧ VecAt K C U D H v t u ∧ Sm u ∧ Sm (f t u) ∧ VNew K C U CM H t (f t u) Q
def spVTurn (K : PySem.W.Frag) (C : Addr) (U : Bool → Addr) (CV CM : Addr) : Sp := fun vs H Q _ => ∃ v D t u k, vs = [.ref v, .int k] ∧ IsV CV CM D ∧ VecAt K C U D H v t u ∧ isIntV (.int k) = true ∧ Sm u ∧ Sm (mul t u (uni t k)) ∧ VNew K C U CM H t (mul t u (uni t k)) Q
def spVPow (K : PySem.W.Frag) (C : Addr) (U : Bool → Addr) (CV CM : Addr) : Sp := fun vs H Q _ => ∃ v D t u, ∃ n : Nat, vs = [.ref v, .int n] ∧ IsV CV CM D ∧ VecAt K C U D H v t u ∧ n ≤ 1000 ∧ Sm u ∧ (∀ i, i ≤ n → Sm (pw t u i)) ∧ VNew K C U CM H t (pw t u n) Q
def spVItem (K : PySem.W.Frag) (C : Addr) (U : Bool → Addr) (CV CM : Addr) : Sp := fun vs H Q _ => ∃ v D t u i, vs = [.ref v, .int i] ∧ IsV CV CM D ∧ VecAt K C U D H v t u ∧ (i = 0 ∨ i = 1) ∧ Q (.int (if i = 0 then u.1 else u.2)) H
def spVBool (K : PySem.W.Frag) (C : Addr) (U : Bool → Addr) (CV CM : Addr) : Sp := fun vs H Q _ => ∃ v D t u, vs = [.ref v] ∧ IsV CV CM D ∧ VecAt K C U D H v t u ∧ ∀ H', Same H H' → Q (.bl (!decide (u = (0, 0)))) H'
def vText (u : Int × Int) : Str := (toString u.1 : Str) ++ "," ++ (toString u.2 : Str)
def spVStr (K : PySem.W.Frag) (C : Addr) (U : Bool → Addr) (CV CM : Addr) : Sp := fun vs H Q _ => ∃ v D t u, vs = [.ref v] ∧ IsV CV CM D ∧ VecAt K C U D H v t u ∧ ptOk u ∧ ∀ H', Same H H' → Q (.str (vText u)) H'
/-- y as the other side of a vector of the grid t at u: r tells whether it is equal -/
def VOpd (K : PySem.W.Frag) (C : Addr) (U : Bool → Addr) (CV CM : Addr) (H : Hp) (t : Bool) (u : Int × Int) (y : V) (r : Bool) : Prop :=
  (∃ w D t' z, y = .ref w ∧ IsV CV CM D ∧ VecAt K C U D H w t' z ∧ r = (t == t' && decide (u = z))) ∨ (∃ k : Kd, Of K H y k ∧ r = false) ∨ (∃ g t', y = .ref g ∧ GridAt C U H g t' ∧ r = false)
def spVEq (K : PySem.W.Frag) (C : Addr) (U : Bool → Addr) (CV CM : Addr) : Sp := fun vs H Q _ => ∃ v D t u y r, vs = [.ref v, y] ∧ IsV CV CM D ∧ VecAt K C U D H v t u ∧ VOpd K C U CV CM H t u y r ∧ Q (.bl r) H
def spPartner (K : PySem.W.Frag) (C : Addr) (U : Bool → Addr) (CV CM : Addr) : Sp := fun vs H Q _ => ∃ v w D D' t u z, vs = [.ref v, .ref w] ∧ IsV CV CM D ∧ IsV CV CM D' ∧ VecAt K C U D H v t u ∧ VecAt K C U D' H w t z ∧ Q .non H
def spMinus (K : PySem.W.Frag) : Sp := fun vs H Q _ => ∃ a b u v, vs = [.ref a, .ref b] ∧ PAt K H a u ∧ PAt K H b v ∧ ∀ p, H p = none → Q (.ref p) (upd H p (.tup [.int (psub u v).1, .int (psub u v).2]))
def spRaised (K : PySem.W.Frag) (C : Addr) (U : Bool → Addr) (j : Nat) : Sp := fun vs H Q _ => ∃ g t a u, ∃ n : Nat, vs = [.ref g, .ref a, .int n] ∧ GridAt C U H g t ∧ PAt K H a u ∧ Sm u ∧ n < 2 ^ j ∧ (∀ i, i ≤ n → Sm (pw t u i)) ∧ ∀ p H', H p = none → Same H H' → PAt K H' p (pw t u n) → Q (.ref p) H'
def spWrite : Sp := fun vs H Q _ => ∃ n : Int, vs = [.int n] ∧ isIntV (.int n) = true ∧ ∀ H', Same H H' → Q (.str (toString n)) H'
def spDivG (K : PySem.W.Frag) (C : Addr) (U : Bool → Addr) : Sp := fun vs H Q _ => ∃ g t a b u v, vs = [.ref g, .ref a, .ref b] ∧ GridAt C U H g t ∧ PAt K H a u ∧ PAt K H b v ∧ Sm u ∧ Sm v ∧ Sm (flip t v) ∧ Sm (low t u v) ∧ (nrm t v).natAbs < 2 ^ 2000 ∧ 0 < nrm t v ∧ ∀ x H', Same H H' → QAt K H' (quo t u v) x → Q x H'
/-! ### classes -/
structure VIs (K : PySem.W.Frag) (C CV CM : Addr) : Prop where
  v : GIs K CV
  m : GIs K CM
  mv : PySem.W.subIn K (.ref CM) (.ref CV) = some true
  vm : PySem.W.subIn K (.ref CV) (.ref CM) = some false
  gv : PySem.W.subIn K (.ref C) (.ref CV) = some false
  gm : PySem.W.subIn K (.ref C) (.ref CM) = some false
  ne : CV ≠ CM
theorem VIs.is (i : VIs K C CV CM) (d : IsV CV CM D) : GIs K D := by rcases d with rfl | rfl; exact i.v; exact i.m
theorem VIs.kit (i : VIs K C CV CM) (d : IsV CV CM D) : PySem.W.kitOne K (.ref D) (.ref CV) = some true := by
  rcases d with rfl | rfl
  · exact kit_self
  · unfold PySem.W.kitOne
    rw [if_neg (by intro z; have z := beq_iff_eq.mp z; injection z with z; exact i.ne z.symm)]
    show (if _ then _ else _) = _
    rw [if_pos i.v.is]
    exact i.mv
theorem VIs.kitG (i : VIs K C CV CM) (n : C ≠ CV) : PySem.W.kitOne K (.ref C) (.ref CV) = some false := by
  unfold PySem.W.kitOne
  rw [if_neg (by intro z; have z := beq_iff_eq.mp z; injection z with z; exact n z)]
  show (if _ then _ else _) = _
  rw [if_pos i.v.is]
  exact i.gv
theorem VecAt.ty {H : Hp} {v : Addr} (h : VecAt K C U D H v t u) (i : GIs K D) (c : Cls K D) : TyX K H (.ref v) (.ref D) := let ⟨_, _, _, e, _⟩ := h; i.ty c e
end GL
namespace GL
open PySem PySem.Spec PyProof.Rows L2
variable {K : PySem.W.Frag} {CV CM : Addr}
theorem gm_mk {C f : Addr} {m : Str} (h1 : PySem.W.findIn K (.ref C) m = some (some (.ref f))) (h2 : PySem.W.fnIn K f = true) : ∃ f : Addr, PySem.W.findIn K (.ref C) m = some (some (.ref f)) ∧ PySem.W.fnIn K f = true := ⟨f, h1, h2⟩
/-- what the text has of an operator's names in both classes -/
structure OpTxt (K : PySem.W.Frag) (CV CM : Addr) (m r : Str) : Prop where
  fV : ∃ f : Addr, PySem.W.findIn K (.ref CV) m = some (some (.ref f))
  fM : ∃ f : Addr, PySem.W.findIn K (.ref CM) m = some (some (.ref f))
  rV : PySem.W.findIn K (.ref CV) r = some none
  rM : PySem.W.findIn K (.ref CM) r = some none
  rT : PySem.W.findIn K (.type "type") r = some none
theorem optxt_mk {m r : Str} {f g : Addr} (fV : PySem.W.findIn K (.ref CV) m = some (some (.ref f))) (fM : PySem.W.findIn K (.ref CM) m = some (some (.ref g))) (rV : PySem.W.findIn K (.ref CV) r = some none) (rM : PySem.W.findIn K (.ref CM) r = some none)
    (rT : PySem.W.findIn K (.type "type") r = some none) : OpTxt K CV CM m r := ⟨⟨_, fV⟩, ⟨_, fM⟩, rV, rM, rT⟩
structure ClsTxt (K : PySem.W.Frag) (CV CM : Addr) (nm : Str) : Prop where
  sfV : PySem.W.selfFirst K CV = true
  sfM : PySem.W.selfFirst K CM = true
  ho : PySem.W.nsIn K cStatics "thirdparty.any" = some none
  hty : PySem.W.typeIn K (.ref CM) = some (.type "type")
  hga : PySem.W.findIn K (.type "type") "__getattribute__" = some (some (.builtin "type.__getattribute__"))
  hgg : PySem.W.findIn K (.type "type") "__getattr__" = some none
  hcd : ∃ cd, PySem.W.clsIn K CM = some cd ∧ cd.name = nm
  mv : PySem.W.subIn K (.ref CM) (.ref CV) = some true
  vm : PySem.W.subIn K (.ref CV) (.ref CM) = some false
  ne : CV ≠ CM
theorem bink_mk {op : Operator} {m r nm : Str} (X : ClsTxt K CV CM nm) (O : OpTxt K CV CM m r) (hm : PySem.dunder op.info.2 = m) (hr : dunderR op.info.2 = r) (hs8 : nm.cps.foldl (fun k c => k + (Str.utf8Of c).length) 0 ≤ 100)
    (hfit : (((s!"type object '{nm.toString}' has no attribute '" : String) : Str) ++ r ++ ("'" : Str)).length ≤ sizeLine) (hfit2 : r.length ≤ sizeLine) : ∀ C D, IsV CV CM C → IsV CV CM D → BinK K C D op := by
  have bV : BinC K CV op.info.2 := ⟨X.sfV, by rw [hm]; exact O.fV, by rw [hr]; exact O.rV⟩
  have bM : BinC K CM op.info.2 := ⟨X.sfM, by rw [hm]; exact O.fM, by rw [hr]; exact O.rM⟩
  obtain ⟨cd, h1, h2⟩ := X.hcd
  intro C D hC hD
  rcases hC with rfl | rfl <;> rcases hD with rfl | rfl
  · exact .same rfl X.sfV
  · exact .sub X.ne bV bM X.mv nm cd ⟨X.ho, X.hty, by rw [hr]; exact O.rT, X.hga, X.hgg, h1, h2, hs8, by rw [hr]; exact hfit, by rw [hr]; exact hfit2⟩
  · exact .mixed (fun z => X.ne z.symm) bM bV X.vm
  · exact .same rfl X.sfM
end GL
namespace K06
open PySem PySem.Spec PyProof.Rows L2 GL SkE
def topS (i : Nat) : Stmt := PySem.Challenge.pw_grownlines_k06_whole_vectors_with_operat.main.body.getD i (.Pass ⟨0, 0, 0, 0⟩)
abbrev s_plus : Stmt := topS 2
abbrev N_plus : List Str := ["one", "other"]
theorem sc_plus : FnScope N_plus ["one", "other"] (defScope s_plus) := ⟨rfl, rfl, rfl, by decide +kernel, rfl, by decide +kernel, by decide +kernel⟩
abbrev s_minus : Stmt := topS 3
abbrev N_minus : List Str := ["one", "other"]
theorem sc_minus : FnScope N_minus ["one", "other"] (defScope s_minus) := ⟨rfl, rfl, rfl, by decide +kernel, rfl, by decide +kernel, by decide +kernel⟩
abbrev s_times : Stmt := topS 4
abbrev N_times : List Str := ["grid", "one", "other", "low"]
theorem sc_times : FnScope N_times ["grid", "one", "other"] (defScope s_times) := ⟨rfl, rfl, rfl, by decide +kernel, rfl, by decide +kernel, by decide +kernel⟩
abbrev s_norm_in : Stmt := topS 5
abbrev N_norm_in : List Str := ["grid", "point"]
theorem sc_norm_in : FnScope N_norm_in ["grid", "point"] (defScope s_norm_in) := ⟨rfl, rfl, rfl, by decide +kernel, rfl, by decide +kernel, by decide +kernel⟩
abbrev s_flipped : Stmt := topS 6
abbrev N_flipped : List Str := ["grid", "point"]
theorem sc_flipped : FnScope N_flipped ["grid", "point"] (defScope s_flipped) := ⟨rfl, rfl, rfl, by decide +kernel, rfl, by decide +kernel, by decide +kernel⟩
abbrev s_turned_by : Stmt := topS 7
abbrev N_turned_by : List Str := ["grid", "point", "turn"]
theorem sc_turned_by : FnScope N_turned_by ["grid", "point", "turn"] (defScope s_turned_by) := ⟨rfl, rfl, rfl, by decide +kernel, rfl, by decide +kernel, by decide +kernel⟩
abbrev s_divided : Stmt := topS 8
abbrev N_divided : List Str := ["grid", "point", "divisor", "norm", "raw"]
theorem sc_divided : FnScope N_divided ["grid", "point", "divisor"] (defScope s_divided) := ⟨rfl, rfl, rfl, by decide +kernel, rfl, by decide +kernel, by decide +kernel⟩
abbrev s_raised : Stmt := topS 9
abbrev N_raised : List Str := ["grid", "point", "many", "half", "whole"]
theorem sc_raised : FnScope N_raised ["grid", "point", "many"] (defScope s_raised) := ⟨rfl, rfl, rfl, by decide +kernel, rfl, by decide +kernel, by decide +kernel⟩
abbrev s_is_integer : Stmt := topS 13
abbrev N_is_integer : List Str := ["value"]
theorem sc_is_integer : FnScope N_is_integer ["value"] (defScope s_is_integer) := ⟨rfl, rfl, rfl, by decide +kernel, rfl, by decide +kernel, by decide +kernel⟩
abbrev s_is_point : Stmt := topS 14
abbrev N_is_point : List Str := ["value"]
theorem sc_is_point : FnScope N_is_point ["value"] (defScope s_is_point) := ⟨rfl, rfl, rfl, by decide +kernel, rfl, by decide +kernel, by decide +kernel⟩
abbrev s_write_integer : Stmt := topS 15
abbrev N_write_integer : List Str := ["number", "sign", "blocks", "rest", "block"]
theorem sc_write_integer : FnScope N_write_integer ["number"] (defScope s_write_integer) := ⟨rfl, rfl, rfl, by decide +kernel, rfl, by decide +kernel, by decide +kernel⟩
abbrev s__check_point : Stmt := topS 27
abbrev N__check_point : List Str := ["point"]
theorem sc__check_point : FnScope N__check_point ["point"] (defScope s__check_point) := ⟨rfl, rfl, rfl, by decide +kernel, rfl, by decide +kernel, by decide +kernel⟩
abbrev s__check_number : Stmt := topS 28
abbrev N__check_number : List Str := ["number"]
theorem sc__check_number : FnScope N__check_number ["number"] (defScope s__check_number) := ⟨rfl, rfl, rfl, by decide +kernel, rfl, by decide +kernel, by decide +kernel⟩
abbrev s_Grid_WinitW : Stmt := inClass (topS 29) 0
abbrev N_Grid_WinitW : List Str := ["self", "name"]
theorem sc_Grid_WinitW : FnScope N_Grid_WinitW ["self", "name"] (defScope s_Grid_WinitW) := ⟨rfl, rfl, rfl, by decide +kernel, rfl, by decide +kernel, by decide +kernel⟩
abbrev s_Grid_WeqW : Stmt := inClass (topS 29) 11
abbrev N_Grid_WeqW : List Str := ["self", "other"]
theorem sc_Grid_WeqW : FnScope N_Grid_WeqW ["self", "other"] (defScope s_Grid_WeqW) := ⟨rfl, rfl, rfl, by decide +kernel, rfl, by decide +kernel, by decide +kernel⟩
abbrev s_Vector_WinitW : Stmt := inClass (topS 30) 0
abbrev N_Vector_WinitW : List Str := ["self", "grid", "point"]
theorem sc_Vector_WinitW : FnScope N_Vector_WinitW ["self", "grid", "point"] (defScope s_Vector_WinitW) := ⟨rfl, rfl, rfl, by decide +kernel, rfl, by decide +kernel, by decide +kernel⟩
abbrev s_Vector_turned : Stmt := inClass (topS 30) 1
abbrev N_Vector_turned : List Str := ["self", "turn"]
theorem sc_Vector_turned : FnScope N_Vector_turned ["self", "turn"] (defScope s_Vector_turned) := ⟨rfl, rfl, rfl, by decide +kernel, rfl, by decide +kernel, by decide +kernel⟩
abbrev s_Vector_mirrored : Stmt := inClass (topS 30) 2
abbrev N_Vector_mirrored : List Str := ["self"]
theorem sc_Vector_mirrored : FnScope N_Vector_mirrored ["self"] (defScope s_Vector_mirrored) := ⟨rfl, rfl, rfl, by decide +kernel, rfl, by decide +kernel, by decide +kernel⟩
abbrev s_Vector_power : Stmt := inClass (topS 30) 3
abbrev N_Vector_power : List Str := ["self", "many"]
theorem sc_Vector_power : FnScope N_Vector_power ["self", "many"] (defScope s_Vector_power) := ⟨rfl, rfl, rfl, by decide +kernel, rfl, by decide +kernel, by decide +kernel⟩
abbrev s_Vector_WgetitemW : Stmt := inClass (topS 30) 4
abbrev N_Vector_WgetitemW : List Str := ["self", "index"]
theorem sc_Vector_WgetitemW : FnScope N_Vector_WgetitemW ["self", "index"] (defScope s_Vector_WgetitemW) := ⟨rfl, rfl, rfl, by decide +kernel, rfl, by decide +kernel, by decide +kernel⟩
abbrev s_Vector_WaddW : Stmt := inClass (topS 30) 6
abbrev N_Vector_WaddW : List Str := ["self", "other"]
theorem sc_Vector_WaddW : FnScope N_Vector_WaddW ["self", "other"] (defScope s_Vector_WaddW) := ⟨rfl, rfl, rfl, by decide +kernel, rfl, by decide +kernel, by decide +kernel⟩
abbrev s_Vector_WsubW : Stmt := inClass (topS 30) 7
abbrev N_Vector_WsubW : List Str := ["self", "other"]
theorem sc_Vector_WsubW : FnScope N_Vector_WsubW ["self", "other"] (defScope s_Vector_WsubW) := ⟨rfl, rfl, rfl, by decide +kernel, rfl, by decide +kernel, by decide +kernel⟩
abbrev s_Vector_WmulW : Stmt := inClass (topS 30) 8
abbrev N_Vector_WmulW : List Str := ["self", "other"]
theorem sc_Vector_WmulW : FnScope N_Vector_WmulW ["self", "other"] (defScope s_Vector_WmulW) := ⟨rfl, rfl, rfl, by decide +kernel, rfl, by decide +kernel, by decide +kernel⟩
abbrev s_Vector_WfloordivW : Stmt := inClass (topS 30) 9
abbrev N_Vector_WfloordivW : List Str := ["self", "other", "point"]
theorem sc_Vector_WfloordivW : FnScope N_Vector_WfloordivW ["self", "other"] (defScope s_Vector_WfloordivW) := ⟨rfl, rfl, rfl, by decide +kernel, rfl, by decide +kernel, by decide +kernel⟩
abbrev s_Vector_WnegW : Stmt := inClass (topS 30) 10
abbrev N_Vector_WnegW : List Str := ["self"]
theorem sc_Vector_WnegW : FnScope N_Vector_WnegW ["self"] (defScope s_Vector_WnegW) := ⟨rfl, rfl, rfl, by decide +kernel, rfl, by decide +kernel, by decide +kernel⟩
abbrev s_Vector_WboolW : Stmt := inClass (topS 30) 11
abbrev N_Vector_WboolW : List Str := ["self"]
theorem sc_Vector_WboolW : FnScope N_Vector_WboolW ["self"] (defScope s_Vector_WboolW) := ⟨rfl, rfl, rfl, by decide +kernel, rfl, by decide +kernel, by decide +kernel⟩
abbrev s_Vector_WeqW : Stmt := inClass (topS 30) 12
abbrev N_Vector_WeqW : List Str := ["self", "other"]
theorem sc_Vector_WeqW : FnScope N_Vector_WeqW ["self", "other"] (defScope s_Vector_WeqW) := ⟨rfl, rfl, rfl, by decide +kernel, rfl, by decide +kernel, by decide +kernel⟩
abbrev s_Vector_WstrW : Stmt := inClass (topS 30) 13
abbrev N_Vector_WstrW : List Str := ["self"]
theorem sc_Vector_WstrW : FnScope N_Vector_WstrW ["self"] (defScope s_Vector_WstrW) := ⟨rfl, rfl, rfl, by decide +kernel, rfl, by decide +kernel, by decide +kernel⟩
abbrev s_MadeVector_WinitW : Stmt := inClass (topS 31) 0
abbrev N_MadeVector_WinitW : List Str := ["self", "grid", "point"]
theorem sc_MadeVector_WinitW : FnScope N_MadeVector_WinitW ["self", "grid", "point"] (defScope s_MadeVector_WinitW) := ⟨rfl, rfl, rfl, by decide +kernel, rfl, by decide +kernel, by decide +kernel⟩
abbrev s__check_partner : Stmt := topS 32
abbrev N__check_partner : List Str := ["vector", "other"]
theorem sc__check_partner : FnScope N__check_partner ["vector", "other"] (defScope s__check_partner) := ⟨rfl, rfl, rfl, by decide +kernel, rfl, by decide +kernel, by decide +kernel⟩
abbrev s__law_dice : Stmt := topS 34
abbrev N__law_dice : List Str := ["_law_script", "_law_spot", "_law_cell", "_law_left"]
theorem sc__law_dice : FnScope N__law_dice ["_law_script", "_law_spot"] (defScope s__law_dice) := ⟨rfl, rfl, rfl, by decide +kernel, rfl, by decide +kernel, by decide +kernel⟩
abbrev s__law_roll : Stmt := topS 35
abbrev N__law_roll : List Str := ["_law_dice_here", "_law_total", "_law_found", "_law_one", "_law_two"]
theorem sc__law_roll : FnScope N__law_roll ["_law_dice_here", "_law_total"] (defScope s__law_roll) := ⟨rfl, rfl, rfl, by decide +kernel, rfl, by decide +kernel, by decide +kernel⟩
abbrev s__law_pick : Stmt := topS 36
abbrev N__law_pick : List Str := ["_law_dice_here", "_law_items"]
theorem sc__law_pick : FnScope N__law_pick ["_law_dice_here", "_law_items"] (defScope s__law_pick) := ⟨rfl, rfl, rfl, by decide +kernel, rfl, by decide +kernel, by decide +kernel⟩
abbrev s__law_around : Stmt := topS 37
abbrev N__law_around : List Str := ["_law_plain"]
theorem sc__law_around : FnScope N__law_around ["_law_plain"] (defScope s__law_around) := ⟨rfl, rfl, rfl, by decide +kernel, rfl, by decide +kernel, by decide +kernel⟩
abbrev s__law_unit : Stmt := topS 38
abbrev N__law_unit : List Str := ["_law_plain", "_law_direction"]
theorem sc__law_unit : FnScope N__law_unit ["_law_plain", "_law_direction"] (defScope s__law_unit) := ⟨rfl, rfl, rfl, by decide +kernel, rfl, by decide +kernel, by decide +kernel⟩
abbrev s__law_plus : Stmt := topS 39
abbrev N__law_plus : List Str := ["_law_one", "_law_other"]
theorem sc__law_plus : FnScope N__law_plus ["_law_one", "_law_other"] (defScope s__law_plus) := ⟨rfl, rfl, rfl, by decide +kernel, rfl, by decide +kernel, by decide +kernel⟩
abbrev s__law_minus : Stmt := topS 40
abbrev N__law_minus : List Str := ["_law_one", "_law_other"]
theorem sc__law_minus : FnScope N__law_minus ["_law_one", "_law_other"] (defScope s__law_minus) := ⟨rfl, rfl, rfl, by decide +kernel, rfl, by decide +kernel, by decide +kernel⟩
abbrev s__law_times : Stmt := topS 41
abbrev N__law_times : List Str := ["_law_plain", "_law_one", "_law_other", "_law_both", "_law_more"]
theorem sc__law_times : FnScope N__law_times ["_law_plain", "_law_one", "_law_other"] (defScope s__law_times) := ⟨rfl, rfl, rfl, by decide +kernel, rfl, by decide +kernel, by decide +kernel⟩
abbrev s__law_norm : Stmt := topS 42
abbrev N__law_norm : List Str := ["_law_plain", "_law_point", "_law_more"]
theorem sc__law_norm : FnScope N__law_norm ["_law_plain", "_law_point"] (defScope s__law_norm) := ⟨rfl, rfl, rfl, by decide +kernel, rfl, by decide +kernel, by decide +kernel⟩
abbrev s__law_limit : Stmt := topS 43
abbrev N__law_limit : List Str := []
theorem sc__law_limit : FnScope N__law_limit [] (defScope s__law_limit) := ⟨rfl, rfl, rfl, by decide +kernel, rfl, by decide +kernel, by decide +kernel⟩
abbrev s__law_part : Stmt := topS 44
abbrev N__law_part : List Str := ["_law_dice_here", "_law_great", "_law_some", "_law_part_here"]
theorem sc__law_part : FnScope N__law_part ["_law_dice_here"] (defScope s__law_part) := ⟨rfl, rfl, rfl, by decide +kernel, rfl, by decide +kernel, by decide +kernel⟩
abbrev s__law_place : Stmt := topS 45
abbrev N__law_place : List Str := ["_law_dice_here"]
theorem sc__law_place : FnScope N__law_place ["_law_dice_here"] (defScope s__law_place) := ⟨rfl, rfl, rfl, by decide +kernel, rfl, by decide +kernel, by decide +kernel⟩
abbrev s__law_mild : Stmt := topS 46
abbrev N__law_mild : List Str := ["_law_dice_here", "_law_place_here", "_law_bound", "_law_part_here"]
theorem sc__law_mild : FnScope N__law_mild ["_law_dice_here"] (defScope s__law_mild) := ⟨rfl, rfl, rfl, by decide +kernel, rfl, by decide +kernel, by decide +kernel⟩
abbrev s__law_grid_plain : Stmt := topS 47
abbrev N__law_grid_plain : List Str := ["_law_dice_here"]
theorem sc__law_grid_plain : FnScope N__law_grid_plain ["_law_dice_here"] (defScope s__law_grid_plain) := ⟨rfl, rfl, rfl, by decide +kernel, rfl, by decide +kernel, by decide +kernel⟩
abbrev s__law_flip : Stmt := topS 48
abbrev N__law_flip : List Str := ["_law_plain", "_law_place_here"]
theorem sc__law_flip : FnScope N__law_flip ["_law_plain", "_law_place_here"] (defScope s__law_flip) := ⟨rfl, rfl, rfl, by decide +kernel, rfl, by decide +kernel, by decide +kernel⟩
abbrev s__law_spun : Stmt := topS 49
abbrev N__law_spun : List Str := ["_law_plain", "_law_place_here", "_law_turn"]
theorem sc__law_spun : FnScope N__law_spun ["_law_plain", "_law_place_here", "_law_turn"] (defScope s__law_spun) := ⟨rfl, rfl, rfl, by decide +kernel, rfl, by decide +kernel, by decide +kernel⟩
abbrev s__law_power_of : Stmt := topS 50
abbrev N__law_power_of : List Str := ["_law_plain", "_law_place_here", "_law_many", "_law_found", "_law_turn"]
theorem sc__law_power_of : FnScope N__law_power_of ["_law_plain", "_law_place_here", "_law_many"] (defScope s__law_power_of) := ⟨rfl, rfl, rfl, by decide +kernel, rfl, by decide +kernel, by decide +kernel⟩
abbrev s__law_is_told : Stmt := topS 51
abbrev N__law_is_told : List Str := ["_law_plain", "_law_vector", "_law_place_here", "_law_text", "_law_told", "_law_due"]
theorem sc__law_is_told : FnScope N__law_is_told ["_law_plain", "_law_vector", "_law_place_here"] (defScope s__law_is_told) := ⟨rfl, rfl, rfl, by decide +kernel, rfl, by decide +kernel, by decide +kernel⟩
abbrev s__law_sums_right : Stmt := topS 52
abbrev N__law_sums_right : List Str := ["_law_dice_here", "_law_plain", "_law_grid", "_law_one", "_law_other", "_law_first", "_law_second", "_law_turn"]
theorem sc__law_sums_right : FnScope N__law_sums_right ["_law_dice_here", "_law_plain", "_law_grid"] (defScope s__law_sums_right) := ⟨rfl, rfl, rfl, by decide +kernel, rfl, by decide +kernel, by decide +kernel⟩
abbrev s__law_powers_right : Stmt := topS 53
abbrev N__law_powers_right : List Str := ["_law_dice_here", "_law_plain", "_law_grid", "_law_one", "_law_other", "_law_first", "_law_second", "_law_many", "_law_third"]
theorem sc__law_powers_right : FnScope N__law_powers_right ["_law_dice_here", "_law_plain", "_law_grid"] (defScope s__law_powers_right) := ⟨rfl, rfl, rfl, by decide +kernel, rfl, by decide +kernel, by decide +kernel⟩
abbrev s_law : Stmt := topS 54
abbrev N_law : List Str := ["_law_script", "_law_spot", "_law_dice_here", "_law_plain", "_law_grid", "_law_turn", "_law_one", "_law_place_here", "_law_odd", "_law_square", "_law_triangle", "_law_told", "_law_great", "_law_half"]
theorem sc_law : FnScope N_law ["_law_script"] (defScope s_law) := ⟨rfl, rfl, rfl, by decide +kernel, rfl, by decide +kernel, by decide +kernel⟩
structure Txt (K : PySem.W.Frag) (mg : Str → Option Value) (aG dU C CV CM : Addr) : Prop where
  zisinstance : mg "isinstance" = none
  zbool : mg "bool" = none
  zint : mg "int" = none
  ztuple : mg "tuple" = none
  zlen : mg "len" = none
  zmax : mg "max" = none
  zmin : mg "min" = none
  zabs : mg "abs" = none
  zrange : mg "range" = none
  zrepr : mg "repr" = none
  zstr : mg "str" = none
  zdivmod : mg "divmod" = none
  g_BOUND : MgV mg "_BOUND" (.int B)
  gMAX_FIGURES : MgV mg "MAX_FIGURES" (.int 400)
  gMAX_POWER : MgV mg "MAX_POWER" (.int 1000)
  gGRIDS : MgV mg "GRIDS" (.ref aG)
  g_UNITS : MgV mg "_UNITS" (.ref dU)
  gGrid : MgV mg "Grid" (.ref C)
  gVector : MgV mg "Vector" (.ref CV)
section
variable {P : Program} {w : World} {K : PySem.W.Frag} {mg : Str → Option Value} {base : Heap}
variable {aG dU C CV CM : Addr} {U : Bool → Addr} {us : Bool → List Addr}
theorem h_init (T : Txt K mg aG dU C CV CM) (hU : Uni K w aG dU U us) (c : GCls K C) (D : Dc K C "Grid.__init__" s_Grid_WinitW) (m : mg "Grid" = some (.ref C)) : HasC P w K mg base "Grid" C 1 ["self", "name"] (spInit C U) := by
  refine D.has m sc_Grid_WinitW (fun vs H Q E h => ?_) (fun kV doc pm an cdv ct us hl => match us, hl with | [_, _], _ => rfl) (fun f cdv A outer s H vs Q E hr h => ?_)
  · obtain ⟨p, dx, t, rfl, _⟩ := h
    rfl
  · obtain ⟨p, dx, t, rfl, hp, k⟩ := h
    refine ⟨_, (pss_cons
 (ps_if (pt_cmpR op_notIn_seq (pv 1) (pe_globV T.gGRIDS) (by rfl)) (pss_one
 ps_never) pss_nil)
 (pss_cons
 (ps_fld (pv 0) (pv 1) rfl)
 (pss_cons
 (ps_fld (pv 0) (pe_ix ix_kdict (pe_globV T.g_UNITS) (pv 1) (fun _ _ => rfl)) rfl)
 (pss_cons
 (ps_fld (pv 0) (pe_op op_fdiv (pe_callB call_len_seq (by exact rfl) T.zlen PySem.boot_len (pa_cons (pe_ix ix_kdict (pe_globV T.g_UNITS) (pv 1) (fun _ _ => rfl)) pa_nil)) pe_int) rfl)
 (pss_one
 (ps_fld (pv 0) (pe_ifExp (pt_cmpR op_eq (pv 1) pe_str (nomark _)) pe_int pe_int) rfl)))))), ?_⟩
    refine ⟨_, rfl, aG, _, rfl, .inr (hU.grids H), rfl, rfl, _, rfl, ?_⟩
    rw [show (!inV (V.str (nm t)) [.str "square", .str "triangle"]) = false by cases t <;> rfl]
    refine iteF ⟨_, rfl, _, rfl, _, _, _, _, rfl, hp, c.cls, c.name, by show 0 < 1000; decide, ?_⟩
    refine ⟨_, rfl, dU, _, _, rfl, rfl, hU.key t, _, rfl, _, _, _, _, rfl, upd_same, c.cls, c.units, by show 1 < 1000; decide, ?_⟩
    refine ⟨_, rfl, dU, _, _, rfl, rfl, hU.key t, U t, _, rfl, .inr (hU.tup t _), _, _, rfl, rfl, ⟨by decide, by decide⟩, _, rfl, _, _, _, _, rfl, upd_same, c.cls, c.half, Nat.lt_of_le_of_lt (small_put (n := 1) (small_put (n := 0) (Nat.le_refl 0))) (by decide), ?_⟩
    rw [List.length_map, hU.len t]
    refine ⟨_, rfl, rfl, _, rfl, ?_⟩
    rw [show decide (V.str (nm t) = V.str "triangle") = t from by cases t <;> decide +kernel]
    have fin : ∀ v, v = V.int (sl t) → (∃ y, (L2.start N_Grid_WinitW [V.ref p, V.str (nm t)])[0]? = some (some y) ∧ ∃ a C' dx' fs, y = V.ref a ∧ (upd (upd (upd H p (.ins C dx (putF "name" (V.str (nm t)) []))) p (.ins C dx (putF "units" (V.ref (U t)) (putF "name" (V.str (nm t)) [])))) p (.ins C dx (putF "half" (V.int ((num t : Int) / 2)) (putF "units" (V.ref (U t)) (putF "name" (V.str (nm t)) []))))) a = some (.ins C' dx' fs) ∧ Cls K C' ∧ NoAttr K C' "slant" ∧ fs.length < 1000 ∧ Q .non (upd (upd (upd (upd H p (.ins C dx (putF "name" (V.str (nm t)) []))) p (.ins C dx (putF "units" (V.ref (U t)) (putF "name" (V.str (nm t)) [])))) p (.ins C dx (putF "half" (V.int ((num t : Int) / 2)) (putF "units" (V.ref (U t)) (putF "name" (V.str (nm t)) []))))) a (.ins C' dx' (putF "slant" v fs)))) := by
      rintro _ rfl
      refine ⟨_, rfl, _, _, _, _, rfl, upd_same, c.cls, c.slant, Nat.lt_of_le_of_lt (small_put (n := 2) (small_put (n := 1) (small_put (n := 0) (Nat.le_refl 0)))) (by decide), k _ (fun b hb => by rw [upd_ne hb, upd_ne hb, upd_ne hb, upd_ne hb]) ?_⟩
      rw [upd_same]
      rw [show putF "name" (V.str (nm t)) [] = [(("name" : Str), V.str (nm t))] from rfl, put2 (by decide), put3 (by decide) (by decide), put4 (by decide) (by decide) (by decide)]
      rfl
    cases t with
    | false => exact iteF (fin _ rfl)
    | true => exact iteT (fin _ rfl)

theorem slm {t : Bool} {x : Int} (h : x.natAbs < 2 ^ 3000) : (sl t * x).natAbs < 2 ^ 3001 := by
  cases t
  · show (0 * x).natAbs < _; rw [Int.zero_mul]; decide
  · show (1 * x).natAbs < _; rw [Int.one_mul]; exact Nat.lt_of_lt_of_le h (by decide)

theorem h_times (c : GCls K C) (D : Df K mg "times" s_times) : Has P w K mg base CX0 "times" 1 ["grid", "one", "other"] (spTimes K C U) := by
  refine D.has sc_times (fun vs H Q E h => ?_) (fun kV doc pm an cdv ct us hl => match us, hl with | [_, _, _], _ => rfl) (fun f cdv A outer s H vs Q E gd hr h => ?_)
  · obtain ⟨g, t, a, b, u, v, rfl, _⟩ := h
    rfl
  · obtain ⟨g, t, a, b, u, v, rfl, ⟨dx, eg⟩, pu, pv', su, sv, k⟩ := h
    refine ⟨_, (pss_cons
 (ps_set (i := 3) sc_times.nd rfl (Or.inl rfl) (pe_op op_mulW (pe_ix ix_tup (pv 1) pe_int (fun _ _ => rfl)) (pe_ix ix_tup (pv 2) pe_int (fun _ _ => rfl))))
 (pss_one
 (ps_ret (pe_tup (pa_cons (pe_op op_sub (pe_op op_mulW (pe_ix ix_tup (pv 1) pe_int (fun _ _ => rfl)) (pe_ix ix_tup (pv 2) pe_int (fun _ _ => rfl))) (pv 3)) (pa_cons (pe_op op_add (pe_op op_add (pe_op op_mulW (pe_ix ix_tup (pv 1) pe_int (fun _ _ => rfl)) (pe_ix ix_tup (pv 2) pe_int (fun _ _ => rfl))) (pe_op op_mulW (pe_ix ix_tup (pv 1) pe_int (fun _ _ => rfl)) (pe_ix ix_tup (pv 2) pe_int (fun _ _ => rfl)))) (pe_op op_mulW (pe_fld (pv 0) rfl) (pv 3))) pa_nil)))))), ?_⟩
    refine ⟨_, rfl, _, _, _, _, rfl, rfl, pu, atI_nat (j := 1) rfl, _, rfl, _, _, _, _, rfl, rfl, pv', atI_nat (j := 1) rfl, _, _, rfl, rfl, sm_mul su.2 sv.2, ?_⟩
    refine ⟨_, rfl, _, _, _, _, rfl, rfl, pu, atI_nat (j := 0) rfl, _, rfl, _, _, _, _, rfl, rfl, pv', atI_nat (j := 0) rfl, _, _, rfl, rfl, sm_mul su.1 sv.1, _, rfl, _, _, rfl, rfl, ?_⟩
    refine ⟨_, rfl, _, _, _, _, rfl, rfl, pu, atI_nat (j := 0) rfl, _, rfl, _, _, _, _, rfl, rfl, pv', atI_nat (j := 1) rfl, _, _, rfl, rfl, sm_mul su.1 sv.2, _, rfl, _, _, _, _, rfl, rfl, pu, atI_nat (j := 1) rfl, _, rfl, _, _, _, _, rfl, rfl, pv', atI_nat (j := 0) rfl, _, _, rfl, rfl, sm_mul su.2 sv.1, _, _, rfl, rfl, ?_⟩
    refine ⟨_, rfl, _, _, _, _, _, rfl, eg, c.cls, c.slant, gF_slant, _, rfl, _, _, rfl, rfl, sl_mul (by rw [Int.natAbs_mul]; exact Nat.lt_of_lt_of_le (Nat.mul_lt_mul'' su.2 sv.2) (by decide)), _, _, rfl, rfl, by show 2 ≤ sizeLine; decide, fun p hp => k p hp⟩

theorem h_norm_in (c : GCls K C) (D : Df K mg "norm_in" s_norm_in) : Has P w K mg base CX0 "norm_in" 1 ["grid", "point"] (spNorm K C U) := by
  refine D.has sc_norm_in (fun vs H Q E h => ?_) (fun kV doc pm an cdv ct us hl => match us, hl with | [_, _], _ => rfl) (fun f cdv A outer s H vs Q E gd hr h => ?_)
  · obtain ⟨g, t, a, u, rfl, _⟩ := h
    rfl
  · obtain ⟨g, t, a, u, rfl, ⟨dx, eg⟩, pu, su, k⟩ := h
    refine ⟨_, (pss_one
 (ps_ret (pe_op op_add (pe_op op_add (pe_op op_mulW (pe_ix ix_tup (pv 1) pe_int (fun _ _ => rfl)) (pe_ix ix_tup (pv 1) pe_int (fun _ _ => rfl))) (pe_op op_mulW (pe_op op_mulW (pe_fld (pv 0) rfl) (pe_ix ix_tup (pv 1) pe_int (fun _ _ => rfl))) (pe_ix ix_tup (pv 1) pe_int (fun _ _ => rfl)))) (pe_op op_mulW (pe_ix ix_tup (pv 1) pe_int (fun _ _ => rfl)) (pe_ix ix_tup (pv 1) pe_int (fun _ _ => rfl)))))), ?_⟩
    refine ⟨_, rfl, _, _, _, _, rfl, rfl, pu, atI_nat (j := 0) rfl, _, rfl, _, _, _, _, rfl, rfl, pu, atI_nat (j := 0) rfl, _, _, rfl, rfl, sm_mul su.1 su.1, ?_⟩
    refine ⟨_, rfl, _, _, _, _, _, rfl, eg, c.cls, c.slant, gF_slant, _, rfl, _, _, _, _, rfl, rfl, pu, atI_nat (j := 0) rfl, _, _, rfl, rfl, sl_mul (Nat.lt_of_lt_of_le su.1 (by decide)), ?_⟩
    refine ⟨_, rfl, _, _, _, _, rfl, rfl, pu, atI_nat (j := 1) rfl, _, _, rfl, rfl, wide_mul (a := 3001) (b := 3000) (slm su.1) su.2 (by decide) (by decide) (by decide), _, _, rfl, rfl, ?_⟩
    refine ⟨_, rfl, _, _, _, _, rfl, rfl, pu, atI_nat (j := 1) rfl, _, rfl, _, _, _, _, rfl, rfl, pu, atI_nat (j := 1) rfl, _, _, rfl, rfl, sm_mul su.2 su.2, _, _, rfl, rfl, k⟩

theorem h_flipped (c : GCls K C) (D : Df K mg "flipped" s_flipped) : Has P w K mg base CX0 "flipped" 1 ["grid", "point"] (spFlip K C U) := by
  refine D.has sc_flipped (fun vs H Q E h => ?_) (fun kV doc pm an cdv ct us hl => match us, hl with | [_, _], _ => rfl) (fun f cdv A outer s H vs Q E gd hr h => ?_)
  · obtain ⟨g, t, a, u, rfl, _⟩ := h
    rfl
  · obtain ⟨g, t, a, u, rfl, ⟨dx, eg⟩, pu, su, k⟩ := h
    refine ⟨_, (pss_one
 (ps_ret (pe_tup (pa_cons (pe_op op_add (pe_ix ix_tup (pv 1) pe_int (fun _ _ => rfl)) (pe_op op_mulW (pe_fld (pv 0) rfl) (pe_ix ix_tup (pv 1) pe_int (fun _ _ => rfl)))) (pa_cons (pe_un un_neg (pe_ix ix_tup (pv 1) pe_int (fun _ _ => rfl))) pa_nil))))), ?_⟩
    refine ⟨_, rfl, _, _, _, _, rfl, rfl, pu, atI_nat (j := 0) rfl, _, rfl, _, _, _, _, _, rfl, eg, c.cls, c.slant, gF_slant, _, rfl, _, _, _, _, rfl, rfl, pu, atI_nat (j := 1) rfl, _, _, rfl, rfl, sl_mul (Nat.lt_of_lt_of_le su.2 (by decide)), _, _, rfl, rfl, ?_⟩
    exact ⟨_, rfl, _, _, _, _, rfl, rfl, pu, atI_nat (j := 1) rfl, _, rfl, by show 2 ≤ sizeLine; decide, fun p hp => k p hp⟩

theorem h_is_integer (T : Txt K mg aG dU C CV CM) (D : Df K mg "is_integer" s_is_integer) : Has P w K mg base CX0 "is_integer" 1 ["value"] (spIsInt K) := by
  refine D.has sc_is_integer (fun vs H Q E h => ?_) (fun kV doc pm an cdv ct us hl => match us, hl with | [_], _ => rfl) (fun f cdv A outer s H vs Q E gd hr h => ?_)
  · obtain ⟨x, k, rfl, _⟩ := h
    rfl
  · obtain ⟨x, k, rfl, hk, q⟩ := h
    refine ⟨_, (pss_cons
 (ps_if (PW.pt (pw_or (pt_val (pe_callB call_isi (by exact rfl) T.zisinstance (by decide +kernel) (pa_cons (pv 0) (pa_cons (pe_bltn (v := .ty "bool") (by exact rfl) T.zbool (by decide +kernel) rfl) pa_nil)))) (pw_or1 (pt_not (pt_val (pe_callB call_isi (by exact rfl) T.zisinstance (by decide +kernel) (pa_cons (pv 0) (pa_cons (pe_bltn (v := .ty "int") (by exact rfl) T.zint (by decide +kernel) rfl) pa_nil)))))))) (pss_one
 (ps_ret pe_bl)) pss_nil)
 (pss_one
 (ps_ret (pe_chain op_lt op_lt (pe_un un_neg (pe_globV T.g_BOUND)) (pv 0) (pe_globV T.g_BOUND))))), ?_⟩
    refine ⟨_, rfl, _, _, _, _, _, rfl, .ty _, hk, kit_bool _, _, rfl, ?_⟩
    cases k with
    | bl =>
      obtain ⟨b, rfl⟩ := hk.blI
      exact iteT (iteT q)
    | int =>
      obtain ⟨i, rfl⟩ := hk.intI
      refine iteF ⟨_, rfl, _, _, _, _, _, rfl, .ty _, hk, kit_int _, _, rfl, iteF ⟨_, rfl, _, rfl, _, _, rfl, rfl, _, rfl, ?_⟩⟩
      by_cases h1 : -B < i
      · have e : isIntV (.int i) = decide (i < B) := by show (decide (-B < i) && decide (i < B)) = _; rw [decide_eq_true h1, Bool.true_and]
        rw [e] at q
        rw [decide_eq_true h1]
        exact iteT ⟨_, _, rfl, rfl, q⟩
      · have e : isIntV (.int i) = false := by show (decide (-B < i) && decide (i < B)) = _; rw [decide_eq_false h1, Bool.false_and]
        rw [e] at q
        rw [decide_eq_false h1]
        exact iteF q
    | _ =>
      have e : isIntV x = false := by
        cases x with
        | int i => exact absurd hk.notInt (by intro z; cases z)
        | _ => rfl
      rw [e] at q
      exact iteF ⟨_, rfl, _, _, _, _, _, rfl, .ty _, hk, kit_int _, _, rfl, iteT q⟩

theorem h_is_point (T : Txt K mg aG dU C CV CM) (D : Df K mg "is_point" s_is_point) (his_integer : Has P w K mg base CX0 "is_integer" 1 ["value"] (spIsInt K)) : Has P w K mg base CX0 "is_point" 2 ["value"] (spIsPoint K) := by
  refine D.has sc_is_point (fun vs H Q E h => ?_) (fun kV doc pm an cdv ct us hl => match us, hl with | [_], _ => rfl) (fun f cdv A outer s H vs Q E gd hr h => ?_)
  · obtain ⟨x, r, rfl, _⟩ := h
    rfl
  · obtain ⟨x, r, rfl, ⟨k, hk, c0, c1⟩, q⟩ := h
    refine ⟨_, (pss_cons
 (ps_if (PW.pt (pw_or (pt_not (pt_val (pe_callB call_isi (by exact rfl) T.zisinstance (by decide +kernel) (pa_cons (pv 0) (pa_cons (pe_bltn (v := .ty "tuple") (by exact rfl) T.ztuple (by decide +kernel) rfl) pa_nil))))) (pw_or1 (pt_cmpR op_ne (pe_callB call_len_seq (by exact rfl) T.zlen PySem.boot_len (pa_cons (pv 0) pa_nil)) pe_int (nomark _))))) (pss_one
 (ps_ret pe_bl)) pss_nil)
 (pss_one
 (ps_ret (pe_and (pe_callH his_integer gd (hr.mono (by decide)) pass0 (pa_cons (pe_ix ix_tup (pv 0) pe_int (fun _ _ => rfl)) pa_nil)) (pe_one (pe_callH his_integer gd (hr.mono (by decide)) pass0 (pa_cons (pe_ix ix_tup (pv 0) pe_int (fun _ _ => rfl)) pa_nil))))))), ?_⟩
    refine ⟨_, rfl, _, _, _, _, _, rfl, .ty _, hk, kit_tup _, _, rfl, ?_⟩
    cases e : k.isT with
    | false =>
      rw [c0 e] at q
      exact iteT (iteT q)
    | true =>
      obtain ⟨a, xs, rfl, hx, lx, n2, y2⟩ := c1 e
      refine iteF ⟨_, rfl, a, xs, rfl, .inr hx, rfl, _, rfl, ?_⟩
      by_cases h2 : xs.length = 2
      · obtain ⟨u, v, ku, kv, rfl, hu, hv, er⟩ := y2 h2
        refine iteF ⟨_, rfl, a, _, _, u, rfl, rfl, hx, atI_nat (j := 0) rfl, _, _, rfl, hu, _, rfl, ?_⟩
        rw [er] at q
        cases hu1 : isIntV u with
        | true =>
          rw [hu1, Bool.true_and] at q
          exact iteT ⟨_, rfl, a, _, _, v, rfl, rfl, hx, atI_nat (j := 1) rfl, _, _, rfl, hv, q⟩
        | false =>
          rw [hu1, Bool.false_and] at q
          exact iteF q
      · rw [n2 h2] at q
        have : (!decide (V.int xs.length = V.int 2)) = true := by rw [decide_eq_false (fun z => h2 (by injection z with z; omega))]; rfl
        show if (!decide (V.int xs.length = V.int 2)) = true then _ else _
        rw [this]
        exact iteT q

theorem pt_of {H : Hp} {a : Addr} {u : Int × Int} (h : PAt K H a u) (o : ptOk u) : PtV K H (.ref a) true :=
  ⟨.tup, SqT.tup' h, (fun z => nomatch z), fun _ => ⟨a, _, rfl, h, by show 2 ≤ 1000; decide, fun z => absurd rfl z, fun _ => ⟨_, _, _, _, rfl, .int, .int, by rw [o.1, o.2]; rfl⟩⟩⟩

theorem h_check_point (D : Df K mg "_check_point" s__check_point) (his_point : Has P w K mg base CX0 "is_point" 2 ["value"] (spIsPoint K)) : Has P w K mg base CX0 "_check_point" 3 ["point"] (spCheckP K) := by
  refine D.has sc__check_point (fun vs H Q E h => ?_) (fun kV doc pm an cdv ct us hl => match us, hl with | [_], _ => rfl) (fun f cdv A outer s H vs Q E gd hr h => ?_)
  · obtain ⟨a, u, rfl, _⟩ := h
    rfl
  · obtain ⟨a, u, rfl, pu, o, k⟩ := h
    refine ⟨_, (pss_one
 (ps_if (pt_not (pt_val (pe_callH his_point gd (hr.mono (by decide)) pass0 (pa_cons (pv 0) pa_nil)))) (pss_one
 ps_never) pss_nil)), ?_⟩
    exact ⟨_, rfl, _, _, rfl, pt_of pu o, _, rfl, iteF k⟩

theorem h_check_number (D : Df K mg "_check_number" s__check_number) (his_integer : Has P w K mg base CX0 "is_integer" 1 ["value"] (spIsInt K)) : Has P w K mg base CX0 "_check_number" 2 ["number"] spCheckN := by
  refine D.has sc__check_number (fun vs H Q E h => ?_) (fun kV doc pm an cdv ct us hl => match us, hl with | [_], _ => rfl) (fun f cdv A outer s H vs Q E gd hr h => ?_)
  · obtain ⟨n, rfl, _⟩ := h
    rfl
  · obtain ⟨n, rfl, o, k⟩ := h
    refine ⟨_, (pss_one
 (ps_if (pt_not (pt_val (pe_callH his_integer gd (hr.mono (by decide)) pass0 (pa_cons (pv 0) pa_nil)))) (pss_one
 ps_never) pss_nil)), ?_⟩
    refine ⟨_, rfl, _, _, rfl, .int, _, rfl, ?_⟩
    rw [o]
    exact iteF k

theorem unit_at (hU : Uni K w aG dU U us) {t : Bool} (n : Int) : ∃ i : Addr, (∀ H, PAt K H i (uni t n)) ∧ atI ((us t).map V.ref) (n % (num t : Int)) = some (.ref i) := by
  have h1 := Int.emod_nonneg n (Int.ne_of_gt (num_pos (t := t)))
  have h2 := Int.emod_lt_of_pos n (num_pos (t := t))
  obtain ⟨j, hj⟩ : ∃ j : Nat, n % (num t : Int) = (j : Int) := ⟨(n % (num t : Int)).toNat, by omega⟩
  have e := uni_at (t := t) n
  rw [hj] at e ⊢
  have l : j < (us t).length := by rw [hU.len]; omega
  refine ⟨(us t)[j], hU.pt t j _ _ (List.getElem?_eq_getElem l) e, atI_nat ?_⟩
  rw [List.getElem?_map, List.getElem?_eq_getElem l]
  rfl

theorem h_turned_by (c : GCls K C) (hU : Uni K w aG dU U us) (T : Txt K mg aG dU C CV CM) (D : Df K mg "turned_by" s_turned_by) (htimes : Has P w K mg base CX0 "times" 1 ["grid", "one", "other"] (spTimes K C U)) : Has P w K mg base CX0 "turned_by" 2 ["grid", "point", "turn"] (spTurned K C U) := by
  refine D.has sc_turned_by (fun vs H Q E h => ?_) (fun kV doc pm an cdv ct us hl => match us, hl with | [_, _, _], _ => rfl) (fun f cdv A outer s H vs Q E gd hr h => ?_)
  · obtain ⟨g, t, a, u, n, rfl, _⟩ := h
    rfl
  · obtain ⟨g, t, a, u, n, rfl, ⟨dx, eg⟩, pu, su, k⟩ := h
    refine ⟨_, (pss_one
 (ps_ret (pe_callH htimes gd (hr.mono (by decide)) pass0 (pa_cons (pv 0) (pa_cons (pv 1) (pa_cons (pe_ix ix_tup (pe_fld (pv 0) rfl) (pe_op op_mod (pv 2) (pe_callB call_len_seq (by exact rfl) T.zlen PySem.boot_len (pa_cons (pe_fld (pv 0) rfl) pa_nil))) (fun _ _ => rfl)) pa_nil)))))), ?_⟩
    refine ⟨_, rfl, _, rfl, _, rfl, _, _, _, _, _, rfl, eg, c.cls, c.units, gF_units, _, rfl, _, rfl, _, _, _, _, _, rfl, eg, c.cls, c.units, gF_units, U t, _, rfl, .inr (hU.tup t _), _, _, rfl, rfl, ?_, ?_⟩
    · rw [List.length_map, hU.len t]; exact num_pos
    rw [List.length_map, hU.len t]
    obtain ⟨i, hi, e1⟩ := unit_at (t := t) hU n
    refine ⟨_, _, _, _, rfl, rfl, hU.tup t _, e1, ?_⟩
    exact ⟨g, t, a, _, u, uni t n, rfl, ⟨dx, eg⟩, pu, hi H, su, uni_sm, k⟩

theorem h_plus (D : Df K mg "plus" s_plus) : Has P w K mg base CX0 "plus" 1 ["one", "other"] (spPlus K) := by
  refine D.has sc_plus (fun vs H Q E h => ?_) (fun kV doc pm an cdv ct us hl => match us, hl with | [_, _], _ => rfl) (fun f cdv A outer s H vs Q E gd hr h => ?_)
  · obtain ⟨a, b, u, v, rfl, _⟩ := h
    rfl
  · obtain ⟨a, b, u, v, rfl, pu, pv', k⟩ := h
    refine ⟨_, (pss_one
 (ps_ret (pe_tup (pa_cons (pe_op op_add (pe_ix ix_tup (pv 0) pe_int (fun _ _ => rfl)) (pe_ix ix_tup (pv 1) pe_int (fun _ _ => rfl))) (pa_cons (pe_op op_add (pe_ix ix_tup (pv 0) pe_int (fun _ _ => rfl)) (pe_ix ix_tup (pv 1) pe_int (fun _ _ => rfl))) pa_nil))))), ?_⟩
    exact ⟨_, rfl, _, _, _, _, rfl, rfl, pu, atI_nat (j := 0) rfl, _, rfl, _, _, _, _, rfl, rfl, pv', atI_nat (j := 0) rfl, _, _, rfl, rfl, _, rfl, _, _, _, _, rfl, rfl, pu, atI_nat (j := 1) rfl, _, rfl, _, _, _, _, rfl, rfl, pv', atI_nat (j := 1) rfl, _, _, rfl, rfl, by show 2 ≤ sizeLine; decide, fun p hp => k p hp⟩
theorem h_minus (D : Df K mg "minus" s_minus) : Has P w K mg base CX0 "minus" 1 ["one", "other"] (spMinus K) := by
  refine D.has sc_minus (fun vs H Q E h => ?_) (fun kV doc pm an cdv ct us hl => match us, hl with | [_, _], _ => rfl) (fun f cdv A outer s H vs Q E gd hr h => ?_)
  · obtain ⟨a, b, u, v, rfl, _⟩ := h
    rfl
  · obtain ⟨a, b, u, v, rfl, pu, pv', k⟩ := h
    refine ⟨_, (pss_one
 (ps_ret (pe_tup (pa_cons (pe_op op_sub (pe_ix ix_tup (pv 0) pe_int (fun _ _ => rfl)) (pe_ix ix_tup (pv 1) pe_int (fun _ _ => rfl))) (pa_cons (pe_op op_sub (pe_ix ix_tup (pv 0) pe_int (fun _ _ => rfl)) (pe_ix ix_tup (pv 1) pe_int (fun _ _ => rfl))) pa_nil))))), ?_⟩
    exact ⟨_, rfl, _, _, _, _, rfl, rfl, pu, atI_nat (j := 0) rfl, _, rfl, _, _, _, _, rfl, rfl, pv', atI_nat (j := 0) rfl, _, _, rfl, rfl, _, rfl, _, _, _, _, rfl, rfl, pu, atI_nat (j := 1) rfl, _, rfl, _, _, _, _, rfl, rfl, pv', atI_nat (j := 1) rfl, _, _, rfl, rfl, by show 2 ≤ sizeLine; decide, fun p hp => k p hp⟩
theorem raised_none (D : Df K mg "raised" s_raised) : Has P w K mg base CX0 "raised" 1 ["grid", "point", "many"] (fun _ _ _ _ => False) :=
  D.has sc_raised (fun _ _ _ _ h => h.elim) (fun kV doc pm an cdv ct us hl => match us, hl with | [_, _, _], _ => rfl) (fun f cdv A outer s H vs Q E gd hr h => h.elim)
theorem raised_step {j k : Nat} {sp : Sp} (hk : 1 ≤ k) (D : Df K mg "raised" s_raised) (htimes : Has P w K mg base CX0 "times" 1 ["grid", "one", "other"] (spTimes K C U)) (hraised : Has P w K mg base CX0 "raised" k ["grid", "point", "many"] sp)
    (hs : ∀ g t a u (n : Nat) H Q', GridAt C U H g t → PAt K H a u → Sm u → 0 < n → n < 2 ^ j → (∀ i, i ≤ n → Sm (pw t u i)) → (∀ p H', H p = none → Same H H' → PAt K H' p (pw t u (n / 2)) → Q' (.ref p) H') → sp [.ref g, .ref a, .int ((n : Int) / 2)] H Q' E0) :
    Has P w K mg base CX0 "raised" (k + 1) ["grid", "point", "many"] (spRaised K C U j) := by
  refine D.has sc_raised (fun vs H Q E h => ?_) (fun kV doc pm an cdv ct us hl => match us, hl with | [_, _, _], _ => rfl) (fun f cdv A outer s H vs Q E gd hr h => ?_)
  · obtain ⟨g, t, a, u, n, rfl, _⟩ := h
    rfl
  · have hr1 := hr.mono hk
    refine ⟨_, (pss_cons
 (ps_if (pt_cmpR op_eq (pv 2) pe_int (nomark _)) (pss_one
 (ps_ret (pe_tup (pa_cons pe_int (pa_cons pe_int pa_nil))))) pss_nil)
 (pss_cons
 (ps_set (i := 3) sc_raised.nd rfl (Or.inl rfl) (pe_callH hraised gd (hr.mono (by omega)) pass0 (pa_cons (pv 0) (pa_cons (pv 1) (pa_cons (pe_op op_fdiv (pv 2) pe_int) pa_nil)))))
 (pss_cons
 (ps_set (i := 4) sc_raised.nd rfl (Or.inl rfl) (pe_callH htimes gd (hr.mono (by omega)) pass0 (pa_cons (pv 0) (pa_cons (pv 3) (pa_cons (pv 3) pa_nil)))))
 (pss_one
 (ps_ret (pe_ifExp (pt_cmpR op_eq (pe_op op_mod (pv 2) pe_int) pe_int (nomark _)) (pe_callH htimes gd (hr.mono (by omega)) pass0 (pa_cons (pv 0) (pa_cons (pv 4) (pa_cons (pv 1) pa_nil)))) (pv 4))))))), ?_⟩
    obtain ⟨g, t, a, u, n, rfl, hg, pu, su, hn, sm, fin⟩ := h
    refine ⟨_, rfl, rfl, _, rfl, ?_⟩
    rw [int_eq]
    by_cases n0 : n = 0
    · subst n0
      rw [decide_eq_true (show ((0 : Nat) : Int) = 0 from rfl)]
      exact iteT ⟨by show 2 ≤ sizeLine; decide, fun p hp => fin p _ hp (Same.new hp) (PAt.of upd_same)⟩
    rw [decide_eq_false (by omega)]
    refine iteF ⟨_, rfl, _, rfl, _, rfl, _, _, rfl, rfl, ⟨by decide, by decide⟩, hs g t a u n H _ hg pu su (by omega) hn sm fun h1 H1 n1 s1 p1 => ?_⟩
    have le2 : n / 2 ≤ n := Nat.div_le_self _ _
    refine ⟨_, rfl, _, rfl, _, rfl, g, t, h1, h1, _, _, rfl, hg.same s1, p1, p1, sm _ le2, sm _ le2, fun h2 n2 => ?_⟩
    rw [pw_add]
    have s2 := s1.trans (Same.new (o := .tup [.int (pw t u (n / 2 + n / 2)).1, .int (pw t u (n / 2 + n / 2)).2]) n2)
    have p2 : PAt K (upd H1 h2 (.tup [.int (pw t u (n / 2 + n / 2)).1, .int (pw t u (n / 2 + n / 2)).2])) h2 (pw t u (n / 2 + n / 2)) := PAt.of upd_same
    have hh2 : H h2 = none := by cases e : H h2 with | none => rfl | some o => rw [s1 _ _ e] at n2; cases n2
    change (fun H2 => _) (upd H1 h2 (.tup [.int (pw t u (n / 2 + n / 2)).1, .int (pw t u (n / 2 + n / 2)).2]))
    generalize upd H1 h2 (.tup [.int (pw t u (n / 2 + n / 2)).1, .int (pw t u (n / 2 + n / 2)).2]) = H2 at *
    refine ⟨_, rfl, _, _, rfl, rfl, (by show (0 : Int) < 2; decide), rfl, _, rfl, ?_⟩
    rw [int_eq]
    by_cases odd : (n : Int) % 2 = 1
    · rw [decide_eq_true odd]
      refine iteT ⟨_, rfl, _, rfl, _, rfl, g, t, h2, a, _, _, rfl, hg.same s2, p2, pu.same s2, sm _ (by omega), su, fun h3 n3 => ?_⟩
      have e : mul t (pw t u (n / 2 + n / 2)) u = pw t u n := by
        rw [show mul t (pw t u (n / 2 + n / 2)) u = pw t u (n / 2 + n / 2 + 1) from rfl, show n / 2 + n / 2 + 1 = n by omega]
      rw [e]
      have hh3 : H h3 = none := by cases e : H h3 with | none => rfl | some o => rw [s2 _ _ e] at n3; cases n3
      exact fin h3 _ hh3 (s2.trans (Same.new n3)) (PAt.of upd_same)
    · rw [decide_eq_false odd]
      refine iteF ⟨_, rfl, fin h2 H2 hh2 s2 ?_⟩
      rw [show n / 2 + n / 2 = n by omega] at p2
      exact p2
theorem h_raised (D : Df K mg "raised" s_raised) (htimes : Has P w K mg base CX0 "times" 1 ["grid", "one", "other"] (spTimes K C U)) : ∀ j : Nat, Has P w K mg base CX0 "raised" (j + 2) ["grid", "point", "many"] (spRaised K C U j)
  | 0 => raised_step (k := 1) (by omega) D htimes (raised_none D) (fun g t a u n H Q' _ _ _ n0 n1 _ _ => absurd n0 (by omega))
  | j + 1 => raised_step (k := j + 2) (by omega) D htimes (h_raised D htimes j) (fun g t a u n H Q' hg pu su n0 n1 sm fin => ⟨g, t, a, u, n / 2, rfl, hg, pu, su, by rw [Nat.pow_succ] at n1; omega, fun i hi => sm i (by omega), fin⟩)
/-- a new vector out of a made class -/
theorem mk_vec {D : Addr} {H1 : Hp} {g a : Addr} {t : Bool} {u : Int × Int} {ok : Int × Int → Prop} {Q : VK} {E : XK} (hg : GridAt C U H1 g t) (hp : PAt K H1 a u) (o : ok u) (k : VNew K C U D H1 t u Q) :
    ∀ x dx, H1 x = none → H1 dx = none → dx ≠ x → spVInit K C U D ok (.ref x :: ([.ref g, .ref a] ++ [])) (upd (upd H1 dx (.own x)) x (.ins D dx [])) (fun v H2 => v = .non ∧ Q (.ref x) H2) E := by
  intro x dx hx hdx ne
  have s1 : Same H1 (upd (upd H1 dx (.own x)) x (.ins D dx [])) := (Same.new hdx).trans (Same.new (by rw [upd_ne ne.symm]; exact hx))
  refine ⟨x, dx, g, a, t, u, rfl, upd_same, hg.same s1, hp.same s1, o, fun H' hk e => ⟨rfl, ?_⟩⟩
  have s2 : Same H1 H' := same_made hx hdx hk
  exact k x H' hx s2 ⟨dx, g, a, e, hg.same s2, hp.same s2⟩
theorem h_geq (c : GCls K C) (i : GIs K C) (T : Txt K mg aG dU C CV CM) (D : Dm K C "__eq__" "Grid.__eq__" s_Grid_WeqW) : HasM P w K mg base CX0 C "__eq__" 1 ["self", "other"] (spGEq K C U) := by
  refine D.has sc_Grid_WeqW (fun vs H Q E h => ?_) (fun kV doc pm an cdv ct us hl => match us, hl with | [_, _], _ => rfl) (fun f cdv A outer s H vs Q E gd hr h => ?_)
  · obtain ⟨g, t, y, r, rfl, _⟩ := h
    rfl
  · obtain ⟨g, t, y, r, rfl, ⟨dx, eg⟩, o, k⟩ := h
    refine ⟨_, (pss_one
 (ps_ret (pe_and (pe_callB call_isi (by exact rfl) T.zisinstance (by decide +kernel) (pa_cons (pv 1) (pa_cons (pe_globV T.gGrid) pa_nil))) (pe_one (pe_cmpR op_eq (pe_fld (pv 0) rfl) (pe_fld (pv 1) rfl) (nomark _)))))), ?_⟩
    rcases o with ⟨b, t', rfl, ⟨dy, eb⟩, rfl⟩ | ⟨kd, o, rfl⟩
    · refine ⟨_, rfl, _, _, _, _, _, rfl, .own _, i.ty c.cls eb, kit_self, _, rfl, iteT ?_⟩
      refine ⟨_, rfl, _, _, _, _, _, rfl, eg, c.cls, c.name, gF_name, _, rfl, _, _, _, _, _, rfl, eb, c.cls, c.name, gF_name, rfl, ?_⟩
      rw [show decide (V.str (nm t) = V.str (nm t')) = (t == t') by cases t <;> cases t' <;> decide +kernel]
      exact k
    · exact ⟨_, rfl, _, _, _, _, _, rfl, .own _, o, i.kit kd, _, rfl, iteF k⟩
theorem h_vinit (T : Txt K mg aG dU C CV CM) (c : GCls K C) (i : GIs K C) (vc : VCls K CV) (D : Dc K CV "Vector.__init__" s_Vector_WinitW) (m : mg "Vector" = some (.ref CV)) (h_check_point : Has P w K mg base CX0 "_check_point" 3 ["point"] (spCheckP K)) (hnorm_in : Has P w K mg base CX0 "norm_in" 1 ["grid", "point"] (spNorm K C U)) :
    HasG P w K mg base "Vector" CV 4 ["self", "grid", "point"] (spVInit K C U CV ptOk) := by
  refine D.hasG m sc_Vector_WinitW (fun vs H Q E h => ?_) (fun kV doc pm an cdv ct us hl => match us, hl with | [_, _, _], _ => rfl) (fun f cdv A outer s H vs Q E gd hr h => ?_)
  · obtain ⟨p, dx, g, a, t, u, rfl, _⟩ := h
    rfl
  · obtain ⟨p, dx, g, a, t, u, rfl, hp, hg, pu, ou, k⟩ := h
    refine ⟨_, (pss_cons
 (ps_if (pt_not (pt_val (pe_callB call_isi (by exact rfl) T.zisinstance (by decide +kernel) (pa_cons (pv 1) (pa_cons (pe_globV T.gGrid) pa_nil))))) (pss_one
 ps_never) pss_nil)
 (pss_cons
 (ps_expr (pe_callH h_check_point gd (hr.mono (by decide)) pass0 (pa_cons (pv 2) pa_nil)))
 (pss_cons
 (ps_fld (pv 0) (pv 1) rfl)
 (pss_cons
 (ps_fld (pv 0) (pv 2) rfl)
 (pss_one
 (ps_fld (pv 0) (pe_callH hnorm_in gd (hr.mono (by decide)) pass0 (pa_cons (pv 1) (pa_cons (pv 2) pa_nil))) rfl)))))), ?_⟩
    obtain ⟨dg, eg⟩ := id hg
    have gp : g ≠ p := fun z => by rw [z, hp] at eg; cases eg
    refine ⟨_, rfl, _, _, _, _, _, rfl, .own _, i.ty c.cls eg, kit_self, _, rfl, (iteF ?_ : if (!true) = true then _ else _)⟩
    refine ⟨_, rfl, a, u, rfl, pu, ou, ?_⟩
    refine ⟨_, rfl, _, rfl, _, _, _, _, rfl, hp, vc.cls, vc.grid, by show 0 < 1000; decide, ?_⟩
    refine ⟨_, rfl, _, rfl, _, _, _, _, rfl, upd_same, vc.cls, vc.point, by show 1 < 1000; decide, ?_⟩
    have keep : ∀ {o1 o2 : HO} {b : Addr}, b ≠ p → upd (upd H p o1) p o2 b = H b := fun n => by rw [upd_ne n, upd_ne n]
    refine ⟨_, rfl, _, rfl, g, t, a, u, rfl, ⟨dg, by rw [keep gp]; exact eg⟩, ?_, ptOk_sm ou.1 ou.2, ?_⟩
    · rcases pu with (z | ⟨o, z⟩) | z
      · exact .inl (.inl (by rw [keep (ne_of z hp (by intro e; cases e))]; exact z))
      · exact .inl (.inr ⟨o, by rw [keep (ne_of z hp (by intro e; cases e))]; exact z⟩)
      · exact .inr z
    refine ⟨_, rfl, _, _, _, _, rfl, upd_same, vc.cls, vc.norm, Nat.lt_of_le_of_lt (small_put (n := 1) (small_put (n := 0) (Nat.le_refl 0))) (by decide), k _ (fun b hb => by rw [upd_ne hb, upd_ne hb, upd_ne hb]) ?_⟩
    rw [upd_same]
    rw [show putF "grid" (V.ref g) [] = [(("grid" : Str), V.ref g)] from rfl, put2 (by decide), put3 (by decide) (by decide)]
    rfl
theorem h_minit (vc : VCls K CM) (D : Dc K CM "MadeVector.__init__" s_MadeVector_WinitW) (m : mg "MadeVector" = some (.ref CM)) (hnorm_in : Has P w K mg base CX0 "norm_in" 1 ["grid", "point"] (spNorm K C U)) :
    HasG P w K mg base "MadeVector" CM 2 ["self", "grid", "point"] (spVInit K C U CM Sm) := by
  refine D.hasG m sc_MadeVector_WinitW (fun vs H Q E h => ?_) (fun kV doc pm an cdv ct us hl => match us, hl with | [_, _, _], _ => rfl) (fun f cdv A outer s H vs Q E gd hr h => ?_)
  · obtain ⟨p, dx, g, a, t, u, rfl, _⟩ := h
    rfl
  · obtain ⟨p, dx, g, a, t, u, rfl, hp, hg, pu, su, k⟩ := h
    refine ⟨_, (pss_cons
 (ps_fld (pv 0) (pv 1) rfl)
 (pss_cons
 (ps_fld (pv 0) (pv 2) rfl)
 (pss_one
 (ps_fld (pv 0) (pe_callH hnorm_in gd (hr.mono (by decide)) pass0 (pa_cons (pv 1) (pa_cons (pv 2) pa_nil))) rfl)))), ?_⟩
    obtain ⟨dg, eg⟩ := id hg
    have gp : g ≠ p := fun z => by rw [z, hp] at eg; cases eg
    refine ⟨_, rfl, _, rfl, _, _, _, _, rfl, hp, vc.cls, vc.grid, by show 0 < 1000; decide, ?_⟩
    refine ⟨_, rfl, _, rfl, _, _, _, _, rfl, upd_same, vc.cls, vc.point, by show 1 < 1000; decide, ?_⟩
    have keep : ∀ {o1 o2 : HO} {b : Addr}, b ≠ p → upd (upd H p o1) p o2 b = H b := fun n => by rw [upd_ne n, upd_ne n]
    refine ⟨_, rfl, _, rfl, g, t, a, u, rfl, ⟨dg, by rw [keep gp]; exact eg⟩, ?_, su, ?_⟩
    · rcases pu with (z | ⟨o, z⟩) | z
      · exact .inl (.inl (by rw [keep (ne_of z hp (by intro e; cases e))]; exact z))
      · exact .inl (.inr ⟨o, by rw [keep (ne_of z hp (by intro e; cases e))]; exact z⟩)
      · exact .inr z
    refine ⟨_, rfl, _, _, _, _, rfl, upd_same, vc.cls, vc.norm, Nat.lt_of_le_of_lt (small_put (n := 1) (small_put (n := 0) (Nat.le_refl 0))) (by decide), k _ (fun b hb => by rw [upd_ne hb, upd_ne hb, upd_ne hb]) ?_⟩
    rw [upd_same]
    rw [show putF "grid" (V.ref g) [] = [(("grid" : Str), V.ref g)] from rfl, put2 (by decide), put3 (by decide) (by decide)]
    rfl
theorem h_partner (T : Txt K mg aG dU C CV CM) (c : GCls K C) (i : GIs K C) (vi : VIs K C CV CM) (vc : ∀ D, IsV CV CM D → VCls K D) (D : Df K mg "_check_partner" s__check_partner) (hm_eq : HasM P w K mg base CX0 C "__eq__" 1 ["self", "other"] (spGEq K C U)) :
    Has P w K mg base CX0 "_check_partner" 3 ["vector", "other"] (spPartner K C U CV CM) := by
  have eqc := i.eq
  refine D.has sc__check_partner (fun vs H Q E h => ?_) (fun kV doc pm an cdv ct us hl => match us, hl with | [_, _], _ => rfl) (fun f cdv A outer s H vs Q E gd hr h => ?_)
  · obtain ⟨v, w', D, D', t, u, z, rfl, _⟩ := h
    rfl
  · obtain ⟨v, w', D, D', t, u, z, rfl, iv, iw, hv, hw, k⟩ := h
    refine ⟨_, (pss_one
 (ps_if (PW.pt (pw_or (pt_not (pt_val (pe_callB call_isi (by exact rfl) T.zisinstance (by decide +kernel) (pa_cons (pv 1) (pa_cons (pe_globV T.gVector) pa_nil))))) (pw_or1 (pt_cmpR (op_neA hm_eq eqc gd (hr.mono (by decide)) pass0) (pe_fld (pv 0) rfl) (pe_fld (pv 1) rfl) (nomark _))))) (pss_one
 ps_never) pss_nil)), ?_⟩
    have ty := hw.ty (vi.is iw) (vc _ iw).cls
    obtain ⟨dv, gv, av, ev, hgv, pv'⟩ := id hv
    obtain ⟨dw, gw, aw, ew, hgw, pw'⟩ := id hw
    obtain ⟨dg, eg⟩ := id hgv
    obtain ⟨dg2, eg2⟩ := id hgw
    refine ⟨_, rfl, _, _, _, _, _, rfl, .own _, ty, vi.kit iw, _, rfl, (iteF ?_ : if (!true) = true then _ else _)⟩
    refine ⟨_, rfl, _, _, _, _, _, rfl, ev, (vc _ iv).cls, (vc _ iv).grid, vF_grid, _, rfl, _, _, _, _, _, rfl, ew, (vc _ iw).cls, (vc _ iw).grid, vF_grid, ?_⟩
    refine ⟨gv, dg, _, _, rfl, eg, i.ty c.cls eg2, nf_self, gv, t, _, true, rfl, hgv, .inl ⟨gw, t, rfl, hgw, (beq_self_eq_true t).symm⟩, true, rfl, _, rfl, (iteF ?_ : if (true != true) = true then _ else _)⟩
    exact k
theorem h_vadd {D0 : Addr} (vc : ∀ D, IsV CV CM D → VCls K D) (D : Dm K D0 "__add__" "Vector.__add__" s_Vector_WaddW) (h_check_partner : Has P w K mg base CX0 "_check_partner" 3 ["vector", "other"] (spPartner K C U CV CM)) (hplus : Has P w K mg base CX0 "plus" 1 ["one", "other"] (spPlus K)) (hMadeVector : HasG P w K mg base "MadeVector" CM 2 ["self", "grid", "point"] (spVInit K C U CM Sm)) :
    HasM P w K mg base CX0 D0 "__add__" 4 ["self", "other"] (spVBin K C U CV CM (fun _ a b => padd a b)) := by
  refine D.has sc_Vector_WaddW (fun vs H Q E h => ?_) (fun kV doc pm an cdv ct us hl => match us, hl with | [_, _], _ => rfl) (fun f cdv A outer s H vs Q E gd hr h => ?_)
  · obtain ⟨v, w', D, D', t, u, z, rfl, _⟩ := h
    rfl
  · obtain ⟨v, w', D, D', t, u, z, rfl, iv, iw, hv, hw, su, sz, sr, k⟩ := h
    refine ⟨_, (pss_cons
 (ps_expr (pe_callH h_check_partner gd (hr.mono (by decide)) pass0 (pa_cons (pv 0) (pa_cons (pv 1) pa_nil))))
 (pss_one
 (ps_ret (pe_makeG hMadeVector gd (hr.mono (by decide)) pass0 (pa_cons (pe_fld (pv 0) rfl) (pa_cons (pe_callH hplus gd (hr.mono (by decide)) pass0 (pa_cons (pe_fld (pv 0) rfl) (pa_cons (pe_fld (pv 1) rfl) pa_nil))) pa_nil)))))), ?_⟩
    obtain ⟨dv, gv, av, ev, hgv, pv'⟩ := id hv
    obtain ⟨dw, gw, aw, ew, hgw, pw'⟩ := id hw
    refine ⟨_, rfl, _, rfl, v, w', D, D', t, u, z, rfl, iv, iw, hv, hw, ?_⟩
    refine ⟨_, rfl, _, _, _, _, _, rfl, ev, (vc _ iv).cls, (vc _ iv).grid, vF_grid, ?_⟩
    refine ⟨_, rfl, _, _, _, _, _, rfl, ev, (vc _ iv).cls, (vc _ iv).point, vF_point, _, rfl, _, _, _, _, _, rfl, ew, (vc _ iw).cls, (vc _ iw).point, vF_point, av, aw, u, z, rfl, pv', pw', fun p hp => ?_⟩
    have hh : ∀ {p : Addr}, H p = none → Same H (upd H p (.tup [.int ((fun _ a b => padd a b) t u z).1, .int ((fun _ a b => padd a b) t u z).2])) := fun hp => Same.new hp
    refine mk_vec (hgv.same (hh hp)) (PAt.of upd_same) sr fun r H' hr2 s2 hv2 => k r H' ?_ ((hh hp).trans s2) hv2
    cases e : H r with
    | none => rfl
    | some o => rw [(hh hp) _ _ e] at hr2; cases hr2
theorem h_vsub {D0 : Addr} (vc : ∀ D, IsV CV CM D → VCls K D) (D : Dm K D0 "__sub__" "Vector.__sub__" s_Vector_WsubW) (h_check_partner : Has P w K mg base CX0 "_check_partner" 3 ["vector", "other"] (spPartner K C U CV CM)) (hminus : Has P w K mg base CX0 "minus" 1 ["one", "other"] (spMinus K)) (hMadeVector : HasG P w K mg base "MadeVector" CM 2 ["self", "grid", "point"] (spVInit K C U CM Sm)) :
    HasM P w K mg base CX0 D0 "__sub__" 4 ["self", "other"] (spVBin K C U CV CM (fun _ a b => psub a b)) := by
  refine D.has sc_Vector_WsubW (fun vs H Q E h => ?_) (fun kV doc pm an cdv ct us hl => match us, hl with | [_, _], _ => rfl) (fun f cdv A outer s H vs Q E gd hr h => ?_)
  · obtain ⟨v, w', D, D', t, u, z, rfl, _⟩ := h
    rfl
  · obtain ⟨v, w', D, D', t, u, z, rfl, iv, iw, hv, hw, su, sz, sr, k⟩ := h
    refine ⟨_, (pss_cons
 (ps_expr (pe_callH h_check_partner gd (hr.mono (by decide)) pass0 (pa_cons (pv 0) (pa_cons (pv 1) pa_nil))))
 (pss_one
 (ps_ret (pe_makeG hMadeVector gd (hr.mono (by decide)) pass0 (pa_cons (pe_fld (pv 0) rfl) (pa_cons (pe_callH hminus gd (hr.mono (by decide)) pass0 (pa_cons (pe_fld (pv 0) rfl) (pa_cons (pe_fld (pv 1) rfl) pa_nil))) pa_nil)))))), ?_⟩
    obtain ⟨dv, gv, av, ev, hgv, pv'⟩ := id hv
    obtain ⟨dw, gw, aw, ew, hgw, pw'⟩ := id hw
    refine ⟨_, rfl, _, rfl, v, w', D, D', t, u, z, rfl, iv, iw, hv, hw, ?_⟩
    refine ⟨_, rfl, _, _, _, _, _, rfl, ev, (vc _ iv).cls, (vc _ iv).grid, vF_grid, ?_⟩
    refine ⟨_, rfl, _, _, _, _, _, rfl, ev, (vc _ iv).cls, (vc _ iv).point, vF_point, _, rfl, _, _, _, _, _, rfl, ew, (vc _ iw).cls, (vc _ iw).point, vF_point, av, aw, u, z, rfl, pv', pw', fun p hp => ?_⟩
    have hh : ∀ {p : Addr}, H p = none → Same H (upd H p (.tup [.int ((fun _ a b => psub a b) t u z).1, .int ((fun _ a b => psub a b) t u z).2])) := fun hp => Same.new hp
    refine mk_vec (hgv.same (hh hp)) (PAt.of upd_same) sr fun r H' hr2 s2 hv2 => k r H' ?_ ((hh hp).trans s2) hv2
    cases e : H r with
    | none => rfl
    | some o => rw [(hh hp) _ _ e] at hr2; cases hr2
theorem h_vmul {D0 : Addr} (vc : ∀ D, IsV CV CM D → VCls K D) (D : Dm K D0 "__mul__" "Vector.__mul__" s_Vector_WmulW) (h_check_partner : Has P w K mg base CX0 "_check_partner" 3 ["vector", "other"] (spPartner K C U CV CM)) (htimes : Has P w K mg base CX0 "times" 1 ["grid", "one", "other"] (spTimes K C U)) (hMadeVector : HasG P w K mg base "MadeVector" CM 2 ["self", "grid", "point"] (spVInit K C U CM Sm)) :
    HasM P w K mg base CX0 D0 "__mul__" 4 ["self", "other"] (spVBin K C U CV CM mul) := by
  refine D.has sc_Vector_WmulW (fun vs H Q E h => ?_) (fun kV doc pm an cdv ct us hl => match us, hl with | [_, _], _ => rfl) (fun f cdv A outer s H vs Q E gd hr h => ?_)
  · obtain ⟨v, w', D, D', t, u, z, rfl, _⟩ := h
    rfl
  · obtain ⟨v, w', D, D', t, u, z, rfl, iv, iw, hv, hw, su, sz, sr, k⟩ := h
    refine ⟨_, (pss_cons
 (ps_expr (pe_callH h_check_partner gd (hr.mono (by decide)) pass0 (pa_cons (pv 0) (pa_cons (pv 1) pa_nil))))
 (pss_one
 (ps_ret (pe_makeG hMadeVector gd (hr.mono (by decide)) pass0 (pa_cons (pe_fld (pv 0) rfl) (pa_cons (pe_callH htimes gd (hr.mono (by decide)) pass0 (pa_cons (pe_fld (pv 0) rfl) (pa_cons (pe_fld (pv 0) rfl) (pa_cons (pe_fld (pv 1) rfl) pa_nil)))) pa_nil)))))), ?_⟩
    obtain ⟨dv, gv, av, ev, hgv, pv'⟩ := id hv
    obtain ⟨dw, gw, aw, ew, hgw, pw'⟩ := id hw
    refine ⟨_, rfl, _, rfl, v, w', D, D', t, u, z, rfl, iv, iw, hv, hw, ?_⟩
    refine ⟨_, rfl, _, _, _, _, _, rfl, ev, (vc _ iv).cls, (vc _ iv).grid, vF_grid, ?_⟩
    refine ⟨_, rfl, _, _, _, _, _, rfl, ev, (vc _ iv).cls, (vc _ iv).grid, vF_grid, _, rfl, _, _, _, _, _, rfl, ev, (vc _ iv).cls, (vc _ iv).point, vF_point, _, rfl, _, _, _, _, _, rfl, ew, (vc _ iw).cls, (vc _ iw).point, vF_point, gv, t, av, aw, u, z, rfl, hgv, pv', pw', su, sz, fun p hp => ?_⟩
    have hh : ∀ {p : Addr}, H p = none → Same H (upd H p (.tup [.int (mul t u z).1, .int (mul t u z).2])) := fun hp => Same.new hp
    refine mk_vec (hgv.same (hh hp)) (PAt.of upd_same) sr fun r H' hr2 s2 hv2 => k r H' ?_ ((hh hp).trans s2) hv2
    cases e : H r with
    | none => rfl
    | some o => rw [(hh hp) _ _ e] at hr2; cases hr2
theorem h_divided (D : Df K mg "divided" s_divided) (htimes : Has P w K mg base CX0 "times" 1 ["grid", "one", "other"] (spTimes K C U)) (hnorm_in : Has P w K mg base CX0 "norm_in" 1 ["grid", "point"] (spNorm K C U)) (hflipped : Has P w K mg base CX0 "flipped" 1 ["grid", "point"] (spFlip K C U)) :
    Has P w K mg base CX0 "divided" 2 ["grid", "point", "divisor"] (spDivG K C U) := by
  refine D.has sc_divided (fun vs H Q E h => ?_) (fun kV doc pm an cdv ct us hl => match us, hl with | [_, _, _], _ => rfl) (fun f cdv A outer s H vs Q E gd hr h => ?_)
  · obtain ⟨g, t, a, b, u, v, rfl, _⟩ := h
    rfl
  · obtain ⟨g, t, a, b, u, v, rfl, eg, pu, pv', su, sv, sf, sl, nn, hn, k⟩ := h
    refine ⟨_, (pss_cons
 (ps_set (i := 3) sc_divided.nd rfl (Or.inl rfl) (pe_callH hnorm_in gd (hr.mono (by decide)) pass0 (pa_cons (pv 0) (pa_cons (pv 2) pa_nil))))
 (pss_cons
 (ps_set (i := 4) sc_divided.nd rfl (Or.inl rfl) (pe_callH htimes gd (hr.mono (by decide)) pass0 (pa_cons (pv 0) (pa_cons (pv 1) (pa_cons (pe_callH hflipped gd (hr.mono (by decide)) pass0 (pa_cons (pv 0) (pa_cons (pv 2) pa_nil))) pa_nil)))))
 (pss_cons
 (ps_if (PW.pt (pw_or (pt_cmpR op_eq (pv 3) pe_int (nomark _)) (pw_or (pt_cmpR op_ne (pe_op op_mod (pe_ix ix_tup (pv 4) pe_int (fun _ _ => rfl)) (pv 3)) pe_int (nomark _)) (pw_or1 (pt_cmpR op_ne (pe_op op_mod (pe_ix ix_tup (pv 4) pe_int (fun _ _ => rfl)) (pv 3)) pe_int (nomark _)))))) (pss_one
 (ps_ret pe_non)) pss_nil)
 (pss_one
 (ps_ret (pe_tup (pa_cons (pe_op op_fdivW (pe_ix ix_tup (pv 4) pe_int (fun _ _ => rfl)) (pv 3)) (pa_cons (pe_op op_fdivW (pe_ix ix_tup (pv 4) pe_int (fun _ _ => rfl)) (pv 3)) pa_nil)))))))), ?_⟩
    refine ⟨_, rfl, _, rfl, g, t, b, v, rfl, eg, pv', sv, ?_⟩
    refine ⟨_, rfl, _, rfl, _, rfl, _, rfl, g, t, b, v, rfl, eg, pv', sv, fun p1 h1 => ?_⟩
    have s1 := Same.new (o := .tup [.int (flip t v).1, .int (flip t v).2]) h1
    have q1 : PAt K (upd H p1 (.tup [.int (flip t v).1, .int (flip t v).2])) p1 (flip t v) := PAt.of upd_same
    generalize upd H p1 (.tup [.int (flip t v).1, .int (flip t v).2]) = H1 at *
    refine ⟨g, t, a, p1, u, flip t v, rfl, eg.same s1, pu.same s1, q1, su, sf, fun p2 h2 => ?_⟩
    have s2 := s1.trans (Same.new (o := .tup [.int (low t u v).1, .int (low t u v).2]) h2)
    have q2 : PAt K (upd H1 p2 (.tup [.int (low t u v).1, .int (low t u v).2])) p2 (low t u v) := PAt.of upd_same
    change (fun H2 => _) (upd H1 p2 (.tup [.int (low t u v).1, .int (low t u v).2]))
    generalize upd H1 p2 (.tup [.int (low t u v).1, .int (low t u v).2]) = H2 at *
    have fin := fun x H' s' => k x H' (s2.trans s')
    unfold quo at fin
    have ne0 : ∀ x : Int, (!decide (V.int x = V.int 0)) = !decide (x = 0) := fun x => by rw [int_eq]
    refine ⟨_, rfl, rfl, _, rfl, ?_⟩
    rw [show decide (V.int (nrm t v) = V.int 0) = false from by rw [int_eq]; exact decide_eq_false (Int.ne_of_gt hn)]
    refine iteF ⟨_, rfl, _, _, _, _, rfl, rfl, q2, atI_nat (j := 0) rfl, _, rfl, _, _, rfl, rfl, hn, rfl, _, rfl, ?_⟩
    rw [ne0]
    by_cases c1 : (low t u v).1 % nrm t v = 0
    · rw [decide_eq_true c1]
      refine iteF ⟨_, rfl, _, _, _, _, rfl, rfl, q2, atI_nat (j := 1) rfl, _, rfl, _, _, rfl, rfl, hn, rfl, _, rfl, ?_⟩
      rw [ne0]
      by_cases c2 : (low t u v).2 % nrm t v = 0
      · rw [decide_eq_true c2]
        rw [if_pos ⟨c1, c2⟩] at fin
        refine iteF ⟨_, rfl, _, _, _, _, rfl, rfl, q2, atI_nat (j := 0) rfl, _, rfl, _, _, rfl, rfl, (wide_div hn nn (by decide) (by decide)), _, rfl, _, _, _, _, rfl, rfl, q2, atI_nat (j := 1) rfl, _, rfl, _, _, rfl, rfl, (wide_div hn nn (by decide) (by decide)), by show 2 ≤ sizeLine; decide, fun p hp => ?_⟩
        exact fin _ _ (Same.new hp) ⟨p, rfl, PAt.of upd_same⟩
      · rw [decide_eq_false c2]
        rw [if_neg (fun z => c2 z.2)] at fin
        exact iteT (fin _ _ (Same.refl _) rfl)
    · rw [decide_eq_false c1]
      rw [if_neg (fun z => c1 z.1)] at fin
      exact iteT (fin _ _ (Same.refl _) rfl)
theorem fresh_of {H H' : Hp} {r : Addr} (s : Same H H') (n : H' r = none) : H r = none := by
  cases e : H r with
  | none => rfl
  | some o => rw [s _ _ e] at n; cases n
theorem h_vdiv {D0 : Addr} (vc : ∀ D, IsV CV CM D → VCls K D) (D : Dm K D0 "__floordiv__" "Vector.__floordiv__" s_Vector_WfloordivW) (h_check_partner : Has P w K mg base CX0 "_check_partner" 3 ["vector", "other"] (spPartner K C U CV CM)) (hdivided : Has P w K mg base CX0 "divided" 2 ["grid", "point", "divisor"] (spDivG K C U)) (hMadeVector : HasG P w K mg base "MadeVector" CM 2 ["self", "grid", "point"] (spVInit K C U CM Sm)) :
    HasM P w K mg base CX0 D0 "__floordiv__" 4 ["self", "other"] (spVDiv K C U CV CM) := by
  refine D.has sc_Vector_WfloordivW (fun vs H Q E h => ?_) (fun kV doc pm an cdv ct us hl => match us, hl with | [_, _], _ => rfl) (fun f cdv A outer s H vs Q E gd hr h => ?_)
  · obtain ⟨v, w', D, D', t, u, z, q, rfl, _⟩ := h
    rfl
  · obtain ⟨v, w', D, D', t, u, z, q, rfl, iv, iw, hv, hw, su, sz, sq, sf, sl, nn, hn, e, k⟩ := h
    refine ⟨_, (pss_cons
 (ps_expr (pe_callH h_check_partner gd (hr.mono (by decide)) pass0 (pa_cons (pv 0) (pa_cons (pv 1) pa_nil))))
 (pss_cons
 (ps_set (i := 2) sc_Vector_WfloordivW.nd rfl (Or.inl rfl) (pe_callH hdivided gd (hr.mono (by decide)) pass0 (pa_cons (pe_fld (pv 0) rfl) (pa_cons (pe_fld (pv 0) rfl) (pa_cons (pe_fld (pv 1) rfl) pa_nil)))))
 (pss_cons
 (ps_if (pt_cmpR op_isN (pv 2) pe_non (nomark _)) (pss_one
 ps_never) pss_nil)
 (pss_one
 (ps_ret (pe_makeG hMadeVector gd (hr.mono (by decide)) pass0 (pa_cons (pe_fld (pv 0) rfl) (pa_cons (pv 2) pa_nil)))))))), ?_⟩
    obtain ⟨dv, gv, av, ev, hgv, pv'⟩ := id hv
    obtain ⟨dw, gw, aw, ew, hgw, pw'⟩ := id hw
    refine ⟨_, rfl, _, rfl, v, w', D, D', t, u, z, rfl, iv, iw, hv, hw, ?_⟩
    refine ⟨_, rfl, _, _, _, _, _, rfl, ev, (vc _ iv).cls, (vc _ iv).grid, vF_grid, _, rfl, _, _, _, _, _, rfl, ev, (vc _ iv).cls, (vc _ iv).point, vF_point, _, rfl, _, _, _, _, _, rfl, ew, (vc _ iw).cls, (vc _ iw).point, vF_point, gv, t, av, aw, u, z, rfl, hgv, pv', pw', su, sz, sf, sl, nn, hn, fun x H1 s1 qa => ?_⟩
    rw [quo_of hn e] at qa
    obtain ⟨p, rfl, pp⟩ := qa
    refine ⟨_, rfl, rfl, _, rfl, (iteF ?_ : if false = true then _ else _)⟩
    refine ⟨_, rfl, _, _, _, _, _, rfl, s1 _ _ ev, (vc _ iv).cls, (vc _ iv).grid, vF_grid, _, rfl, ?_⟩
    exact mk_vec (hgv.same s1) pp sq fun r H' hr2 s2 hv2 => k r H' (fresh_of s1 hr2) (s1.trans s2) hv2
theorem h_vneg {D0 : Addr} (vc : ∀ D, IsV CV CM D → VCls K D) (D : Dm K D0 "__neg__" "Vector.__neg__" s_Vector_WnegW) (hminus : Has P w K mg base CX0 "minus" 1 ["one", "other"] (spMinus K)) (hMadeVector : HasG P w K mg base "MadeVector" CM 2 ["self", "grid", "point"] (spVInit K C U CM Sm)) :
    HasM P w K mg base CX0 D0 "__neg__" 4 ["self"] (spVUn K C U CV CM (fun _ u => psub (0, 0) u)) := by
  refine D.has sc_Vector_WnegW (fun vs H Q E h => ?_) (fun kV doc pm an cdv ct us hl => match us, hl with | [_], _ => rfl) (fun f cdv A outer s H vs Q E gd hr h => ?_)
  · obtain ⟨v, D, t, u, rfl, _⟩ := h
    rfl
  · obtain ⟨v, D, t, u, rfl, iv, hv, su, sr, k⟩ := h
    refine ⟨_, (pss_one
 (ps_ret (pe_makeG hMadeVector gd (hr.mono (by decide)) pass0 (pa_cons (pe_fld (pv 0) rfl) (pa_cons (pe_callH hminus gd (hr.mono (by decide)) pass0 (pa_cons (pe_tup (pa_cons pe_int (pa_cons pe_int pa_nil))) (pa_cons (pe_fld (pv 0) rfl) pa_nil))) pa_nil))))), ?_⟩
    obtain ⟨dv, gv, av, ev, hgv, pv'⟩ := id hv
    refine ⟨_, rfl, _, _, _, _, _, rfl, ev, (vc _ iv).cls, (vc _ iv).grid, vF_grid, by show 2 ≤ sizeLine; decide, fun o ho => ?_⟩
    have p0 : PAt K (upd H o (.tup [.int 0, .int 0])) o (0, 0) := PAt.of upd_same
    have s1 : Same H (upd H o (.tup [.int 0, .int 0])) := Same.new ho
    generalize upd H o (.tup [.int 0, .int 0]) = H1 at *
    refine ⟨_, rfl, _, _, _, _, _, rfl, s1 _ _ ev, (vc _ iv).cls, (vc _ iv).point, vF_point, o, av, _, _, rfl, p0, pv'.same s1, fun p hp => ?_⟩
    have s2 : Same H1 (upd H1 p (.tup [.int (psub (0, 0) u).1, .int (psub (0, 0) u).2])) := Same.new hp
    exact mk_vec (hgv.same (s1.trans s2)) (PAt.of upd_same) sr fun r H' hr2 s3 hv2 => k r H' (fresh_of (s1.trans s2) hr2) ((s1.trans s2).trans s3) hv2
theorem h_vmirrored {D0 : Addr} (vc : ∀ D, IsV CV CM D → VCls K D) (D : Dm K D0 "mirrored" "Vector.mirrored" s_Vector_mirrored) (hflipped : Has P w K mg base CX0 "flipped" 1 ["grid", "point"] (spFlip K C U)) (hMadeVector : HasG P w K mg base "MadeVector" CM 2 ["self", "grid", "point"] (spVInit K C U CM Sm)) :
    HasM P w K mg base CX0 D0 "mirrored" 4 ["self"] (spVUn K C U CV CM flip) := by
  refine D.has sc_Vector_mirrored (fun vs H Q E h => ?_) (fun kV doc pm an cdv ct us hl => match us, hl with | [_], _ => rfl) (fun f cdv A outer s H vs Q E gd hr h => ?_)
  · obtain ⟨v, D, t, u, rfl, _⟩ := h
    rfl
  · obtain ⟨v, D, t, u, rfl, iv, hv, su, sr, k⟩ := h
    refine ⟨_, (pss_one
 (ps_ret (pe_makeG hMadeVector gd (hr.mono (by decide)) pass0 (pa_cons (pe_fld (pv 0) rfl) (pa_cons (pe_callH hflipped gd (hr.mono (by decide)) pass0 (pa_cons (pe_fld (pv 0) rfl) (pa_cons (pe_fld (pv 0) rfl) pa_nil))) pa_nil))))), ?_⟩
    obtain ⟨dv, gv, av, ev, hgv, pv'⟩ := id hv
    refine ⟨_, rfl, _, _, _, _, _, rfl, ev, (vc _ iv).cls, (vc _ iv).grid, vF_grid, _, rfl, _, _, _, _, _, rfl, ev, (vc _ iv).cls, (vc _ iv).grid, vF_grid, _, rfl, _, _, _, _, _, rfl, ev, (vc _ iv).cls, (vc _ iv).point, vF_point, gv, t, av, u, rfl, hgv, pv', su, fun p hp => ?_⟩
    have s2 : Same H (upd H p (.tup [.int (flip t u).1, .int (flip t u).2])) := Same.new hp
    exact mk_vec (hgv.same s2) (PAt.of upd_same) sr fun r H' hr2 s3 hv2 => k r H' (fresh_of s2 hr2) (s2.trans s3) hv2
theorem h_vturned {D0 : Addr} (vc : ∀ D, IsV CV CM D → VCls K D) (D : Dm K D0 "turned" "Vector.turned" s_Vector_turned) (h_check_number : Has P w K mg base CX0 "_check_number" 2 ["number"] spCheckN) (hturned_by : Has P w K mg base CX0 "turned_by" 2 ["grid", "point", "turn"] (spTurned K C U)) (hMadeVector : HasG P w K mg base "MadeVector" CM 2 ["self", "grid", "point"] (spVInit K C U CM Sm)) :
    HasM P w K mg base CX0 D0 "turned" 4 ["self", "turn"] (spVTurn K C U CV CM) := by
  refine D.has sc_Vector_turned (fun vs H Q E h => ?_) (fun kV doc pm an cdv ct us hl => match us, hl with | [_, _], _ => rfl) (fun f cdv A outer s H vs Q E gd hr h => ?_)
  · obtain ⟨v, D, t, u, n, rfl, _⟩ := h
    rfl
  · obtain ⟨v, D, t, u, n, rfl, iv, hv, on, su, sr, k⟩ := h
    refine ⟨_, (pss_cons
 (ps_expr (pe_callH h_check_number gd (hr.mono (by decide)) pass0 (pa_cons (pv 1) pa_nil)))
 (pss_one
 (ps_ret (pe_makeG hMadeVector gd (hr.mono (by decide)) pass0 (pa_cons (pe_fld (pv 0) rfl) (pa_cons (pe_callH hturned_by gd (hr.mono (by decide)) pass0 (pa_cons (pe_fld (pv 0) rfl) (pa_cons (pe_fld (pv 0) rfl) (pa_cons (pv 1) pa_nil)))) pa_nil)))))), ?_⟩
    obtain ⟨dv, gv, av, ev, hgv, pv'⟩ := id hv
    refine ⟨_, rfl, n, rfl, on, ?_⟩
    refine ⟨_, rfl, _, _, _, _, _, rfl, ev, (vc _ iv).cls, (vc _ iv).grid, vF_grid, _, rfl, _, _, _, _, _, rfl, ev, (vc _ iv).cls, (vc _ iv).grid, vF_grid, _, rfl, _, _, _, _, _, rfl, ev, (vc _ iv).cls, (vc _ iv).point, vF_point, _, rfl, gv, t, av, u, n, rfl, hgv, pv', su, fun p hp => ?_⟩
    have s2 : Same H (upd H p (.tup [.int (mul t u (uni t n)).1, .int (mul t u (uni t n)).2])) := Same.new hp
    exact mk_vec (hgv.same s2) (PAt.of upd_same) sr fun r H' hr2 s3 hv2 => k r H' (fresh_of s2 hr2) (s2.trans s3) hv2
theorem small_nat {n : Nat} (h : n ≤ 1000) : isIntV (.int (n : Int)) = true := short_of (by rw [Int.natAbs_natCast]; exact Nat.le_trans h (by decide))
theorem h_vpower {D0 : Addr} (T : Txt K mg aG dU C CV CM) (vc : ∀ D, IsV CV CM D → VCls K D) (D : Dm K D0 "power" "Vector.power" s_Vector_power) (his_integer : Has P w K mg base CX0 "is_integer" 1 ["value"] (spIsInt K)) (hraised : Has P w K mg base CX0 "raised" 12 ["grid", "point", "many"] (spRaised K C U 10)) (hMadeVector : HasG P w K mg base "MadeVector" CM 2 ["self", "grid", "point"] (spVInit K C U CM Sm)) :
    HasM P w K mg base CX0 D0 "power" 13 ["self", "many"] (spVPow K C U CV CM) := by
  refine D.has sc_Vector_power (fun vs H Q E h => ?_) (fun kV doc pm an cdv ct us hl => match us, hl with | [_, _], _ => rfl) (fun f cdv A outer s H vs Q E gd hr h => ?_)
  · obtain ⟨v, D, t, u, n, rfl, _⟩ := h
    rfl
  · obtain ⟨v, D, t, u, n, rfl, iv, hv, ln, su, sm, k⟩ := h
    refine ⟨_, (pss_cons
 (ps_if (PW.pt (pw_or (pt_not (pt_val (pe_callH his_integer gd (hr.mono (by decide)) pass0 (pa_cons (pv 1) pa_nil)))) (pw_or (pt_cmpR op_lt (pv 1) pe_int (nomark _)) (pw_or1 (pt_cmpR op_gt (pv 1) (pe_globV T.gMAX_POWER) (nomark _)))))) (pss_one
 ps_never) pss_nil)
 (pss_one
 (ps_ret (pe_makeG hMadeVector gd (hr.mono (by decide)) pass0 (pa_cons (pe_fld (pv 0) rfl) (pa_cons (pe_callH hraised gd (hr.mono (by decide)) pass0 (pa_cons (pe_fld (pv 0) rfl) (pa_cons (pe_fld (pv 0) rfl) (pa_cons (pv 1) pa_nil)))) pa_nil)))))), ?_⟩
    obtain ⟨dv, gv, av, ev, hgv, pv'⟩ := id hv
    refine ⟨_, rfl, _, _, rfl, .int, _, rfl, ?_⟩
    rw [small_nat ln]
    refine (iteF ?_ : if (!true) = true then _ else _)
    refine ⟨_, rfl, _, _, rfl, rfl, _, rfl, ?_⟩
    rw [decide_eq_false (show ¬ (n : Int) < 0 by omega)]
    refine iteF ⟨_, rfl, _, _, rfl, rfl, _, rfl, ?_⟩
    rw [decide_eq_false (show ¬ (1000 : Int) < (n : Int) by omega)]
    refine iteF ?_
    refine ⟨_, rfl, _, _, _, _, _, rfl, ev, (vc _ iv).cls, (vc _ iv).grid, vF_grid, _, rfl, _, _, _, _, _, rfl, ev, (vc _ iv).cls, (vc _ iv).grid, vF_grid, _, rfl, _, _, _, _, _, rfl, ev, (vc _ iv).cls, (vc _ iv).point, vF_point, _, rfl, gv, t, av, u, n, rfl, hgv, pv', su, Nat.lt_of_le_of_lt ln (by decide), sm, fun p H1 hp s1 pp => ?_⟩
    exact mk_vec (hgv.same s1) pp (sm n (Nat.le_refl n)) fun r H' hr2 s3 hv2 => k r H' (fresh_of s1 hr2) (s1.trans s3) hv2
theorem h_vitem {D0 : Addr} (vc : ∀ D, IsV CV CM D → VCls K D) (D : Dm K D0 "__getitem__" "Vector.__getitem__" s_Vector_WgetitemW) (his_integer : Has P w K mg base CX0 "is_integer" 1 ["value"] (spIsInt K)) :
    HasM P w K mg base CX0 D0 "__getitem__" 2 ["self", "index"] (spVItem K C U CV CM) := by
  refine D.has sc_Vector_WgetitemW (fun vs H Q E h => ?_) (fun kV doc pm an cdv ct us hl => match us, hl with | [_, _], _ => rfl) (fun f cdv A outer s H vs Q E gd hr h => ?_)
  · obtain ⟨v, D, t, u, n, rfl, _⟩ := h
    rfl
  · obtain ⟨v, D, t, u, n, rfl, iv, hv, h01, k⟩ := h
    refine ⟨_, (pss_cons
 (ps_if (PW.pt (pw_or (pt_not (pt_val (pe_callH his_integer gd (hr.mono (by decide)) pass0 (pa_cons (pv 1) pa_nil)))) (pw_or (pt_cmpR op_lt (pv 1) pe_int (nomark _)) (pw_or1 (pt_cmpR op_gt (pv 1) pe_int (nomark _)))))) (pss_one
 ps_never) pss_nil)
 (pss_one
 (ps_ret (pe_ix ix_tup (pe_fld (pv 0) rfl) (pv 1) (fun _ _ => rfl))))), ?_⟩
    obtain ⟨dv, gv, av, ev, hgv, pv'⟩ := id hv
    refine ⟨_, rfl, _, _, rfl, .int, _, rfl, ?_⟩
    rw [show isIntV (.int n) = true from short_of (by rcases h01 with rfl | rfl <;> decide)]
    refine (iteF ?_ : if (!true) = true then _ else _)
    refine ⟨_, rfl, _, _, rfl, rfl, _, rfl, ?_⟩
    rw [decide_eq_false (show ¬ n < 0 by omega)]
    refine iteF ⟨_, rfl, _, _, rfl, rfl, _, rfl, ?_⟩
    rw [decide_eq_false (show ¬ (1 : Int) < n by omega)]
    refine iteF ⟨_, rfl, _, _, _, _, _, rfl, ev, (vc _ iv).cls, (vc _ iv).point, vF_point, _, rfl, ?_⟩
    rcases h01 with rfl | rfl
    · exact ⟨_, _, _, _, rfl, rfl, pv', atI_nat (j := 0) rfl, k⟩
    · exact ⟨_, _, _, _, rfl, rfl, pv', atI_nat (j := 1) rfl, k⟩
theorem h_vbool {D0 : Addr} (T : Txt K mg aG dU C CV CM) (vc : ∀ D, IsV CV CM D → VCls K D) (D : Dm K D0 "__bool__" "Vector.__bool__" s_Vector_WboolW) :
    HasM P w K mg base CX0 D0 "__bool__" 1 ["self"] (spVBool K C U CV CM) := by
  refine D.has sc_Vector_WboolW (fun vs H Q E h => ?_) (fun kV doc pm an cdv ct us hl => match us, hl with | [_], _ => rfl) (fun f cdv A outer s H vs Q E gd hr h => ?_)
  · obtain ⟨v, D, t, u, rfl, _⟩ := h
    rfl
  · obtain ⟨v, D, t, u, rfl, iv, hv, k⟩ := h
    have hu := hr.units
    refine ⟨_, (pss_one
 (ps_ret (pe_callTy call_bool1 (by exact rfl) T.zbool (by decide +kernel) (pa_cons (pe_cmpR (op_neD hu) (pe_fld (pv 0) rfl) (pe_tup (pa_cons pe_int (pa_cons pe_int pa_nil))) (nomark _)) pa_nil)))), ?_⟩
    obtain ⟨dv, gv, av, ev, hgv, pv'⟩ := id hv
    refine ⟨_, rfl, _, _, _, _, _, rfl, ev, (vc _ iv).cls, (vc _ iv).point, vF_point, by show 2 ≤ sizeLine; decide, fun o ho => ?_⟩
    have s1 : Same H (upd H o (.tup [.int 0, .int 0])) := Same.new ho
    refine ⟨ptD u, ptD (0, 0), (pv'.same s1).dp, PAt.dp (PAt.of upd_same), ptD_shaped _, ptD_shaped _, ?_⟩
    rw [ptD_eqv]
    exact .inr ⟨_, rfl, k _ s1⟩
theorem h_veq {D0 : Addr} (T : Txt K mg aG dU C CV CM) (c : GCls K C) (i : GIs K C) (vi : VIs K C CV CM) (nC : C ≠ CV) (vc : ∀ D, IsV CV CM D → VCls K D) (D : Dm K D0 "__eq__" "Vector.__eq__" s_Vector_WeqW) (hm_eq : HasM P w K mg base CX0 C "__eq__" 1 ["self", "other"] (spGEq K C U)) :
    HasM P w K mg base CX0 D0 "__eq__" 2 ["self", "other"] (spVEq K C U CV CM) := by
  refine D.has sc_Vector_WeqW (fun vs H Q E h => ?_) (fun kV doc pm an cdv ct us hl => match us, hl with | [_, _], _ => rfl) (fun f cdv A outer s H vs Q E gd hr h => ?_)
  · obtain ⟨v, D, t, u, y, r, rfl, _⟩ := h
    rfl
  · obtain ⟨v, D, t, u, y, r, rfl, iv, hv, o, k⟩ := h
    have hu := hr.units
    refine ⟨_, (pss_one
 (ps_ret (pe_and (pe_callB call_isi (by exact rfl) T.zisinstance (by decide +kernel) (pa_cons (pv 1) (pa_cons (pe_globV T.gVector) pa_nil))) (pe_and (pe_cmpR (op_eqA hm_eq gd (hr.mono (by decide)) pass0) (pe_fld (pv 0) rfl) (pe_fld (pv 1) rfl) (nomark _)) (pe_one (pe_cmpR (op_eqD hu) (pe_fld (pv 0) rfl) (pe_fld (pv 1) rfl) (nomark _))))))), ?_⟩
    obtain ⟨dv, gv, av, ev, hgv, pv'⟩ := id hv
    obtain ⟨dg, eg⟩ := id hgv
    rcases o with ⟨w', D', t', z, rfl, iw, hw, rfl⟩ | ⟨kd, o, rfl⟩ | ⟨g', t', rfl, ⟨dg', eg'⟩, rfl⟩
    · have ty := hw.ty (vi.is iw) (vc _ iw).cls
      obtain ⟨dw, gw, aw, ew, hgw, pw'⟩ := id hw
      obtain ⟨dg2, eg2⟩ := id hgw
      refine ⟨_, rfl, _, _, _, _, _, rfl, .own _, ty, vi.kit iw, _, rfl, iteT ?_⟩
      refine ⟨_, rfl, _, _, _, _, _, rfl, ev, (vc _ iv).cls, (vc _ iv).grid, vF_grid, _, rfl, _, _, _, _, _, rfl, ew, (vc _ iw).cls, (vc _ iw).grid, vF_grid, ?_⟩
      refine ⟨gv, dg, _, _, rfl, eg, i.ty c.cls eg2, nf_self, gv, t, _, t == t', rfl, hgv, .inl ⟨gw, t', rfl, hgw, rfl⟩, t == t', rfl, _, rfl, ?_⟩
      cases htt : t == t' with
      | false =>
        rw [htt] at k
        exact iteF k
      | true =>
        rw [htt] at k
        refine iteT ⟨_, rfl, _, _, _, _, _, rfl, ev, (vc _ iv).cls, (vc _ iv).point, vF_point, _, rfl, _, _, _, _, _, rfl, ew, (vc _ iw).cls, (vc _ iw).point, vF_point, ptD u, ptD z, pv'.dp, pw'.dp, ptD_shaped _, ptD_shaped _, ?_⟩
        rw [ptD_eqv]
        exact k
    · exact ⟨_, rfl, _, _, _, _, _, rfl, .own _, o, vi.v.kit kd, _, rfl, iteF k⟩
    · exact ⟨_, rfl, _, _, _, _, _, rfl, .own _, i.ty c.cls eg', vi.kitG nC, _, rfl, iteF k⟩
end
section
variable {P : Program} {w : World} {K : PySem.W.Frag} {mg : Str → Option Value} {base : Heap}
variable {aG dU C CV CM : Addr} {U : Bool → Addr} {us : Bool → List Addr}
theorem h_write (T : Txt K mg aG dU C CV CM) (D : Df K mg "write_integer" s_write_integer) : Has P w K mg base CX0 "write_integer" 1 ["number"] spWrite := by
  refine D.has sc_write_integer (fun vs H Q E h => ?_) (fun kV doc pm an cdv ct us hl => match us, hl with | [_], _ => rfl) (fun f cdv A outer s H vs Q E gd hr h => ?_)
  · obtain ⟨n, rfl, _⟩ := h
    rfl
  · obtain ⟨n, rfl, on, k⟩ := h
    have hu := hr.units
    refine ⟨_, (Evl.pss_cut
 (ps_set (i := 1) sc_write_integer.nd rfl (Or.inl rfl) (pe_ifExp (pt_cmpR op_lt (pv 0) pe_int (nomark _)) pe_str pe_str))
 (pss_cons
 (ps_set (i := 2) sc_write_integer.nd rfl (Or.inl rfl) (pe_lst pa_nil))
 (pss_cons
 (ps_set (i := 3) sc_write_integer.nd rfl (Or.inl rfl) (pe_callB call_abs (by exact rfl) T.zabs (by decide +kernel) (pa_cons (pv 0) pa_nil)))
 (pss_cons
 (ps_while PassesOwn.never (pt_cmpR op_ge (pv 3) (pe_globV T.g_BOUND) (nomark _)) (pss_cons
 (ps_asg (pe_callB call_divmodW (by exact rfl) T.zdivmod (by decide +kernel) (pa_cons (pv 3) (pa_cons (pe_globV T.g_BOUND) pa_nil))) (pg_tup (by rfl) (pgs_cons (pg_name (i := 3) sc_write_integer.nd rfl (Or.inl rfl)) (pgs_cons (pg_name (i := 4) sc_write_integer.nd rfl (Or.inl rfl)) pgs_nil))))
 (pss_one
 (ps_expr (pe_bm PySem.F.plainAttrs_list PySem.F.slot_list_append PySem.F.type_list_append mt_append (pv 2) (pa_cons (pe_bm PySem.F.plainAttrs_str PySem.F.slot_str_zfill PySem.F.type_str_zfill mt_zfill (pe_callTy call_str_int (by exact rfl) T.zstr (by decide +kernel) (pa_cons (pv 4) pa_nil)) (pa_cons (pe_globV T.gMAX_FIGURES) pa_nil)) pa_nil))))))
 (pss_cons
 (ps_expr (pe_bm PySem.F.plainAttrs_list PySem.F.slot_list_append PySem.F.type_list_append mt_append (pv 2) (pa_cons (pe_joined (.cons (pe_fmt (pv 1)) (.cons (pe_fmt (pv 3)) .nil))) pa_nil)))
 (pss_one
 (ps_ret (pe_bm PySem.F.plainAttrs_str PySem.F.slot_str_join PySem.F.type_str_join mt_join pe_str (pa_cons (pe_revL (pv 2)) pa_nil))))))))), ?_⟩
    have n400 : n.natAbs < 10 ^ 400 := of_decide_eq_true (by rw [← int_short]; exact on)
    have lg : (if n < 0 then -n else n).natAbs.log2 < 1920 := log_of (by split <;> omega)
    have lgn : (Str.ofString (toString (if n < 0 then -n else n))).length ≤ 4301 := big_short (x := if n < 0 then -n else n) (Nat.lt_of_lt_of_le (show (if n < 0 then -n else n).natAbs < 10 ^ 400 by split <;> omega) (by decide +kernel))
    refine ⟨fun σ' H' => σ' = [some (.int n), some (.str (if n < 0 then Str.ofString "-" else Str.ofString "")), none, none, none] ∧ H' = H, ?_, ?_⟩
    · refine ⟨_, rfl, _, _, rfl, rfl, _, rfl, ?_⟩
      refine ite2 (fun c => ?_) (fun c => ?_)
      · have c' : n < 0 := of_decide_eq_true c
        rw [if_pos c']
        exact ⟨rfl, rfl⟩
      · have c' : ¬ n < 0 := fun z => c (decide_eq_true z)
        rw [if_neg c']
        exact ⟨rfl, rfl⟩
    rintro _ H0 ⟨rfl, rfl⟩
    have sgn := sign_of n
    have sl : (if n < 0 then Str.ofString "-" else Str.ofString "").length ≤ 1 := by split <;> decide +kernel
    generalize (if n < 0 then Str.ofString "-" else Str.ofString "") = sg at *
    refine ⟨by show 0 ≤ sizeLine; decide, fun L hL => ?_⟩
    have eL : upd H0 L (.lst []) L = some (.lst []) := upd_same
    have s1 : Same H0 (upd H0 L (.lst [])) := Same.new hL
    generalize upd H0 L (.lst []) = H1 at *
    refine ⟨_, rfl, n, rfl, ?_⟩
    have small : ¬ (B ≤ (if n < 0 then -n else n)) := by
      rw [B_eq]
      have e : (10 : Int) ^ 400 = ((10 ^ 400 : Nat) : Int) := by rw [Int.natCast_pow]; rfl
      rw [e]
      generalize (10 ^ 400 : Nat) = N at *
      split <;> omega
    generalize (if n < 0 then -n else n) = r at *
    refine ⟨fun m σ' H' => m = 0 ∧ σ' = [some (.int n), some (.str sg), some (.ref L), some (.int r), none] ∧ H' = H1, ⟨0, rfl, rfl, rfl⟩, ?_⟩
    rintro m _ Hx ⟨rfl, rfl, e1⟩
    rw [e1]
    refine ⟨_, rfl, _, _, rfl, rfl, _, rfl, ?_⟩
    rw [decide_eq_false small]
    refine iteF ?_
    have lsum : (Str.empty ++ sg).length ≤ 1 := by rw [Str.empty_append]; exact sl
    refine ⟨_, rfl, .inl ⟨rfl, _, SqL.of eL⟩, _, rfl, .inl ⟨sg, rfl, Nat.le_trans sl (by decide), _, rfl, Nat.le_trans lsum (by decide), _, rfl, .inr ⟨r, rfl, lg, _, rfl, ?_, ?_⟩⟩⟩
    · rw [Str.length_append]; exact Nat.le_trans (Nat.add_le_add lsum lgn) (by decide)
    rw [Str.empty_append, sgn]
    refine ⟨L, _, _, rfl, rfl, eL, by show 0 < sizeLine; decide, ?_⟩
    refine ⟨rfl, _, rfl, L, _, rfl, SqL.of upd_same, fun M hM => ?_⟩
    refine ⟨_, M, [Str.ofString (toString n)], rfl, rfl, .inl (SqL.of upd_same), ?_, ?_⟩
    · have := big_short (x := n) (Nat.lt_of_lt_of_le n400 (by decide +kernel))
      show (Str.ofString (toString n)).length + 0 + 1 * 0 ≤ 16777216
      have e : (PyData.int n).shown = Str.ofString (toString n) := by simp only [PyData.shown]
      rw [e] at this
      omega
    refine k _ (fun b o z => ?_)
    have bL : b ≠ L := ne_of_none z hL
    have zz : upd H1 L (HO.lst ([] ++ [V.str (Str.ofString (toString n))])) b = some o := by rw [upd_ne bL]; exact s1 b o z
    rw [upd_ne (ne_of_none zz hM)]
    exact zz
theorem int_len {n : Int} (o : isIntV (.int n) = true) : (Str.ofString (toString n)).length ≤ 4301 := by
  have := big_short (x := n) (Nat.lt_of_lt_of_le (show n.natAbs < 10 ^ 400 from of_decide_eq_true (by rw [← int_short]; exact o)) (by decide +kernel))
  have e : (PyData.int n).shown = Str.ofString (toString n) := by simp only [PyData.shown]
  rw [e] at this
  exact this
theorem h_vstr {D0 : Addr} (vc : ∀ D, IsV CV CM D → VCls K D) (D : Dm K D0 "__str__" "Vector.__str__" s_Vector_WstrW) (hwrite_integer : Has P w K mg base CX0 "write_integer" 1 ["number"] spWrite) :
    HasM P w K mg base CX0 D0 "__str__" 2 ["self"] (spVStr K C U CV CM) := by
  refine D.has sc_Vector_WstrW (fun vs H Q E h => ?_) (fun kV doc pm an cdv ct us hl => match us, hl with | [_], _ => rfl) (fun f cdv A outer s H vs Q E gd hr h => ?_)
  · obtain ⟨v, D, t, u, rfl, _⟩ := h
    rfl
  · obtain ⟨v, D, t, u, rfl, iv, hv, o, k⟩ := h
    refine ⟨_, (pss_one
 (ps_ret (pe_joined (.cons (pe_fmt (pe_callH hwrite_integer gd (hr.mono (by decide)) pass0 (pa_cons (pe_ix ix_tup (pe_fld (pv 0) rfl) pe_int (fun _ _ => rfl)) pa_nil))) (.cons pe_str (.cons (pe_fmt (pe_callH hwrite_integer gd (hr.mono (by decide)) pass0 (pa_cons (pe_ix ix_tup (pe_fld (pv 0) rfl) pe_int (fun _ _ => rfl)) pa_nil))) .nil)))))), ?_⟩
    obtain ⟨dv, gv, av, ev, hgv, pv'⟩ := id hv
    have l1 := int_len o.1
    have l2 := int_len o.2
    refine ⟨_, rfl, _, _, _, _, _, rfl, ev, (vc _ iv).cls, (vc _ iv).point, vF_point, _, _, _, _, rfl, rfl, pv', atI_nat (j := 0) rfl, u.1, rfl, o.1, fun H1 s1 => ?_⟩
    refine .inl ⟨_, rfl, Nat.le_trans l1 (by decide), _, rfl, by rw [Str.empty_append]; exact Nat.le_trans l1 (by decide), ?_⟩
    refine ⟨_, rfl, ?_, ?_⟩
    · rw [Str.empty_append, Str.length_append]
      exact Nat.le_trans (Nat.add_le_add l1 (show (Str.ofString ",").length ≤ 1 by decide +kernel)) (by decide)
    refine ⟨_, rfl, _, _, _, _, _, rfl, s1 _ _ ev, (vc _ iv).cls, (vc _ iv).point, vF_point, _, _, _, _, rfl, rfl, pv'.same s1, atI_nat (j := 1) rfl, u.2, rfl, o.2, fun H2 s2 => ?_⟩
    refine .inl ⟨_, rfl, Nat.le_trans l2 (by decide), _, rfl, ?_, ?_⟩
    · rw [Str.empty_append, Str.length_append, Str.length_append]
      exact Nat.le_trans (Nat.add_le_add (Nat.add_le_add l1 (show (Str.ofString ",").length ≤ 1 by decide +kernel)) l2) (by decide)
    rw [Str.empty_append]
    exact k H2 (s1.trans s2)
end
theorem chars_ofS (s : String) : ∀ c ∈ (Str.ofString s).cps.toList, c < 16 ^ 8 := by
  intro c hc
  rw [Str.ofString_eq_toList] at hc
  simp only [List.toList_toArray] at hc
  obtain ⟨d, _, rfl⟩ := List.mem_map.mp hc
  have h : d.val.toNat < 2 ^ 32 := d.val.toNat_lt
  exact Nat.lt_of_lt_of_le h (by decide)
theorem len_400 {x : Int} (h : x.natAbs < 10 ^ 400) : (Str.ofString (toString x)).length ≤ 401 := by
  have e := int_text_length_le10 (k := 400) (by decide) h
  rw [PySem.ofString_length]
  exact e
theorem len_899 {x : Int} (h : x.natAbs < 10 ^ 899) : (Str.ofString (toString x)).length ≤ 900 := by
  have e := int_text_length_le10 (k := 899) (by decide) h
  rw [PySem.ofString_length]
  exact e
def told6D (t : Bool) (u : Int × Int) : PyData := .list [.str (nm t), ptD u, .int (nrm t u), .int u.1, .int u.2, .str (vText u), .bool (!decide (u = (0, 0)))]
theorem told6D_ok {t : Bool} {u : Int × Int} (o : ptOk u) : okD (told6D t u) = true ∧ (told6D t u).depth ≤ 20 ∧ (told6D t u).shown.length ≤ sizeLine := by
  have h1 : u.1.natAbs < 10 ^ 400 := of_decide_eq_true (by rw [← int_short]; exact o.1)
  have h2 : u.2.natAbs < 10 ^ 400 := of_decide_eq_true (by rw [← int_short]; exact o.2)
  have hn : (nrm t u).natAbs < 10 ^ 899 := Nat.lt_of_le_of_lt (Le.nrm (m := 10 ^ 400) ⟨Nat.le_of_lt h1, Nat.le_of_lt h2⟩) (by decide +kernel)
  have b1 : (10 ^ 400 : Nat) ≤ 10 ^ 4300 := Nat.pow_le_pow_right (by decide) (by decide)
  have b2 : (10 ^ 899 : Nat) ≤ 10 ^ 4300 := Nat.pow_le_pow_right (by decide) (by decide)
  have b3 : (10 ^ 400 : Nat) ≤ 10 ^ 899 := Nat.pow_le_pow_right (by decide) (by decide)
  refine ⟨?_, ?_, ?_⟩
  · simp only [told6D, ptD, okD, okAll, Bool.and_eq_true, Bool.and_true, decide_eq_true_eq]
    simp only [true_and, and_true]
    exact ⟨⟨Nat.lt_of_lt_of_le h1 b1, Nat.lt_of_lt_of_le h2 b1⟩, Nat.lt_of_lt_of_le hn b2, Nat.lt_of_lt_of_le h1 b1, Nat.lt_of_lt_of_le h2 b1⟩
  · simp [told6D, ptD, PyData.depth, PyData.depthAll]
  · have l1 := len_400 h1
    have l2 := len_400 h2
    have z := PyData.shown_le_bulk 900 (by decide) (told6D t u) (by
      simp only [told6D, ptD, PyData.leavesShort, PyData.leavesShortAll, Bool.and_eq_true, Bool.and_true, decide_eq_true_eq, List.all_eq_true]
      refine ⟨fun c hc => ?_, ⟨len_899 (Nat.lt_of_lt_of_le h1 b3), len_899 (Nat.lt_of_lt_of_le h2 b3)⟩, len_899 hn, len_899 (Nat.lt_of_lt_of_le h1 b3), len_899 (Nat.lt_of_lt_of_le h2 b3), fun c hc => ?_⟩
      · cases t <;> exact chars_ofS _ c hc
      · simp only [vText, Str.cps_append, Array.toList_append, List.mem_append] at hc
        rcases hc with (hc | hc) | hc <;> exact chars_ofS _ c hc)
    refine Nat.le_trans z ?_
    have lt : (nm t).cps.size ≤ 8 := by cases t <;> decide +kernel
    have lv : (vText u).cps.size ≤ 803 := by
      show (vText u).length ≤ 803
      unfold vText
      rw [Str.length_append, Str.length_append]
      have : (Str.ofString ",").length = 1 := by decide +kernel
      omega
    simp only [told6D, ptD, PyData.bulk, PyData.bulkAll]
    rw [sizeLine_eq]
    omega
section
variable {P : Program} {w : World} {K : PySem.W.Frag} {mg : Str → Option Value} {base : Heap}
variable {aG dU C CV CM : Addr} {U : Bool → Addr} {us : Bool → List Addr}
theorem h_law_roll (T : Txt K mg aG dU C CV CM) (D : Df K mg "_law_roll" s__law_roll) : Has P w K mg base CX0 "_law_roll" 1 ["_law_dice_here", "_law_total"] spRoll := by
  refine D.has sc__law_roll (fun vs H Q E h => ?_) (fun kV doc pm an cdv ct us hl => match us, hl with | [_, _], _ => rfl) (fun f cdv A outer s H vs Q E gd hr h => ?_)
  · obtain ⟨p, t, rfl, _⟩ := h
    rfl
  · obtain ⟨p, t, rfl, ⟨l, b, c, l0, hp⟩, t0, tl, q⟩ := h
    refine ⟨_, (pss_cons
 (ps_if (pt_cmpR op_gt (pe_ix ix_list (pv 0) pe_int (fun _ _ => rfl)) pe_int (nomark _)) (pss_cons
 (ps_set (i := 2) sc__law_roll.nd rfl (Or.inl rfl) (pe_op op_mod (pe_callTy call_int1 (by exact rfl) T.zint (by decide +kernel) (pa_cons (pe_ix ix_list (pv 0) pe_int (fun _ _ => rfl)) pa_nil)) (pv 1)))
 (pss_cons
 (ps_asg (pe_op op_fdivW (pe_ix ix_list (pv 0) pe_int (fun _ _ => rfl)) (pv 1)) (pg_sub (pv 0) pe_int set_list))
 (pss_one
 (ps_ret (pv 2))))) pss_nil)
 (pss_cons
 (ps_asg (pe_op op_add (pe_ix ix_list (pv 0) pe_int (fun _ _ => rfl)) pe_int) (pg_sub (pv 0) pe_int set_list))
 (pss_cons
 (ps_set (i := 3) sc__law_roll.nd rfl (Or.inl rfl) (pe_op op_mod (pe_callTy call_int1 (by exact rfl) T.zint (by decide +kernel) (pa_cons (pe_op op_add (pe_ix ix_list (pv 0) pe_int (fun _ _ => rfl)) (pe_op op_mul pe_int (pe_ix ix_list (pv 0) pe_int (fun _ _ => rfl)))) pa_nil)) pe_int))
 (pss_cons
 (ps_set (i := 4) sc__law_roll.nd rfl (Or.inl rfl) (pe_op op_add (pe_op op_mul (pe_op op_mod (pe_callTy call_int1 (by exact rfl) T.zint (by decide +kernel) (pa_cons (pe_op op_add (pe_op op_mul (pv 3) (pv 3)) (pe_op op_mul pe_int (pe_ix ix_list (pv 0) pe_int (fun _ _ => rfl)))) pa_nil)) pe_int) pe_int) (pv 3)))
 (pss_one
 (ps_ret (pe_op op_mod (pe_callTy call_int1 (by exact rfl) T.zint (by decide +kernel) (pa_cons (pe_op op_fdiv (pv 4) pe_int) pa_nil)) (pv 1)))))))), ?_⟩
    have hS : ∀ {H : Hp} {xs}, H p = some (.lst xs) → SqL K H p xs := fun h => SqL.of h
    refine ⟨_, rfl, _, _, _, _, rfl, rfl, hS hp, atI_nat (j := 0) rfl, _, _, rfl, rfl, _, rfl, ?_⟩
    refine ite2 (fun c1 => ?_) (fun c1 => ?_)
    · refine ⟨_, rfl, _, _, _, _, rfl, rfl, hS hp, atI_nat (j := 0) rfl, .inl ⟨_, rfl, _, rfl, _, _, rfl, rfl, t0, ?_⟩⟩
      refine ⟨_, rfl, _, _, _, _, rfl, rfl, hS hp, atI_nat (j := 0) rfl, _, rfl, _, _, rfl, rfl, wide_div t0 tl (by decide) (by decide), _, rfl, _, _, _, _, rfl, rfl, hp, rfl, _, rfl, ?_⟩
      exact q _ _ (Int.emod_nonneg _ (Int.ne_of_gt t0)) (Int.emod_lt_of_pos _ t0) (Got.roll (Int.ediv_nonneg l0 (Int.le_of_lt t0)))
    · refine ⟨_, rfl, _, _, _, _, rfl, rfl, hS hp, atI_nat (j := 2) rfl, _, _, rfl, rfl, _, rfl, _, _, _, _, rfl, rfl, hp, rfl, ?_⟩
      have hp2 : (upd H p (.lst [.int l, .int b, .int (c + 1)])) p = some (.lst [.int l, .int b, .int (c + 1)]) := upd_same
      refine ⟨_, rfl, _, _, _, _, rfl, rfl, hS hp2, atI_nat (j := 1) rfl, _, rfl, _, _, _, _, rfl, rfl, hS hp2, atI_nat (j := 2) rfl, _, _, rfl, rfl, .inl ⟨by decide, by decide⟩, _, _, rfl, rfl, .inl ⟨_, rfl, _, _, rfl, rfl, by show (0 : Int) < _; decide, ?_⟩⟩
      generalize hx : (b + 15485863 * (c + 1)) % 2305843009213693693 = x1
      have x0 : 0 ≤ x1 ∧ x1 < 2305843009213693693 := by rw [← hx]; exact ⟨Int.emod_nonneg _ (by decide), Int.emod_lt_of_pos _ (by decide)⟩
      refine ⟨_, rfl, _, rfl, _, _, rfl, rfl, .inl ⟨by omega, by omega⟩, _, rfl, _, _, _, _, rfl, rfl, hS hp2, atI_nat (j := 2) rfl, _, _, rfl, rfl, .inl ⟨by decide, by decide⟩, _, _, rfl, rfl, .inl ⟨_, rfl, _, _, rfl, rfl, by show (0 : Int) < _; decide, _, _, rfl, rfl, .inr ⟨by decide, by decide⟩, _, rfl, _, _, rfl, rfl, ?_⟩⟩
      refine ⟨_, rfl, _, _, rfl, rfl, ⟨by decide, by decide⟩, .inl ⟨_, rfl, _, rfl, _, _, rfl, rfl, t0, ?_⟩⟩
      exact q _ _ (Int.emod_nonneg _ (Int.ne_of_gt t0)) (Int.emod_lt_of_pos _ t0) (Got.roll l0)

theorem h_law_dice (T : Txt K mg aG dU C CV CM) (D : Df K mg "_law_dice" s__law_dice) : Has P w K mg base CX0 "_law_dice" 1 ["_law_script", "_law_spot"] (spDice K) := by
  refine D.has sc__law_dice (fun vs H Q E h => ?_) (fun kV doc pm an cdv ct us hl => match us, hl with | [_, _], _ => rfl) (fun f cdv A outer s H vs Q E gd hr h => ?_)
  · obtain ⟨a, ns, spot, rfl, _⟩ := h
    rfl
  · obtain ⟨a, ns, spot, rfl, hS, s0, q⟩ := h
    refine ⟨_, (Evl.pss_cut
 (ps_set (i := 2) sc__law_dice.nd rfl (Or.inl rfl) (pe_ifExp (pt_cmpR op_lt (pv 1) (pe_callB call_len_seq (by exact rfl) T.zlen PySem.boot_len (pa_cons (pv 0) pa_nil)) (nomark _)) (pe_callTy call_int1 (by exact rfl) T.zint (by decide +kernel) (pa_cons (pe_ix ix_list (pv 0) (pv 1) (fun _ _ => rfl)) pa_nil)) (pe_op op_add (pe_op op_mul pe_int (pv 1)) pe_int)))
 (pss_cons
 (ps_set (i := 3) sc__law_dice.nd rfl (Or.inl rfl) (pe_op op_mod (pe_callB (call_max2 rfl) (by exact rfl) T.zmax (by decide +kernel) (pa_cons pe_int (pa_cons (pe_op op_sub (pe_callB call_abs (by exact rfl) T.zabs (by decide +kernel) (pa_cons (pv 2) pa_nil)) (pe_op op_pow pe_int pe_int)) pa_nil))) (pe_op op_mulW (pe_op op_pow pe_int pe_int) (pe_op op_pow pe_int pe_int))))
 (pss_one
 (ps_ret (pe_lst (pa_cons (pv 3) (pa_cons (pe_op op_add (pe_op op_add (pe_op op_add (pe_op op_mul (pe_op op_mod (pe_callB call_abs (by exact rfl) T.zabs (by decide +kernel) (pa_cons (pv 2) pa_nil)) pe_int) pe_int) (pe_op op_mul pe_int (pv 1))) (pe_op op_mul pe_int (pe_callTy call_int1 (by exact rfl) T.zint (by decide +kernel) (pa_cons (pe_cmpR op_lt (pv 2) pe_int (nomark _)) pa_nil)))) pe_int) (pa_cons pe_int pa_nil)))))))), ?_⟩
    refine ⟨fun σ' H' => ∃ cell : Int, σ' = [some (.ref a), some (.int spot), some (.int cell), none] ∧ H' = H, ?_, ?_⟩
    · refine ⟨_, rfl, _, rfl, _, _, rfl, .inl hS, _, _, rfl, rfl, _, rfl, ?_⟩
      refine ite2 (fun c1 => ?_) (fun c1 => ?_)
      · have c1' : spot < ((ns.map V.int).length : Int) := of_decide_eq_true c1
        rw [List.length_map] at c1'
        obtain ⟨n, hn⟩ := at_ints s0 c1'
        exact ⟨_, rfl, _, rfl, _, _, _, _, rfl, rfl, hS, hn, .inl ⟨_, rfl, _, rfl, rfl⟩⟩
      · exact ⟨_, rfl, _, _, rfl, rfl, .inl ⟨by decide, by decide⟩, _, _, rfl, rfl, _, rfl, rfl⟩
    rintro _ _ ⟨cell, rfl, rfl⟩
    refine ⟨_, rfl, _, rfl, _, _, rfl, rfl, ⟨by decide, by decide, by decide⟩, _, _, rfl, rfl, _, _, rfl, _, _, rfl, rfl, ⟨by decide, by decide, by decide⟩, _, _, rfl, rfl, ⟨by decide, by decide, by decide⟩, _, _, rfl, rfl, wide_mul (a := 250) (b := 250) (by decide +kernel) (by decide +kernel) (by decide) (by decide) (by decide), _, _, rfl, rfl, by show (0 : Int) < _; decide +kernel, ?_⟩
    refine ⟨_, rfl, _, rfl, _, rfl, _, _, rfl, rfl, by show (0 : Int) < _; decide, _, _, rfl, rfl, .inr ⟨by decide, by decide⟩, _, rfl, _, _, rfl, rfl, .inl ⟨by decide, by decide⟩, _, _, rfl, rfl, _, rfl, _, _, rfl, rfl, .inr ⟨_, rfl, _, _, rfl, rfl, .inl ⟨by decide, by decide⟩, _, _, rfl, rfl, _, _, rfl, rfl, by show 3 ≤ sizeLine; decide, fun p hp => ?_⟩⟩
    exact q p _ hp (fun b o e => by rw [upd_ne (ne_of_none e hp)]; exact e) ⟨_, _, _, Int.emod_nonneg _ (by decide +kernel), upd_same⟩

theorem h_law_pick (T : Txt K mg aG dU C CV CM) (D : Df K mg "_law_pick" s__law_pick) (h_law_roll : Has P w K mg base CX0 "_law_roll" 1 ["_law_dice_here", "_law_total"] spRoll) : Has P w K mg base CX0 "_law_pick" 2 ["_law_dice_here", "_law_items"] spPick := by
  refine D.has sc__law_pick (fun vs H Q E h => ?_) (fun kV doc pm an cdv ct us hl => match us, hl with | [_, _], _ => rfl) (fun f cdv A outer s H vs Q E gd hr h => ?_)
  · obtain ⟨p, q, xs, rfl, _⟩ := h
    rfl
  · obtain ⟨p, q, xs, rfl, hd, hx, ne, l0, l1, k⟩ := h
    refine ⟨_, (pss_one
 (ps_ret (pe_ix ix_seq (pv 1) (pe_callH h_law_roll gd (hr.mono (by decide)) pass0 (pa_cons (pv 0) (pa_cons (pe_callB call_len_seq (by exact rfl) T.zlen PySem.boot_len (pa_cons (pv 1) pa_nil)) pa_nil))) (fun _ _ => rfl)))), ?_⟩
    have hs : SqL K H q xs ∨ SqT K H q xs := hx.imp SqL.of SqT.of
    refine ⟨_, rfl, _, rfl, _, rfl, _, _, rfl, hs, _, _, rfl, hd, (by omega), Nat.lt_of_le_of_lt (show ((xs.length : Int)).natAbs ≤ 1000 by omega) (by decide), fun r H1 r0 r1 g => ?_⟩
    obtain ⟨j, rfl⟩ : ∃ j : Nat, r = (j : Int) := ⟨r.toNat, by omega⟩
    have hj : j < xs.length := by omega
    have hg : xs[j]? = some xs[j] := List.getElem?_eq_getElem hj
    rcases hx with hx | hx
    · exact .inl ⟨q, xs, _, _, rfl, rfl, SqL.of (g.keep _ _ hx ne), atI_nat hg, k _ _ (List.getElem_mem hj) g⟩
    · exact .inr (.inl ⟨q, xs, _, _, rfl, rfl, SqT.of (g.keep _ _ hx ne), atI_nat hg, k _ _ (List.getElem_mem hj) g⟩)

theorem h_law_limit (D : Df K mg "_law_limit" s__law_limit) : Has P w K mg base CX0 "_law_limit" 1 [] spLimit := by
  refine D.has sc__law_limit (fun vs H Q E h => ?_) (fun kV doc pm an cdv ct us hl => match us, hl with | [], _ => rfl) (fun f cdv A outer s H vs Q E gd hr h => ?_)
  · obtain ⟨rfl, _⟩ := h
    rfl
  · obtain ⟨rfl, q⟩ := h
    refine ⟨_, (pss_one
 (ps_ret (pe_op op_powW (pe_op op_pow pe_int pe_int) pe_int))), ?_⟩
    refine ⟨_, _, rfl, rfl, ⟨by decide, by decide, by decide⟩, _, _, rfl, rfl, ⟨by decide, by decide +kernel⟩, ?_⟩
    have e : (((10 : Int) ^ (50 : Int).toNat) ^ (8 : Int).toNat) = B := by rw [B_eq]; decide +kernel
    show Q (.int (((10 : Int) ^ (50 : Int).toNat) ^ (8 : Int).toNat)) H
    rw [e]
    exact q

theorem h_law_part (D : Df K mg "_law_part" s__law_part) (h_law_limit : Has P w K mg base CX0 "_law_limit" 1 [] spLimit) (h_law_roll : Has P w K mg base CX0 "_law_roll" 1 ["_law_dice_here", "_law_total"] spRoll)
    (h_law_pick : Has P w K mg base CX0 "_law_pick" 2 ["_law_dice_here", "_law_items"] spPick) : Has P w K mg base CX0 "_law_part" 3 ["_law_dice_here"] spPart := by
  refine D.has sc__law_part (fun vs H Q E h => ?_) (fun kV doc pm an cdv ct us hl => match us, hl with | [_], _ => rfl) (fun f cdv A outer s H vs Q E gd hr h => ?_)
  · obtain ⟨p, rfl, _⟩ := h
    rfl
  · obtain ⟨p, rfl, hd, k⟩ := h
    refine ⟨_, (pss_cons
 (ps_set (i := 1) sc__law_part.nd rfl (Or.inl rfl) (pe_op op_sub (pe_op op_sub (pe_call0H h_law_limit gd (hr.mono (by decide)) pass0) pe_int) (pe_callH h_law_roll gd (hr.mono (by decide)) pass0 (pa_cons (pv 0) (pa_cons (pe_op op_pow pe_int pe_int) pa_nil)))))
 (pss_cons
 (ps_set (i := 2) sc__law_part.nd rfl (Or.inl rfl) (pe_lst (pa_cons (pe_callH h_law_roll gd (hr.mono (by decide)) pass0 (pa_cons (pv 0) (pa_cons pe_int pa_nil))) (pa_cons (pe_callH h_law_roll gd (hr.mono (by decide)) pass0 (pa_cons (pv 0) (pa_cons pe_int pa_nil))) (pa_cons (pe_callH h_law_roll gd (hr.mono (by decide)) pass0 (pa_cons (pv 0) (pa_cons (pe_op op_pow pe_int pe_int) pa_nil))) (pa_cons (pv 1) pa_nil))))))
 (pss_cons
 (ps_set (i := 3) sc__law_part.nd rfl (Or.inl rfl) (pe_ix ix_list (pv 2) (pe_callH h_law_pick gd (hr.mono (by decide)) pass0 (pa_cons (pv 0) (pa_cons (pe_lst (pa_cons pe_int (pa_cons pe_int (pa_cons pe_int (pa_cons pe_int (pa_cons pe_int (pa_cons pe_int (pa_cons pe_int pa_nil)))))))) pa_nil))) (fun _ _ => rfl)))
 (pss_one
 (ps_ret (pe_ifExp (pt_cmpR op_eq (pe_callH h_law_roll gd (hr.mono (by decide)) pass0 (pa_cons (pv 0) (pa_cons pe_int pa_nil))) pe_int (nomark _)) (pe_op op_sub pe_int (pv 3)) (pv 3))))))), ?_⟩
    refine ⟨rfl, _, _, rfl, rfl, _, rfl, _, _, rfl, rfl, ⟨by decide, by decide, by decide⟩, p, _, rfl, hd, by decide, by decide, fun r1 H1 a1 b1 g1 => ?_⟩
    refine ⟨_, _, rfl, rfl, _, rfl, p, _, rfl, g1.die, by decide, by decide, fun r2 H2 a2 b2 g2 => ?_⟩
    refine ⟨_, rfl, p, _, rfl, g2.die, by decide, by decide, fun r3 H3 a3 b3 g3 => ?_⟩
    refine ⟨_, rfl, _, _, rfl, rfl, ⟨by decide, by decide, by decide⟩, p, _, rfl, g3.die, by decide, by decide, fun r4 H4 a4 b4 g4 => ?_⟩
    refine ⟨_, rfl, by show 4 ≤ sizeLine; decide, fun L hL => ?_⟩
    have g5 := (((g1.trans g2).trans g3).trans g4).trans (Got.new (o := .lst [.int r2, .int r3, .int r4, .int (B - 1 - r1)]) g4.die hL)
    have nL := g5.die
    refine ⟨_, rfl, _, rfl, by show 7 ≤ sizeLine; decide, fun M hM => ?_⟩
    have g6 := g5.trans (Got.new (o := .lst [.int 0, .int 0, .int 0, .int 1, .int 1, .int 2, .int 3]) g5.die hM)
    refine ⟨p, M, _, rfl, g6.die, .inl upd_same, (g5.die.ne hM).symm, by show 0 < 7; decide, by show 7 ≤ 1000; decide, fun v H7 hv g7 => ?_⟩
    have eL : H7 L = some (.lst [.int r2, .int r3, .int r4, .int (B - 1 - r1)]) := g7.keep _ _ (new_keep upd_same hM) (g4.die.ne hL).symm
    obtain ⟨j, n, rfl, hj, hn⟩ : ∃ (j : Nat) (n : Int), v = .int (j : Int) ∧ [V.int r2, V.int r3, V.int r4, V.int (B - 1 - r1)][j]? = some (.int n) ∧ n.natAbs < 10 ^ 400 := by
      have hB := B_eq
      have c3 : (r4.natAbs : Nat) < 10 ^ 400 := Nat.lt_of_lt_of_le (show r4.natAbs < 10 ^ 30 by have : r4 < 10 ^ 30 := b4; omega) (by decide +kernel)
      have c0 : (r2.natAbs : Nat) < 10 ^ 400 := Nat.lt_of_lt_of_le (show r2.natAbs < 9 by omega) (by decide +kernel)
      have c1 : (r3.natAbs : Nat) < 10 ^ 400 := Nat.lt_of_lt_of_le (show r3.natAbs < 200 by omega) (by decide +kernel)
      have c2 : (B - 1 - r1).natAbs < 10 ^ 400 := by
        have u : r1 < 10 ^ 20 := b1
        have e : (10 : Int) ^ 400 = ((10 ^ 400 : Nat) : Int) := by rw [Int.natCast_pow]; rfl
        have big : 10 ^ 21 ≤ (10 ^ 400 : Nat) := Nat.pow_le_pow_right (by decide) (by decide)
        rw [hB, e]
        generalize (10 ^ 400 : Nat) = N at *
        omega
      simp only [List.mem_cons, List.not_mem_nil, or_false] at hv
      rcases hv with h | h | h | h | h | h | h <;> subst h
      · exact ⟨0, _, rfl, rfl, c0⟩
      · exact ⟨0, _, rfl, rfl, c0⟩
      · exact ⟨0, _, rfl, rfl, c0⟩
      · exact ⟨1, _, rfl, rfl, c1⟩
      · exact ⟨1, _, rfl, rfl, c1⟩
      · exact ⟨2, _, rfl, rfl, c3⟩
      · exact ⟨3, _, rfl, rfl, c2⟩
    refine ⟨_, _, _, _, rfl, rfl, SqL.of eL, atI_nat hj, ?_⟩
    have hs : isIntV (.int n) = true := by rw [int_short]; exact decide_eq_true hn
    refine ⟨_, rfl, p, _, rfl, g7.die, by decide, by decide, fun r8 H8 a8 b8 g8 => ?_⟩
    refine ⟨rfl, _, rfl, ?_⟩
    have gg := (g6.trans g7).trans g8
    refine ite2 (fun _ => ?_) (fun _ => ?_)
    · exact ⟨_, rfl, _, _, rfl, rfl, k _ _ (by rw [int_short, Int.zero_sub, Int.natAbs_neg]; exact decide_eq_true hn) gg⟩
    · exact ⟨_, rfl, k _ _ hs gg⟩


theorem nm_sq {t : Bool} : decide (V.str (nm t) = V.str "square") = !t := by cases t <;> decide +kernel
theorem nm_tr {t : Bool} : decide (V.str (nm t) = V.str "triangle") = t := by cases t <;> decide +kernel

theorem h_law_around (D : Df K mg "_law_around" s__law_around) : Has P w K mg base CX0 "_law_around" 1 ["_law_plain"] spAround := by
  refine D.has sc__law_around (fun vs H Q E h => ?_) (fun kV doc pm an cdv ct us hl => match us, hl with | [_], _ => rfl) (fun f cdv A outer s H vs Q E gd hr h => ?_)
  · obtain ⟨q, t, rfl, _⟩ := h
    rfl
  · obtain ⟨q, t, rfl, hq, k⟩ := h
    have hu := hr.units
    refine ⟨_, (pss_one
 (ps_ret (pe_ifExp (pt_cmpR op_eq (pe_dget (Nat.lt_of_le_of_lt (Nat.add_le_add_left (by decide) _) hu) (pv 0) pe_str (fun _ _ => rfl)) pe_str (nomark _)) pe_int pe_int))), ?_⟩
    refine ⟨_, rfl, _, _, rfl, hq.get, rfl, _, rfl, ?_⟩
    rw [nm_sq]
    cases t with
    | false => exact iteT k
    | true => exact iteF k

theorem h_law_unit (D : Df K mg "_law_unit" s__law_unit) : Has P w K mg base CX0 "_law_unit" 1 ["_law_plain", "_law_direction"] (spUnitL K) := by
  refine D.has sc__law_unit (fun vs H Q E h => ?_) (fun kV doc pm an cdv ct us hl => match us, hl with | [_, _], _ => rfl) (fun f cdv A outer s H vs Q E gd hr h => ?_)
  · obtain ⟨q, t, n, rfl, _⟩ := h
    rfl
  · obtain ⟨q, t, n, rfl, hq, k⟩ := h
    have hu := hr.units
    refine ⟨_, (pss_cons
 (ps_if (pt_cmpR op_eq (pe_dget (Nat.lt_of_le_of_lt (Nat.add_le_add_left (by decide) _) hu) (pv 0) pe_str (fun _ _ => rfl)) pe_str (nomark _)) (pss_one
 (ps_ret (pe_ix ix_list (pe_lst (pa_cons (pe_tup (pa_cons pe_int (pa_cons pe_int pa_nil))) (pa_cons (pe_tup (pa_cons pe_int (pa_cons pe_int pa_nil))) (pa_cons (pe_tup (pa_cons (pe_op op_sub pe_int pe_int) (pa_cons pe_int pa_nil))) (pa_cons (pe_tup (pa_cons pe_int (pa_cons (pe_op op_sub pe_int pe_int) pa_nil))) pa_nil))))) (pe_op op_mod (pv 1) pe_int) (fun _ _ => rfl)))) pss_nil)
 (pss_one
 (ps_ret (pe_ix ix_list (pe_lst (pa_cons (pe_tup (pa_cons pe_int (pa_cons pe_int pa_nil))) (pa_cons (pe_tup (pa_cons pe_int (pa_cons pe_int pa_nil))) (pa_cons (pe_tup (pa_cons (pe_op op_sub pe_int pe_int) (pa_cons pe_int pa_nil))) (pa_cons (pe_tup (pa_cons (pe_op op_sub pe_int pe_int) (pa_cons pe_int pa_nil))) (pa_cons (pe_tup (pa_cons pe_int (pa_cons (pe_op op_sub pe_int pe_int) pa_nil))) (pa_cons (pe_tup (pa_cons pe_int (pa_cons (pe_op op_sub pe_int pe_int) pa_nil))) pa_nil))))))) (pe_op op_mod (pv 1) pe_int) (fun _ _ => rfl))))), ?_⟩
    refine ⟨_, rfl, _, _, rfl, hq.get, rfl, _, rfl, ?_⟩
    rw [nm_sq]
    cases t with
    | false =>
      refine iteT ?_
      refine ⟨by show 2 ≤ sizeLine; decide, fun t0 h0 => ?_⟩
      refine ⟨by show 2 ≤ sizeLine; decide, fun t1 h1 => ?_⟩
      refine ⟨_, _, rfl, rfl, by show 2 ≤ sizeLine; decide, fun t2 h2 => ?_⟩
      refine ⟨_, _, rfl, rfl, by show 2 ≤ sizeLine; decide, fun t3 h3 => ?_⟩
      refine ⟨by show 4 ≤ sizeLine; decide, fun L hL => ⟨_, rfl, _, _, rfl, rfl, by show (0 : Int) < _; decide, ?_⟩⟩
      have hn : n % 4 = 0 ∨ n % 4 = 1 ∨ n % 4 = 2 ∨ n % 4 = 3 := by omega
      rcases hn with hn | hn | hn | hn
      · refine ⟨L, _, (0 : Int), _, rfl, by show V.int (n % 4) = _; rw [hn], SqL.of upd_same, atI_nat (j := 0) rfl, k t0 _ (((((Same.new h0).trans (Same.new h1)).trans (Same.new h2)).trans (Same.new h3)).trans (Same.new hL)) ?_⟩
        rw [show uni false n = (1, 0) from by unfold uni; show (ux false).getD (n % 4).toNat _ = _; rw [hn]; rfl]
        exact PAt.of (new_keep (new_keep (new_keep (new_keep upd_same h1) h2) h3) hL)
      · refine ⟨L, _, (1 : Int), _, rfl, by show V.int (n % 4) = _; rw [hn], SqL.of upd_same, atI_nat (j := 1) rfl, k t1 _ (((((Same.new h0).trans (Same.new h1)).trans (Same.new h2)).trans (Same.new h3)).trans (Same.new hL)) ?_⟩
        rw [show uni false n = (0, 1) from by unfold uni; show (ux false).getD (n % 4).toNat _ = _; rw [hn]; rfl]
        exact PAt.of (new_keep (new_keep (new_keep upd_same h2) h3) hL)
      · refine ⟨L, _, (2 : Int), _, rfl, by show V.int (n % 4) = _; rw [hn], SqL.of upd_same, atI_nat (j := 2) rfl, k t2 _ (((((Same.new h0).trans (Same.new h1)).trans (Same.new h2)).trans (Same.new h3)).trans (Same.new hL)) ?_⟩
        rw [show uni false n = (-1, 0) from by unfold uni; show (ux false).getD (n % 4).toNat _ = _; rw [hn]; rfl]
        exact PAt.of (new_keep (new_keep upd_same h3) hL)
      · refine ⟨L, _, (3 : Int), _, rfl, by show V.int (n % 4) = _; rw [hn], SqL.of upd_same, atI_nat (j := 3) rfl, k t3 _ (((((Same.new h0).trans (Same.new h1)).trans (Same.new h2)).trans (Same.new h3)).trans (Same.new hL)) ?_⟩
        rw [show uni false n = (0, -1) from by unfold uni; show (ux false).getD (n % 4).toNat _ = _; rw [hn]; rfl]
        exact PAt.of (new_keep upd_same hL)
    | true =>
      refine iteF ?_
      refine ⟨by show 2 ≤ sizeLine; decide, fun t0 h0 => ?_⟩
      refine ⟨by show 2 ≤ sizeLine; decide, fun t1 h1 => ?_⟩
      refine ⟨_, _, rfl, rfl, by show 2 ≤ sizeLine; decide, fun t2 h2 => ?_⟩
      refine ⟨_, _, rfl, rfl, by show 2 ≤ sizeLine; decide, fun t3 h3 => ?_⟩
      refine ⟨_, _, rfl, rfl, by show 2 ≤ sizeLine; decide, fun t4 h4 => ?_⟩
      refine ⟨_, _, rfl, rfl, by show 2 ≤ sizeLine; decide, fun t5 h5 => ?_⟩
      refine ⟨by show 6 ≤ sizeLine; decide, fun L hL => ⟨_, rfl, _, _, rfl, rfl, by show (0 : Int) < _; decide, ?_⟩⟩
      have hn : n % 6 = 0 ∨ n % 6 = 1 ∨ n % 6 = 2 ∨ n % 6 = 3 ∨ n % 6 = 4 ∨ n % 6 = 5 := by omega
      rcases hn with hn | hn | hn | hn | hn | hn
      · refine ⟨L, _, (0 : Int), _, rfl, by show V.int (n % 6) = _; rw [hn], SqL.of upd_same, atI_nat (j := 0) rfl, k t0 _ (((((((Same.new h0).trans (Same.new h1)).trans (Same.new h2)).trans (Same.new h3)).trans (Same.new h4)).trans (Same.new h5)).trans (Same.new hL)) ?_⟩
        rw [show uni true n = (1, 0) from by unfold uni; show (ux true).getD (n % 6).toNat _ = _; rw [hn]; rfl]
        exact PAt.of (new_keep (new_keep (new_keep (new_keep (new_keep (new_keep upd_same h1) h2) h3) h4) h5) hL)
      · refine ⟨L, _, (1 : Int), _, rfl, by show V.int (n % 6) = _; rw [hn], SqL.of upd_same, atI_nat (j := 1) rfl, k t1 _ (((((((Same.new h0).trans (Same.new h1)).trans (Same.new h2)).trans (Same.new h3)).trans (Same.new h4)).trans (Same.new h5)).trans (Same.new hL)) ?_⟩
        rw [show uni true n = (0, 1) from by unfold uni; show (ux true).getD (n % 6).toNat _ = _; rw [hn]; rfl]
        exact PAt.of (new_keep (new_keep (new_keep (new_keep (new_keep upd_same h2) h3) h4) h5) hL)
      · refine ⟨L, _, (2 : Int), _, rfl, by show V.int (n % 6) = _; rw [hn], SqL.of upd_same, atI_nat (j := 2) rfl, k t2 _ (((((((Same.new h0).trans (Same.new h1)).trans (Same.new h2)).trans (Same.new h3)).trans (Same.new h4)).trans (Same.new h5)).trans (Same.new hL)) ?_⟩
        rw [show uni true n = (-1, 1) from by unfold uni; show (ux true).getD (n % 6).toNat _ = _; rw [hn]; rfl]
        exact PAt.of (new_keep (new_keep (new_keep (new_keep upd_same h3) h4) h5) hL)
      · refine ⟨L, _, (3 : Int), _, rfl, by show V.int (n % 6) = _; rw [hn], SqL.of upd_same, atI_nat (j := 3) rfl, k t3 _ (((((((Same.new h0).trans (Same.new h1)).trans (Same.new h2)).trans (Same.new h3)).trans (Same.new h4)).trans (Same.new h5)).trans (Same.new hL)) ?_⟩
        rw [show uni true n = (-1, 0) from by unfold uni; show (ux true).getD (n % 6).toNat _ = _; rw [hn]; rfl]
        exact PAt.of (new_keep (new_keep (new_keep upd_same h4) h5) hL)
      · refine ⟨L, _, (4 : Int), _, rfl, by show V.int (n % 6) = _; rw [hn], SqL.of upd_same, atI_nat (j := 4) rfl, k t4 _ (((((((Same.new h0).trans (Same.new h1)).trans (Same.new h2)).trans (Same.new h3)).trans (Same.new h4)).trans (Same.new h5)).trans (Same.new hL)) ?_⟩
        rw [show uni true n = (0, -1) from by unfold uni; show (ux true).getD (n % 6).toNat _ = _; rw [hn]; rfl]
        exact PAt.of (new_keep (new_keep upd_same h5) hL)
      · refine ⟨L, _, (5 : Int), _, rfl, by show V.int (n % 6) = _; rw [hn], SqL.of upd_same, atI_nat (j := 5) rfl, k t5 _ (((((((Same.new h0).trans (Same.new h1)).trans (Same.new h2)).trans (Same.new h3)).trans (Same.new h4)).trans (Same.new h5)).trans (Same.new hL)) ?_⟩
        rw [show uni true n = (1, -1) from by unfold uni; show (ux true).getD (n % 6).toNat _ = _; rw [hn]; rfl]
        exact PAt.of (new_keep upd_same hL)

theorem h_law_times (D : Df K mg "_law_times" s__law_times) : Has P w K mg base CX0 "_law_times" 1 ["_law_plain", "_law_one", "_law_other"] (spTimesL K) := by
  refine D.has sc__law_times (fun vs H Q E h => ?_) (fun kV doc pm an cdv ct us hl => match us, hl with | [_, _, _], _ => rfl) (fun f cdv A outer s H vs Q E gd hr h => ?_)
  · obtain ⟨q, t, a, b, u, v, rfl, _⟩ := h
    rfl
  · obtain ⟨q, t, a, b, u, v, rfl, hq, pu, pv', su, sv, k⟩ := h
    have hu := hr.units
    refine ⟨_, (pss_cons
 (ps_set (i := 3) sc__law_times.nd rfl (Or.inl rfl) (pe_op op_mulW (pe_ix ix_tup (pv 1) pe_int (fun _ _ => rfl)) (pe_ix ix_tup (pv 2) pe_int (fun _ _ => rfl))))
 (pss_cons
 (ps_set (i := 4) sc__law_times.nd rfl (Or.inl rfl) (pe_ifExp (pt_cmpR op_eq (pe_dget (Nat.lt_of_le_of_lt (Nat.add_le_add_left (by decide) _) hu) (pv 0) pe_str (fun _ _ => rfl)) pe_str (nomark _)) (pv 3) pe_int))
 (pss_one
 (ps_ret (pe_tup (pa_cons (pe_op op_sub (pe_op op_mulW (pe_ix ix_tup (pv 1) pe_int (fun _ _ => rfl)) (pe_ix ix_tup (pv 2) pe_int (fun _ _ => rfl))) (pv 3)) (pa_cons (pe_op op_add (pe_op op_add (pe_op op_mulW (pe_ix ix_tup (pv 1) pe_int (fun _ _ => rfl)) (pe_ix ix_tup (pv 2) pe_int (fun _ _ => rfl))) (pe_op op_mulW (pe_ix ix_tup (pv 1) pe_int (fun _ _ => rfl)) (pe_ix ix_tup (pv 2) pe_int (fun _ _ => rfl)))) (pv 4)) pa_nil))))))), ?_⟩
    refine ⟨_, rfl, _, _, _, _, rfl, rfl, pu, atI_nat (j := 1) rfl, _, rfl, _, _, _, _, rfl, rfl, pv', atI_nat (j := 1) rfl, _, _, rfl, rfl, sm_mul su.2 sv.2, ?_⟩
    refine ⟨_, rfl, _, _, rfl, hq.get, rfl, _, rfl, ?_⟩
    rw [nm_tr]
    cases t with
    | true =>
      refine iteT ⟨_, rfl, ?_⟩
      refine ⟨_, rfl, _, _, _, _, rfl, rfl, pu, atI_nat (j := 0) rfl, _, rfl, _, _, _, _, rfl, rfl, pv', atI_nat (j := 0) rfl, _, _, rfl, rfl, sm_mul su.1 sv.1, _, rfl, _, _, rfl, rfl, ?_⟩
      refine ⟨_, rfl, _, _, _, _, rfl, rfl, pu, atI_nat (j := 0) rfl, _, rfl, _, _, _, _, rfl, rfl, pv', atI_nat (j := 1) rfl, _, _, rfl, rfl, sm_mul su.1 sv.2, _, rfl, _, _, _, _, rfl, rfl, pu, atI_nat (j := 1) rfl, _, rfl, _, _, _, _, rfl, rfl, pv', atI_nat (j := 0) rfl, _, _, rfl, rfl, sm_mul su.2 sv.1, _, _, rfl, rfl, _, rfl, _, _, rfl, rfl, by show 2 ≤ sizeLine; decide, fun p hp => ?_⟩
      have z := k p hp
      unfold mul sl at z
      rw [Int.one_mul] at z
      exact z
    | false =>
      refine iteF ?_
      refine ⟨_, rfl, _, _, _, _, rfl, rfl, pu, atI_nat (j := 0) rfl, _, rfl, _, _, _, _, rfl, rfl, pv', atI_nat (j := 0) rfl, _, _, rfl, rfl, sm_mul su.1 sv.1, _, rfl, _, _, rfl, rfl, ?_⟩
      refine ⟨_, rfl, _, _, _, _, rfl, rfl, pu, atI_nat (j := 0) rfl, _, rfl, _, _, _, _, rfl, rfl, pv', atI_nat (j := 1) rfl, _, _, rfl, rfl, sm_mul su.1 sv.2, _, rfl, _, _, _, _, rfl, rfl, pu, atI_nat (j := 1) rfl, _, rfl, _, _, _, _, rfl, rfl, pv', atI_nat (j := 0) rfl, _, _, rfl, rfl, sm_mul su.2 sv.1, _, _, rfl, rfl, _, rfl, _, _, rfl, rfl, by show 2 ≤ sizeLine; decide, fun p hp => ?_⟩
      have z := k p hp
      unfold mul sl at z
      rw [Int.zero_mul] at z
      exact z

theorem h_law_plus (D : Df K mg "_law_plus" s__law_plus) : Has P w K mg base CX0 "_law_plus" 1 ["_law_one", "_law_other"] (spPlus K) := by
  refine D.has sc__law_plus (fun vs H Q E h => ?_) (fun kV doc pm an cdv ct us hl => match us, hl with | [_, _], _ => rfl) (fun f cdv A outer s H vs Q E gd hr h => ?_)
  · obtain ⟨a, b, u, v, rfl, _⟩ := h
    rfl
  · obtain ⟨a, b, u, v, rfl, pu, pv', k⟩ := h
    refine ⟨_, (pss_one
 (ps_ret (pe_tup (pa_cons (pe_op op_add (pe_ix ix_tup (pv 0) pe_int (fun _ _ => rfl)) (pe_ix ix_tup (pv 1) pe_int (fun _ _ => rfl))) (pa_cons (pe_op op_add (pe_ix ix_tup (pv 0) pe_int (fun _ _ => rfl)) (pe_ix ix_tup (pv 1) pe_int (fun _ _ => rfl))) pa_nil))))), ?_⟩
    exact ⟨_, rfl, _, _, _, _, rfl, rfl, pu, atI_nat (j := 0) rfl, _, rfl, _, _, _, _, rfl, rfl, pv', atI_nat (j := 0) rfl, _, _, rfl, rfl, _, rfl, _, _, _, _, rfl, rfl, pu, atI_nat (j := 1) rfl, _, rfl, _, _, _, _, rfl, rfl, pv', atI_nat (j := 1) rfl, _, _, rfl, rfl, by show 2 ≤ sizeLine; decide, fun p hp => k p hp⟩

theorem h_law_norm (D : Df K mg "_law_norm" s__law_norm) : Has P w K mg base CX0 "_law_norm" 1 ["_law_plain", "_law_point"] (spNormL K) := by
  refine D.has sc__law_norm (fun vs H Q E h => ?_) (fun kV doc pm an cdv ct us hl => match us, hl with | [_, _], _ => rfl) (fun f cdv A outer s H vs Q E gd hr h => ?_)
  · obtain ⟨q, t, a, u, rfl, _⟩ := h
    rfl
  · obtain ⟨q, t, a, u, rfl, hq, pu, su, k⟩ := h
    have hu := hr.units
    refine ⟨_, (pss_cons
 (ps_set (i := 2) sc__law_norm.nd rfl (Or.inl rfl) (pe_ifExp (pt_cmpR op_eq (pe_dget (Nat.lt_of_le_of_lt (Nat.add_le_add_left (by decide) _) hu) (pv 0) pe_str (fun _ _ => rfl)) pe_str (nomark _)) (pe_op op_mulW (pe_ix ix_tup (pv 1) pe_int (fun _ _ => rfl)) (pe_ix ix_tup (pv 1) pe_int (fun _ _ => rfl))) pe_int))
 (pss_one
 (ps_ret (pe_op op_add (pe_op op_add (pe_op op_mulW (pe_ix ix_tup (pv 1) pe_int (fun _ _ => rfl)) (pe_ix ix_tup (pv 1) pe_int (fun _ _ => rfl))) (pe_op op_mulW (pe_ix ix_tup (pv 1) pe_int (fun _ _ => rfl)) (pe_ix ix_tup (pv 1) pe_int (fun _ _ => rfl)))) (pv 2))))), ?_⟩
    refine ⟨_, rfl, _, _, rfl, hq.get, rfl, _, rfl, ?_⟩
    rw [nm_tr]
    cases t with
    | true =>
      refine iteT ⟨_, rfl, _, _, _, _, rfl, rfl, pu, atI_nat (j := 0) rfl, _, rfl, _, _, _, _, rfl, rfl, pu, atI_nat (j := 1) rfl, _, _, rfl, rfl, sm_mul su.1 su.2, ?_⟩
      refine ⟨_, rfl, _, _, _, _, rfl, rfl, pu, atI_nat (j := 0) rfl, _, rfl, _, _, _, _, rfl, rfl, pu, atI_nat (j := 0) rfl, _, _, rfl, rfl, sm_mul su.1 su.1, _, rfl, _, _, _, _, rfl, rfl, pu, atI_nat (j := 1) rfl, _, rfl, _, _, _, _, rfl, rfl, pu, atI_nat (j := 1) rfl, _, _, rfl, rfl, sm_mul su.2 su.2, _, _, rfl, rfl, _, rfl, _, _, rfl, rfl, ?_⟩
      have e : u.1 * u.1 + u.2 * u.2 + u.1 * u.2 = nrm true u := by unfold nrm sl; grind
      have k' : Q (.int (u.1 * u.1 + u.2 * u.2 + u.1 * u.2)) H := by rw [e]; exact k
      exact k'
    | false =>
      refine iteF ⟨_, rfl, _, _, _, _, rfl, rfl, pu, atI_nat (j := 0) rfl, _, rfl, _, _, _, _, rfl, rfl, pu, atI_nat (j := 0) rfl, _, _, rfl, rfl, sm_mul su.1 su.1, _, rfl, _, _, _, _, rfl, rfl, pu, atI_nat (j := 1) rfl, _, rfl, _, _, _, _, rfl, rfl, pu, atI_nat (j := 1) rfl, _, _, rfl, rfl, sm_mul su.2 su.2, _, _, rfl, rfl, _, rfl, _, _, rfl, rfl, ?_⟩
      have e : u.1 * u.1 + u.2 * u.2 + 0 = nrm false u := by unfold nrm sl; grind
      have k' : Q (.int (u.1 * u.1 + u.2 * u.2 + 0)) H := by rw [e]; exact k
      exact k'

theorem h_law_flip (D : Df K mg "_law_flip" s__law_flip) : Has P w K mg base CX0 "_law_flip" 1 ["_law_plain", "_law_place_here"] (spFlipL K) := by
  refine D.has sc__law_flip (fun vs H Q E h => ?_) (fun kV doc pm an cdv ct us hl => match us, hl with | [_, _], _ => rfl) (fun f cdv A outer s H vs Q E gd hr h => ?_)
  · obtain ⟨q, t, a, u, rfl, _⟩ := h
    rfl
  · obtain ⟨q, t, a, u, rfl, hq, pu, k⟩ := h
    have hu := hr.units
    refine ⟨_, (pss_one
 (ps_ret (pe_ifExp (pt_cmpR op_eq (pe_dget (Nat.lt_of_le_of_lt (Nat.add_le_add_left (by decide) _) hu) (pv 0) pe_str (fun _ _ => rfl)) pe_str (nomark _)) (pe_tup (pa_cons (pe_op op_add (pe_ix ix_tup (pv 1) pe_int (fun _ _ => rfl)) (pe_ix ix_tup (pv 1) pe_int (fun _ _ => rfl))) (pa_cons (pe_op op_sub pe_int (pe_ix ix_tup (pv 1) pe_int (fun _ _ => rfl))) pa_nil))) (pe_tup (pa_cons (pe_ix ix_tup (pv 1) pe_int (fun _ _ => rfl)) (pa_cons (pe_op op_sub pe_int (pe_ix ix_tup (pv 1) pe_int (fun _ _ => rfl))) pa_nil)))))), ?_⟩
    refine ⟨_, rfl, _, _, rfl, hq.get, rfl, _, rfl, ?_⟩
    rw [nm_tr]
    cases t with
    | true =>
      refine iteT ⟨_, rfl, _, _, _, _, rfl, rfl, pu, atI_nat (j := 0) rfl, _, rfl, _, _, _, _, rfl, rfl, pu, atI_nat (j := 1) rfl, _, _, rfl, rfl, _, rfl, _, _, _, _, rfl, rfl, pu, atI_nat (j := 1) rfl, _, _, rfl, rfl, by show 2 ≤ sizeLine; decide, fun p hp => ?_⟩
      have z := k p hp
      unfold GL.flip sl at z
      rw [Int.one_mul, ← Int.zero_sub] at z
      exact z
    | false =>
      refine iteF ⟨_, rfl, _, _, _, _, rfl, rfl, pu, atI_nat (j := 0) rfl, _, rfl, _, _, _, _, rfl, rfl, pu, atI_nat (j := 1) rfl, _, _, rfl, rfl, by show 2 ≤ sizeLine; decide, fun p hp => ?_⟩
      have z := k p hp
      unfold GL.flip sl at z
      rw [Int.zero_mul, Int.add_zero, ← Int.zero_sub] at z
      exact z

theorem h_law_place (D : Df K mg "_law_place" s__law_place) (h_law_part : Has P w K mg base CX0 "_law_part" 3 ["_law_dice_here"] spPart) : Has P w K mg base CX0 "_law_place" 4 ["_law_dice_here"] (spPlace K) := by
  refine D.has sc__law_place (fun vs H Q E h => ?_) (fun kV doc pm an cdv ct us hl => match us, hl with | [_], _ => rfl) (fun f cdv A outer s H vs Q E gd hr h => ?_)
  · obtain ⟨p, rfl, _⟩ := h
    rfl
  · obtain ⟨p, rfl, hd, k⟩ := h
    refine ⟨_, (pss_one
 (ps_ret (pe_tup (pa_cons (pe_callH h_law_part gd (hr.mono (by decide)) pass0 (pa_cons (pv 0) pa_nil)) (pa_cons (pe_callH h_law_part gd (hr.mono (by decide)) pass0 (pa_cons (pv 0) pa_nil)) pa_nil))))), ?_⟩
    refine ⟨_, rfl, p, rfl, hd, fun n1 H1 o1 g1 => ⟨_, rfl, p, rfl, g1.die, fun n2 H2 o2 g2 => ⟨by show 2 ≤ sizeLine; decide, fun a ha => ?_⟩⟩⟩
    exact k a (n1, n2) _ ⟨o1, o2⟩ (PAt.of upd_same) ((g1.trans g2).trans (Got.new g2.die ha))

theorem h_law_grid_plain (D : Df K mg "_law_grid_plain" s__law_grid_plain) (h_law_pick : Has P w K mg base CX0 "_law_pick" 2 ["_law_dice_here", "_law_items"] spPick) : Has P w K mg base CX0 "_law_grid_plain" 3 ["_law_dice_here"] spPlain := by
  refine D.has sc__law_grid_plain (fun vs H Q E h => ?_) (fun kV doc pm an cdv ct us hl => match us, hl with | [_], _ => rfl) (fun f cdv A outer s H vs Q E gd hr h => ?_)
  · obtain ⟨p, rfl, _⟩ := h
    rfl
  · obtain ⟨p, rfl, hd, k⟩ := h
    refine ⟨_, (pss_one
 (ps_ret (pe_disp (pps_cons pe_str (pe_callH h_law_pick gd (hr.mono (by decide)) pass0 (pa_cons (pv 0) (pa_cons (pe_lst (pa_cons pe_str (pa_cons pe_str pa_nil))) pa_nil))) pps_nil) (by rfl) (by rfl) (fun z => by cases z) (by decide)))), ?_⟩
    intro q hq
    have g1 := Got.new (o := .dK []) hd hq
    refine ⟨_, rfl, by show 2 ≤ sizeLine; decide, fun l hl => ⟨p, l, _, rfl, (g1.trans (Got.new (o := .lst [.str "square", .str "triangle"]) g1.die hl)).die, .inl upd_same, (g1.die.ne hl).symm, by show 0 < 2; decide, by show 2 ≤ 1000; decide, fun v H' hv g => ?_⟩⟩
    have gg := (g1.trans (Got.new (o := .lst [.str "square", .str "triangle"]) g1.die hl)).trans g
    have qp : q ≠ p := (hd.ne hq).symm
    have e : H' q = some (.dK []) := g.keep _ _ (new_keep upd_same hl) qp
    obtain ⟨t, rfl⟩ : ∃ t, v = .str (nm t) := by
      simp only [List.mem_cons, List.not_mem_nil, or_false] at hv
      rcases hv with h | h <;> subst h
      · exact ⟨false, rfl⟩
      · exact ⟨true, rfl⟩
    exact ⟨e, [(.inr "grid", .str (nm t))], rfl, by show 1 ≤ 15; decide, k q t _ hq qp upd_same (gg.over hd hq _)⟩

theorem h_law_spun (D : Df K mg "_law_spun" s__law_spun) (h_law_around : Has P w K mg base CX0 "_law_around" 1 ["_law_plain"] spAround) (h_law_unit : Has P w K mg base CX0 "_law_unit" 1 ["_law_plain", "_law_direction"] (spUnitL K))
    (h_law_times : Has P w K mg base CX0 "_law_times" 1 ["_law_plain", "_law_one", "_law_other"] (spTimesL K)) : Has P w K mg base CX0 "_law_spun" 2 ["_law_plain", "_law_place_here", "_law_turn"] (spSpun K) := by
  refine D.has sc__law_spun (fun vs H Q E h => ?_) (fun kV doc pm an cdv ct us hl => match us, hl with | [_, _, _], _ => rfl) (fun f cdv A outer s H vs Q E gd hr h => ?_)
  · obtain ⟨q, t, a, u, n, rfl, _⟩ := h
    rfl
  · obtain ⟨q, t, a, u, n, rfl, hq, pu, su, k⟩ := h
    refine ⟨_, (pss_one
 (ps_ret (pe_callH h_law_times gd (hr.mono (by decide)) pass0 (pa_cons (pv 0) (pa_cons (pv 1) (pa_cons (pe_callH h_law_unit gd (hr.mono (by decide)) pass0 (pa_cons (pv 0) (pa_cons (pe_op op_mod (pv 2) (pe_callH h_law_around gd (hr.mono (by decide)) pass0 (pa_cons (pv 0) pa_nil))) pa_nil))) pa_nil)))))), ?_⟩
    refine ⟨_, rfl, _, rfl, _, rfl, _, rfl, _, rfl, q, t, rfl, hq, _, _, rfl, rfl, num_pos, q, t, _, rfl, hq, fun p H' s' hp => ?_⟩
    refine ⟨q, t, a, p, u, _, rfl, s' _ _ hq, pu.same s', hp, su, uni_sm, fun p2 hp2 => ?_⟩
    have e : uni t (n % (num t : Int)) = uni t n := by unfold uni; rw [Int.emod_emod_of_dvd _ (Int.dvd_refl _)]
    rw [e]
    exact k p2 _ (fun b o z => new_keep (s' b o z) hp2) (PAt.of upd_same)
theorem h_law_minus (D : Df K mg "_law_minus" s__law_minus) : Has P w K mg base CX0 "_law_minus" 1 ["_law_one", "_law_other"] (spMinus K) := by
  refine D.has sc__law_minus (fun vs H Q E h => ?_) (fun kV doc pm an cdv ct us hl => match us, hl with | [_, _], _ => rfl) (fun f cdv A outer s H vs Q E gd hr h => ?_)
  · obtain ⟨a, b, u, v, rfl, _⟩ := h
    rfl
  · obtain ⟨a, b, u, v, rfl, pu, pv', k⟩ := h
    refine ⟨_, (pss_one
 (ps_ret (pe_tup (pa_cons (pe_op op_sub (pe_ix ix_tup (pv 0) pe_int (fun _ _ => rfl)) (pe_ix ix_tup (pv 1) pe_int (fun _ _ => rfl))) (pa_cons (pe_op op_sub (pe_ix ix_tup (pv 0) pe_int (fun _ _ => rfl)) (pe_ix ix_tup (pv 1) pe_int (fun _ _ => rfl))) pa_nil))))), ?_⟩
    exact ⟨_, rfl, _, _, _, _, rfl, rfl, pu, atI_nat (j := 0) rfl, _, rfl, _, _, _, _, rfl, rfl, pv', atI_nat (j := 0) rfl, _, _, rfl, rfl, _, rfl, _, _, _, _, rfl, rfl, pu, atI_nat (j := 1) rfl, _, rfl, _, _, _, _, rfl, rfl, pv', atI_nat (j := 1) rfl, _, _, rfl, rfl, by show 2 ≤ sizeLine; decide, fun p hp => k p hp⟩
def spMild (K : PySem.W.Frag) : Sp := fun vs H Q _ => ∃ p, vs = [.ref p] ∧ Die H p ∧ ∀ a u H', Le (10 ^ 190) u → PAt K H' a u → Got p H H' → Q (.ref a) H'
theorem h_law_mild (T : Txt K mg aG dU C CV CM) (D : Df K mg "_law_mild" s__law_mild) (h_law_place : Has P w K mg base CX0 "_law_place" 4 ["_law_dice_here"] (spPlace K)) : Has P w K mg base CX0 "_law_mild" 5 ["_law_dice_here"] (spMild K) := by
  refine D.has sc__law_mild (fun vs H Q E h => ?_) (fun kV doc pm an cdv ct us hl => match us, hl with | [_], _ => rfl) (fun f cdv A outer s H vs Q E gd hr h => ?_)
  · obtain ⟨p, rfl, _⟩ := h
    rfl
  · obtain ⟨p, rfl, hd, k⟩ := h
    refine ⟨_, (pss_cons
 (ps_asg (pe_tup (pa_cons (pe_callH h_law_place gd (hr.mono (by decide)) pass0 (pa_cons (pv 0) pa_nil)) (pa_cons (pe_op op_powW (pe_op op_pow pe_int pe_int) pe_int) pa_nil))) (pg_tup (by rfl) (pgs_cons (pg_name (i := 1) sc__law_mild.nd rfl (Or.inl rfl)) (pgs_cons (pg_name (i := 2) sc__law_mild.nd rfl (Or.inr rfl)) pgs_nil))))
 (pss_one
 (ps_ret (pe_callTy call_tuple_of (by exact rfl) T.ztuple (by decide +kernel) (pa_cons (pe_lc (own := [("_law_part_here", 3)]) (g := gName 3) (tt := tYes) (by rfl) sc__law_mild.nd (pi_tup (pv 1)) (blkOk_by (own := [("_law_part_here", 3)]) (N := N__law_mild) (sc := defScope s__law_mild) (by decide +kernel)) (fun _ _ _ _ _ => pg_name (i := 3) sc__law_mild.nd rfl (Or.inl rfl)) (fun _ _ _ _ _ => pts_nil) (fun _ _ _ _ _ => (pe_op op_mulW (pe_op op_mod (pe_callB call_abs (by exact rfl) T.zabs (by decide +kernel) (pa_cons (pv 3) pa_nil)) (pv 2)) (pe_op op_sub pe_int (pe_op op_mul pe_int (pe_callTy call_int1 (by exact rfl) T.zint (by decide +kernel) (pa_cons (pe_cmpR op_lt (pv 3) pe_int (nomark _)) pa_nil))))))) pa_nil))))), ?_⟩
    refine ⟨_, rfl, p, rfl, hd, fun a u H1 ou pu g1 => ?_⟩
    have eB : (((10 : Int) ^ (38 : Int).toNat) ^ (5 : Int).toNat) = 10 ^ 190 := by decide +kernel
    refine ⟨_, _, rfl, rfl, ⟨by decide, by decide, by decide⟩, _, _, rfl, rfl, ⟨by decide, by decide +kernel⟩, by show 2 ≤ sizeLine; decide, fun S hS => ?_⟩
    refine ⟨S, _, rfl, SqT.of upd_same, rfl, _, _, rfl, _, _, rfl, ?_⟩
    obtain ⟨BB, hBB⟩ : ∃ BB : Int, BB = 10 ^ 190 := ⟨_, rfl⟩
    have eV : ((fun i j : Int => V.int (i ^ j.toNat)) (10 ^ Int.toNat 38) 5) = V.int BB := by rw [hBB, ← eB]
    rw [eV]
    refine ⟨rfl, ?_⟩
    have bpos : 0 < BB := by rw [hBB]; decide +kernel
    have bnat : ∀ x : Int, 0 ≤ x → x < BB → x.natAbs ≤ 10 ^ 190 := fun x h0 h1 => by
      rw [hBB] at h1
      have e : (10 : Int) ^ 190 = ((10 ^ 190 : Nat) : Int) := by rw [Int.natCast_pow]; rfl
      rw [e] at h1
      generalize (10 ^ 190 : Nat) = N at *
      omega
    have bw : BB.natAbs < 2 ^ 700 := by rw [hBB]; decide +kernel
    have s1 : Same H1 (upd H1 S (.tup [.ref a, .int BB])) := Same.new hS
    generalize upd H1 S (.tup [.ref a, .int BB]) = H2 at *
    have g2 := g1.over_same s1
    refine ⟨_, rfl, a, rfl, ⟨_, pu.same s1⟩, fun D hD => lc_tup (a := a) (xs := [.int u.1, .int u.2]) (fun i' H' => Same H2 H' ∧ ∃ acc : List Int, H' D = some (.lst (acc.map V.int)) ∧ acc.length = i' ∧ ∀ x ∈ acc, x.natAbs ≤ 10 ^ 190) ⟨Same.new hD, [], upd_same, rfl, fun _ h => absurd h List.not_mem_nil⟩ (fun i' H' _ h => (pu.same s1).same h.1) ?_ ?_⟩
    · rintro i' y H3 hy ⟨s3, acc, hA, hl, hb⟩
      obtain ⟨n, rfl, _⟩ := pair_at hy
      refine ⟨rfl, ?_⟩
      simp only [tYes, if_true]
      have r0 : 0 ≤ (if n < 0 then -n else n) % BB := Int.emod_nonneg _ (Int.ne_of_gt bpos)
      have r1 := Int.emod_lt_of_pos (if n < 0 then -n else n) bpos
      have rb := bnat _ r0 r1
      refine ⟨_, rfl, n, rfl, _, rfl, _, _, rfl, rfl, bpos, ?_⟩
      refine ⟨_, rfl, _, _, rfl, rfl, .inr ⟨decide (n < 0), rfl, _, _, rfl, rfl, .inl ⟨by decide, by decide⟩, _, _, rfl, rfl, ?_⟩⟩
      have half : ∀ (x : Int) (c : Bool), x.natAbs ≤ 10 ^ 190 → CMulW x (1 - 2 * (if c = true then 1 else 0)) ∧ (x * (1 - 2 * (if c = true then 1 else 0))).natAbs ≤ 10 ^ 190 := fun x c hx => by
        refine ⟨wide_mul (a := 700) (b := 2) (Nat.lt_of_le_of_lt hx (by decide +kernel)) (by cases c <;> decide) (by decide) (by decide) (by decide), ?_⟩
        cases c
        · simpa using hx
        · have : x * (1 - 2 * (if (true : Bool) = true then 1 else 0)) = -x := by simp
          rw [this, Int.natAbs_neg]
          exact hx
      obtain ⟨c1, c2⟩ := half _ (decide (n < 0)) rb
      refine ⟨_, _, rfl, rfl, c1, _, hA, ?_, Same.over s3 hD _, acc ++ [(if n < 0 then -n else n) % BB * (1 - 2 * (if decide (n < 0) = true then 1 else 0))], ?_, ?_, ?_⟩
      · rw [List.length_map, hl]
        exact Nat.lt_of_lt_of_le (show i' < 2 from (List.getElem?_eq_some_iff.mp hy).1) (by decide)
      · rw [upd_same, List.map_append]; rfl
      · rw [List.length_append, hl]; rfl
      · intro x hx
        rcases List.mem_append.mp hx with h | h
        · exact hb x h
        · rw [List.mem_singleton.mp h]; exact c2
    · rintro H3 ⟨s3, acc, hA, hl, hb⟩
      obtain ⟨x, y, rfl⟩ : ∃ x y, acc = [x, y] := by
        match acc, hl with
        | [x, y], _ => exact ⟨x, y, rfl⟩
      refine ⟨D, _, rfl, .inl ⟨SqL.of hA, fun z hz => ?_⟩⟩
      exact k z (x, y) _ ⟨hb x (by simp), hb y (by simp)⟩ (PAt.of upd_same) ((g2.over_same s3).trans (Got.new (g2.over_same s3).die hz))
def spPowOf (K : PySem.W.Frag) : Sp := fun vs H Q _ => ∃ q t a u, ∃ n : Nat, vs = [.ref q, .ref a, .int n] ∧ PlainAt H q t ∧ PAt K H a u ∧ Sm u ∧ (n : Int) < 2 ^ 62 ∧ (∀ i, i ≤ n → Sm (pw t u i)) ∧ ∀ p H', Same H H' → PAt K H' p (pw t u n) → Q (.ref p) H'
theorem h_law_power_of (T : Txt K mg aG dU C CV CM) (D : Df K mg "_law_power_of" s__law_power_of) (h_law_times : Has P w K mg base CX0 "_law_times" 1 ["_law_plain", "_law_one", "_law_other"] (spTimesL K)) : Has P w K mg base CX0 "_law_power_of" 2 ["_law_plain", "_law_place_here", "_law_many"] (spPowOf K) := by
  refine D.has sc__law_power_of (fun vs H Q E h => ?_) (fun kV doc pm an cdv ct us hl => match us, hl with | [_, _, _], _ => rfl) (fun f cdv A outer s H vs Q E gd hr h => ?_)
  · obtain ⟨q, t, a, u, n, rfl, _⟩ := h
    rfl
  · obtain ⟨q, t, a, u, n, rfl, hq, pu, su, ln, sm, k⟩ := h
    refine ⟨_, (pss_cons
 (ps_set (i := 3) sc__law_power_of.nd rfl (Or.inl rfl) (pe_tup (pa_cons pe_int (pa_cons pe_int pa_nil))))
 (pss_cons
 (ps_for PassesOwn.never rfl (pi_range1 (by exact rfl) T.zrange (pa_cons (pv 2) pa_nil)) (pg_name (i := 4) sc__law_power_of.nd rfl (Or.inl rfl)) (pss_one
 (ps_set (i := 3) sc__law_power_of.nd rfl (Or.inl rfl) (pe_callH h_law_times gd (hr.mono (by decide)) pass0 (pa_cons (pv 0) (pa_cons (pv 3) (pa_cons (pv 1) pa_nil)))))))
 (pss_one
 (ps_ret (pv 3))))), ?_⟩
    refine ⟨by show 2 ≤ sizeLine; decide, fun o ho => ?_⟩
    have s1 : Same H (upd H o (.tup [.int 1, .int 0])) := Same.new ho
    have p1 : PAt K (upd H o (.tup [.int 1, .int 0])) o (1, 0) := PAt.of upd_same
    generalize upd H o (.tup [.int 1, .int 0]) = H1 at *
    refine ⟨_, rfl, (n : Int), rfl, by omega, by omega, for_range (lo := 0) (n := n) (fun i σ' H' => ∃ r v4, σ' = [some (.ref q), some (.ref a), some (.int (n : Int)), some (.ref r), v4] ∧ Same H H' ∧ PAt K H' r (pw t u i)) ⟨o, none, rfl, s1, p1⟩ ?_ ?_⟩
    · rintro i _ H2 hi ⟨r, v4, rfl, s2, p2⟩
      refine ⟨_, rfl, _, rfl, _, rfl, q, t, r, a, _, _, rfl, s2 _ _ hq, p2, pu.same s2, sm i (Nat.le_of_lt hi), su, fun z hz => ?_⟩
      exact ⟨z, _, rfl, s2.trans (Same.new hz), PAt.of upd_same⟩
    · rintro _ H2 ⟨r, v4, rfl, s2, p2⟩
      exact ⟨_, rfl, k r H2 s2 p2⟩
def spTold (K : PySem.W.Frag) (C : Addr) (U : Bool → Addr) (CV CM : Addr) : Sp := fun vs H Q _ => ∃ q v a D t u, vs = [.ref q, .ref v, .ref a] ∧ IsV CV CM D ∧ PlainAt H q t ∧ VecAt K C U D H v t u ∧ PAt K H a u ∧ ptOk u ∧ ∀ H', Same H H' → Q (.bl true) H'
theorem h_law_is_told (T : Txt K mg aG dU C CV CM) (dig : PySem.W.nsIn K cStatics "sys.int_max_str_digits" = some none) (c : GCls K C) (vc : ∀ D, IsV CV CM D → VCls K D)
    (vfn : ∀ D f, IsV CV CM D → PySem.W.findIn K (.ref D) "__getitem__" = some (some (.ref f)) → PySem.W.fnIn K f = true) (hm_vitem : ∀ D, IsV CV CM D → HasM P w K mg base CX0 D "__getitem__" 2 ["self", "index"] (spVItem K C U CV CM))
    (hm_vstr : ∀ D, IsV CV CM D → HasM P w K mg base CX0 D "__str__" 2 ["self"] (spVStr K C U CV CM)) (hm_vbool : ∀ D, IsV CV CM D → HasM P w K mg base CX0 D "__bool__" 1 ["self"] (spVBool K C U CV CM))
    (h_law_norm : Has P w K mg base CX0 "_law_norm" 1 ["_law_plain", "_law_point"] (spNormL K)) (D : Df K mg "_law_is_told" s__law_is_told) : Has P w K mg base CX0 "_law_is_told" 5 ["_law_plain", "_law_vector", "_law_place_here"] (spTold K C U CV CM) := by
  refine D.has sc__law_is_told (fun vs H Q E h => ?_) (fun kV doc pm an cdv ct us hl => match us, hl with | [_, _, _], _ => rfl) (fun f cdv A outer s H vs Q E gd hr h => ?_)
  · obtain ⟨q, v, a, D, t, u, rfl, _⟩ := h
    rfl
  · obtain ⟨q, v, a, D, t, u, rfl, iv, hq, hv, pa, o, k⟩ := h
    have hu := hr.units
    refine ⟨_, (pss_cons
 (ps_set (i := 3) sc__law_is_told.nd rfl (Or.inl rfl) (pe_op op_add_str (pe_op op_add_str (pe_callTy call_str_int (by exact rfl) T.zstr (by decide +kernel) (pa_cons (pe_ix ix_tup (pv 2) pe_int (fun _ _ => rfl)) pa_nil)) pe_str) (pe_callTy call_str_int (by exact rfl) T.zstr (by decide +kernel) (pa_cons (pe_ix ix_tup (pv 2) pe_int (fun _ _ => rfl)) pa_nil))))
 (pss_cons
 (ps_set (i := 4) sc__law_is_told.nd rfl (Or.inl rfl) (pe_lst (pa_cons (pe_fld (pe_fld (pv 1) rfl) rfl) (pa_cons (pe_fld (pv 1) rfl) (pa_cons (pe_fld (pv 1) rfl) (pa_cons (pe_ixV hm_vitem gd (hr.mono (by decide)) pass0 (pv 1) pe_int vfn) (pa_cons (pe_ixV hm_vitem gd (hr.mono (by decide)) pass0 (pv 1) pe_int vfn) (pa_cons (pe_callTy (call_strV hm_vstr gd (hr.mono (by decide)) pass0) (by exact rfl) T.zstr (by decide +kernel) (pa_cons (pv 1) pa_nil)) (pa_cons (pe_callTy (call_boolV hm_vbool gd (hr.mono (by decide)) pass0) (by exact rfl) T.zbool (by decide +kernel) (pa_cons (pv 1) pa_nil)) pa_nil)))))))))
 (pss_cons
 (ps_set (i := 5) sc__law_is_told.nd rfl (Or.inl rfl) (pe_lst (pa_cons (pe_dget (Nat.lt_of_le_of_lt (Nat.add_le_add_left (by decide) _) hu) (pv 0) pe_str (fun _ _ => rfl)) (pa_cons (pv 2) (pa_cons (pe_callH h_law_norm gd (hr.mono (by decide)) pass0 (pa_cons (pv 0) (pa_cons (pv 2) pa_nil))) (pa_cons (pe_ix ix_tup (pv 2) pe_int (fun _ _ => rfl)) (pa_cons (pe_ix ix_tup (pv 2) pe_int (fun _ _ => rfl)) (pa_cons (pv 3) (pa_cons (pe_cmpR (op_neD hu) (pv 2) (pe_tup (pa_cons pe_int (pa_cons pe_int pa_nil))) (nomark _)) pa_nil)))))))))
 (pss_one
 (ps_ret (pe_cmpR op_eq (pe_callB (call_reprB dig gd hu) (by exact rfl) T.zrepr (by decide +kernel) (pa_cons (pv 4) pa_nil)) (pe_callB (call_reprB dig gd hu) (by exact rfl) T.zrepr (by decide +kernel) (pa_cons (pv 5) pa_nil)) (nomark _))))))), ?_⟩
    obtain ⟨dv, gv, av, ev, hgv, pv'⟩ := id hv
    obtain ⟨dg, eg⟩ := id hgv
    have h1 : u.1.natAbs < 10 ^ 400 := of_decide_eq_true (by rw [← int_short]; exact o.1)
    have h2 : u.2.natAbs < 10 ^ 400 := of_decide_eq_true (by rw [← int_short]; exact o.2)
    have l1 := len_400 h1
    have l2 := len_400 h2
    have lc : (Str.ofString ",").length = 1 := by decide +kernel
    refine ⟨_, rfl, _, _, _, _, rfl, rfl, pa, atI_nat (j := 0) rfl, u.1, rfl, log_of h1, _, _, rfl, rfl, Nat.le_trans (show _ ≤ 402 by omega) (by decide), ?_⟩
    refine ⟨_, rfl, _, _, _, _, rfl, rfl, pa, atI_nat (j := 1) rfl, u.2, rfl, log_of h2, _, _, rfl, rfl, ?_, ?_⟩
    · rw [Str.length_append]
      exact Nat.le_trans (show _ ≤ 803 by omega) (by decide)
    refine ⟨_, rfl, _, _, _, _, _, rfl, ev, (vc _ iv).cls, (vc _ iv).grid, vF_grid, _, _, _, _, _, rfl, eg, c.cls, c.name, gF_name, ?_⟩
    refine ⟨_, rfl, _, _, _, _, _, rfl, ev, (vc _ iv).cls, (vc _ iv).point, vF_point, _, rfl, _, _, _, _, _, rfl, ev, (vc _ iv).cls, (vc _ iv).norm, vF_norm, ?_⟩
    refine ⟨_, rfl, v, D, _, _, rfl, iv, ev, v, D, t, u, 0, rfl, iv, hv, .inl rfl, ?_⟩
    rw [if_pos rfl]
    refine ⟨_, rfl, v, D, _, _, rfl, iv, ev, v, D, t, u, 1, rfl, iv, hv, .inr rfl, ?_⟩
    rw [if_neg (by decide)]
    refine ⟨_, rfl, v, D, _, _, rfl, iv, ev, v, D, t, u, rfl, iv, hv, o, fun H1 s1 => ⟨_, rfl, ?_⟩⟩
    refine ⟨_, rfl, v, D, _, _, rfl, iv, s1 _ _ ev, v, D, t, u, rfl, iv, hv.same s1, fun H2 s2 => ⟨_, rfl, by show 7 ≤ sizeLine; decide, fun L hL => ?_⟩⟩
    have s12 := s1.trans s2
    have dL : Dp K (upd H2 L (.lst [.str (nm t), .ref av, .int (nrm t u), .int u.1, .int u.2, .str (vText u), .bl (!decide (u = (0, 0)))])) (.ref L) (told6D t u) :=
      .lst (SqL.of upd_same) (.cons (.str _) (.cons (pv'.same (s12.trans (Same.new hL))).dp (.cons (.int _) (.cons (.int _) (.cons (.int _) (.cons (.str _) (.cons (.bl _) .nil)))))))
    have eL : upd H2 L (.lst [.str (nm t), .ref av, .int (nrm t u), .int u.1, .int u.2, .str (vText u), .bl (!decide (u = (0, 0)))]) L = some (.lst [.str (nm t), .ref av, .int (nrm t u), .int u.1, .int u.2, .str (vText u), .bl (!decide (u = (0, 0)))]) := upd_same
    have s3 := s12.trans (Same.new (o := .lst [.str (nm t), .ref av, .int (nrm t u), .int u.1, .int u.2, .str (vText u), .bl (!decide (u = (0, 0)))]) hL)
    generalize upd H2 L (.lst [.str (nm t), .ref av, .int (nrm t u), .int u.1, .int u.2, .str (vText u), .bl (!decide (u = (0, 0)))]) = H3 at *
    refine ⟨_, rfl, _, _, rfl, (show PlainAt H3 q t from s3 _ _ hq).get, _, rfl, _, rfl, _, rfl, q, t, a, u, rfl, s3 _ _ hq, pa.same s3, ptOk_sm o.1 o.2, ?_⟩
    refine ⟨_, rfl, _, _, _, _, rfl, rfl, pa.same s3, atI_nat (j := 0) rfl, _, rfl, _, _, _, _, rfl, rfl, pa.same s3, atI_nat (j := 1) rfl, _, rfl, ?_⟩
    refine ⟨_, rfl, by show 2 ≤ sizeLine; decide, fun z hz => ?_⟩
    have s4 : Same H3 (upd H3 z (.tup [.int 0, .int 0])) := Same.new hz
    have pz : PAt K (upd H3 z (.tup [.int 0, .int 0])) z (0, 0) := PAt.of upd_same
    generalize upd H3 z (.tup [.int 0, .int 0]) = H4 at *
    refine ⟨ptD u, ptD (0, 0), ((pa.same s3).same s4).dp, pz.dp, ptD_shaped _, ptD_shaped _, ?_⟩
    rw [ptD_eqv]
    refine ⟨by show 7 ≤ sizeLine; decide, fun M hM => ?_⟩
    have s5 : Same H4 (upd H4 M (.lst [.str (nm t), .ref a, .int (nrm t u), .int u.1, .int u.2, .str (vText u), .bl (!decide (u = (0, 0)))])) := Same.new hM
    have s345 := s4.trans s5
    obtain ⟨ok, dep, len⟩ := told6D_ok (t := t) o
    refine ⟨_, rfl, L, told6D t u, rfl, ?_, ok, dep, len, _, rfl, M, told6D t u, rfl, ?_, ok, dep, len, rfl, ?_⟩
    · exact .lst (SqL.of (s345 _ _ eL)) (.cons (.str _) (.cons (pv'.same (s3.trans s345)).dp (.cons (.int _) (.cons (.int _) (.cons (.int _) (.cons (.str _) (.cons (.bl _) .nil)))))))
    · exact .lst (SqL.of upd_same) (.cons (.str _) (.cons (pa.same (s3.trans s345)).dp (.cons (.int _) (.cons (.int _) (.cons (.int _) (.cons (.str _) (.cons (.bl _) .nil)))))))
    rw [decide_eq_true rfl]
    exact k _ (s3.trans s345)
end
theorem _root_.GL.Le.padd {u z : Int × Int} {m n : Nat} (hu : Le m u) (hv : Le n z) : Le (m + n) (padd u z) := ⟨by show (u.1 + z.1).natAbs ≤ _; have := hu.1; have := hv.1; omega, by show (u.2 + z.2).natAbs ≤ _; have := hu.2; have := hv.2; omega⟩
theorem _root_.GL.Le.psub {u z : Int × Int} {m n : Nat} (hu : Le m u) (hv : Le n z) : Le (m + n) (psub u z) := ⟨by show (u.1 - z.1).natAbs ≤ _; have := hu.1; have := hv.1; omega, by show (u.2 - z.2).natAbs ≤ _; have := hu.2; have := hv.2; omega⟩
theorem _root_.GL.Le.sm60 {u : Int × Int} {n : Nat} (h : Le n u) (hn : n ≤ 10 ^ 399) : Sm u := ptOk_sm (h.ok60 hn).1 (h.ok60 hn).2
section
variable {P : Program} {w : World} {K : PySem.W.Frag} {mg : Str → Option Value} {base : Heap}
variable {aG dU C CV CM D D' : Addr} {U : Bool → Addr} {us : Bool → List Addr} {t t' r neg : Bool} {u z : Int × Int} {H : Hp} {Q : VK} {E : XK} {sp : Sp} {v v' : Addr} {y : V}
theorem bin_go (hv : VecAt K C U D H v t u) (hw : VecAt K C U D' H v' t z) (iv : IsV CV CM D) (iw : IsV CV CM D') (h : sp [.ref v, .ref v'] H Q E) : rBinV (IsV CV CM) sp E (.ref v) (.ref v') H Q := by
  obtain ⟨_, _, _, e1, _⟩ := hv
  obtain ⟨_, _, _, e2, _⟩ := hw
  exact ⟨v, v', D, D', _, _, _, _, rfl, rfl, iv, iw, e1, e2, h⟩
theorem one_go (hv : VecAt K C U D H v t u) (iv : IsV CV CM D) (h : sp [.ref v] H Q E) : rOneV (IsV CV CM) sp E [.ref v] H Q := by
  obtain ⟨_, _, _, e1, _⟩ := hv
  exact ⟨v, D, _, _, rfl, iv, e1, h⟩
theorem nf_v (vi : VIs K C CV CM) (h : (D = CM ∧ (D' = CM ∨ D' = CV)) ∨ (D = CV ∧ D' = CV)) : PySem.W.notFirst K D (.ref D') = true := by
  rcases h with ⟨rfl, rfl | rfl⟩ | ⟨rfl, rfl⟩
  · exact nf_self
  · unfold PySem.W.notFirst
    rw [vi.vm]
    simp
  · exact nf_self
theorem eq_go (hv : VecAt K C U D H v t u) (iv : IsV CV CM D) (o : VOpd K C U CV CM H t u y r) {T : Value} (ty : TyX K H y T) (nf : PySem.W.notFirst K D T = true) (q : Q (.bl (neg != r)) H) : rEqV K (IsV CV CM) (spVEq K C U CV CM) E neg (.ref v) y H Q := by
  obtain ⟨_, _, _, e1, _⟩ := id hv
  exact ⟨v, D, _, _, T, rfl, iv, e1, ty, nf, v, D, t, u, y, r, rfl, iv, hv, o, r, rfl, q⟩
theorem eqv_go (vi : VIs K C CV CM) (vc : ∀ D, IsV CV CM D → VCls K D) (hv : VecAt K C U D H v t u) (hw : VecAt K C U D' H v' t' z) (iv : IsV CV CM D) (iw : IsV CV CM D') (h : (D = CM ∧ (D' = CM ∨ D' = CV)) ∨ (D = CV ∧ D' = CV)) (hr : r = (t == t' && decide (u = z)))
    (q : Q (.bl (neg != r)) H) : rEqV K (IsV CV CM) (spVEq K C U CV CM) E neg (.ref v) (.ref v') H Q :=
  eq_go hv iv (.inl ⟨v', D', t', z, rfl, iw, hw, hr⟩) (hw.ty (vi.is iw) (vc _ iw).cls) (nf_v vi h) q
theorem mk_vec2 {D : Addr} {H1 : Hp} {g a : Addr} {ok : Int × Int → Prop} {R : Addr → Hp → Prop} (hg : GridAt C U H1 g t) (hp : PAt K H1 a u) (o : ok u) (k : ∀ r H', H1 r = none → Same H1 H' → VecAt K C U D H' r t u → R r H') :
    ∀ x dx, H1 x = none → H1 dx = none → dx ≠ x → spVInit K C U D ok (.ref x :: ([.ref g, .ref a] ++ [])) (upd (upd H1 dx (.own x)) x (.ins D dx [])) (fun v H2 => v = .non ∧ R x H2) E := by
  intro x dx hx hdx ne
  have s1 : Same H1 (upd (upd H1 dx (.own x)) x (.ins D dx [])) := (Same.new hdx).trans (Same.new (by rw [upd_ne ne.symm]; exact hx))
  refine ⟨x, dx, g, a, t, u, rfl, upd_same, hg.same s1, hp.same s1, o, fun H' hk e => ⟨rfl, ?_⟩⟩
  have s2 : Same H1 H' := same_made hx hdx hk
  exact k x H' hx s2 ⟨dx, g, a, e, hg.same s2, hp.same s2⟩
theorem h_law_sums_right (T : Txt K mg aG dU C CV CM) (c : GCls K C) (vi : VIs K C CV CM) (vcs : ∀ D, IsV CV CM D → VCls K D) (bk_add : ∀ C D, IsV CV CM C → IsV CV CM D → BinK K C D .Add) (bk_sub : ∀ C D, IsV CV CM C → IsV CV CM D → BinK K C D .Sub) (bk_mul : ∀ C D, IsV CV CM C → IsV CV CM D → BinK K C D .Mult)
    (hm_vadd : ∀ D, IsV CV CM D → HasM P w K mg base CX0 D "__add__" 4 ["self", "other"] (spVBin K C U CV CM (fun _ a b => padd a b))) (hm_vsub : ∀ D, IsV CV CM D → HasM P w K mg base CX0 D "__sub__" 4 ["self", "other"] (spVBin K C U CV CM (fun _ a b => psub a b)))
    (hm_vmul : ∀ D, IsV CV CM D → HasM P w K mg base CX0 D "__mul__" 4 ["self", "other"] (spVBin K C U CV CM mul)) (hm_vneg : ∀ D, IsV CV CM D → HasM P w K mg base CX0 D "__neg__" 4 ["self"] (spVUn K C U CV CM (fun _ u => psub (0, 0) u)))
    (hm_vmirrored : ∀ D, IsV CV CM D → HasM P w K mg base CX0 D "mirrored" 4 ["self"] (spVUn K C U CV CM flip)) (hm_vturned : ∀ D, IsV CV CM D → HasM P w K mg base CX0 D "turned" 4 ["self", "turn"] (spVTurn K C U CV CM)) (hm_veq : ∀ D, IsV CV CM D → HasM P w K mg base CX0 D "__eq__" 2 ["self", "other"] (spVEq K C U CV CM))
    (hVector : HasG P w K mg base "Vector" CV 4 ["self", "grid", "point"] (spVInit K C U CV ptOk)) (h_law_is_told : Has P w K mg base CX0 "_law_is_told" 5 ["_law_plain", "_law_vector", "_law_place_here"] (spTold K C U CV CM)) (h_law_mild : Has P w K mg base CX0 "_law_mild" 5 ["_law_dice_here"] (spMild K))
    (h_law_part : Has P w K mg base CX0 "_law_part" 3 ["_law_dice_here"] spPart) (h_law_plus : Has P w K mg base CX0 "_law_plus" 1 ["_law_one", "_law_other"] (spPlus K)) (h_law_minus : Has P w K mg base CX0 "_law_minus" 1 ["_law_one", "_law_other"] (spMinus K)) (h_law_times : Has P w K mg base CX0 "_law_times" 1 ["_law_plain", "_law_one", "_law_other"] (spTimesL K))
    (h_law_flip : Has P w K mg base CX0 "_law_flip" 1 ["_law_plain", "_law_place_here"] (spFlipL K)) (h_law_spun : Has P w K mg base CX0 "_law_spun" 2 ["_law_plain", "_law_place_here", "_law_turn"] (spSpun K)) (D : Df K mg "_law_sums_right" s__law_sums_right) :
    Has P w K mg base CX0 "_law_sums_right" 6 ["_law_dice_here", "_law_plain", "_law_grid"] (spTurns C U) := by
  have vcls : ∀ D, IsV CV CM D → Cls K D := fun D d => (vcs D d).cls
  have veqc : ∀ D, IsV CV CM D → EqC K D := fun D d => (vi.is d).eq
  have iV : IsV CV CM CV := .inl rfl
  have iM : IsV CV CM CM := .inr rfl
  refine D.has sc__law_sums_right (fun vs H Q E h => ?_) (fun kV doc pm an cdv ct us hl => match us, hl with | [_, _, _], _ => rfl) (fun f cdv A outer s H vs Q E gd hr h => ?_)
  · obtain ⟨p, q, g, t, rfl, _⟩ := h
    rfl
  · obtain ⟨p, q, g, t, rfl, hd, hq, hg, k⟩ := h
    refine ⟨_, (pss_cons
 (ps_par (i := 3) (j := 4) (by rfl) sc__law_sums_right.nd rfl rfl (by decide) rfl rfl (pa_cons (pe_callH h_law_mild gd (hr.mono (by decide)) pass0 (pa_cons (pv 0) pa_nil)) (pa_cons (pe_callH h_law_mild gd (hr.mono (by decide)) pass0 (pa_cons (pv 0) pa_nil)) pa_nil)) (by rfl))
 (pss_cons
 (ps_par (i := 5) (j := 6) (by rfl) sc__law_sums_right.nd rfl rfl (by decide) rfl rfl (pa_cons (pe_makeG hVector gd (hr.mono (by decide)) pass0 (pa_cons (pv 2) (pa_cons (pv 3) pa_nil))) (pa_cons (pe_makeG hVector gd (hr.mono (by decide)) pass0 (pa_cons (pv 2) (pa_cons (pv 4) pa_nil))) pa_nil)) (by rfl))
 (pss_cons
 (ps_if (PW.pt (pw_or (pt_not (pt_val (pe_callH h_law_is_told gd (hr.mono (by decide)) pass0 (pa_cons (pv 1) (pa_cons (pv 5) (pa_cons (pv 3) pa_nil)))))) (pw_or1 (pt_not (pt_val (pe_callH h_law_is_told gd (hr.mono (by decide)) pass0 (pa_cons (pv 1) (pa_cons (pe_op (op_binV (m := "__add__") (by decide +kernel) hm_vadd bk_add gd (hr.mono (by decide)) pass0) (pv 5) (pv 6)) (pa_cons (pe_callH h_law_plus gd (hr.mono (by decide)) pass0 (pa_cons (pv 3) (pa_cons (pv 4) pa_nil))) pa_nil))))))))) (pss_one
 (ps_ret pe_bl)) pss_nil)
 (pss_cons
 (ps_if (pt_not (pt_val (pe_callH h_law_is_told gd (hr.mono (by decide)) pass0 (pa_cons (pv 1) (pa_cons (pe_op (op_binV (m := "__sub__") (by decide +kernel) hm_vsub bk_sub gd (hr.mono (by decide)) pass0) (pv 5) (pv 6)) (pa_cons (pe_callH h_law_minus gd (hr.mono (by decide)) pass0 (pa_cons (pv 3) (pa_cons (pv 4) pa_nil))) pa_nil)))))) (pss_one
 (ps_ret pe_bl)) pss_nil)
 (pss_cons
 (ps_if (pt_not (pt_val (pe_callH h_law_is_told gd (hr.mono (by decide)) pass0 (pa_cons (pv 1) (pa_cons (pe_op (op_binV (m := "__mul__") (by decide +kernel) hm_vmul bk_mul gd (hr.mono (by decide)) pass0) (pv 5) (pv 6)) (pa_cons (pe_callH h_law_times gd (hr.mono (by decide)) pass0 (pa_cons (pv 1) (pa_cons (pv 3) (pa_cons (pv 4) pa_nil)))) pa_nil)))))) (pss_one
 (ps_ret pe_bl)) pss_nil)
 (pss_cons
 (ps_if (PW.pt (pw_or (pt_not (pt_val (pe_callH h_law_is_told gd (hr.mono (by decide)) pass0 (pa_cons (pv 1) (pa_cons (pe_un (un_negV hm_vneg gd (hr.mono (by decide)) pass0) (pv 5)) (pa_cons (pe_tup (pa_cons (pe_op op_sub pe_int (pe_ix ix_tup (pv 3) pe_int (fun _ _ => rfl))) (pa_cons (pe_op op_sub pe_int (pe_ix ix_tup (pv 3) pe_int (fun _ _ => rfl))) pa_nil))) pa_nil)))))) (pw_or1 (pt_not (pt_val (pe_callH h_law_is_told gd (hr.mono (by decide)) pass0 (pa_cons (pv 1) (pa_cons (pv 5) (pa_cons (pv 3) pa_nil))))))))) (pss_one
 (ps_ret pe_bl)) pss_nil)
 (pss_cons
 (ps_set (i := 7) sc__law_sums_right.nd rfl (Or.inl rfl) (pe_callH h_law_part gd (hr.mono (by decide)) pass0 (pa_cons (pv 0) pa_nil)))
 (pss_cons
 (ps_if (pt_not (pt_val (pe_callH h_law_is_told gd (hr.mono (by decide)) pass0 (pa_cons (pv 1) (pa_cons (pe_methV (pv 5) vcls (fun D d => ⟨_, hm_vturned D d⟩) gd (hr.mono (by decide)) pass0 (pa_cons (pv 7) pa_nil)) (pa_cons (pe_callH h_law_spun gd (hr.mono (by decide)) pass0 (pa_cons (pv 1) (pa_cons (pv 3) (pa_cons (pv 7) pa_nil)))) pa_nil)))))) (pss_one
 (ps_ret pe_bl)) pss_nil)
 (pss_cons
 (ps_if (PW.pt (pw_or (pt_not (pt_val (pe_callH h_law_is_told gd (hr.mono (by decide)) pass0 (pa_cons (pv 1) (pa_cons (pe_methV0 (pv 5) vcls (fun D d => ⟨_, hm_vmirrored D d⟩) gd (hr.mono (by decide)) pass0) (pa_cons (pe_callH h_law_flip gd (hr.mono (by decide)) pass0 (pa_cons (pv 1) (pa_cons (pv 3) pa_nil))) pa_nil)))))) (pw_or1 (pt_cmpR (op_neV hm_veq veqc gd (hr.mono (by decide)) pass0) (pe_methV0 (pe_methV0 (pv 5) vcls (fun D d => ⟨_, hm_vmirrored D d⟩) gd (hr.mono (by decide)) pass0) vcls (fun D d => ⟨_, hm_vmirrored D d⟩) gd (hr.mono (by decide)) pass0) (pv 5) (nomark _))))) (pss_one
 (ps_ret pe_bl)) pss_nil)
 (pss_one
 (ps_ret (pe_and (pe_cmpR (op_eqV hm_veq gd (hr.mono (by decide)) pass0) (pe_op (op_binV (m := "__sub__") (by decide +kernel) hm_vsub bk_sub gd (hr.mono (by decide)) pass0) (pe_op (op_binV (m := "__add__") (by decide +kernel) hm_vadd bk_add gd (hr.mono (by decide)) pass0) (pv 5) (pv 6)) (pv 6)) (pv 5) (nomark _)) (pe_and (pe_cmpR (op_eqV hm_veq gd (hr.mono (by decide)) pass0) (pe_op (op_binV (m := "__add__") (by decide +kernel) hm_vadd bk_add gd (hr.mono (by decide)) pass0) (pv 5) (pe_un (un_negV hm_vneg gd (hr.mono (by decide)) pass0) (pv 5))) (pe_makeG hVector gd (hr.mono (by decide)) pass0 (pa_cons (pv 2) (pa_cons (pe_tup (pa_cons pe_int (pa_cons pe_int pa_nil))) pa_nil))) (nomark _)) (pe_one (pe_cmpR (op_eqV hm_veq gd (hr.mono (by decide)) pass0) (pe_un (un_negV hm_vneg gd (hr.mono (by decide)) pass0) (pe_un (un_negV hm_vneg gd (hr.mono (by decide)) pass0) (pv 5))) (pv 5) (nomark _)))))))))))))))), ?_⟩
    refine ⟨_, rfl, p, rfl, hd, fun a u H1 lu pu g1 => ⟨_, rfl, p, rfl, g1.die, fun b z H2 lz pz g2 => ⟨_, _, rfl, ?_⟩⟩⟩
    replace pu := pu.got g2 g1.die
    have g12 := g1.trans g2
    have hq2 := hq.got g12 hd
    have hg2 := hg.got g12 hd
    clear g1 g2
    have N399 : (10 ^ 190 : Nat) ≤ 10 ^ 399 := by decide +kernel
    have N2 : (2 * 10 ^ 190 : Nat) ≤ 10 ^ 399 := by decide +kernel
    have N2' : (10 ^ 190 + 10 ^ 190 : Nat) ≤ 10 ^ 399 := by decide +kernel
    have N3 : (3 * (10 ^ 190 * 10 ^ 190) : Nat) ≤ 10 ^ 399 := by decide +kernel
    have N4 : (0 + 10 ^ 190 : Nat) ≤ 10 ^ 399 := by decide +kernel
    have ou := lu.ok60 N399
    have oz := lz.ok60 N399
    refine ⟨_, rfl, _, rfl, ?_⟩
    refine mk_vec2 hg2 pu ou fun v1 H3 n3 s3 hv1 => ?_
    refine ⟨_, rfl, _, rfl, ?_⟩
    refine mk_vec2 (hg2.same s3) (pz.same s3) oz fun v2 H4 n4 s4 hv2 => ⟨_, _, rfl, ?_⟩
    have s34 := s3.trans s4
    have g4 := g12.over_same s34
    have d4 := g4.die
    have kq : ∀ {H'}, Got p H4 H' → PlainAt H' q t := fun g => (show PlainAt H4 q t from s34 _ _ hq2).got g d4
    have kg : ∀ {H'}, Got p H4 H' → GridAt C U H' g t := fun g => (hg2.same s34).got g d4
    have ka : ∀ {H'}, Got p H4 H' → PAt K H' a u := fun g => (pu.same s34).got g d4
    have kb : ∀ {H'}, Got p H4 H' → PAt K H' b z := fun g => (pz.same s34).got g d4
    have k1 : ∀ {H'}, Got p H4 H' → VecAt K C U CV H' v1 t u := fun g => (hv1.same s4).got g d4
    have k2 : ∀ {H'}, Got p H4 H' → VecAt K C U CV H' v2 t z := fun g => hv2.got g d4
    have G0 : Got p H4 H4 := Got.same d4
    refine ⟨_, rfl, _, rfl, _, rfl, q, v1, a, CV, t, u, rfl, iV, kq G0, k1 G0, ka G0, ou, fun H5 s5 => ⟨true, rfl, (iteF ?_ : if (!true) = true then _ else _)⟩⟩
    have G5 := G0.over_same s5
    refine ⟨_, rfl, _, rfl, _, rfl, bin_go (k1 G5) (k2 G5) iV iV ⟨v1, v2, CV, CV, t, u, z, rfl, iV, iV, k1 G5, k2 G5, lu.sm60 N399, lz.sm60 N399, (Le.padd lu lz).sm60 N2', fun r1 H6 n6 s6 w1 => ?_⟩⟩
    have G6 := G5.over_same s6
    refine ⟨_, rfl, _, rfl, a, b, u, z, rfl, ka G6, kb G6, fun x1 nx1 => ?_⟩
    have t1 : Same H6 (upd H6 x1 (.tup [.int (padd u z).1, .int (padd u z).2])) := Same.new nx1
    refine ⟨q, r1, x1, CM, t, padd u z, rfl, iM, kq (G6.over_same t1), w1.same t1, PAt.of upd_same, (Le.padd lu lz).ok60 N2', fun H7 s7 => ⟨true, rfl, (iteF ?_ : if (!true) = true then _ else _)⟩⟩
    have G7 := (G6.over_same t1).over_same s7
    refine ⟨_, rfl, _, rfl, _, rfl, bin_go (k1 G7) (k2 G7) iV iV ⟨v1, v2, CV, CV, t, u, z, rfl, iV, iV, k1 G7, k2 G7, lu.sm60 N399, lz.sm60 N399, (Le.psub lu lz).sm60 N2', fun r2 H8 n8 s8 w2 => ?_⟩⟩
    have G8 := G7.over_same s8
    refine ⟨_, rfl, _, rfl, a, b, u, z, rfl, ka G8, kb G8, fun x2 nx2 => ?_⟩
    have t2 : Same H8 (upd H8 x2 (.tup [.int (psub u z).1, .int (psub u z).2])) := Same.new nx2
    refine ⟨q, r2, x2, CM, t, psub u z, rfl, iM, kq (G8.over_same t2), w2.same t2, PAt.of upd_same, (Le.psub lu lz).ok60 N2', fun H9 s9 => ⟨true, rfl, (iteF ?_ : if (!true) = true then _ else _)⟩⟩
    have G9 := (G8.over_same t2).over_same s9
    refine ⟨_, rfl, _, rfl, _, rfl, bin_go (k1 G9) (k2 G9) iV iV ⟨v1, v2, CV, CV, t, u, z, rfl, iV, iV, k1 G9, k2 G9, lu.sm60 N399, lz.sm60 N399, (lu.mul lz).sm60 N3, fun r3 H10 n10 s10 w3 => ?_⟩⟩
    have G10 := G9.over_same s10
    refine ⟨_, rfl, _, rfl, _, rfl, q, t, a, b, u, z, rfl, kq G10, ka G10, kb G10, lu.sm60 N399, lz.sm60 N399, fun x3 nx3 => ?_⟩
    have t3 : Same H10 (upd H10 x3 (.tup [.int (mul t u z).1, .int (mul t u z).2])) := Same.new nx3
    refine ⟨q, r3, x3, CM, t, mul t u z, rfl, iM, kq (G10.over_same t3), w3.same t3, PAt.of upd_same, (lu.mul lz).ok60 N3, fun H11 s11 => ⟨true, rfl, (iteF ?_ : if (!true) = true then _ else _)⟩⟩
    have G11 := (G10.over_same t3).over_same s11
    have ln : Le (0 + 10 ^ 190) (psub (0, 0) u) := Le.psub (m := 0) ⟨Nat.le_refl 0, Nat.le_refl 0⟩ lu
    refine ⟨_, rfl, _, rfl, one_go (k1 G11) iV ⟨v1, CV, t, u, rfl, iV, k1 G11, lu.sm60 N399, ln.sm60 N4, fun r4 H12 n12 s12 w4 => ?_⟩⟩
    have G12 := G11.over_same s12
    refine ⟨_, rfl, _, _, _, _, rfl, rfl, ka G12, atI_nat (j := 0) rfl, _, _, rfl, rfl, _, rfl, _, _, _, _, rfl, rfl, ka G12, atI_nat (j := 1) rfl, _, _, rfl, rfl, by show 2 ≤ sizeLine; decide, fun x4 nx4 => ?_⟩
    have t4 : Same H12 (upd H12 x4 (.tup [.int (0 - u.1), .int (0 - u.2)])) := Same.new nx4
    refine ⟨q, r4, x4, CM, t, psub (0, 0) u, rfl, iM, kq (G12.over_same t4), w4.same t4, PAt.of upd_same, ln.ok60 N4, fun H13 s13 => ⟨true, rfl, (iteF ?_ : if (!true) = true then _ else _)⟩⟩
    have G13 := (G12.over_same t4).over_same s13
    refine ⟨_, rfl, _, rfl, _, rfl, q, v1, a, CV, t, u, rfl, iV, kq G13, k1 G13, ka G13, ou, fun H14 s14 => ⟨true, rfl, (iteF ?_ : if (!true) = true then _ else _)⟩⟩
    have G14 := G13.over_same s14
    refine ⟨_, rfl, p, rfl, G14.die, fun m H15 sn g15 => ?_⟩
    have G15 := G14.trans g15
    obtain ⟨_, _, _, e5, _⟩ := k1 G15
    refine ⟨_, rfl, _, rfl, v1, CV, _, _, rfl, iV, e5, rfl, _, rfl, v1, CV, t, u, m, rfl, iV, k1 G15, sn, lu.sm60 N399, (lu.turn).sm60 N2, fun r5 H16 n16 s16 w5 => ?_⟩
    have G16 := G15.over_same s16
    refine ⟨_, rfl, _, rfl, _, rfl, q, t, a, u, m, rfl, kq G16, ka G16, lu.sm60 N399, fun x5 H17 s17 px5 => ?_⟩
    have G17 := G16.over_same s17
    refine ⟨q, r5, x5, CM, t, mul t u (uni t m), rfl, iM, kq G17, w5.same s17, px5, (lu.turn).ok60 N2, fun H18 s18 => ⟨true, rfl, (iteF ?_ : if (!true) = true then _ else _)⟩⟩
    have G18 := G17.over_same s18
    obtain ⟨_, _, _, e6, _⟩ := k1 G18
    refine ⟨_, rfl, _, rfl, v1, CV, _, _, rfl, iV, e6, rfl, v1, CV, t, u, rfl, iV, k1 G18, lu.sm60 N399, (lu.flip).sm60 N2, fun r6 H19 n19 s19 w6 => ?_⟩
    have G19 := G18.over_same s19
    refine ⟨_, rfl, _, rfl, q, t, a, u, rfl, kq G19, ka G19, fun x6 nx6 => ?_⟩
    have t6 : Same H19 (upd H19 x6 (.tup [.int (flip t u).1, .int (flip t u).2])) := Same.new nx6
    refine ⟨q, r6, x6, CM, t, flip t u, rfl, iM, kq (G19.over_same t6), w6.same t6, PAt.of upd_same, (lu.flip).ok60 N2, fun H20 s20 => ⟨true, rfl, (iteF ?_ : if (!true) = true then _ else _)⟩⟩
    have G20 := (G19.over_same t6).over_same s20
    obtain ⟨_, _, _, e7, _⟩ := k1 G20
    refine ⟨_, rfl, v1, CV, _, _, rfl, iV, e7, rfl, v1, CV, t, u, rfl, iV, k1 G20, lu.sm60 N399, (lu.flip).sm60 N2, fun r7 H21 n21 s21 w7 => ?_⟩
    have G21 := G20.over_same s21
    obtain ⟨_, _, _, e8, _⟩ := id w7
    refine ⟨r7, CM, _, _, rfl, iM, e8, rfl, r7, CM, t, flip t u, rfl, iM, w7, (lu.flip).sm60 N2, by rw [GL.flip_flip]; exact lu.sm60 N399, fun r8 H22 n22 s22 w8 => ?_⟩
    have G22 := G21.over_same s22
    rw [GL.flip_flip] at w8
    refine ⟨_, rfl, eqv_go (r := true) vi vcs w8 (k1 G22) iM iV (.inl ⟨rfl, .inr rfl⟩) (by simp) ⟨_, rfl, (iteF ?_ : if (true != true) = true then _ else _)⟩⟩
    refine ⟨_, rfl, _, rfl, bin_go (k1 G22) (k2 G22) iV iV ⟨v1, v2, CV, CV, t, u, z, rfl, iV, iV, k1 G22, k2 G22, lu.sm60 N399, lz.sm60 N399, (Le.padd lu lz).sm60 N2', fun r9 H23 n23 s23 w9 => ?_⟩⟩
    have G23 := G22.over_same s23
    have w9' : VecAt K C U CM H23 r9 t (padd u z) := w9
    have back : psub (padd u z) z = u := by unfold psub padd; ext <;> simp
    refine ⟨_, rfl, bin_go w9' (k2 G23) iM iV ⟨r9, v2, CM, CV, t, padd u z, z, rfl, iM, iV, w9', k2 G23, (Le.padd lu lz).sm60 N2', lz.sm60 N399, by show Sm (psub (padd u z) z); rw [back]; exact lu.sm60 N399, fun r10 H24 n24 s24 w10 => ?_⟩⟩
    have G24 := G23.over_same s24
    have w10' : VecAt K C U CM H24 r10 t (psub (padd u z) z) := w10
    rw [back] at w10'
    refine ⟨_, rfl, eqv_go (r := true) vi vcs w10' (k1 G24) iM iV (.inl ⟨rfl, .inr rfl⟩) (by simp) ⟨_, rfl, iteT ?_⟩⟩
    refine ⟨_, rfl, _, rfl, one_go (k1 G24) iV ⟨v1, CV, t, u, rfl, iV, k1 G24, lu.sm60 N399, ln.sm60 N4, fun r11 H25 n25 s25 w11 => ?_⟩⟩
    have G25 := G24.over_same s25
    have w11' : VecAt K C U CM H25 r11 t (psub (0, 0) u) := w11
    have nul : padd u (psub (0, 0) u) = (0, 0) := by unfold psub padd; ext <;> simp <;> omega
    have o0 : ptOk (0, 0) := ⟨short_of (by decide), short_of (by decide)⟩
    refine bin_go (k1 G25) w11' iV iM ⟨v1, r11, CV, CM, t, u, psub (0, 0) u, rfl, iV, iM, k1 G25, w11', lu.sm60 N399, ln.sm60 N4, by show Sm (padd u (psub (0, 0) u)); rw [nul]; exact ptOk_sm o0.1 o0.2, fun r12 H26 n26 s26 w12 => ?_⟩
    have G26 := G25.over_same s26
    have w12' : VecAt K C U CM H26 r12 t (padd u (psub (0, 0) u)) := w12
    rw [nul] at w12'
    refine ⟨_, rfl, by show 2 ≤ sizeLine; decide, fun o ho => ?_⟩
    have to : Same H26 (upd H26 o (.tup [.int 0, .int 0])) := Same.new ho
    have Go := G26.over_same to
    refine mk_vec2 (u := (0, 0)) (kg Go) (PAt.of upd_same) o0 fun v3 H27 n27 s27 hv3 => ?_
    have G27 := Go.over_same s27
    refine eqv_go (r := true) vi vcs (w12'.same (to.trans s27)) hv3 iM iV (.inl ⟨rfl, .inr rfl⟩) (by simp) ⟨_, rfl, iteT ?_⟩
    refine ⟨_, rfl, one_go (k1 G27) iV ⟨v1, CV, t, u, rfl, iV, k1 G27, lu.sm60 N399, ln.sm60 N4, fun r13 H28 n28 s28 w13 => ?_⟩⟩
    have G28 := G27.over_same s28
    have w13' : VecAt K C U CM H28 r13 t (psub (0, 0) u) := w13
    have twice : psub (0, 0) (psub (0, 0) u) = u := by unfold psub; ext <;> simp
    refine one_go w13' iM ⟨r13, CM, t, psub (0, 0) u, rfl, iM, w13', ln.sm60 N4, by show Sm (psub (0, 0) (psub (0, 0) u)); rw [twice]; exact lu.sm60 N399, fun r14 H29 n29 s29 w14 => ?_⟩
    have G29 := G28.over_same s29
    have w14' : VecAt K C U CM H29 r14 t (psub (0, 0) (psub (0, 0) u)) := w14
    rw [twice] at w14'
    refine ⟨_, rfl, eqv_go (r := true) vi vcs w14' (k1 G29) iM iV (.inl ⟨rfl, .inr rfl⟩) (by simp) ?_⟩
    exact k _ (g4.trans G29)
end
theorem pw_le {t : Bool} {u : Int × Int} {m : Nat} (h : Le m u) : ∀ i : Nat, Le ((3 * m) ^ i) (pw t u i)
  | 0 => ⟨by show (1 : Int).natAbs ≤ 1; decide, by show (0 : Int).natAbs ≤ 1; decide⟩
  | i + 1 => by
    have := (pw_le (t := t) h i).mul (t := t) h
    rw [Nat.pow_succ]
    exact this.mono (by rw [Nat.mul_left_comm]; exact Nat.le_refl _)
theorem pw_pos {t : Bool} {u : Int × Int} (h : 0 < nrm t u) : ∀ i : Nat, 0 < nrm t (pw t u i)
  | 0 => by show 0 < nrm t (1, 0); cases t <;> decide
  | i + 1 => by
    show 0 < nrm t (mul t (pw t u i) u)
    rw [nrm_mul]
    exact Int.mul_pos (pw_pos h i) h
section
variable {P : Program} {w : World} {K : PySem.W.Frag} {mg : Str → Option Value} {base : Heap}
variable {aG dU C CV CM : Addr} {U : Bool → Addr} {us : Bool → List Addr}
theorem h_law_powers_right (T : Txt K mg aG dU C CV CM) (c : GCls K C) (vi : VIs K C CV CM) (vcs : ∀ D, IsV CV CM D → VCls K D) (bk_add : ∀ C D, IsV CV CM C → IsV CV CM D → BinK K C D .Add) (bk_mul : ∀ C D, IsV CV CM C → IsV CV CM D → BinK K C D .Mult) (bk_div : ∀ C D, IsV CV CM C → IsV CV CM D → BinK K C D .FloorDiv)
    (hm_vadd : ∀ D, IsV CV CM D → HasM P w K mg base CX0 D "__add__" 4 ["self", "other"] (spVBin K C U CV CM (fun _ a b => padd a b))) (hm_vmul : ∀ D, IsV CV CM D → HasM P w K mg base CX0 D "__mul__" 4 ["self", "other"] (spVBin K C U CV CM mul))
    (hm_vdiv : ∀ D, IsV CV CM D → HasM P w K mg base CX0 D "__floordiv__" 4 ["self", "other"] (spVDiv K C U CV CM)) (hm_vpower : ∀ D, IsV CV CM D → HasM P w K mg base CX0 D "power" 13 ["self", "many"] (spVPow K C U CV CM)) (hm_veq : ∀ D, IsV CV CM D → HasM P w K mg base CX0 D "__eq__" 2 ["self", "other"] (spVEq K C U CV CM))
    (hVector : HasG P w K mg base "Vector" CV 4 ["self", "grid", "point"] (spVInit K C U CV ptOk)) (h_law_is_told : Has P w K mg base CX0 "_law_is_told" 5 ["_law_plain", "_law_vector", "_law_place_here"] (spTold K C U CV CM)) (h_law_mild : Has P w K mg base CX0 "_law_mild" 5 ["_law_dice_here"] (spMild K))
    (h_law_roll : Has P w K mg base CX0 "_law_roll" 1 ["_law_dice_here", "_law_total"] spRoll) (h_law_pick : Has P w K mg base CX0 "_law_pick" 2 ["_law_dice_here", "_law_items"] spPick) (h_law_power_of : Has P w K mg base CX0 "_law_power_of" 2 ["_law_plain", "_law_place_here", "_law_many"] (spPowOf K)) (D : Df K mg "_law_powers_right" s__law_powers_right) :
    Has P w K mg base CX0 "_law_powers_right" 14 ["_law_dice_here", "_law_plain", "_law_grid"] (spTurns C U) := by
  have vcls : ∀ D, IsV CV CM D → Cls K D := fun D d => (vcs D d).cls
  have veqc : ∀ D, IsV CV CM D → EqC K D := fun D d => (vi.is d).eq
  have iV : IsV CV CM CV := .inl rfl
  have iM : IsV CV CM CM := .inr rfl
  refine D.has sc__law_powers_right (fun vs H Q E h => ?_) (fun kV doc pm an cdv ct us hl => match us, hl with | [_, _, _], _ => rfl) (fun f cdv A outer s H vs Q E gd hr h => ?_)
  · obtain ⟨p, q, g, t, rfl, _⟩ := h
    rfl
  · obtain ⟨p, q, g, t, rfl, hd, hq, hg, k⟩ := h
    refine ⟨_, (pss_cons
 (ps_set (i := 3) sc__law_powers_right.nd rfl (Or.inl rfl) (pe_tup (pa_cons (pe_op op_sub (pe_callH h_law_roll gd (hr.mono (by decide)) pass0 (pa_cons (pv 0) (pa_cons pe_int pa_nil))) pe_int) (pa_cons (pe_op op_sub (pe_callH h_law_roll gd (hr.mono (by decide)) pass0 (pa_cons (pv 0) (pa_cons pe_int pa_nil))) pe_int) pa_nil))))
 (pss_cons
 (ps_set (i := 4) sc__law_powers_right.nd rfl (Or.inl rfl) (pe_callH h_law_pick gd (hr.mono (by decide)) pass0 (pa_cons (pv 0) (pa_cons (pe_lst (pa_cons (pe_tup (pa_cons pe_int (pa_cons pe_int pa_nil))) (pa_cons (pe_tup (pa_cons pe_int (pa_cons (pe_op op_sub pe_int pe_int) pa_nil))) (pa_cons (pe_tup (pa_cons pe_int (pa_cons pe_int pa_nil))) (pa_cons (pe_tup (pa_cons (pe_op op_sub pe_int pe_int) (pa_cons pe_int pa_nil))) (pa_cons (pe_tup (pa_cons pe_int (pa_cons pe_int pa_nil))) (pa_cons (pe_tup (pa_cons pe_int (pa_cons (pe_op op_sub pe_int pe_int) pa_nil))) pa_nil))))))) pa_nil))))
 (pss_cons
 (ps_par3 (i := 5) (j := 6) (l := 7) (by rfl) sc__law_powers_right.nd rfl rfl rfl (by decide) (by decide) (by decide) rfl rfl rfl (pa_cons (pe_makeG hVector gd (hr.mono (by decide)) pass0 (pa_cons (pv 2) (pa_cons (pv 3) pa_nil))) (pa_cons (pe_makeG hVector gd (hr.mono (by decide)) pass0 (pa_cons (pv 2) (pa_cons (pv 4) pa_nil))) (pa_cons (pe_callH h_law_roll gd (hr.mono (by decide)) pass0 (pa_cons (pv 0) (pa_cons pe_int pa_nil))) pa_nil))) (by rfl))
 (pss_cons
 (ps_if (PW.pt (pw_or (pt_cmpR (op_neV hm_veq veqc gd (hr.mono (by decide)) pass0) (pe_op (op_binV (m := "__floordiv__") (by decide +kernel) hm_vdiv bk_div gd (hr.mono (by decide)) pass0) (pe_op (op_binV (m := "__mul__") (by decide +kernel) hm_vmul bk_mul gd (hr.mono (by decide)) pass0) (pv 5) (pv 6)) (pv 6)) (pv 5) (nomark _)) (pw_or1 (pt_not (pt_cmpR (op_eqV hm_veq gd (hr.mono (by decide)) pass0) (pe_op (op_binV (m := "__floordiv__") (by decide +kernel) hm_vdiv bk_div gd (hr.mono (by decide)) pass0) (pe_op (op_binV (m := "__mul__") (by decide +kernel) hm_vmul bk_mul gd (hr.mono (by decide)) pass0) (pv 5) (pv 6)) (pv 6)) (pv 5) (nomark _)))))) (pss_one
 (ps_ret pe_bl)) pss_nil)
 (pss_cons
 (ps_if (pt_not (pt_val (pe_callH h_law_is_told gd (hr.mono (by decide)) pass0 (pa_cons (pv 1) (pa_cons (pe_methV (pv 6) vcls (fun D d => ⟨_, hm_vpower D d⟩) gd (hr.mono (by decide)) pass0 (pa_cons (pv 7) pa_nil)) (pa_cons (pe_callH h_law_power_of gd (hr.mono (by decide)) pass0 (pa_cons (pv 1) (pa_cons (pv 4) (pa_cons (pv 7) pa_nil)))) pa_nil)))))) (pss_one
 (ps_ret pe_bl)) pss_nil)
 (pss_cons
 (ps_if (PW.pt (pw_or (pt_cmpR (op_neV hm_veq veqc gd (hr.mono (by decide)) pass0) (pe_op (op_binV (m := "__floordiv__") (by decide +kernel) hm_vdiv bk_div gd (hr.mono (by decide)) pass0) (pe_methV (pv 6) vcls (fun D d => ⟨_, hm_vpower D d⟩) gd (hr.mono (by decide)) pass0 (pa_cons (pe_op op_add (pv 7) pe_int) pa_nil)) (pe_methV (pv 6) vcls (fun D d => ⟨_, hm_vpower D d⟩) gd (hr.mono (by decide)) pass0 (pa_cons (pv 7) pa_nil))) (pv 6) (nomark _)) (pw_or1 (pt_cmpR (op_neV hm_veq veqc gd (hr.mono (by decide)) pass0) (pe_op (op_binV (m := "__mul__") (by decide +kernel) hm_vmul bk_mul gd (hr.mono (by decide)) pass0) (pe_methV (pv 6) vcls (fun D d => ⟨_, hm_vpower D d⟩) gd (hr.mono (by decide)) pass0 (pa_cons (pv 7) pa_nil)) (pv 6)) (pe_methV (pv 6) vcls (fun D d => ⟨_, hm_vpower D d⟩) gd (hr.mono (by decide)) pass0 (pa_cons (pe_op op_add (pv 7) pe_int) pa_nil)) (nomark _))))) (pss_one
 (ps_ret pe_bl)) pss_nil)
 (pss_cons
 (ps_set (i := 8) sc__law_powers_right.nd rfl (Or.inl rfl) (pe_makeG hVector gd (hr.mono (by decide)) pass0 (pa_cons (pv 2) (pa_cons (pe_callH h_law_mild gd (hr.mono (by decide)) pass0 (pa_cons (pv 0) pa_nil)) pa_nil))))
 (pss_one
 (ps_ret (pe_and (pe_cmpR (op_eqV hm_veq gd (hr.mono (by decide)) pass0) (pe_op (op_binV (m := "__mul__") (by decide +kernel) hm_vmul bk_mul gd (hr.mono (by decide)) pass0) (pe_op (op_binV (m := "__add__") (by decide +kernel) hm_vadd bk_add gd (hr.mono (by decide)) pass0) (pv 5) (pv 6)) (pv 8)) (pe_op (op_binV (m := "__add__") (by decide +kernel) hm_vadd bk_add gd (hr.mono (by decide)) pass0) (pe_op (op_binV (m := "__mul__") (by decide +kernel) hm_vmul bk_mul gd (hr.mono (by decide)) pass0) (pv 5) (pv 8)) (pe_op (op_binV (m := "__mul__") (by decide +kernel) hm_vmul bk_mul gd (hr.mono (by decide)) pass0) (pv 6) (pv 8))) (nomark _)) (pe_one (pe_cmpR (op_eqV hm_veq gd (hr.mono (by decide)) pass0) (pe_op (op_binV (m := "__mul__") (by decide +kernel) hm_vmul bk_mul gd (hr.mono (by decide)) pass0) (pv 5) (pv 6)) (pe_op (op_binV (m := "__mul__") (by decide +kernel) hm_vmul bk_mul gd (hr.mono (by decide)) pass0) (pv 6) (pv 5)) (nomark _))))))))))))), ?_⟩
    refine ⟨_, rfl, p, 19, rfl, hd, by decide, by decide, fun x H1 x0 x1 g1 => ⟨_, _, rfl, rfl, _, rfl, p, 19, rfl, g1.die, by decide, by decide, fun y H2 y0 y1 g2 => ⟨_, _, rfl, rfl, by show 2 ≤ sizeLine; decide, fun a ha => ?_⟩⟩⟩
    have lu : Le 9 (x - 9, y - 9) := ⟨by show (x - 9).natAbs ≤ 9; omega, by show (y - 9).natAbs ≤ 9; omega⟩
    have pa : PAt K (upd H2 a (.tup [.int (x - 9), .int (y - 9)])) a (x - 9, y - 9) := PAt.of upd_same
    have gX := (g1.trans g2).trans (Got.new (o := .tup [.int (x - 9), .int (y - 9)]) g2.die ha)
    change (fun H3 => _) (upd H2 a (.tup [.int (x - 9), .int (y - 9)]))
    generalize upd H2 a (.tup [.int (x - 9), .int (y - 9)]) = X0 at *
    generalize (x - 9, y - 9) = u at *
    clear x0 x1 y0 y1
    refine ⟨_, rfl, ?_⟩
    refine ⟨by show 2 ≤ sizeLine; decide, fun z0 hz0 => ?_⟩
    have pz0 : PAt K (upd X0 z0 (.tup [.int 1, .int 1])) z0 (1, 1) := PAt.of upd_same
    have sz0 : Same X0 (upd X0 z0 (.tup [.int 1, .int 1])) := Same.new hz0
    replace pa := pa.same sz0
    have gz0 := gX.over_same sz0
    generalize upd X0 z0 (.tup [.int 1, .int 1]) = X1 at *
    refine ⟨_, _, rfl, rfl, by show 2 ≤ sizeLine; decide, fun z1 hz1 => ?_⟩
    have pz1 : PAt K (upd X1 z1 (.tup [.int 2, (fun i j : Int => V.int (i - j)) 0 1])) z1 (2, -1) := PAt.of upd_same
    have sz1 : Same X1 (upd X1 z1 (.tup [.int 2, (fun i j : Int => V.int (i - j)) 0 1])) := Same.new hz1
    replace pa := pa.same sz1
    replace pz0 := pz0.same sz1
    have gz1 := gz0.over_same sz1
    generalize upd X1 z1 (.tup [.int 2, (fun i j : Int => V.int (i - j)) 0 1]) = X2 at *
    refine ⟨by show 2 ≤ sizeLine; decide, fun z2 hz2 => ?_⟩
    have pz2 : PAt K (upd X2 z2 (.tup [.int 0, .int 3])) z2 (0, 3) := PAt.of upd_same
    have sz2 : Same X2 (upd X2 z2 (.tup [.int 0, .int 3])) := Same.new hz2
    replace pa := pa.same sz2
    replace pz0 := pz0.same sz2
    replace pz1 := pz1.same sz2
    have gz2 := gz1.over_same sz2
    generalize upd X2 z2 (.tup [.int 0, .int 3]) = X3 at *
    refine ⟨_, _, rfl, rfl, by show 2 ≤ sizeLine; decide, fun z3 hz3 => ?_⟩
    have pz3 : PAt K (upd X3 z3 (.tup [(fun i j : Int => V.int (i - j)) 0 5, .int 2])) z3 (-5, 2) := PAt.of upd_same
    have sz3 : Same X3 (upd X3 z3 (.tup [(fun i j : Int => V.int (i - j)) 0 5, .int 2])) := Same.new hz3
    replace pa := pa.same sz3
    replace pz0 := pz0.same sz3
    replace pz1 := pz1.same sz3
    replace pz2 := pz2.same sz3
    have gz3 := gz2.over_same sz3
    generalize upd X3 z3 (.tup [(fun i j : Int => V.int (i - j)) 0 5, .int 2]) = X4 at *
    refine ⟨by show 2 ≤ sizeLine; decide, fun z4 hz4 => ?_⟩
    have pz4 : PAt K (upd X4 z4 (.tup [.int 7, .int 7])) z4 (7, 7) := PAt.of upd_same
    have sz4 : Same X4 (upd X4 z4 (.tup [.int 7, .int 7])) := Same.new hz4
    replace pa := pa.same sz4
    replace pz0 := pz0.same sz4
    replace pz1 := pz1.same sz4
    replace pz2 := pz2.same sz4
    replace pz3 := pz3.same sz4
    have gz4 := gz3.over_same sz4
    generalize upd X4 z4 (.tup [.int 7, .int 7]) = X5 at *
    refine ⟨_, _, rfl, rfl, by show 2 ≤ sizeLine; decide, fun z5 hz5 => ?_⟩
    have pz5 : PAt K (upd X5 z5 (.tup [.int 0, (fun i j : Int => V.int (i - j)) 0 1])) z5 (0, -1) := PAt.of upd_same
    have sz5 : Same X5 (upd X5 z5 (.tup [.int 0, (fun i j : Int => V.int (i - j)) 0 1])) := Same.new hz5
    replace pa := pa.same sz5
    replace pz0 := pz0.same sz5
    replace pz1 := pz1.same sz5
    replace pz2 := pz2.same sz5
    replace pz3 := pz3.same sz5
    replace pz4 := pz4.same sz5
    have gz5 := gz4.over_same sz5
    generalize upd X5 z5 (.tup [.int 0, (fun i j : Int => V.int (i - j)) 0 1]) = X6 at *
    refine ⟨by show 6 ≤ sizeLine; decide, fun L hL => ?_⟩
    have Lp : L ≠ p := (gz5.die.ne hL).symm
    have eL : upd X6 L (.lst [.ref z0, .ref z1, .ref z2, .ref z3, .ref z4, .ref z5]) L = some (.lst [.ref z0, .ref z1, .ref z2, .ref z3, .ref z4, .ref z5]) := upd_same
    have sL : Same X6 (upd X6 L (.lst [.ref z0, .ref z1, .ref z2, .ref z3, .ref z4, .ref z5])) := Same.new hL
    replace pa := pa.same sL
    replace pz0 := pz0.same sL
    replace pz1 := pz1.same sL
    replace pz2 := pz2.same sL
    replace pz3 := pz3.same sL
    replace pz4 := pz4.same sL
    replace pz5 := pz5.same sL
    have gL := gz5.over_same sL
    generalize upd X6 L (.lst [.ref z0, .ref z1, .ref z2, .ref z3, .ref z4, .ref z5]) = X7 at *
    refine ⟨p, L, _, rfl, gL.die, .inl eL, Lp, by show 0 < 6; decide, by show 6 ≤ 1000; decide, fun vz H3 hv g3 => ?_⟩
    obtain ⟨b, z, rfl, pb, lz, z0⟩ : ∃ b z, vz = .ref b ∧ PAt K X7 b z ∧ Le 7 z ∧ 0 < nrm t z := by
      simp only [List.mem_cons, List.not_mem_nil, or_false] at hv
      rcases hv with e | e | e | e | e | e <;> subst e
      · exact ⟨_, _, rfl, pz0, ⟨by decide, by decide⟩, by cases t <;> decide⟩
      · exact ⟨_, _, rfl, pz1, ⟨by decide, by decide⟩, by cases t <;> decide⟩
      · exact ⟨_, _, rfl, pz2, ⟨by decide, by decide⟩, by cases t <;> decide⟩
      · exact ⟨_, _, rfl, pz3, ⟨by decide, by decide⟩, by cases t <;> decide⟩
      · exact ⟨_, _, rfl, pz4, ⟨by decide, by decide⟩, by cases t <;> decide⟩
      · exact ⟨_, _, rfl, pz5, ⟨by decide, by decide⟩, by cases t <;> decide⟩
    replace pa := pa.got g3 gL.die
    replace pb := pb.got g3 gL.die
    have g4 := gL.trans g3
    refine ⟨_, rfl, _, rfl, ?_⟩
    have hg3 := hg.got g4 hd
    have hq3 := hq.got g4 hd
    have B9 : (9 : Nat) ≤ 10 ^ 399 := by decide +kernel
    have B7 : (7 : Nat) ≤ 10 ^ 399 := by decide +kernel
    refine mk_vec2 hg3 pa (lu.ok60 B9) fun v1 H4 n4 s4 hv1 => ?_
    refine ⟨_, rfl, _, rfl, ?_⟩
    refine mk_vec2 (hg3.same s4) (pb.same s4) (lz.ok60 B7) fun v2 H5 n5 s5 hv2 => ?_
    have s45 := s4.trans s5
    have g5 := g4.over_same s45
    refine ⟨_, rfl, p, 40, rfl, g5.die, by decide, by decide, fun mm H6 m0 m1 g6' => ⟨_, _, _, rfl, ?_⟩⟩
    obtain ⟨n, rfl⟩ : ∃ n : Nat, mm = (n : Int) := ⟨mm.toNat, by omega⟩
    have n40 : n < 40 := by omega
    have g6 := g5.trans g6'
    have d6 := g6.die
    have bq : PlainAt H6 q t := (show PlainAt H5 q t from s45 _ _ hq3).got g6' g5.die
    have bg : GridAt C U H6 g t := (hg3.same s45).got g6' g5.die
    have bb : PAt K H6 b z := (pb.same s45).got g6' g5.die
    have b1 : VecAt K C U CV H6 v1 t u := (hv1.same s5).got g6' g5.die
    have b2 : VecAt K C U CV H6 v2 t z := hv2.got g6' g5.die
    have kq : ∀ {H'}, Got p H6 H' → PlainAt H' q t := fun g => bq.got g d6
    have kg : ∀ {H'}, Got p H6 H' → GridAt C U H' g t := fun g => bg.got g d6
    have kb : ∀ {H'}, Got p H6 H' → PAt K H' b z := fun g => bb.got g d6
    have k1 : ∀ {H'}, Got p H6 H' → VecAt K C U CV H' v1 t u := fun g => b1.got g d6
    have k2 : ∀ {H'}, Got p H6 H' → VecAt K C U CV H' v2 t z := fun g => b2.got g d6
    clear bq bg bb b1 b2 g6' hv1 hv2 hg3 hq3 pa pb
    have G0 : Got p H6 H6 := Got.same d6
    have su := lu.sm60 B9
    have sz := lz.sm60 B7
    have suz : Sm (mul t u z) := (lu.mul lz).sm60 (by decide +kernel)
    have szu : Sm (mul t z u) := (lz.mul lu).sm60 (by decide +kernel)
    have big : ∀ i, i ≤ 41 → (3 * 7) ^ i ≤ (21 ^ 41 : Nat) := fun i hi => Nat.pow_le_pow_right (by decide) hi
    have lp : ∀ i, i ≤ 41 → Le (21 ^ 41) (pw t z i) := fun i hi => (pw_le lz i).mono (big i hi)
    have sp : ∀ i, i ≤ 41 → Sm (pw t z i) := fun i hi => (lp i hi).sm60 (by decide +kernel)
    refine ⟨_, rfl, _, rfl, bin_go (k1 G0) (k2 G0) iV iV ⟨v1, v2, CV, CV, t, u, z, rfl, iV, iV, k1 G0, k2 G0, su, sz, suz, fun r1 H7 n7 s7 w1 => ?_⟩⟩
    have G7 := G0.over_same s7
    refine ⟨_, rfl, bin_go w1 (k2 G7) iM iV ⟨r1, v2, CM, CV, t, mul t u z, z, u, rfl, iM, iV, w1, k2 G7, suz, sz, su, (lz.flip).sm60 (by decide +kernel), ((lu.mul lz).mul lz.flip).sm60 (by decide +kernel), Nat.lt_of_le_of_lt lz.nrm (by decide +kernel), z0, rfl, fun r2 H8 n8 s8 w2 => ?_⟩⟩
    have G8 := G7.over_same s8
    refine ⟨_, rfl, eqv_go (r := true) vi vcs w2 (k1 G8) iM iV (.inl ⟨rfl, .inr rfl⟩) (by simp) ⟨_, rfl, (iteF ?_ : if (true != true) = true then _ else _)⟩⟩
    refine ⟨_, rfl, _, rfl, bin_go (k1 G8) (k2 G8) iV iV ⟨v1, v2, CV, CV, t, u, z, rfl, iV, iV, k1 G8, k2 G8, su, sz, suz, fun r3 H9 n9 s9 w3 => ?_⟩⟩
    have G9 := G8.over_same s9
    refine ⟨_, rfl, bin_go w3 (k2 G9) iM iV ⟨r3, v2, CM, CV, t, mul t u z, z, u, rfl, iM, iV, w3, k2 G9, suz, sz, su, (lz.flip).sm60 (by decide +kernel), ((lu.mul lz).mul lz.flip).sm60 (by decide +kernel), Nat.lt_of_le_of_lt lz.nrm (by decide +kernel), z0, rfl, fun r4 H10 n10 s10 w4 => ?_⟩⟩
    have G10 := G9.over_same s10
    refine ⟨_, rfl, eqv_go (r := true) vi vcs w4 (k1 G10) iM iV (.inl ⟨rfl, .inr rfl⟩) (by simp) ⟨_, rfl, (iteF ?_ : if (!(false != true)) = true then _ else _)⟩⟩
    obtain ⟨_, _, _, e10, _⟩ := k2 G10
    refine ⟨_, rfl, _, rfl, v2, CV, _, _, rfl, iV, e10, rfl, _, rfl, v2, CV, t, z, n, rfl, iV, k2 G10, by omega, sz, fun i hi => sp i (by omega), fun r5 H11 n11 s11 w5 => ?_⟩
    have G11 := G10.over_same s11
    refine ⟨_, rfl, _, rfl, _, rfl, q, t, b, z, n, rfl, kq G11, kb G11, sz, by omega, fun i hi => sp i (by omega), fun x5 H12 s12 px5 => ?_⟩
    have G12 := G11.over_same s12
    refine ⟨q, r5, x5, CM, t, pw t z n, rfl, iM, kq G12, w5.same s12, px5, (lp n (by omega)).ok60 (by decide +kernel), fun H13 s13 => ⟨true, rfl, (iteF ?_ : if (!true) = true then _ else _)⟩⟩
    have G13 := G12.over_same s13
    obtain ⟨_, _, _, e13, _⟩ := k2 G13
    refine ⟨_, rfl, v2, CV, _, _, rfl, iV, e13, rfl, _, rfl, _, _, rfl, rfl, v2, CV, t, z, n + 1, rfl, iV, k2 G13, by omega, sz, fun i hi => sp i (by omega), fun r6 H14 n14 s14 w6 => ?_⟩
    have G14 := G13.over_same s14
    obtain ⟨_, _, _, e14, _⟩ := k2 G14
    refine ⟨_, rfl, v2, CV, _, _, rfl, iV, e14, rfl, _, rfl, v2, CV, t, z, n, rfl, iV, k2 G14, by omega, sz, fun i hi => sp i (by omega), fun r7 H15 n15 s15 w7 => ?_⟩
    have G15 := G14.over_same s15
    have ln := lp n (by omega)
    have ln1 := lp (n + 1) (by omega)
    have e : mul t z (pw t z n) = pw t z (n + 1) := by rw [mul_comm']; rfl
    refine bin_go (w6.same s15) w7 iM iM ⟨r6, r7, CM, CM, t, pw t z (n + 1), pw t z n, z, rfl, iM, iM, w6.same s15, w7, sp _ (by omega), sp _ (by omega), sz, (ln.flip).sm60 (by decide +kernel), (ln1.mul ln.flip).sm60 (by decide +kernel), Nat.lt_of_le_of_lt ln.nrm (by decide +kernel), pw_pos z0 n, e, fun r8 H16 n16 s16 w8 => ?_⟩
    have G16 := G15.over_same s16
    refine ⟨_, rfl, eqv_go (r := true) vi vcs w8 (k2 G16) iM iV (.inl ⟨rfl, .inr rfl⟩) (by simp) ⟨_, rfl, (iteF ?_ : if (true != true) = true then _ else _)⟩⟩
    obtain ⟨_, _, _, e16, _⟩ := k2 G16
    refine ⟨_, rfl, v2, CV, _, _, rfl, iV, e16, rfl, _, rfl, v2, CV, t, z, n, rfl, iV, k2 G16, by omega, sz, fun i hi => sp i (by omega), fun r9 H17 n17 s17 w9 => ?_⟩
    have G17 := G16.over_same s17
    refine ⟨_, rfl, bin_go w9 (k2 G17) iM iV ⟨r9, v2, CM, CV, t, pw t z n, z, rfl, iM, iV, w9, k2 G17, sp _ (by omega), sz, sp (n + 1) (by omega), fun r10 H18 n18 s18 w10 => ?_⟩⟩
    have G18 := G17.over_same s18
    obtain ⟨_, _, _, e18, _⟩ := k2 G18
    refine ⟨_, rfl, v2, CV, _, _, rfl, iV, e18, rfl, _, rfl, _, _, rfl, rfl, v2, CV, t, z, n + 1, rfl, iV, k2 G18, by omega, sz, fun i hi => sp i (by omega), fun r11 H19 n19 s19 w11 => ?_⟩
    have G19 := G18.over_same s19
    refine eqv_go (r := true) vi vcs (w10.same s19) w11 iM iM (.inl ⟨rfl, .inl rfl⟩) (by simp [pw]) ⟨_, rfl, (iteF ?_ : if (true != true) = true then _ else _)⟩
    refine ⟨_, rfl, _, rfl, p, rfl, G19.die, fun a3 y H20 ly py g20 => ?_⟩
    have G20 := G19.trans g20
    refine mk_vec2 (kg G20) py (ly.ok60 (by decide +kernel)) fun v3 H21 n21 s21 b3 => ?_
    have G21 := G20.over_same s21
    have l16 : Le (9 + 7) (padd u z) := Le.padd lu lz
    refine ⟨_, rfl, _, rfl, bin_go (k1 G21) (k2 G21) iV iV ⟨v1, v2, CV, CV, t, u, z, rfl, iV, iV, k1 G21, k2 G21, su, sz, l16.sm60 (by decide +kernel), fun r12 H22 n22 s22 w12 => ?_⟩⟩
    have G22 := G21.over_same s22
    have sy : Sm y := ly.sm60 (by decide +kernel)
    refine ⟨_, rfl, bin_go w12 (b3.same s22) iM iV ⟨r12, v3, CM, CV, t, padd u z, y, rfl, iM, iV, w12, b3.same s22, l16.sm60 (by decide +kernel), sy, (l16.mul ly).sm60 (by decide +kernel), fun r13 H23 n23 s23 w13 => ?_⟩⟩
    have S23 := s22.trans s23
    have G23 := G22.over_same s23
    refine ⟨_, rfl, _, rfl, bin_go (k1 G23) (b3.same S23) iV iV ⟨v1, v3, CV, CV, t, u, y, rfl, iV, iV, k1 G23, b3.same S23, su, sy, (lu.mul ly).sm60 (by decide +kernel), fun r14 H24 n24 s24 w14 => ?_⟩⟩
    have S24 := S23.trans s24
    have G24 := G23.over_same s24
    refine ⟨_, rfl, _, rfl, bin_go (k2 G24) (b3.same S24) iV iV ⟨v2, v3, CV, CV, t, z, y, rfl, iV, iV, k2 G24, b3.same S24, sz, sy, (lz.mul ly).sm60 (by decide +kernel), fun r15 H25 n25 s25 w15 => ?_⟩⟩
    have G25 := G24.over_same s25
    refine bin_go (w14.same s25) w15 iM iM ⟨r14, r15, CM, CM, t, mul t u y, mul t z y, rfl, iM, iM, w14.same s25, w15, (lu.mul ly).sm60 (by decide +kernel), (lz.mul ly).sm60 (by decide +kernel), (Le.padd (lu.mul ly) (lz.mul ly)).sm60 (by decide +kernel), fun r16 H26 n26 s26 w16 => ?_⟩
    have G26 := G25.over_same s26
    refine eqv_go (r := true) vi vcs (w13.same ((s24.trans s25).trans s26)) w16 iM iM (.inl ⟨rfl, .inl rfl⟩) (by simp [mul_add']) ⟨_, rfl, iteT ?_⟩
    refine ⟨_, rfl, _, rfl, bin_go (k1 G26) (k2 G26) iV iV ⟨v1, v2, CV, CV, t, u, z, rfl, iV, iV, k1 G26, k2 G26, su, sz, suz, fun r17 H27 n27 s27 w17 => ?_⟩⟩
    have G27 := G26.over_same s27
    refine ⟨_, rfl, _, rfl, bin_go (k2 G27) (k1 G27) iV iV ⟨v2, v1, CV, CV, t, z, u, rfl, iV, iV, k2 G27, k1 G27, sz, su, szu, fun r18 H28 n28 s28 w18 => ?_⟩⟩
    have G28 := G27.over_same s28
    refine eqv_go (r := true) vi vcs (w17.same s28) w18 iM iM (.inl ⟨rfl, .inl rfl⟩) (by rw [mul_comm' (u := z)]; simp) ?_
    exact k _ (g6.trans G28)
end
def spLaw (K : PySem.W.Frag) : Sp := fun vs H Q _ => ∃ (a : Addr) (ns : List Int), vs = [.ref a] ∧ SqL K H a (ns.map V.int) ∧ ns.length ≤ 63 ∧ ∀ H', Q (.bl true) H'
section
variable {P : Program} {w : World} {K : PySem.W.Frag} {mg : Str → Option Value} {base : Heap}
variable {aG dU C CV CM : Addr} {U : Bool → Addr} {us : Bool → List Addr}
theorem law_ok (T : Txt K mg aG dU C CV CM) (c : GCls K C) (i : GIs K C) (vi : VIs K C CV CM) (nC : C ≠ CV) (vcs : ∀ D, IsV CV CM D → VCls K D) (bk_add : ∀ C D, IsV CV CM C → IsV CV CM D → BinK K C D .Add) (bk_sub : ∀ C D, IsV CV CM C → IsV CV CM D → BinK K C D .Sub) (bk_mul : ∀ C D, IsV CV CM C → IsV CV CM D → BinK K C D .Mult)
    (hm_vadd : ∀ D, IsV CV CM D → HasM P w K mg base CX0 D "__add__" 4 ["self", "other"] (spVBin K C U CV CM (fun _ a b => padd a b))) (hm_vsub : ∀ D, IsV CV CM D → HasM P w K mg base CX0 D "__sub__" 4 ["self", "other"] (spVBin K C U CV CM (fun _ a b => psub a b)))
    (hm_vmul : ∀ D, IsV CV CM D → HasM P w K mg base CX0 D "__mul__" 4 ["self", "other"] (spVBin K C U CV CM mul)) (hm_vpower : ∀ D, IsV CV CM D → HasM P w K mg base CX0 D "power" 13 ["self", "many"] (spVPow K C U CV CM)) (hm_veq : ∀ D, IsV CV CM D → HasM P w K mg base CX0 D "__eq__" 2 ["self", "other"] (spVEq K C U CV CM))
    (hm_vstr : ∀ D, IsV CV CM D → HasM P w K mg base CX0 D "__str__" 2 ["self"] (spVStr K C U CV CM)) (hm_vbool : ∀ D, IsV CV CM D → HasM P w K mg base CX0 D "__bool__" 1 ["self"] (spVBool K C U CV CM))
    (hGrid : HasC P w K mg base "Grid" C 1 ["self", "name"] (spInit C U)) (hVector : HasG P w K mg base "Vector" CV 4 ["self", "grid", "point"] (spVInit K C U CV ptOk)) (h_law_mild : Has P w K mg base CX0 "_law_mild" 5 ["_law_dice_here"] (spMild K)) (h_law_limit : Has P w K mg base CX0 "_law_limit" 1 [] spLimit)
    (h_law_dice : Has P w K mg base CX0 "_law_dice" 1 ["_law_script", "_law_spot"] (spDice K)) (h_law_grid_plain : Has P w K mg base CX0 "_law_grid_plain" 3 ["_law_dice_here"] spPlain) (h_law_pick : Has P w K mg base CX0 "_law_pick" 2 ["_law_dice_here", "_law_items"] spPick)
    (h_law_sums_right : Has P w K mg base CX0 "_law_sums_right" 6 ["_law_dice_here", "_law_plain", "_law_grid"] (spTurns C U)) (h_law_powers_right : Has P w K mg base CX0 "_law_powers_right" 14 ["_law_dice_here", "_law_plain", "_law_grid"] (spTurns C U))
    {f : Addr} {fd : FuncData} (F : Fun K "law" "law" s_law f fd) : FnG P w K mg base CX0 15 f fd ["_law_script"] (spLaw K) := by
  have vcls : ∀ D, IsV CV CM D → Cls K D := fun D d => (vcs D d).cls
  have veqc : ∀ D, IsV CV CM D → EqC K D := fun D d => (vi.is d).eq
  have iV : IsV CV CM CV := .inl rfl
  have iM : IsV CV CM CM := .inr rfl
  refine F.g sc_law (fun vs H Q E h => ?_) (fun cdv A outer s H vs Q E gd hr h => ?_)
  · obtain ⟨a, ns, rfl, _⟩ := h
    rfl
  · obtain ⟨a, ns, rfl, hS, hl, k⟩ := h
    have hu := hr.units
    refine ⟨_, (pss_cons
 (ps_for PassesOwn.never rfl (pi_range1 (by exact rfl) T.zrange (pa_cons (pe_callB (call_max2 rfl) (by exact rfl) T.zmax (by decide +kernel) (pa_cons pe_int (pa_cons (pe_callB (call_min2 rfl) (by exact rfl) T.zmin (by decide +kernel) (pa_cons pe_int (pa_cons (pe_callB call_len_seq (by exact rfl) T.zlen PySem.boot_len (pa_cons (pv 0) pa_nil)) pa_nil))) pa_nil))) pa_nil)) (pg_name (i := 1) sc_law.nd rfl (Or.inl rfl)) (pss_cons
 (ps_set (i := 2) sc_law.nd rfl (Or.inl rfl) (pe_callH h_law_dice gd (hr.mono (by decide)) pass0 (pa_cons (pv 0) (pa_cons (pv 1) pa_nil))))
 (pss_cons
 (ps_set (i := 3) sc_law.nd rfl (Or.inl rfl) (pe_callH h_law_grid_plain gd (hr.mono (by decide)) pass0 (pa_cons (pv 2) pa_nil)))
 (pss_cons
 (ps_set (i := 4) sc_law.nd rfl (Or.inl rfl) (pe_makeH hGrid (hr.mono (by decide)) pass0 (pa_cons (pe_dget (Nat.lt_of_le_of_lt (Nat.add_le_add_left (by decide) _) hu) (pv 3) pe_str (fun _ _ => rfl)) pa_nil)))
 (pss_cons
 (ps_for PassesOwn.never rfl (pi_range1 (by exact rfl) T.zrange (pa_cons pe_int pa_nil)) (pg_name (i := 5) sc_law.nd rfl (Or.inl rfl)) (pss_one
 (ps_if (PW.pt (pw_or (pt_not (pt_val (pe_callH h_law_sums_right gd (hr.mono (by decide)) pass0 (pa_cons (pv 2) (pa_cons (pv 3) (pa_cons (pv 4) pa_nil)))))) (pw_or1 (pt_not (pt_val (pe_callH h_law_powers_right gd (hr.mono (by decide)) pass0 (pa_cons (pv 2) (pa_cons (pv 3) (pa_cons (pv 4) pa_nil))))))))) (pss_one
 (ps_ret pe_bl)) pss_nil)))
 (pss_cons
 (ps_par (i := 6) (j := 7) (by rfl) sc_law.nd rfl rfl (by decide) rfl rfl (pa_cons (pe_makeG hVector gd (hr.mono (by decide)) pass0 (pa_cons (pv 4) (pa_cons (pe_tup (pa_cons pe_int (pa_cons pe_int pa_nil))) pa_nil))) (pa_cons (pe_callH h_law_mild gd (hr.mono (by decide)) pass0 (pa_cons (pv 2) pa_nil)) pa_nil)) (by rfl))
 (pss_cons
 (ps_set (i := 8) sc_law.nd rfl (Or.inl rfl) (pe_callH h_law_pick gd (hr.mono (by decide)) pass0 (pa_cons (pv 2) (pa_cons (pe_lst (pa_cons pe_non (pa_cons (pe_tup (pa_cons pe_int (pa_cons pe_int pa_nil))) (pa_cons pe_str (pa_cons pe_int (pa_cons (pv 4) (pa_cons (pe_lst (pa_cons (pv 6) pa_nil)) (pa_cons (pe_tup (pa_cons (pv 6) pa_nil)) (pa_cons pe_dnewK (pa_cons (pe_makeG hVector gd (hr.mono (by decide)) pass0 (pa_cons (pv 4) (pa_cons (pe_tup (pa_cons pe_int (pa_cons pe_int pa_nil))) pa_nil))) pa_nil)))))))))) pa_nil))))
 (pss_one
 (ps_if (PW.pt (pw_or (pt_cmpR (op_eqV hm_veq gd (hr.mono (by decide)) pass0) (pv 6) (pv 8) (nomark _)) (pw_or (pt_not (pt_cmpR (op_neV hm_veq veqc gd (hr.mono (by decide)) pass0) (pv 6) (pv 8) (nomark _))) (pw_or1 (pt_cmpR (op_neV hm_veq veqc gd (hr.mono (by decide)) pass0) (pe_makeG hVector gd (hr.mono (by decide)) pass0 (pa_cons (pv 4) (pa_cons (pv 7) pa_nil))) (pe_makeG hVector gd (hr.mono (by decide)) pass0 (pa_cons (pe_makeH hGrid (hr.mono (by decide)) pass0 (pa_cons (pe_dget (Nat.lt_of_le_of_lt (Nat.add_le_add_left (by decide) _) hu) (pv 3) pe_str (fun _ _ => rfl)) pa_nil)) (pa_cons (pv 7) pa_nil))) (nomark _)))))) (pss_one
 (ps_ret pe_bl)) pss_nil)))))))))
 (pss_cons
 (ps_par (i := 9) (j := 10) (by rfl) sc_law.nd rfl rfl (by decide) rfl rfl (pa_cons (pe_makeG hVector gd (hr.mono (by decide)) pass0 (pa_cons (pe_makeH hGrid (hr.mono (by decide)) pass0 (pa_cons pe_str pa_nil)) (pa_cons (pe_tup (pa_cons pe_int (pa_cons pe_int pa_nil))) pa_nil))) (pa_cons (pe_makeG hVector gd (hr.mono (by decide)) pass0 (pa_cons (pe_makeH hGrid (hr.mono (by decide)) pass0 (pa_cons pe_str pa_nil)) (pa_cons (pe_tup (pa_cons pe_int (pa_cons pe_int pa_nil))) pa_nil))) pa_nil)) (by rfl))
 (pss_cons
 (ps_set (i := 11) sc_law.nd rfl (Or.inl rfl) (pe_lst (pa_cons (pe_cmpR (op_eqV hm_veq gd (hr.mono (by decide)) pass0) (pv 9) (pv 10) (nomark _)) (pa_cons (pe_fld (pv 9) rfl) (pa_cons (pe_fld (pv 10) rfl) (pa_cons (pe_callTy (call_strV hm_vstr gd (hr.mono (by decide)) pass0) (by exact rfl) T.zstr (by decide +kernel) (pa_cons (pe_op (op_binV (m := "__mul__") (by decide +kernel) hm_vmul bk_mul gd (hr.mono (by decide)) pass0) (pv 9) (pv 9)) pa_nil)) (pa_cons (pe_callTy (call_strV hm_vstr gd (hr.mono (by decide)) pass0) (by exact rfl) T.zstr (by decide +kernel) (pa_cons (pe_op (op_binV (m := "__mul__") (by decide +kernel) hm_vmul bk_mul gd (hr.mono (by decide)) pass0) (pv 10) (pv 10)) pa_nil)) pa_nil)))))))
 (pss_cons
 (ps_set (i := 11) sc_law.nd rfl (Or.inl rfl) (pe_op op_cat (pv 11) (pe_lst (pa_cons (pe_fld (pe_methV (pv 9) vcls (fun D d => ⟨_, hm_vpower D d⟩) gd (hr.mono (by decide)) pass0 (pa_cons pe_int pa_nil)) rfl) (pa_cons (pe_callTy (call_boolV hm_vbool gd (hr.mono (by decide)) pass0) (by exact rfl) T.zbool (by decide +kernel) (pa_cons (pe_op (op_binV (m := "__sub__") (by decide +kernel) hm_vsub bk_sub gd (hr.mono (by decide)) pass0) (pv 9) (pv 9)) pa_nil)) pa_nil)))))
 (pss_cons
 (ps_par (i := 12) (j := 13) (by rfl) sc_law.nd rfl rfl (by decide) rfl rfl (pa_cons (pe_makeG hVector gd (hr.mono (by decide)) pass0 (pa_cons (pe_makeH hGrid (hr.mono (by decide)) pass0 (pa_cons pe_str pa_nil)) (pa_cons (pe_tup (pa_cons (pe_op op_sub (pe_call0H h_law_limit gd (hr.mono (by decide)) pass0) pe_int) (pa_cons (pe_op op_sub pe_int (pe_call0H h_law_limit gd (hr.mono (by decide)) pass0)) pa_nil))) pa_nil))) (pa_cons (pe_methV (pv 9) vcls (fun D d => ⟨_, hm_vpower D d⟩) gd (hr.mono (by decide)) pass0 (pa_cons pe_int pa_nil)) pa_nil)) (by rfl))
 (pss_cons
 (ps_if (pt_cmpR (op_neD hu) (pe_fld (pe_op (op_binV (m := "__add__") (by decide +kernel) hm_vadd bk_add gd (hr.mono (by decide)) pass0) (pv 12) (pv 12)) rfl) (pe_tup (pa_cons (pe_op op_sub (pe_op op_mul pe_int (pe_call0H h_law_limit gd (hr.mono (by decide)) pass0)) pe_int) (pa_cons (pe_op op_sub pe_int (pe_op op_mul pe_int (pe_call0H h_law_limit gd (hr.mono (by decide)) pass0))) pa_nil))) (nomark _)) (pss_one
 (ps_ret pe_bl)) pss_nil)
 (pss_one
 (ps_ret (pe_and (pe_cmpR (op_eqD hu) (pv 11) (pe_lst (pa_cons pe_bl (pa_cons pe_int (pa_cons pe_int (pa_cons pe_str (pa_cons pe_str (pa_cons (pe_tup (pa_cons pe_int (pa_cons pe_int pa_nil))) (pa_cons pe_bl pa_nil)))))))) (nomark _)) (pe_one (pe_cmpR (op_eqV hm_veq gd (hr.mono (by decide)) pass0) (pe_methV (pv 9) vcls (fun D d => ⟨_, hm_vpower D d⟩) gd (hr.mono (by decide)) pass0 (pa_cons pe_int pa_nil)) (pe_op (op_binV (m := "__mul__") (by decide +kernel) hm_vmul bk_mul gd (hr.mono (by decide)) pass0) (pv 13) (pv 13)) (nomark _)))))))))))), ?_⟩
    refine ⟨_, rfl, _, _, rfl, .inl hS, _, _, rfl, _, _, rfl, ?_⟩
    generalize hz : (if (if ((ns.map V.int).length : Int) < 5 then ((ns.map V.int).length : Int) else 5) > 1 then (if ((ns.map V.int).length : Int) < 5 then ((ns.map V.int).length : Int) else 5) else 1) = z
    obtain ⟨z0, z5⟩ := few_of (k := 5) (by decide) z hz
    refine ⟨z, rfl, by omega, by omega, for_range (lo := 0) (n := z.toNat) (fun i σ' H' => ∃ v1 v2 v3 v4 v5 v6 v7 v8 v9 v10 v11 v12 v13, σ' = [some (.ref a), v1, v2, v3, v4, v5, v6, v7, v8, v9, v10, v11, v12, v13] ∧ SqL K H' a (ns.map V.int))
      ⟨none, none, none, none, none, none, none, none, none, none, none, none, none, rfl, hS⟩ ?_ ?_⟩
    · rintro i' _ H0 hi ⟨v1, v2, v3, v4, v5, v6, v7, v8, v9, v10, v11, v12, v13, rfl, hS0⟩
      refine ⟨_, rfl, _, rfl, a, ns, _, rfl, hS0, (by omega), fun p H1 np same die => ?_⟩
      refine ⟨_, rfl, p, rfl, die, fun q t H2 nq qp hq g2 => ?_⟩
      refine ⟨_, rfl, q, _, rfl, hq.get, fun x dx hx hdx ne => ⟨x, dx, t, rfl, upd_same, fun H3 hk hx3 => ⟨rfl, ?_⟩⟩⟩
      have s3 : Same H2 H3 := same_made hx hdx hk
      have g3 := g2.over_same s3
      have d3 := g3.die
      have kq : ∀ {H'}, Got p H3 H' → PlainAt H' q t := fun g => (show PlainAt H3 q t from s3 _ _ hq).got g d3
      have kg : ∀ {H'}, Got p H3 H' → GridAt C U H' x t := fun g => (show GridAt C U H3 x t from ⟨dx, hx3⟩).got g d3
      refine ⟨3, rfl, by decide, by decide, for_range (lo := 0) (n := 3) (fun j σ' H' => ∃ v5 v6 v7 v8 v9 v10 v11 v12 v13, σ' = [some (.ref a), some (.int (0 + (i' : Int))), some (.ref p), some (.ref q), some (.ref x), v5, v6, v7, v8, v9, v10, v11, v12, v13] ∧ Got p H3 H') ⟨_, _, _, _, _, _, _, _, _, rfl, Got.same d3⟩ ?_ ?_⟩
      · rintro j _ H4 hj ⟨v5, v6, v7, v8, v9, v10, v11, v12, v13, rfl, g4⟩
        refine ⟨_, rfl, _, rfl, _, rfl, p, q, x, t, rfl, g4.die, kq g4, kg g4, fun H5 g5 => ⟨true, rfl, (iteF ?_ : if (!true) = true then _ else _)⟩⟩
        refine ⟨_, rfl, _, rfl, _, rfl, p, q, x, t, rfl, g5.die, kq (g4.trans g5), kg (g4.trans g5), fun H6 g6 => ⟨true, rfl, (iteF ?_ : if (!true) = true then _ else _)⟩⟩
        exact ⟨_, _, _, _, _, _, _, _, _, rfl, (g4.trans g5).trans g6⟩
      rintro _ H4 ⟨v5, v6, v7, v8, v9, v10, v11, v12, v13, rfl, g4⟩
      refine ⟨_, rfl, by show 2 ≤ sizeLine; decide, fun o ho => ?_⟩
      have so : Same H4 (upd H4 o (.tup [.int 1, .int 2])) := Same.new ho
      have go := g4.over_same so
      refine mk_vec2 (u := (1, 2)) (kg go) (PAt.of upd_same) ⟨short_of (by decide), short_of (by decide)⟩ fun v1 H5 n5 s5 b1 => ?_
      have g5 := go.over_same s5
      refine ⟨_, rfl, p, rfl, g5.die, fun am y H6 ly py g6' => ⟨_, _, rfl, ?_⟩⟩
      have g6 := g5.trans g6'
      have k1 : ∀ {H'}, Got p H5 H' → VecAt K C U CV H' v1 t (1, 2) := fun g => b1.got g g5.die
      have ky : ∀ {H'}, Got p H6 H' → PAt K H' am y := fun g => py.got g g6.die
      have nf_g : PySem.W.notFirst K CV (.ref C) = true := by
        unfold PySem.W.notFirst
        rw [vi.gv]
        simp
      refine ⟨_, rfl, by show 2 ≤ sizeLine; decide, fun Z1 hZ1 => ?_⟩
      have q1 : Of K (upd H6 Z1 (.tup [.int 1, .int 2])) (.ref Z1) .tup := .tup upd_same
      have y1 : Same H6 (upd H6 Z1 (.tup [.int 1, .int 2])) := Same.new hZ1
      generalize upd H6 Z1 (.tup [.int 1, .int 2]) = Y1 at *
      refine ⟨_, rfl, _, rfl, by show 1 ≤ sizeLine; decide, fun Z2 hZ2 => ?_⟩
      have q2 : Of K (upd Y1 Z2 (.lst [.ref v1])) (.ref Z2) .lst := .lst upd_same
      have y2 : Same Y1 (upd Y1 Z2 (.lst [.ref v1])) := Same.new hZ2
      replace q1 := q1.same y2
      generalize upd Y1 Z2 (.lst [.ref v1]) = Y2 at *
      refine ⟨_, rfl, by show 1 ≤ sizeLine; decide, fun Z3 hZ3 => ?_⟩
      have q3 : Of K (upd Y2 Z3 (.tup [.ref v1])) (.ref Z3) .tup := .tup upd_same
      have y3 : Same Y2 (upd Y2 Z3 (.tup [.ref v1])) := Same.new hZ3
      replace q1 := q1.same y3
      replace q2 := q2.same y3
      generalize upd Y2 Z3 (.tup [.ref v1]) = Y3 at *
      intro Z4 hZ4
      have q4 : Of K (upd Y3 Z4 (.dK [])) (.ref Z4) .dct := .dct upd_same
      have y4 : Same Y3 (upd Y3 Z4 (.dK [])) := Same.new hZ4
      replace q1 := q1.same y4
      replace q2 := q2.same y4
      replace q3 := q3.same y4
      generalize upd Y3 Z4 (.dK []) = Y4 at *
      refine ⟨_, rfl, by show 2 ≤ sizeLine; decide, fun o2 ho2 => ?_⟩
      have yo : Same Y4 (upd Y4 o2 (.tup [.int 2, .int 1])) := Same.new ho2
      have yA := (((y1.trans y2).trans y3).trans y4).trans yo
      have gA := g6.over_same yA
      refine mk_vec2 (u := (2, 1)) (kg gA) (PAt.of upd_same) ⟨short_of (by decide), short_of (by decide)⟩ fun v2 H7 n7 s7 b2 => ?_
      have g7 := gA.over_same s7
      replace q1 := (q1.same yo).same s7
      replace q2 := (q2.same yo).same s7
      replace q3 := (q3.same yo).same s7
      replace q4 := (q4.same yo).same s7
      refine ⟨by show 9 ≤ sizeLine; decide, fun LL hLL => ?_⟩
      have Lp : LL ≠ p := (g7.die.ne hLL).symm
      have s8 : Same H7 (upd H7 LL (.lst [.non, .ref Z1, .str "1,2", .int 1, .ref x, .ref Z2, .ref Z3, .ref Z4, .ref v2])) := Same.new hLL
      have eLL : upd H7 LL (.lst [.non, .ref Z1, .str "1,2", .int 1, .ref x, .ref Z2, .ref Z3, .ref Z4, .ref v2]) LL = some (.lst [.non, .ref Z1, .str "1,2", .int 1, .ref x, .ref Z2, .ref Z3, .ref Z4, .ref v2]) := upd_same
      replace q1 := q1.same s8
      replace q2 := q2.same s8
      replace q3 := q3.same s8
      replace q4 := q4.same s8
      replace b2 := b2.same s8
      have g8 := g7.over_same s8
      generalize upd H7 LL (.lst [.non, .ref Z1, .str "1,2", .int 1, .ref x, .ref Z2, .ref Z3, .ref Z4, .ref v2]) = H8 at *
      refine ⟨p, LL, _, rfl, g8.die, .inl eLL, Lp, by show 0 < 9; decide, by show 9 ≤ 1000; decide, fun v H9 hv g9' => ?_⟩
      have g9 := g8.trans g9'
      obtain ⟨TT, ov, ty, nf⟩ : ∃ TT, VOpd K C U CV CM H9 t (1, 2) v false ∧ TyX K H9 v TT ∧ PySem.W.notFirst K CV TT = true := by
        have kind : ∀ {kd : Kd}, Of K H9 v kd → ∃ TT, VOpd K C U CV CM H9 t (1, 2) v false ∧ TyX K H9 v TT ∧ PySem.W.notFirst K CV TT = true := fun {kd} o => ⟨_, .inr (.inl ⟨kd, o, rfl⟩), o, nf_kd kd⟩
        simp only [List.mem_cons, List.not_mem_nil, or_false] at hv
        rcases hv with e | e | e | e | e | e | e | e | e <;> subst e
        · exact kind .non
        · exact kind (q1.got g9' g8.die)
        · exact kind .str
        · exact kind .int
        · have gx := kg g9
          obtain ⟨dg, eg⟩ := id gx
          exact ⟨_, .inr (.inr ⟨x, t, rfl, gx, rfl⟩), i.ty c.cls eg, nf_g⟩
        · exact kind (q2.got g9' g8.die)
        · exact kind (q3.got g9' g8.die)
        · exact kind (q4.got g9' g8.die)
        · have bx := b2.got g9' g8.die
          exact ⟨_, .inl ⟨v2, CV, t, (2, 1), rfl, iV, bx, by cases t <;> decide⟩, bx.ty vi.v (vcs _ iV).cls, nf_self⟩
      have k56 : Got p H5 H9 := (((g6'.over_same yA).over_same s7).over_same s8).trans g9'
      have k69 : Got p H6 H9 := (((Got.same g6.die).over_same yA).over_same s7 |>.over_same s8).trans g9'
      have w1 := k1 k56
      refine ⟨_, rfl, _, rfl, eq_go w1 iV ov ty nf ⟨_, rfl, (iteF ?_ : if (false != false) = true then _ else _)⟩⟩
      refine ⟨_, rfl, _, rfl, eq_go w1 iV ov ty nf ⟨_, rfl, (iteF ?_ : if (!(true != false)) = true then _ else _)⟩⟩
      refine ⟨_, rfl, _, rfl, ?_⟩
      refine mk_vec2 (kg g9) (ky k69) (ly.ok60 (by decide +kernel)) fun v3 H10 n10 s10 b3 => ?_
      have g10 := g9.over_same s10
      refine ⟨_, rfl, _, _, rfl, (kq g10).get, fun x2 dx2 hx2 hdx2 ne2 => ⟨x2, dx2, t, rfl, upd_same, fun H11 hk11 hx11 => ⟨rfl, ?_⟩⟩⟩
      have s11 : Same H10 H11 := same_made hx2 hdx2 hk11
      refine ⟨_, rfl, ?_⟩
      refine mk_vec2 (u := y) (show GridAt C U H11 x2 t from ⟨dx2, hx11⟩) ((ky k69).same (s10.trans s11)) (ly.ok60 (by decide +kernel)) fun v4 H12 n12 s12 b4 => ?_
      refine eqv_go (r := true) vi vcs (b3.same (s11.trans s12)) b4 iV iV (.inr ⟨rfl, rfl⟩) (by simp) ⟨_, rfl, (iteF ?_ : if (true != true) = true then _ else _)⟩
      exact ⟨_, _, _, _, _, _, _, _, _, _, _, _, _, rfl, seq_got hS0 np same (g3.trans ((g9.over_same s10).over_same (s11.trans s12)))⟩
    · rintro _ H0 ⟨v1, v2, v3, v4, v5, v6, v7, v8, v9, v10, v11, v12, v13, rfl, hS0⟩
      have o11 : ptOk (1, 1) := ⟨short_of (by decide), short_of (by decide)⟩
      refine fun x dx hx hdx ne => ⟨x, dx, false, rfl, upd_same, fun H1 hk1 e1 => ⟨rfl, ?_⟩⟩
      refine ⟨by show 2 ≤ sizeLine; decide, fun o ho => ?_⟩
      have so := Same.new (o := .tup [.int 1, .int 1]) ho
      refine mk_vec2 (t := false) (u := (1, 1)) (GridAt.same (g := x) ⟨dx, e1⟩ so) (PAt.of upd_same) o11 fun sq H2 n2 s2 bq => ?_
      refine fun x3 dx3 hx3 hdx3 ne3 => ⟨x3, dx3, true, rfl, upd_same, fun H3 hk3 e3 => ⟨rfl, ?_⟩⟩
      have s3 : Same H2 H3 := same_made hx3 hdx3 hk3
      refine ⟨by show 2 ≤ sizeLine; decide, fun o2 ho2 => ?_⟩
      have so2 := Same.new (o := .tup [.int 1, .int 1]) ho2
      refine mk_vec2 (t := true) (u := (1, 1)) (GridAt.same (g := x3) ⟨dx3, e3⟩ so2) (PAt.of upd_same) o11 fun tr H4 n4 s4 bt => ⟨_, _, rfl, ?_⟩
      replace bq := bq.same ((s3.trans so2).trans s4)
      have l1 : Le 1 ((1, 1) : Int × Int) := ⟨by decide, by decide⟩
      have S1 : Sm ((1, 1) : Int × Int) := l1.sm60 (by decide +kernel)
      have lp : ∀ i, i ≤ 1000 → Le (3 ^ 1000) (pw false (1, 1) i) := fun i hi => (pw_le l1 i).mono (by rw [Nat.mul_one]; exact Nat.pow_le_pow_right (by decide) hi)
      have sp : ∀ i, i ≤ 1000 → Sm (pw false (1, 1) i) := fun i hi => ⟨Nat.lt_of_le_of_lt (lp i hi).1 (by decide +kernel), Nat.lt_of_le_of_lt (lp i hi).2 (by decide +kernel)⟩
      obtain ⟨dq, gq, aq, eq1, hgq, pq⟩ := id bq
      obtain ⟨dt, gt, at', et1, hgt, pt'⟩ := id bt
      refine ⟨_, rfl, _, rfl, eqv_go (r := false) vi vcs bq bt iV iV (.inr ⟨rfl, rfl⟩) (by decide) ?_⟩
      refine ⟨_, rfl, _, _, _, _, _, rfl, eq1, (vcs _ iV).cls, (vcs _ iV).norm, vF_norm, _, rfl, _, _, _, _, _, rfl, et1, (vcs _ iV).cls, (vcs _ iV).norm, vF_norm, ?_⟩
      refine ⟨_, rfl, _, rfl, bin_go bq bq iV iV ⟨sq, sq, CV, CV, false, (1, 1), (1, 1), rfl, iV, iV, bq, bq, S1, S1, (l1.mul l1).sm60 (by decide +kernel), fun r5 H5 n5 s5 w5 => ?_⟩⟩
      refine one_go w5 iM ⟨r5, CM, false, _, rfl, iM, w5, (l1.mul l1).ok60 (by decide +kernel), fun H6 s6 => ⟨_, rfl, ?_⟩⟩
      have s56 := s5.trans s6
      have bt6 := bt.same s56
      refine ⟨_, rfl, _, rfl, bin_go bt6 bt6 iV iV ⟨tr, tr, CV, CV, true, (1, 1), (1, 1), rfl, iV, iV, bt6, bt6, S1, S1, (l1.mul l1).sm60 (by decide +kernel), fun r7 H7 n7 s7 w7 => ?_⟩⟩
      refine one_go w7 iM ⟨r7, CM, true, _, rfl, iM, w7, (l1.mul l1).ok60 (by decide +kernel), fun H8 s8 => ⟨_, rfl, ?_⟩⟩
      rw [show vText (mul false (1, 1) (1, 1)) = Str.ofString "0,2" by decide +kernel, show vText (mul true (1, 1) (1, 1)) = Str.ofString "0,3" by decide +kernel, show nrm false (1, 1) = 2 by decide, show nrm true (1, 1) = 3 by decide]
      have s58 := s56.trans (s7.trans s8)
      refine ⟨by show 5 ≤ sizeLine; decide, fun L1 hL1 => ?_⟩
      have s9 : Same H8 (upd H8 L1 (.lst [.bl false, .int 2, .int 3, .str "0,2", .str "0,3"])) := Same.new hL1
      have eL1 : upd H8 L1 (.lst [.bl false, .int 2, .int 3, .str "0,2", .str "0,3"]) L1 = some (.lst [.bl false, .int 2, .int 3, .str "0,2", .str "0,3"]) := upd_same
      change (fun H9 => _) (upd H8 L1 (.lst [.bl false, .int 2, .int 3, .str "0,2", .str "0,3"]))
      generalize upd H8 L1 (.lst [.bl false, .int 2, .int 3, .str "0,2", .str "0,3"]) = H9 at *
      have s49 := s58.trans s9
      have bq9 := bq.same s49
      obtain ⟨_, _, _, eq9, _⟩ := id bq9
      refine ⟨_, rfl, _, rfl, sq, CV, _, _, rfl, iV, eq9, rfl, sq, CV, false, (1, 1), 0, rfl, iV, bq9, by decide, S1, fun i hi => sp i (by omega), fun r10 H10 n10 s10 w10 => ?_⟩
      obtain ⟨d10, g10, a10, e10, _, p10⟩ := id w10
      refine ⟨_, _, _, _, _, rfl, e10, (vcs _ iM).cls, (vcs _ iM).point, vF_point, ?_⟩
      have bq10 := bq9.same s10
      refine ⟨_, rfl, _, rfl, bin_go bq10 bq10 iV iV ⟨sq, sq, CV, CV, false, (1, 1), (1, 1), rfl, iV, iV, bq10, bq10, S1, S1, (Le.psub l1 l1).sm60 (by decide +kernel), fun r11 H11 n11 s11 w11 => ?_⟩⟩
      refine one_go w11 iM ⟨r11, CM, false, _, rfl, iM, w11, fun H12 s12 => ⟨_, rfl, ?_⟩⟩
      refine ⟨by show 2 ≤ sizeLine; decide, fun L2 hL2 => ?_⟩
      have s4c := ((s49.trans s10).trans s11).trans s12
      have s9c := (s10.trans s11).trans s12
      have s13 : Same H12 (upd H12 L2 (.lst [.ref a10, .bl (!decide (psub (1, 1) (1, 1) = (0, 0)))])) := Same.new hL2
      refine ⟨L1, L2, _, _, rfl, rfl, (s9c.trans s13) _ _ eL1, upd_same, by show 7 ≤ sizeLine; decide, fun L3 hL3 => ?_⟩
      have p10' : PAt K H12 a10 (1, 0) := p10.same (s11.trans s12)
      have eL3 : upd (upd H12 L2 (.lst [.ref a10, .bl (!decide (psub (1, 1) (1, 1) = (0, 0)))])) L3 (.lst [.bl false, .int 2, .int 3, .str "0,2", .str "0,3", .ref a10, .bl (!decide (psub (1, 1) (1, 1) = (0, 0)))]) L3 = some (.lst [.bl false, .int 2, .int 3, .str "0,2", .str "0,3", .ref a10, .bl (!decide (psub (1, 1) (1, 1) = (0, 0)))]) := upd_same
      have s14 := s13.trans (Same.new (o := .lst [.bl false, .int 2, .int 3, .str "0,2", .str "0,3", .ref a10, .bl (!decide (psub (1, 1) (1, 1) = (0, 0)))]) hL3)
      change (fun H13 => _) (upd (upd H12 L2 (.lst [.ref a10, .bl (!decide (psub (1, 1) (1, 1) = (0, 0)))])) L3 (.lst [.bl false, .int 2, .int 3, .str "0,2", .str "0,3", .ref a10, .bl (!decide (psub (1, 1) (1, 1) = (0, 0)))]))
      generalize upd (upd H12 L2 (.lst [.ref a10, .bl (!decide (psub (1, 1) (1, 1) = (0, 0)))])) L3 (.lst [.bl false, .int 2, .int 3, .str "0,2", .str "0,3", .ref a10, .bl (!decide (psub (1, 1) (1, 1) = (0, 0)))]) = H13 at *
      have p13 := p10'.same s14
      have bq13 := bq.same (s4c.trans s14)
      refine fun x5 dx5 hx5 hdx5 ne5 => ⟨x5, dx5, false, rfl, upd_same, fun H14 hk14 e14 => ⟨rfl, ?_⟩⟩
      have s15 : Same H13 H14 := same_made hx5 hdx5 hk14
      have Bp : (0 : Int) < B := by rw [B_eq]; decide +kernel
      have Bn : (B : Int).natAbs = 10 ^ 400 := by rw [B_eq]; decide +kernel
      have og : ptOk (B - 1, 1 - B) := ⟨by show (decide (-B < B - 1) && decide (B - 1 < B)) = true; simp only [Bool.and_eq_true, decide_eq_true_eq]; omega, by show (decide (-B < 1 - B) && decide (1 - B < B)) = true; simp only [Bool.and_eq_true, decide_eq_true_eq]; omega⟩
      refine ⟨rfl, _, _, rfl, rfl, rfl, _, _, rfl, rfl, by show 2 ≤ sizeLine; decide, fun o3 ho3 => ?_⟩
      have so3 := Same.new (o := .tup [.int (B - 1), .int (1 - B)]) ho3
      refine mk_vec2 (t := false) (u := (B - 1, 1 - B)) (GridAt.same (g := x5) ⟨dx5, e14⟩ so3) (PAt.of upd_same) og fun gr H15 n15 s16 bg => ?_
      have s13f := (s15.trans so3).trans s16
      have bq15 := bq13.same s13f
      obtain ⟨_, _, _, eq15, _⟩ := id bq15
      refine ⟨_, rfl, sq, CV, _, _, rfl, iV, eq15, rfl, sq, CV, false, (1, 1), 500, rfl, iV, bq15, by decide, S1, fun i hi => sp i (by omega), fun hf H16 n16 s17 bh => ⟨_, _, rfl, ?_⟩⟩
      have bg16 := bg.same s17
      have sgg : Sm (padd (B - 1, 1 - B) (B - 1, 1 - B)) := by
        have h : (2 * 10 ^ 400 : Nat) < 2 ^ 3000 := by decide +kernel
        refine ⟨Nat.lt_of_le_of_lt (?_ : ((B - 1) + (B - 1)).natAbs ≤ 2 * 10 ^ 400) h, Nat.lt_of_le_of_lt (?_ : ((1 - B) + (1 - B)).natAbs ≤ 2 * 10 ^ 400) h⟩ <;> rw [← Bn] <;> omega
      refine ⟨_, rfl, _, rfl, bin_go bg16 bg16 iV iV ⟨gr, gr, CV, CV, false, (B - 1, 1 - B), (B - 1, 1 - B), rfl, iV, iV, bg16, bg16, ptOk_sm og.1 og.2, ptOk_sm og.1 og.2, sgg, fun r18 H17 n17 s18 w18 => ?_⟩⟩
      obtain ⟨d18, g18, a18, e18, _, p18⟩ := id w18
      refine ⟨_, _, _, _, _, rfl, e18, (vcs _ iM).cls, (vcs _ iM).point, vF_point, ?_⟩
      refine ⟨rfl, _, _, rfl, rfl, .inl ⟨by decide, by decide⟩, _, _, rfl, rfl, rfl, _, _, rfl, rfl, .inl ⟨by decide, by decide⟩, _, _, rfl, rfl, by show 2 ≤ sizeLine; decide, fun o4 ho4 => ?_⟩
      have so4 := Same.new (o := .tup [.int (2 * B - 2), .int (2 - 2 * B)]) ho4
      refine ⟨ptD (padd (B - 1, 1 - B) (B - 1, 1 - B)), ptD (2 * B - 2, 2 - 2 * B), (p18.same so4).dp, PAt.dp (u := (2 * B - 2, 2 - 2 * B)) (PAt.of upd_same), ptD_shaped _, ptD_shaped _, ?_⟩
      have dbl : padd (B - 1, 1 - B) (B - 1, 1 - B) = (2 * B - 2, 2 - 2 * B) := by
        unfold padd
        ext
        · show (B - 1) + (B - 1) = 2 * B - 2; omega
        · show (1 - B) + (1 - B) = 2 - 2 * B; omega
      rw [ptD_eqv, decide_eq_true dbl]
      refine ⟨_, rfl, (iteF ?_ : if (!true) = true then _ else _)⟩
      have s13z := ((s13f.trans s17).trans s18).trans so4
      refine ⟨_, rfl, by show 2 ≤ sizeLine; decide, fun o5 ho5 => ?_⟩
      have so5 := Same.new (o := .tup [.int 1, .int 0]) ho5
      refine ⟨by show 7 ≤ sizeLine; decide, fun L4 hL4 => ?_⟩
      have so6 := so5.trans (Same.new (o := .lst [.bl false, .int 2, .int 3, .str "0,2", .str "0,3", .ref o5, .bl false]) hL4)
      have sF := s13z.trans so6
      refine ⟨.list [.bool false, .int 2, .int 3, .str "0,2", .str "0,3", ptD (1, 0), .bool (!decide (psub (1, 1) (1, 1) = (0, 0)))], .list [.bool false, .int 2, .int 3, .str "0,2", .str "0,3", ptD (1, 0), .bool false], ?_, ?_, by decide +kernel, by decide +kernel, ?_⟩
      · exact .lst (SqL.of (sF _ _ eL3)) (.cons (.bl _) (.cons (.int _) (.cons (.int _) (.cons (.str _) (.cons (.str _) (.cons (p13.same sF).dp (.cons (.bl _) .nil)))))))
      · exact .lst (SqL.of upd_same) (.cons (.bl _) (.cons (.int _) (.cons (.int _) (.cons (.str _) (.cons (.str _) (.cons (PAt.dp (u := (1, 0)) (PAt.of (new_keep upd_same hL4))) (.cons (.bl _) .nil)))))))
      rw [show PyData.eqv (.list [.bool false, .int 2, .int 3, .str "0,2", .str "0,3", ptD (1, 0), .bool (!decide (psub (1, 1) (1, 1) = (0, 0)))]) (.list [.bool false, .int 2, .int 3, .str "0,2", .str "0,3", ptD (1, 0), .bool false]) = true by decide +kernel]
      refine ⟨_, rfl, iteT ?_⟩
      have bqF := bq13.same sF
      have bhF := bh.same ((s18.trans so4).trans so6)
      obtain ⟨_, _, _, eqF, _⟩ := id bqF
      refine ⟨_, rfl, sq, CV, _, _, rfl, iV, eqF, rfl, sq, CV, false, (1, 1), 1000, rfl, iV, bqF, by decide, S1, fun i hi => sp i hi, fun r20 H20 n20 s20 w20 => ?_⟩
      have bh20 := bhF.same s20
      refine ⟨_, rfl, _, rfl, bin_go bh20 bh20 iM iM ⟨hf, hf, CM, CM, false, pw false (1, 1) 500, pw false (1, 1) 500, rfl, iM, iM, bh20, bh20, sp _ (by decide), sp _ (by decide), by rw [pw_add]; exact sp _ (by decide), fun r21 H21 n21 s21 w21 => ?_⟩⟩
      have w21' : VecAt K C U CM H21 r21 false (mul false (pw false (1, 1) 500) (pw false (1, 1) 500)) := w21
      rw [pw_add] at w21'
      refine eqv_go (r := true) vi vcs (w20.same s21) w21' iM iM (.inl ⟨rfl, .inl rfl⟩) (by rw [decide_eq_true rfl]; rfl) ?_
      exact k _
end
theorem all_mk {P : Program} {w : World} {K : PySem.W.Frag} {h : Heap} {mg : Str → Option Value} {fa : Addr} {aG dU C CV CM aS aT s0 s1 s2 s3 t0 t1 t2 t3 t4 t5 : Addr} (X : K.In h) (G : h.Ns mainGlobals mg) (hfa : mg "law" = some (.ref fa))
    (z0 : PySem.W.nsIn K mainGlobals "isinstance" = some none)
    (z1 : PySem.W.nsIn K mainGlobals "bool" = some none)
    (z2 : PySem.W.nsIn K mainGlobals "int" = some none)
    (z3 : PySem.W.nsIn K mainGlobals "tuple" = some none)
    (z4 : PySem.W.nsIn K mainGlobals "len" = some none)
    (z5 : PySem.W.nsIn K mainGlobals "max" = some none)
    (z6 : PySem.W.nsIn K mainGlobals "min" = some none)
    (z7 : PySem.W.nsIn K mainGlobals "abs" = some none)
    (z8 : PySem.W.nsIn K mainGlobals "range" = some none)
    (z9 : PySem.W.nsIn K mainGlobals "repr" = some none)
    (z10 : PySem.W.nsIn K mainGlobals "str" = some none)
    (z11 : PySem.W.nsIn K mainGlobals "divmod" = some none)
    (gG : PySem.W.nsIn K mainGlobals "GRIDS" = some (some (.ref aG))) (gU : PySem.W.nsIn K mainGlobals "_UNITS" = some (some (.ref dU))) (gC : PySem.W.nsIn K mainGlobals "Grid" = some (some (.ref C))) (c : GCls K C)
    (tg : TupK K aG [.str "square", .str "triangle"]) (kS : KDct K w dU "square" (.ref aS)) (kT : KDct K w dU "triangle" (.ref aT)) (tS : TupK K aS [.ref s0, .ref s1, .ref s2, .ref s3]) (tT : TupK K aT [.ref t0, .ref t1, .ref t2, .ref t3, .ref t4, .ref t5])
    (p0 : TupK K s0 [.int 1, .int 0]) (p1 : TupK K s1 [.int 0, .int 1]) (p2 : TupK K s2 [.int (-1), .int 0]) (p3 : TupK K s3 [.int 0, .int (-1)])
    (q0 : TupK K t0 [.int 1, .int 0]) (q1 : TupK K t1 [.int 0, .int 1]) (q2 : TupK K t2 [.int (-1), .int 1]) (q3 : TupK K t3 [.int (-1), .int 0]) (q4 : TupK K t4 [.int 0, .int (-1)]) (q5 : TupK K t5 [.int 1, .int (-1)])
    (di : Dc K C "Grid.__init__" s_Grid_WinitW)
    (m0 : Dm K C "__eq__" "Grid.__eq__" s_Grid_WeqW)
    (gi : GIs K C) (uS : ∃ o, K.lookup aS = some o ∧ o.cls = .type "tuple" ∧ o.dict = none) (uT : ∃ o, K.lookup aT = some o ∧ o.cls = .type "tuple" ∧ o.dict = none)
    (vgV : PySem.W.nsIn K mainGlobals "Vector" = some (some (.ref CV))) (vgM : PySem.W.nsIn K mainGlobals "MadeVector" = some (some (.ref CM))) (vcV : VCls K CV) (vcM : VCls K CM) (viV : GIs K CV) (viM : GIs K CM)
    (vgv : PySem.W.subIn K (.ref C) (.ref CV) = some false) (vgm : PySem.W.subIn K (.ref C) (.ref CM) = some false) (vnC : C ≠ CV) (vX : ClsTxt K CV CM "MadeVector")
    (voadd : OpTxt K CV CM "__add__" "__radd__")
    (vosub : OpTxt K CV CM "__sub__" "__rsub__")
    (vomul : OpTxt K CV CM "__mul__" "__rmul__")
    (vofloordiv : OpTxt K CV CM "__floordiv__" "__rfloordiv__")
    (vfV : ∃ f : Addr, PySem.W.findIn K (.ref CV) "__getitem__" = some (some (.ref f)) ∧ PySem.W.fnIn K f = true)
    (vfM : ∃ f : Addr, PySem.W.findIn K (.ref CM) "__getitem__" = some (some (.ref f)) ∧ PySem.W.fnIn K f = true)
    (vdV : Dc K CV "Vector.__init__" s_Vector_WinitW) (vdM : Dc K CM "MadeVector.__init__" s_MadeVector_WinitW)
    (va0 : Dm K CV "turned" "Vector.turned" s_Vector_turned)
    (va1 : Dm K CV "mirrored" "Vector.mirrored" s_Vector_mirrored)
    (va2 : Dm K CV "power" "Vector.power" s_Vector_power)
    (va3 : Dm K CV "__getitem__" "Vector.__getitem__" s_Vector_WgetitemW)
    (va4 : Dm K CV "__add__" "Vector.__add__" s_Vector_WaddW)
    (va5 : Dm K CV "__sub__" "Vector.__sub__" s_Vector_WsubW)
    (va6 : Dm K CV "__mul__" "Vector.__mul__" s_Vector_WmulW)
    (va7 : Dm K CV "__floordiv__" "Vector.__floordiv__" s_Vector_WfloordivW)
    (va8 : Dm K CV "__neg__" "Vector.__neg__" s_Vector_WnegW)
    (va9 : Dm K CV "__bool__" "Vector.__bool__" s_Vector_WboolW)
    (va10 : Dm K CV "__eq__" "Vector.__eq__" s_Vector_WeqW)
    (va11 : Dm K CV "__str__" "Vector.__str__" s_Vector_WstrW)
    (vb0 : Dm K CM "turned" "Vector.turned" s_Vector_turned)
    (vb1 : Dm K CM "mirrored" "Vector.mirrored" s_Vector_mirrored)
    (vb2 : Dm K CM "power" "Vector.power" s_Vector_power)
    (vb3 : Dm K CM "__getitem__" "Vector.__getitem__" s_Vector_WgetitemW)
    (vb4 : Dm K CM "__add__" "Vector.__add__" s_Vector_WaddW)
    (vb5 : Dm K CM "__sub__" "Vector.__sub__" s_Vector_WsubW)
    (vb6 : Dm K CM "__mul__" "Vector.__mul__" s_Vector_WmulW)
    (vb7 : Dm K CM "__floordiv__" "Vector.__floordiv__" s_Vector_WfloordivW)
    (vb8 : Dm K CM "__neg__" "Vector.__neg__" s_Vector_WnegW)
    (vb9 : Dm K CM "__bool__" "Vector.__bool__" s_Vector_WboolW)
    (vb10 : Dm K CM "__eq__" "Vector.__eq__" s_Vector_WeqW)
    (vb11 : Dm K CM "__str__" "Vector.__str__" s_Vector_WstrW)
    (dig : PySem.W.nsIn K cStatics "sys.int_max_str_digits" = some none)
    (g0 : ∃ u, PySem.W.nsIn K mainGlobals "_BOUND" = some (some u) ∧ RelV (.int B) u)
    (g1 : ∃ u, PySem.W.nsIn K mainGlobals "MAX_FIGURES" = some (some u) ∧ RelV (.int 400) u)
    (g2 : ∃ u, PySem.W.nsIn K mainGlobals "MAX_POWER" = some (some u) ∧ RelV (.int 1000) u)
    (d0 : Df K mg "is_integer" s_is_integer)
    (d1 : Df K mg "is_point" s_is_point)
    (d2 : Df K mg "plus" s_plus)
    (d3 : Df K mg "minus" s_minus)
    (d4 : Df K mg "times" s_times)
    (d5 : Df K mg "norm_in" s_norm_in)
    (d6 : Df K mg "flipped" s_flipped)
    (d7 : Df K mg "turned_by" s_turned_by)
    (d8 : Df K mg "divided" s_divided)
    (d9 : Df K mg "raised" s_raised)
    (d10 : Df K mg "write_integer" s_write_integer)
    (d11 : Df K mg "_check_point" s__check_point)
    (d12 : Df K mg "_check_number" s__check_number)
    (d13 : Df K mg "_check_partner" s__check_partner)
    (d14 : Df K mg "_law_dice" s__law_dice)
    (d15 : Df K mg "_law_roll" s__law_roll)
    (d16 : Df K mg "_law_pick" s__law_pick)
    (d17 : Df K mg "_law_around" s__law_around)
    (d18 : Df K mg "_law_unit" s__law_unit)
    (d19 : Df K mg "_law_plus" s__law_plus)
    (d20 : Df K mg "_law_minus" s__law_minus)
    (d21 : Df K mg "_law_times" s__law_times)
    (d22 : Df K mg "_law_norm" s__law_norm)
    (d23 : Df K mg "_law_limit" s__law_limit)
    (d24 : Df K mg "_law_part" s__law_part)
    (d25 : Df K mg "_law_place" s__law_place)
    (d26 : Df K mg "_law_mild" s__law_mild)
    (d27 : Df K mg "_law_grid_plain" s__law_grid_plain)
    (d28 : Df K mg "_law_flip" s__law_flip)
    (d29 : Df K mg "_law_spun" s__law_spun)
    (d30 : Df K mg "_law_power_of" s__law_power_of)
    (d31 : Df K mg "_law_is_told" s__law_is_told)
    (d32 : Df K mg "_law_sums_right" s__law_sums_right)
    (d33 : Df K mg "_law_powers_right" s__law_powers_right)
    (d34 : Df K mg "law" s_law)
    : ∃ fd : FuncData, (∀ (s : Shared) (u : Value), BindsTo s fd ⟨[u], []⟩ [("_law_script", u)]) ∧ ∀ base : Heap, K.In base → base.Ns mainGlobals mg → FnG P w K mg base CX0 15 fa fd ["_law_script"] (spLaw K) := by
  have T : Txt K mg aG dU C CV CM := ⟨PySem.W.mg_none_of X G z0, PySem.W.mg_none_of X G z1, PySem.W.mg_none_of X G z2, PySem.W.mg_none_of X G z3, PySem.W.mg_none_of X G z4, PySem.W.mg_none_of X G z5, PySem.W.mg_none_of X G z6, PySem.W.mg_none_of X G z7, PySem.W.mg_none_of X G z8, PySem.W.mg_none_of X G z9, PySem.W.mg_none_of X G z10, PySem.W.mg_none_of X G z11, (let ⟨u, a, r⟩ := g0; ⟨u, PySem.W.mg_of X G a, r⟩), (let ⟨u, a, r⟩ := g1; ⟨u, PySem.W.mg_of X G a, r⟩), (let ⟨u, a, r⟩ := g2; ⟨u, PySem.W.mg_of X G a, r⟩), ⟨_, PySem.W.mg_of X G gG, rfl⟩, ⟨_, PySem.W.mg_of X G gU, rfl⟩, ⟨_, PySem.W.mg_of X G gC, rfl⟩, ⟨_, PySem.W.mg_of X G vgV, rfl⟩⟩
  have hU := uni_mk (w := w) tg kS kT tS tT p0 p1 p2 p3 q0 q1 q2 q3 q4 q5
  refine Df.law d34 hfa (fun base kin hns f fd F => ?_) (fun _ _ _ _ _ _ u => rfl)
  have hi := h_is_integer (P := P) (w := w) (base := base) T d0
  have hpt := h_is_point T d1 hi
  have hplus := h_plus (P := P) (w := w) (base := base) d2
  have hminus := h_minus (P := P) (w := w) (base := base) d3
  have htimes := h_times (P := P) (w := w) (base := base) (U := fun t => cond t aT aS) c d4
  have hnorm := h_norm_in (P := P) (w := w) (base := base) (U := fun t => cond t aT aS) c d5
  have hflip := h_flipped (P := P) (w := w) (base := base) (U := fun t => cond t aT aS) c d6
  have hturn := h_turned_by c hU T d7 htimes
  have hdiv := h_divided d8 htimes hnorm hflip
  have hraise := h_raised d9 htimes 10
  have hwrite := h_write (P := P) (w := w) (base := base) T d10
  have hcp := h_check_point d11 hpt
  have hcn := h_check_number d12 hi
  have vi : VIs K C CV CM := ⟨viV, viM, vX.mv, vX.vm, vgv, vgm, vX.ne⟩
  have vcs : ∀ D, IsV CV CM D → VCls K D := fun D d => by rcases d with rfl | rfl; exact vcV; exact vcM
  have geq := h_geq (P := P) (w := w) (base := base) (U := fun t => cond t aT aS) c gi T m0
  have hpar := h_partner T c gi vi vcs d13 geq
  have mGrid := h_init (P := P) (w := w) (base := base) T hU c di (PySem.W.mg_of X G gC)
  have mVec := h_vinit T c gi vcV vdV (PySem.W.mg_of X G vgV) hcp hnorm
  have mMade := h_minit vcM vdM (PySem.W.mg_of X G vgM) hnorm
  have fadd : ∀ D, IsV CV CM D → HasM P w K mg base CX0 D "__add__" 4 ["self", "other"] (spVBin K C (fun t => cond t aT aS) CV CM (fun _ a b => padd a b)) := fun D d => by rcases d with rfl | rfl; exact h_vadd vcs va4 hpar hplus mMade; exact h_vadd vcs vb4 hpar hplus mMade
  have fsub : ∀ D, IsV CV CM D → HasM P w K mg base CX0 D "__sub__" 4 ["self", "other"] (spVBin K C (fun t => cond t aT aS) CV CM (fun _ a b => psub a b)) := fun D d => by rcases d with rfl | rfl; exact h_vsub vcs va5 hpar hminus mMade; exact h_vsub vcs vb5 hpar hminus mMade
  have fmul : ∀ D, IsV CV CM D → HasM P w K mg base CX0 D "__mul__" 4 ["self", "other"] (spVBin K C (fun t => cond t aT aS) CV CM mul) := fun D d => by rcases d with rfl | rfl; exact h_vmul vcs va6 hpar htimes mMade; exact h_vmul vcs vb6 hpar htimes mMade
  have fdiv : ∀ D, IsV CV CM D → HasM P w K mg base CX0 D "__floordiv__" 4 ["self", "other"] (spVDiv K C (fun t => cond t aT aS) CV CM) := fun D d => by rcases d with rfl | rfl; exact h_vdiv vcs va7 hpar hdiv mMade; exact h_vdiv vcs vb7 hpar hdiv mMade
  have fneg : ∀ D, IsV CV CM D → HasM P w K mg base CX0 D "__neg__" 4 ["self"] (spVUn K C (fun t => cond t aT aS) CV CM (fun _ u => psub (0, 0) u)) := fun D d => by rcases d with rfl | rfl; exact h_vneg vcs va8 hminus mMade; exact h_vneg vcs vb8 hminus mMade
  have fmir : ∀ D, IsV CV CM D → HasM P w K mg base CX0 D "mirrored" 4 ["self"] (spVUn K C (fun t => cond t aT aS) CV CM flip) := fun D d => by rcases d with rfl | rfl; exact h_vmirrored vcs va1 hflip mMade; exact h_vmirrored vcs vb1 hflip mMade
  have ftur : ∀ D, IsV CV CM D → HasM P w K mg base CX0 D "turned" 4 ["self", "turn"] (spVTurn K C (fun t => cond t aT aS) CV CM) := fun D d => by rcases d with rfl | rfl; exact h_vturned vcs va0 hcn hturn mMade; exact h_vturned vcs vb0 hcn hturn mMade
  have fpow : ∀ D, IsV CV CM D → HasM P w K mg base CX0 D "power" 13 ["self", "many"] (spVPow K C (fun t => cond t aT aS) CV CM) := fun D d => by rcases d with rfl | rfl; exact h_vpower T vcs va2 hi hraise mMade; exact h_vpower T vcs vb2 hi hraise mMade
  have fitem : ∀ D, IsV CV CM D → HasM P w K mg base CX0 D "__getitem__" 2 ["self", "index"] (spVItem K C (fun t => cond t aT aS) CV CM) := fun D d => by rcases d with rfl | rfl; exact h_vitem vcs va3 hi; exact h_vitem vcs vb3 hi
  have fbool : ∀ D, IsV CV CM D → HasM P w K mg base CX0 D "__bool__" 1 ["self"] (spVBool K C (fun t => cond t aT aS) CV CM) := fun D d => by rcases d with rfl | rfl; exact h_vbool T vcs va9; exact h_vbool T vcs vb9
  have feq : ∀ D, IsV CV CM D → HasM P w K mg base CX0 D "__eq__" 2 ["self", "other"] (spVEq K C (fun t => cond t aT aS) CV CM) := fun D d => by rcases d with rfl | rfl; exact h_veq T c gi vi vnC vcs va10 geq; exact h_veq T c gi vi vnC vcs vb10 geq
  have fstr : ∀ D, IsV CV CM D → HasM P w K mg base CX0 D "__str__" 2 ["self"] (spVStr K C (fun t => cond t aT aS) CV CM) := fun D d => by rcases d with rfl | rfl; exact h_vstr vcs va11 hwrite; exact h_vstr vcs vb11 hwrite
  have vfn : ∀ D f, IsV CV CM D → PySem.W.findIn K (.ref D) "__getitem__" = some (some (.ref f)) → PySem.W.fnIn K f = true := fun D f d e => by
    rcases d with rfl | rfl
    · obtain ⟨g, h1, h2⟩ := vfV; rw [h1] at e; cases e; exact h2
    · obtain ⟨g, h1, h2⟩ := vfM; rw [h1] at e; cases e; exact h2
  have bka : ∀ C D, IsV CV CM C → IsV CV CM D → BinK K C D .Add := bink_mk vX voadd (by decide +kernel) (by decide +kernel) (by decide +kernel) (by decide +kernel) (by decide +kernel)
  have bks : ∀ C D, IsV CV CM C → IsV CV CM D → BinK K C D .Sub := bink_mk vX vosub (by decide +kernel) (by decide +kernel) (by decide +kernel) (by decide +kernel) (by decide +kernel)
  have bkm : ∀ C D, IsV CV CM C → IsV CV CM D → BinK K C D .Mult := bink_mk vX vomul (by decide +kernel) (by decide +kernel) (by decide +kernel) (by decide +kernel) (by decide +kernel)
  have bkd : ∀ C D, IsV CV CM C → IsV CV CM D → BinK K C D .FloorDiv := bink_mk vX vofloordiv (by decide +kernel) (by decide +kernel) (by decide +kernel) (by decide +kernel) (by decide +kernel)
  have hdice := h_law_dice (P := P) (w := w) (base := base) T d14
  have hroll := h_law_roll (P := P) (w := w) (base := base) T d15
  have hpick := h_law_pick T d16 hroll
  have haround := h_law_around (P := P) (w := w) (base := base) d17
  have hunit := h_law_unit (P := P) (w := w) (base := base) d18
  have hlplus := h_law_plus (P := P) (w := w) (base := base) d19
  have hlminus := h_law_minus (P := P) (w := w) (base := base) d20
  have hltimes := h_law_times (P := P) (w := w) (base := base) d21
  have hlnorm := h_law_norm (P := P) (w := w) (base := base) d22
  have hlim := h_law_limit (P := P) (w := w) (base := base) d23
  have hpart := h_law_part d24 hlim hroll hpick
  have hplace := h_law_place d25 hpart
  have hmild := h_law_mild T d26 hplace
  have hplain := h_law_grid_plain d27 hpick
  have hlflip := h_law_flip (P := P) (w := w) (base := base) d28
  have hspun := h_law_spun d29 haround hunit hltimes
  have hpow := h_law_power_of T d30 hltimes
  have htold := h_law_is_told T dig c vcs vfn fitem fstr fbool hlnorm d31
  have hsums := h_law_sums_right T c vi vcs bka bks bkm fadd fsub fmul fneg fmir ftur feq mVec htold hmild hpart hlplus hlminus hltimes hlflip hspun d32
  have hpows := h_law_powers_right T c vi vcs bka bkm bkd fadd fmul fdiv fpow feq mVec htold hmild hroll hpick hpow d33
  exact law_ok T c gi vi vnC vcs bka bks bkm fadd fsub fmul fpow feq fstr fbool mGrid mVec hmild hlim hdice hplain hpick hsums hpows F
end K06

open PySem PySem.W PyProof.Rows in
set_option maxRecDepth 100000 in
set_option maxHeartbeats 0 in
theorem PySem.Challenge.cw_grownlines_k06_whole_vectors_with_operat_holds : PySem.Challenge.rw_grownlines_k06_whole_vectors_with_operat.Holds := by
  w_on; o_law; k_head; (case hw => w_witness2)
  k_fill
  refine GL.walk_to (l := PySem.Challenge.rw_grownlines_k06_whole_vectors_with_operat) (n := 63) (k := 15) (sp := K06.spLaw) (x := "_law_script") rfl (by decide) rfl ⟨rfl, by decide, by decide⟩ (fun w h Y => PySem.W.kIn_of Y) ?F (fun K H a ns hl hS => ⟨a, ns, rfl, hS, hl, fun _ => rfl⟩)
  case F =>
    intro w mg fa h KX G hmg
    refine' K06.all_mk KX G hmg ?zz0 ?zz1 ?zz2 ?zz3 ?zz4 ?zz5 ?zz6 ?zz7 ?zz8 ?zz9 ?zz10 ?zz11 ?nG ?nU ?nC ?cc ?tg ?kS ?kT ?tS ?tT ?ps0 ?ps1 ?ps2 ?ps3 ?qs0 ?qs1 ?qs2 ?qs3 ?qs4 ?qs5 ?di ?mm0 ?gi ?uS ?uT ?vgV ?vgM ?vcV ?vcM ?viV ?viM ?vgv ?vgm ?vnC ?vX ?voadd ?vosub ?vomul ?vofloordiv ?vfV ?vfM ?vdV ?vdM ?va0 ?va1 ?va2 ?va3 ?va4 ?va5 ?va6 ?va7 ?va8 ?va9 ?va10 ?va11 ?vb0 ?vb1 ?vb2 ?vb3 ?vb4 ?vb5 ?vb6 ?vb7 ?vb8 ?vb9 ?vb10 ?vb11 ?xd ?gg0 ?gg1 ?gg2 ?dd0 ?dd1 ?dd2 ?dd3 ?dd4 ?dd5 ?dd6 ?dd7 ?dd8 ?dd9 ?dd10 ?dd11 ?dd12 ?dd13 ?dd14 ?dd15 ?dd16 ?dd17 ?dd18 ?dd19 ?dd20 ?dd21 ?dd22 ?dd23 ?dd24 ?dd25 ?dd26 ?dd27 ?dd28 ?dd29 ?dd30 ?dd31 ?dd32 ?dd33 ?dd34
    (case zz0 => k_is)
    (case zz1 => k_is)
    (case zz2 => k_is)
    (case zz3 => k_is)
    (case zz4 => k_is)
    (case zz5 => k_is)
    (case zz6 => k_is)
    (case zz7 => k_is)
    (case zz8 => k_is)
    (case zz9 => k_is)
    (case zz10 => k_is)
    (case zz11 => k_is)
    (case nG => k_is)
    (case nU => k_is)
    (case nC => k_is)
    (case cc => exact ⟨⟨by k_is, by k_is, by k_is, by k_is⟩, (show PySem.W.findIn _ _ _ = some none by k_is), (show PySem.W.findIn _ _ _ = some none by k_is), (show PySem.W.findIn _ _ _ = some none by k_is), (show PySem.W.findIn _ _ _ = some none by k_is)⟩)
    (case tg => exact ⟨_, _, _, by k_is, rfl, rfl, by decide, (.cons ⟨_, rfl⟩ (.cons ⟨_, rfl⟩ .nil))⟩)
    (case kS => refine' GL.kdct_mk ?kl ?kn ?kk; (case kl => k_is); (case kn => k_is); (case kk => exact ⟨⟨_, _, rfl, rfl⟩, ⟨_, _, rfl, rfl⟩, True.intro⟩))
    (case kT => refine' GL.kdct_mk ?kl ?kn ?kk; (case kl => k_is); (case kn => k_is); (case kk => exact ⟨⟨_, _, rfl, rfl⟩, ⟨_, _, rfl, rfl⟩, True.intro⟩))
    (case tS => exact ⟨_, _, _, by k_is, rfl, rfl, by decide, (.cons rfl (.cons rfl (.cons rfl (.cons rfl .nil))))⟩)
    (case tT => exact ⟨_, _, _, by k_is, rfl, rfl, by decide, (.cons rfl (.cons rfl (.cons rfl (.cons rfl (.cons rfl (.cons rfl .nil))))))⟩)
    (case ps0 => exact ⟨_, _, _, by k_is, rfl, rfl, by decide, (.cons ⟨_, rfl⟩ (.cons ⟨_, rfl⟩ .nil))⟩)
    (case ps1 => exact ⟨_, _, _, by k_is, rfl, rfl, by decide, (.cons ⟨_, rfl⟩ (.cons ⟨_, rfl⟩ .nil))⟩)
    (case ps2 => exact ⟨_, _, _, by k_is, rfl, rfl, by decide, (.cons ⟨_, rfl⟩ (.cons ⟨_, rfl⟩ .nil))⟩)
    (case ps3 => exact ⟨_, _, _, by k_is, rfl, rfl, by decide, (.cons ⟨_, rfl⟩ (.cons ⟨_, rfl⟩ .nil))⟩)
    (case qs0 => exact ⟨_, _, _, by k_is, rfl, rfl, by decide, (.cons ⟨_, rfl⟩ (.cons ⟨_, rfl⟩ .nil))⟩)
    (case qs1 => exact ⟨_, _, _, by k_is, rfl, rfl, by decide, (.cons ⟨_, rfl⟩ (.cons ⟨_, rfl⟩ .nil))⟩)
    (case qs2 => exact ⟨_, _, _, by k_is, rfl, rfl, by decide, (.cons ⟨_, rfl⟩ (.cons ⟨_, rfl⟩ .nil))⟩)
    (case qs3 => exact ⟨_, _, _, by k_is, rfl, rfl, by decide, (.cons ⟨_, rfl⟩ (.cons ⟨_, rfl⟩ .nil))⟩)
    (case qs4 => exact ⟨_, _, _, by k_is, rfl, rfl, by decide, (.cons ⟨_, rfl⟩ (.cons ⟨_, rfl⟩ .nil))⟩)
    (case qs5 => exact ⟨_, _, _, by k_is, rfl, rfl, by decide, (.cons ⟨_, rfl⟩ (.cons ⟨_, rfl⟩ .nil))⟩)
    (case di => refine' GL.dc_mk ?a ?i ?l ?c ?k ?mk ?kc; (case a => k_is); (case i => k_is); (case l => k_is); (case c => k_is); (case k => k_is); (case mk => k_is); (case kc => k_is))
    (case mm0 => refine' GL.dm_mk ?a ?i ?l ?c ?k; (case a => k_is); (case i => k_is); (case l => k_is); (case c => k_is); (case k => k_is))
    (case gi => exact GL.gis_mk (by k_is) (by k_is) (by k_is) (by k_is) (by k_is) (by k_is) (by k_is) (by k_is))
    (case uS => exact ⟨_, by k_is, rfl, rfl⟩)
    (case uT => exact ⟨_, by k_is, rfl, rfl⟩)
    (case vgV => k_is)
    (case vgM => k_is)
    (case vcV => exact ⟨⟨by k_is, by k_is, by k_is, by k_is⟩, (show PySem.W.findIn _ _ _ = some none by k_is), (show PySem.W.findIn _ _ _ = some none by k_is), (show PySem.W.findIn _ _ _ = some none by k_is)⟩)
    (case vcM => exact ⟨⟨by k_is, by k_is, by k_is, by k_is⟩, (show PySem.W.findIn _ _ _ = some none by k_is), (show PySem.W.findIn _ _ _ = some none by k_is), (show PySem.W.findIn _ _ _ = some none by k_is)⟩)
    (case viV => exact GL.gis_mk (by k_is) (by k_is) (by k_is) (by k_is) (by k_is) (by k_is) (by k_is) (by k_is))
    (case viM => exact GL.gis_mk (by k_is) (by k_is) (by k_is) (by k_is) (by k_is) (by k_is) (by k_is) (by k_is))
    (case vgv => k_is)
    (case vgm => k_is)
    (case vnC => decide)
    (case vX => exact ⟨by k_is, by k_is, by k_is, by k_is, by k_is, by k_is, ⟨_, by k_is, by first | rfl | decide⟩, by k_is, by k_is, by decide⟩)
    (case voadd => exact GL.optxt_mk (by k_is) (by k_is) (by k_is) (by k_is) (by k_is))
    (case vosub => exact GL.optxt_mk (by k_is) (by k_is) (by k_is) (by k_is) (by k_is))
    (case vomul => exact GL.optxt_mk (by k_is) (by k_is) (by k_is) (by k_is) (by k_is))
    (case vofloordiv => exact GL.optxt_mk (by k_is) (by k_is) (by k_is) (by k_is) (by k_is))
    (case vfV => exact GL.gm_mk (by k_is) (by k_is))
    (case vfM => exact GL.gm_mk (by k_is) (by k_is))
    (case vdV => refine' GL.dc_mk ?a ?i ?l ?c ?k ?mk ?kc; (case a => k_is); (case i => k_is); (case l => k_is); (case c => k_is); (case k => k_is); (case mk => k_is); (case kc => k_is))
    (case vdM => refine' GL.dc_mk ?a ?i ?l ?c ?k ?mk ?kc; (case a => k_is); (case i => k_is); (case l => k_is); (case c => k_is); (case k => k_is); (case mk => k_is); (case kc => k_is))
    (case va0 => refine' GL.dm_mk ?a ?i ?l ?c ?k; (case a => k_is); (case i => k_is); (case l => k_is); (case c => k_is); (case k => k_is))
    (case va1 => refine' GL.dm_mk ?a ?i ?l ?c ?k; (case a => k_is); (case i => k_is); (case l => k_is); (case c => k_is); (case k => k_is))
    (case va2 => refine' GL.dm_mk ?a ?i ?l ?c ?k; (case a => k_is); (case i => k_is); (case l => k_is); (case c => k_is); (case k => k_is))
    (case va3 => refine' GL.dm_mk ?a ?i ?l ?c ?k; (case a => k_is); (case i => k_is); (case l => k_is); (case c => k_is); (case k => k_is))
    (case va4 => refine' GL.dm_mk ?a ?i ?l ?c ?k; (case a => k_is); (case i => k_is); (case l => k_is); (case c => k_is); (case k => k_is))
    (case va5 => refine' GL.dm_mk ?a ?i ?l ?c ?k; (case a => k_is); (case i => k_is); (case l => k_is); (case c => k_is); (case k => k_is))
    (case va6 => refine' GL.dm_mk ?a ?i ?l ?c ?k; (case a => k_is); (case i => k_is); (case l => k_is); (case c => k_is); (case k => k_is))
    (case va7 => refine' GL.dm_mk ?a ?i ?l ?c ?k; (case a => k_is); (case i => k_is); (case l => k_is); (case c => k_is); (case k => k_is))
    (case va8 => refine' GL.dm_mk ?a ?i ?l ?c ?k; (case a => k_is); (case i => k_is); (case l => k_is); (case c => k_is); (case k => k_is))
    (case va9 => refine' GL.dm_mk ?a ?i ?l ?c ?k; (case a => k_is); (case i => k_is); (case l => k_is); (case c => k_is); (case k => k_is))
    (case va10 => refine' GL.dm_mk ?a ?i ?l ?c ?k; (case a => k_is); (case i => k_is); (case l => k_is); (case c => k_is); (case k => k_is))
    (case va11 => refine' GL.dm_mk ?a ?i ?l ?c ?k; (case a => k_is); (case i => k_is); (case l => k_is); (case c => k_is); (case k => k_is))
    (case vb0 => refine' GL.dm_mk ?a ?i ?l ?c ?k; (case a => k_is); (case i => k_is); (case l => k_is); (case c => k_is); (case k => k_is))
    (case vb1 => refine' GL.dm_mk ?a ?i ?l ?c ?k; (case a => k_is); (case i => k_is); (case l => k_is); (case c => k_is); (case k => k_is))
    (case vb2 => refine' GL.dm_mk ?a ?i ?l ?c ?k; (case a => k_is); (case i => k_is); (case l => k_is); (case c => k_is); (case k => k_is))
    (case vb3 => refine' GL.dm_mk ?a ?i ?l ?c ?k; (case a => k_is); (case i => k_is); (case l => k_is); (case c => k_is); (case k => k_is))
    (case vb4 => refine' GL.dm_mk ?a ?i ?l ?c ?k; (case a => k_is); (case i => k_is); (case l => k_is); (case c => k_is); (case k => k_is))
    (case vb5 => refine' GL.dm_mk ?a ?i ?l ?c ?k; (case a => k_is); (case i => k_is); (case l => k_is); (case c => k_is); (case k => k_is))
    (case vb6 => refine' GL.dm_mk ?a ?i ?l ?c ?k; (case a => k_is); (case i => k_is); (case l => k_is); (case c => k_is); (case k => k_is))
    (case vb7 => refine' GL.dm_mk ?a ?i ?l ?c ?k; (case a => k_is); (case i => k_is); (case l => k_is); (case c => k_is); (case k => k_is))
    (case vb8 => refine' GL.dm_mk ?a ?i ?l ?c ?k; (case a => k_is); (case i => k_is); (case l => k_is); (case c => k_is); (case k => k_is))
    (case vb9 => refine' GL.dm_mk ?a ?i ?l ?c ?k; (case a => k_is); (case i => k_is); (case l => k_is); (case c => k_is); (case k => k_is))
    (case vb10 => refine' GL.dm_mk ?a ?i ?l ?c ?k; (case a => k_is); (case i => k_is); (case l => k_is); (case c => k_is); (case k => k_is))
    (case vb11 => refine' GL.dm_mk ?a ?i ?l ?c ?k; (case a => k_is); (case i => k_is); (case l => k_is); (case c => k_is); (case k => k_is))
    (case xd => k_is)
    (case gg0 => exact ⟨_, by k_is, ⟨_, by rw [GL.B_eq]; rfl⟩⟩)
    (case gg1 => exact ⟨_, by k_is, ⟨_, rfl⟩⟩)
    (case gg2 => exact ⟨_, by k_is, ⟨_, rfl⟩⟩)
    (case dd0 => refine' GL.df_mk KX G ?a ?l ?c ?k; (case a => k_is); (case l => k_is); (case c => k_is); (case k => k_is))
    (case dd1 => refine' GL.df_mk KX G ?a ?l ?c ?k; (case a => k_is); (case l => k_is); (case c => k_is); (case k => k_is))
    (case dd2 => refine' GL.df_mk KX G ?a ?l ?c ?k; (case a => k_is); (case l => k_is); (case c => k_is); (case k => k_is))
    (case dd3 => refine' GL.df_mk KX G ?a ?l ?c ?k; (case a => k_is); (case l => k_is); (case c => k_is); (case k => k_is))
    (case dd4 => refine' GL.df_mk KX G ?a ?l ?c ?k; (case a => k_is); (case l => k_is); (case c => k_is); (case k => k_is))
    (case dd5 => refine' GL.df_mk KX G ?a ?l ?c ?k; (case a => k_is); (case l => k_is); (case c => k_is); (case k => k_is))
    (case dd6 => refine' GL.df_mk KX G ?a ?l ?c ?k; (case a => k_is); (case l => k_is); (case c => k_is); (case k => k_is))
    (case dd7 => refine' GL.df_mk KX G ?a ?l ?c ?k; (case a => k_is); (case l => k_is); (case c => k_is); (case k => k_is))
    (case dd8 => refine' GL.df_mk KX G ?a ?l ?c ?k; (case a => k_is); (case l => k_is); (case c => k_is); (case k => k_is))
    (case dd9 => refine' GL.df_mk KX G ?a ?l ?c ?k; (case a => k_is); (case l => k_is); (case c => k_is); (case k => k_is))
    (case dd10 => refine' GL.df_mk KX G ?a ?l ?c ?k; (case a => k_is); (case l => k_is); (case c => k_is); (case k => k_is))
    (case dd11 => refine' GL.df_mk KX G ?a ?l ?c ?k; (case a => k_is); (case l => k_is); (case c => k_is); (case k => k_is))
    (case dd12 => refine' GL.df_mk KX G ?a ?l ?c ?k; (case a => k_is); (case l => k_is); (case c => k_is); (case k => k_is))
    (case dd13 => refine' GL.df_mk KX G ?a ?l ?c ?k; (case a => k_is); (case l => k_is); (case c => k_is); (case k => k_is))
    (case dd14 => refine' GL.df_mk KX G ?a ?l ?c ?k; (case a => k_is); (case l => k_is); (case c => k_is); (case k => k_is))
    (case dd15 => refine' GL.df_mk KX G ?a ?l ?c ?k; (case a => k_is); (case l => k_is); (case c => k_is); (case k => k_is))
    (case dd16 => refine' GL.df_mk KX G ?a ?l ?c ?k; (case a => k_is); (case l => k_is); (case c => k_is); (case k => k_is))
    (case dd17 => refine' GL.df_mk KX G ?a ?l ?c ?k; (case a => k_is); (case l => k_is); (case c => k_is); (case k => k_is))
    (case dd18 => refine' GL.df_mk KX G ?a ?l ?c ?k; (case a => k_is); (case l => k_is); (case c => k_is); (case k => k_is))
    (case dd19 => refine' GL.df_mk KX G ?a ?l ?c ?k; (case a => k_is); (case l => k_is); (case c => k_is); (case k => k_is))
    (case dd20 => refine' GL.df_mk KX G ?a ?l ?c ?k; (case a => k_is); (case l => k_is); (case c => k_is); (case k => k_is))
    (case dd21 => refine' GL.df_mk KX G ?a ?l ?c ?k; (case a => k_is); (case l => k_is); (case c => k_is); (case k => k_is))
    (case dd22 => refine' GL.df_mk KX G ?a ?l ?c ?k; (case a => k_is); (case l => k_is); (case c => k_is); (case k => k_is))
    (case dd23 => refine' GL.df_mk KX G ?a ?l ?c ?k; (case a => k_is); (case l => k_is); (case c => k_is); (case k => k_is))
    (case dd24 => refine' GL.df_mk KX G ?a ?l ?c ?k; (case a => k_is); (case l => k_is); (case c => k_is); (case k => k_is))
    (case dd25 => refine' GL.df_mk KX G ?a ?l ?c ?k; (case a => k_is); (case l => k_is); (case c => k_is); (case k => k_is))
    (case dd26 => refine' GL.df_mk KX G ?a ?l ?c ?k; (case a => k_is); (case l => k_is); (case c => k_is); (case k => k_is))
    (case dd27 => refine' GL.df_mk KX G ?a ?l ?c ?k; (case a => k_is); (case l => k_is); (case c => k_is); (case k => k_is))
    (case dd28 => refine' GL.df_mk KX G ?a ?l ?c ?k; (case a => k_is); (case l => k_is); (case c => k_is); (case k => k_is))
    (case dd29 => refine' GL.df_mk KX G ?a ?l ?c ?k; (case a => k_is); (case l => k_is); (case c => k_is); (case k => k_is))
    (case dd30 => refine' GL.df_mk KX G ?a ?l ?c ?k; (case a => k_is); (case l => k_is); (case c => k_is); (case k => k_is))
    (case dd31 => refine' GL.df_mk KX G ?a ?l ?c ?k; (case a => k_is); (case l => k_is); (case c => k_is); (case k => k_is))
    (case dd32 => refine' GL.df_mk KX G ?a ?l ?c ?k; (case a => k_is); (case l => k_is); (case c => k_is); (case k => k_is))
    (case dd33 => refine' GL.df_mk KX G ?a ?l ?c ?k; (case a => k_is); (case l => k_is); (case c => k_is); (case k => k_is))
    (case dd34 => refine' GL.df_mk KX G ?a ?l ?c ?k; (case a => k_is); (case l => k_is); (case c => k_is); (case k => k_is))
