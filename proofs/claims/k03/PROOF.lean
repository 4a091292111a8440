import PyProof.Rows.All
import Wide.All
import OpenK.AllK
import Wide.FinOn
import HandS.ForMost
import HandS.IsInst
import HandS.Wide
import HandS.Style
import HandS.TupLe
import HandS.TupAny
import HandS.Walk
import HandS.Evl
import HandS.More
import HandS.Zip
import PyProof.Rows.StrOr
import PyProof.ReprRoads
import KE.KIsAll
import KE.KCallOwn
import PyProof.InstEq
import HandS.OwnIter
import HandS.IterVal
import PyProof.WalksMore
import HandS.Deep
import HandS.Strs
import HandS.RaiseMore
import PySem.Challenge.RW_grownlines_k03_grids_told
set_option Elab.async false
set_option linter.all false
set_option maxRecDepth 100000
set_option exponentiation.threshold 7000
set_option maxHeartbeats 4000000
/-! Promises of defs that are called where nothing is being shown (repr asks it). -/
namespace GL
open PySem PySem.Spec PyProof.Rows L2

def Gd (A : Around) : Prop := A.guards = some []
structure FnG (P : Program) (w : World) (K : PySem.W.Frag) (mg : Str → Option Value) (base : Heap) (CX : CXT) (k : Nat) (f : Addr) (fd : FuncData) (ps : List Str) (sp : Sp) : Prop where
  len : ∀ vs H Q E, sp vs H Q E → vs.length = ps.length
  go : ∀ {A : Around} {outer : List Env} {s : Shared} {H : Hp} {args : Args} {us : List Value} {vs : List V} {Q : VK} {E : XK}, Gd A → Room k A → Env0 P w K mg base A outer s H →
    BindsTo s fd args (ps.zip us) → Vals vs us → sp vs H Q E → codeAny (model P w) A (.call (.ref f) args) (CR CX outer P w H s Q E) s
section
variable {P : Program} {w : World} {K : PySem.W.Frag} {mg : Str → Option Value} {base : Heap} {CX : CXT} {k : Nat} {f : Addr} {fd : FuncData} {ps N : List Str} {sp : Sp} {x qual : Str} {st : Stmt}
theorem FnG.of (F : FnOk P w K mg base CX k f fd ps sp) : FnG P w K mg base CX k f fd ps sp :=
  ⟨F.len, fun {A outer s H args us vs Q E} _ r e b v q => F.run A outer s H args us vs Q E r e b v q⟩
theorem FnG.up {j : Nat} (F : FnG P w K mg base CX j f fd ps sp) (h : j ≤ k) : FnG P w K mg base CX k f fd ps sp :=
  ⟨F.len, fun g r => F.go g (r.mono h)⟩
theorem fnG_mk (F : Fun K x qual st f fd) (S : FnScope N ps (defScope st)) (len : ∀ vs H Q E, sp vs H Q E → vs.length = ps.length)
    (body : ∀ (cdv : Value) (A : Around) (outer : List Env) (s : Shared) (H : Hp) (vs : List V) (Q : VK) (E : XK), Gd A → Room k (A.deeper (envOfC qual (defScope st) s.heap.objs.size f cdv)) → sp vs H Q E →
      ∃ t, PSs (cxOf CX P w K mg base N qual (defScope st) f cdv A outer s H E) (defBody st) t ∧ t { nx := fun _ H' => Q .non H', rt := Q } (start N vs) H) :
    FnG P w K mg base CX (k + 1) f fd ps sp := by
  obtain ⟨oc, od, kV, doc, pm, an, cdv, ct, osl, eF, at_, cR⟩ := F.ex
  subst eF
  constructor
  · exact len
  intro A outer s H args us vs Q E g room e0 bi vals asked
  have inK : K.In s.heap := e0.mod.kin.keeps (fun b o q => (e0.bs b o q).1)
  have line : s.heap.NoLimit := e0.mod.nolimit.keeps (fun b o q => (e0.bs b o q).1)
  have kinds : ∀ y ∈ ps.zip us, (defScope st).names.lookup y.1 = some .local ∨ ((defScope st).names.lookup y.1 = some .cell ∧ ((cellsFrom (s.heap.objs.size + 1) (defScope st).names []).lookup y.1).isSome = true) := by
    intro ⟨n, v⟩ hy
    cases S.par n (List.of_mem_zip hy).1 with
    | inl q => exact Or.inl q
    | inr q => exact Or.inr ⟨q, PySem.W.cellsFrom_some _ _ _ (Or.inl q)⟩
  apply codeAny_call_function room.depth (inK _ _ at_) rfl S.co S.gen rfl (PySem.W.codeRec_of inK cR)
  apply bi
  refine wpAny_newFunctionEnv_cells S.kind kinds (fun env eE s1 x1 => ?_)
  subst eE
  obtain ⟨t, rule, q⟩ := body cdv A outer s H vs Q E g (room.deeper _) asked
  have I0 := inv_start (CX := CX) (E := E) S room.hd e0 (len _ _ _ _ asked) vals x1
  refine ⟨line.keeps x1.toInCall.keep, codeAny_func (wpAny_mono (rule.run [] s1 _ H _ I0 q) (fun fl s' done => ?_) (fun _ _ z => z))⟩
  cases fl with
  | ret u => obtain ⟨v, _, H', J, rv, qv⟩ := done; exact ⟨v, H', J.os, J.bare, J.base, J.hok, rv, qv⟩
  | next => obtain ⟨_, H', J, qv⟩ := done; exact ⟨V.non, H', J.os, J.bare, J.base, J.hok, rfl, qv⟩
  | brk => obtain ⟨_, _, _, z⟩ := done; exact z.elim
  | cont => obtain ⟨_, _, _, z⟩ := done; exact z.elim
end

section
variable {X : Cx} {CX : CXT} {k : Nat} {f C : Addr} {fd : FuncData} {ps : List Str} {sp : Sp} {E : XK} {x m : Str} {p pos apos : Pos} {e o : Expr} {es : List Expr} {ta : TE} {t : TA}

theorem goes {pins : List (Addr × Obj)} {σ : L2.St} {H : Hp} {s : Shared} {Q : VK} {us : List Value} {vs : List V} (F : FnG X.prog X.w X.K X.mg X.base CX k f fd ps sp) (g : Gd X.A) (hr : Room k X.A) (hb : Binds X.K fd ps []) (hx : Passes CX X E)
    (I : Inv X pins σ H s) (r : Vals vs us) (h : sp vs H Q E) : wpAny (model X.prog X.w) X.A (call (.ref f) us) (EP X pins σ Q) X.xe s := by
  have n1 : (us ++ []).length = ps.length := by rw [List.append_nil, ← r.length]; exact F.len _ _ _ _ h
  have b1 := hb s us I.kIn n1
  rw [List.append_nil] at b1
  apply wpAny_call
  refine codeAny_mono (F.go g hr I.env0 b1 r h) (fun res s' z => ?_)
  match res, z with
  | .error _, z => exact hx pins σ H s _ s' I z
  | .ok (.ret _), z => exact I.after z
/-- what a name of a def is good for: the def at it keeps a promise -/
structure Has (P : Program) (w : World) (K : PySem.W.Frag) (mg : Str → Option Value) (base : Heap) (CX : CXT) (x : Str) (k : Nat) (ps : List Str) (sp : Sp) : Prop where
  ex : ∃ f fd, FnG P w K mg base CX k f fd ps sp ∧ mg x = some (.ref f) ∧ PySem.W.keepIn K (.ref f) = true ∧ Binds K fd ps []
theorem pe_callH (h : Has X.prog X.w X.K X.mg X.base CX x k ps sp) (g : Gd X.A) (hr : Room k X.A) (hx : Passes CX X E) (ha : PA X (e :: es) t) (hg : Gl X x := by exact rfl)
    (hdb : (x == ("__debug__" : Str)) = false := by decide) (he : starEach (e :: es) X.env = (false, eval e X.env) :: starEach es X.env := by rfl) (hpl : (backTo pos (starEach es X.env)).any (·.1) = false := by rfl) :
    PE X (.Call (.Name x p) (e :: es) [] pos) (tCall sp [] E t) := by
  obtain ⟨f, fd, F, m, kp, b⟩ := h.ex
  constructor
  intro pins s σ H Q I q
  apply wpAny_Call_Name_kw
  apply ld_glob I hg m _ hdb
  refine PySem.W.callWith_K (h₀ := X.base) I.ok.mod.kin kp (thn (ha.run pos pins s σ H _ I q) (fun us s1 z => ?_)) he hpl
  obtain ⟨vs, H1, I1, r, q1⟩ := z
  rw [List.append_nil] at q1
  exact ⟨I1.kIn, goes F g hr b hx I1 r q1⟩
theorem pe_call0H (h : Has X.prog X.w X.K X.mg X.base CX x k ps sp) (g : Gd X.A) (hr : Room k X.A) (hx : Passes CX X E) (hg : Gl X x := by exact rfl)
    (hdb : (x == ("__debug__" : Str)) = false := by decide) : PE X (.Call (.Name x p) [] [] pos) (tCall sp [] E tNil) := by
  obtain ⟨f, fd, F, m, kp, b⟩ := h.ex
  constructor
  intro pins s σ H Q I q
  apply wpAny_Call_Name_kw
  apply ld_glob I hg m _ hdb
  exact PySem.W.callWith_K0 I.kIn kp (goes (us := []) F g hr b hx I .nil q)
/-- a method of the instances of a class -/
structure HasM (P : Program) (w : World) (K : PySem.W.Frag) (mg : Str → Option Value) (base : Heap) (CX : CXT) (C : Addr) (m : Str) (k : Nat) (ps : List Str) (sp : Sp) : Prop where
  ex : ∃ f fd, FnG P w K mg base CX k f fd ps sp ∧ Meth K C m f ∧ Binds K fd ps []
theorem pe_methH {pl : Sem Bool} (he : PE X o ta) (c : Cls X.K C) (h : HasM X.prog X.w X.K X.mg X.base CX C m k ps sp) (g : Gd X.A) (hr : Room k X.A) (hx : Passes CX X E) (ha : PA X (e :: es) t)
    (hst : starEach (e :: es) X.env = (false, eval e X.env) :: starEach es X.env := by rfl) (hpl : (backTo pos (starEach es X.env)).any (·.1) = false := by rfl)
    (ht : eval (.Call (.Attribute o m apos) (e :: es) [] pos) X.env = ((eval o X.env).bind fun ov => (standAt apos.atName).bind fun _ => (holding [ov] (getMethod ov m pl)).bind fun fm =>
      callWith pos fm.1 fm.2 (backTo pos (starEach (e :: es) X.env)) (backToKw pos (keywordEach [] X.env))) := by rfl) :
    PE X (.Call (.Attribute o m apos) (e :: es) [] pos) (tMeth C m sp [] E ta t) := by
  obtain ⟨f, fd, F, M, b⟩ := h.ex
  constructor
  intro pins s σ H Q I q
  refine PySem.W.methodCall_KW (pl := pl) (thn (he.run pins s σ H _ I q) (fun u s1 z => ?_)) ht
  obtain ⟨x, H1, I1, rx, a, dx, fs, ex, ea, l, q1⟩ := z
  subst ex
  cases (show u = Value.ref a from rx)
  apply getmeth_ok I1 ea c M l
  refine PySem.W.callWith_K (first := [.ref a]) (h₀ := X.base) I.ok.mod.kin M.kp (thn (ha.run pos pins s1 σ H1 _ I1 q1) (fun us s2 z => ?_)) hst hpl
  obtain ⟨vs, H2, I2, r, q2⟩ := z
  rw [List.append_nil] at q2
  exact ⟨I2.kIn, goes (us := .ref a :: us) (vs := .ref a :: vs) F g hr b hx I2 (.cons rfl r) q2⟩
theorem pe_meth0H {pl : Sem Bool} (he : PE X o ta) (c : Cls X.K C) (h : HasM X.prog X.w X.K X.mg X.base CX C m k ps sp) (g : Gd X.A) (hr : Room k X.A) (hx : Passes CX X E)
    (ht : eval (.Call (.Attribute o m apos) [] [] pos) X.env = ((eval o X.env).bind fun ov => (standAt apos.atName).bind fun _ => (holding [ov] (getMethod ov m pl)).bind fun fm =>
      callWith pos fm.1 fm.2 (backTo pos (starEach [] X.env)) (backToKw pos (keywordEach [] X.env))) := by rfl) :
    PE X (.Call (.Attribute o m apos) [] [] pos) (tMeth C m sp [] E ta tNil) := by
  obtain ⟨f, fd, F, M, b⟩ := h.ex
  constructor
  intro pins s σ H Q I q
  refine PySem.W.methodCall_KW (pl := pl) (thn (he.run pins s σ H _ I q) (fun u s1 z => ?_)) ht
  obtain ⟨x, H1, I1, rx, a, dx, fs, ex, ea, l, q1⟩ := z
  subst ex
  cases (show u = Value.ref a from rx)
  apply getmeth_ok I1 ea c M l
  exact PySem.W.callWith_K0 (first := [.ref a]) I1.kIn M.kp (goes (us := [.ref a]) (vs := [.ref a]) F g hr b hx I1 (.cons rfl .nil) q1)
/-- len of an instance whose class has its own __len__ -/
theorem call_lenM (h : HasM X.prog X.w X.K X.mg X.base CX C "__len__" k ["self"] sp) (g : Gd X.A) (hr : Room (k + 1) X.A) (hx : Passes CX X E) :
    CallR X (.builtin "len") (fun xs H Q => ∃ a dx fs, xs = [.ref a] ∧ H a = some (.ins C dx fs) ∧ sp [.ref a] H (fun v H' => ∃ n : Int, v = .int n ∧ 0 ≤ n ∧ n < 2 ^ 63 ∧ Q (.int n) H') E) := by
  intro pins s σ H xs us Q I r q
  obtain ⟨a, dx, fs, rfl, ea, q1⟩ := q
  obtain ⟨f, fd, F, M, b⟩ := h.ex
  obtain ⟨u, rfl, ru⟩ := vals1 r
  cases (show u = Value.ref a from ru)
  obtain ⟨mA, O, _⟩ := ins_get I.hok ea
  obtain ⟨od, J, _⟩ := O.look
  have n1 : ([.ref a] : List Value).length = ["self"].length := rfl
  have b1 := b s [.ref a] I.kIn n1
  rw [List.append_nil] at b1
  obtain ⟨m', fr⟩ := I.fr
  refine PySem.W.len_K fr I.mod.kin J M.at_ M.fn ?_
  apply wpAny_call
  refine codeAny_mono (F.go (A := X.A.in1) g hr.in1 I.env0.in1 b1 (vs := [.ref a]) (.cons rfl .nil) q1) (fun res s' z => ?_)
  match res, z with
  | .error _, z => exact hx pins σ H s _ s' I z
  | .ok (.ret _), z =>
    obtain ⟨v, H', I', rv, n, rfl, n0, n1, q2⟩ := I.after z
    obtain ⟨t, rfl⟩ := rv
    exact ⟨⟨n0, n1⟩, .int n, H', I'.tok _, ⟨_, rfl⟩, q2⟩
/-- a class that is called: its __init__ keeps a promise -/
structure HasC (P : Program) (w : World) (K : PySem.W.Frag) (mg : Str → Option Value) (base : Heap) (x : Str) (C : Addr) (k : Nat) (ps : List Str) (sp : Sp) : Prop where
  ex : ∃ f fd, FnOk P w K mg base CX0 k f fd ps sp ∧ mg x = some (.ref C) ∧ Mk K C f ∧ Binds K fd ps []
theorem pe_makeH (h : HasC X.prog X.w X.K X.mg X.base x C k ps sp) (hr : Room (k + 1) X.A) (hx : Passes CX0 X E) (ha : PA X (e :: es) t) (hg : Gl X x := by exact rfl)
    (hdb : (x == ("__debug__" : Str)) = false := by decide) (he : starEach (e :: es) X.env = (false, eval e X.env) :: starEach es X.env := by rfl) (hpl : (backTo pos (starEach es X.env)).any (·.1) = false := by rfl) :
    PE X (.Call (.Name x p) (e :: es) [] pos) (tMake C sp [] E t) := by
  obtain ⟨f, fd, F, m, M, b⟩ := h.ex
  exact pe_make M F hr hg m b .nil hx ha hdb he hpl
end

/-! ### the script's end -/
section
variable {P : Program} {w : World} {K : PySem.W.Frag} {mg mb : Str → Option Value} {k : Nat} {fa a : Addr} {fd : FuncData} {x : Str} {sp : Sp} {s1 : Shared} {vs : List Value} {ns : List Int} {CX : CXT}
theorem core_end {H : Hp} (inK : K.In s1.heap) (hns : s1.heap.Ns mainGlobals mg) (hb : s1.heap.Ns builtinsNs mb) (hbb : ∀ x : Str, x ≠ "__name__" → mb x = bootBuiltins x) (lim : s1.heap.NoLimit) (hg : s1.gens = #[])
    (ha : s1.heap.get? a = some { cls := .type "list", data := .seq vs.toArray }) (hr : Room k callerA) (F : ∀ base : Heap, K.In base → base.Ns mainGlobals mg → FnG P w K mg base CX k fa fd [x] sp)
    (bi : ∀ (s : Shared) (u : Value), BindsTo s fd ⟨[u], []⟩ [(x, u)]) (asked : sp [.ref a] H (fun v _ => v = .bl true) (fun _ _ _ => False)) (none_ : ∀ e s', CX [] H s1 (fun _ _ _ => False) e s' → False)
    (hO : Only H) (ok : HOk P w H s1.heap) (hA : ∀ b, H b ≠ none → b = a) (hK : H a ≠ none → K.lookup a = none) :
    codeAny (model P w) callerA (.call (.ref fa) ⟨[.ref a], []⟩) (fun r s' => r = .ok (.ret (.bool true)) ∧ OldK s1.heap s'.heap ∧ s'.os = s1.os ∧ AllBare s'.gens) s1 := by
  have untracked : ∀ b o es ep, s1.heap.get? b = some o → o.data = .dict es ep → H b = none := by
    intro b o es ep e d
    rcases hq : H b with _ | u
    · rfl
    · have eb := hA b (by rw [hq]; exact nofun)
      rw [eb, ha] at e
      rw [← Option.some.inj e] at d
      exact absurd d (by exact nofun)
  have ns_ : ∀ b m, s1.heap.Ns b m → (hidT s1.heap H).Ns b m := by
    rintro b m ⟨o, es, ep, e, d, r⟩
    exact ⟨o, es, ep, hidT_get e (untracked b o es ep e d), d, r⟩
  have kin : K.In (hidT s1.heap H) := by
    intro b o e
    apply hidT_get (inK b o e)
    rcases hq : H b with _ | u
    · rfl
    · have eb := hA b (by rw [hq]; exact nofun)
      subst eb
      rw [hK (by rw [hq]; exact nofun)] at e
      exact absurd e nofun
  obtain ⟨mc, l1, l2⟩ := lim
  have e0 : Env0 P w K mg (hidT s1.heap H) callerA [] s1 H :=
    { frames := rfl, mod := ⟨kin, ns_ _ _ hns, ⟨mb, ns_ _ _ hb, hbb⟩, ⟨mc, ns_ _ _ l1, l2⟩⟩, bs := fun b o e => of_hidT e, bsz := Nat.le_of_eq (hidT_size _ _), funs := trivial,
      frf := fun b z => absurd (show b ∈ ([] : List Addr) from z) (List.not_mem_nil), hok := ok, bare := .of_eq hg }
  refine codeAny_mono ((F _ kin (ns_ _ _ hns)).go (args := ⟨[.ref a], []⟩) (us := [.ref a]) (vs := [.ref a]) rfl hr e0 (bi s1 (.ref a)) (.cons rfl .nil) asked) (fun r s' z => ?_)
  match r, z with
  | .error e, z => exact (none_ e s' z).elim
  | .ok (.ret u), z =>
    obtain ⟨v, H', os, bare, un, ok', rv, qv⟩ := z
    cases (show v = .bl true from qv)
    cases (show u = Value.bool true from rv)
    refine ⟨rfl, OldK.of_keep (fun b o e => ?_), os, bare⟩
    rcases hq : H b with _ | u
    · exact un.keep b o e hq (fun z => absurd (show b ∈ ([] : List Addr) from z) List.not_mem_nil) List.not_mem_nil
    · rcases hO b with z | ⟨ob, xs, z⟩
      · rw [z] at hq; cases hq
      · have g1 := (ok b _ z).1
        have g2 := (ok' b _ (un.frzs b ob _ z)).1
        rw [e] at g1
        rw [g2, ← g1]
theorem law_end (inK : K.In s1.heap) (hns : s1.heap.Ns mainGlobals mg) (hb : s1.heap.Ns builtinsNs mb) (hbb : ∀ x : Str, x ≠ "__name__" → mb x = bootBuiltins x) (lim : s1.heap.NoLimit) (hg : s1.gens = #[])
    (ha : s1.heap.get? a = some { cls := .type "list", data := .seq vs.toArray }) (hi : IntsAre vs ns) (hl : ns.length ≤ sizeLine) (hr : Room k callerA) (F : ∀ base : Heap, K.In base → base.Ns mainGlobals mg → FnG P w K mg base CX k fa fd [x] sp)
    (bi : ∀ (s : Shared) (u : Value), BindsTo s fd ⟨[u], []⟩ [(x, u)]) (asked : ∀ H : Hp, Only H → SqL K H a (ns.map V.int) → sp [.ref a] H (fun v _ => v = .bl true) (fun _ _ _ => False)) (none_ : ∀ H e s', CX [] H s1 (fun _ _ _ => False) e s' → False) :
    codeAny (model P w) callerA (.call (.ref fa) ⟨[.ref a], []⟩) (fun r s' => r = .ok (.ret (.bool true)) ∧ OldK s1.heap s'.heap ∧ s'.os = s1.os ∧ AllBare s'.gens) s1 := by
  have rv := vals_ints hi
  have lv : ns.length = vs.length := by have := rv.length; rwa [List.length_map] at this
  rcases hk : K.lookup a with _ | o
  · have own : ∀ b, (fun b => if b = a then some (HO.frz { cls := .type "list", data := .seq vs.toArray } (.lst (ns.map V.int))) else none : Hp) b ≠ none → b = a := by
      intro b z
      by_cases e : b = a
      · exact e
      · exact absurd (if_neg e) z
    have here : (fun b => if b = a then some (HO.frz { cls := .type "list", data := .seq vs.toArray } (.lst (ns.map V.int))) else none : Hp) a = some (HO.frz { cls := .type "list", data := .seq vs.toArray } (.lst (ns.map V.int))) := if_pos rfl
    have only : Only (fun b => if b = a then some (HO.frz { cls := .type "list", data := .seq vs.toArray } (.lst (ns.map V.int))) else none) := by
      intro b
      by_cases e : b = a
      · subst e; exact .inr ⟨_, _, here⟩
      · exact .inl (if_neg e)
    refine core_end inK hns hb hbb lim hg ha hr F bi (asked _ only (.inl (.inr ⟨_, here⟩))) (none_ _) only (fun b u z => ?_) own (fun _ => hk)
    have e := own b (fun h0 => by have z2 : some u = none := z.symm.trans h0; cases z2)
    subst e
    have z := here.symm.trans z
    cases z
    exact ⟨ha, by rw [List.length_map]; exact hl, vs, _, rv, ha⟩
  · have e := inK a o hk
    rw [ha] at e
    have e' := Option.some.inj e
    subst e'
    exact core_end (H := fun _ => none) inK hns hb hbb lim hg ha hr F bi (asked _ (fun _ => .inl rfl) (.inr ⟨_, vs.toArray, _, hk, rfl, rfl, rfl, by rw [List.size_toArray, ← lv]; exact hl, by simpa using rv⟩)) (none_ _) (fun _ => .inl rfl) (fun b u z => by cases z) (fun b z => absurd rfl z) (fun z => absurd rfl z)
theorem walk_to {l : PySem.W.OpenLaw} {n k : Nat} {q : Program} {loose : List Str} {XP : (Str → Option Value) → Heap → Prop} {YP : World → Heap → Prop} {d : DefRec} {Kf : Params → PySem.W.Frag} {sp : PySem.W.Frag → Sp} {x : Str}
    (hn : l.most = some n) (hn2 : n ≤ sizeLine) (hdf : d.params.defaults = []) (hr : Room k callerA) (hY : ∀ (w : World) (h : Heap), YP w h → (Kf w.params).In h)
    (F : ∀ (w : World) (mg : Str → Option Value) (fa : Addr) (h : Heap), (Kf w.params).In h → h.Ns mainGlobals mg → mg d.name = some (.ref fa) →
      ∃ fd : FuncData, (∀ (s : Shared) (u : Value), BindsTo s fd ⟨[u], []⟩ [(x, u)]) ∧ ∀ base : Heap, (Kf w.params).In base → base.Ns mainGlobals mg → FnG l.prog w (Kf w.params) mg base CX0 k fa fd [x] (sp (Kf w.params)))
    (hsp : ∀ (K : PySem.W.Frag) (H : Hp) (a : Addr) (ns : List Int), ns.length ≤ n → SqL K H a (ns.map V.int) → sp K [.ref a] H (fun v _ => v = .bl true) (fun _ _ _ => False)) :
    PySem.W.WalkO q loose XP YP l.row.toRowW d [] (fun f vs => PySem.call f vs) := by
  apply Att.attach_call hn hdf
  intro w s0 s1 mg mb fa o pm cd doc a vs ns G Y _ _ _ hmg obj hInts few gens
  obtain ⟨fd, bi, hF⟩ := F w mg fa _ (hY w _ Y) G.T.g hmg
  exact law_end (hY w _ Y) G.T.g G.T.b G.T.builtins G.T.nolimit gens obj hInts (Nat.le_trans few hn2) hr hF bi (fun H _ S => hsp _ H a ns few S) (fun _ _ _ z => z)
end
end GL
/-! Rules and promises that the proofs of this program share. -/
namespace GL
open PySem PySem.Spec PyProof.Rows L2

/-- a def as it stands behind the top -/
structure Df (K : PySem.W.Frag) (mg : Str → Option Value) (x : Str) (st : Stmt) : Prop where
  ex : ∃ f fd, Fun K x x st f fd ∧ mg x = some (.ref f)
theorem df_mk {K : PySem.W.Frag} {h : Heap} {mg : Str → Option Value} {x : Str} {st : Stmt} {f : Addr} {oc : Value} {od an : Option Addr} {osl : Array (Option Value)} {kV doc pm cdv ct : Value} (X : K.In h) (G : h.Ns mainGlobals mg)
    (a : PySem.W.nsIn K mainGlobals x = some (some (.ref f))) (l : K.lookup f = some ⟨oc, od, .func (PySem.W.fnOf x x (defArgs st) (defBody st) (defScope st) .none kV doc pm an cdv ct), osl⟩)
    (c : PySem.W.codeIn K cdv x = true) (k : PySem.W.keepIn K (.ref f) = true) : Df K mg x st := ⟨f, _, fun_mk l c k, PySem.W.mg_of X G a⟩
section
variable {P : Program} {w : World} {K : PySem.W.Frag} {mg : Str → Option Value} {base : Heap}
theorem _root_.L2.Fun.g {x qual : Str} {st : Stmt} {N ps : List Str} {k : Nat} {sp : Sp} {f : Addr} {fd : FuncData} (F : Fun K x qual st f fd) (S : FnScope N ps (defScope st)) (len : ∀ vs H Q E, sp vs H Q E → vs.length = ps.length)
    (body : ∀ (cdv : Value) (A : Around) (outer : List Env) (s : Shared) (H : Hp) (vs : List V) (Q : VK) (E : XK), Gd (A.deeper (envOfC qual (defScope st) s.heap.objs.size f cdv)) → Room k (A.deeper (envOfC qual (defScope st) s.heap.objs.size f cdv)) → sp vs H Q E →
      ∃ t, PSs (cxOf CX0 P w K mg base N qual (defScope st) f cdv A outer s H E).nox (defBody st) t ∧ t { nx := fun _ H' => Q .non H', rt := Q } (start N vs) H) : FnG P w K mg base CX0 (k + 1) f fd ps sp := by
  refine fnG_mk F S len (fun cdv A outer s H vs Q E g hr q => ?_)
  obtain ⟨t, ht, q⟩ := body cdv A outer s H vs Q E g hr q
  exact ⟨t, ht.nox, q⟩
/-- a method, and the __init__ of a class, as they stand behind the top -/
structure Dm (K : PySem.W.Frag) (C : Addr) (m qual : Str) (st : Stmt) : Prop where
  ex : ∃ f fd, Fun K m qual st f fd ∧ Meth K C m f
structure Dc (K : PySem.W.Frag) (C : Addr) (qual : Str) (st : Stmt) : Prop where
  ex : ∃ f fd, Fun K "__init__" qual st f fd ∧ Mk K C f
theorem dm_mk {C f : Addr} {m qual : Str} {st : Stmt} {oc : Value} {od an : Option Addr} {osl : Array (Option Value)} {kV doc pm cdv ct : Value} (a : PySem.W.findIn K (.ref C) m = some (some (.ref f))) (i : PySem.W.isFn K (.ref f) = true)
    (l : K.lookup f = some ⟨oc, od, .func (PySem.W.fnOf m qual (defArgs st) (defBody st) (defScope st) .none kV doc pm an cdv ct), osl⟩) (c : PySem.W.codeIn K cdv qual = true) (k : PySem.W.keepIn K (.ref f) = true) : Dm K C m qual st :=
  ⟨f, _, fun_mk l c k, ⟨a, i, k⟩⟩
theorem dc_mk {C f : Addr} {qual : Str} {st : Stmt} {oc : Value} {od an : Option Addr} {osl : Array (Option Value)} {kV doc pm cdv ct : Value} (a : PySem.W.findIn K (.ref C) "__init__" = some (some (.ref f))) (i : PySem.W.isFn K (.ref f) = true)
    (l : K.lookup f = some ⟨oc, od, .func (PySem.W.fnOf "__init__" qual (defArgs st) (defBody st) (defScope st) .none kV doc pm an cdv ct), osl⟩) (c : PySem.W.codeIn K cdv qual = true) (k : PySem.W.keepIn K (.ref f) = true)
    (mk : PySem.W.makesIn K C = true) (kc : PySem.W.keepIn K (.ref C) = true) : Dc K C qual st :=
  ⟨f, _, fun_mk l c k, ⟨mk, a, i, kc⟩⟩
theorem Dm.has {C : Addr} {m qual : Str} {st : Stmt} {N ps : List Str} {k : Nat} {sp : Sp} (D : Dm K C m qual st) (S : FnScope N ps (defScope st)) (len : ∀ vs H Q E, sp vs H Q E → vs.length = ps.length)
    (bi : ∀ (kV doc pm : Value) (an : Option Addr) (cdv ct : Value) (us : List Value), us.length = ps.length → bindArgs (PySem.W.fnOf m qual (defArgs st) (defBody st) (defScope st) .none kV doc pm an cdv ct) ⟨us, []⟩ = pure (ps.zip us))
    (body : ∀ (f : Addr) (cdv : Value) (A : Around) (outer : List Env) (s : Shared) (H : Hp) (vs : List V) (Q : VK) (E : XK), Gd (A.deeper (envOfC qual (defScope st) s.heap.objs.size f cdv)) → Room k (A.deeper (envOfC qual (defScope st) s.heap.objs.size f cdv)) → sp vs H Q E →
      ∃ t, PSs (cxOf CX0 P w K mg base N qual (defScope st) f cdv A outer s H E).nox (defBody st) t ∧ t { nx := fun _ H' => Q .non H', rt := Q } (start N vs) H) : HasM P w K mg base CX0 C m (k + 1) ps sp := by
  obtain ⟨f, fd, F, M⟩ := D.ex
  exact ⟨f, fd, F.g S len (body f), M, F.binds bi⟩
theorem Dc.has {C : Addr} {x qual : Str} {st : Stmt} {N ps : List Str} {k : Nat} {sp : Sp} (D : Dc K C qual st) (m : mg x = some (.ref C)) (S : FnScope N ps (defScope st)) (len : ∀ vs H Q E, sp vs H Q E → vs.length = ps.length)
    (bi : ∀ (kV doc pm : Value) (an : Option Addr) (cdv ct : Value) (us : List Value), us.length = ps.length → bindArgs (PySem.W.fnOf "__init__" qual (defArgs st) (defBody st) (defScope st) .none kV doc pm an cdv ct) ⟨us, []⟩ = pure (ps.zip us))
    (body : ∀ (f : Addr) (cdv : Value) (A : Around) (outer : List Env) (s : Shared) (H : Hp) (vs : List V) (Q : VK) (E : XK), Room k (A.deeper (envOfC qual (defScope st) s.heap.objs.size f cdv)) → sp vs H Q E →
      ∃ t, PSs (cxOf CX0 P w K mg base N qual (defScope st) f cdv A outer s H E).nox (defBody st) t ∧ t { nx := fun _ H' => Q .non H', rt := Q } (start N vs) H) : HasC P w K mg base x C (k + 1) ps sp := by
  obtain ⟨f, fd, F, M⟩ := D.ex
  exact ⟨f, fd, F.ok S len (body f), m, M, F.binds bi⟩
theorem Df.has {x : Str} {st : Stmt} {N ps : List Str} {k : Nat} {sp : Sp} (D : Df K mg x st) (S : FnScope N ps (defScope st)) (len : ∀ vs H Q E, sp vs H Q E → vs.length = ps.length)
    (bi : ∀ (kV doc pm : Value) (an : Option Addr) (cdv ct : Value) (us : List Value), us.length = ps.length → bindArgs (PySem.W.fnOf x x (defArgs st) (defBody st) (defScope st) .none kV doc pm an cdv ct) ⟨us, []⟩ = pure (ps.zip us))
    (body : ∀ (f : Addr) (cdv : Value) (A : Around) (outer : List Env) (s : Shared) (H : Hp) (vs : List V) (Q : VK) (E : XK), Gd (A.deeper (envOfC x (defScope st) s.heap.objs.size f cdv)) → Room k (A.deeper (envOfC x (defScope st) s.heap.objs.size f cdv)) → sp vs H Q E →
      ∃ t, PSs (cxOf CX0 P w K mg base N x (defScope st) f cdv A outer s H E).nox (defBody st) t ∧ t { nx := fun _ H' => Q .non H', rt := Q } (start N vs) H) : Has P w K mg base CX0 x (k + 1) ps sp := by
  obtain ⟨f, fd, F, m⟩ := D.ex
  exact ⟨f, fd, F.g S len (body f), m, F.kp, F.binds bi⟩
/-- the law's own def, for the end -/
theorem Df.law {x : Str} {st : Stmt} {p : Str} {k : Nat} {sp : Sp} {fa : Addr} (D : Df K mg x st) (m : mg x = some (.ref fa)) (S : ∀ base : Heap, K.In base → base.Ns mainGlobals mg → ∀ f fd, Fun K x x st f fd → FnG P w K mg base CX0 k f fd [p] sp)
    (bi : ∀ (kV doc pm : Value) (an : Option Addr) (cdv ct : Value) (u : Value), bindArgs (PySem.W.fnOf x x (defArgs st) (defBody st) (defScope st) .none kV doc pm an cdv ct) ⟨[u], []⟩ = pure [(p, u)]) :
    ∃ fd : FuncData, (∀ (s : Shared) (u : Value), BindsTo s fd ⟨[u], []⟩ [(p, u)]) ∧ ∀ base : Heap, K.In base → base.Ns mainGlobals mg → FnG P w K mg base CX0 k fa fd [p] sp := by
  obtain ⟨f, fd, F, m'⟩ := D.ex
  rw [m] at m'
  cases m'
  obtain ⟨oc, od, kV, doc, pm, an, cdv, ct, osl, eF, at_, cR⟩ := F.ex
  exact ⟨fd, fun s u => by subst eF; exact .of_eq (bi kV doc pm an cdv ct u), fun base kin hns => S base kin hns _ _ F⟩
end

/-- what a name of the module holds -/
def MgV (mg : Str → Option Value) (x : Str) (v : V) : Prop := ∃ u, mg x = some u ∧ RelV v u
theorem pe_globV {X : Cx} {x : Str} {v : V} {pos : Pos} (h : MgV X.mg x v) (hg : Gl X x := by exact rfl) (hd : (x == ("__debug__" : Str)) = false := by decide) : PE X (.Name x pos) (tC v) := by
  obtain ⟨u, m, r⟩ := h
  exact pe_glob hg m r hd

/-! ### repr of data -/
def rRepr (K : PySem.W.Frag) : List V → Hp → VK → Prop := fun xs H Q => ∃ x d, xs = [x] ∧ Dp K H x d ∧ d.showable = true ∧ d.hasDict = false ∧ d.depth ≤ 20 ∧ d.shown.length ≤ sizeLine ∧ Q (.str d.shown) H
theorem call_repr {X : Cx} (hg : Gd X.A) (hu : X.A.units + 64 < cLine) : CallR X (.builtin "repr") (rRepr X.K) := by
  intro pins s σ H xs us Q I r h
  obtain ⟨x, d, rfl, hd, hs, hn, hp, hz, q⟩ := h
  obtain ⟨u, rfl, r1⟩ := vals1 r
  have hh : ∀ v, RelV x v → ∃ as, Reads s.heap v d as := fun v rv => Dp.reads I d x v hd rv
  obtain ⟨as, hr⟩ := hh u r1
  cases d with
  | none => cases hr; exact PySem.P.repr_of_none ⟨.str _, H, I.tok _, ⟨_, rfl⟩, q⟩
  | bool b => cases hr; exact PySem.P.repr_of_bool ⟨.str _, H, I.tok _, ⟨_, rfl⟩, q⟩
  | int i => cases hr; exact PySem.P.repr_of_int (by simpa [PyData.showable] using hs) ⟨.str _, H, I.tok _, ⟨_, rfl⟩, q⟩
  | str y => cases hr; exact PySem.P.repr_of_str ⟨.str _, H, I.tok _, ⟨_, rfl⟩, q⟩ hz
  | list ds =>
    obtain ⟨a, rfl⟩ := isRef_of_reads hr rfl
    exact repr_of_reads' hr hs (PyData.noDict_hsm hn) hg (by omega) (fun _ _ e => e) (fun h' u tk hk => ⟨.str _, H, I.kept hk, ⟨_, rfl⟩, q⟩) hz
  | tuple ds =>
    obtain ⟨a, rfl⟩ := isRef_of_reads hr rfl
    exact repr_of_reads' hr hs (PyData.noDict_hsm hn) hg (by omega) (fun _ _ e => e) (fun h' u tk hk => ⟨.str _, H, I.kept hk, ⟨_, rfl⟩, q⟩) hz
  | dict kvs => cases hd

/-! ### values of expressions that change nothing -/
def Vl (te : TE) (σ : L2.St) (v : V) : Prop := ∀ (H : Hp) (Q : VK), Q v H → te σ H Q
theorem vl_and {ta tb : TE} {σ : L2.St} {a b : Bool} (ha : Vl ta σ (.bl a)) (hb : a = true → Vl tb σ (.bl b)) : Vl (tAndV ta tb) σ (.bl (a && b)) := by
  intro H Q q
  refine ha H _ ⟨a, rfl, ?_⟩
  cases a with
  | true => exact iteT (hb rfl H _ q)
  | false => exact iteF q
theorem vl_or {ta tb : TE} {σ : L2.St} {a b : Bool} (ha : Vl ta σ (.bl a)) (hb : a = false → Vl tb σ (.bl b)) : Vl (tOrV ta tb) σ (.bl (a || b)) := by
  intro H Q q
  refine ha H _ ⟨a, rfl, ?_⟩
  cases a with
  | true => exact iteT q
  | false => exact iteF (hb rfl H _ q)

/-! ### in a tuple of data, whatever the depth -/
def rInT (K : PySem.W.Frag) : R2 := fun x y H Q => ∃ d ds, Dp K H x d ∧ Dp K H y (.tuple ds) ∧ SeqAt.shaped d = true ∧ SeqAt.shaped (.tuple ds) = true ∧ Q (.bl (ds.any fun z => PyData.eqv z d)) H
theorem op_inT {X : Cx} (hu : X.A.units + 66 < cLine) : OpR X (compareOp .In) (rInT X.K) := by
  intro pins s σ H x y v u Q I rx ry asked
  obtain ⟨d, ds, hd, he, sd, se, q⟩ := asked
  obtain ⟨_, r1⟩ := Dp.reads I d x v hd rx
  obtain ⟨_, r2⟩ := Dp.reads I (.tuple ds) y u he ry
  have z := SeqAt.depth_of_shaped sd
  exact SeqAt.in_tuple_reads r2 r1 (SeqAt.canLay_of_shaped se) (SeqAt.canLay_of_shaped sd) (by have := Nat.min_le_right (PyData.depthAll ds) d.depth; omega) ⟨.bl _, H, I, rfl, q⟩

/-! ### how many different ints -/
def dist (ns : List Int) : Nat := (ns.foldl PyProof.Rows.step_dedup []).length
theorem range_getD (ns : List Int) : (List.range ns.length).map (fun i => ns.getD i 0) = ns := by
  apply List.ext_getElem
  · rw [List.length_map, List.length_range]
  · intro i h1 h2
    rw [List.getElem_map, List.getElem_range, List.getD_eq_getElem?_getD, List.getElem?_eq_getElem h2]
    rfl
def tLenSet (K : PySem.W.Frag) (ta : TE) : TE := fun σ H Q => ta σ H fun x H1 => ∃ (l : Addr) (ns : List Int), x = .ref l ∧ SqL K H1 l (ns.map V.int) ∧ ns.length < 64 ∧ Q (.int (dist ns : Nat)) H1
theorem pe_lenSet {X : Cx} {a : Expr} {ta : TE} {p p2 q pos : Pos} (hm : X.mg "len" = none) (hm2 : X.mg "set" = none) (ha : PE X a ta) (hg : Gl X "len" := by exact rfl) (hg2 : Gl X "set" := by exact rfl) (hc : X.calm = true := by rfl)
    (na : starEach [a] X.env = (false, eval a X.env) :: starEach [] X.env := by rfl) : PE X (.Call (.Name "len" p) [.Call (.Name "set" p2) [a] [] q] [] pos) (tLenSet X.K ta) := by
  constructor
  intro pins s σ H Q I asked
  refine Call_ ?_
  apply ld_blt I hg hm PySem.boot_len
  apply PyProof.Rows.callWith_builtin1 _ rfl rfl
  apply PyProof.Rows.args_cons _ rfl
  refine Call_ ?_
  apply ld_blt I hg2 hm2 PyProof.Rows.boot_set
  refine PyProof.Rows.callWith_type1 (PyProof.Rows.args_cons (thn (ha.run pins s σ H _ I asked) (fun v s1 z => PyProof.Rows.args_nil ?_)) na) na rfl
  obtain ⟨x, H1, I1, r1, l, ns, ex, hq, small, q1⟩ := z
  subst ex
  cases (show v = Value.ref l from r1)
  obtain ⟨its, r, pl, _⟩ := I1.list hq
  have size : its.toArray.size = ns.length := by have := r.length; rw [List.length_map] at this; rw [List.size_toArray, this]
  refine call_set_list (I1.ok.hd hc) pl.isList (ns := ns) (by simpa using r.ints) (by rw [size]; unfold scanBound; omega) (fun h' tk hS hk => ?_)
  apply PyProof.Rows.args_nil
  have e : (PyProof.Rows.firstMet (fun i => ns.getD i 0) its.toArray.size).length = dist ns := by
    rw [size]
    unfold PyProof.Rows.firstMet dist
    rw [range_getD]
  have few : dist ns ≤ ns.length := by rw [← e, size]; exact PyProof.Rows.firstMet_length_le _ _
  obtain ⟨o, es, ep, t, ho, hex, hd, _, _, _, hf, hn⟩ := hS
  rw [e] at hn
  have I2 : Inv X pins σ H1 { s1 with heap := h', toks := tk } := I1.kept (fun b o e => hk b o (Heap.lt_size e) e)
  exact call_len_set ho hex hd hf (by rw [hn]; omega) ⟨.int (dist ns : Nat), H1, I2.tok _, ⟨_, by rw [hn]⟩, q1⟩

/-! ### great powers -/
def CPowW (i j : Int) : Prop := 0 ≤ j ∧ (Builtin.Int.intBits i : Int) * j ≤ 2 ^ 27
theorem op_powW {X : Cx} : OpR X (binaryOp .Pow) (rI CPowW fun i j => .int (i ^ j.toNat)) := opI fun _ _ _ _ _ _ _ hc q => pow_int hc.1 hc.2 q

/-! ### kinds of values -/
inductive Kd where | non | bl | int | str | lst | tup | dct
def Kd.nm : Kd → String
  | .non => "NoneType" | .bl => "bool" | .int => "int" | .str => "str" | .lst => "list" | .tup => "tuple" | .dct => "dict"
def Kd.isB : Kd → Bool | .bl => true | _ => false
def Kd.isI : Kd → Bool | .bl => true | .int => true | _ => false
def Kd.isS : Kd → Bool | .str => true | _ => false
def Kd.isT : Kd → Bool | .tup => true | _ => false
theorem kit_bool {K : PySem.W.Frag} (k : Kd) : PySem.W.kitOne K (.type k.nm) (.type "bool") = some k.isB := by cases k <;> exact kit_ty (by decide +kernel)
theorem kit_int {K : PySem.W.Frag} (k : Kd) : PySem.W.kitOne K (.type k.nm) (.type "int") = some k.isI := by cases k <;> exact kit_ty (by decide +kernel)
theorem kit_str {K : PySem.W.Frag} (k : Kd) : PySem.W.kitOne K (.type k.nm) (.type "str") = some k.isS := by cases k <;> exact kit_ty (by decide +kernel)
theorem kit_tup {K : PySem.W.Frag} (k : Kd) : PySem.W.kitOne K (.type k.nm) (.type "tuple") = some k.isT := by cases k <;> exact kit_ty (by decide +kernel)
/-- a value of a kind -/
def Of (K : PySem.W.Frag) (H : Hp) (x : V) (k : Kd) : Prop := TyX K H x (.type k.nm)
theorem Of.bl {K : PySem.W.Frag} {H : Hp} {b : Bool} : Of K H (.bl b) .bl := .base (.bl b)
theorem Of.int {K : PySem.W.Frag} {H : Hp} {i : Int} : Of K H (.int i) .int := .base (.int i)
theorem Of.str {K : PySem.W.Frag} {H : Hp} {y : Str} : Of K H (.str y) .str := .base (.str y)
theorem Of.non {K : PySem.W.Frag} {H : Hp} : Of K H .non .non := .base .non
theorem Of.lst {K : PySem.W.Frag} {H : Hp} {a : Addr} {xs : List V} (h : H a = some (.lst xs)) : Of K H (.ref a) .lst := .base (.lst h)
theorem Of.tup {K : PySem.W.Frag} {H : Hp} {a : Addr} {xs : List V} (h : H a = some (.tup xs)) : Of K H (.ref a) .tup := .base (.tup h)
theorem Of.dct {K : PySem.W.Frag} {H : Hp} {a : Addr} {xs : List (Key × V)} (h : H a = some (.dK xs)) : Of K H (.ref a) .dct := .base (.dK h)
theorem Of.blI {K : PySem.W.Frag} {H : Hp} {x : V} (h : Of K H x .bl) : ∃ i, x = .bl i := by
  have e : Value.type (Kd.nm .bl) = .type "bool" := rfl
  unfold Of at h
  rw [e] at h
  generalize ht : Value.type "bool" = t at h
  cases h with
  | base b => cases b <;> first | exact ⟨_, rfl⟩ | exact absurd ht (by decide +kernel) | (exact absurd ht (by intro z; cases z))
  | byt b => exact absurd ht (by decide +kernel)
  | set _ => exact absurd ht (by decide +kernel)
  | kList _ _ => exact absurd ht (by decide +kernel)
  | kTuple _ _ => exact absurd ht (by decide +kernel)
  | kDict _ _ => exact absurd ht (by decide +kernel)
  | fTuple _ => exact absurd ht (by decide +kernel)
  | fDict _ => exact absurd ht (by decide +kernel)
theorem Of.intI {K : PySem.W.Frag} {H : Hp} {x : V} (h : Of K H x .int) : ∃ i, x = .int i := by
  have e : Value.type (Kd.nm .int) = .type "int" := rfl
  unfold Of at h
  rw [e] at h
  generalize ht : Value.type "int" = t at h
  cases h with
  | base b => cases b <;> first | exact ⟨_, rfl⟩ | exact absurd ht (by decide +kernel) | (exact absurd ht (by intro z; cases z))
  | byt b => exact absurd ht (by decide +kernel)
  | set _ => exact absurd ht (by decide +kernel)
  | kList _ _ => exact absurd ht (by decide +kernel)
  | kTuple _ _ => exact absurd ht (by decide +kernel)
  | kDict _ _ => exact absurd ht (by decide +kernel)
  | fTuple _ => exact absurd ht (by decide +kernel)
  | fDict _ => exact absurd ht (by decide +kernel)
theorem Of.strI {K : PySem.W.Frag} {H : Hp} {x : V} (h : Of K H x .str) : ∃ i, x = .str i := by
  have e : Value.type (Kd.nm .str) = .type "str" := rfl
  unfold Of at h
  rw [e] at h
  generalize ht : Value.type "str" = t at h
  cases h with
  | base b => cases b <;> first | exact ⟨_, rfl⟩ | exact absurd ht (by decide +kernel) | (exact absurd ht (by intro z; cases z))
  | byt b => exact absurd ht (by decide +kernel)
  | set _ => exact absurd ht (by decide +kernel)
  | kList _ _ => exact absurd ht (by decide +kernel)
  | kTuple _ _ => exact absurd ht (by decide +kernel)
  | kDict _ _ => exact absurd ht (by decide +kernel)
  | fTuple _ => exact absurd ht (by decide +kernel)
  | fDict _ => exact absurd ht (by decide +kernel)
/-- a value that is no int -/
theorem Of.notInt {K : PySem.W.Frag} {H : Hp} {i : Int} {k : Kd} (h : Of K H (.int i) k) : k = .int := by
  unfold Of at h
  generalize ht : Value.type k.nm = t at h
  cases h with
  | base b =>
    cases b
    cases k <;> first | rfl | exact absurd ht (by decide +kernel)
theorem Of.notStr {K : PySem.W.Frag} {H : Hp} {i : Str} {k : Kd} (h : Of K H (.str i) k) : k = .str := by
  unfold Of at h
  generalize ht : Value.type k.nm = t at h
  cases h with
  | base b =>
    cases b
    cases k <;> first | rfl | exact absurd ht (by decide +kernel)

/-! ### the dice: a list of three ints, the first of them not below nought -/
def Die (H : Hp) (p : Addr) : Prop := ∃ l b c : Int, 0 ≤ l ∧ H p = some (.lst [.int l, .int b, .int c])
/-- all but the dice at p is as it was -/
structure Got (p : Addr) (H H' : Hp) : Prop where
  keep : ∀ b o, H b = some o → b ≠ p → H' b = some o
  die : Die H' p
theorem Got.same {p : Addr} {H : Hp} (d : Die H p) : Got p H H := ⟨fun _ _ e _ => e, d⟩
theorem Got.trans {p : Addr} {H H1 H2 : Hp} (a : Got p H H1) (b : Got p H1 H2) : Got p H H2 := ⟨fun c o e n => b.keep c o (a.keep c o e n) n, b.die⟩
theorem Got.roll {p : Addr} {H : Hp} {l b c : Int} (h : 0 ≤ l) : Got p H (upd H p (.lst [.int l, .int b, .int c])) := ⟨fun d o e n => by rw [upd_ne n]; exact e, l, b, c, h, upd_same⟩
theorem Got.new {p q : Addr} {H : Hp} {o : HO} (d : Die H p) (n : H q = none) : Got p H (upd H q o) := by
  obtain ⟨l, b, c, l0, e⟩ := d
  exact ⟨fun x u z _ => by rw [upd_ne (ne_of_none z n)]; exact z, l, b, c, l0, by rw [upd_ne (ne_of_none e n)]; exact e⟩
theorem Got.free {p q : Addr} {H H' : Hp} (g : Got p H H') (d : Die H p) (n : H' q = none) : H q = none := by
  cases e : H q with
  | none => rfl
  | some o =>
    obtain ⟨l, b, c, _, ep⟩ := g.die
    by_cases z : q = p
    · rw [z, ep] at n; cases n
    · rw [g.keep q o e z] at n; cases n
theorem Got.over {p t : Addr} {H H' : Hp} (g : Got p H H') (d : Die H p) (n : H t = none) (u : HO) : Got p H (upd H' t u) := by
  refine ⟨fun b o e z => by rw [upd_ne (ne_of_none e n)]; exact g.keep b o e z, ?_⟩
  obtain ⟨l, b, c, l0, e⟩ := g.die
  obtain ⟨_, _, _, _, e0⟩ := d
  exact ⟨l, b, c, l0, by rw [upd_ne (ne_of_none e0 n)]; exact e⟩
theorem new_keep {H : Hp} {a p : Addr} {o u : HO} (h : H a = some o) (n : H p = none) : upd H p u a = some o := by rw [upd_ne (ne_of_none h n)]; exact h
theorem new_keep2 {H : Hp} {a p : Addr} {o u u' : HO} (h : H a = some o) (n : H p = none) : upd (upd H p u) p u' a = some o := by rw [upd_ne (ne_of_none h n), upd_ne (ne_of_none h n)]; exact h
theorem Die.ne {p q : Addr} {H : Hp} (d : Die H p) (n : H q = none) : p ≠ q := by
  obtain ⟨l, b, c, _, e⟩ := d
  exact ne_of_none e n
end GL
namespace GL
open PySem PySem.Spec PyProof.Rows L2
variable {K : PySem.W.Frag}
@[irreducible] def B : Int := 10 ^ 400
theorem B_eq : (B : Int) = 10 ^ 400 := by unfold B; rfl
def isIntV : V → Bool
  | .int i => decide (-B < i) && decide (i < B)
  | _ => false
def spIsInt (K : PySem.W.Frag) : Sp := fun vs H Q _ => ∃ x k, vs = [x] ∧ Of K H x k ∧ Q (.bl (isIntV x)) H
def isCountV : V → Bool
  | .int i => isIntV (.int i) && decide (0 ≤ i)
  | _ => false
def spIsCount (K : PySem.W.Frag) : Sp := fun vs H Q _ => ∃ x k, vs = [x] ∧ Of K H x k ∧ Q (.bl (isCountV x)) H
theorem one_sign {y : Str} (h : y.length = 1) : ∃ c, y = ⟨#[c]⟩ := by
  obtain ⟨⟨l⟩⟩ := y
  match l, h with
  | [c], _ => exact ⟨c, rfl⟩
def spRoll : Sp := fun vs H Q _ => ∃ p t, vs = [.ref p, .int t] ∧ Die H p ∧ 0 < t ∧ t.natAbs < 2 ^ 2000 ∧ ∀ r H', 0 ≤ r → r < t → Got p H H' → Q (.int r) H'
theorem at_ints {ns : List Int} {i : Int} (h0 : 0 ≤ i) (h1 : i < ns.length) : ∃ n, atI (ns.map V.int) i = some (.int n) := by
  obtain ⟨j, rfl⟩ : ∃ j : Nat, i = (j : Int) := ⟨i.toNat, by omega⟩
  have hj : j < ns.length := by omega
  exact ⟨ns[j], atI_nat (by rw [List.getElem?_map, List.getElem?_eq_getElem hj]; rfl)⟩
def spDice (K : PySem.W.Frag) : Sp := fun vs H Q _ => ∃ (a : Addr) (ns : List Int) (spot : Int), vs = [.ref a, .int spot] ∧ SqL K H a (ns.map V.int) ∧ 0 ≤ spot ∧ ∀ p H', H p = none → Same H H' → Die H' p → Q (.ref p) H'
def spPick : Sp := fun vs H Q _ => ∃ (p q : Addr) (xs : List V), vs = [.ref p, .ref q] ∧ Die H p ∧ (H q = some (.lst xs) ∨ H q = some (.tup xs)) ∧ q ≠ p ∧ 0 < xs.length ∧ xs.length ≤ 1000 ∧ ∀ v H', v ∈ xs → Got p H H' → Q v H'
def spLimit : Sp := fun vs H Q _ => vs = [] ∧ Q (.int B) H
theorem int_short {n : Int} : isIntV (.int n) = decide (n.natAbs < 10 ^ 400) := by
  have e : (10 : Int) ^ 400 = ((10 ^ 400 : Nat) : Int) := by rw [Int.natCast_pow]; rfl
  show (decide (-B < n) && decide (n < B)) = _
  rw [B_eq, e]
  generalize (10 ^ 400 : Nat) = N
  rw [Bool.eq_iff_iff]
  simp only [Bool.and_eq_true, decide_eq_true_eq]
  omega

theorem _root_.GL.Of.same {H H' : Hp} {x : V} {k : Kd} (h : Of K H x k) (s : Same H H') : Of K H' x k := by
  unfold Of at h ⊢
  generalize Value.type k.nm = t at h ⊢
  cases h with
  | base b =>
    cases b with
    | non => exact .base .non
    | bl x => exact .base (.bl x)
    | int i => exact .base (.int i)
    | str y => exact .base (.str y)
    | flt y => exact .base (.flt y)
    | lst e => exact .base (.lst (s _ _ e))
    | frz e => exact .base (.frz (s _ _ e))
    | tup e => exact .base (.tup (s _ _ e))
    | dK e => exact .base (.dK (s _ _ e))
    | dT e => exact .base (.dT (s _ _ e))
    | ins e a b c d e2 => exact .base (.ins (s _ _ e) a b c d e2)
  | byt b => exact .byt b
  | set e => exact .set (s _ _ e)
  | kList e c => exact .kList e c
  | kTuple e c => exact .kTuple e c
  | kDict e c => exact .kDict e c
  | fTuple e => exact .fTuple (s _ _ e)
  | fDict e => exact .fDict (s _ _ e)
/-- what is told of a value as a point -/
def PtV (K : PySem.W.Frag) (H : Hp) (x : V) (r : Bool) : Prop := ∃ k, Of K H x k ∧ (k.isT = false → r = false) ∧
  (k.isT = true → ∃ a xs, x = .ref a ∧ SqT K H a xs ∧ xs.length ≤ 1000 ∧ (xs.length ≠ 2 → r = false) ∧ (xs.length = 2 → ∃ u v ku kv, xs = [u, v] ∧ Of K H u ku ∧ Of K H v kv ∧ r = (isIntV u && isIntV v)))
def spIsPoint (K : PySem.W.Frag) : Sp := fun vs H Q _ => ∃ x r, vs = [x] ∧ PtV K H x r ∧ Q (.bl r) H
theorem ptTup2 {H : Hp} {a : Addr} {u v : V} {ku kv : Kd} (h : H a = some (.tup [u, v])) (hu : Of K H u ku) (hv : Of K H v kv) : PtV K H (.ref a) (isIntV u && isIntV v) :=
  ⟨.tup, .tup h, (fun z => nomatch z), fun _ => ⟨a, _, rfl, SqT.of h, (by show 2 ≤ 1000; decide), fun z => absurd rfl z, fun _ => ⟨u, v, ku, kv, rfl, hu, hv, rfl⟩⟩⟩
theorem ptTupN {H : Hp} {a : Addr} {xs : List V} (h : H a = some (.tup xs)) (l : xs.length ≤ 1000) (n : xs.length ≠ 2) : PtV K H (.ref a) false :=
  ⟨.tup, .tup h, (fun z => nomatch z), fun _ => ⟨a, _, rfl, SqT.of h, l, fun _ => rfl, fun z => absurd z n⟩⟩
theorem ptNo {H : Hp} {x : V} {k : Kd} (h : Of K H x k) (e : k.isT = false) : PtV K H x false := ⟨k, h, fun _ => rfl, fun z => by rw [e] at z; cases z⟩
def spPart : Sp := fun vs H Q _ => ∃ p, vs = [.ref p] ∧ Die H p ∧ ∀ n H', isIntV (.int n) = true → Got p H H' → Q (.int n) H'
def spMixed : Sp := fun vs H Q _ => ∃ (p q : Addr) (xs : List V), vs = [.ref p, .ref q] ∧ Die H p ∧ H q = some (.lst xs) ∧ q ≠ p ∧ xs.length ≤ 1000 ∧ ∀ l ys H', H l = none → l ≠ p → ys.length = xs.length → (∀ v ∈ ys, v ∈ xs) → H' l = some (.lst ys) → Got p H H' → Q (.ref l) H'

theorem Same.new {H : Hp} {p : Addr} {o : HO} (n : H p = none) : Same H (upd H p o) := fun b u e => by rw [upd_ne (ne_of_none e n)]; exact e
theorem Same.over {H H' : Hp} {p : Addr} (s : Same H H') (n : H p = none) (o : HO) : Same H (upd H' p o) := fun b u e => by rw [upd_ne (ne_of_none e n)]; exact s b u e
/-! ### lists of truth values -/
def bls (bs : List Bool) : PyData := .list (bs.map .bool)
theorem bls_dp {K : PySem.W.Frag} {H : Hp} : ∀ {bs : List Bool}, DpAll K H (bs.map V.bl) (bs.map .bool)
  | [] => .nil
  | b :: _ => .cons (.bl b) bls_dp
theorem bls_at {K : PySem.W.Frag} {H : Hp} {l : Addr} {bs : List Bool} (h : H l = some (.lst (bs.map V.bl))) : Dp K H (.ref l) (bls bs) := .lst (SqL.of h) bls_dp
theorem bls_eqv (bs : List Bool) : PyData.eqv (bls bs) (bls bs) = true := by
  show PyData.eqvAll (bs.map .bool) (bs.map .bool) = true
  induction bs with
  | nil => rfl
  | cons b r ih => rw [List.map_cons, PyData.eqvAll, ih]; cases b <;> rfl
theorem b4_ok (x y z u : Bool) : (bls [x, y, z, u]).showable = true ∧ (bls [x, y, z, u]).hasDict = false ∧ (bls [x, y, z, u]).depth ≤ 20 ∧ (bls [x, y, z, u]).shown.length ≤ sizeLine := by
  cases x <;> cases y <;> cases z <;> cases u <;> exact ⟨by decide +kernel, by decide +kernel, by decide +kernel, by decide +kernel⟩
theorem b4_shaped (x y z u : Bool) : SeqAt.shaped (bls [x, y, z, u]) = true := by cases x <;> cases y <;> cases z <;> cases u <;> decide +kernel
theorem few_of {n k : Nat} (hk : 1 ≤ k) (z : Int) (hz : (if (if (n : Int) < k then (n : Int) else k) > 1 then (if (n : Int) < k then (n : Int) else k) else 1) = z) : 0 ≤ z ∧ z ≤ k := by
  subst hz
  constructor <;> (split <;> (try split) <;> omega)
theorem seq_got {K : PySem.W.Frag} {a p : Addr} {xs : List V} {H0 H1 H' : Hp} (h : SqL K H0 a xs) (np : H0 p = none) (same : Same H0 H1) (g : Got p H1 H') : SqL K H' a xs := by
  have kp : ∀ o, H0 a = some o → H' a = some o := fun o e => g.keep a o (same a o e) (ne_of_none e np)
  rcases h with (z | ⟨o, z⟩) | z
  · exact .inl (.inl (kp _ z))
  · exact .inl (.inr ⟨o, kp _ z⟩)
  · exact .inr z
theorem take_map {α β : Type} {f : α → β} {l : List α} {i : Nat} {x : α} (h : l[i]? = some x) : (l.take i).map f ++ [f x] = (l.take (i + 1)).map f := by
  rw [List.take_add_one, h, List.map_append]
  rfl
theorem four {l : List V} (h : l.length = 4) : ∃ a b c d, l = [a, b, c, d] := by
  match l, h with
  | [a, b, c, d], _ => exact ⟨a, b, c, d, rfl⟩
end GL
namespace GL
open PySem PySem.Spec PyProof.Rows L2
/-! ### the two grids: false is the square one, true the other -/
def nm : Bool → Str | false => "square" | true => "triangle"
def num : Bool → Nat | false => 4 | true => 6
def sl : Bool → Int | false => 0 | true => 1
def ux : Bool → List (Int × Int)
  | false => [(1, 0), (0, 1), (-1, 0), (0, -1)]
  | true => [(1, 0), (0, 1), (-1, 1), (-1, 0), (0, -1), (1, -1)]
def mul (t : Bool) (u v : Int × Int) : Int × Int := (u.1 * v.1 - u.2 * v.2, u.1 * v.2 + u.2 * v.1 + sl t * (u.2 * v.2))
def nrm (t : Bool) (u : Int × Int) : Int := u.1 * u.1 + sl t * u.1 * u.2 + u.2 * u.2
def flip (t : Bool) (u : Int × Int) : Int × Int := (u.1 + sl t * u.2, -u.2)
def uni (t : Bool) (k : Int) : Int × Int := (ux t).getD (k % (num t : Int)).toNat (0, 0)
/-- what of the grids stands in the text -/
structure Uni (K : PySem.W.Frag) (w : World) (aG dU : Addr) (U : Bool → Addr) (us : Bool → List Addr) : Prop where
  grids : ∀ H, SqT K H aG [.str "square", .str "triangle"]
  key : ∀ t, KDct K w dU (nm t) (.ref (U t))
  tup : ∀ t H, SqT K H (U t) ((us t).map V.ref)
  len : ∀ t, (us t).length = num t
  pt : ∀ t (i : Nat) a p, (us t)[i]? = some a → (ux t)[i]? = some p → ∀ H, SqT K H a [.int p.1, .int p.2]
def gF (U : Bool → Addr) (t : Bool) : List (Str × V) := [("name", .str (nm t)), ("units", .ref (U t)), ("half", .int ((num t : Int) / 2)), ("slant", .int (sl t))]
def GridAt (C : Addr) (U : Bool → Addr) (H : Hp) (g : Addr) (t : Bool) : Prop := ∃ dx, H g = some (.ins C dx (gF U t))
structure GCls (K : PySem.W.Frag) (C : Addr) : Prop where
  cls : Cls K C
  name : NoAttr K C "name"
  units : NoAttr K C "units"
  half : NoAttr K C "half"
  slant : NoAttr K C "slant"
theorem put2 {a b : Str} {x y : V} (h : ¬ a = b) : putF b y [(a, x)] = [(a, x), (b, y)] := by
  show (if a = b then _ else (a, x) :: putF b y []) = _
  rw [if_neg h]
  rfl
theorem put3 {a b c : Str} {x y z : V} (h1 : ¬ a = c) (h2 : ¬ b = c) : putF c z [(a, x), (b, y)] = [(a, x), (b, y), (c, z)] := by
  show (if a = c then _ else (a, x) :: putF c z [(b, y)]) = _
  rw [if_neg h1, put2 h2]
theorem put4 {a b c d : Str} {x y z u : V} (h1 : ¬ a = d) (h2 : ¬ b = d) (h3 : ¬ c = d) : putF d u [(a, x), (b, y), (c, z)] = [(a, x), (b, y), (c, z), (d, u)] := by
  show (if a = d then _ else (a, x) :: putF d u [(b, y), (c, z)]) = _
  rw [if_neg h1, put3 h2 h3]
variable {K : PySem.W.Frag} {C : Addr} {U : Bool → Addr} {us : Bool → List Addr} {t : Bool}
theorem gF_units : (gF U t).lookup ("units" : Str) = some (.ref (U t)) := by unfold gF; cases t <;> rfl
theorem gF_slant : (gF U t).lookup ("slant" : Str) = some (.int (sl t)) := by unfold gF; cases t <;> rfl
theorem gF_half : (gF U t).lookup ("half" : Str) = some (.int ((num t : Int) / 2)) := by unfold gF; cases t <;> rfl
theorem gF_name : (gF U t).lookup ("name" : Str) = some (.str (nm t)) := by unfold gF; cases t <;> rfl
theorem GridAt.same {H H' : Hp} {g : Addr} (h : GridAt C U H g t) (s : Same H H') : GridAt C U H' g t := let ⟨dx, e⟩ := h; ⟨dx, s _ _ e⟩
theorem GridAt.got {p : Addr} {H H' : Hp} {g : Addr} (h : GridAt C U H g t) (s : Got p H H') (d : Die H p) : GridAt C U H' g t := by
  obtain ⟨dx, e⟩ := h
  obtain ⟨_, _, _, _, e0⟩ := d
  exact ⟨dx, s.keep _ _ e (ne_of e e0 (by intro z; cases z))⟩
/-- a point that stands at an address -/
def PAt (K : PySem.W.Frag) (H : Hp) (a : Addr) (u : Int × Int) : Prop := SqT K H a [.int u.1, .int u.2]
theorem PAt.same {H H' : Hp} {a : Addr} {u : Int × Int} (h : PAt K H a u) (s : Same H H') : PAt K H' a u := by
  rcases h with (z | ⟨o, z⟩) | z
  · exact .inl (.inl (s _ _ z))
  · exact .inl (.inr ⟨o, s _ _ z⟩)
  · exact .inr z
theorem PAt.got {p : Addr} {H H' : Hp} {a : Addr} {u : Int × Int} (h : PAt K H a u) (s : Got p H H') (d : Die H p) : PAt K H' a u := by
  obtain ⟨_, _, _, _, e0⟩ := d
  rcases h with (z | ⟨o, z⟩) | z
  · exact .inl (.inl (s.keep _ _ z (ne_of z e0 (by intro z; cases z))))
  · exact .inl (.inr ⟨o, s.keep _ _ z (ne_of z e0 (by intro z; cases z))⟩)
  · exact .inr z
theorem PAt.of {H : Hp} {a : Addr} {u : Int × Int} (h : H a = some (.tup [.int u.1, .int u.2])) : PAt K H a u := SqT.of h
def Sm (u : Int × Int) : Prop := u.1.natAbs < 2 ^ 3000 ∧ u.2.natAbs < 2 ^ 3000
theorem sm_mul {x y : Int} (hx : x.natAbs < 2 ^ 3000) (hy : y.natAbs < 2 ^ 3000) : CMulW x y := wide_mul hx hy (by decide) (by decide) (by decide)
theorem sl_mul {x : Int} (hx : x.natAbs < 2 ^ 6000) : CMulW (sl t) x := wide_mul (a := 1) (by cases t <;> decide) hx (by decide) (by decide) (by decide)
theorem num_pos : (0 : Int) < (num t : Int) := by cases t <;> decide
theorem len_ux : (ux t).length = num t := by cases t <;> rfl
theorem uni_at (k : Int) : (ux t)[(k % (num t : Int)).toNat]? = some (uni t k) := by
  have h1 := Int.emod_nonneg k (Int.ne_of_gt (num_pos (t := t)))
  have h2 := Int.emod_lt_of_pos k (num_pos (t := t))
  have h3 : (k % (num t : Int)).toNat < (ux t).length := by rw [len_ux]; omega
  rw [List.getElem?_eq_getElem h3]
  unfold uni
  rw [List.getD_eq_getElem?_getD, List.getElem?_eq_getElem h3]
  rfl
theorem uni_sm {k : Int} : Sm (uni t k) := by
  have h : ∀ p ∈ ux t, p.1.natAbs ≤ 1 ∧ p.2.natAbs ≤ 1 := by cases t <;> decide
  have z := h _ (List.mem_of_getElem? (uni_at (t := t) k))
  have b : (1 : Nat) < 2 ^ 3000 := by decide
  exact ⟨Nat.lt_of_le_of_lt z.1 b, Nat.lt_of_le_of_lt z.2 b⟩
theorem SqT.tup' {H : Hp} {a : Addr} {xs : List V} (h : SqT K H a xs) : Of K H (.ref a) .tup := by
  rcases h with (z | ⟨o, z⟩) | ⟨o, its, n, l, cl, _⟩
  · exact .base (.tup z)
  · exact .fTuple z
  · exact .kTuple l cl
theorem ptOk_sm {u : Int × Int} (h1 : isIntV (.int u.1) = true) (h2 : isIntV (.int u.2) = true) : Sm u := by
  rw [int_short] at h1 h2
  have b : (10 ^ 400 : Nat) ≤ 2 ^ 3000 := by decide +kernel
  exact ⟨Nat.lt_of_lt_of_le (of_decide_eq_true h1) b, Nat.lt_of_lt_of_le (of_decide_eq_true h2) b⟩
theorem len_put {f : Str} {y : V} : ∀ {fs : List (Str × V)}, (putF f y fs).length ≤ fs.length + 1
  | [] => Nat.le_refl _
  | (a, x) :: r => by
    show (if a = f then (a, y) :: r else (a, x) :: putF f y r).length ≤ _
    by_cases h : a = f
    · rw [if_pos h]; exact Nat.le_succ _
    · rw [if_neg h]; exact Nat.succ_le_succ len_put
theorem small_put {f : Str} {y : V} {fs : List (Str × V)} {n : Nat} (h : fs.length ≤ n) : (putF f y fs).length ≤ n + 1 := Nat.le_trans len_put (Nat.succ_le_succ h)
theorem bl_ne (x y : Bool) : (!decide (V.bl x = V.bl y)) = (x != y) := by cases x <;> cases y <;> decide +kernel
theorem bl_eq (x y : Bool) : decide (V.bl x = V.bl y) = (x == y) := by cases x <;> cases y <;> decide +kernel
theorem nat_eq (n m : Nat) : decide (V.int (n : Int) = V.int (m : Int)) = decide (n = m) := by
  by_cases h : n = m
  · subst h; rw [decide_eq_true rfl, decide_eq_true rfl]
  · rw [decide_eq_false h, decide_eq_false (fun z => h (by injection z with z; omega))]
/-! ### promises -/
def spInit (C : Addr) (U : Bool → Addr) : Sp := fun vs H Q _ => ∃ p dx t, vs = [.ref p, .str (nm t)] ∧ H p = some (.ins C dx []) ∧ ∀ H', (∀ b, b ≠ p → H' b = H b) → H' p = some (.ins C dx (gF U t)) → Q .non H'
def spTimes (K : PySem.W.Frag) (C : Addr) (U : Bool → Addr) : Sp := fun vs H Q _ => ∃ g t a b u v, vs = [.ref g, .ref a, .ref b] ∧ GridAt C U H g t ∧ PAt K H a u ∧ PAt K H b v ∧ Sm u ∧ Sm v ∧ ∀ p, H p = none → Q (.ref p) (upd H p (.tup [.int (mul t u v).1, .int (mul t u v).2]))
def spNorm (K : PySem.W.Frag) (C : Addr) (U : Bool → Addr) : Sp := fun vs H Q _ => ∃ g t a u, vs = [.ref g, .ref a] ∧ GridAt C U H g t ∧ PAt K H a u ∧ Sm u ∧ Q (.int (nrm t u)) H
def spFlip (K : PySem.W.Frag) (C : Addr) (U : Bool → Addr) : Sp := fun vs H Q _ => ∃ g t a u, vs = [.ref g, .ref a] ∧ GridAt C U H g t ∧ PAt K H a u ∧ Sm u ∧ ∀ p, H p = none → Q (.ref p) (upd H p (.tup [.int (flip t u).1, .int (flip t u).2]))
def spTurned (K : PySem.W.Frag) (C : Addr) (U : Bool → Addr) : Sp := fun vs H Q _ => ∃ g t a u k, vs = [.ref g, .ref a, .int k] ∧ GridAt C U H g t ∧ PAt K H a u ∧ Sm u ∧ ∀ p, H p = none → Q (.ref p) (upd H p (.tup [.int (mul t u (uni t k)).1, .int (mul t u (uni t k)).2]))
def ptOk (u : Int × Int) : Prop := isIntV (.int u.1) = true ∧ isIntV (.int u.2) = true
def spCheckP (K : PySem.W.Frag) : Sp := fun vs H Q _ => ∃ a u, vs = [.ref a] ∧ PAt K H a u ∧ ptOk u ∧ Q .non H
def spCheckN : Sp := fun vs H Q _ => ∃ k, vs = [.int k] ∧ isIntV (.int k) = true ∧ Q .non H
def spMUnit (K : PySem.W.Frag) (C : Addr) (U : Bool → Addr) : Sp := fun vs H Q _ => ∃ g t k, vs = [.ref g, .int k] ∧ GridAt C U H g t ∧ isIntV (.int k) = true ∧ ∀ i, (∀ H', PAt K H' i (uni t k)) → Q (.ref i) H
def spMNorm (K : PySem.W.Frag) (C : Addr) (U : Bool → Addr) : Sp := fun vs H Q _ => ∃ g t a u, vs = [.ref g, .ref a] ∧ GridAt C U H g t ∧ PAt K H a u ∧ ptOk u ∧ Q (.int (nrm t u)) H
def spMFlip (K : PySem.W.Frag) (C : Addr) (U : Bool → Addr) : Sp := fun vs H Q _ => ∃ g t a u, vs = [.ref g, .ref a] ∧ GridAt C U H g t ∧ PAt K H a u ∧ ptOk u ∧ ∀ p, H p = none → Q (.ref p) (upd H p (.tup [.int (flip t u).1, .int (flip t u).2]))
def spMTurned (K : PySem.W.Frag) (C : Addr) (U : Bool → Addr) : Sp := fun vs H Q _ => ∃ g t a u k, vs = [.ref g, .ref a, .int k] ∧ GridAt C U H g t ∧ PAt K H a u ∧ ptOk u ∧ isIntV (.int k) = true ∧ ∀ p, H p = none → Q (.ref p) (upd H p (.tup [.int (mul t u (uni t k)).1, .int (mul t u (uni t k)).2]))
def spMLen (C : Addr) (U : Bool → Addr) : Sp := fun vs H Q _ => ∃ g t, vs = [.ref g] ∧ GridAt C U H g t ∧ Q (.int (num t : Nat)) H
def alt (t : Bool) (e o : Int × Int) : Bool :=
  decide (dist [0, (e.2 - e.1) % (num t : Int), (o.1 - e.1) % (num t : Int), (o.2 - e.1) % (num t : Int)] = 4) &&
    (decide ((o.1 - e.1) % (num t : Int) < (e.2 - e.1) % (num t : Int)) != decide ((o.2 - e.1) % (num t : Int) < (e.2 - e.1) % (num t : Int)))
def spMAlt (K : PySem.W.Frag) (C : Addr) (U : Bool → Addr) : Sp := fun vs H Q _ => ∃ g t a b e o, vs = [.ref g, .ref a, .ref b] ∧ GridAt C U H g t ∧ PAt K H a e ∧ PAt K H b o ∧ ptOk e ∧ ptOk o ∧ ∀ H', Same H H' → Q (.bl (alt t e o)) H'
/-! ### the law's own grids -/
def PlainAt (H : Hp) (q : Addr) (t : Bool) : Prop := H q = some (.dK [(.inr "grid", .str (nm t))])
theorem PlainAt.get {H : Hp} {q : Addr} {t : Bool} (h : PlainAt H q t) : DGet H q (.str "grid") (some (.str (nm t))) := by
  have z := DGet.k (k := .inr "grid") h
  exact z
def spPlain : Sp := fun vs H Q _ => ∃ p, vs = [.ref p] ∧ Die H p ∧ ∀ q t H', H q = none → q ≠ p → PlainAt H' q t → Got p H H' → Q (.ref q) H'
def spAround : Sp := fun vs H Q _ => ∃ q t, vs = [.ref q] ∧ PlainAt H q t ∧ Q (.int (num t : Nat)) H
def spUnitL (K : PySem.W.Frag) : Sp := fun vs H Q _ => ∃ q t k, vs = [.ref q, .int k] ∧ PlainAt H q t ∧ ∀ p H', Same H H' → PAt K H' p (uni t k) → Q (.ref p) H'
def spTimesL (K : PySem.W.Frag) : Sp := fun vs H Q _ => ∃ q t a b u v, vs = [.ref q, .ref a, .ref b] ∧ PlainAt H q t ∧ PAt K H a u ∧ PAt K H b v ∧ Sm u ∧ Sm v ∧ ∀ p, H p = none → Q (.ref p) (upd H p (.tup [.int (mul t u v).1, .int (mul t u v).2]))
def spSpun (K : PySem.W.Frag) : Sp := fun vs H Q _ => ∃ q t a u k, vs = [.ref q, .ref a, .int k] ∧ PlainAt H q t ∧ PAt K H a u ∧ Sm u ∧ ∀ p H', Same H H' → PAt K H' p (mul t u (uni t k)) → Q (.ref p) H'
/-- how many of a pair have the rest d -/
def cnt2 (m : Int) (u : Int × Int) (d : Nat) : Nat := (if u.1 % m = (d : Int) then 1 else 0) + (if u.2 % m = (d : Int) then 1 else 0)
def metUp (m : Int) (e o : Int × Int) : Nat → List Int
  | 0 => []
  | d + 1 => (metUp m e o d ++ List.replicate (cnt2 m e d) 0) ++ List.replicate (cnt2 m o d) 1
def doAlt (m : Nat) (e o : Int × Int) : Bool := decide (dist [e.1 % (m : Int), e.2 % (m : Int), o.1 % (m : Int), o.2 % (m : Int)] = 4) && ([[0, 1, 0, 1], [1, 0, 1, 0]].any fun z => decide (z = metUp m e o m))
def spDoAlt (K : PySem.W.Frag) : Sp := fun vs H Q _ => ∃ t a b e o, vs = [.int (num t : Nat), .ref a, .ref b] ∧ PAt K H a e ∧ PAt K H b o ∧ ∀ H', Same H H' → Q (.bl (doAlt (num t) e o)) H'
/-! ### lists of ints -/
def intL (ns : List Int) : PyData := .list (ns.map .int)
theorem intL_dp {K : PySem.W.Frag} {H : Hp} : ∀ {ns : List Int}, DpAll K H (ns.map V.int) (ns.map .int)
  | [] => .nil
  | n :: _ => .cons (.int n) intL_dp
theorem intL_at {K : PySem.W.Frag} {H : Hp} {l : Addr} {ns : List Int} (h : H l = some (.lst (ns.map V.int))) : Dp K H (.ref l) (intL ns) := .lst (SqL.of h) intL_dp
theorem intL_eqv (a b : List Int) : PyData.eqv (intL a) (intL b) = decide (a = b) := by
  show PyData.eqvAll (a.map .int) (b.map .int) = _
  induction a generalizing b with
  | nil => cases b <;> simp [PyData.eqvAll]
  | cons x r ih =>
    cases b with
    | nil => simp [PyData.eqvAll]
    | cons y q =>
      rw [List.map_cons, List.map_cons, PyData.eqvAll, ih q, show PyData.eqv (.int x) (.int y) = (x == y) from rfl]
      rw [Bool.eq_iff_iff]
      simp
theorem flat_rep (c : Nat) (x : Int) : (List.replicate c [V.int x]).flatten = (List.replicate c x).map V.int := by
  induction c with
  | zero => rfl
  | succ n ih => rw [List.replicate_succ, List.flatten_cons, ih]; rfl
theorem metUp_len {m : Int} {e o : Int × Int} : ∀ i, (metUp m e o i).length ≤ 4 * i
  | 0 => Nat.le_refl _
  | i + 1 => by
    have := metUp_len (m := m) (e := e) (o := o) i
    have h : ∀ u : Int × Int, cnt2 m u i ≤ 2 := by intro u; unfold cnt2; split <;> split <;> decide
    have h1 := h e
    have h2 := h o
    rw [metUp, List.length_append, List.length_append, List.length_replicate, List.length_replicate]
    omega
theorem shaped_intL (ns : List Int) : SeqAt.shaped (intL ns) = true := PySem.W.shaped_ints ns
theorem int_eq {x y : Int} : decide (V.int x = V.int y) = decide (x = y) := by
  by_cases h : x = y
  · subst h; rw [decide_eq_true rfl, decide_eq_true rfl]
  · rw [decide_eq_false h, decide_eq_false (fun z => h (by injection z))]
/-- how many of the first j of a pair have the rest d -/
def cntU (m : Int) (u : Int × Int) (d : Nat) : Nat → Nat
  | 0 => 0
  | 1 => if u.1 % m = (d : Int) then 1 else 0
  | _ => cnt2 m u d
theorem cntU_all {m : Int} {u : Int × Int} {d : Nat} : cntU m u d [V.int u.1, V.int u.2].length = cnt2 m u d := rfl
theorem cnt2_le {m : Int} {u : Int × Int} {d : Nat} : cnt2 m u d ≤ 2 := by unfold cnt2; split <;> split <;> decide
theorem cntU_le {m : Int} {u : Int × Int} {d j : Nat} : cntU m u d j ≤ 2 := by
  match j with
  | 0 => exact Nat.zero_le _
  | 1 => show (if _ then 1 else 0) ≤ 2; split <;> decide
  | _ + 2 => exact cnt2_le
theorem pair_at {u : Int × Int} {j : Nat} {x : V} (h : [V.int u.1, V.int u.2][j]? = some x) : ∃ y, x = .int y ∧ [u.1, u.2][j]? = some y := by
  match j, h with
  | 0, h => exact ⟨_, (Option.some.inj h).symm, rfl⟩
  | 1, h => exact ⟨_, (Option.some.inj h).symm, rfl⟩
theorem cntU_yes {m : Int} {u : Int × Int} {d j : Nat} {y : Int} (h : [u.1, u.2][j]? = some y) (c : y % m = (d : Int)) : cntU m u d j + 1 = cntU m u d (j + 1) := by
  match j, h with
  | 0, h => cases (Option.some.inj h); show 0 + 1 = if _ then 1 else 0; rw [if_pos c]
  | 1, h => cases (Option.some.inj h); show (if _ then 1 else 0) + 1 = cnt2 m u d; unfold cnt2; rw [if_pos c]
theorem cntU_no {m : Int} {u : Int × Int} {d j : Nat} {y : Int} (h : [u.1, u.2][j]? = some y) (c : ¬ y % m = (d : Int)) : cntU m u d j = cntU m u d (j + 1) := by
  match j, h with
  | 0, h => cases (Option.some.inj h); show 0 = if _ then 1 else 0; rw [if_neg c]
  | 1, h => cases (Option.some.inj h); show (if _ then 1 else 0) = cnt2 m u d; unfold cnt2; rw [if_neg c]; rfl
/-! ### what the text has, for the end -/
def TupK (K : PySem.W.Frag) (a : Addr) (xs : List V) : Prop := ∃ (o : Obj) (its : Array Value) (n : Nat), K.lookup a = some o ∧ o.cls = .type "tuple" ∧ o.data = .seq its n ∧ its.size ≤ sizeLine ∧ Vals xs its.toList
theorem TupK.at {K : PySem.W.Frag} {a : Addr} {xs : List V} (h : TupK K a xs) (H : Hp) : SqT K H a xs := .inr h
theorem uni_mk {K : PySem.W.Frag} {w : World} {aG dU aS aT s0 s1 s2 s3 t0 t1 t2 t3 t4 t5 : Addr} (g : TupK K aG [.str "square", .str "triangle"]) (kS : KDct K w dU "square" (.ref aS)) (kT : KDct K w dU "triangle" (.ref aT))
    (hS : TupK K aS [.ref s0, .ref s1, .ref s2, .ref s3]) (hT : TupK K aT [.ref t0, .ref t1, .ref t2, .ref t3, .ref t4, .ref t5])
    (p0 : TupK K s0 [.int 1, .int 0]) (p1 : TupK K s1 [.int 0, .int 1]) (p2 : TupK K s2 [.int (-1), .int 0]) (p3 : TupK K s3 [.int 0, .int (-1)])
    (q0 : TupK K t0 [.int 1, .int 0]) (q1 : TupK K t1 [.int 0, .int 1]) (q2 : TupK K t2 [.int (-1), .int 1]) (q3 : TupK K t3 [.int (-1), .int 0]) (q4 : TupK K t4 [.int 0, .int (-1)]) (q5 : TupK K t5 [.int 1, .int (-1)]) :
    Uni K w aG dU (fun t => cond t aT aS) (fun t => cond t [t0, t1, t2, t3, t4, t5] [s0, s1, s2, s3]) where
  grids := g.at
  key := fun t => by cases t; exact kS; exact kT
  tup := fun t H => by cases t; exact hS.at H; exact hT.at H
  len := fun t => by cases t <;> rfl
  pt := fun t i a p ha hp H => by
    cases t
    · match i, ha, hp with
      | 0, ha, hp => cases Option.some.inj ha; cases Option.some.inj hp; exact p0.at H
      | 1, ha, hp => cases Option.some.inj ha; cases Option.some.inj hp; exact p1.at H
      | 2, ha, hp => cases Option.some.inj ha; cases Option.some.inj hp; exact p2.at H
      | 3, ha, hp => cases Option.some.inj ha; cases Option.some.inj hp; exact p3.at H
    · match i, ha, hp with
      | 0, ha, hp => cases Option.some.inj ha; cases Option.some.inj hp; exact q0.at H
      | 1, ha, hp => cases Option.some.inj ha; cases Option.some.inj hp; exact q1.at H
      | 2, ha, hp => cases Option.some.inj ha; cases Option.some.inj hp; exact q2.at H
      | 3, ha, hp => cases Option.some.inj ha; cases Option.some.inj hp; exact q3.at H
      | 4, ha, hp => cases Option.some.inj ha; cases Option.some.inj hp; exact q4.at H
      | 5, ha, hp => cases Option.some.inj ha; cases Option.some.inj hp; exact q5.at H
theorem kdct_mk {K : PySem.W.Frag} {w : World} {a v : Addr} {x : Str} {es : Array DictEntry} {n : Nat} (l : K.lookup a = some ⟨.type "dict", none, .dict es n, #[]⟩) (k : PySem.W.nsIn K a x = some (some (.ref v))) (kk : PySem.W.KeysLit w.params es.toList) : KDct K w a x (.ref v) :=
  ⟨es, n, .ref v, l, kk, k, rfl⟩
end GL
namespace GL
open PySem PySem.Spec PyProof.Rows L2
/-! ### what turns do to points -/
variable {t : Bool} {u : Int × Int} {a b k : Int}
theorem uni_congr {k l : Int} (h : k % (num t : Int) = l % (num t : Int)) : uni t k = uni t l := by unfold uni; rw [h]
theorem res4 (k : Int) : k % 4 = 0 ∨ k % 4 = 1 ∨ k % 4 = 2 ∨ k % 4 = 3 := by omega
theorem res6 (k : Int) : k % 6 = 0 ∨ k % 6 = 1 ∨ k % 6 = 2 ∨ k % 6 = 3 ∨ k % 6 = 4 ∨ k % 6 = 5 := by omega
theorem u4 : uni false 0 = (1, 0) ∧ uni false 1 = (0, 1) ∧ uni false 2 = (-1, 0) ∧ uni false 3 = (0, -1) := ⟨rfl, rfl, rfl, rfl⟩
theorem turn_add : mul t (mul t u (uni t a)) (uni t b) = mul t u (uni t (a + b)) := by
  obtain ⟨x, y⟩ := u
  cases t
  · rcases res4 a with h1 | h1 | h1 | h1 <;> rcases res4 b with h2 | h2 | h2 | h2 <;>
      (have e1 := uni_congr (t := false) (k := a) (l := a % 4) (by show a % 4 = (a % 4) % 4; omega)
       have e2 := uni_congr (t := false) (k := b) (l := b % 4) (by show b % 4 = (b % 4) % 4; omega)
       have e3 := uni_congr (t := false) (k := a + b) (l := a % 4 + b % 4) (by show (a + b) % 4 = (a % 4 + b % 4) % 4; omega)
       rw [h1] at e1
       rw [h2] at e2
       rw [h1, h2] at e3
       rw [e1, e2, e3]
       refine Prod.ext ?_ ?_ <;> simp [mul, sl, uni, ux, num] <;> omega)
  · rcases res6 a with h1 | h1 | h1 | h1 | h1 | h1 <;> rcases res6 b with h2 | h2 | h2 | h2 | h2 | h2 <;>
      (have e1 := uni_congr (t := true) (k := a) (l := a % 6) (by show a % 6 = (a % 6) % 6; omega)
       have e2 := uni_congr (t := true) (k := b) (l := b % 6) (by show b % 6 = (b % 6) % 6; omega)
       have e3 := uni_congr (t := true) (k := a + b) (l := a % 6 + b % 6) (by show (a + b) % 6 = (a % 6 + b % 6) % 6; omega)
       rw [h1] at e1
       rw [h2] at e2
       rw [h1, h2] at e3
       rw [e1, e2, e3]
       refine Prod.ext ?_ ?_ <;> simp [mul, sl, uni, ux, num] <;> omega)
theorem uni_red4 (k : Int) : uni false k = uni false (k % 4) := uni_congr (t := false) (by show k % 4 = (k % 4) % 4; omega)
theorem uni_red6 (k : Int) : uni true k = uni true (k % 6) := uni_congr (t := true) (by show k % 6 = (k % 6) % 6; omega)
theorem turn_all : mul t u (uni t (num t : Nat)) = u := by
  obtain ⟨x, y⟩ := u
  cases t <;> (refine Prod.ext ?_ ?_ <;> simp [mul, sl, uni, ux, num])
theorem turn_half : mul t u (uni t ((num t : Int) / 2)) = (0 - u.1, 0 - u.2) := by
  obtain ⟨x, y⟩ := u
  cases t <;> (refine Prod.ext ?_ ?_ <;> simp [mul, sl, uni, ux, num])
theorem turn_one : mul t (1, 0) (uni t k) = uni t k := by
  generalize uni t k = v
  obtain ⟨x, y⟩ := v
  cases t <;> (refine Prod.ext ?_ ?_ <;> simp [mul, sl])
theorem turn_flip : flip t (mul t (flip t u) (uni t k)) = mul t u (uni t (0 - k)) := by
  obtain ⟨x, y⟩ := u
  cases t
  · rcases res4 k with h1 | h1 | h1 | h1 <;>
      (have e1 := uni_red4 k
       have e3 := uni_congr (t := false) (k := 0 - k) (l := 0 - k % 4) (by show (0 - k) % 4 = (0 - k % 4) % 4; omega)
       rw [h1] at e1 e3
       rw [e1, e3]
       refine Prod.ext ?_ ?_ <;> simp [flip, mul, sl, uni, ux, num] <;> omega)
  · rcases res6 k with h1 | h1 | h1 | h1 | h1 | h1 <;>
      (have e1 := uni_red6 k
       have e3 := uni_congr (t := true) (k := 0 - k) (l := 0 - k % 6) (by show (0 - k) % 6 = (0 - k % 6) % 6; omega)
       rw [h1] at e1 e3
       rw [e1, e3]
       refine Prod.ext ?_ ?_ <;> simp [flip, mul, sl, uni, ux, num] <;> omega)
theorem turn_norm : nrm t (mul t u (uni t k)) = nrm t u := by
  obtain ⟨x, y⟩ := u
  cases t
  · rcases res4 k with h1 | h1 | h1 | h1 <;>
      (have e1 := uni_red4 k
       rw [h1] at e1
       rw [e1]
       simp [nrm, mul, sl, uni, ux, num] <;> grind)
  · rcases res6 k with h1 | h1 | h1 | h1 | h1 | h1 <;>
      (have e1 := uni_red6 k
       rw [h1] at e1
       rw [e1]
       simp [nrm, mul, sl, uni, ux, num] <;> grind)
/-- small points -/
def Le (n : Nat) (u : Int × Int) : Prop := u.1.natAbs ≤ n ∧ u.2.natAbs ≤ n
theorem Le.turn {n : Nat} (h : Le n u) : Le (2 * n) (mul t u (uni t k)) := by
  obtain ⟨x, y⟩ := u
  obtain ⟨h1, h2⟩ : x.natAbs ≤ n ∧ y.natAbs ≤ n := h
  cases t
  · rcases res4 k with h1 | h1 | h1 | h1 <;>
      (have e1 := uni_red4 k
       rw [h1] at e1
       rw [e1]
       refine ⟨?_, ?_⟩ <;> simp [mul, sl, uni, ux, num] <;> omega)
  · rcases res6 k with h1 | h1 | h1 | h1 | h1 | h1 <;>
      (have e1 := uni_red6 k
       rw [h1] at e1
       rw [e1]
       refine ⟨?_, ?_⟩ <;> simp [mul, sl, uni, ux, num] <;> omega)
theorem Le.flip {n : Nat} (h : Le n u) : Le (2 * n) (flip t u) := by
  obtain ⟨x, y⟩ := u
  obtain ⟨h1, h2⟩ : x.natAbs ≤ n ∧ y.natAbs ≤ n := h
  cases t <;> (refine ⟨?_, ?_⟩ <;> simp [GL.flip, sl] <;> omega)
theorem short_of {x : Int} (h : x.natAbs ≤ 10 ^ 9) : isIntV (.int x) = true := by rw [int_short]; exact decide_eq_true (Nat.lt_of_le_of_lt h (by decide +kernel))
theorem Le.ok {n : Nat} (h : Le n u) (hn : n ≤ 10 ^ 9) : ptOk u := ⟨short_of (Nat.le_trans h.1 hn), short_of (Nat.le_trans h.2 hn)⟩
theorem Le.sm {n : Nat} (h : Le n u) (hn : n ≤ 10 ^ 9) : Sm u := ptOk_sm (h.ok hn).1 (h.ok hn).2
/-! ### the text of a small point -/
def ptD (u : Int × Int) : PyData := .tuple [.int u.1, .int u.2]
theorem ptD_at {K : PySem.W.Frag} {H : Hp} {a : Addr} (h : PAt K H a u) : Dp K H (.ref a) (ptD u) := .tup h (.cons (.int _) (.cons (.int _) .nil))
theorem one_short : ∀ i : Fin 401, (PyData.shown (.int ((i.val : Int) - 200))).length ≤ 13 := by decide +kernel
theorem int_shown {x : Int} (h : x.natAbs ≤ 200) : (PyData.shown (.int x)).length ≤ 13 := by
  have z := one_short ⟨(x + 200).toNat, by omega⟩
  have e : (((x + 200).toNat : Nat) : Int) - 200 = x := by omega
  rw [e] at z
  exact z
theorem ptD_ok (h : Le 200 u) : (ptD u).showable = true ∧ (ptD u).hasDict = false ∧ (ptD u).depth ≤ 20 ∧ (ptD u).shown.length ≤ sizeLine := by
  have sh : ∀ {x : Int}, x.natAbs ≤ 200 → PyData.showable (.int x) = true := fun {x} h => by
    simp only [PyData.showable]
    exact decide_eq_true (Nat.lt_of_le_of_lt (Nat.log2_le_self _) (Nat.lt_of_le_of_lt h (by decide)))
  refine ⟨?_, ?_, ?_, ?_⟩
  · simp only [ptD, PyData.showable, PyData.showableAll, Bool.and_eq_true, Bool.and_true]
    have a1 := sh h.1
    have a2 := sh h.2
    simp only [PyData.showable] at a1 a2
    exact ⟨a1, a2⟩
  · simp [ptD, PyData.hasDict, PyData.hasDictAll]
  · simp [ptD, PyData.depth, PyData.depthAll]
  · refine Nat.le_trans (shown_le13 (d := ptD u) ?_ ?_) (by decide)
    · simp [ptD, PyData.layable0, PyData.canLay0, PyData.canLayAll0, PyData.depth, PyData.depthAll, PyData.weight, PyData.weightAll]
      have l1 : u.fst.natAbs.log2 ≤ 200 := Nat.le_trans (Nat.log2_le_self _) h.1
      have l2 : u.snd.natAbs.log2 ≤ 200 := Nat.le_trans (Nat.log2_le_self _) h.2
      split <;> split <;> omega
    · simp only [ptD, PyData.intsShort, PyData.intsShortAll, Bool.and_eq_true, Bool.and_true]
      exact ⟨decide_eq_true (int_shown h.1), decide_eq_true (int_shown h.2)⟩
theorem ptD_shaped (u : Int × Int) : SeqAt.shaped (ptD u) = true := by
  simp [ptD, SeqAt.shaped, PyData.canLay0, PyData.canLayAll0, PyData.depth, PyData.depthAll]
theorem ptD_eqv (u v : Int × Int) : PyData.eqv (ptD u) (ptD v) = decide (u = v) := by
  obtain ⟨x, y⟩ := u
  obtain ⟨z, w⟩ := v
  show PyData.eqvAll [.int x, .int y] [.int z, .int w] = _
  simp only [PyData.eqvAll]
  rw [show PyData.eqv (.int x) (.int z) = (x == z) from rfl, show PyData.eqv (.int y) (.int w) = (y == w) from rfl, Bool.eq_iff_iff]
  simp
theorem ptD_self (u : Int × Int) : PyData.eqv (ptD u) (ptD u) = true := by rw [ptD_eqv]; exact decide_eq_true rfl
theorem PlainAt.got {p q : Addr} {H H' : Hp} (h : PlainAt H q t) (s : Got p H H') (d : Die H p) : PlainAt H' q t := by
  obtain ⟨_, _, _, _, e0⟩ := d
  exact s.keep _ _ h (ne_of h e0 (by intro z; cases z))
def spTurns (C : Addr) (U : Bool → Addr) : Sp := fun vs H Q _ => ∃ p q g t, vs = [.ref p, .ref q, .ref g] ∧ Die H p ∧ PlainAt H q t ∧ GridAt C U H g t ∧ ∀ H', Got p H H' → Q (.bl true) H'
theorem Got.over_same {p : Addr} {H H1 H2 : Hp} (g : Got p H H1) (s : Same H1 H2) : Got p H H2 :=
  ⟨fun b o e n => s _ _ (g.keep b o e n), let ⟨l, b, c, l0, e⟩ := g.die; ⟨l, b, c, l0, s _ _ e⟩⟩
theorem str_self (x : Str) : (!decide (V.str x = V.str x)) = false := by rw [decide_eq_true rfl]; rfl
theorem int_self (x : Int) : (!decide (V.int x = V.int x)) = false := by rw [decide_eq_true rfl]; rfl
theorem Le.mono {n m : Nat} (h : Le n u) (hn : n ≤ m) : Le m u := ⟨Nat.le_trans h.1 hn, Nat.le_trans h.2 hn⟩
theorem uni_mod {t : Bool} (k : Int) : uni t (k % (num t : Int)) = uni t k := uni_congr (Int.emod_emod_of_dvd _ (Int.dvd_refl _))
theorem small_mod {t : Bool} (k : Int) : isIntV (.int (k % (num t : Int))) = true := by
  have h1 := Int.emod_nonneg k (Int.ne_of_gt (num_pos (t := t)))
  have h2 := Int.emod_lt_of_pos k (num_pos (t := t))
  have h3 : num t ≤ 6 := by cases t <;> decide
  refine short_of (Nat.le_trans (show _ ≤ 6 by omega) (by decide))
theorem num_small {t : Bool} : ((num t : Nat) : Int) < 2 ^ 63 := by cases t <;> decide
theorem num_ok {t : Bool} : isIntV (.int (num t : Nat)) = true := by cases t <;> exact short_of (by decide)
theorem half_ok {t : Bool} : isIntV (.int ((num t : Int) / 2)) = true := by cases t <;> exact short_of (by decide)
/-! ### all pairs of pairs of directions -/
theorem alt_fin4 : ∀ a b c d : Fin 4, (let D := doAlt 4 ((a.val : Int), (b.val : Int)) ((c.val : Int), (d.val : Int))
    alt false ((a.val : Int), (b.val : Int)) ((c.val : Int), (d.val : Int)) = D ∧ alt false ((c.val : Int), (d.val : Int)) ((a.val : Int), (b.val : Int)) = D ∧ alt false ((b.val : Int), (a.val : Int)) ((c.val : Int), (d.val : Int)) = D ∧
    alt false (0 - (a.val : Int), 0 - (b.val : Int)) (0 - (c.val : Int), 0 - (d.val : Int)) = D) := by decide +kernel
theorem alt_fin6 : ∀ a b c d : Fin 6, (let D := doAlt 6 ((a.val : Int), (b.val : Int)) ((c.val : Int), (d.val : Int))
    alt true ((a.val : Int), (b.val : Int)) ((c.val : Int), (d.val : Int)) = D ∧ alt true ((c.val : Int), (d.val : Int)) ((a.val : Int), (b.val : Int)) = D ∧ alt true ((b.val : Int), (a.val : Int)) ((c.val : Int), (d.val : Int)) = D ∧
    alt true (0 - (a.val : Int), 0 - (b.val : Int)) (0 - (c.val : Int), 0 - (d.val : Int)) = D) := by decide +kernel
theorem alt_four {t : Bool} {a b c d : Int} (ha : 0 ≤ a ∧ a < (num t : Int)) (hb : 0 ≤ b ∧ b < (num t : Int)) (hc : 0 ≤ c ∧ c < (num t : Int)) (hd : 0 ≤ d ∧ d < (num t : Int)) :
    alt t (a, b) (c, d) = doAlt (num t) (a, b) (c, d) ∧ alt t (c, d) (a, b) = doAlt (num t) (a, b) (c, d) ∧ alt t (b, a) (c, d) = doAlt (num t) (a, b) (c, d) ∧ alt t (0 - a, 0 - b) (0 - c, 0 - d) = doAlt (num t) (a, b) (c, d) := by
  obtain ⟨a, rfl⟩ : ∃ n : Nat, a = (n : Int) := ⟨a.toNat, by omega⟩
  obtain ⟨b, rfl⟩ : ∃ n : Nat, b = (n : Int) := ⟨b.toNat, by omega⟩
  obtain ⟨c, rfl⟩ : ∃ n : Nat, c = (n : Int) := ⟨c.toNat, by omega⟩
  obtain ⟨d, rfl⟩ : ∃ n : Nat, d = (n : Int) := ⟨d.toNat, by omega⟩
  cases t
  · exact alt_fin4 ⟨a, Int.ofNat_lt.mp ha.2⟩ ⟨b, Int.ofNat_lt.mp hb.2⟩ ⟨c, Int.ofNat_lt.mp hc.2⟩ ⟨d, Int.ofNat_lt.mp hd.2⟩
  · exact alt_fin6 ⟨a, Int.ofNat_lt.mp ha.2⟩ ⟨b, Int.ofNat_lt.mp hb.2⟩ ⟨c, Int.ofNat_lt.mp hc.2⟩ ⟨d, Int.ofNat_lt.mp hd.2⟩
theorem alt_next {t : Bool} {a b c d : Int} : alt t (a + 1, b + 1) (c + 1, d + 1) = alt t (a, b) (c, d) := by
  unfold alt
  rw [show b + 1 - (a + 1) = b - a by omega, show c + 1 - (a + 1) = c - a by omega, show d + 1 - (a + 1) = d - a by omega]
theorem alt_far {t : Bool} {a b c d s : Int} (hs : s % (num t : Int) = 0) : alt t (a + s, b) (c, d - (num t : Nat)) = alt t (a, b) (c, d) := by
  unfold alt
  have e1 : (b - (a + s)) % (num t : Int) = (b - a) % (num t : Int) := by cases t <;> (simp only [num] at hs ⊢; omega)
  have e2 : (c - (a + s)) % (num t : Int) = (c - a) % (num t : Int) := by cases t <;> (simp only [num] at hs ⊢; omega)
  have e3 : (d - (num t : Nat) - (a + s)) % (num t : Int) = (d - a) % (num t : Int) := by cases t <;> (simp only [num] at hs ⊢; omega)
  simp only [e1, e2, e3]
theorem b6_ok (x : Bool) : (bls [x, x, x, x, x, x]).showable = true ∧ (bls [x, x, x, x, x, x]).hasDict = false ∧ (bls [x, x, x, x, x, x]).depth ≤ 20 ∧ (bls [x, x, x, x, x, x]).shown.length ≤ sizeLine := by
  cases x <;> exact ⟨by decide +kernel, by decide +kernel, by decide +kernel, by decide +kernel⟩
theorem sub_mod (n : Int) {m : Int} (h : 0 < m) : (n - n % m) % m = 0 := by
  rw [Int.sub_emod, Int.emod_emod_of_dvd _ (Int.dvd_refl _), Int.sub_self, Int.zero_emod]
theorem sub_small (n : Int) {m : Int} (h : 0 < m) (h6 : m ≤ 6) (hn : (if n < 0 then -n else n) < (10 : Int) ^ (50 : Int).toNat * (10 : Int) ^ (50 : Int).toNat) : (n - n % m).natAbs ≤ 10 ^ 101 := by
  have h1 := Int.emod_nonneg n (Int.ne_of_gt h)
  have h2 := Int.emod_lt_of_pos n h
  have e : (10 : Int) ^ (50 : Int).toNat * (10 : Int) ^ (50 : Int).toNat = ((10 ^ 100 : Nat) : Int) := by decide +kernel
  rw [e] at hn
  have b : (10 ^ 100 : Nat) + 6 ≤ 10 ^ 101 := by decide +kernel
  generalize (10 ^ 100 : Nat) = N at *
  generalize (10 ^ 101 : Nat) = M at *
  split at hn <;> omega
theorem far_ok {x s : Int} (hs : s.natAbs ≤ 10 ^ 101) (hx : x.natAbs ≤ 10) : isIntV (.int (x + s)) = true := by
  rw [int_short]
  refine decide_eq_true (Nat.lt_of_le_of_lt (show _ ≤ 10 ^ 101 + 10 by generalize (10 ^ 101 : Nat) = M at *; omega) (by decide +kernel))
theorem same_made {H H3 : Hp} {x dx : Addr} {o1 o2 : HO} (hx : H x = none) (hdx : H dx = none) (hk : ∀ b, b ≠ x → H3 b = upd (upd H dx o1) x o2 b) : Same H H3 := by
  intro b o e
  have n1 := ne_of_none e hx
  have n2 := ne_of_none e hdx
  rw [hk b n1, upd_ne n1, upd_ne n2]
  exact e
end GL
/-! repr of lists and tuples of ints that have up to 4300 digits -/
namespace GL
open PySem PySem.Spec PyProof.Rows L2
def Big (i : Int) : Prop := i.natAbs < 10 ^ 4300
section
variable {prog : Program} {w : World} {h₀ : Heap}
theorem big_call {A : Around} {E : Value → Shared → Prop} {s : Shared} {Q : Value → Shared → Prop} {i : Int} {t : Tok} (nd : s.heap.NoDigits) (hi : Big i) (h : Q (.str (toString i) s.toks) { s with toks := s.toks + 1 }) :
    wpAny (model prog w) A (call (.builtin "int.__repr__") [.int i t]) Q E s := by
  refine wpAny_call_entry F.slot_int_repr (typeIs_int s i t) F.entry_int_repr ?_ (F.args_int_repr_1 _)
  unfold Builtin.«int.__repr__»
  show wpAny (model prog w) _ (Builtin.overDigitLimit? i >>= _) _ _ s
  refine wpAny_bind (overDigitLimit_any nd (fun lt => ?_) (fun ge => absurd hi (Nat.not_lt.mpr ge)))
  exact wpAny_bind (wpAny_mkStr (wpAny_pure ⟨_, rfl, h⟩) (int_text_fits10 lt))
theorem big_leaf (nd : h₀.NoDigits) {i : Int} (t : Tok) (hi : Big i) (as : List Addr) (d : Nat) : ReprK prog w as h₀ d (.int i t) (toString i) := by
  intro base hb A g E s Q hg hcl hu hk hQ
  have hb' : base ≤ sizeLine := Nat.le_trans (Nat.le_add_right _ _) hb
  rw [pyReprUnder_leaf (v := Value.int i t) hb' (fun _ z => by cases z)]
  unfold pyRepr
  refine wpAny_bind (wpAny_pyReprObj_slot (Nat.lt_of_le_of_lt (Nat.le_add_right _ _) hu) (typeIs_int s i t) F.slot_int_repr.toG (big_call (nd.keeps hk) hi ⟨_, _, rfl, ?_⟩))
  exact wpAny_pure (hQ s.heap _ fun _ _ e => e)
/-- ints alone -/
def BigInts (ds : List PyData) : Prop := ∀ d ∈ ds, ∃ i, d = .int i ∧ Big i
theorem int_at {v : Value} {i : Int} {as : List Addr} (r : Reads h₀ v (.int i) as) : ∃ t, v = .int i t := by
  cases r
  exact ⟨_, rfl⟩
theorem big_ints (nd : h₀.NoDigits) (as : List Addr) (n : Nat) : ∀ {vs : List Value} {ds : List PyData} {bs : List Addr}, ReadsAll h₀ vs ds bs → BigInts ds → ReprAllK prog w as h₀ n vs (PyData.shownAll ds)
  | _, _, _, .nil, _ => by simp only [PyData.shownAll]; exact .nil
  | _, _, _, .cons (d := d) r rs, h => by
    obtain ⟨i, e, hi⟩ := h d (List.mem_cons_self ..)
    subst e
    obtain ⟨t, e⟩ := int_at r
    subst e
    simp only [PyData.shownAll, PyData.shown]
    exact .cons (big_leaf nd t hi as n) (big_ints nd as n rs (fun d hd => h d (List.mem_cons_of_mem _ hd)))
/-- an int, or a tuple of ints -/
inductive BigItem : PyData → Prop where
  | int {i : Int} : Big i → BigItem (.int i)
  | tup {xs : List PyData} : BigInts xs → BigItem (.tuple xs)
theorem depth_ints : ∀ {ds : List PyData}, BigInts ds → PyData.depthAll ds ≤ 0
  | [], _ => by simp [PyData.depthAll]
  | d :: r, h => by
    obtain ⟨i, e, _⟩ := h d (List.mem_cons_self ..)
    subst e
    have := depth_ints (ds := r) (fun d hd => h d (List.mem_cons_of_mem _ hd))
    simp only [PyData.depthAll, PyData.depth]
    omega
theorem big_item (nd : h₀.NoDigits) {v : Value} {d : PyData} {as : List Addr} (r : Reads h₀ v d as) (h : BigItem d) : ∃ bs, ReadAtMost h₀ 1 bs ∧ ReprK prog w bs h₀ 2 v d.shown := by
  cases h with
  | @int i hi =>
    obtain ⟨t, e⟩ := int_at r
    subst e
    exact ⟨[], (fun _ z => by cases z), by simp only [PyData.shown]; exact big_leaf nd t hi [] 2⟩
  | @tup xs hx =>
    have dp := depth_ints hx
    cases r with
    | tuple h1 h2 h3 h4 =>
      rename_i a o vs n
      have k := big_ints (prog := prog) (w := w) nd [] 1 h4 hx
      refine ⟨[a], fun b hb => ?_, ?_⟩
      · rw [List.mem_singleton.mp hb]
        exact ⟨_, _, .tuple h1 h2 h3 h4, by simp only [PyData.depth]; omega⟩
      · simp only [PyData.shown]
        exact ReprK.tuple h1 h2 h3 (fun z => by cases z) k
theorem big_items (nd : h₀.NoDigits) : ∀ {vs : List Value} {ds : List PyData} {bs : List Addr}, ReadsAll h₀ vs ds bs → (∀ d ∈ ds, BigItem d) → ∃ cs, ReadAtMost h₀ 1 cs ∧ ReprAllK prog w cs h₀ 2 vs (PyData.shownAll ds)
  | _, _, _, .nil, _ => ⟨[], (fun _ z => by cases z), by simp only [PyData.shownAll]; exact .nil⟩
  | _, _, _, .cons (d := d) r rs, h => by
    obtain ⟨c1, m1, k1⟩ := big_item (prog := prog) (w := w) nd r (h d (List.mem_cons_self ..))
    obtain ⟨c2, m2, k2⟩ := big_items nd rs (fun d hd => h d (List.mem_cons_of_mem _ hd))
    refine ⟨c1 ++ c2, fun b hb => (List.mem_append.mp hb).elim (m1 b) (m2 b), ?_⟩
    simp only [PyData.shownAll]
    exact .cons (k1.more fun b hb => List.mem_append_left _ hb) (k2.more_le (fun b hb => List.mem_append_right _ hb) (Nat.le_refl _))
theorem depth_items : ∀ {ds : List PyData}, (∀ d ∈ ds, BigItem d) → PyData.depthAll ds ≤ 1
  | [], _ => by simp [PyData.depthAll]
  | d :: r, h => by
    have h2 := depth_items (ds := r) (fun d hd => h d (List.mem_cons_of_mem _ hd))
    have h1 : d.depth ≤ 1 := by
      cases h d (List.mem_cons_self ..) with
      | int _ => simp [PyData.depth]
      | tup hx => have := depth_ints hx; simp only [PyData.depth]; omega
    simp only [PyData.depthAll]
    omega
/-- repr of a list that is not empty -/
theorem repr_big {A : Around} {E : Value → Shared → Prop} {s : Shared} {Q : Value → Shared → Prop} {a : Addr} {ds : List PyData} {as : List Addr} (nd : s.heap.NoDigits) (r : Reads s.heap (.ref a) (.list ds) as) (h : ∀ d ∈ ds, BigItem d) (ne : ds ≠ [])
    (hg : A.guards = some []) (hu : A.units + 10 < cLine) (hz : (PyData.shown (.list ds)).length ≤ sizeLine) (dp : 1 < (PyData.list ds).depth)
    (hQ : ∀ h' u tk, (∀ b o, s.heap.get? b = some o → h'.get? b = some o) → Q (.str (PyData.shown (.list ds)) u) { s with heap := h', toks := tk }) : wpAny (model prog w) A (call (.builtin "repr") [.ref a]) Q E s := by
  cases r with
  | list h1 h2 h3 h4 =>
    rename_i o vs n bs₀
    obtain ⟨cs, m, k⟩ := big_items (prog := prog) (w := w) nd h4 h
    obtain ⟨l⟩ := vs
    cases l with
    | nil =>
      have h4' : ReadsAll s.heap [] ds _ := h4
      cases h4'
      exact absurd rfl ne
    | cons x l =>
      refine call_repr_slot (by omega) (T := "list") (idr := "list.__repr__") ⟨o, h1, h2⟩ F.slot_list_repr.toG ?_
      simp only [PyData.shown] at hQ hz
      exact call_list_reprK h1 h2 h3 (not_mem_of_deeper (.list h1 h2 h3 h4) dp m) (by simpa using k.length_eq) (fun i y e => k.item i y (by simpa using e)) hg (fun b _ => Clear.nil b) (by show A.units + 1 + 3 < cLine; omega) (fun _ _ e => e) (fun h' u tk hk => ⟨_, _, rfl, hQ h' u tk hk⟩) hz
end
theorem ns_none {K : PySem.W.Frag} {h : Heap} {m : Str → Option Value} {a : Addr} {n : Str} (X : K.In h) (G : h.Ns a m) (e : PySem.W.nsIn K a n = some none) : m n = none := by
  obtain ⟨ob, es, ep, here, isDict, _, get⟩ := G
  rw [← get]
  unfold PySem.W.nsIn at e
  split at e
  case h_1 q =>
    cases (X _ _ q).symm.trans here
    cases isDict
    split at e
    case h_1 => cases e
    case h_2 no => unfold nsFind findBy; simp only [← Array.find?_toList, no]; rfl
  case h_2 => cases e
theorem big_base {X : Cx} {pins : List (Addr × Obj)} {σ : L2.St} {H : Hp} {s : Shared} (dig : PySem.W.nsIn X.K cStatics "sys.int_max_str_digits" = some none) (I : Inv X pins σ H s) : s.heap.NoDigits := by
  obtain ⟨mc, hns, _⟩ := I.nolimit
  exact ⟨mc, hns, ns_none I.kIn hns dig⟩
def rReprBig (K : PySem.W.Frag) : List V → Hp → VK → Prop := fun xs H Q => ∃ a ds, xs = [.ref a] ∧ Dp K H (.ref a) (.list ds) ∧ (∀ d ∈ ds, BigItem d) ∧ ds ≠ [] ∧ 1 < (PyData.list ds).depth ∧ (PyData.shown (.list ds)).length ≤ sizeLine ∧ Q (.str (PyData.shown (.list ds))) H
theorem call_reprBig {X : Cx} (dig : PySem.W.nsIn X.K cStatics "sys.int_max_str_digits" = some none) (hg : Gd X.A) (hu : X.A.units + 64 < cLine) : CallR X (.builtin "repr") (rReprBig X.K) := by
  intro pins s σ H xs us Q I r h
  obtain ⟨a, ds, rfl, hd, hb, ne, dp, hz, q⟩ := h
  obtain ⟨u, rfl, r1⟩ := vals1 r
  cases (show u = Value.ref a from r1)
  obtain ⟨as, hr⟩ := Dp.reads I (.list ds) (.ref a) (.ref a) hd rfl
  exact repr_big (big_base dig I) hr hb ne hg (by omega) hz dp (fun h' u tk hk => ⟨.str _, H, I.kept hk, ⟨_, rfl⟩, q⟩)
/-! ### how long the text of such a list is -/
end GL
namespace GL
open PySem PySem.Spec PyProof.Rows L2
/-! ### products and quotients -/
section
variable {t : Bool} {u v f q z : Int × Int} {a b : Int}
theorem mul_comm' : mul t u v = mul t v u := by
  obtain ⟨x, y⟩ := u
  obtain ⟨z, w⟩ := v
  cases t <;> (refine Prod.ext ?_ ?_ <;> simp [mul, sl] <;> grind)
theorem mul_assoc' : mul t (mul t u v) z = mul t u (mul t v z) := by
  obtain ⟨x, y⟩ := u
  obtain ⟨x1, y1⟩ := v
  obtain ⟨x2, y2⟩ := z
  cases t <;> (refine Prod.ext ?_ ?_ <;> simp [mul, sl] <;> grind)
def padd (u v : Int × Int) : Int × Int := (u.1 + v.1, u.2 + v.2)
theorem mul_add' : mul t (padd u v) z = padd (mul t u z) (mul t v z) := by
  obtain ⟨x, y⟩ := u
  obtain ⟨x1, y1⟩ := v
  obtain ⟨x2, y2⟩ := z
  cases t <;> (refine Prod.ext ?_ ?_ <;> simp [mul, sl, padd] <;> grind)
theorem nrm_mul : nrm t (mul t u v) = nrm t u * nrm t v := by
  obtain ⟨x, y⟩ := u
  obtain ⟨z, w⟩ := v
  cases t <;> (simp [mul, sl, nrm] <;> grind)
theorem flip_flip : flip t (flip t u) = u := by
  obtain ⟨x, y⟩ := u
  cases t <;> (refine Prod.ext ?_ ?_ <;> simp [flip, sl] <;> grind)
theorem mul_flip : mul t u (flip t u) = (nrm t u, 0) := by
  obtain ⟨x, y⟩ := u
  cases t <;> (refine Prod.ext ?_ ?_ <;> simp [flip, sl, mul, nrm] <;> grind)
theorem flip_mul : flip t (mul t u v) = mul t (flip t u) (flip t v) := by
  obtain ⟨x, y⟩ := u
  obtain ⟨z, w⟩ := v
  cases t <;> (refine Prod.ext ?_ ?_ <;> simp [flip, sl, mul] <;> grind)
def low (t : Bool) (u v : Int × Int) : Int × Int := mul t u (flip t v)
theorem low_of (h : mul t f v = u) : low t u v = (f.1 * nrm t v, f.2 * nrm t v) := by
  subst h
  obtain ⟨x, y⟩ := f
  obtain ⟨z, w⟩ := v
  cases t <;> (refine Prod.ext ?_ ?_ <;> simp [low, flip, sl, mul, nrm] <;> grind)
theorem of_low (hn : nrm t v ≠ 0) (h : low t u v = (f.1 * nrm t v, f.2 * nrm t v)) : mul t f v = u := by
  have e : mul t (low t u v) v = (u.1 * nrm t v, u.2 * nrm t v) := by
    obtain ⟨x, y⟩ := u
    obtain ⟨z, w⟩ := v
    cases t <;> (refine Prod.ext ?_ ?_ <;> simp [low, flip, sl, mul, nrm] <;> grind)
  have e2 : mul t (f.1 * nrm t v, f.2 * nrm t v) v = ((mul t f v).1 * nrm t v, (mul t f v).2 * nrm t v) := by
    generalize nrm t v = n
    obtain ⟨x, y⟩ := f
    obtain ⟨z, w⟩ := v
    cases t <;> (refine Prod.ext ?_ ?_ <;> simp [sl, mul] <;> grind)
  rw [h, e2] at e
  have e3 := congrArg Prod.fst e
  have e4 := congrArg Prod.snd e
  exact Prod.ext (Int.eq_of_mul_eq_mul_right hn e3) (Int.eq_of_mul_eq_mul_right hn e4)
def quo (t : Bool) (u v : Int × Int) : Option (Int × Int) := if (low t u v).1 % nrm t v = 0 ∧ (low t u v).2 % nrm t v = 0 then some ((low t u v).1 / nrm t v, (low t u v).2 / nrm t v) else none
theorem mul_div {r n : Int} (h : r % n = 0) : r = r / n * n := by
  have := Int.mul_ediv_add_emod r n
  rw [h, Int.add_zero, Int.mul_comm] at this
  exact this.symm
theorem quo_some (hn : 0 < nrm t v) (h : quo t u v = some q) : mul t q v = u := by
  unfold quo at h
  split at h
  case isTrue c =>
    cases h
    exact of_low (Int.ne_of_gt hn) (Prod.ext (mul_div c.1) (mul_div c.2))
  case isFalse c => cases h
theorem quo_of (hn : 0 < nrm t v) (h : mul t f v = u) : quo t u v = some f := by
  have e := low_of h
  have n0 := Int.ne_of_gt hn
  unfold quo
  rw [e]
  simp only
  rw [Int.mul_emod_left, Int.mul_emod_left, if_pos ⟨rfl, rfl⟩, Int.mul_ediv_cancel _ n0, Int.mul_ediv_cancel _ n0]
/-- only the first of the four places can be it -/
theorem quo_near (hn : 0 < nrm t v) {i j : Int} (hi : 0 ≤ i ∧ i < 2) (hj : 0 ≤ j ∧ j < 2) (h : mul t ((low t u v).1 / nrm t v + i, (low t u v).2 / nrm t v + j) v = u) : i = 0 ∧ j = 0 := by
  have e := low_of h
  have e1 := congrArg Prod.fst e
  have e2 := congrArg Prod.snd e
  simp only at e1 e2
  generalize nrm t v = n at *
  have d1 := Int.mul_ediv_cancel ((low t u v).1 / n + i) (Int.ne_of_gt hn)
  have d2 := Int.mul_ediv_cancel ((low t u v).2 / n + j) (Int.ne_of_gt hn)
  rw [← e1] at d1
  rw [← e2] at d2
  omega
theorem nrm_fin : ∀ (t : Bool) (a b : Fin 41), ¬ (a.val = 20 ∧ b.val = 20) → 0 < nrm t ((a.val : Int) - 20, (b.val : Int) - 20) := by decide +kernel
theorem nrm_pos (h : Le 20 v) (h0 : v ≠ (0, 0)) : 0 < nrm t v := by
  obtain ⟨x, y⟩ := v
  obtain ⟨h1, h2⟩ : x.natAbs ≤ 20 ∧ y.natAbs ≤ 20 := h
  have z := nrm_fin t ⟨(x + 20).toNat, by omega⟩ ⟨(y + 20).toNat, by omega⟩ (fun c => h0 (by have c1 : (x + 20).toNat = 20 := c.1; have c2 : (y + 20).toNat = 20 := c.2; exact Prod.ext (by show x = 0; omega) (by show y = 0; omega)))
  have e1 : (((x + 20).toNat : Nat) : Int) - 20 = x := by omega
  have e2 : (((y + 20).toNat : Nat) : Int) - 20 = y := by omega
  simp only [e1, e2] at z
  exact z
end
/-! ### promises -/
theorem natAbs_mul_le {x y : Int} {m n : Nat} (hx : x.natAbs ≤ m) (hy : y.natAbs ≤ n) : (x * y).natAbs ≤ m * n := by rw [Int.natAbs_mul]; exact Nat.mul_le_mul hx hy
theorem Le.mul {t : Bool} {u v : Int × Int} {m n : Nat} (hu : Le m u) (hv : Le n v) : Le (3 * (m * n)) (mul t u v) := by
  have a1 := natAbs_mul_le hu.1 hv.1
  have a2 := natAbs_mul_le hu.2 hv.2
  have a3 := natAbs_mul_le hu.1 hv.2
  have a4 := natAbs_mul_le hu.2 hv.1
  obtain ⟨x, y⟩ := u
  obtain ⟨z, w⟩ := v
  simp only at a1 a2 a3 a4
  generalize m * n = k at *
  generalize e1 : x * z = p1 at *
  generalize e2 : y * w = p2 at *
  generalize e3 : x * w = p3 at *
  generalize e4 : y * z = p4 at *
  cases t <;> (refine ⟨?_, ?_⟩ <;> simp [GL.mul, sl, e1, e2, e3, e4] <;> omega)
theorem Le.nrm {t : Bool} {u : Int × Int} {m : Nat} (hu : Le m u) : (nrm t u).natAbs ≤ 3 * (m * m) := by
  have a1 := natAbs_mul_le hu.1 hu.1
  have a2 := natAbs_mul_le hu.2 hu.2
  have a3 := natAbs_mul_le hu.1 hu.2
  obtain ⟨x, y⟩ := u
  simp only at a1 a2 a3
  generalize m * m = k at *
  generalize e1 : x * x = p1 at *
  generalize e2 : y * y = p2 at *
  generalize e3 : x * y = p3 at *
  cases t <;> (simp [GL.nrm, sl, e1, e2, e3] <;> omega)
def spMProd (K : PySem.W.Frag) (C : Addr) (U : Bool → Addr) : Sp := fun vs H Q _ => ∃ g t a b u v, vs = [.ref g, .ref a, .ref b] ∧ GridAt C U H g t ∧ PAt K H a u ∧ PAt K H b v ∧ ptOk u ∧ ptOk v ∧ ∀ p, H p = none → Q (.ref p) (upd H p (.tup [.int (mul t u v).1, .int (mul t u v).2]))
/-- what stands for a quotient -/
def QAt (K : PySem.W.Frag) (H : Hp) (r : Option (Int × Int)) (x : V) : Prop := match r with | none => x = .non | some q => ∃ p, x = .ref p ∧ PAt K H p q
theorem QAt.same {K : PySem.W.Frag} {H H' : Hp} {r : Option (Int × Int)} {x : V} (h : QAt K H r x) (s : Same H H') : QAt K H' r x := by
  cases r with
  | none => exact h
  | some q => obtain ⟨p, e, hp⟩ := h; exact ⟨p, e, hp.same s⟩
def spDiv (K : PySem.W.Frag) (C : Addr) (U : Bool → Addr) : Sp := fun vs H Q _ => ∃ g t a b u v, vs = [.ref g, .ref a, .ref b] ∧ GridAt C U H g t ∧ PAt K H a u ∧ PAt K H b v ∧ Le (10 ^ 6) u ∧ Le (10 ^ 3) v ∧ 0 < nrm t v ∧ ∀ x H', Same H H' → QAt K H' (quo t u v) x → Q x H'
def spPlus (K : PySem.W.Frag) : Sp := fun vs H Q _ => ∃ a b u v, vs = [.ref a, .ref b] ∧ PAt K H a u ∧ PAt K H b v ∧ ∀ p, H p = none → Q (.ref p) (upd H p (.tup [.int (padd u v).1, .int (padd u v).2]))
def spNormL (K : PySem.W.Frag) : Sp := fun vs H Q _ => ∃ q t a u, vs = [.ref q, .ref a] ∧ PlainAt H q t ∧ PAt K H a u ∧ Sm u ∧ Q (.int (nrm t u)) H
def spFlipL (K : PySem.W.Frag) : Sp := fun vs H Q _ => ∃ q t a u, vs = [.ref q, .ref a] ∧ PlainAt H q t ∧ PAt K H a u ∧ ∀ p, H p = none → Q (.ref p) (upd H p (.tup [.int (flip t u).1, .int (flip t u).2]))
def spPlace (K : PySem.W.Frag) : Sp := fun vs H Q _ => ∃ p, vs = [.ref p] ∧ Die H p ∧ ∀ a u H', ptOk u → PAt K H' a u → Got p H H' → Q (.ref a) H'
def spSmall (K : PySem.W.Frag) : Sp := fun vs H Q _ => ∃ p, vs = [.ref p] ∧ Die H p ∧ ∀ a u H', Le 20 u → PAt K H' a u → Got p H H' → Q (.ref a) H'
def spParts (K : PySem.W.Frag) (C : Addr) (U : Bool → Addr) : Sp := fun vs H Q _ => ∃ q g t a b u v, vs = [.ref q, .ref g, .ref a, .ref b] ∧ PlainAt H q t ∧ GridAt C U H g t ∧ PAt K H a u ∧ PAt K H b v ∧ ptOk u ∧ ptOk v ∧ ∀ H', Same H H' → Q (.bl true) H'
/-! ### the list that is shown -/
def bigD (t : Bool) (u v : Int × Int) : List PyData := [ptD (mul t u v), ptD (mul t u v), .int (nrm t u), ptD (flip t u)]
theorem ptOk_le {u : Int × Int} (h : ptOk u) : Le (10 ^ 400) u := by
  obtain ⟨h1, h2⟩ := h
  rw [int_short] at h1 h2
  exact ⟨Nat.le_of_lt (of_decide_eq_true h1), Nat.le_of_lt (of_decide_eq_true h2)⟩
theorem big_of {x : Int} (h : x.natAbs ≤ 3 * (10 ^ 400 * 10 ^ 400)) : Big x := Nat.lt_of_le_of_lt h (by decide +kernel)
theorem big_pt {w : Int × Int} (h : Le (3 * (10 ^ 400 * 10 ^ 400)) w) : BigItem (ptD w) := .tup (by
  intro d hd
  simp only [List.mem_cons, List.not_mem_nil, or_false] at hd
  rcases hd with rfl | rfl
  · exact ⟨_, rfl, big_of h.1⟩
  · exact ⟨_, rfl, big_of h.2⟩)
theorem big_short {x : Int} (h : Big x) : (PyData.shown (.int x)).length ≤ 4301 := by
  have e := int_text_length_le10 (k := 4300) (by decide) h
  show (Str.ofString (toString x)).length ≤ 4301
  rw [PySem.ofString_length]
  exact e
theorem bigD_ok {t : Bool} {u v : Int × Int} (ou : ptOk u) (ov : ptOk v) : (∀ d ∈ bigD t u v, BigItem d) ∧ bigD t u v ≠ [] ∧ 1 < (PyData.list (bigD t u v)).depth ∧ (PyData.shown (.list (bigD t u v))).length ≤ sizeLine := by
  have lu := ptOk_le ou
  have lv := ptOk_le ov
  have lm : Le (3 * (10 ^ 400 * 10 ^ 400)) (mul t u v) := lu.mul lv
  have lf : Le (3 * (10 ^ 400 * 10 ^ 400)) (flip t u) := (lu.flip).mono (by decide +kernel)
  have ln : (nrm t u).natAbs ≤ 3 * (10 ^ 400 * 10 ^ 400) := lu.nrm
  refine ⟨fun d hd => ?_, (fun z => by cases z), ?_, ?_⟩
  · simp only [bigD, List.mem_cons, List.not_mem_nil, or_false] at hd
    rcases hd with rfl | rfl | rfl | rfl
    · exact big_pt lm
    · exact big_pt lm
    · exact .int (big_of ln)
    · exact big_pt lf
  · simp [bigD, ptD, PyData.depth, PyData.depthAll]
  · have z := PyData.shown_le_bulk 4301 (by decide) (.list (bigD t u v)) (by
      simp only [bigD, ptD, PyData.leavesShort, PyData.leavesShortAll, Bool.and_eq_true, Bool.and_true, decide_eq_true_eq]
      exact ⟨⟨big_short (big_of lm.1), big_short (big_of lm.2)⟩, ⟨big_short (big_of lm.1), big_short (big_of lm.2)⟩, big_short (big_of ln), big_short (big_of lf.1), big_short (big_of lf.2)⟩)
    refine Nat.le_trans z ?_
    simp [bigD, ptD, PyData.bulk, PyData.bulkAll]
    decide
theorem max_small {x y : Int} (h : ¬ (decide ((10 : Int) ^ (60 : Int).toNat < if (if y < 0 then -y else y) > (if x < 0 then -x else x) then (if y < 0 then -y else y) else (if x < 0 then -x else x)) = true)) : x.natAbs ≤ 10 ^ 60 ∧ y.natAbs ≤ 10 ^ 60 := by
  have h2 := of_decide_eq_false (Bool.not_eq_true _ ▸ h)
  have e : (10 : Int) ^ (60 : Int).toNat = ((10 ^ 60 : Nat) : Int) := by decide +kernel
  rw [e] at h2
  generalize (10 ^ 60 : Nat) = N at *
  omega
theorem Le.ok60 {u : Int × Int} {n : Nat} (h : Le n u) (hn : n ≤ 10 ^ 399) : ptOk u := by
  have b : (10 ^ 399 : Nat) < 10 ^ 400 := by decide +kernel
  exact ⟨by rw [int_short]; exact decide_eq_true (Nat.lt_of_le_of_lt (Nat.le_trans h.1 hn) b), by rw [int_short]; exact decide_eq_true (Nat.lt_of_le_of_lt (Nat.le_trans h.2 hn) b)⟩
def qD : Option (Int × Int) → PyData | none => .none | some q => ptD q
theorem qD_at {K : PySem.W.Frag} {H : Hp} {r : Option (Int × Int)} {x : V} (h : QAt K H r x) : Dp K H x (qD r) := by
  cases r with
  | none => rw [show x = V.non from h]; exact .non
  | some q => obtain ⟨p, rfl, hp⟩ := h; exact ptD_at hp
theorem int_shown6 {x : Int} (h : x.natAbs ≤ 10 ^ 6) : (PyData.shown (.int x)).length ≤ 13 := by
  have e := int_text_length_le10 (a := x) (k := 7) (by decide) (Nat.lt_of_le_of_lt h (by decide))
  show (Str.ofString (toString x)).length ≤ 13
  rw [PySem.ofString_length]
  exact Nat.le_trans e (by decide)
theorem qD_ok {r : Option (Int × Int)} (h : ∀ q, r = some q → Le (10 ^ 6) q) : (qD r).showable = true ∧ (qD r).hasDict = false ∧ (qD r).depth ≤ 20 ∧ (qD r).shown.length ≤ sizeLine := by
  cases r with
  | none => exact ⟨by decide +kernel, by decide +kernel, by decide +kernel, by decide +kernel⟩
  | some u =>
    have h := h u rfl
    have sh : ∀ {x : Int}, x.natAbs ≤ 10 ^ 6 → x.natAbs.log2 < 1920 := fun {x} h => Nat.lt_of_lt_of_le (PySem.Flt.log2_lt_of (show 0 < 20 by decide) (Nat.lt_of_le_of_lt h (show 10 ^ 6 < 2 ^ 20 by decide))) (by decide)
    have z := PyData.shown_le_bulk 13 (by decide) (ptD u) (by
      simp only [ptD, PyData.leavesShort, PyData.leavesShortAll, Bool.and_eq_true, Bool.and_true, decide_eq_true_eq]
      exact ⟨int_shown6 h.1, int_shown6 h.2⟩)
    refine ⟨?_, by simp [qD, ptD, PyData.hasDict, PyData.hasDictAll], by simp [qD, ptD, PyData.depth, PyData.depthAll], Nat.le_trans z (by simp [ptD, PyData.bulk, PyData.bulkAll]; decide)⟩
    simp only [qD, ptD, PyData.showable, PyData.showableAll, Bool.and_eq_true, Bool.and_true, decide_eq_true_eq]
    exact ⟨sh h.1, sh h.2⟩
def spQuots (C : Addr) (U : Bool → Addr) : Sp := fun vs H Q _ => ∃ p q g t, vs = [.ref p, .ref q, .ref g] ∧ Die H p ∧ PlainAt H q t ∧ GridAt C U H g t ∧ ∀ H', Got p H H' → Q (.bl true) H'
theorem quo_cases {t : Bool} {u v : Int × Int} : quo t u v = none ∨ quo t u v = some ((low t u v).1 / nrm t v, (low t u v).2 / nrm t v) := by
  unfold quo
  split
  · exact .inr rfl
  · exact .inl rfl
theorem div_small {a b : Int} {n : Nat} (h : a.natAbs ≤ n) : (a / b).natAbs ≤ n := Nat.le_trans (Int.natAbs_ediv_le_natAbs a b) h
end GL
/-! comparing instances of one class with an own == -/
namespace GL
open PySem PySem.Spec PyProof.Rows L2
section
variable {X : Cx} {CX : CXT} {k : Nat} {C : Addr} {sp : Sp} {E : XK}
theorem op_eqM (h : HasM X.prog X.w X.K X.mg X.base CX C "__eq__" k ["self", "other"] sp) (g : Gd X.A) (hr : Room k X.A) (hx : Passes CX X E) :
    OpR X (compareOp .Eq) (fun x y H Q => ∃ a b dx dy fs gs, x = .ref a ∧ y = .ref b ∧ H a = some (.ins C dx fs) ∧ H b = some (.ins C dy gs) ∧ sp [.ref a, .ref b] H (fun v H' => ∃ r, v = .bl r ∧ Q (.bl r) H') E) := by
  intro pins s σ H x y v u Q I rx ry hq
  obtain ⟨a, b, dx, dy, fs, gs, rfl, rfl, ha, hb, q⟩ := hq
  cases (show v = Value.ref a from rx)
  cases (show u = Value.ref b from ry)
  obtain ⟨f, fd, F, M, bi⟩ := h.ex
  obtain ⟨_, O1, _⟩ := ins_get I.hok ha
  obtain ⟨_, O2, _⟩ := ins_get I.hok hb
  obtain ⟨od, J, _⟩ := O1.look
  obtain ⟨od', J', _⟩ := O2.look
  obtain ⟨m', fr⟩ := I.fr
  have b1 := bi s [.ref a, .ref b] I.kIn rfl
  rw [List.append_nil] at b1
  show wpAny (model X.prog X.w) X.A (richCompare .Eq (.ref a) (.ref b)) (EP X pins σ Q) X.xe s
  refine PySem.W.cmp_K (op := .Eq) (tb := .ref C) (by have := hr.un; omega) fr I.mod.kin J J'.type (by simp [PySem.W.notFirst]) M.at_ M.fn ?_
  apply wpAny_call
  refine codeAny_mono (F.go g hr I.env0 b1 (vs := [.ref a, .ref b]) (.cons rfl (.cons rfl .nil)) q) (fun res s' z => ?_)
  match res, z with
  | .error _, z => exact hx pins σ H s _ s' I z
  | .ok (.ret _), z =>
    obtain ⟨v, H', I', rv, r, rfl, q2⟩ := I.after z
    cases (show _ = Value.bool r from rv)
    exact ⟨.bl r, H', I', rfl, q2⟩
end
end GL
/-! comparing an instance that has an own == with anything; str of an instance -/
namespace GL
open PySem PySem.Spec PyProof.Rows L2
section
variable {prog : Program} {w : World} {A : Around} {E : Value → Shared → Prop} {s : Shared} {K : PySem.W.Frag} {x C L f : Addr} {h₀ : Heap} {m : Str → Option Value} {ox : Obj} {od : Option Obj} {b tb : Value}
open PySem.W PySem.Calls Builtin in
theorem ne_own {Q : Value → Shared → Prop} (hu : A.units < cLine) (hu1 : A.in1.units < cLine) (F : Fr h₀ L s.heap m) (X₀ : K.In h₀) (I : InstAt s.heap x ox C od) (hb : Looks (model prog w) s.heap (typeOf b) tb) (hn : notFirst K C tb = true)
    (hs : findIn K (.ref C) "__eq__" = some (some (.ref f))) (hf : isFn K (.ref f) = true) (hne : findIn K (.ref C) "__ne__" = some (some (.builtin "object.__ne__"))) (hob : subIn K (.ref C) (.type "object") = some true)
    (h : wpAny (model prog w) A.in1 (call (.ref f) [.ref x, b]) (fun v s' => ∃ r, v = .bool r ∧ Q (.bool (!r)) s') E s) : wpAny (model prog w) A (richCompare .NotEq (.ref x) b) Q E s := by
  have X := X₀.keeps F.keep
  have isob : Looks (model prog w) s.heap (isInstance (.ref x) (.type "object")) true := I.type.andThen (looks_subIn X hob)
  have run : wpAny (model prog w) A (call (.builtin "object.__ne__") ([.ref x] ++ [b])) (fun v s' => ∃ r, v = .bool r ∧ Q (.bool r) s') E s := by
    refine wpAny_call (codeAny_call_builtin (by decide +kernel) PySem.F.cmpEntry_ne (check_slot PySem.F.cmpKind_ne PySem.F.cmpSplit_ne isob (PySem.F.cmpArgs_ne _ _) ?_))
    unfold Builtin.«object.__ne__»
    refine wpAny_bind (m := slotArgs "__ne__" 1 _) (wpAny_pure ?_)
    refine wpAny_bind (wpAny_cRoomFor hu1 ?_)
    refine wpAny_bind (m := callSpecialIfBound? (.ref x) (Str.ofString "__eq__") _) (ifBound_K X I hs hf (wpAny_mono h (fun v s' hv => ?_) fun _ _ e => e))
    obtain ⟨r, rfl, q⟩ := hv
    refine wpAny_bind (m := truthy (.bool r)) (wpAny_pure ?_)
    exact wpAny_pure ⟨!r, rfl, q⟩
  have one : wpAny (model prog w) A (tryCompare (.ref x) "__ne__" b) (fun r s' => ∃ v, r = some (.bool v) ∧ Q (.bool v) s') E s := by
    unfold tryCompare
    refine wpAny_bind ?_
    simp only [callSpecialIfBound?, bindSpecialIfBound?]
    refine wpAny_holding (wpAny_bind (wpAny_bind (wpAny_bind (I.type.here ((looks_findIn X hne).here ?_)))))
    have bd : bindSpecial (.builtin "object.__ne__") (.ref x) = pure (.builtin "object.__ne__", [.ref x]) := PySem.F.cmp_object.ne.bind _
    refine wpAny_bind (wpAny_askSetting (wpAny_ite ?_))
    have fin : wpAny (model prog w) A (call (.builtin "object.__ne__") ([.ref x] ++ [b]) >>= fun v => pure (some v)) (fun r s' => ∃ v, r = some (.bool v) ∧ Q (.bool v) s') E s :=
      wpAny_bind (wpAny_mono run (fun v s' h' => by obtain ⟨r, rfl, q⟩ := h'; exact wpAny_pure ⟨r, rfl, q⟩) fun _ _ h' => h')
    have fin2 : wpAny (model prog w) A (call (.builtin "object.__ne__") ([.ref x] ++ [b]) >>= fun v => pure (some v)) (fun r s' => wpAny (model prog w) A (match r with | some .notImplemented | none => pure none | some v => pure (some v)) (fun r s' => ∃ v, r = some (.bool v) ∧ Q (.bool v) s') E s') E s :=
      wpAny_mono fin (fun r s' h' => by obtain ⟨v, rfl, q⟩ := h'; exact wpAny_pure ⟨v, rfl, q⟩) fun _ _ e => e
    simp only [bd]
    split
    · exact wpAny_bind (wpAny_pure (wpAny_pure fin2))
    · exact wpAny_tryCatch (wpAny_bind (wpAny_pure (wpAny_pure fin2)))
  unfold richCompare
  simp only [oneThing_ref]
  refine wpAny_holding (wpAny_bind (wpAny_cRoomFor hu ?_))
  refine wpAny_bind (I.type.here (wpAny_bind (hb.here ?_)))
  have tail : wpAny (model prog w) A (do
      if let some v ← tryCompare (.ref x) "__ne__" b then return v
      if let some v ← tryCompare b "__ne__" (.ref x) then return v
      rule "compare.ne-identity"; return .bool (!(← isSame (.ref x) b))) Q E s := by
    refine wpAny_bind (wpAny_mono one (fun r s' z => ?_) fun _ _ e => e)
    obtain ⟨v, rfl, q⟩ := z
    exact wpAny_pure q
  split
  · rename_i q
    have e : subIn K tb (.ref C) = some false := by
      rcases Bool.or_eq_true_iff.mp hn with e | e
      · rw [beq_iff_eq.mp e] at q; simp at q
      · exact beq_iff_eq.mp e
    refine wpAny_bind ((looks_subIn X e).here ?_)
    exact tail
  · exact tail
end

section
variable {X : Cx} {CX : CXT} {k : Nat} {C : Addr} {sp : Sp} {E : XK}
/-- what of a class stands in the text, for its == and != -/
structure EqC (K : PySem.W.Frag) (C : Addr) : Prop where
  ne : PySem.W.findIn K (.ref C) "__ne__" = some (some (.builtin "object.__ne__"))
  ob : PySem.W.subIn K (.ref C) (.type "object") = some true
/-- x is an instance of C, y is of a type that is no subclass of C -/
def rEqA (K : PySem.W.Frag) (C : Addr) (sp : Sp) (E : XK) (neg : Bool) : R2 := fun x y H Q => ∃ a dx fs t, x = .ref a ∧ H a = some (.ins C dx fs) ∧ TyX K H y t ∧ PySem.W.notFirst K C t = true ∧
  sp [.ref a, y] H (fun v H' => ∃ r, v = .bl r ∧ Q (.bl (neg != r)) H') E
theorem op_eqA (h : HasM X.prog X.w X.K X.mg X.base CX C "__eq__" k ["self", "other"] sp) (g : Gd X.A) (hr : Room k X.A) (hx : Passes CX X E) :
    OpR X (compareOp .Eq) (rEqA X.K C sp E false) := by
  intro pins s σ H x y v u Q I rx ry hq
  obtain ⟨a, dx, fs, t, rfl, ha, ty, nf, q⟩ := hq
  cases (show v = Value.ref a from rx)
  obtain ⟨f, fd, F, M, bi⟩ := h.ex
  obtain ⟨_, O1, _⟩ := ins_get I.hok ha
  obtain ⟨od, J, _⟩ := O1.look
  obtain ⟨Z, KX, z, _⟩ := kit_of I ry ty
  obtain ⟨m', fr⟩ := I.fr
  have b1 := bi s [.ref a, u] I.kIn rfl
  rw [List.append_nil] at b1
  show wpAny (model X.prog X.w) X.A (richCompare .Eq (.ref a) u) (EP X pins σ Q) X.xe s
  refine PySem.W.cmp_K (op := .Eq) (tb := t) (by have := hr.un; omega) fr I.mod.kin J (KX.ty _ _ I.kIn z) nf M.at_ M.fn ?_
  apply wpAny_call
  refine codeAny_mono (F.go g hr I.env0 b1 (vs := [.ref a, y]) (.cons rfl (.cons ry .nil)) q) (fun res s' z => ?_)
  match res, z with
  | .error _, z => exact hx pins σ H s _ s' I z
  | .ok (.ret _), z =>
    obtain ⟨v, H', I', rv, r, rfl, q2⟩ := I.after z
    cases (show _ = Value.bool r from rv)
    exact ⟨.bl r, H', I', rfl, by simpa using q2⟩
theorem op_neA (h : HasM X.prog X.w X.K X.mg X.base CX C "__eq__" k ["self", "other"] sp) (e : EqC X.K C) (g : Gd X.A) (hr : Room (k + 1) X.A) (hx : Passes CX X E) :
    OpR X (compareOp .NotEq) (rEqA X.K C sp E true) := by
  intro pins s σ H x y v u Q I rx ry hq
  obtain ⟨a, dx, fs, t, rfl, ha, ty, nf, q⟩ := hq
  cases (show v = Value.ref a from rx)
  obtain ⟨f, fd, F, M, bi⟩ := h.ex
  obtain ⟨_, O1, _⟩ := ins_get I.hok ha
  obtain ⟨od, J, _⟩ := O1.look
  obtain ⟨Z, KX, z, _⟩ := kit_of I ry ty
  obtain ⟨m', fr⟩ := I.fr
  have b1 := bi s [.ref a, u] I.kIn rfl
  rw [List.append_nil] at b1
  show wpAny (model X.prog X.w) X.A (richCompare .NotEq (.ref a) u) (EP X pins σ Q) X.xe s
  refine ne_own (tb := t) (by have := hr.un; omega) (by have := hr.in1.un; omega) fr I.mod.kin J (KX.ty _ _ I.kIn z) nf M.at_ M.fn e.ne e.ob ?_
  apply wpAny_call
  refine codeAny_mono (F.go (A := X.A.in1) g hr.in1 I.env0.in1 b1 (vs := [.ref a, y]) (.cons rfl (.cons ry .nil)) q) (fun res s' z => ?_)
  match res, z with
  | .error _, z => exact hx pins σ H s _ s' I z
  | .ok (.ret _), z =>
    obtain ⟨v, H', I', rv, r, rfl, q2⟩ := I.after z
    cases (show _ = Value.bool r from rv)
    exact ⟨r, rfl, .bl (!r), H', I', rfl, by simpa using q2⟩
/-- str of an instance whose class has its own __str__ -/
def rStrM (C : Addr) (sp : Sp) (E : XK) : List V → Hp → VK → Prop := fun xs H Q => ∃ a dx fs, xs = [.ref a] ∧ H a = some (.ins C dx fs) ∧ sp [.ref a] H (fun v H' => ∃ y, v = .str y ∧ Q (.str y) H') E
theorem call_strM (h : HasM X.prog X.w X.K X.mg X.base CX C "__str__" k ["self"] sp) (g : Gd X.A) (hr : Room (k + 2) X.A) (hx : Passes CX X E) :
    CallR X (.type "str") (rStrM C sp E) := by
  intro pins s σ H xs us Q I r q
  obtain ⟨a, dx, fs, rfl, ea, q1⟩ := q
  obtain ⟨f, fd, F, M, b⟩ := h.ex
  obtain ⟨u, rfl, ru⟩ := vals1 r
  cases (show u = Value.ref a from ru)
  obtain ⟨mA, O, _⟩ := ins_get I.hok ea
  obtain ⟨od, J, _⟩ := O.look
  have b1 := b s [.ref a] I.kIn rfl
  rw [List.append_nil] at b1
  refine PySem.W.kso_call (by have := hr.in1.in1.un; omega) I.kIn J M.at_ M.fn ?_
  apply wpAny_call
  refine codeAny_mono (F.go (A := X.A.in1.in1) g hr.in1.in1 I.env0.in1.in1 b1 (vs := [.ref a]) (.cons rfl .nil) q1) (fun res s' z => ?_)
  match res, z with
  | .error _, z => exact hx pins σ H s _ s' I z
  | .ok (.ret _), z =>
    obtain ⟨v, H', I', rv, y, rfl, q2⟩ := I.after z
    obtain ⟨t, rfl⟩ := rv
    exact ⟨.str y, H', I', ⟨_, rfl⟩, q2⟩
end
end GL
/-! list of an instance whose __iter__ hands out the iterator of a tuple -/
namespace GL
open PySem PySem.Spec PyProof.Rows L2
/-- at it the iterator of the tuple at t, with i things taken -/
def ItT (t it : Addr) (i : Nat) : HO := .ext fun h => h.IsTupleIter it t i
def ItX (it : Addr) : HO := .ext fun h => ∃ o, h.get? it = some o
section
variable {X : Cx} {pins : List (Addr × Obj)} {σ : L2.St} {H : Hp} {s : Shared} {t it : Addr} {i : Nat}
theorem itT_ok {P : Program} {w : World} {H : Hp} {h : Heap} (e : h.IsTupleIter it t i) : ObjOk P w H h it (ItT t it i) := ⟨e, let ⟨o, ho, _⟩ := e; ⟨o, ho⟩, fun h1 h2 q k => Heap.IsTupleIter.at q k⟩
theorem itX_ok {P : Program} {w : World} {H : Hp} {h : Heap} {o : Obj} (e : h.get? it = some o) : ObjOk P w H h it (ItX it) := ⟨⟨o, e⟩, ⟨o, e⟩, fun h1 h2 ⟨o, q⟩ k => ⟨o, k _ q⟩⟩
theorem itT_get (I : Inv X pins σ H s) (e : H it = some (ItT t it i)) : s.heap.IsTupleIter it t i := (I.hok it _ e).1
/-- iter(t), t a tuple -/
def rIterT (K : PySem.W.Frag) : List V → Hp → VK → Prop := fun xs H Q => ∃ (l : Addr) (zs : List V), xs = [.ref l] ∧ SqT K H l zs ∧ ∀ it, H it = none → Q (.ref it) (upd H it (ItT l it 0))
theorem call_iterT : CallR X (.builtin "iter") (rIterT X.K) := by
  intro pins s σ H xs us Q I r h
  obtain ⟨l, zs, rfl, hq, q⟩ := h
  obtain ⟨u, rfl, ru⟩ := vals1 r
  cases (show u = Value.ref l from ru)
  obtain ⟨its, rv, tp, hz⟩ := I.tuple hq
  refine Calls.call_function_entry (by decide +kernel) (by decide +kernel) PySem.W.kdk_entry_iter (PySem.W.kdk_args_iter _) ?_
  unfold Builtin.«iter»
  refine wpAny_bind (m := someArgs "iter" 1 2 _) (wpAny_of_eq (a := [Value.ref l]) (by first | rfl | kernel_rfl!) ?_)
  show wpAny _ _ (pyIter (.ref l) >>= _) _ _ _
  refine wpAny_bind (wpAny_pyIter_tuple tp ?_)
  refine wpAny_pure ⟨_, rfl, ?_⟩
  exact ⟨.ref s.heap.objs.size, _, I.laid (t' := s.toks) (fun b u e => Heap.get?_push_of_some _ e) (Nat.le_refl _) (itT_ok ⟨_, Heap.get?_push_size _ rfl, rfl, rfl⟩), rfl, q _ (I.hok.fresh (Nat.le_refl _))⟩
end
section
variable {prog : Program} {w : World} {A : Around} {E : Value → Shared → Prop} {s : Shared}
/-- the end of a tuple's iterator, with what stands at it then -/
theorem tup_end {it t : Addr} {i : Nat} {items} {Q : Option Value → Shared → Prop} (hh : A.handled = none)
    (hit : s.heap.IsTupleIter it t i) (ht : s.heap.IsTuple t items) (hx : items[i]? = none)
    (hQ : ∀ h', Heap.ExtBut it s.heap h' → (∃ o, h'.get? it = some o) → Q none { s with heap := h' }) : wpAny (model prog w) A (pyNext (.ref it)) Q E s := by
  obtain ⟨o, ho, hc, hd⟩ := id hit
  obtain ⟨ol, hol, _, nl, hdl⟩ := ht
  unfold pyNext
  refine wpAny_bind (wpAny_attempt (wpAny_callSpecial?_slot (name := Str.ofString "__next__") hit.typeIs F.slot_tuple_iterator_next
    (wpAny_call_entry F.slot_tuple_iterator_next hit.typeIs F.entry_tuple_iterator_next ?_ (F.args_tuple_iterator_next_1 _))))
  show wpAny _ _ (field (.ref it) 0 >>= _) _ _ s
  refine wpAny_bind (wpAny_field ho hd (x := .ref t) rfl ?_)
  show wpAny _ _ (if (Value.ref t == Value.none) = true then _ else _) _ _ s
  rw [if_neg (show ¬ ((Value.ref t == Value.none) = true) from Bool.false_ne_true)]
  show wpAny _ _ (field (.ref it) 1 >>= _) _ _ s
  refine wpAny_bind (wpAny_field ho hd (x := .int i 0) rfl ?_)
  show wpAny _ _ (seqItems? (.ref t) >>= _) _ _ s
  refine wpAny_bind (wpAny_seqItems hol hdl ?_)
  simp only [Int.toNat_natCast, hx]
  refine wpAny_bind (wpAny_rule (wpAny_bind (wpAny_setField ho hd (by simp) ?_)))
  show wpAny _ _ (newExc (.type "StopIteration") [] >>= _) _ _ _
  refine wpAny_bind ?_
  simp only [newExc, newTuple]
  refine wpAny_bind (wpAny_newObj_type ?_ (by size_fits))
  refine wpAny_bind (m := firstArgMember _ _) (wpAny_of_eq (a := Value.none) (by first | rfl | (simp only [firstArgMember]; rfl)) ?_)
  refine wpAny_newObj_type ?_ (by size_fits)
  simp only [raiseNew]
  refine wpAny_bind (wpAny_handled ?_)
  first | rw [show A.in1.handled = none from hh] | rw [hh]
  refine wpAny_bind (wpAny_pure (wpAny_throw ?_))
  refine wpAny_bind (wpAny_isInstance (T := "StopIteration") (b := true) ⟨_, Heap.get?_push_size _ rfl, rfl⟩ isSubtype_stop ?_)
  exact wpAny_pure (hQ _ (((Heap.SameBut.update ..).extBut.push _).push _) ⟨_, Heap.get?_push_of_some _ (Heap.get?_push_of_some _ (Heap.get?_update_self _ ho (Obj.isFreed_of_fields (Obj.data_mapFields hd _))))⟩)
end
section
variable {X : Cx} {pins : List (Addr × Obj)} {σ : L2.St} {H1 : Hp} {q it t a : Addr} {zs : List V} {A1 : Around}
/-- the walk that fills the list at q out of the iterator at it -/
theorem it_loop {Rs : Result → Shared → Prop} (hh : A1.in1.handled = none) (hz : zs.length ≤ 1000) (qi : q ≠ it) (st : ∀ H : Hp, (∀ b o, b ≠ q → b ≠ it → H1 b = some o → H b = some o) → SqT X.K H t zs)
    (hdone : ∀ H s, Inv X pins σ H s → (∀ b o, b ≠ q → b ≠ it → H1 b = some o → H b = some o) → H q = some (.lst zs) → Rs (.ok (.ret .none)) s) :
    ∀ (k i : Nat) (H : Hp) (s : Shared), zs.length - i = k → i ≤ zs.length → Inv X pins σ H s → (∀ b o, b ≠ q → b ≠ it → H1 b = some o → H b = some o) → H it = some (ItT t it i) → H q = some (.lst (zs.take i)) →
      codeAny (model X.prog X.w) A1 (.builtin "list.extend.loop" ⟨[.ref q, .ref it, .none], []⟩) Rs s := by
  intro k
  induction k with
  | zero =>
    intro i H s hk hi I keep hit hq
    have ei : i = zs.length := by omega
    subst ei
    refine codeAny_builtin PySem.F.entry_extend_loop ?_
    rw [Around.under_plainId PySem.F.plain_extend_loop _]
    show wpAny _ A1.in1 (pyNext (.ref it) >>= _) _ _ s
    obtain ⟨its, rv, tp, _⟩ := I.tuple (st H keep)
    refine wpAny_bind (tup_end hh (itT_get I hit) tp (by rw [List.getElem?_toArray]; exact rv.none_of (List.getElem?_eq_none (Nat.le_refl _))) (fun h' ex ⟨o, eo⟩ => ?_))
    have I2 : Inv X pins σ (upd H it (ItX it)) { s with heap := h' } := I.write (x := it) (e := it) (t' := s.toks) (by rw [hit]; exact True.intro) (.inl rfl) (fun b o nb z => ex b o nb z) ⟨_, eo⟩ (itX_ok eo)
    refine wpAny_pure (hdone _ _ I2 (fun b o nq ni z => by rw [upd_ne ni]; exact keep b o nq ni z) ?_)
    rw [upd_ne qi, hq, List.take_length]
  | succ k ih =>
    intro i H s hk hi I keep hit hq
    refine codeAny_builtin PySem.F.entry_extend_loop ?_
    rw [Around.under_plainId PySem.F.plain_extend_loop _]
    show wpAny _ A1.in1 (pyNext (.ref it) >>= _) _ _ s
    obtain ⟨its, rv, tp, _⟩ := I.tuple (st H keep)
    have hlt : i < zs.length := by omega
    obtain ⟨u, hu, ru⟩ := rv.get (List.getElem?_eq_getElem hlt)
    refine wpAny_bind (wpAny_pyNext_tuple_item (itT_get I hit) tp (by rw [List.getElem?_toArray]; exact hu) (fun h' e' sb => ?_))
    have I2 : Inv X pins σ (upd H it (ItT t it (i + 1))) { s with heap := h' } := I.write (x := it) (e := it) (t' := s.toks) (by rw [hit]; exact True.intro) (.inl rfl) (fun b o nb z => (sb.2 b nb).trans z) (let ⟨o, ho, _⟩ := e'; ⟨o, ho⟩) (itT_ok e')
    have hq2 : upd H it (ItT t it (i + 1)) q = some (.lst (zs.take i)) := by rw [upd_ne qi]; exact hq
    show wpAny _ A1.in1 (updateSeq q (·.push u) >>= _) _ _ _
    obtain ⟨z, its', k', r2, hl, e⟩ := I2.lstM hq2
    have hsz : its'.length ≤ 1000 := by rw [← hl, List.length_take]; omega
    have big : 1000 < sizeLine := by rw [sizeLine_eq]; decide
    refine wpAny_bind (wpAny_updateSeq e rfl (wpAny_pure ⟨plainId_quiet PySem.F.plain_extend_loop _, ?_⟩) (by rw [List.size_toArray]; omega) (by show (its'.toArray.push u).size ≤ sizeLine + 1; rw [Array.size_push, List.size_toArray]; omega))
    have I3 := I2.lset (its' := its' ++ [u]) (ys := zs.take i ++ [zs[i]]) (f := (·.push u)) (t' := s.toks) hq2 e (by simp) (r2.append (.cons ru .nil)) (by rw [List.length_append, List.length_singleton, List.length_take]; omega)
    refine ih (i + 1) _ _ (by omega) (by omega) I3 (fun b o nq ni z => by rw [upd_ne nq, upd_ne ni]; exact keep b o nq ni z) (by rw [upd_ne qi.symm, upd_same]) (by rw [upd_same, List.take_add_one, List.getElem?_eq_getElem hlt]; rfl)
end

section
variable {X : Cx} {CX CX' : CXT} {k k' : Nat} {C : Addr} {sp spL : Sp} {E : XK}
/-- list(o): __iter__ hands out the iterator of a tuple, __len__ says how long it is -/
def rListIt (K : PySem.W.Frag) (C : Addr) (sp spL : Sp) (E : XK) : List V → Hp → VK → Prop := fun xs H Q => ∃ a dx fs, xs = [.ref a] ∧ H a = some (.ins C dx fs) ∧
  ∀ q, H q = none → sp [.ref a] (upd H q (.lst [])) (fun v H1 => ∃ it t zs, v = .ref it ∧ H1 it = some (ItT t it 0) ∧ H1 q = some (.lst []) ∧ H1 a = some (.ins C dx fs) ∧ zs.length ≤ 1000 ∧
    (∀ H : Hp, (∀ b o, b ≠ q → b ≠ it → H1 b = some o → H b = some o) → SqT K H t zs) ∧ spL [.ref a] H1 (fun v H2 => v = .int zs.length ∧ H2 = H1) E ∧
    ∀ H2, (∀ b o, b ≠ q → b ≠ it → H1 b = some o → H2 b = some o) → H2 q = some (.lst zs) → Q (.ref q) H2) E
theorem call_listIt (h : HasM X.prog X.w X.K X.mg X.base CX C "__iter__" k ["self"] sp) (hl : HasM X.prog X.w X.K X.mg X.base CX0 C "__len__" k ["self"] spL) (g : Gd X.A) (hr : Room (k + 3) X.A) (hx : Passes CX X E) :
    CallR X (.type "list") (rListIt X.K C sp spL E) := by
  intro pins s σ H xs us Q I r asked
  obtain ⟨a, dx, fs, rfl, ha, hq⟩ := asked
  obtain ⟨f, fd, F, M, bi⟩ := h.ex
  obtain ⟨fl, fdl, FL, ML, bl⟩ := hl.ex
  obtain ⟨u, rfl, ru⟩ := vals1 r
  cases (show u = Value.ref a from ru)
  refine callType_codes (Q₁ := fun obj s₁ => obj = .ref s.heap.objs.size ∧ s₁ = { s with heap := s.heap.push { cls := .type "list", data := .seq #[] } }) PySem.F.called_list (PySem.F.typeCall_list_1 _) PySem.F.entry_list_init
    (code_list_new _ ⟨rfl, rfl⟩) fun obj s₁ h₁ => ?_
  obtain ⟨rfl, rfl⟩ := h₁
  have hS : (s.heap.push { cls := .type "list", data := .seq #[] }).get? s.heap.objs.size = some { cls := .type "list", data := .seq #[] } := Heap.get?_push_size _ rfl
  refine ⟨⟨_, hS, rfl⟩, PySem.F.args_list_init_2 _ _, ?_⟩
  have fr : H s.heap.objs.size = none := I.hok.fresh (Nat.le_refl _)
  have asked := hq _ fr
  generalize hqq : s.heap.objs.size = q at *
  have I1 : Inv X pins σ (upd H q (.lst [])) { s with heap := s.heap.push { cls := .type "list", data := .seq #[] } } := by
    rw [← hqq]; exact I.lnew (its := []) (t' := s.toks) .nil (Nat.zero_le _)
  show wpAny _ _ (do let old ← Builtin.List.listItems (.ref q); Builtin.List.listUpdate (.ref q) (fun _ => #[]); letGo old.toList.reverse; Builtin.List.listExtendWith (.ref q) (.ref a) .none) _ _ _
  refine wpAny_bind ?_
  unfold Builtin.List.listItems
  refine wpAny_bind (wpAny_seqItems hS rfl (wpAny_pure ?_))
  show wpAny _ _ (updateSeq q (fun _ => #[]) >>= fun _ => letGo (#[] : Array Value).toList.reverse >>= fun _ => Builtin.List.listExtendWith (.ref q) (.ref a) .none) _ _ _
  refine wpAny_bind (wpAny_updateSeq hS rfl ?_)
  have I2 := I1.lset (f := fun _ => #[]) (its := []) (its' := []) (ys := []) (t' := s.toks) upd_same hS rfl .nil (Nat.zero_le _)
  rw [upd_upd] at I2
  refine wpAny_bind (wpAny_letGo ?_)
  have ha2 : upd H q (.lst []) a = some (.ins C dx fs) := by rw [upd_ne (ne_of_none ha fr)]; exact ha
  have hne : q ≠ a := fun z => by rw [z] at fr; rw [fr] at ha; cases ha
  have i2 : Sub X (k + 1) X.A.in1.in1 := (Sub.in1 (Sub.in1 (⟨hr, rfl⟩ : Sub X (k + 3) X.A)))
  generalize hB : X.A.in1 = A1 at *
  obtain ⟨mA, J, _⟩ := ins_get I2.hok ha2
  obtain ⟨od, J, _⟩ := J.look
  obtain ⟨m0, hF⟩ := I2.fr
  unfold Builtin.List.listExtendWith
  refine wpAny_bind (J.type.here ?_)
  have h1 : Builtin.List.listSameRef (.ref q) (.ref a) = false := by simp [Builtin.List.listSameRef, hne]
  have h2 : (Value.ref C == Value.type "list") = false := rfl
  have h3 : (Value.ref C == Value.type "tuple") = false := rfl
  simp only [h1, h2, h3, Bool.or_false, Bool.false_eq_true, if_false]
  refine wpAny_bind (PySem.W.owit_iter hF I2.ok.mod.kin J M.at_ M.fn ?_)
  have e0 : ∀ {H s}, Inv X pins σ H s → Env0 X.prog X.w X.K X.mg X.base A1.in1 X.stack s H := by
    intro H s I
    have e := I.env0
    exact ⟨by rw [i2.fr]; exact e.frames, e.mod, e.bs, e.bsz, e.funs, e.frf, e.hok, e.bare⟩
  have e0' : ∀ {H s}, Inv X pins σ H s → Env0 X.prog X.w X.K X.mg X.base A1.in1.in1 X.stack s H := by
    intro H s I
    have e := I.env0
    exact ⟨by rw [(Sub.in1 i2).fr]; exact e.frames, e.mod, e.bs, e.bsz, e.funs, e.frf, e.hok, e.bare⟩
  have b1 := bi { s with heap := (s.heap.push { cls := .type "list", data := .seq #[] }).update q (Obj.mapSeq fun _ => #[]) } [.ref a] I2.kIn rfl
  rw [List.append_nil] at b1
  have gd1 : Gd A1.in1 := by rw [← hB]; exact g
  refine wpAny_call (codeAny_mono (F.go (A := A1.in1) gd1 (i2.room.mono (by omega)) (e0 I2) b1 (vs := [.ref a]) (.cons rfl .nil) asked) fun r s' hq' => ?_)
  match r, hq' with
  | .error e, hq' => exact hx pins σ _ _ e s' I2 hq'
  | .ok (.ret u), hq' =>
    obtain ⟨v, H1, I3, rv, it, t, zs, rfl, hit, hq1, ha1, hz, st, sl, hQ⟩ := I2.after hq'
    cases (show u = Value.ref it from rv)
    have qi : q ≠ it := fun z => by rw [z] at hq1; rw [hit] at hq1; cases hq1
    unfold PySem.W.OwitIt
    refine wpAny_specialOf (itT_get I3 hit).typeIs PySem.F.slot_tuple_iterator_next.lookup ?_
    obtain ⟨mA', J', _⟩ := ins_get I3.hok ha1
    obtain ⟨od', J', _⟩ := J'.look
    obtain ⟨m1, hF'⟩ := I3.fr
    refine wpAny_bind (wpAny_holding ?_)
    have loopE : ∀ {s'}, Inv X pins σ H1 s' → codeAny (model X.prog X.w) A1 (.builtin "list.extend.loop" ⟨[.ref q, .ref it, .none], []⟩) (wants (fun r s₂ => r = .none ∧ EP X pins σ Q (.ref q) s₂) X.xe) s' := fun {s'} I' =>
      it_loop (H1 := H1) (by rw [show A1.in1.handled = X.A.handled by rw [← hB]]; exact hr.hd) hz qi st (fun H2 s2 I2 kp e => ⟨rfl, .ref q, H2, I2, rfl, hQ H2 kp e⟩) zs.length 0 H1 s' (by omega) (Nat.zero_le _) I' (fun b o _ _ e => e) hit hq1
    have b2 := bl { s' with heap := s'.heap } [.ref a] I3.kIn rfl
    rw [List.append_nil] at b2
    unfold Builtin.List.listLengthHint
    refine wpAny_bind (wpAny_bind (J'.type.here ((PySem.W.looks_findIn I3.kIn ML.at_).here ?_)))
    refine PySem.W.KFB.if_not rfl ?_
    refine PySem.W.KFB.if_so rfl ?_
    refine wpAny_bind (wpAny_rule ?_)
    refine wpAny_bind (wpAny_attempt ?_)
    have i3 : Sub X k A1.in1.in1 := Sub.in1 i2
    refine PySem.W.len_K hF' I3.mod.kin J' ML.at_ ML.fn ?_
    apply wpAny_call
    refine codeAny_mono (FL.go (A := A1.in1.in1) gd1 i3.room (e0' I3) b2 (vs := [.ref a]) (.cons rfl .nil) sl) (fun res s2 z => ?_)
    match res, z with
    | .error e, z => exact z.elim
    | .ok (.ret u), z =>
      obtain ⟨v, H2, I4, rv, rfl, eH⟩ := I3.after z
      rw [eH] at I4
      obtain ⟨tk, rfl⟩ := rv
      refine ⟨⟨by omega, by omega⟩, ?_⟩
      refine wpAny_bind (m := asInt? (.int zs.length _)) (wpAny_pure ?_)
      refine PySem.W.KFB.if_not (by unfold Builtin.List.listTooLong; exact decide_eq_false (by rw [sizeLine_eq]; omega)) ?_
      refine wpAny_pure ?_
      have I5 := I4.tok (s2.toks + 1)
      refine wpAny_ite_split (fun _ => ?_) (fun _ => wpAny_pure ⟨plainId_quiet PySem.F.plain_extend_loop _, loopE I5⟩)
      refine wpAny_bind (wpAny_rule ?_)
      refine wpAny_bind ?_
      obtain ⟨z, its, k3, r3, hl3, e3⟩ := I5.lstM hq1
      cases r3
      show wpAny _ _ (updateSeq q (·.push .none) >>= fun _ => updateSeq q (·.pop)) _ _ _
      refine wpAny_bind (wpAny_updateSeq e3 rfl ?_)
      have I6 := I5.lset (f := (·.push Value.none)) (its' := [Value.none]) (ys := [.non]) (t' := s2.toks + 1) hq1 e3 (by simp) (.cons rfl .nil) (by rw [List.length_singleton, sizeLine_eq]; decide)
      obtain ⟨z4, its4, k4, r4, hl4, e4⟩ := I6.lstM upd_same
      obtain ⟨u4, rfl, ru4⟩ := r4.one
      refine wpAny_updateSeq e4 rfl ?_ (by show 1 ≤ sizeLine; rw [sizeLine_eq]; decide) (by show 0 ≤ sizeLine + 1; exact Nat.zero_le _)
      have I7 := I6.lset (f := (·.pop)) (its := [u4]) (its' := []) (ys := []) (t' := s2.toks + 1) upd_same e4 (by rfl) .nil (Nat.zero_le _)
      rw [upd_upd] at I7
      have hH : upd H1 q (.lst []) = H1 := by
        funext b
        by_cases hb : b = q
        · rw [hb, upd_same, hq1]
        · rw [upd_ne hb]
      rw [hH] at I7
      exact wpAny_pure ⟨plainId_quiet PySem.F.plain_extend_loop _, loopE I7⟩
    | .ok .next, z => exact False.elim z
    | .ok .brk, z => exact False.elim z
    | .ok .cont, z => exact False.elim z
  | .ok .next, hq' => exact False.elim hq'
  | .ok .brk, hq' => exact False.elim hq'
  | .ok .cont, hq' => exact False.elim hq'
end
end GL
/-! t.index(x), t a tuple of data of any depth -/
namespace GL
open PySem PySem.Spec PyProof.Rows L2
section
variable {X : Cx}
def rIndexT (K : PySem.W.Frag) : V → List V → Hp → VK → Prop := fun x xs H Q => ∃ (a : Addr) (y : V) (d : PyData) (ds : List PyData) (j : Nat) (z : PyData), x = V.ref a ∧ xs = [y] ∧ Dp K H (V.ref a) (.tuple ds) ∧ Dp K H y d ∧
  SeqAt.shaped (.tuple ds) = true ∧ SeqAt.shaped d = true ∧ ds[j]? = some z ∧ PyData.eqv z d = true ∧ (∀ (m : Nat) (z' : PyData), m < j → ds[m]? = some z' → PyData.eqv z' d = false) ∧ Q (.int (j : Nat)) H
theorem mt_indexT (hu : X.A.units + 65 < cLine) : MtR X "tuple.index" (rIndexT X.K) := by
  intro pins s σ H x xs v us Q I rx rxs h
  obtain ⟨a, y, d, ds, j, z, rfl, rfl, hl, hy, sl, sd, hz, hzj, hno, q⟩ := h
  cases rx
  cases rxs with
  | cons ry rt =>
    rename_i uy ut
    cases rt
    obtain ⟨bs, r1⟩ := Dp.reads I d y uy hy ry
    have hxs : PyData.canLayAll0 ds = true := SeqAt.canLay_of_shaped sl
    have hroom : X.A.units + 1 + min (PyData.depthAll ds) d.depth < cLine := room_in_shaped sd hu
    cases hl with
    | tup hs ha =>
      obtain ⟨its, rv, pl, hlen⟩ := I.tuple hs
      obtain ⟨⟨cls, dd, dt, sls⟩, ho, hc, n, hdt⟩ := pl
      simp only at hc hdt
      subst hc hdt
      obtain ⟨as, h4⟩ := Dp.readsAll I ds _ its ha rv
      have hn : its.length = ds.length := SeqAt.ReadsAll.length ds its as h4
      have hmap : its.map (SeqAt.readOf s.heap) = ds := SeqAt.readsAll_map ds its as hxs h4
      have hvl := rv.length
      have hsl := sizeLine_eq
      obtain ⟨hjd, _⟩ := List.getElem?_eq_some_iff.mp hz
      have hjl : j < its.length := by omega
      have hj : j < its.toArray.size := by simpa using hjl
      have at_ : ∀ (m : Nat) (hm : m < its.toArray.size) (z' : PyData), ds[m]? = some z' → SeqAt.readOf s.heap its.toArray[m] = z' := by
        intro m hm z' hz'
        have hml : m < its.length := by simpa using hm
        rw [← hmap, List.getElem?_map, List.getElem?_eq_getElem hml] at hz'
        have e1 : SeqAt.readOf s.heap its[m] = z' := Option.some.inj (show some (SeqAt.readOf s.heap its[m]) = some z' from hz')
        simpa using e1
      refine call_meets PySem.F.slot_tuple_index ⟨_, ho, rfl⟩ PySem.F.entry_tuple_index (PySem.F.args_tuple_index_2 _ _)
        (TI.tuple_indexAt a its.toArray n dd sls uy (fun u => PyData.eqv (SeqAt.readOf s.heap u) d) j hj ?_ ?_) ⟨ho, SeqAt.items_eqAt (vs := its.toArray) (show ReadsAll s.heap its.toArray.toList ds as from h4) r1 hxs (SeqAt.canLay_of_shaped sd) hroom, ?_⟩
      · show PyData.eqv (SeqAt.readOf s.heap its.toArray[j]) d = true
        rw [at_ j hj z hz]
        exact hzj
      · intro m hm hmj
        have hmd : m < ds.length := by omega
        have hz' : ds[m]? = some ds[m] := List.getElem?_eq_getElem hmd
        show PyData.eqv (SeqAt.readOf s.heap its.toArray[m]) d = false
        rw [at_ m hm _ hz']
        exact hno m _ hmj hz'
      · exact ⟨.int (j : Nat), H, I.tok _, ⟨_, rfl⟩, q⟩
end
end GL
/-! points as data; what the Grid's own methods promise -/
namespace GL
open PySem PySem.Spec PyProof.Rows L2
variable {K : PySem.W.Frag} {C : Addr} {U : Bool → Addr} {us : Bool → List Addr} {t : Bool}
/-! ### points as data -/
theorem ptD_lay (u : Int × Int) : (ptD u).canLay0 = true := by simp [ptD, PyData.canLay0, PyData.canLayAll0]
theorem ptD_depth (u : Int × Int) : (ptD u).depth = 1 := by simp [ptD, PyData.depth, PyData.depthAll]
theorem ptDs_lay : ∀ zs : List (Int × Int), PyData.canLayAll0 (zs.map ptD) = true
  | [] => by simp [PyData.canLayAll0]
  | z :: zs => by simp [PyData.canLayAll0, ptD_lay z, ptDs_lay zs]
theorem ptDs_depth : ∀ zs : List (Int × Int), PyData.depthAll (zs.map ptD) ≤ 1
  | [] => by simp [PyData.depthAll]
  | z :: zs => by
    have h1 := ptDs_depth zs
    have h2 := ptD_depth z
    simp only [List.map_cons, PyData.depthAll]
    omega
theorem ptDs_shaped (zs : List (Int × Int)) : SeqAt.shaped (.list (zs.map ptD)) = true := by
  have h1 := ptDs_depth zs
  have h2 : PyData.depth (.list (zs.map ptD)) ≤ 64 := by
    simp only [PyData.depth]
    omega
  show (PyData.canLay0 (.list (zs.map ptD)) && decide (PyData.depth (.list (zs.map ptD)) ≤ 64)) = true
  rw [Bool.and_eq_true]
  exact ⟨by simp only [PyData.canLay0]; exact ptDs_lay zs, decide_eq_true h2⟩
theorem ptDt_shaped (zs : List (Int × Int)) : SeqAt.shaped (.tuple (zs.map ptD)) = true := by
  have h1 := ptDs_depth zs
  have h2 : PyData.depth (.tuple (zs.map ptD)) ≤ 64 := by
    simp only [PyData.depth]
    omega
  show (PyData.canLay0 (.tuple (zs.map ptD)) && decide (PyData.depth (.tuple (zs.map ptD)) ≤ 64)) = true
  rw [Bool.and_eq_true]
  exact ⟨by simp only [PyData.canLay0]; exact ptDs_lay zs, decide_eq_true h2⟩
theorem ptDs_eqv : ∀ zs ys : List (Int × Int), PyData.eqvAll (zs.map ptD) (ys.map ptD) = decide (zs = ys)
  | [], [] => rfl
  | [], y :: ys => rfl
  | z :: zs, [] => rfl
  | z :: zs, y :: ys => by
    rw [List.map_cons, List.map_cons, PyData.eqvAll, ptD_eqv, ptDs_eqv zs ys, Bool.eq_iff_iff]
    simp
theorem PAt.dp {H : Hp} {a : Addr} {u : Int × Int} (h : PAt K H a u) : Dp K H (.ref a) (ptD u) := .tup h (.cons (.int _) (.cons (.int _) .nil))
/-- at the addresses as stand the points ps -/
def PAts (K : PySem.W.Frag) (H : Hp) (as : List Addr) (ps : List (Int × Int)) : Prop := as.length = ps.length ∧ ∀ (i : Nat) a p, as[i]? = some a → ps[i]? = some p → PAt K H a p
theorem PAts.dp {H : Hp} : ∀ {as : List Addr} {ps : List (Int × Int)}, PAts K H as ps → DpAll K H (as.map V.ref) (ps.map ptD)
  | [], [], _ => .nil
  | [], p :: ps, h => by cases h.1
  | a :: as, [], h => by cases h.1
  | a :: as, p :: ps, h => .cons (h.2 0 a p rfl rfl).dp (PAts.dp (as := as) (ps := ps) ⟨Nat.succ.inj h.1, fun i a p e1 e2 => h.2 (i + 1) a p e1 e2⟩)
theorem PAts.same {H H' : Hp} {as : List Addr} {ps : List (Int × Int)} (h : PAts K H as ps) (s : Same H H') : PAts K H' as ps := ⟨h.1, fun i a p e1 e2 => (h.2 i a p e1 e2).same s⟩
theorem PAts.got {q : Addr} {H H' : Hp} {as : List Addr} {ps : List (Int × Int)} (h : PAts K H as ps) (g : Got q H H') (d : Die H q) : PAts K H' as ps := ⟨h.1, fun i a p e1 e2 => (h.2 i a p e1 e2).got g d⟩
theorem PAts.snoc {H : Hp} {as : List Addr} {ps : List (Int × Int)} {a : Addr} {p : Int × Int} (h : PAts K H as ps) (e : PAt K H a p) : PAts K H (as ++ [a]) (ps ++ [p]) := by
  refine ⟨by rw [List.length_append, List.length_append, h.1]; rfl, fun i b q e1 e2 => ?_⟩
  rcases Nat.lt_trichotomy i as.length with l | l | l
  · rw [List.getElem?_append_left l] at e1
    rw [List.getElem?_append_left (by rw [← h.1]; exact l)] at e2
    exact h.2 i b q e1 e2
  · rw [List.getElem?_append_right (Nat.le_of_eq l.symm), l, Nat.sub_self] at e1
    rw [List.getElem?_append_right (by rw [← h.1]; exact Nat.le_of_eq l.symm), ← h.1, l, Nat.sub_self] at e2
    cases e1
    cases e2
    exact e
  · rw [List.getElem?_eq_none (by rw [List.length_append]; exact l)] at e1
    cases e1
theorem PAt.lst {H : Hp} {a D : Addr} {u : Int × Int} {xs : List V} {o : HO} (h : PAt K H a u) (e : H D = some (.lst xs)) : PAt K (upd H D o) a u := by
  rcases h with (z | ⟨ob, z⟩) | z
  · exact .inl (.inl (by rw [upd_ne (ne_of z e (by intro z; cases z))]; exact z))
  · exact .inl (.inr ⟨ob, by rw [upd_ne (ne_of z e (by intro z; cases z))]; exact z⟩)
  · exact .inr z
theorem PAts.lst {H : Hp} {as : List Addr} {D : Addr} {ps : List (Int × Int)} {xs : List V} {o : HO} (h : PAts K H as ps) (e : H D = some (.lst xs)) : PAts K (upd H D o) as ps := ⟨h.1, fun i a p e1 e2 => (h.2 i a p e1 e2).lst e⟩
theorem Uni.pts {w : World} {aG dU : Addr} (hU : Uni K w aG dU U us) (t : Bool) (H : Hp) : PAts K H (us t) (ux t) := ⟨by rw [hU.len, len_ux], fun i a p e1 e2 => hU.pt t i a p e1 e2 H⟩
theorem pts_at {H : Hp} {as : List Addr} (h : PAts K H as (ux t)) (n : Int) : ∃ a : Addr, PAt K H a (uni t n) ∧ atI (as.map V.ref) (n % (num t : Int)) = some (.ref a) := by
  have h1 := Int.emod_nonneg n (Int.ne_of_gt (num_pos (t := t)))
  have h2 := Int.emod_lt_of_pos n (num_pos (t := t))
  obtain ⟨j, hj⟩ : ∃ j : Nat, n % (num t : Int) = (j : Int) := ⟨(n % (num t : Int)).toNat, by omega⟩
  have e := uni_at (t := t) n
  rw [hj] at e ⊢
  have l : j < as.length := by rw [h.1, len_ux]; omega
  refine ⟨as[j], h.2 j _ _ (List.getElem?_eq_getElem l) e, atI_nat ?_⟩
  rw [List.getElem?_map, List.getElem?_eq_getElem l]
  rfl
/-- which unit a point is -/
def dirOf (t : Bool) (u : Int × Int) : Option Nat := (ux t).findIdx? fun p => decide (p = u)
def dirV (t : Bool) (u : Int × Int) : V := match dirOf t u with | some j => .int (j : Nat) | none => .non
def dirD (t : Bool) (u : Int × Int) : PyData := match dirOf t u with | some j => .int (j : Nat) | none => .none
theorem dir_in (t : Bool) (u : Int × Int) : (((ux t).map ptD).any fun z => PyData.eqv z (ptD u)) = (dirOf t u).isSome := by
  unfold dirOf
  rw [List.findIdx?_isSome, List.any_map]
  congr 1
  funext p
  exact ptD_eqv p u
theorem dir_at {t : Bool} {u : Int × Int} {j : Nat} (h : dirOf t u = some j) : j < num t ∧ ((ux t).map ptD)[j]? = some (ptD u) ∧ ∀ (m : Nat) (z : PyData), m < j → ((ux t).map ptD)[m]? = some z → PyData.eqv z (ptD u) = false := by
  unfold dirOf at h
  obtain ⟨hj, e, no⟩ := List.findIdx?_eq_some_iff_getElem.mp h
  refine ⟨by rw [← len_ux]; exact hj, ?_, fun m z hm hz => ?_⟩
  · rw [List.getElem?_map, List.getElem?_eq_getElem hj, of_decide_eq_true e]
    rfl
  · have hm' : m < (ux t).length := Nat.lt_trans hm hj
    rw [List.getElem?_map, List.getElem?_eq_getElem hm'] at hz
    cases hz
    rw [ptD_eqv]
    exact Bool.eq_false_iff.mpr (no m hm)
theorem dirD_ok (t : Bool) (u : Int × Int) : (dirD t u).showable = true ∧ (dirD t u).hasDict = false ∧ (dirD t u).depth ≤ 20 ∧ (dirD t u).shown.length ≤ sizeLine := by
  unfold dirD
  cases e : dirOf t u with
  | none => exact ⟨by decide +kernel, by decide +kernel, by decide +kernel, by decide +kernel⟩
  | some j =>
    have hj : j < 6 := Nat.lt_of_lt_of_le (dir_at e).1 (by cases t <;> decide)
    have all : ∀ j, j < 6 → (PyData.int (j : Nat)).showable = true ∧ (PyData.int (j : Nat)).hasDict = false ∧ (PyData.int (j : Nat)).depth ≤ 20 ∧ (PyData.int (j : Nat)).shown.length ≤ sizeLine := by decide +kernel
    exact all j hj
theorem dirD_dp {H : Hp} {t : Bool} {u : Int × Int} : Dp K H (dirV t u) (dirD t u) := by
  unfold dirV dirD
  cases dirOf t u with
  | none => exact .non
  | some j => exact .int _
theorem uniD_ok (t : Bool) (k : Int) : (ptD (uni t k)).showable = true ∧ (ptD (uni t k)).hasDict = false ∧ (ptD (uni t k)).depth ≤ 20 ∧ (ptD (uni t k)).shown.length ≤ sizeLine := by
  have all : ∀ p ∈ ux t, (ptD p).showable = true ∧ (ptD p).hasDict = false ∧ (ptD p).depth ≤ 20 ∧ (ptD p).shown.length ≤ sizeLine := by cases t <;> decide +kernel
  exact all _ (List.mem_of_getElem? (uni_at (t := t) k))
/-- what is told of a grid -/
def toldD (t : Bool) : PyData := .tuple [.str (nm t), .int ((num t : Int) / 2), .tuple ((ux t).map ptD), .int (num t : Int), .str (nm t)]
theorem toldD_ok (t : Bool) : (toldD t).showable = true ∧ (toldD t).hasDict = false ∧ (toldD t).depth ≤ 20 ∧ (toldD t).shown.length ≤ sizeLine := by cases t <;> exact ⟨by decide +kernel, by decide +kernel, by decide +kernel, by decide +kernel⟩
theorem toldD_dp {H : Hp} {a b : Addr} {as : List Addr} (h : H a = some (.tup [.str (nm t), .int ((num t : Int) / 2), .ref b, .int (num t : Int), .str (nm t)])) (hb : SqT K H b (as.map V.ref)) (p : PAts K H as (ux t)) : Dp K H (.ref a) (toldD t) :=
  .tup (SqT.of h) (.cons (.str _) (.cons (.int _) (.cons (.tup hb p.dp) (.cons (.int _) (.cons (.str _) .nil)))))
/-! ### what of the class Grid stands in the text, for == and isinstance -/
structure GIs (K : PySem.W.Frag) (C : Addr) : Prop where
  eq : EqC K C
  is : (((PySem.W.clsIn K C).isSome && PySem.W.typeIn K (.ref C) == some (.type "type")) = true)
  ha : PySem.W.findIn K (.ref C) "__class__" = some (some (.builtin "object.__class__"))
  hn : PySem.W.specialIn K (.builtin "object.__class__") "__get__" = some (some (.builtin "getset_descriptor.__get__"))
  htk : PySem.W.takesIn K (.builtin "object.__class__") = some true
  hm : PySem.W.mroIn K C (.type "object") = some true
theorem gis_mk (h1 : PySem.W.isClsIn K C = true) (h2 : PySem.W.typeIn K (.ref C) = some (.type "type")) (ne : PySem.W.findIn K (.ref C) "__ne__" = some (some (.builtin "object.__ne__"))) (ob : PySem.W.subIn K (.ref C) (.type "object") = some true)
    (ha : PySem.W.findIn K (.ref C) "__class__" = some (some (.builtin "object.__class__"))) (hn : PySem.W.specialIn K (.builtin "object.__class__") "__get__" = some (some (.builtin "getset_descriptor.__get__"))) (htk : PySem.W.takesIn K (.builtin "object.__class__") = some true)
    (hm : PySem.W.mroIn K C (.type "object") = some true) : GIs K C :=
  ⟨⟨ne, ob⟩, by
    have h1' : (PySem.W.clsIn K C).isSome = true := h1
    rw [h1', h2]
    rfl, ha, hn, htk, hm⟩
theorem GIs.ty {H : Hp} {a dx : Addr} {fs : List (Str × V)} (i : GIs K C) (c : Cls K C) (e : H a = some (.ins C dx fs)) : TyX K H (.ref a) (.ref C) := .base (.ins e c i.ha i.hn i.htk i.hm)
theorem kit_self : PySem.W.kitOne K (.ref C) (.ref C) = some true := by
  unfold PySem.W.kitOne
  rw [if_pos (beq_self_eq_true _)]
theorem GIs.kit (i : GIs K C) (k : Kd) : PySem.W.kitOne K (.type k.nm) (.ref C) = some false := by
  unfold PySem.W.kitOne
  rw [if_neg (by intro z; cases beq_iff_eq.mp z)]
  show (if _ then _ else _) = _
  rw [if_pos i.is]
  cases k <;> rfl
theorem nf_kd (k : Kd) : PySem.W.notFirst K C (.type k.nm) = true := by cases k <;> rfl
theorem nf_self : PySem.W.notFirst K C (.ref C) = true := by
  unfold PySem.W.notFirst
  rw [beq_self_eq_true]
  rfl
theorem Of.got {p : Addr} {H H' : Hp} {x : V} {k : Kd} (h : Of K H x k) (g : Got p H H') (d : Die H p) : Of K H' x k := by
  obtain ⟨_, _, _, _, e0⟩ := d
  obtain ⟨_, _, _, _, e1⟩ := g.die
  have kp : ∀ {a : Addr} {o : HO}, H a = some o → (∀ l, o ≠ .lst l) → H' a = some o := fun {a o} e n => g.keep _ _ e (ne_of e e0 (by intro z; exact n _ z))
  unfold Of at h ⊢
  generalize ht : Value.type k.nm = t at h ⊢
  cases h with
  | base b =>
    cases b with
    | non => exact .base .non
    | bl x => exact .base (.bl x)
    | int i => exact .base (.int i)
    | str y => exact .base (.str y)
    | flt y => exact .base (.flt y)
    | @lst a xs e =>
      by_cases ep : a = p
      · subst ep; exact .base (.lst e1)
      · exact .base (.lst (g.keep _ _ e ep))
    | frz e => exact .base (.frz (kp e (fun l z => nomatch z)))
    | tup e => exact .base (.tup (kp e (fun l z => nomatch z)))
    | dK e => exact .base (.dK (kp e (fun l z => nomatch z)))
    | dT e => exact .base (.dT (kp e (fun l z => nomatch z)))
    | ins e a b c d e2 => exact .base (.ins (kp e (fun l z => nomatch z)) a b c d e2)
  | byt b => exact .byt b
  | set e => exact .set (kp e (fun l z => nomatch z))
  | kList e c => exact .kList e c
  | kTuple e c => exact .kTuple e c
  | kDict e c => exact .kDict e c
  | fTuple e => exact .fTuple (kp e (fun l z => nomatch z))
  | fDict e => exact .fDict (kp e (fun l z => nomatch z))
/-- the tuples of units have no dict -/
def UTy (K : PySem.W.Frag) (U : Bool → Addr) : Prop := ∀ t, ∃ o, K.lookup (U t) = some o ∧ o.cls = .type "tuple" ∧ o.dict = none
/-! ### promises -/
/-- y as the other side of a grid t: r tells whether it is a grid of that name -/
def GOpd (K : PySem.W.Frag) (C : Addr) (U : Bool → Addr) (H : Hp) (t : Bool) (y : V) (r : Bool) : Prop := (∃ b t', y = .ref b ∧ GridAt C U H b t' ∧ r = (t == t')) ∨ ∃ k : Kd, Of K H y k ∧ r = false
theorem GOpd.ty {H : Hp} {t r : Bool} {y : V} (i : GIs K C) (c : Cls K C) (h : GOpd K C U H t y r) : ∃ T, TyX K H y T ∧ PySem.W.notFirst K C T = true := by
  rcases h with ⟨b, t', rfl, ⟨dx, e⟩, _⟩ | ⟨k, o, _⟩
  · exact ⟨_, i.ty c e, nf_self⟩
  · exact ⟨_, o, nf_kd k⟩
def spGEq (K : PySem.W.Frag) (C : Addr) (U : Bool → Addr) : Sp := fun vs H Q _ => ∃ g t y r, vs = [.ref g, y] ∧ GridAt C U H g t ∧ GOpd K C U H t y r ∧ Q (.bl r) H
def spGIter (C : Addr) (U : Bool → Addr) : Sp := fun vs H Q _ => ∃ g t, vs = [.ref g] ∧ GridAt C U H g t ∧ ∀ it, H it = none → Q (.ref it) (upd H it (ItT (U t) it 0))
def spGStr (C : Addr) (U : Bool → Addr) : Sp := fun vs H Q _ => ∃ g t, vs = [.ref g] ∧ GridAt C U H g t ∧ Q (.str (nm t)) H
def spGDir (K : PySem.W.Frag) (C : Addr) (U : Bool → Addr) : Sp := fun vs H Q _ => ∃ g t a u, vs = [.ref g, .ref a] ∧ GridAt C U H g t ∧ PAt K H a u ∧ ptOk u ∧ Q (dirV t u) H
end GL
namespace K03
open PySem PySem.Spec PyProof.Rows L2 GL SkE
def topS (i : Nat) : Stmt := PySem.Challenge.pw_grownlines_k03_grids_told.main.body.getD i (.Pass ⟨0, 0, 0, 0⟩)
abbrev s_is_integer : Stmt := topS 5
abbrev N_is_integer : List Str := ["value"]
theorem sc_is_integer : FnScope N_is_integer ["value"] (defScope s_is_integer) := ⟨rfl, rfl, rfl, by decide +kernel, rfl, by decide +kernel, by decide +kernel⟩
abbrev s_is_point : Stmt := topS 6
abbrev N_is_point : List Str := ["value"]
theorem sc_is_point : FnScope N_is_point ["value"] (defScope s_is_point) := ⟨rfl, rfl, rfl, by decide +kernel, rfl, by decide +kernel, by decide +kernel⟩
abbrev s__check_point : Stmt := topS 15
abbrev N__check_point : List Str := ["point"]
theorem sc__check_point : FnScope N__check_point ["point"] (defScope s__check_point) := ⟨rfl, rfl, rfl, by decide +kernel, rfl, by decide +kernel, by decide +kernel⟩
abbrev s__check_number : Stmt := topS 16
abbrev N__check_number : List Str := ["number"]
theorem sc__check_number : FnScope N__check_number ["number"] (defScope s__check_number) := ⟨rfl, rfl, rfl, by decide +kernel, rfl, by decide +kernel, by decide +kernel⟩
abbrev s_Grid_WinitW : Stmt := inClass (topS 17) 0
abbrev N_Grid_WinitW : List Str := ["self", "name"]
theorem sc_Grid_WinitW : FnScope N_Grid_WinitW ["self", "name"] (defScope s_Grid_WinitW) := ⟨rfl, rfl, rfl, by decide +kernel, rfl, by decide +kernel, by decide +kernel⟩
abbrev s_Grid_unit : Stmt := inClass (topS 17) 1
abbrev N_Grid_unit : List Str := ["self", "direction"]
theorem sc_Grid_unit : FnScope N_Grid_unit ["self", "direction"] (defScope s_Grid_unit) := ⟨rfl, rfl, rfl, by decide +kernel, rfl, by decide +kernel, by decide +kernel⟩
abbrev s_Grid_direction_of : Stmt := inClass (topS 17) 2
abbrev N_Grid_direction_of : List Str := ["self", "point"]
theorem sc_Grid_direction_of : FnScope N_Grid_direction_of ["self", "point"] (defScope s_Grid_direction_of) := ⟨rfl, rfl, rfl, by decide +kernel, rfl, by decide +kernel, by decide +kernel⟩
abbrev s_Grid_WlenW : Stmt := inClass (topS 17) 9
abbrev N_Grid_WlenW : List Str := ["self"]
theorem sc_Grid_WlenW : FnScope N_Grid_WlenW ["self"] (defScope s_Grid_WlenW) := ⟨rfl, rfl, rfl, by decide +kernel, rfl, by decide +kernel, by decide +kernel⟩
abbrev s_Grid_WiterW : Stmt := inClass (topS 17) 10
abbrev N_Grid_WiterW : List Str := ["self"]
theorem sc_Grid_WiterW : FnScope N_Grid_WiterW ["self"] (defScope s_Grid_WiterW) := ⟨rfl, rfl, rfl, by decide +kernel, rfl, by decide +kernel, by decide +kernel⟩
abbrev s_Grid_WeqW : Stmt := inClass (topS 17) 11
abbrev N_Grid_WeqW : List Str := ["self", "other"]
theorem sc_Grid_WeqW : FnScope N_Grid_WeqW ["self", "other"] (defScope s_Grid_WeqW) := ⟨rfl, rfl, rfl, by decide +kernel, rfl, by decide +kernel, by decide +kernel⟩
abbrev s_Grid_WstrW : Stmt := inClass (topS 17) 12
abbrev N_Grid_WstrW : List Str := ["self"]
theorem sc_Grid_WstrW : FnScope N_Grid_WstrW ["self"] (defScope s_Grid_WstrW) := ⟨rfl, rfl, rfl, by decide +kernel, rfl, by decide +kernel, by decide +kernel⟩
abbrev s__law_dice : Stmt := topS 19
abbrev N__law_dice : List Str := ["_law_script", "_law_spot", "_law_cell", "_law_left"]
theorem sc__law_dice : FnScope N__law_dice ["_law_script", "_law_spot"] (defScope s__law_dice) := ⟨rfl, rfl, rfl, by decide +kernel, rfl, by decide +kernel, by decide +kernel⟩
abbrev s__law_roll : Stmt := topS 20
abbrev N__law_roll : List Str := ["_law_dice_here", "_law_total", "_law_found", "_law_one", "_law_two"]
theorem sc__law_roll : FnScope N__law_roll ["_law_dice_here", "_law_total"] (defScope s__law_roll) := ⟨rfl, rfl, rfl, by decide +kernel, rfl, by decide +kernel, by decide +kernel⟩
abbrev s__law_pick : Stmt := topS 21
abbrev N__law_pick : List Str := ["_law_dice_here", "_law_items"]
theorem sc__law_pick : FnScope N__law_pick ["_law_dice_here", "_law_items"] (defScope s__law_pick) := ⟨rfl, rfl, rfl, by decide +kernel, rfl, by decide +kernel, by decide +kernel⟩
abbrev s__law_around : Stmt := topS 22
abbrev N__law_around : List Str := ["_law_plain"]
theorem sc__law_around : FnScope N__law_around ["_law_plain"] (defScope s__law_around) := ⟨rfl, rfl, rfl, by decide +kernel, rfl, by decide +kernel, by decide +kernel⟩
abbrev s__law_unit : Stmt := topS 23
abbrev N__law_unit : List Str := ["_law_plain", "_law_direction"]
theorem sc__law_unit : FnScope N__law_unit ["_law_plain", "_law_direction"] (defScope s__law_unit) := ⟨rfl, rfl, rfl, by decide +kernel, rfl, by decide +kernel, by decide +kernel⟩
abbrev s__law_limit : Stmt := topS 24
abbrev N__law_limit : List Str := []
theorem sc__law_limit : FnScope N__law_limit [] (defScope s__law_limit) := ⟨rfl, rfl, rfl, by decide +kernel, rfl, by decide +kernel, by decide +kernel⟩
abbrev s__law_part : Stmt := topS 25
abbrev N__law_part : List Str := ["_law_dice_here", "_law_great", "_law_some", "_law_part_here"]
theorem sc__law_part : FnScope N__law_part ["_law_dice_here"] (defScope s__law_part) := ⟨rfl, rfl, rfl, by decide +kernel, rfl, by decide +kernel, by decide +kernel⟩
abbrev s__law_place : Stmt := topS 26
abbrev N__law_place : List Str := ["_law_dice_here"]
theorem sc__law_place : FnScope N__law_place ["_law_dice_here"] (defScope s__law_place) := ⟨rfl, rfl, rfl, by decide +kernel, rfl, by decide +kernel, by decide +kernel⟩
abbrev s__law_right : Stmt := topS 27
abbrev N__law_right : List Str := ["_law_dice_here", "_law_plain", "_law_grid", "_law_around_here", "_law_direction", "_law_units", "_law_told", "_law_turn", "_law_place_here", "_law_odd"]
theorem sc__law_right : FnScope N__law_right ["_law_dice_here", "_law_plain"] (defScope s__law_right) := ⟨rfl, rfl, rfl, by decide +kernel, rfl, by decide +kernel, by decide +kernel⟩
abbrev s_law : Stmt := topS 28
abbrev N_law : List Str := ["_law_script", "_law_spot", "_law_dice_here", "_law_name", "_law_one", "_law_other"]
theorem sc_law : FnScope N_law ["_law_script"] (defScope s_law) := ⟨rfl, rfl, rfl, by decide +kernel, rfl, by decide +kernel, by decide +kernel⟩
structure Txt (K : PySem.W.Frag) (mg : Str → Option Value) (aG dU : Addr) (C : Addr) : Prop where
  zisinstance : mg "isinstance" = none
  zbool : mg "bool" = none
  zint : mg "int" = none
  ztuple : mg "tuple" = none
  zlen : mg "len" = none
  zmax : mg "max" = none
  zmin : mg "min" = none
  zabs : mg "abs" = none
  zrange : mg "range" = none
  zrepr : mg "repr" = none
  zlist : mg "list" = none
  zstr : mg "str" = none
  ziter : mg "iter" = none
  g_BOUND : MgV mg "_BOUND" (.int B)
  gGRIDS : MgV mg "GRIDS" (.ref aG)
  g_UNITS : MgV mg "_UNITS" (.ref dU)
  gGrid : MgV mg "Grid" (.ref C)
section
variable {P : Program} {w : World} {K : PySem.W.Frag} {mg : Str → Option Value} {base : Heap}
variable {aG dU C : Addr} {U : Bool → Addr} {us : Bool → List Addr}
theorem h_init (T : Txt K mg aG dU C) (hU : Uni K w aG dU U us) (c : GCls K C) (D : Dc K C "Grid.__init__" s_Grid_WinitW) (m : mg "Grid" = some (.ref C)) : HasC P w K mg base "Grid" C 1 ["self", "name"] (spInit C U) := by
  refine D.has m sc_Grid_WinitW (fun vs H Q E h => ?_) (fun kV doc pm an cdv ct us hl => match us, hl with | [_, _], _ => rfl) (fun f cdv A outer s H vs Q E hr h => ?_)
  · obtain ⟨p, dx, t, rfl, _⟩ := h
    rfl
  · obtain ⟨p, dx, t, rfl, hp, k⟩ := h
    refine ⟨_, (pss_cons
 (ps_if (pt_cmpR op_notIn_seq (pv 1) (pe_globV T.gGRIDS) (by rfl)) (pss_one
 ps_never) pss_nil)
 (pss_cons
 (ps_fld (pv 0) (pv 1) rfl)
 (pss_cons
 (ps_fld (pv 0) (pe_ix ix_kdict (pe_globV T.g_UNITS) (pv 1) (fun _ _ => rfl)) rfl)
 (pss_cons
 (ps_fld (pv 0) (pe_op op_fdiv (pe_callB call_len_seq (by exact rfl) T.zlen PySem.boot_len (pa_cons (pe_ix ix_kdict (pe_globV T.g_UNITS) (pv 1) (fun _ _ => rfl)) pa_nil)) pe_int) rfl)
 (pss_one
 (ps_fld (pv 0) (pe_ifExp (pt_cmpR op_eq (pv 1) pe_str (nomark _)) pe_int pe_int) rfl)))))), ?_⟩
    refine ⟨_, rfl, aG, _, rfl, .inr (hU.grids H), rfl, rfl, _, rfl, ?_⟩
    rw [show (!inV (V.str (nm t)) [.str "square", .str "triangle"]) = false by cases t <;> rfl]
    refine iteF ⟨_, rfl, _, rfl, _, _, _, _, rfl, hp, c.cls, c.name, by show 0 < 1000; decide, ?_⟩
    refine ⟨_, rfl, dU, _, _, rfl, rfl, hU.key t, _, rfl, _, _, _, _, rfl, upd_same, c.cls, c.units, by show 1 < 1000; decide, ?_⟩
    refine ⟨_, rfl, dU, _, _, rfl, rfl, hU.key t, U t, _, rfl, .inr (hU.tup t _), _, _, rfl, rfl, ⟨by decide, by decide⟩, _, rfl, _, _, _, _, rfl, upd_same, c.cls, c.half, Nat.lt_of_le_of_lt (small_put (n := 1) (small_put (n := 0) (Nat.le_refl 0))) (by decide), ?_⟩
    rw [List.length_map, hU.len t]
    refine ⟨_, rfl, rfl, _, rfl, ?_⟩
    rw [show decide (V.str (nm t) = V.str "triangle") = t from by cases t <;> decide +kernel]
    have fin : ∀ v, v = V.int (sl t) → (∃ y, (L2.start N_Grid_WinitW [V.ref p, V.str (nm t)])[0]? = some (some y) ∧ ∃ a C' dx' fs, y = V.ref a ∧ (upd (upd (upd H p (.ins C dx (putF "name" (V.str (nm t)) []))) p (.ins C dx (putF "units" (V.ref (U t)) (putF "name" (V.str (nm t)) [])))) p (.ins C dx (putF "half" (V.int ((num t : Int) / 2)) (putF "units" (V.ref (U t)) (putF "name" (V.str (nm t)) []))))) a = some (.ins C' dx' fs) ∧ Cls K C' ∧ NoAttr K C' "slant" ∧ fs.length < 1000 ∧ Q .non (upd (upd (upd (upd H p (.ins C dx (putF "name" (V.str (nm t)) []))) p (.ins C dx (putF "units" (V.ref (U t)) (putF "name" (V.str (nm t)) [])))) p (.ins C dx (putF "half" (V.int ((num t : Int) / 2)) (putF "units" (V.ref (U t)) (putF "name" (V.str (nm t)) []))))) a (.ins C' dx' (putF "slant" v fs)))) := by
      rintro _ rfl
      refine ⟨_, rfl, _, _, _, _, rfl, upd_same, c.cls, c.slant, Nat.lt_of_le_of_lt (small_put (n := 2) (small_put (n := 1) (small_put (n := 0) (Nat.le_refl 0)))) (by decide), k _ (fun b hb => by rw [upd_ne hb, upd_ne hb, upd_ne hb, upd_ne hb]) ?_⟩
      rw [upd_same]
      rw [show putF "name" (V.str (nm t)) [] = [(("name" : Str), V.str (nm t))] from rfl, put2 (by decide), put3 (by decide) (by decide), put4 (by decide) (by decide) (by decide)]
      rfl
    cases t with
    | false => exact iteF (fin _ rfl)
    | true => exact iteT (fin _ rfl)

theorem h_is_integer (T : Txt K mg aG dU C) (D : Df K mg "is_integer" s_is_integer) : Has P w K mg base CX0 "is_integer" 1 ["value"] (spIsInt K) := by
  refine D.has sc_is_integer (fun vs H Q E h => ?_) (fun kV doc pm an cdv ct us hl => match us, hl with | [_], _ => rfl) (fun f cdv A outer s H vs Q E gd hr h => ?_)
  · obtain ⟨x, k, rfl, _⟩ := h
    rfl
  · obtain ⟨x, k, rfl, hk, q⟩ := h
    refine ⟨_, (pss_cons
 (ps_if (PW.pt (pw_or (pt_val (pe_callB call_isi (by exact rfl) T.zisinstance (by decide +kernel) (pa_cons (pv 0) (pa_cons (pe_bltn (v := .ty "bool") (by exact rfl) T.zbool (by decide +kernel) rfl) pa_nil)))) (pw_or1 (pt_not (pt_val (pe_callB call_isi (by exact rfl) T.zisinstance (by decide +kernel) (pa_cons (pv 0) (pa_cons (pe_bltn (v := .ty "int") (by exact rfl) T.zint (by decide +kernel) rfl) pa_nil)))))))) (pss_one
 (ps_ret pe_bl)) pss_nil)
 (pss_one
 (ps_ret (pe_chain op_lt op_lt (pe_un un_neg (pe_globV T.g_BOUND)) (pv 0) (pe_globV T.g_BOUND))))), ?_⟩
    refine ⟨_, rfl, _, _, _, _, _, rfl, .ty _, hk, kit_bool _, _, rfl, ?_⟩
    cases k with
    | bl =>
      obtain ⟨b, rfl⟩ := hk.blI
      exact iteT (iteT q)
    | int =>
      obtain ⟨i, rfl⟩ := hk.intI
      refine iteF ⟨_, rfl, _, _, _, _, _, rfl, .ty _, hk, kit_int _, _, rfl, iteF ⟨_, rfl, _, rfl, _, _, rfl, rfl, _, rfl, ?_⟩⟩
      by_cases h1 : -B < i
      · have e : isIntV (.int i) = decide (i < B) := by show (decide (-B < i) && decide (i < B)) = _; rw [decide_eq_true h1, Bool.true_and]
        rw [e] at q
        rw [decide_eq_true h1]
        exact iteT ⟨_, _, rfl, rfl, q⟩
      · have e : isIntV (.int i) = false := by show (decide (-B < i) && decide (i < B)) = _; rw [decide_eq_false h1, Bool.false_and]
        rw [e] at q
        rw [decide_eq_false h1]
        exact iteF q
    | _ =>
      have e : isIntV x = false := by
        cases x with
        | int i => exact absurd hk.notInt (by intro z; cases z)
        | _ => rfl
      rw [e] at q
      exact iteF ⟨_, rfl, _, _, _, _, _, rfl, .ty _, hk, kit_int _, _, rfl, iteT q⟩

theorem h_is_point (T : Txt K mg aG dU C) (D : Df K mg "is_point" s_is_point) (his_integer : Has P w K mg base CX0 "is_integer" 1 ["value"] (spIsInt K)) : Has P w K mg base CX0 "is_point" 2 ["value"] (spIsPoint K) := by
  refine D.has sc_is_point (fun vs H Q E h => ?_) (fun kV doc pm an cdv ct us hl => match us, hl with | [_], _ => rfl) (fun f cdv A outer s H vs Q E gd hr h => ?_)
  · obtain ⟨x, r, rfl, _⟩ := h
    rfl
  · obtain ⟨x, r, rfl, ⟨k, hk, c0, c1⟩, q⟩ := h
    refine ⟨_, (pss_cons
 (ps_if (PW.pt (pw_or (pt_not (pt_val (pe_callB call_isi (by exact rfl) T.zisinstance (by decide +kernel) (pa_cons (pv 0) (pa_cons (pe_bltn (v := .ty "tuple") (by exact rfl) T.ztuple (by decide +kernel) rfl) pa_nil))))) (pw_or1 (pt_cmpR op_ne (pe_callB call_len_seq (by exact rfl) T.zlen PySem.boot_len (pa_cons (pv 0) pa_nil)) pe_int (nomark _))))) (pss_one
 (ps_ret pe_bl)) pss_nil)
 (pss_one
 (ps_ret (pe_and (pe_callH his_integer gd (hr.mono (by decide)) pass0 (pa_cons (pe_ix ix_tup (pv 0) pe_int (fun _ _ => rfl)) pa_nil)) (pe_one (pe_callH his_integer gd (hr.mono (by decide)) pass0 (pa_cons (pe_ix ix_tup (pv 0) pe_int (fun _ _ => rfl)) pa_nil))))))), ?_⟩
    refine ⟨_, rfl, _, _, _, _, _, rfl, .ty _, hk, kit_tup _, _, rfl, ?_⟩
    cases e : k.isT with
    | false =>
      rw [c0 e] at q
      exact iteT (iteT q)
    | true =>
      obtain ⟨a, xs, rfl, hx, lx, n2, y2⟩ := c1 e
      refine iteF ⟨_, rfl, a, xs, rfl, .inr hx, rfl, _, rfl, ?_⟩
      by_cases h2 : xs.length = 2
      · obtain ⟨u, v, ku, kv, rfl, hu, hv, er⟩ := y2 h2
        refine iteF ⟨_, rfl, a, _, _, u, rfl, rfl, hx, atI_nat (j := 0) rfl, _, _, rfl, hu, _, rfl, ?_⟩
        rw [er] at q
        cases hu1 : isIntV u with
        | true =>
          rw [hu1, Bool.true_and] at q
          exact iteT ⟨_, rfl, a, _, _, v, rfl, rfl, hx, atI_nat (j := 1) rfl, _, _, rfl, hv, q⟩
        | false =>
          rw [hu1, Bool.false_and] at q
          exact iteF q
      · rw [n2 h2] at q
        have : (!decide (V.int xs.length = V.int 2)) = true := by rw [decide_eq_false (fun z => h2 (by injection z with z; omega))]; rfl
        show if (!decide (V.int xs.length = V.int 2)) = true then _ else _
        rw [this]
        exact iteT q

theorem pt_of {H : Hp} {a : Addr} {u : Int × Int} (h : PAt K H a u) (o : ptOk u) : PtV K H (.ref a) true :=
  ⟨.tup, SqT.tup' h, (fun z => nomatch z), fun _ => ⟨a, _, rfl, h, by show 2 ≤ 1000; decide, fun z => absurd rfl z, fun _ => ⟨_, _, _, _, rfl, .int, .int, by rw [o.1, o.2]; rfl⟩⟩⟩

theorem h_check_point (D : Df K mg "_check_point" s__check_point) (his_point : Has P w K mg base CX0 "is_point" 2 ["value"] (spIsPoint K)) : Has P w K mg base CX0 "_check_point" 3 ["point"] (spCheckP K) := by
  refine D.has sc__check_point (fun vs H Q E h => ?_) (fun kV doc pm an cdv ct us hl => match us, hl with | [_], _ => rfl) (fun f cdv A outer s H vs Q E gd hr h => ?_)
  · obtain ⟨a, u, rfl, _⟩ := h
    rfl
  · obtain ⟨a, u, rfl, pu, o, k⟩ := h
    refine ⟨_, (pss_one
 (ps_if (pt_not (pt_val (pe_callH his_point gd (hr.mono (by decide)) pass0 (pa_cons (pv 0) pa_nil)))) (pss_one
 ps_never) pss_nil)), ?_⟩
    exact ⟨_, rfl, _, _, rfl, pt_of pu o, _, rfl, iteF k⟩

theorem h_check_number (D : Df K mg "_check_number" s__check_number) (his_integer : Has P w K mg base CX0 "is_integer" 1 ["value"] (spIsInt K)) : Has P w K mg base CX0 "_check_number" 2 ["number"] spCheckN := by
  refine D.has sc__check_number (fun vs H Q E h => ?_) (fun kV doc pm an cdv ct us hl => match us, hl with | [_], _ => rfl) (fun f cdv A outer s H vs Q E gd hr h => ?_)
  · obtain ⟨n, rfl, _⟩ := h
    rfl
  · obtain ⟨n, rfl, o, k⟩ := h
    refine ⟨_, (pss_one
 (ps_if (pt_not (pt_val (pe_callH his_integer gd (hr.mono (by decide)) pass0 (pa_cons (pv 0) pa_nil)))) (pss_one
 ps_never) pss_nil)), ?_⟩
    refine ⟨_, rfl, _, _, rfl, .int, _, rfl, ?_⟩
    rw [o]
    exact iteF k

theorem unit_at (hU : Uni K w aG dU U us) {t : Bool} (n : Int) : ∃ i : Addr, (∀ H, PAt K H i (uni t n)) ∧ atI ((us t).map V.ref) (n % (num t : Int)) = some (.ref i) := by
  have h1 := Int.emod_nonneg n (Int.ne_of_gt (num_pos (t := t)))
  have h2 := Int.emod_lt_of_pos n (num_pos (t := t))
  obtain ⟨j, hj⟩ : ∃ j : Nat, n % (num t : Int) = (j : Int) := ⟨(n % (num t : Int)).toNat, by omega⟩
  have e := uni_at (t := t) n
  rw [hj] at e ⊢
  have l : j < (us t).length := by rw [hU.len]; omega
  refine ⟨(us t)[j], hU.pt t j _ _ (List.getElem?_eq_getElem l) e, atI_nat ?_⟩
  rw [List.getElem?_map, List.getElem?_eq_getElem l]
  rfl

theorem h_unit (c : GCls K C) (hU : Uni K w aG dU U us) (T : Txt K mg aG dU C) (D : Dm K C "unit" "Grid.unit" s_Grid_unit) (h_check_number : Has P w K mg base CX0 "_check_number" 2 ["number"] spCheckN) : HasM P w K mg base CX0 C "unit" 3 ["self", "direction"] (spMUnit K C U) := by
  refine D.has sc_Grid_unit (fun vs H Q E h => ?_) (fun kV doc pm an cdv ct us hl => match us, hl with | [_, _], _ => rfl) (fun f cdv A outer s H vs Q E gd hr h => ?_)
  · obtain ⟨g, t, n, rfl, _⟩ := h
    rfl
  · obtain ⟨g, t, n, rfl, ⟨dx, eg⟩, o, k⟩ := h
    refine ⟨_, (pss_cons
 (ps_expr (pe_callH h_check_number gd (hr.mono (by decide)) pass0 (pa_cons (pv 1) pa_nil)))
 (pss_one
 (ps_ret (pe_ix ix_tup (pe_fld (pv 0) rfl) (pe_op op_mod (pv 1) (pe_callB call_len_seq (by exact rfl) T.zlen PySem.boot_len (pa_cons (pe_fld (pv 0) rfl) pa_nil))) (fun _ _ => rfl))))), ?_⟩
    refine ⟨_, rfl, _, rfl, o, ?_⟩
    refine ⟨_, rfl, _, _, _, _, _, rfl, eg, c.cls, c.units, gF_units, _, rfl, _, rfl, _, _, _, _, _, rfl, eg, c.cls, c.units, gF_units, U t, _, rfl, .inr (hU.tup t _), _, _, rfl, rfl, ?_, ?_⟩
    · rw [List.length_map, hU.len t]; exact num_pos
    rw [List.length_map, hU.len t]
    obtain ⟨i, hi, e1⟩ := unit_at (t := t) hU n
    exact ⟨_, _, _, _, rfl, rfl, hU.tup t _, e1, k i hi⟩

theorem h_len (c : GCls K C) (hU : Uni K w aG dU U us) (T : Txt K mg aG dU C) (D : Dm K C "__len__" "Grid.__len__" s_Grid_WlenW) : HasM P w K mg base CX0 C "__len__" 1 ["self"] (spMLen C U) := by
  refine D.has sc_Grid_WlenW (fun vs H Q E h => ?_) (fun kV doc pm an cdv ct us hl => match us, hl with | [_], _ => rfl) (fun f cdv A outer s H vs Q E gd hr h => ?_)
  · obtain ⟨g, t, rfl, _⟩ := h
    rfl
  · obtain ⟨g, t, rfl, ⟨dx, eg⟩, k⟩ := h
    refine ⟨_, (pss_one
 (ps_ret (pe_callB call_len_seq (by exact rfl) T.zlen PySem.boot_len (pa_cons (pe_fld (pv 0) rfl) pa_nil)))), ?_⟩
    refine ⟨_, rfl, _, _, _, _, _, rfl, eg, c.cls, c.units, gF_units, U t, _, rfl, .inr (hU.tup t _), ?_⟩
    rw [List.length_map, hU.len t]
    exact k

theorem h_iter (c : GCls K C) (hU : Uni K w aG dU U us) (T : Txt K mg aG dU C) (D : Dm K C "__iter__" "Grid.__iter__" s_Grid_WiterW) : HasM P w K mg base CX0 C "__iter__" 1 ["self"] (spGIter C U) := by
  refine D.has sc_Grid_WiterW (fun vs H Q E h => ?_) (fun kV doc pm an cdv ct us hl => match us, hl with | [_], _ => rfl) (fun f cdv A outer s H vs Q E gd hr h => ?_)
  · obtain ⟨g, t, rfl, _⟩ := h
    rfl
  · obtain ⟨g, t, rfl, ⟨dx, eg⟩, k⟩ := h
    refine ⟨_, (pss_one
 (ps_ret (pe_callB call_iterT (by exact rfl) T.ziter (by decide +kernel) (pa_cons (pe_fld (pv 0) rfl) pa_nil)))), ?_⟩
    exact ⟨_, rfl, _, _, _, _, _, rfl, eg, c.cls, c.units, gF_units, U t, _, rfl, hU.tup t _, k⟩
theorem h_str (c : GCls K C) (T : Txt K mg aG dU C) (D : Dm K C "__str__" "Grid.__str__" s_Grid_WstrW) : HasM P w K mg base CX0 C "__str__" 1 ["self"] (spGStr C U) := by
  refine D.has sc_Grid_WstrW (fun vs H Q E h => ?_) (fun kV doc pm an cdv ct us hl => match us, hl with | [_], _ => rfl) (fun f cdv A outer s H vs Q E gd hr h => ?_)
  · obtain ⟨g, t, rfl, _⟩ := h
    rfl
  · obtain ⟨g, t, rfl, ⟨dx, eg⟩, k⟩ := h
    refine ⟨_, (pss_one
 (ps_ret (pe_callTy call_str_str (by exact rfl) T.zstr (by decide +kernel) (pa_cons (pe_fld (pv 0) rfl) pa_nil)))), ?_⟩
    exact ⟨_, rfl, _, _, _, _, _, rfl, eg, c.cls, c.name, gF_name, _, rfl, k⟩
theorem h_eq (c : GCls K C) (i : GIs K C) (T : Txt K mg aG dU C) (D : Dm K C "__eq__" "Grid.__eq__" s_Grid_WeqW) : HasM P w K mg base CX0 C "__eq__" 1 ["self", "other"] (spGEq K C U) := by
  refine D.has sc_Grid_WeqW (fun vs H Q E h => ?_) (fun kV doc pm an cdv ct us hl => match us, hl with | [_, _], _ => rfl) (fun f cdv A outer s H vs Q E gd hr h => ?_)
  · obtain ⟨g, t, y, r, rfl, _⟩ := h
    rfl
  · obtain ⟨g, t, y, r, rfl, ⟨dx, eg⟩, o, k⟩ := h
    refine ⟨_, (pss_one
 (ps_ret (pe_and (pe_callB call_isi (by exact rfl) T.zisinstance (by decide +kernel) (pa_cons (pv 1) (pa_cons (pe_globV T.gGrid) pa_nil))) (pe_one (pe_cmpR op_eq (pe_fld (pv 0) rfl) (pe_fld (pv 1) rfl) (nomark _)))))), ?_⟩
    rcases o with ⟨b, t', rfl, ⟨dy, eb⟩, rfl⟩ | ⟨kd, o, rfl⟩
    · refine ⟨_, rfl, _, _, _, _, _, rfl, .own _, i.ty c.cls eb, kit_self, _, rfl, iteT ?_⟩
      refine ⟨_, rfl, _, _, _, _, _, rfl, eg, c.cls, c.name, gF_name, _, rfl, _, _, _, _, _, rfl, eb, c.cls, c.name, gF_name, rfl, ?_⟩
      rw [show decide (V.str (nm t) = V.str (nm t')) = (t == t') by cases t <;> cases t' <;> decide +kernel]
      exact k
    · exact ⟨_, rfl, _, _, _, _, _, rfl, .own _, o, i.kit kd, _, rfl, iteF k⟩
theorem h_dir (c : GCls K C) (uT : UTy K U) (hU : Uni K w aG dU U us) (D : Dm K C "direction_of" "Grid.direction_of" s_Grid_direction_of) (h_check_point : Has P w K mg base CX0 "_check_point" 3 ["point"] (spCheckP K)) : HasM P w K mg base CX0 C "direction_of" 4 ["self", "point"] (spGDir K C U) := by
  refine D.has sc_Grid_direction_of (fun vs H Q E h => ?_) (fun kV doc pm an cdv ct us hl => match us, hl with | [_, _], _ => rfl) (fun f cdv A outer s H vs Q E gd hr h => ?_)
  · obtain ⟨g, t, a, u, rfl, _⟩ := h
    rfl
  · obtain ⟨g, t, a, u, rfl, ⟨dx, eg⟩, pu, o, k⟩ := h
    have hu65 := by have := hr.un; exact (show (A.deeper (envOfC "Grid.direction_of" (defScope s_Grid_direction_of) s.heap.objs.size f cdv)).units + 65 < cLine by omega)
    have hu66 := by have := hr.un; exact (show (A.deeper (envOfC "Grid.direction_of" (defScope s_Grid_direction_of) s.heap.objs.size f cdv)).units + 66 < cLine by omega)
    refine ⟨_, (pss_cons
 (ps_expr (pe_callH h_check_point gd (hr.mono (by decide)) pass0 (pa_cons (pv 1) pa_nil)))
 (pss_one
 (ps_ret (pe_ifExp (pt_cmpR (op_inT hu66) (pv 1) (pe_fld (pv 0) rfl) (by rfl)) (pe_bm PySem.F.plainAttrs_tuple PySem.F.slot_tuple_index PySem.F.type_tuple_index (mt_indexT hu65) (pe_fld (pv 0) rfl) (pa_cons (pv 1) pa_nil)) pe_non)))), ?_⟩
    have du : Dp K H (.ref (U t)) (.tuple ((ux t).map ptD)) := .tup (hU.tup t H) (hU.pts t H).dp
    refine ⟨_, rfl, _, u, rfl, pu, o, _, rfl, _, rfl, _, _, _, _, _, rfl, eg, c.cls, c.units, gF_units, _, _, pu.dp, du, ptD_shaped u, ptDt_shaped _, ?_⟩
    rw [dir_in]
    cases e : dirOf t u with
    | none =>
      refine ⟨_, rfl, iteF ?_⟩
      have e2 : dirV t u = .non := by unfold dirV; rw [e]
      rw [e2] at k
      exact k
    | some j =>
      obtain ⟨lt, at_, no⟩ := dir_at e
      have e2 : dirV t u = .int (j : Nat) := by unfold dirV; rw [e]
      rw [e2] at k
      refine ⟨_, rfl, iteT ⟨_, rfl, _, _, _, _, _, rfl, eg, c.cls, c.units, gF_units, ?_, _, rfl, ?_⟩⟩
      · exact .inr (.inl ⟨rfl, uT t⟩)
      exact ⟨_, _, _, _, _, _, rfl, rfl, du, pu.dp, ptDt_shaped _, ptD_shaped u, at_, by rw [ptD_eqv]; exact decide_eq_true rfl, no, k⟩
theorem h_law_roll (T : Txt K mg aG dU C) (D : Df K mg "_law_roll" s__law_roll) : Has P w K mg base CX0 "_law_roll" 1 ["_law_dice_here", "_law_total"] spRoll := by
  refine D.has sc__law_roll (fun vs H Q E h => ?_) (fun kV doc pm an cdv ct us hl => match us, hl with | [_, _], _ => rfl) (fun f cdv A outer s H vs Q E gd hr h => ?_)
  · obtain ⟨p, t, rfl, _⟩ := h
    rfl
  · obtain ⟨p, t, rfl, ⟨l, b, c, l0, hp⟩, t0, tl, q⟩ := h
    refine ⟨_, (pss_cons
 (ps_if (pt_cmpR op_gt (pe_ix ix_list (pv 0) pe_int (fun _ _ => rfl)) pe_int (nomark _)) (pss_cons
 (ps_set (i := 2) sc__law_roll.nd rfl (Or.inl rfl) (pe_op op_mod (pe_callTy call_int1 (by exact rfl) T.zint (by decide +kernel) (pa_cons (pe_ix ix_list (pv 0) pe_int (fun _ _ => rfl)) pa_nil)) (pv 1)))
 (pss_cons
 (ps_asg (pe_op op_fdivW (pe_ix ix_list (pv 0) pe_int (fun _ _ => rfl)) (pv 1)) (pg_sub (pv 0) pe_int set_list))
 (pss_one
 (ps_ret (pv 2))))) pss_nil)
 (pss_cons
 (ps_asg (pe_op op_add (pe_ix ix_list (pv 0) pe_int (fun _ _ => rfl)) pe_int) (pg_sub (pv 0) pe_int set_list))
 (pss_cons
 (ps_set (i := 3) sc__law_roll.nd rfl (Or.inl rfl) (pe_op op_mod (pe_callTy call_int1 (by exact rfl) T.zint (by decide +kernel) (pa_cons (pe_op op_add (pe_ix ix_list (pv 0) pe_int (fun _ _ => rfl)) (pe_op op_mul pe_int (pe_ix ix_list (pv 0) pe_int (fun _ _ => rfl)))) pa_nil)) pe_int))
 (pss_cons
 (ps_set (i := 4) sc__law_roll.nd rfl (Or.inl rfl) (pe_op op_add (pe_op op_mul (pe_op op_mod (pe_callTy call_int1 (by exact rfl) T.zint (by decide +kernel) (pa_cons (pe_op op_add (pe_op op_mul (pv 3) (pv 3)) (pe_op op_mul pe_int (pe_ix ix_list (pv 0) pe_int (fun _ _ => rfl)))) pa_nil)) pe_int) pe_int) (pv 3)))
 (pss_one
 (ps_ret (pe_op op_mod (pe_callTy call_int1 (by exact rfl) T.zint (by decide +kernel) (pa_cons (pe_op op_fdiv (pv 4) pe_int) pa_nil)) (pv 1)))))))), ?_⟩
    have hS : ∀ {H : Hp} {xs}, H p = some (.lst xs) → SqL K H p xs := fun h => SqL.of h
    refine ⟨_, rfl, _, _, _, _, rfl, rfl, hS hp, atI_nat (j := 0) rfl, _, _, rfl, rfl, _, rfl, ?_⟩
    refine ite2 (fun c1 => ?_) (fun c1 => ?_)
    · refine ⟨_, rfl, _, _, _, _, rfl, rfl, hS hp, atI_nat (j := 0) rfl, .inl ⟨_, rfl, _, rfl, _, _, rfl, rfl, t0, ?_⟩⟩
      refine ⟨_, rfl, _, _, _, _, rfl, rfl, hS hp, atI_nat (j := 0) rfl, _, rfl, _, _, rfl, rfl, wide_div t0 tl (by decide) (by decide), _, rfl, _, _, _, _, rfl, rfl, hp, rfl, _, rfl, ?_⟩
      exact q _ _ (Int.emod_nonneg _ (Int.ne_of_gt t0)) (Int.emod_lt_of_pos _ t0) (Got.roll (Int.ediv_nonneg l0 (Int.le_of_lt t0)))
    · refine ⟨_, rfl, _, _, _, _, rfl, rfl, hS hp, atI_nat (j := 2) rfl, _, _, rfl, rfl, _, rfl, _, _, _, _, rfl, rfl, hp, rfl, ?_⟩
      have hp2 : (upd H p (.lst [.int l, .int b, .int (c + 1)])) p = some (.lst [.int l, .int b, .int (c + 1)]) := upd_same
      refine ⟨_, rfl, _, _, _, _, rfl, rfl, hS hp2, atI_nat (j := 1) rfl, _, rfl, _, _, _, _, rfl, rfl, hS hp2, atI_nat (j := 2) rfl, _, _, rfl, rfl, .inl ⟨by decide, by decide⟩, _, _, rfl, rfl, .inl ⟨_, rfl, _, _, rfl, rfl, by show (0 : Int) < _; decide, ?_⟩⟩
      generalize hx : (b + 15485863 * (c + 1)) % 2305843009213693693 = x1
      have x0 : 0 ≤ x1 ∧ x1 < 2305843009213693693 := by rw [← hx]; exact ⟨Int.emod_nonneg _ (by decide), Int.emod_lt_of_pos _ (by decide)⟩
      refine ⟨_, rfl, _, rfl, _, _, rfl, rfl, .inl ⟨by omega, by omega⟩, _, rfl, _, _, _, _, rfl, rfl, hS hp2, atI_nat (j := 2) rfl, _, _, rfl, rfl, .inl ⟨by decide, by decide⟩, _, _, rfl, rfl, .inl ⟨_, rfl, _, _, rfl, rfl, by show (0 : Int) < _; decide, _, _, rfl, rfl, .inr ⟨by decide, by decide⟩, _, rfl, _, _, rfl, rfl, ?_⟩⟩
      refine ⟨_, rfl, _, _, rfl, rfl, ⟨by decide, by decide⟩, .inl ⟨_, rfl, _, rfl, _, _, rfl, rfl, t0, ?_⟩⟩
      exact q _ _ (Int.emod_nonneg _ (Int.ne_of_gt t0)) (Int.emod_lt_of_pos _ t0) (Got.roll l0)

theorem h_law_dice (T : Txt K mg aG dU C) (D : Df K mg "_law_dice" s__law_dice) : Has P w K mg base CX0 "_law_dice" 1 ["_law_script", "_law_spot"] (spDice K) := by
  refine D.has sc__law_dice (fun vs H Q E h => ?_) (fun kV doc pm an cdv ct us hl => match us, hl with | [_, _], _ => rfl) (fun f cdv A outer s H vs Q E gd hr h => ?_)
  · obtain ⟨a, ns, spot, rfl, _⟩ := h
    rfl
  · obtain ⟨a, ns, spot, rfl, hS, s0, q⟩ := h
    refine ⟨_, (Evl.pss_cut
 (ps_set (i := 2) sc__law_dice.nd rfl (Or.inl rfl) (pe_ifExp (pt_cmpR op_lt (pv 1) (pe_callB call_len_seq (by exact rfl) T.zlen PySem.boot_len (pa_cons (pv 0) pa_nil)) (nomark _)) (pe_callTy call_int1 (by exact rfl) T.zint (by decide +kernel) (pa_cons (pe_ix ix_list (pv 0) (pv 1) (fun _ _ => rfl)) pa_nil)) (pe_op op_add (pe_op op_mul pe_int (pv 1)) pe_int)))
 (pss_cons
 (ps_set (i := 3) sc__law_dice.nd rfl (Or.inl rfl) (pe_op op_mod (pe_callB (call_max2 rfl) (by exact rfl) T.zmax (by decide +kernel) (pa_cons pe_int (pa_cons (pe_op op_sub (pe_callB call_abs (by exact rfl) T.zabs (by decide +kernel) (pa_cons (pv 2) pa_nil)) (pe_op op_pow pe_int pe_int)) pa_nil))) (pe_op op_mulW (pe_op op_pow pe_int pe_int) (pe_op op_pow pe_int pe_int))))
 (pss_one
 (ps_ret (pe_lst (pa_cons (pv 3) (pa_cons (pe_op op_add (pe_op op_add (pe_op op_add (pe_op op_mul (pe_op op_mod (pe_callB call_abs (by exact rfl) T.zabs (by decide +kernel) (pa_cons (pv 2) pa_nil)) pe_int) pe_int) (pe_op op_mul pe_int (pv 1))) (pe_op op_mul pe_int (pe_callTy call_int1 (by exact rfl) T.zint (by decide +kernel) (pa_cons (pe_cmpR op_lt (pv 2) pe_int (nomark _)) pa_nil)))) pe_int) (pa_cons pe_int pa_nil)))))))), ?_⟩
    refine ⟨fun σ' H' => ∃ cell : Int, σ' = [some (.ref a), some (.int spot), some (.int cell), none] ∧ H' = H, ?_, ?_⟩
    · refine ⟨_, rfl, _, rfl, _, _, rfl, .inl hS, _, _, rfl, rfl, _, rfl, ?_⟩
      refine ite2 (fun c1 => ?_) (fun c1 => ?_)
      · have c1' : spot < ((ns.map V.int).length : Int) := of_decide_eq_true c1
        rw [List.length_map] at c1'
        obtain ⟨n, hn⟩ := at_ints s0 c1'
        exact ⟨_, rfl, _, rfl, _, _, _, _, rfl, rfl, hS, hn, .inl ⟨_, rfl, _, rfl, rfl⟩⟩
      · exact ⟨_, rfl, _, _, rfl, rfl, .inl ⟨by decide, by decide⟩, _, _, rfl, rfl, _, rfl, rfl⟩
    rintro _ _ ⟨cell, rfl, rfl⟩
    refine ⟨_, rfl, _, rfl, _, _, rfl, rfl, ⟨by decide, by decide, by decide⟩, _, _, rfl, rfl, _, _, rfl, _, _, rfl, rfl, ⟨by decide, by decide, by decide⟩, _, _, rfl, rfl, ⟨by decide, by decide, by decide⟩, _, _, rfl, rfl, wide_mul (a := 250) (b := 250) (by decide +kernel) (by decide +kernel) (by decide) (by decide) (by decide), _, _, rfl, rfl, by show (0 : Int) < _; decide +kernel, ?_⟩
    refine ⟨_, rfl, _, rfl, _, rfl, _, _, rfl, rfl, by show (0 : Int) < _; decide, _, _, rfl, rfl, .inr ⟨by decide, by decide⟩, _, rfl, _, _, rfl, rfl, .inl ⟨by decide, by decide⟩, _, _, rfl, rfl, _, rfl, _, _, rfl, rfl, .inr ⟨_, rfl, _, _, rfl, rfl, .inl ⟨by decide, by decide⟩, _, _, rfl, rfl, _, _, rfl, rfl, by show 3 ≤ sizeLine; decide, fun p hp => ?_⟩⟩
    exact q p _ hp (fun b o e => by rw [upd_ne (ne_of_none e hp)]; exact e) ⟨_, _, _, Int.emod_nonneg _ (by decide +kernel), upd_same⟩

theorem h_law_pick (T : Txt K mg aG dU C) (D : Df K mg "_law_pick" s__law_pick) (h_law_roll : Has P w K mg base CX0 "_law_roll" 1 ["_law_dice_here", "_law_total"] spRoll) : Has P w K mg base CX0 "_law_pick" 2 ["_law_dice_here", "_law_items"] spPick := by
  refine D.has sc__law_pick (fun vs H Q E h => ?_) (fun kV doc pm an cdv ct us hl => match us, hl with | [_, _], _ => rfl) (fun f cdv A outer s H vs Q E gd hr h => ?_)
  · obtain ⟨p, q, xs, rfl, _⟩ := h
    rfl
  · obtain ⟨p, q, xs, rfl, hd, hx, ne, l0, l1, k⟩ := h
    refine ⟨_, (pss_one
 (ps_ret (pe_ix ix_seq (pv 1) (pe_callH h_law_roll gd (hr.mono (by decide)) pass0 (pa_cons (pv 0) (pa_cons (pe_callB call_len_seq (by exact rfl) T.zlen PySem.boot_len (pa_cons (pv 1) pa_nil)) pa_nil))) (fun _ _ => rfl)))), ?_⟩
    have hs : SqL K H q xs ∨ SqT K H q xs := hx.imp SqL.of SqT.of
    refine ⟨_, rfl, _, rfl, _, rfl, _, _, rfl, hs, _, _, rfl, hd, (by omega), Nat.lt_of_le_of_lt (show ((xs.length : Int)).natAbs ≤ 1000 by omega) (by decide), fun r H1 r0 r1 g => ?_⟩
    obtain ⟨j, rfl⟩ : ∃ j : Nat, r = (j : Int) := ⟨r.toNat, by omega⟩
    have hj : j < xs.length := by omega
    have hg : xs[j]? = some xs[j] := List.getElem?_eq_getElem hj
    rcases hx with hx | hx
    · exact .inl ⟨q, xs, _, _, rfl, rfl, SqL.of (g.keep _ _ hx ne), atI_nat hg, k _ _ (List.getElem_mem hj) g⟩
    · exact .inr (.inl ⟨q, xs, _, _, rfl, rfl, SqT.of (g.keep _ _ hx ne), atI_nat hg, k _ _ (List.getElem_mem hj) g⟩)

theorem h_law_limit (D : Df K mg "_law_limit" s__law_limit) : Has P w K mg base CX0 "_law_limit" 1 [] spLimit := by
  refine D.has sc__law_limit (fun vs H Q E h => ?_) (fun kV doc pm an cdv ct us hl => match us, hl with | [], _ => rfl) (fun f cdv A outer s H vs Q E gd hr h => ?_)
  · obtain ⟨rfl, _⟩ := h
    rfl
  · obtain ⟨rfl, q⟩ := h
    refine ⟨_, (pss_one
 (ps_ret (pe_op op_powW (pe_op op_pow pe_int pe_int) pe_int))), ?_⟩
    refine ⟨_, _, rfl, rfl, ⟨by decide, by decide, by decide⟩, _, _, rfl, rfl, ⟨by decide, by decide +kernel⟩, ?_⟩
    have e : (((10 : Int) ^ (50 : Int).toNat) ^ (8 : Int).toNat) = B := by rw [B_eq]; decide +kernel
    show Q (.int (((10 : Int) ^ (50 : Int).toNat) ^ (8 : Int).toNat)) H
    rw [e]
    exact q

theorem h_law_part (D : Df K mg "_law_part" s__law_part) (h_law_limit : Has P w K mg base CX0 "_law_limit" 1 [] spLimit) (h_law_roll : Has P w K mg base CX0 "_law_roll" 1 ["_law_dice_here", "_law_total"] spRoll)
    (h_law_pick : Has P w K mg base CX0 "_law_pick" 2 ["_law_dice_here", "_law_items"] spPick) : Has P w K mg base CX0 "_law_part" 3 ["_law_dice_here"] spPart := by
  refine D.has sc__law_part (fun vs H Q E h => ?_) (fun kV doc pm an cdv ct us hl => match us, hl with | [_], _ => rfl) (fun f cdv A outer s H vs Q E gd hr h => ?_)
  · obtain ⟨p, rfl, _⟩ := h
    rfl
  · obtain ⟨p, rfl, hd, k⟩ := h
    refine ⟨_, (pss_cons
 (ps_set (i := 1) sc__law_part.nd rfl (Or.inl rfl) (pe_op op_sub (pe_op op_sub (pe_call0H h_law_limit gd (hr.mono (by decide)) pass0) pe_int) (pe_callH h_law_roll gd (hr.mono (by decide)) pass0 (pa_cons (pv 0) (pa_cons (pe_op op_pow pe_int pe_int) pa_nil)))))
 (pss_cons
 (ps_set (i := 2) sc__law_part.nd rfl (Or.inl rfl) (pe_lst (pa_cons (pe_callH h_law_roll gd (hr.mono (by decide)) pass0 (pa_cons (pv 0) (pa_cons pe_int pa_nil))) (pa_cons (pe_callH h_law_roll gd (hr.mono (by decide)) pass0 (pa_cons (pv 0) (pa_cons pe_int pa_nil))) (pa_cons (pe_callH h_law_roll gd (hr.mono (by decide)) pass0 (pa_cons (pv 0) (pa_cons (pe_op op_pow pe_int pe_int) pa_nil))) (pa_cons (pv 1) pa_nil))))))
 (pss_cons
 (ps_set (i := 3) sc__law_part.nd rfl (Or.inl rfl) (pe_ix ix_list (pv 2) (pe_callH h_law_pick gd (hr.mono (by decide)) pass0 (pa_cons (pv 0) (pa_cons (pe_lst (pa_cons pe_int (pa_cons pe_int (pa_cons pe_int (pa_cons pe_int (pa_cons pe_int (pa_cons pe_int (pa_cons pe_int pa_nil)))))))) pa_nil))) (fun _ _ => rfl)))
 (pss_one
 (ps_ret (pe_ifExp (pt_cmpR op_eq (pe_callH h_law_roll gd (hr.mono (by decide)) pass0 (pa_cons (pv 0) (pa_cons pe_int pa_nil))) pe_int (nomark _)) (pe_op op_sub pe_int (pv 3)) (pv 3))))))), ?_⟩
    refine ⟨rfl, _, _, rfl, rfl, _, rfl, _, _, rfl, rfl, ⟨by decide, by decide, by decide⟩, p, _, rfl, hd, by decide, by decide, fun r1 H1 a1 b1 g1 => ?_⟩
    refine ⟨_, _, rfl, rfl, _, rfl, p, _, rfl, g1.die, by decide, by decide, fun r2 H2 a2 b2 g2 => ?_⟩
    refine ⟨_, rfl, p, _, rfl, g2.die, by decide, by decide, fun r3 H3 a3 b3 g3 => ?_⟩
    refine ⟨_, rfl, _, _, rfl, rfl, ⟨by decide, by decide, by decide⟩, p, _, rfl, g3.die, by decide, by decide, fun r4 H4 a4 b4 g4 => ?_⟩
    refine ⟨_, rfl, by show 4 ≤ sizeLine; decide, fun L hL => ?_⟩
    have g5 := (((g1.trans g2).trans g3).trans g4).trans (Got.new (o := .lst [.int r2, .int r3, .int r4, .int (B - 1 - r1)]) g4.die hL)
    have nL := g5.die
    refine ⟨_, rfl, _, rfl, by show 7 ≤ sizeLine; decide, fun M hM => ?_⟩
    have g6 := g5.trans (Got.new (o := .lst [.int 0, .int 0, .int 0, .int 1, .int 1, .int 2, .int 3]) g5.die hM)
    refine ⟨p, M, _, rfl, g6.die, .inl upd_same, (g5.die.ne hM).symm, by show 0 < 7; decide, by show 7 ≤ 1000; decide, fun v H7 hv g7 => ?_⟩
    have eL : H7 L = some (.lst [.int r2, .int r3, .int r4, .int (B - 1 - r1)]) := g7.keep _ _ (new_keep upd_same hM) (g4.die.ne hL).symm
    obtain ⟨j, n, rfl, hj, hn⟩ : ∃ (j : Nat) (n : Int), v = .int (j : Int) ∧ [V.int r2, V.int r3, V.int r4, V.int (B - 1 - r1)][j]? = some (.int n) ∧ n.natAbs < 10 ^ 400 := by
      have hB := B_eq
      have c3 : (r4.natAbs : Nat) < 10 ^ 400 := Nat.lt_of_lt_of_le (show r4.natAbs < 10 ^ 30 by have : r4 < 10 ^ 30 := b4; omega) (by decide +kernel)
      have c0 : (r2.natAbs : Nat) < 10 ^ 400 := Nat.lt_of_lt_of_le (show r2.natAbs < 9 by omega) (by decide +kernel)
      have c1 : (r3.natAbs : Nat) < 10 ^ 400 := Nat.lt_of_lt_of_le (show r3.natAbs < 200 by omega) (by decide +kernel)
      have c2 : (B - 1 - r1).natAbs < 10 ^ 400 := by
        have u : r1 < 10 ^ 20 := b1
        have e : (10 : Int) ^ 400 = ((10 ^ 400 : Nat) : Int) := by rw [Int.natCast_pow]; rfl
        have big : 10 ^ 21 ≤ (10 ^ 400 : Nat) := Nat.pow_le_pow_right (by decide) (by decide)
        rw [hB, e]
        generalize (10 ^ 400 : Nat) = N at *
        omega
      simp only [List.mem_cons, List.not_mem_nil, or_false] at hv
      rcases hv with h | h | h | h | h | h | h <;> subst h
      · exact ⟨0, _, rfl, rfl, c0⟩
      · exact ⟨0, _, rfl, rfl, c0⟩
      · exact ⟨0, _, rfl, rfl, c0⟩
      · exact ⟨1, _, rfl, rfl, c1⟩
      · exact ⟨1, _, rfl, rfl, c1⟩
      · exact ⟨2, _, rfl, rfl, c3⟩
      · exact ⟨3, _, rfl, rfl, c2⟩
    refine ⟨_, _, _, _, rfl, rfl, SqL.of eL, atI_nat hj, ?_⟩
    have hs : isIntV (.int n) = true := by rw [int_short]; exact decide_eq_true hn
    refine ⟨_, rfl, p, _, rfl, g7.die, by decide, by decide, fun r8 H8 a8 b8 g8 => ?_⟩
    refine ⟨rfl, _, rfl, ?_⟩
    have gg := (g6.trans g7).trans g8
    refine ite2 (fun _ => ?_) (fun _ => ?_)
    · exact ⟨_, rfl, _, _, rfl, rfl, k _ _ (by rw [int_short, Int.zero_sub, Int.natAbs_neg]; exact decide_eq_true hn) gg⟩
    · exact ⟨_, rfl, k _ _ hs gg⟩


theorem nm_sq {t : Bool} : decide (V.str (nm t) = V.str "square") = !t := by cases t <;> decide +kernel
theorem nm_tr {t : Bool} : decide (V.str (nm t) = V.str "triangle") = t := by cases t <;> decide +kernel

theorem h_law_around (D : Df K mg "_law_around" s__law_around) : Has P w K mg base CX0 "_law_around" 1 ["_law_plain"] spAround := by
  refine D.has sc__law_around (fun vs H Q E h => ?_) (fun kV doc pm an cdv ct us hl => match us, hl with | [_], _ => rfl) (fun f cdv A outer s H vs Q E gd hr h => ?_)
  · obtain ⟨q, t, rfl, _⟩ := h
    rfl
  · obtain ⟨q, t, rfl, hq, k⟩ := h
    have hu := hr.units
    refine ⟨_, (pss_one
 (ps_ret (pe_ifExp (pt_cmpR op_eq (pe_dget (Nat.lt_of_le_of_lt (Nat.add_le_add_left (by decide) _) hu) (pv 0) pe_str (fun _ _ => rfl)) pe_str (nomark _)) pe_int pe_int))), ?_⟩
    refine ⟨_, rfl, _, _, rfl, hq.get, rfl, _, rfl, ?_⟩
    rw [nm_sq]
    cases t with
    | false => exact iteT k
    | true => exact iteF k

theorem h_law_unit (D : Df K mg "_law_unit" s__law_unit) : Has P w K mg base CX0 "_law_unit" 1 ["_law_plain", "_law_direction"] (spUnitL K) := by
  refine D.has sc__law_unit (fun vs H Q E h => ?_) (fun kV doc pm an cdv ct us hl => match us, hl with | [_, _], _ => rfl) (fun f cdv A outer s H vs Q E gd hr h => ?_)
  · obtain ⟨q, t, n, rfl, _⟩ := h
    rfl
  · obtain ⟨q, t, n, rfl, hq, k⟩ := h
    have hu := hr.units
    refine ⟨_, (pss_cons
 (ps_if (pt_cmpR op_eq (pe_dget (Nat.lt_of_le_of_lt (Nat.add_le_add_left (by decide) _) hu) (pv 0) pe_str (fun _ _ => rfl)) pe_str (nomark _)) (pss_one
 (ps_ret (pe_ix ix_list (pe_lst (pa_cons (pe_tup (pa_cons pe_int (pa_cons pe_int pa_nil))) (pa_cons (pe_tup (pa_cons pe_int (pa_cons pe_int pa_nil))) (pa_cons (pe_tup (pa_cons (pe_op op_sub pe_int pe_int) (pa_cons pe_int pa_nil))) (pa_cons (pe_tup (pa_cons pe_int (pa_cons (pe_op op_sub pe_int pe_int) pa_nil))) pa_nil))))) (pe_op op_mod (pv 1) pe_int) (fun _ _ => rfl)))) pss_nil)
 (pss_one
 (ps_ret (pe_ix ix_list (pe_lst (pa_cons (pe_tup (pa_cons pe_int (pa_cons pe_int pa_nil))) (pa_cons (pe_tup (pa_cons pe_int (pa_cons pe_int pa_nil))) (pa_cons (pe_tup (pa_cons (pe_op op_sub pe_int pe_int) (pa_cons pe_int pa_nil))) (pa_cons (pe_tup (pa_cons (pe_op op_sub pe_int pe_int) (pa_cons pe_int pa_nil))) (pa_cons (pe_tup (pa_cons pe_int (pa_cons (pe_op op_sub pe_int pe_int) pa_nil))) (pa_cons (pe_tup (pa_cons pe_int (pa_cons (pe_op op_sub pe_int pe_int) pa_nil))) pa_nil))))))) (pe_op op_mod (pv 1) pe_int) (fun _ _ => rfl))))), ?_⟩
    refine ⟨_, rfl, _, _, rfl, hq.get, rfl, _, rfl, ?_⟩
    rw [nm_sq]
    cases t with
    | false =>
      refine iteT ?_
      refine ⟨by show 2 ≤ sizeLine; decide, fun t0 h0 => ?_⟩
      refine ⟨by show 2 ≤ sizeLine; decide, fun t1 h1 => ?_⟩
      refine ⟨_, _, rfl, rfl, by show 2 ≤ sizeLine; decide, fun t2 h2 => ?_⟩
      refine ⟨_, _, rfl, rfl, by show 2 ≤ sizeLine; decide, fun t3 h3 => ?_⟩
      refine ⟨by show 4 ≤ sizeLine; decide, fun L hL => ⟨_, rfl, _, _, rfl, rfl, by show (0 : Int) < _; decide, ?_⟩⟩
      have hn : n % 4 = 0 ∨ n % 4 = 1 ∨ n % 4 = 2 ∨ n % 4 = 3 := by omega
      rcases hn with hn | hn | hn | hn
      · refine ⟨L, _, (0 : Int), _, rfl, by show V.int (n % 4) = _; rw [hn], SqL.of upd_same, atI_nat (j := 0) rfl, k t0 _ (((((Same.new h0).trans (Same.new h1)).trans (Same.new h2)).trans (Same.new h3)).trans (Same.new hL)) ?_⟩
        rw [show uni false n = (1, 0) from by unfold uni; show (ux false).getD (n % 4).toNat _ = _; rw [hn]; rfl]
        exact PAt.of (new_keep (new_keep (new_keep (new_keep upd_same h1) h2) h3) hL)
      · refine ⟨L, _, (1 : Int), _, rfl, by show V.int (n % 4) = _; rw [hn], SqL.of upd_same, atI_nat (j := 1) rfl, k t1 _ (((((Same.new h0).trans (Same.new h1)).trans (Same.new h2)).trans (Same.new h3)).trans (Same.new hL)) ?_⟩
        rw [show uni false n = (0, 1) from by unfold uni; show (ux false).getD (n % 4).toNat _ = _; rw [hn]; rfl]
        exact PAt.of (new_keep (new_keep (new_keep upd_same h2) h3) hL)
      · refine ⟨L, _, (2 : Int), _, rfl, by show V.int (n % 4) = _; rw [hn], SqL.of upd_same, atI_nat (j := 2) rfl, k t2 _ (((((Same.new h0).trans (Same.new h1)).trans (Same.new h2)).trans (Same.new h3)).trans (Same.new hL)) ?_⟩
        rw [show uni false n = (-1, 0) from by unfold uni; show (ux false).getD (n % 4).toNat _ = _; rw [hn]; rfl]
        exact PAt.of (new_keep (new_keep upd_same h3) hL)
      · refine ⟨L, _, (3 : Int), _, rfl, by show V.int (n % 4) = _; rw [hn], SqL.of upd_same, atI_nat (j := 3) rfl, k t3 _ (((((Same.new h0).trans (Same.new h1)).trans (Same.new h2)).trans (Same.new h3)).trans (Same.new hL)) ?_⟩
        rw [show uni false n = (0, -1) from by unfold uni; show (ux false).getD (n % 4).toNat _ = _; rw [hn]; rfl]
        exact PAt.of (new_keep upd_same hL)
    | true =>
      refine iteF ?_
      refine ⟨by show 2 ≤ sizeLine; decide, fun t0 h0 => ?_⟩
      refine ⟨by show 2 ≤ sizeLine; decide, fun t1 h1 => ?_⟩
      refine ⟨_, _, rfl, rfl, by show 2 ≤ sizeLine; decide, fun t2 h2 => ?_⟩
      refine ⟨_, _, rfl, rfl, by show 2 ≤ sizeLine; decide, fun t3 h3 => ?_⟩
      refine ⟨_, _, rfl, rfl, by show 2 ≤ sizeLine; decide, fun t4 h4 => ?_⟩
      refine ⟨_, _, rfl, rfl, by show 2 ≤ sizeLine; decide, fun t5 h5 => ?_⟩
      refine ⟨by show 6 ≤ sizeLine; decide, fun L hL => ⟨_, rfl, _, _, rfl, rfl, by show (0 : Int) < _; decide, ?_⟩⟩
      have hn : n % 6 = 0 ∨ n % 6 = 1 ∨ n % 6 = 2 ∨ n % 6 = 3 ∨ n % 6 = 4 ∨ n % 6 = 5 := by omega
      rcases hn with hn | hn | hn | hn | hn | hn
      · refine ⟨L, _, (0 : Int), _, rfl, by show V.int (n % 6) = _; rw [hn], SqL.of upd_same, atI_nat (j := 0) rfl, k t0 _ (((((((Same.new h0).trans (Same.new h1)).trans (Same.new h2)).trans (Same.new h3)).trans (Same.new h4)).trans (Same.new h5)).trans (Same.new hL)) ?_⟩
        rw [show uni true n = (1, 0) from by unfold uni; show (ux true).getD (n % 6).toNat _ = _; rw [hn]; rfl]
        exact PAt.of (new_keep (new_keep (new_keep (new_keep (new_keep (new_keep upd_same h1) h2) h3) h4) h5) hL)
      · refine ⟨L, _, (1 : Int), _, rfl, by show V.int (n % 6) = _; rw [hn], SqL.of upd_same, atI_nat (j := 1) rfl, k t1 _ (((((((Same.new h0).trans (Same.new h1)).trans (Same.new h2)).trans (Same.new h3)).trans (Same.new h4)).trans (Same.new h5)).trans (Same.new hL)) ?_⟩
        rw [show uni true n = (0, 1) from by unfold uni; show (ux true).getD (n % 6).toNat _ = _; rw [hn]; rfl]
        exact PAt.of (new_keep (new_keep (new_keep (new_keep (new_keep upd_same h2) h3) h4) h5) hL)
      · refine ⟨L, _, (2 : Int), _, rfl, by show V.int (n % 6) = _; rw [hn], SqL.of upd_same, atI_nat (j := 2) rfl, k t2 _ (((((((Same.new h0).trans (Same.new h1)).trans (Same.new h2)).trans (Same.new h3)).trans (Same.new h4)).trans (Same.new h5)).trans (Same.new hL)) ?_⟩
        rw [show uni true n = (-1, 1) from by unfold uni; show (ux true).getD (n % 6).toNat _ = _; rw [hn]; rfl]
        exact PAt.of (new_keep (new_keep (new_keep (new_keep upd_same h3) h4) h5) hL)
      · refine ⟨L, _, (3 : Int), _, rfl, by show V.int (n % 6) = _; rw [hn], SqL.of upd_same, atI_nat (j := 3) rfl, k t3 _ (((((((Same.new h0).trans (Same.new h1)).trans (Same.new h2)).trans (Same.new h3)).trans (Same.new h4)).trans (Same.new h5)).trans (Same.new hL)) ?_⟩
        rw [show uni true n = (-1, 0) from by unfold uni; show (ux true).getD (n % 6).toNat _ = _; rw [hn]; rfl]
        exact PAt.of (new_keep (new_keep (new_keep upd_same h4) h5) hL)
      · refine ⟨L, _, (4 : Int), _, rfl, by show V.int (n % 6) = _; rw [hn], SqL.of upd_same, atI_nat (j := 4) rfl, k t4 _ (((((((Same.new h0).trans (Same.new h1)).trans (Same.new h2)).trans (Same.new h3)).trans (Same.new h4)).trans (Same.new h5)).trans (Same.new hL)) ?_⟩
        rw [show uni true n = (0, -1) from by unfold uni; show (ux true).getD (n % 6).toNat _ = _; rw [hn]; rfl]
        exact PAt.of (new_keep (new_keep upd_same h5) hL)
      · refine ⟨L, _, (5 : Int), _, rfl, by show V.int (n % 6) = _; rw [hn], SqL.of upd_same, atI_nat (j := 5) rfl, k t5 _ (((((((Same.new h0).trans (Same.new h1)).trans (Same.new h2)).trans (Same.new h3)).trans (Same.new h4)).trans (Same.new h5)).trans (Same.new hL)) ?_⟩
        rw [show uni true n = (1, -1) from by unfold uni; show (ux true).getD (n % 6).toNat _ = _; rw [hn]; rfl]
        exact PAt.of (new_keep upd_same hL)

def spPlace : Sp := fun vs H Q _ => ∃ p, vs = [.ref p] ∧ Die H p ∧ ∀ a u H', H a = none → a ≠ p → ptOk u → H' a = some (.tup [.int u.1, .int u.2]) → Got p H H' → Q (.ref a) H'
theorem h_law_place (D : Df K mg "_law_place" s__law_place) (h_law_part : Has P w K mg base CX0 "_law_part" 3 ["_law_dice_here"] spPart) : Has P w K mg base CX0 "_law_place" 4 ["_law_dice_here"] spPlace := by
  refine D.has sc__law_place (fun vs H Q E h => ?_) (fun kV doc pm an cdv ct us hl => match us, hl with | [_], _ => rfl) (fun f cdv A outer s H vs Q E gd hr h => ?_)
  · obtain ⟨p, rfl, _⟩ := h
    rfl
  · obtain ⟨p, rfl, hd, k⟩ := h
    refine ⟨_, (pss_one
 (ps_ret (pe_tup (pa_cons (pe_callH h_law_part gd (hr.mono (by decide)) pass0 (pa_cons (pv 0) pa_nil)) (pa_cons (pe_callH h_law_part gd (hr.mono (by decide)) pass0 (pa_cons (pv 0) pa_nil)) pa_nil))))), ?_⟩
    refine ⟨_, rfl, p, rfl, hd, fun n H1 sn g1 => ⟨_, rfl, p, rfl, g1.die, fun m H2 sm g2 => ⟨by show 2 ≤ sizeLine; decide, fun a ha => ?_⟩⟩⟩
    exact k a (n, m) _ ((g1.trans g2).free hd ha) (g2.die.ne ha).symm ⟨sn, sm⟩ upd_same ((g1.trans g2).trans (Got.new g2.die ha))
end
section
variable {P : Program} {w : World} {K : PySem.W.Frag} {mg : Str → Option Value} {base : Heap}
variable {aG dU C : Addr} {U : Bool → Addr} {us : Bool → List Addr}
def spRight : Sp := fun vs H Q _ => ∃ p q t, vs = [.ref p, .ref q] ∧ Die H p ∧ PlainAt H q t ∧ ∀ H', Got p H H' → Q (.bl true) H'
theorem h_law_right (c : GCls K C) (i : GIs K C) (uT : UTy K U) (hU : Uni K w aG dU U us) (T : Txt K mg aG dU C) (h_law_roll : Has P w K mg base CX0 "_law_roll" 1 ["_law_dice_here", "_law_total"] spRoll)
    (h_law_pick : Has P w K mg base CX0 "_law_pick" 2 ["_law_dice_here", "_law_items"] spPick) (h_law_part : Has P w K mg base CX0 "_law_part" 3 ["_law_dice_here"] spPart)
    (h_law_place : Has P w K mg base CX0 "_law_place" 4 ["_law_dice_here"] spPlace) (h_law_around : Has P w K mg base CX0 "_law_around" 1 ["_law_plain"] spAround)
    (h_law_unit : Has P w K mg base CX0 "_law_unit" 1 ["_law_plain", "_law_direction"] (spUnitL K)) (hGrid : HasC P w K mg base "Grid" C 1 ["self", "name"] (spInit C U))
    (hm_unit : HasM P w K mg base CX0 C "unit" 3 ["self", "direction"] (spMUnit K C U)) (hm_direction_of : HasM P w K mg base CX0 C "direction_of" 4 ["self", "point"] (spGDir K C U))
    (hm_len : HasM P w K mg base CX0 C "__len__" 1 ["self"] (spMLen C U)) (hm_iter : HasM P w K mg base CX0 C "__iter__" 1 ["self"] (spGIter C U)) (hm_eq : HasM P w K mg base CX0 C "__eq__" 1 ["self", "other"] (spGEq K C U))
    (hm_str : HasM P w K mg base CX0 C "__str__" 1 ["self"] (spGStr C U)) (D : Df K mg "_law_right" s__law_right) : Has P w K mg base CX0 "_law_right" 6 ["_law_dice_here", "_law_plain"] spRight := by
  have c_unit := c.cls
  have c_direction_of := c.cls
  have eqc := i.eq
  refine D.has sc__law_right (fun vs H Q E h => ?_) (fun kV doc pm an cdv ct us hl => match us, hl with | [_, _], _ => rfl) (fun f cdv A outer s H vs Q E gd hr h => ?_)
  · obtain ⟨p, q, t, rfl, _⟩ := h
    rfl
  · obtain ⟨p, q, t, rfl, hd, hq, k⟩ := h
    have hu := hr.units
    have hu65 := by have := hr.un; exact (show (A.deeper (envOfC "_law_right" (defScope s__law_right) s.heap.objs.size f cdv)).units + 65 < cLine by omega)
    refine ⟨_, (pss_cons
 (ps_par (i := 2) (j := 3) (by rfl) sc__law_right.nd rfl rfl (by decide) rfl rfl (pa_cons (pe_makeH hGrid (hr.mono (by decide)) pass0 (pa_cons (pe_dget (Nat.lt_of_le_of_lt (Nat.add_le_add_left (by decide) _) hu) (pv 1) pe_str (fun _ _ => rfl)) pa_nil)) (pa_cons (pe_callH h_law_around gd (hr.mono (by decide)) pass0 (pa_cons (pv 1) pa_nil)) pa_nil)) (by rfl))
 (pss_cons
 (ps_setLc (i := 5) (own := [("_law_direction", 4)]) (g := gName 4) (tt := tYes) (by rfl) sc__law_right.nd rfl rfl (sw_true rfl rfl rfl (by decide +kernel)) (pi_range1 (by exact rfl) T.zrange (pa_cons (pv 3) pa_nil)) (blkOk_by (own := [("_law_direction", 4)]) (N := N__law_right) (sc := defScope s__law_right) (by decide +kernel)) (fun _ _ _ _ _ => pg_name (i := 4) sc__law_right.nd rfl (Or.inl rfl)) (fun _ _ _ _ _ => pts_nil) (fun _ _ _ _ _ => (pe_callH h_law_unit gd (hr.mono (by decide)) pass0 (pa_cons (pv 1) (pa_cons (pv 4) pa_nil)))))
 (pss_cons
 (ps_if (pt_cmpR (op_neD hu) (pe_callTy (call_listIt hm_iter hm_len gd (hr.mono (by decide)) pass0) (by exact rfl) T.zlist (by decide +kernel) (pa_cons (pv 2) pa_nil)) (pv 5) (nomark _)) (pss_one
 (ps_ret pe_bl)) pss_nil)
 (pss_cons
 (ps_set (i := 6) sc__law_right.nd rfl (Or.inl rfl) (pe_tup (pa_cons (pe_fld (pv 2) rfl) (pa_cons (pe_fld (pv 2) rfl) (pa_cons (pe_fld (pv 2) rfl) (pa_cons (pe_callB (call_lenM hm_len gd (hr.mono (by decide)) pass0) (by exact rfl) T.zlen PySem.boot_len (pa_cons (pv 2) pa_nil)) (pa_cons (pe_callTy (call_strM hm_str gd (hr.mono (by decide)) pass0) (by exact rfl) T.zstr (by decide +kernel) (pa_cons (pv 2) pa_nil)) pa_nil)))))))
 (pss_cons
 (ps_if (pt_cmpR op_ne (pe_callB (call_repr gd hu) (by exact rfl) T.zrepr (by decide +kernel) (pa_cons (pv 6) pa_nil)) (pe_callB (call_repr gd hu) (by exact rfl) T.zrepr (by decide +kernel) (pa_cons (pe_tup (pa_cons (pe_dget (Nat.lt_of_le_of_lt (Nat.add_le_add_left (by decide) _) hu) (pv 1) pe_str (fun _ _ => rfl)) (pa_cons (pe_op op_fdiv (pv 3) pe_int) (pa_cons (pe_callTy call_tuple_of (by exact rfl) T.ztuple (by decide +kernel) (pa_cons (pv 5) pa_nil)) (pa_cons (pv 3) (pa_cons (pe_dget (Nat.lt_of_le_of_lt (Nat.add_le_add_left (by decide) _) hu) (pv 1) pe_str (fun _ _ => rfl)) pa_nil)))))) pa_nil)) (nomark _)) (pss_one
 (ps_ret pe_bl)) pss_nil)
 (pss_cons
 (ps_for PassesOwn.never rfl (pi_range1 (by exact rfl) T.zrange (pa_cons pe_int pa_nil)) (pg_name (i := 7) sc__law_right.nd rfl (Or.inl rfl)) (pss_cons
 (ps_set (i := 4) sc__law_right.nd rfl (Or.inl rfl) (pe_callH h_law_part gd (hr.mono (by decide)) pass0 (pa_cons (pv 0) pa_nil)))
 (pss_one
 (ps_if (pt_cmpR op_ne (pe_callB (call_repr gd hu) (by exact rfl) T.zrepr (by decide +kernel) (pa_cons (pe_methH (pv 2) c_unit hm_unit gd (hr.mono (by decide)) pass0 (pa_cons (pv 4) pa_nil)) pa_nil)) (pe_callB (call_repr gd hu) (by exact rfl) T.zrepr (by decide +kernel) (pa_cons (pe_ix ix_list (pv 5) (pe_op op_mod (pv 4) (pv 3)) (fun _ _ => rfl)) pa_nil)) (nomark _)) (pss_one
 (ps_ret pe_bl)) pss_nil))))
 (pss_cons
 (ps_for PassesOwn.never rfl (pi_list (pe_op op_cat (pe_lst (pa_cons (pe_callH h_law_place gd (hr.mono (by decide)) pass0 (pa_cons (pv 0) pa_nil)) (pa_cons (pe_tup (pa_cons pe_int (pa_cons pe_int pa_nil))) (pa_cons (pe_tup (pa_cons pe_int (pa_cons pe_int pa_nil))) (pa_cons (pe_tup (pa_cons (pe_op op_sub pe_int pe_int) (pa_cons pe_int pa_nil))) (pa_cons (pe_tup (pa_cons pe_int (pa_cons (pe_op op_sub pe_int pe_int) pa_nil))) (pa_cons (pe_tup (pa_cons (pe_op op_sub pe_int pe_int) (pa_cons (pe_op op_sub pe_int pe_int) pa_nil))) (pa_cons (pe_tup (pa_cons pe_int (pa_cons pe_int pa_nil))) pa_nil)))))))) (pv 5))) (pg_name (i := 8) sc__law_right.nd rfl (Or.inl rfl)) (pss_one
 (ps_if (pt_cmpR op_ne (pe_callB (call_repr gd hu) (by exact rfl) T.zrepr (by decide +kernel) (pa_cons (pe_methH (pv 2) c_direction_of hm_direction_of gd (hr.mono (by decide)) pass0 (pa_cons (pv 8) pa_nil)) pa_nil)) (pe_callB (call_repr gd hu) (by exact rfl) T.zrepr (by decide +kernel) (pa_cons (pe_ifExp (pt_cmpR (op_inD hu65) (pv 8) (pv 5) (by rfl)) (pe_bm PySem.F.plainAttrs_list PySem.F.slot_list_index PySem.F.type_list_index (mt_indexD hu65) (pv 5) (pa_cons (pv 8) pa_nil)) pe_non) pa_nil)) (nomark _)) (pss_one
 (ps_ret pe_bl)) pss_nil)))
 (pss_cons
 (ps_set (i := 9) sc__law_right.nd rfl (Or.inl rfl) (pe_callH h_law_pick gd (hr.mono (by decide)) pass0 (pa_cons (pv 0) (pa_cons (pe_lst (pa_cons pe_non (pa_cons (pe_dget (Nat.lt_of_le_of_lt (Nat.add_le_add_left (by decide) _) hu) (pv 1) pe_str (fun _ _ => rfl)) (pa_cons pe_int (pa_cons (pe_tup pa_nil) (pa_cons (pv 5) (pa_cons (pe_callTy call_tuple_of (by exact rfl) T.ztuple (by decide +kernel) (pa_cons (pv 5) pa_nil)) (pa_cons (pe_lst (pa_cons (pv 2) pa_nil)) (pa_cons (pe_tup (pa_cons (pv 2) pa_nil)) (pa_cons pe_dnewK pa_nil)))))))))) pa_nil))))
 (pss_one
 (ps_ret (pe_and (pe_cmpR (op_eqA hm_eq gd (hr.mono (by decide)) pass0) (pv 2) (pe_makeH hGrid (hr.mono (by decide)) pass0 (pa_cons (pe_dget (Nat.lt_of_le_of_lt (Nat.add_le_add_left (by decide) _) hu) (pv 1) pe_str (fun _ _ => rfl)) pa_nil)) (nomark _)) (pe_and (pe_not (pe_cmpR (op_neA hm_eq eqc gd (hr.mono (by decide)) pass0) (pv 2) (pv 2) (nomark _))) (pe_and (pe_cmpR (op_neA hm_eq eqc gd (hr.mono (by decide)) pass0) (pv 2) (pv 9) (nomark _)) (pe_one (pe_not (pe_cmpR (op_eqA hm_eq gd (hr.mono (by decide)) pass0) (pv 2) (pv 9) (nomark _))))))))))))))))), ?_⟩
    refine ⟨_, rfl, q, _, rfl, hq.get, fun x dx hx hdx ne => ⟨x, dx, t, rfl, upd_same, fun H3 hk hx3 => ⟨rfl, ?_⟩⟩⟩
    have s3 : Same H H3 := same_made hx hdx hk
    have g3 : Got p H H3 := (Got.same hd).over_same s3
    have hq3 : PlainAt H3 q t := s3 _ _ hq
    have hg3 : GridAt C U H3 x t := ⟨dx, hx3⟩
    refine ⟨_, rfl, q, t, rfl, hq3, ?_⟩
    refine ⟨_, _, rfl, ?_⟩
    have nb : (num t : Int) = 4 ∨ (num t : Int) = 6 := by cases t; exact .inl rfl; exact .inr rfl
    refine ⟨_, rfl, (num t : Int), rfl, by omega, by omega, fun D hD => lc_range (lo := 0) (n := num t) (fun i' H' => Same H3 H' ∧ ∃ as, H' D = some (.lst (as.map V.ref)) ∧ PAts K H' as ((ux t).take i'))
      ⟨Same.new hD, [], upd_same, rfl, fun i a p e1 _ => by cases e1⟩ ?_ ?_⟩
    · rintro i' H4 hi' ⟨s4, as, hA, pA⟩
      refine ⟨rfl, ?_⟩
      simp only [tYes, if_true]
      refine ⟨_, rfl, _, rfl, q, t, _, rfl, s4 _ _ hq3, fun a H5 s5 pa => ⟨_, s5 _ _ hA, ?_, Same.over (s4.trans s5) hD _, as ++ [a], ?_, ?_⟩⟩
      · have := pA.1
        rw [List.length_take, len_ux] at this
        rw [List.length_map, this]
        exact Nat.lt_of_le_of_lt (show min i' (num t) ≤ 6 by omega) (by rw [sizeLine_eq]; decide)
      · rw [upd_same, List.map_append]; rfl
      · have l : i' < (ux t).length := by rw [len_ux]; exact hi'
        rw [List.take_add_one, List.getElem?_eq_getElem l]
        have e0 := uni_at (t := t) (0 + (i' : Int))
        have e1 : ((0 + (i' : Int)) % (num t : Int)).toNat = i' := by rw [Int.zero_add, Int.emod_eq_of_lt (by omega) (by omega)]; rfl
        rw [e1, List.getElem?_eq_getElem l] at e0
        rw [Option.some.inj e0]
        exact ((pA.same s5).snoc pa).lst (s5 _ _ hA)
    rintro H4 ⟨s4, as, hA, pA⟩
    rw [show (ux t).take (num t) = ux t from by rw [List.take_of_length_le (by rw [len_ux]; exact Nat.le_refl _)]] at pA
    have hg4 : GridAt C U H4 x t := hg3.same s4
    obtain ⟨dx4, eg4⟩ := id hg4
    have ld : Dp K H4 (.ref D) (.list ((ux t).map ptD)) := .lst (SqL.of hA) pA.dp
    refine ⟨_, rfl, x, dx4, _, rfl, eg4, fun L hL => ?_⟩
    have eg5 : upd H4 L (.lst []) x = some (.ins C dx4 (gF U t)) := by rw [upd_ne (ne_of_none eg4 hL)]; exact eg4
    refine ⟨x, t, rfl, ⟨dx4, eg5⟩, fun it hit => ?_⟩
    have itL : it ≠ L := fun z => by rw [z, upd_same] at hit; cases hit
    have itx : x ≠ it := ne_of_none eg5 hit
    have eg6 : upd (upd H4 L (.lst [])) it (ItT (U t) it 0) x = some (.ins C dx4 (gF U t)) := by rw [upd_ne itx]; exact eg5
    refine ⟨it, U t, (us t).map V.ref, rfl, upd_same, by rw [upd_ne itL.symm, upd_same], eg6, by rw [List.length_map, hU.len]; exact Nat.le_trans (show num t ≤ 6 by omega) (by decide), fun H' _ => hU.tup t H', ⟨x, t, rfl, ⟨dx4, eg6⟩, by rw [List.length_map, hU.len]; exact ⟨rfl, rfl⟩⟩, fun H5 k5 eL => ?_⟩
    have hit4 : H4 it = none := by rw [upd_ne itL] at hit; exact hit
    have s5 : Same H4 H5 := fun b o e => k5 b o (ne_of_none e hL) (ne_of_none e hit4) (by rw [upd_ne (ne_of_none e hit4), upd_ne (ne_of_none e hL)]; exact e)
    have pA5 := pA.same s5
    have hA5 := s5 _ _ hA
    refine ⟨_, rfl, _, _, .lst (SqL.of eL) (hU.pts t H5).dp, .lst (SqL.of hA5) pA5.dp, ptDs_shaped _, ptDs_shaped _, ?_⟩
    rw [show PyData.eqv (.list ((ux t).map ptD)) (.list ((ux t).map ptD)) = true from (ptDs_eqv _ _).trans (decide_eq_true rfl)]
    refine ⟨_, rfl, iteF ?_⟩
    have eg7 := s5 _ _ eg4
    have hq5 : PlainAt H5 q t := s5 _ _ (s4 _ _ hq3)
    have g5 : Got p H H5 := (g3.over_same s4).over_same s5
    refine ⟨_, rfl, _, _, _, _, _, rfl, eg7, c.cls, c.name, gF_name, _, rfl, _, _, _, _, _, rfl, eg7, c.cls, c.half, gF_half, _, rfl, _, _, _, _, _, rfl, eg7, c.cls, c.units, gF_units, ?_⟩
    refine ⟨_, rfl, x, dx4, _, rfl, eg7, x, t, rfl, ⟨dx4, eg7⟩, (num t : Int), rfl, by omega, by omega, ?_⟩
    refine ⟨_, rfl, x, dx4, _, rfl, eg7, x, t, rfl, ⟨dx4, eg7⟩, nm t, rfl, by show 5 ≤ sizeLine; decide, fun A1 hA1 => ?_⟩
    have eA1 : upd H5 A1 (.tup [.str (nm t), .int ((num t : Int) / 2), .ref (U t), .int (num t : Int), .str (nm t)]) A1 = some (.tup [.str (nm t), .int ((num t : Int) / 2), .ref (U t), .int (num t : Int), .str (nm t)]) := upd_same
    have s6 : Same H5 (upd H5 A1 (.tup [.str (nm t), .int ((num t : Int) / 2), .ref (U t), .int (num t : Int), .str (nm t)])) := Same.new hA1
    generalize upd H5 A1 (.tup [.str (nm t), .int ((num t : Int) / 2), .ref (U t), .int (num t : Int), .str (nm t)]) = H6 at *
    obtain ⟨ok1, ok2, ok3, ok4⟩ := toldD_ok t
    refine ⟨_, rfl, _, toldD t, rfl, toldD_dp eA1 (hU.tup t _) (hU.pts t _), ok1, ok2, ok3, ok4, ?_⟩
    refine ⟨_, rfl, _, _, rfl, (show PlainAt _ q t from s6 _ _ hq5).get, _, rfl, _, _, rfl, rfl, ⟨by decide, by decide⟩, _, rfl, D, _, rfl, .inl ⟨SqL.of (s6 _ _ hA5), fun Z hZ => ?_⟩⟩
    refine ⟨_, rfl, _, rfl, _, _, rfl, (show PlainAt _ q t from (s6.trans (Same.new hZ)) _ _ hq5).get, by show 5 ≤ sizeLine; decide, fun A2 hA2 => ?_⟩
    have s7 : Same H6 (upd (upd H6 Z (.tup (as.map V.ref))) A2 (.tup [.str (nm t), .int ((num t : Int) / 2), .ref Z, .int (num t : Int), .str (nm t)])) := (Same.new hZ).trans (Same.new hA2)
    refine ⟨_, toldD t, rfl, toldD_dp (b := Z) upd_same (SqT.of (new_keep upd_same hA2)) (pA5.same (s6.trans s7)), ok1, ok2, ok3, ok4, rfl, ?_⟩
    rw [decide_eq_true rfl]
    refine ⟨_, rfl, (iteF ?_ : if (!true) = true then _ else _)⟩
    have s8 : Same H5 _ := s6.trans s7
    generalize upd (upd H6 Z (.tup (as.map V.ref))) A2 (.tup [.str (nm t), .int ((num t : Int) / 2), .ref Z, .int (num t : Int), .str (nm t)]) = H8 at *
    have g8 : Got p H H8 := g5.over_same s8
    have eg8 := s8 _ _ eg7
    have hq8 : PlainAt H8 q t := s8 _ _ hq5
    have hA8 := s8 _ _ hA5
    have pA8 := pA5.same s8
    have Dp8 : D ≠ p := fun z => by rw [z] at hA8; obtain ⟨_, _, _, _, e0⟩ := g8.die; rw [hA8] at e0; injection e0 with e0; injection e0 with e0; cases as with | nil => cases e0 | cons a r => injection e0 with e1 _; cases e1
    have kA : ∀ {H'}, Got p H8 H' → H' D = some (.lst (as.map V.ref)) := fun g => g.keep _ _ hA8 Dp8
    have kP : ∀ {H'}, Got p H8 H' → PAts K H' as (ux t) := fun g => pA8.got g g8.die
    have kG : ∀ {H'}, Got p H8 H' → H' x = some (.ins C dx4 (gF U t)) := fun g => g.keep _ _ eg8 (by obtain ⟨_, _, _, _, e0⟩ := g8.die; exact ne_of eg8 e0 (by intro z; cases z))
    have kQ : ∀ {H'}, Got p H8 H' → PlainAt H' q t := fun g => hq8.got g g8.die
    refine ⟨6, rfl, by decide, by decide, for_range (lo := 0) (n := 6) (fun j σ' H' => ∃ v4 v7 v8 v9, σ' = [some (.ref p), some (.ref q), some (.ref x), some (.int (num t : Int)), v4, some (.ref D), some (.ref A1), v7, v8, v9] ∧ Got p H8 H') ⟨none, none, none, none, rfl, Got.same g8.die⟩ ?_ ?_⟩
    · rintro j _ H9 hj ⟨v4, v7, v8, v9, rfl, g9⟩
      refine ⟨_, rfl, p, rfl, g9.die, fun n H10 sn g10' => ?_⟩
      have g10 := g9.trans g10'
      obtain ⟨b1, b2, b3, b4⟩ := uniD_ok t n
      obtain ⟨a, pa, ea⟩ := pts_at (kP g10) n
      refine ⟨_, rfl, x, dx4, _, rfl, kG g10, (by unfold gF; rfl), _, rfl, x, t, n, rfl, ⟨dx4, kG g10⟩, sn, fun i hi => ?_⟩
      refine ⟨_, ptD (uni t n), rfl, (hi _).dp, b1, b2, b3, b4, ?_⟩
      refine ⟨_, rfl, _, rfl, _, rfl, _, _, rfl, rfl, num_pos, _, _, _, _, rfl, rfl, SqL.of (kA g10), ea, ?_⟩
      refine ⟨_, ptD (uni t n), rfl, pa.dp, b1, b2, b3, b4, rfl, ?_⟩
      rw [decide_eq_true rfl]
      refine ⟨_, rfl, (iteF ?_ : if (!true) = true then _ else _)⟩
      exact ⟨_, _, _, _, rfl, g10⟩
    rintro _ H9 ⟨v4, v7, v8, v9, rfl, g9⟩
    refine ⟨_, rfl, p, rfl, g9.die, fun a0 u0 X0 n0 ne0 o0 e0 g10' => ?_⟩
    have gx0 := g9.trans g10'
    have p0 : PAt K X0 a0 u0 := PAt.of e0
    refine ⟨by show 2 ≤ sizeLine; decide, fun t1 h1 => ?_⟩
    have p1 : PAt K (upd X0 t1 (.tup [.int 0, .int 0])) t1 (0, 0) := PAt.of upd_same
    replace p0 := p0.same (Same.new (o := (.tup [.int 0, .int 0])) h1)
    have gx1 := gx0.over_same (Same.new (o := (.tup [.int 0, .int 0])) h1)
    generalize upd X0 t1 (.tup [.int 0, .int 0]) = X1 at *
    refine ⟨by show 2 ≤ sizeLine; decide, fun t2 h2 => ?_⟩
    have p2 : PAt K (upd X1 t2 (.tup [.int 1, .int 1])) t2 (1, 1) := PAt.of upd_same
    replace p0 := p0.same (Same.new (o := (.tup [.int 1, .int 1])) h2)
    replace p1 := p1.same (Same.new (o := (.tup [.int 1, .int 1])) h2)
    have gx2 := gx1.over_same (Same.new (o := (.tup [.int 1, .int 1])) h2)
    generalize upd X1 t2 (.tup [.int 1, .int 1]) = X2 at *
    refine ⟨_, _, rfl, rfl, by show 2 ≤ sizeLine; decide, fun t3 h3 => ?_⟩
    have p3 : PAt K (upd X2 t3 (.tup [(fun i j : Int => V.int (i - j)) 0 1, .int 1])) t3 (-1, 1) := PAt.of upd_same
    replace p0 := p0.same (Same.new (o := (.tup [(fun i j : Int => V.int (i - j)) 0 1, .int 1])) h3)
    replace p1 := p1.same (Same.new (o := (.tup [(fun i j : Int => V.int (i - j)) 0 1, .int 1])) h3)
    replace p2 := p2.same (Same.new (o := (.tup [(fun i j : Int => V.int (i - j)) 0 1, .int 1])) h3)
    have gx3 := gx2.over_same (Same.new (o := (.tup [(fun i j : Int => V.int (i - j)) 0 1, .int 1])) h3)
    generalize upd X2 t3 (.tup [(fun i j : Int => V.int (i - j)) 0 1, .int 1]) = X3 at *
    refine ⟨_, _, rfl, rfl, by show 2 ≤ sizeLine; decide, fun t4 h4 => ?_⟩
    have p4 : PAt K (upd X3 t4 (.tup [.int 1, (fun i j : Int => V.int (i - j)) 0 1])) t4 (1, -1) := PAt.of upd_same
    replace p0 := p0.same (Same.new (o := (.tup [.int 1, (fun i j : Int => V.int (i - j)) 0 1])) h4)
    replace p1 := p1.same (Same.new (o := (.tup [.int 1, (fun i j : Int => V.int (i - j)) 0 1])) h4)
    replace p2 := p2.same (Same.new (o := (.tup [.int 1, (fun i j : Int => V.int (i - j)) 0 1])) h4)
    replace p3 := p3.same (Same.new (o := (.tup [.int 1, (fun i j : Int => V.int (i - j)) 0 1])) h4)
    have gx4 := gx3.over_same (Same.new (o := (.tup [.int 1, (fun i j : Int => V.int (i - j)) 0 1])) h4)
    generalize upd X3 t4 (.tup [.int 1, (fun i j : Int => V.int (i - j)) 0 1]) = X4 at *
    refine ⟨_, _, rfl, rfl, _, _, rfl, rfl, by show 2 ≤ sizeLine; decide, fun t5 h5 => ?_⟩
    have p5 : PAt K (upd X4 t5 (.tup [(fun i j : Int => V.int (i - j)) 0 1, (fun i j : Int => V.int (i - j)) 0 1])) t5 (-1, -1) := PAt.of upd_same
    replace p0 := p0.same (Same.new (o := (.tup [(fun i j : Int => V.int (i - j)) 0 1, (fun i j : Int => V.int (i - j)) 0 1])) h5)
    replace p1 := p1.same (Same.new (o := (.tup [(fun i j : Int => V.int (i - j)) 0 1, (fun i j : Int => V.int (i - j)) 0 1])) h5)
    replace p2 := p2.same (Same.new (o := (.tup [(fun i j : Int => V.int (i - j)) 0 1, (fun i j : Int => V.int (i - j)) 0 1])) h5)
    replace p3 := p3.same (Same.new (o := (.tup [(fun i j : Int => V.int (i - j)) 0 1, (fun i j : Int => V.int (i - j)) 0 1])) h5)
    replace p4 := p4.same (Same.new (o := (.tup [(fun i j : Int => V.int (i - j)) 0 1, (fun i j : Int => V.int (i - j)) 0 1])) h5)
    have gx5 := gx4.over_same (Same.new (o := (.tup [(fun i j : Int => V.int (i - j)) 0 1, (fun i j : Int => V.int (i - j)) 0 1])) h5)
    generalize upd X4 t5 (.tup [(fun i j : Int => V.int (i - j)) 0 1, (fun i j : Int => V.int (i - j)) 0 1]) = X5 at *
    refine ⟨by show 2 ≤ sizeLine; decide, fun t6 h6 => ?_⟩
    have p6 : PAt K (upd X5 t6 (.tup [.int 2, .int 0])) t6 (2, 0) := PAt.of upd_same
    replace p0 := p0.same (Same.new (o := (.tup [.int 2, .int 0])) h6)
    replace p1 := p1.same (Same.new (o := (.tup [.int 2, .int 0])) h6)
    replace p2 := p2.same (Same.new (o := (.tup [.int 2, .int 0])) h6)
    replace p3 := p3.same (Same.new (o := (.tup [.int 2, .int 0])) h6)
    replace p4 := p4.same (Same.new (o := (.tup [.int 2, .int 0])) h6)
    replace p5 := p5.same (Same.new (o := (.tup [.int 2, .int 0])) h6)
    have gx6 := gx5.over_same (Same.new (o := (.tup [.int 2, .int 0])) h6)
    generalize upd X5 t6 (.tup [.int 2, .int 0]) = X6 at *
    refine ⟨by show 7 ≤ sizeLine; decide, fun LL hLL => ?_⟩
    have eLL : upd X6 LL (.lst [.ref a0, .ref t1, .ref t2, .ref t3, .ref t4, .ref t5, .ref t6]) LL = some (.lst [.ref a0, .ref t1, .ref t2, .ref t3, .ref t4, .ref t5, .ref t6]) := upd_same
    replace p0 := p0.same (Same.new (o := .lst [.ref a0, .ref t1, .ref t2, .ref t3, .ref t4, .ref t5, .ref t6]) hLL)
    replace p1 := p1.same (Same.new (o := .lst [.ref a0, .ref t1, .ref t2, .ref t3, .ref t4, .ref t5, .ref t6]) hLL)
    replace p2 := p2.same (Same.new (o := .lst [.ref a0, .ref t1, .ref t2, .ref t3, .ref t4, .ref t5, .ref t6]) hLL)
    replace p3 := p3.same (Same.new (o := .lst [.ref a0, .ref t1, .ref t2, .ref t3, .ref t4, .ref t5, .ref t6]) hLL)
    replace p4 := p4.same (Same.new (o := .lst [.ref a0, .ref t1, .ref t2, .ref t3, .ref t4, .ref t5, .ref t6]) hLL)
    replace p5 := p5.same (Same.new (o := .lst [.ref a0, .ref t1, .ref t2, .ref t3, .ref t4, .ref t5, .ref t6]) hLL)
    replace p6 := p6.same (Same.new (o := .lst [.ref a0, .ref t1, .ref t2, .ref t3, .ref t4, .ref t5, .ref t6]) hLL)
    have gx7 := gx6.over_same (Same.new (o := .lst [.ref a0, .ref t1, .ref t2, .ref t3, .ref t4, .ref t5, .ref t6]) hLL)
    generalize upd X6 LL (.lst [.ref a0, .ref t1, .ref t2, .ref t3, .ref t4, .ref t5, .ref t6]) = X7 at *
    have las : as.length = num t := by rw [pA8.1, len_ux]
    refine ⟨_, rfl, LL, D, _, _, rfl, rfl, eLL, kA gx7, by show 7 + (as.map V.ref).length ≤ sizeLine; rw [List.length_map, las]; exact Nat.le_trans (show 7 + num t ≤ 20 by omega) (by decide), fun M hM => ?_⟩
    have MP : M ≠ p := (gx7.die.ne hM).symm
    replace p0 := p0.same (Same.new (o := .lst ([.ref a0, .ref t1, .ref t2, .ref t3, .ref t4, .ref t5, .ref t6] ++ as.map V.ref)) hM)
    replace p1 := p1.same (Same.new (o := .lst ([.ref a0, .ref t1, .ref t2, .ref t3, .ref t4, .ref t5, .ref t6] ++ as.map V.ref)) hM)
    replace p2 := p2.same (Same.new (o := .lst ([.ref a0, .ref t1, .ref t2, .ref t3, .ref t4, .ref t5, .ref t6] ++ as.map V.ref)) hM)
    replace p3 := p3.same (Same.new (o := .lst ([.ref a0, .ref t1, .ref t2, .ref t3, .ref t4, .ref t5, .ref t6] ++ as.map V.ref)) hM)
    replace p4 := p4.same (Same.new (o := .lst ([.ref a0, .ref t1, .ref t2, .ref t3, .ref t4, .ref t5, .ref t6] ++ as.map V.ref)) hM)
    replace p5 := p5.same (Same.new (o := .lst ([.ref a0, .ref t1, .ref t2, .ref t3, .ref t4, .ref t5, .ref t6] ++ as.map V.ref)) hM)
    replace p6 := p6.same (Same.new (o := .lst ([.ref a0, .ref t1, .ref t2, .ref t3, .ref t4, .ref t5, .ref t6] ++ as.map V.ref)) hM)
    have eM : upd X7 M (.lst ([.ref a0, .ref t1, .ref t2, .ref t3, .ref t4, .ref t5, .ref t6] ++ as.map V.ref)) M = some (.lst ([.ref a0, .ref t1, .ref t2, .ref t3, .ref t4, .ref t5, .ref t6] ++ as.map V.ref)) := upd_same
    have gx8 := gx7.over_same (Same.new (o := .lst ([.ref a0, .ref t1, .ref t2, .ref t3, .ref t4, .ref t5, .ref t6] ++ as.map V.ref)) hM)
    generalize upd X7 M (.lst ([.ref a0, .ref t1, .ref t2, .ref t3, .ref t4, .ref t5, .ref t6] ++ as.map V.ref)) = X8 at *
    have sh9 : ∀ z : Int, z.natAbs ≤ 20 → isIntV (.int z) = true := fun z h => short_of (Nat.le_trans h (by decide))
    have ok2 : ∀ z w : Int, z.natAbs ≤ 20 → w.natAbs ≤ 20 → ptOk (z, w) := fun z w h1 h2 => ⟨sh9 z h1, sh9 w h2⟩
    have items : ∀ v ∈ ([.ref a0, .ref t1, .ref t2, .ref t3, .ref t4, .ref t5, .ref t6] : List V) ++ as.map V.ref, ∃ a u, v = .ref a ∧ PAt K X8 a u ∧ ptOk u := by
      intro v hv
      rcases List.mem_append.mp hv with hv | hv
      · simp only [List.mem_cons, List.not_mem_nil, or_false] at hv
        rcases hv with e | e | e | e | e | e | e <;> subst e
        · exact ⟨_, _, rfl, p0, o0⟩
        · exact ⟨_, _, rfl, p1, ok2 _ _ (by decide) (by decide)⟩
        · exact ⟨_, _, rfl, p2, ok2 _ _ (by decide) (by decide)⟩
        · exact ⟨_, _, rfl, p3, ok2 _ _ (by decide) (by decide)⟩
        · exact ⟨_, _, rfl, p4, ok2 _ _ (by decide) (by decide)⟩
        · exact ⟨_, _, rfl, p5, ok2 _ _ (by decide) (by decide)⟩
        · exact ⟨_, _, rfl, p6, ok2 _ _ (by decide) (by decide)⟩
      · obtain ⟨a, ha, rfl⟩ := List.mem_map.mp hv
        obtain ⟨j, hj, ej⟩ := List.getElem_of_mem ha
        have hj2 : j < (ux t).length := by rw [← (kP gx8).1]; exact hj
        have small : ∀ q ∈ ux t, q.1.natAbs ≤ 20 ∧ q.2.natAbs ≤ 20 := by cases t <;> decide
        have sm := small _ (List.getElem_mem hj2)
        exact ⟨a, (ux t)[j], rfl, (kP gx8).2 j a _ (by rw [List.getElem?_eq_getElem hj, ej]) (List.getElem?_eq_getElem hj2), ok2 _ _ sm.1 sm.2⟩
    refine ⟨M, rfl, ⟨_, SqL.of eM⟩, for_list (xs := ([.ref a0, .ref t1, .ref t2, .ref t3, .ref t4, .ref t5, .ref t6] : List V) ++ as.map V.ref) (fun j σ' H' => ∃ v4 v7 v8 v9, σ' = [some (.ref p), some (.ref q), some (.ref x), some (.int (num t : Int)), v4, some (.ref D), some (.ref A1), v7, v8, v9] ∧ Got p X8 H') ⟨_, _, _, _, rfl, Got.same gx8.die⟩ (fun j σ' H' _ ⟨_, _, _, _, _, g⟩ => SqL.of (g.keep _ _ eM MP)) ?_ ?_⟩
    · rintro j y _ H11 hy ⟨v4, v7, v8, v9, rfl, g11⟩
      obtain ⟨a, u, rfl, pa, ou⟩ := items y (List.mem_of_getElem? hy)
      replace pa := pa.got g11 gx8.die
      have gA := gx8.trans g11
      obtain ⟨d1, d2, d3, d4⟩ := dirD_ok t u
      refine ⟨_, rfl, x, dx4, _, rfl, kG gA, (by unfold gF; rfl), _, rfl, x, t, a, u, rfl, ⟨dx4, kG gA⟩, pa, ou, ?_⟩
      refine ⟨_, dirD t u, rfl, dirD_dp, d1, d2, d3, d4, ?_⟩
      refine ⟨_, rfl, _, rfl, ptD u, (ux t).map ptD, pa.dp, .lst (SqL.of (kA gA)) (kP gA).dp, ptD_shaped u, ptDs_shaped _, ?_⟩
      rw [dir_in]
      cases e : dirOf t u with
      | none =>
        have ev : dirV t u = .non := by unfold dirV; rw [e]
        refine ⟨_, rfl, iteF ⟨_, dirD t u, rfl, by rw [← ev]; exact dirD_dp, d1, d2, d3, d4, rfl, ?_⟩⟩
        rw [decide_eq_true rfl]
        refine ⟨_, rfl, (iteF ?_ : if (!true) = true then _ else _)⟩
        exact ⟨_, _, _, _, rfl, g11⟩
      | some i =>
        obtain ⟨lt, at_, no⟩ := dir_at e
        have ev : dirV t u = .int (i : Nat) := by unfold dirV; rw [e]
        refine ⟨_, rfl, iteT ⟨_, rfl, .inl ⟨rfl, _, SqL.of (kA gA)⟩, _, rfl, _, _, _, _, _, _, rfl, rfl, .lst (SqL.of (kA gA)) (kP gA).dp, pa.dp, ptDs_shaped _, ptD_shaped u, at_, by rw [ptD_eqv]; exact decide_eq_true rfl, no, ?_⟩⟩
        refine ⟨_, dirD t u, rfl, by rw [← ev]; exact dirD_dp, d1, d2, d3, d4, rfl, ?_⟩
        rw [decide_eq_true rfl]
        refine ⟨_, rfl, (iteF ?_ : if (!true) = true then _ else _)⟩
        exact ⟨_, _, _, _, rfl, g11⟩
    rintro _ H11 ⟨v4, v7, v8, v9, rfl, g11⟩
    have gA := gx8.trans g11
    have hA11 := kA gA
    have oneq : ∀ {H' : Hp} {y : V} {r neg : Bool} {Q' : VK}, H' x = some (.ins C dx4 (gF U t)) → GOpd K C U H' t y r → Q' (.bl (neg != r)) H' → rEqA K C (spGEq K C U) E0 neg (.ref x) y H' Q' := fun e o q => by
      obtain ⟨T, ty, nf⟩ := o.ty i c.cls
      exact ⟨x, dx4, _, T, rfl, e, ty, nf, x, t, _, _, rfl, ⟨dx4, e⟩, o, _, rfl, q⟩
    refine ⟨_, rfl, _, rfl, _, _, rfl, (kQ gA).get, by show 0 ≤ sizeLine; decide, fun Z1 hZ1 => ?_⟩
    have k1 : Of K (upd H11 Z1 (.tup [])) (.ref Z1) .tup := .tup upd_same
    have y1 : Same H11 (upd H11 Z1 (.tup [])) := Same.new hZ1
    generalize upd H11 Z1 (.tup []) = Y1 at *
    refine ⟨_, rfl, _, rfl, D, _, rfl, .inl ⟨SqL.of (y1 _ _ hA11), fun Z2 hZ2 => ?_⟩⟩
    have k2 : Of K (upd Y1 Z2 (.tup (as.map V.ref))) (.ref Z2) .tup := .tup upd_same
    have y2 : Same Y1 (upd Y1 Z2 (.tup (as.map V.ref))) := Same.new hZ2
    replace k1 := k1.same y2
    generalize upd Y1 Z2 (.tup (as.map V.ref)) = Y2 at *
    refine ⟨_, rfl, by show 1 ≤ sizeLine; decide, fun Z3 hZ3 => ?_⟩
    have k3 : Of K (upd Y2 Z3 (.lst [.ref x])) (.ref Z3) .lst := .lst upd_same
    have y3 : Same Y2 (upd Y2 Z3 (.lst [.ref x])) := Same.new hZ3
    replace k1 := k1.same y3
    replace k2 := k2.same y3
    generalize upd Y2 Z3 (.lst [.ref x]) = Y3 at *
    refine ⟨_, rfl, by show 1 ≤ sizeLine; decide, fun Z4 hZ4 => ?_⟩
    have k4 : Of K (upd Y3 Z4 (.tup [.ref x])) (.ref Z4) .tup := .tup upd_same
    have y4 : Same Y3 (upd Y3 Z4 (.tup [.ref x])) := Same.new hZ4
    replace k1 := k1.same y4
    replace k2 := k2.same y4
    replace k3 := k3.same y4
    generalize upd Y3 Z4 (.tup [.ref x]) = Y4 at *
    intro Z5 hZ5
    have k5 : Of K (upd Y4 Z5 (.dK [])) (.ref Z5) .dct := .dct upd_same
    have y5 : Same Y4 (upd Y4 Z5 (.dK [])) := Same.new hZ5
    replace k1 := k1.same y5
    replace k2 := k2.same y5
    replace k3 := k3.same y5
    replace k4 := k4.same y5
    generalize upd Y4 Z5 (.dK []) = Y5 at *
    refine ⟨by show 9 ≤ sizeLine; decide, fun Z6 hZ6 => ?_⟩
    have yA := (((y1.trans y2).trans y3).trans y4).trans y5
    have gB : Got p H8 Y5 := gA.over_same yA
    have Z6p : Z6 ≠ p := (gB.die.ne hZ6).symm
    have y6 : Same Y5 (upd Y5 Z6 (.lst [.non, .str (nm t), .int 0, .ref Z1, .ref D, .ref Z2, .ref Z3, .ref Z4, .ref Z5])) := Same.new hZ6
    have e6 : upd Y5 Z6 (.lst [.non, .str (nm t), .int 0, .ref Z1, .ref D, .ref Z2, .ref Z3, .ref Z4, .ref Z5]) Z6 = some (.lst [.non, .str (nm t), .int 0, .ref Z1, .ref D, .ref Z2, .ref Z3, .ref Z4, .ref Z5]) := upd_same
    replace k1 := k1.same y6
    replace k2 := k2.same y6
    replace k3 := k3.same y6
    replace k4 := k4.same y6
    replace k5 := k5.same y6
    have gC := gB.over_same y6
    generalize upd Y5 Z6 (.lst [.non, .str (nm t), .int 0, .ref Z1, .ref D, .ref Z2, .ref Z3, .ref Z4, .ref Z5]) = Y6 at *
    refine ⟨p, Z6, _, rfl, gC.die, .inl e6, Z6p, by show 0 < 9; decide, by show 9 ≤ 1000; decide, fun v H12 hv g12 => ?_⟩
    have gD := gC.trans g12
    have ok : ∃ kd : Kd, Of K H12 v kd := by
      simp only [List.mem_cons, List.not_mem_nil, or_false] at hv
      rcases hv with e | e | e | e | e | e | e | e | e <;> subst e
      · exact ⟨_, .non⟩
      · exact ⟨_, .str⟩
      · exact ⟨_, .int⟩
      · exact ⟨_, k1.got g12 gC.die⟩
      · exact ⟨_, .lst (kA gD)⟩
      · exact ⟨_, k2.got g12 gC.die⟩
      · exact ⟨_, k3.got g12 gC.die⟩
      · exact ⟨_, k4.got g12 gC.die⟩
      · exact ⟨_, k5.got g12 gC.die⟩
    obtain ⟨kd, ov⟩ := ok
    refine ⟨_, rfl, _, rfl, _, _, rfl, (kQ gD).get, fun x2 dx2 hx2 hdx2 ne2 => ⟨x2, dx2, t, rfl, upd_same, fun H13 hk13 hx13 => ⟨rfl, ?_⟩⟩⟩
    have s13 : Same H12 H13 := same_made hx2 hdx2 hk13
    have ex := s13 _ _ (kG gD)
    refine oneq ex (.inl ⟨x2, t, rfl, ⟨dx2, hx13⟩, (beq_self_eq_true t).symm⟩) ⟨_, rfl, iteT ?_⟩
    refine ⟨_, rfl, _, rfl, oneq ex (.inl ⟨x, t, rfl, ⟨dx4, ex⟩, (beq_self_eq_true t).symm⟩) ⟨_, rfl, _, rfl, iteT ?_⟩⟩
    refine ⟨_, rfl, _, rfl, oneq ex (.inr ⟨kd, ov.same s13, rfl⟩) ⟨_, rfl, iteT ?_⟩⟩
    refine ⟨_, rfl, _, rfl, oneq ex (.inr ⟨kd, ov.same s13, rfl⟩) ⟨_, rfl, ?_⟩⟩
    exact k _ ((g8.trans gD).over_same s13)
end
section
variable {P : Program} {w : World} {K : PySem.W.Frag} {mg : Str → Option Value} {base : Heap}
variable {aG dU C : Addr} {U : Bool → Addr} {us : Bool → List Addr}
def spLaw (K : PySem.W.Frag) : Sp := fun vs H Q _ => ∃ (a : Addr) (ns : List Int), vs = [.ref a] ∧ SqL K H a (ns.map V.int) ∧ ns.length ≤ 63 ∧ ∀ H', Q (.bl true) H'
theorem law_ok (T : Txt K mg aG dU C) (c : GCls K C) (i : GIs K C) (hU : Uni K w aG dU U us) (h_law_dice : Has P w K mg base CX0 "_law_dice" 1 ["_law_script", "_law_spot"] (spDice K))
    (h_law_right : Has P w K mg base CX0 "_law_right" 6 ["_law_dice_here", "_law_plain"] spRight)
    (hGrid : HasC P w K mg base "Grid" C 1 ["self", "name"] (spInit C U))
    (hm_eq : HasM P w K mg base CX0 C "__eq__" 1 ["self", "other"] (spGEq K C U))
    {f : Addr} {fd : FuncData} (F : Fun K "law" "law" s_law f fd) : FnG P w K mg base CX0 7 f fd ["_law_script"] (spLaw K) := by
  have eqc := i.eq
  refine F.g sc_law (fun vs H Q E h => ?_) (fun cdv A outer s H vs Q E gd hr h => ?_)
  · obtain ⟨a, ns, rfl, _⟩ := h
    rfl
  · obtain ⟨a, ns, rfl, hS, hl, k⟩ := h
    have hu := hr.units
    refine ⟨_, (pss_cons
 (ps_for PassesOwn.never rfl (pi_range1 (by exact rfl) T.zrange (pa_cons (pe_callB (call_max2 rfl) (by exact rfl) T.zmax (by decide +kernel) (pa_cons pe_int (pa_cons (pe_callB (call_min2 rfl) (by exact rfl) T.zmin (by decide +kernel) (pa_cons pe_int (pa_cons (pe_callB call_len_seq (by exact rfl) T.zlen PySem.boot_len (pa_cons (pv 0) pa_nil)) pa_nil))) pa_nil))) pa_nil)) (pg_name (i := 1) sc_law.nd rfl (Or.inl rfl)) (pss_cons
 (ps_set (i := 2) sc_law.nd rfl (Or.inl rfl) (pe_callH h_law_dice gd (hr.mono (by decide)) pass0 (pa_cons (pv 0) (pa_cons (pv 1) pa_nil))))
 (pss_one
 (ps_for PassesOwn.never rfl (pi_tup (pe_tup (pa_cons pe_str (pa_cons pe_str pa_nil)))) (pg_name (i := 3) sc_law.nd rfl (Or.inl rfl)) (pss_one
 (ps_if (pt_not (pt_val (pe_callH h_law_right gd (hr.mono (by decide)) pass0 (pa_cons (pv 2) (pa_cons (pe_disp (pps_cons pe_str (pv 3) pps_nil) (by rfl) (by rfl) (fun z => by cases z) (by decide)) pa_nil))))) (pss_one
 (ps_ret pe_bl)) pss_nil))))))
 (pss_cons
 (ps_par (i := 4) (j := 5) (by rfl) sc_law.nd rfl rfl (by decide) rfl rfl (pa_cons (pe_makeH hGrid (hr.mono (by decide)) pass0 (pa_cons pe_str pa_nil)) (pa_cons (pe_makeH hGrid (hr.mono (by decide)) pass0 (pa_cons pe_str pa_nil)) pa_nil)) (by rfl))
 (pss_one
 (ps_ret (pe_and (pe_cmpR (op_neA hm_eq eqc gd (hr.mono (by decide)) pass0) (pv 4) (pv 5) (nomark _)) (pe_and (pe_not (pe_cmpR (op_eqA hm_eq gd (hr.mono (by decide)) pass0) (pv 4) (pv 5) (nomark _))) (pe_one (pe_cmpR (op_eqD hu) (pe_globV T.gGRIDS) (pe_tup (pa_cons pe_str (pa_cons pe_str pa_nil))) (nomark _))))))))), ?_⟩
    refine ⟨_, rfl, _, _, rfl, .inl hS, _, _, rfl, _, _, rfl, ?_⟩
    generalize hz : (if (if ((ns.map V.int).length : Int) < 5 then ((ns.map V.int).length : Int) else 5) > 1 then (if ((ns.map V.int).length : Int) < 5 then ((ns.map V.int).length : Int) else 5) else 1) = z
    obtain ⟨z0, z5⟩ := few_of (k := 5) (by decide) z hz
    refine ⟨z, rfl, by omega, by omega, for_range (lo := 0) (n := z.toNat) (fun i σ' H' => ∃ v1 v2 v3 v4 v5, σ' = [some (.ref a), v1, v2, v3, v4, v5] ∧ SqL K H' a (ns.map V.int))
      ⟨none, none, none, none, none, rfl, hS⟩ ?_ ?_⟩
    · rintro i' _ H0 hi ⟨v1, v2, v3, v4, v5, rfl, hS0⟩
      refine ⟨_, rfl, _, rfl, a, ns, _, rfl, hS0, (by omega), fun p H1 np same die => ?_⟩
      refine ⟨by show 2 ≤ sizeLine; decide, fun A0 hA0 => ?_⟩
      have A0p : A0 ≠ p := (die.ne hA0).symm
      have eT : upd H1 A0 (.tup [.str "square", .str "triangle"]) A0 = some (.tup [.str "square", .str "triangle"]) := upd_same
      have s2 : Same H1 (upd H1 A0 (.tup [.str "square", .str "triangle"])) := Same.new hA0
      have g2 : Got p H1 (upd H1 A0 (.tup [.str "square", .str "triangle"])) := Got.new die hA0
      generalize upd H1 A0 (.tup [.str "square", .str "triangle"]) = H2 at *
      refine ⟨A0, rfl, ⟨_, SqT.of eT⟩, for_tup (xs := [V.str "square", .str "triangle"]) (fun j σ' H' => ∃ v3 v4 v5, σ' = [some (.ref a), some (.int (0 + (i' : Int))), some (.ref p), v3, v4, v5] ∧ Got p H2 H') ⟨_, _, _, rfl, Got.same g2.die⟩ (fun j σ' H' _ ⟨_, _, _, _, g⟩ => SqT.of (g.keep _ _ eT A0p)) ?_ ?_⟩
      · rintro j y _ H3 hy ⟨v3, v4, v5, rfl, g3⟩
        obtain ⟨t, rfl⟩ : ∃ t, y = .str (nm t) := by
          have hv := List.mem_of_getElem? hy
          simp only [List.mem_cons, List.not_mem_nil, or_false] at hv
          rcases hv with h | h <;> subst h
          · exact ⟨false, rfl⟩
          · exact ⟨true, rfl⟩
        refine ⟨_, rfl, fun q hq => ⟨_, rfl, upd_same, [(.inr "grid", .str (nm t))], rfl, by show 1 ≤ 15; decide, ?_⟩⟩
        have qp : q ≠ p := (g3.die.ne hq).symm
        have s4 : Same H3 (upd (upd H3 q (.dK [])) q (.dK [(.inr "grid", .str (nm t))])) := fun b o z => new_keep2 z hq
        have g4 := g3.over_same s4
        refine ⟨p, q, t, rfl, g4.die, upd_same, fun H4 g5 => ⟨true, rfl, (iteF ?_ : if (!true) = true then _ else _)⟩⟩
        exact ⟨_, _, _, rfl, g4.trans g5⟩
      · rintro _ H3 ⟨v3, v4, v5, rfl, g3⟩
        exact ⟨_, _, _, _, _, rfl, seq_got hS0 np same (g2.trans g3)⟩
    · rintro _ H0 ⟨v1, v2, v3, v4, v5, rfl, hS0⟩
      refine fun x dx hx hdx ne => ⟨x, dx, false, rfl, upd_same, fun H1 hk1 e1 => ⟨rfl, fun y dy hy hdy ney => ⟨y, dy, true, rfl, upd_same, fun H2 hk2 e2 => ⟨rfl, _, _, rfl, ?_⟩⟩⟩⟩
      have ex : H2 x = some (.ins C dx (gF U false)) := same_made hy hdy hk2 _ _ e1
      have oneq : ∀ {neg : Bool} {Q' : VK}, Q' (.bl (neg != false)) H2 → rEqA K C (spGEq K C U) E0 neg (.ref x) (.ref y) H2 Q' := fun q => by
        have o : GOpd K C U H2 false (.ref y) false := .inl ⟨y, true, rfl, ⟨dy, e2⟩, rfl⟩
        obtain ⟨T, ty, nf⟩ := o.ty i c.cls
        exact ⟨x, dx, _, T, rfl, ex, ty, nf, x, false, _, _, rfl, ⟨dx, ex⟩, o, _, rfl, q⟩
      refine ⟨_, rfl, _, rfl, oneq ⟨_, rfl, iteT ?_⟩⟩
      refine ⟨_, rfl, _, rfl, oneq ⟨_, rfl, _, rfl, iteT ?_⟩⟩
      refine ⟨by show 2 ≤ sizeLine; decide, fun A0 hA0 => ?_⟩
      refine ⟨.tuple [.str "square", .str "triangle"], .tuple [.str "square", .str "triangle"], .tup (hU.grids _) (.cons (.str _) (.cons (.str _) .nil)), .tup (SqT.of upd_same) (.cons (.str _) (.cons (.str _) .nil)), by decide +kernel, by decide +kernel, ?_⟩
      rw [show PyData.eqv (.tuple [.str "square", .str "triangle"]) (.tuple [.str "square", .str "triangle"]) = true by decide +kernel]
      exact k _
end
theorem all_mk {P : Program} {w : World} {K : PySem.W.Frag} {h : Heap} {mg : Str → Option Value} {fa : Addr} {aG dU C aS aT s0 s1 s2 s3 t0 t1 t2 t3 t4 t5 : Addr} (X : K.In h) (G : h.Ns mainGlobals mg) (hfa : mg "law" = some (.ref fa))
    (z0 : PySem.W.nsIn K mainGlobals "isinstance" = some none)
    (z1 : PySem.W.nsIn K mainGlobals "bool" = some none)
    (z2 : PySem.W.nsIn K mainGlobals "int" = some none)
    (z3 : PySem.W.nsIn K mainGlobals "tuple" = some none)
    (z4 : PySem.W.nsIn K mainGlobals "len" = some none)
    (z5 : PySem.W.nsIn K mainGlobals "max" = some none)
    (z6 : PySem.W.nsIn K mainGlobals "min" = some none)
    (z7 : PySem.W.nsIn K mainGlobals "abs" = some none)
    (z8 : PySem.W.nsIn K mainGlobals "range" = some none)
    (z9 : PySem.W.nsIn K mainGlobals "repr" = some none)
    (z10 : PySem.W.nsIn K mainGlobals "list" = some none)
    (z11 : PySem.W.nsIn K mainGlobals "str" = some none)
    (z12 : PySem.W.nsIn K mainGlobals "iter" = some none)
    (gG : PySem.W.nsIn K mainGlobals "GRIDS" = some (some (.ref aG))) (gU : PySem.W.nsIn K mainGlobals "_UNITS" = some (some (.ref dU))) (gC : PySem.W.nsIn K mainGlobals "Grid" = some (some (.ref C))) (c : GCls K C)
    (tg : TupK K aG [.str "square", .str "triangle"]) (kS : KDct K w dU "square" (.ref aS)) (kT : KDct K w dU "triangle" (.ref aT)) (tS : TupK K aS [.ref s0, .ref s1, .ref s2, .ref s3]) (tT : TupK K aT [.ref t0, .ref t1, .ref t2, .ref t3, .ref t4, .ref t5])
    (p0 : TupK K s0 [.int 1, .int 0]) (p1 : TupK K s1 [.int 0, .int 1]) (p2 : TupK K s2 [.int (-1), .int 0]) (p3 : TupK K s3 [.int 0, .int (-1)])
    (q0 : TupK K t0 [.int 1, .int 0]) (q1 : TupK K t1 [.int 0, .int 1]) (q2 : TupK K t2 [.int (-1), .int 1]) (q3 : TupK K t3 [.int (-1), .int 0]) (q4 : TupK K t4 [.int 0, .int (-1)]) (q5 : TupK K t5 [.int 1, .int (-1)])
    (di : Dc K C "Grid.__init__" s_Grid_WinitW)
    (m0 : Dm K C "unit" "Grid.unit" s_Grid_unit)
    (m1 : Dm K C "direction_of" "Grid.direction_of" s_Grid_direction_of)
    (m2 : Dm K C "__len__" "Grid.__len__" s_Grid_WlenW)
    (m3 : Dm K C "__iter__" "Grid.__iter__" s_Grid_WiterW)
    (m4 : Dm K C "__eq__" "Grid.__eq__" s_Grid_WeqW)
    (m5 : Dm K C "__str__" "Grid.__str__" s_Grid_WstrW)
    (gi : GIs K C) (uS : ∃ o, K.lookup aS = some o ∧ o.cls = .type "tuple" ∧ o.dict = none) (uT : ∃ o, K.lookup aT = some o ∧ o.cls = .type "tuple" ∧ o.dict = none)
    (g0 : ∃ u, PySem.W.nsIn K mainGlobals "_BOUND" = some (some u) ∧ RelV (.int B) u)
    (d0 : Df K mg "is_integer" s_is_integer)
    (d1 : Df K mg "is_point" s_is_point)
    (d2 : Df K mg "_check_point" s__check_point)
    (d3 : Df K mg "_check_number" s__check_number)
    (d4 : Df K mg "_law_dice" s__law_dice)
    (d5 : Df K mg "_law_roll" s__law_roll)
    (d6 : Df K mg "_law_pick" s__law_pick)
    (d7 : Df K mg "_law_around" s__law_around)
    (d8 : Df K mg "_law_unit" s__law_unit)
    (d9 : Df K mg "_law_limit" s__law_limit)
    (d10 : Df K mg "_law_part" s__law_part)
    (d11 : Df K mg "_law_place" s__law_place)
    (d12 : Df K mg "_law_right" s__law_right)
    (d13 : Df K mg "law" s_law)
    : ∃ fd : FuncData, (∀ (s : Shared) (u : Value), BindsTo s fd ⟨[u], []⟩ [("_law_script", u)]) ∧ ∀ base : Heap, K.In base → base.Ns mainGlobals mg → FnG P w K mg base CX0 7 fa fd ["_law_script"] (spLaw K) := by
  have T : Txt K mg aG dU C := ⟨PySem.W.mg_none_of X G z0, PySem.W.mg_none_of X G z1, PySem.W.mg_none_of X G z2, PySem.W.mg_none_of X G z3, PySem.W.mg_none_of X G z4, PySem.W.mg_none_of X G z5, PySem.W.mg_none_of X G z6, PySem.W.mg_none_of X G z7, PySem.W.mg_none_of X G z8, PySem.W.mg_none_of X G z9, PySem.W.mg_none_of X G z10, PySem.W.mg_none_of X G z11, PySem.W.mg_none_of X G z12, (let ⟨u, a, r⟩ := g0; ⟨u, PySem.W.mg_of X G a, r⟩), ⟨_, PySem.W.mg_of X G gG, rfl⟩, ⟨_, PySem.W.mg_of X G gU, rfl⟩, ⟨_, PySem.W.mg_of X G gC, rfl⟩⟩
  have hU := uni_mk (w := w) tg kS kT tS tT p0 p1 p2 p3 q0 q1 q2 q3 q4 q5
  refine Df.law d13 hfa (fun base kin hns f fd F => ?_) (fun _ _ _ _ _ _ u => rfl)
  have uTy : UTy K (fun t => cond t aT aS) := fun t => by cases t; exact uS; exact uT
  have hi := h_is_integer (P := P) (w := w) (base := base) T d0
  have hpt := h_is_point T d1 hi
  have hcp := h_check_point d2 hpt
  have hcn := h_check_number d3 hi
  have hdice := h_law_dice (P := P) (w := w) (base := base) T d4
  have hroll := h_law_roll (P := P) (w := w) (base := base) T d5
  have hpick := h_law_pick T d6 hroll
  have haround := h_law_around (P := P) (w := w) (base := base) d7
  have hunit := h_law_unit (P := P) (w := w) (base := base) d8
  have hlim := h_law_limit (P := P) (w := w) (base := base) d9
  have hpart := h_law_part d10 hlim hroll hpick
  have hplace := h_law_place d11 hpart
  have mGrid := h_init (P := P) (w := w) (base := base) T hU c di (PySem.W.mg_of X G gC)
  have mu := h_unit c hU T m0 hcn
  have md := h_dir c uTy hU m1 hcp
  have ml := h_len (P := P) (w := w) (base := base) c hU T m2
  have mi := h_iter (P := P) (w := w) (base := base) c hU T m3
  have me := h_eq (P := P) (w := w) (base := base) (U := fun t => cond t aT aS) c gi T m4
  have ms := h_str (P := P) (w := w) (base := base) (U := fun t => cond t aT aS) c T m5
  have hr := h_law_right c gi uTy hU T hroll hpick hpart hplace haround hunit mGrid mu md ml mi me ms d12
  exact law_ok T c gi hU hdice hr mGrid me F
end K03

open PySem PySem.W PyProof.Rows in
set_option maxRecDepth 100000 in
set_option maxHeartbeats 0 in
theorem PySem.Challenge.cw_grownlines_k03_grids_told_holds : PySem.Challenge.rw_grownlines_k03_grids_told.Holds := by
  w_on; o_law; k_head; (case hw => w_witness2)
  k_fill
  refine GL.walk_to (l := PySem.Challenge.rw_grownlines_k03_grids_told) (n := 63) (k := 7) (sp := K03.spLaw) (x := "_law_script") rfl (by decide) rfl ⟨rfl, by decide, by decide⟩ (fun w h Y => PySem.W.kIn_of Y) ?F (fun K H a ns hl hS => ⟨a, ns, rfl, hS, hl, fun _ => rfl⟩)
  case F =>
    intro w mg fa h KX G hmg
    refine' K03.all_mk KX G hmg ?zz0 ?zz1 ?zz2 ?zz3 ?zz4 ?zz5 ?zz6 ?zz7 ?zz8 ?zz9 ?zz10 ?zz11 ?zz12 ?nG ?nU ?nC ?cc ?tg ?kS ?kT ?tS ?tT ?ps0 ?ps1 ?ps2 ?ps3 ?qs0 ?qs1 ?qs2 ?qs3 ?qs4 ?qs5 ?di ?mm0 ?mm1 ?mm2 ?mm3 ?mm4 ?mm5 ?gi ?uS ?uT ?gg0 ?dd0 ?dd1 ?dd2 ?dd3 ?dd4 ?dd5 ?dd6 ?dd7 ?dd8 ?dd9 ?dd10 ?dd11 ?dd12 ?dd13
    (case zz0 => k_is)
    (case zz1 => k_is)
    (case zz2 => k_is)
    (case zz3 => k_is)
    (case zz4 => k_is)
    (case zz5 => k_is)
    (case zz6 => k_is)
    (case zz7 => k_is)
    (case zz8 => k_is)
    (case zz9 => k_is)
    (case zz10 => k_is)
    (case zz11 => k_is)
    (case zz12 => k_is)
    (case nG => k_is)
    (case nU => k_is)
    (case nC => k_is)
    (case cc => exact ⟨⟨by k_is, by k_is, by k_is, by k_is⟩, (show PySem.W.findIn _ _ _ = some none by k_is), (show PySem.W.findIn _ _ _ = some none by k_is), (show PySem.W.findIn _ _ _ = some none by k_is), (show PySem.W.findIn _ _ _ = some none by k_is)⟩)
    (case tg => exact ⟨_, _, _, by k_is, rfl, rfl, by decide, (.cons ⟨_, rfl⟩ (.cons ⟨_, rfl⟩ .nil))⟩)
    (case kS => refine' GL.kdct_mk ?kl ?kn ?kk; (case kl => k_is); (case kn => k_is); (case kk => exact ⟨⟨_, _, rfl, rfl⟩, ⟨_, _, rfl, rfl⟩, True.intro⟩))
    (case kT => refine' GL.kdct_mk ?kl ?kn ?kk; (case kl => k_is); (case kn => k_is); (case kk => exact ⟨⟨_, _, rfl, rfl⟩, ⟨_, _, rfl, rfl⟩, True.intro⟩))
    (case tS => exact ⟨_, _, _, by k_is, rfl, rfl, by decide, (.cons rfl (.cons rfl (.cons rfl (.cons rfl .nil))))⟩)
    (case tT => exact ⟨_, _, _, by k_is, rfl, rfl, by decide, (.cons rfl (.cons rfl (.cons rfl (.cons rfl (.cons rfl (.cons rfl .nil))))))⟩)
    (case ps0 => exact ⟨_, _, _, by k_is, rfl, rfl, by decide, (.cons ⟨_, rfl⟩ (.cons ⟨_, rfl⟩ .nil))⟩)
    (case ps1 => exact ⟨_, _, _, by k_is, rfl, rfl, by decide, (.cons ⟨_, rfl⟩ (.cons ⟨_, rfl⟩ .nil))⟩)
    (case ps2 => exact ⟨_, _, _, by k_is, rfl, rfl, by decide, (.cons ⟨_, rfl⟩ (.cons ⟨_, rfl⟩ .nil))⟩)
    (case ps3 => exact ⟨_, _, _, by k_is, rfl, rfl, by decide, (.cons ⟨_, rfl⟩ (.cons ⟨_, rfl⟩ .nil))⟩)
    (case qs0 => exact ⟨_, _, _, by k_is, rfl, rfl, by decide, (.cons ⟨_, rfl⟩ (.cons ⟨_, rfl⟩ .nil))⟩)
    (case qs1 => exact ⟨_, _, _, by k_is, rfl, rfl, by decide, (.cons ⟨_, rfl⟩ (.cons ⟨_, rfl⟩ .nil))⟩)
    (case qs2 => exact ⟨_, _, _, by k_is, rfl, rfl, by decide, (.cons ⟨_, rfl⟩ (.cons ⟨_, rfl⟩ .nil))⟩)
    (case qs3 => exact ⟨_, _, _, by k_is, rfl, rfl, by decide, (.cons ⟨_, rfl⟩ (.cons ⟨_, rfl⟩ .nil))⟩)
    (case qs4 => exact ⟨_, _, _, by k_is, rfl, rfl, by decide, (.cons ⟨_, rfl⟩ (.cons ⟨_, rfl⟩ .nil))⟩)
    (case qs5 => exact ⟨_, _, _, by k_is, rfl, rfl, by decide, (.cons ⟨_, rfl⟩ (.cons ⟨_, rfl⟩ .nil))⟩)
    (case di => refine' GL.dc_mk ?a ?i ?l ?c ?k ?mk ?kc; (case a => k_is); (case i => k_is); (case l => k_is); (case c => k_is); (case k => k_is); (case mk => k_is); (case kc => k_is))
    (case mm0 => refine' GL.dm_mk ?a ?i ?l ?c ?k; (case a => k_is); (case i => k_is); (case l => k_is); (case c => k_is); (case k => k_is))
    (case mm1 => refine' GL.dm_mk ?a ?i ?l ?c ?k; (case a => k_is); (case i => k_is); (case l => k_is); (case c => k_is); (case k => k_is))
    (case mm2 => refine' GL.dm_mk ?a ?i ?l ?c ?k; (case a => k_is); (case i => k_is); (case l => k_is); (case c => k_is); (case k => k_is))
    (case mm3 => refine' GL.dm_mk ?a ?i ?l ?c ?k; (case a => k_is); (case i => k_is); (case l => k_is); (case c => k_is); (case k => k_is))
    (case mm4 => refine' GL.dm_mk ?a ?i ?l ?c ?k; (case a => k_is); (case i => k_is); (case l => k_is); (case c => k_is); (case k => k_is))
    (case mm5 => refine' GL.dm_mk ?a ?i ?l ?c ?k; (case a => k_is); (case i => k_is); (case l => k_is); (case c => k_is); (case k => k_is))
    (case gi => exact GL.gis_mk (by k_is) (by k_is) (by k_is) (by k_is) (by k_is) (by k_is) (by k_is) (by k_is))
    (case uS => exact ⟨_, by k_is, rfl, rfl⟩)
    (case uT => exact ⟨_, by k_is, rfl, rfl⟩)
    (case gg0 => exact ⟨_, by k_is, ⟨_, by rw [GL.B_eq]; rfl⟩⟩)
    (case dd0 => refine' GL.df_mk KX G ?a ?l ?c ?k; (case a => k_is); (case l => k_is); (case c => k_is); (case k => k_is))
    (case dd1 => refine' GL.df_mk KX G ?a ?l ?c ?k; (case a => k_is); (case l => k_is); (case c => k_is); (case k => k_is))
    (case dd2 => refine' GL.df_mk KX G ?a ?l ?c ?k; (case a => k_is); (case l => k_is); (case c => k_is); (case k => k_is))
    (case dd3 => refine' GL.df_mk KX G ?a ?l ?c ?k; (case a => k_is); (case l => k_is); (case c => k_is); (case k => k_is))
    (case dd4 => refine' GL.df_mk KX G ?a ?l ?c ?k; (case a => k_is); (case l => k_is); (case c => k_is); (case k => k_is))
    (case dd5 => refine' GL.df_mk KX G ?a ?l ?c ?k; (case a => k_is); (case l => k_is); (case c => k_is); (case k => k_is))
    (case dd6 => refine' GL.df_mk KX G ?a ?l ?c ?k; (case a => k_is); (case l => k_is); (case c => k_is); (case k => k_is))
    (case dd7 => refine' GL.df_mk KX G ?a ?l ?c ?k; (case a => k_is); (case l => k_is); (case c => k_is); (case k => k_is))
    (case dd8 => refine' GL.df_mk KX G ?a ?l ?c ?k; (case a => k_is); (case l => k_is); (case c => k_is); (case k => k_is))
    (case dd9 => refine' GL.df_mk KX G ?a ?l ?c ?k; (case a => k_is); (case l => k_is); (case c => k_is); (case k => k_is))
    (case dd10 => refine' GL.df_mk KX G ?a ?l ?c ?k; (case a => k_is); (case l => k_is); (case c => k_is); (case k => k_is))
    (case dd11 => refine' GL.df_mk KX G ?a ?l ?c ?k; (case a => k_is); (case l => k_is); (case c => k_is); (case k => k_is))
    (case dd12 => refine' GL.df_mk KX G ?a ?l ?c ?k; (case a => k_is); (case l => k_is); (case c => k_is); (case k => k_is))
    (case dd13 => refine' GL.df_mk KX G ?a ?l ?c ?k; (case a => k_is); (case l => k_is); (case c => k_is); (case k => k_is))
