import PyProof.Rows.All
import Wide.All
import OpenK.AllK
import Wide.FinOn
import HandS.ForMost
import HandS.IsInst
import HandS.Wide
import HandS.Style
import HandS.TupLe
import HandS.TupAny
import HandS.Walk
import HandS.Evl
import HandS.More
import HandS.Zip
import PyProof.Rows.StrOr
import PyProof.ReprRoads
import PySem.Challenge.RW_grownlines_k05_whole_turns_around_points
set_option Elab.async false
set_option linter.all false
set_option maxRecDepth 100000
set_option exponentiation.threshold 7000
set_option maxHeartbeats 4000000
/-! Promises of defs that are called where nothing is being shown (repr asks it). -/
namespace GL
open PySem PySem.Spec PyProof.Rows L2

def Gd (A : Around) : Prop := A.guards = some []
structure FnG (P : Program) (w : World) (K : PySem.W.Frag) (mg : Str → Option Value) (base : Heap) (CX : CXT) (k : Nat) (f : Addr) (fd : FuncData) (ps : List Str) (sp : Sp) : Prop where
  len : ∀ vs H Q E, sp vs H Q E → vs.length = ps.length
  go : ∀ {A : Around} {outer : List Env} {s : Shared} {H : Hp} {args : Args} {us : List Value} {vs : List V} {Q : VK} {E : XK}, Gd A → Room k A → Env0 P w K mg base A outer s H →
    BindsTo s fd args (ps.zip us) → Vals vs us → sp vs H Q E → codeAny (model P w) A (.call (.ref f) args) (CR CX outer P w H s Q E) s
section
variable {P : Program} {w : World} {K : PySem.W.Frag} {mg : Str → Option Value} {base : Heap} {CX : CXT} {k : Nat} {f : Addr} {fd : FuncData} {ps N : List Str} {sp : Sp} {x qual : Str} {st : Stmt}
theorem FnG.of (F : FnOk P w K mg base CX k f fd ps sp) : FnG P w K mg base CX k f fd ps sp :=
  ⟨F.len, fun {A outer s H args us vs Q E} _ r e b v q => F.run A outer s H args us vs Q E r e b v q⟩
theorem FnG.up {j : Nat} (F : FnG P w K mg base CX j f fd ps sp) (h : j ≤ k) : FnG P w K mg base CX k f fd ps sp :=
  ⟨F.len, fun g r => F.go g (r.mono h)⟩
theorem fnG_mk (F : Fun K x qual st f fd) (S : FnScope N ps (defScope st)) (len : ∀ vs H Q E, sp vs H Q E → vs.length = ps.length)
    (body : ∀ (cdv : Value) (A : Around) (outer : List Env) (s : Shared) (H : Hp) (vs : List V) (Q : VK) (E : XK), Gd A → Room k (A.deeper (envOfC qual (defScope st) s.heap.objs.size f cdv)) → sp vs H Q E →
      ∃ t, PSs (cxOf CX P w K mg base N qual (defScope st) f cdv A outer s H E) (defBody st) t ∧ t { nx := fun _ H' => Q .non H', rt := Q } (start N vs) H) :
    FnG P w K mg base CX (k + 1) f fd ps sp := by
  obtain ⟨oc, od, kV, doc, pm, an, cdv, ct, osl, eF, at_, cR⟩ := F.ex
  subst eF
  constructor
  · exact len
  intro A outer s H args us vs Q E g room e0 bi vals asked
  have inK : K.In s.heap := e0.mod.kin.keeps (fun b o q => (e0.bs b o q).1)
  have line : s.heap.NoLimit := e0.mod.nolimit.keeps (fun b o q => (e0.bs b o q).1)
  have kinds : ∀ y ∈ ps.zip us, (defScope st).names.lookup y.1 = some .local ∨ ((defScope st).names.lookup y.1 = some .cell ∧ ((cellsFrom (s.heap.objs.size + 1) (defScope st).names []).lookup y.1).isSome = true) := by
    intro ⟨n, v⟩ hy
    cases S.par n (List.of_mem_zip hy).1 with
    | inl q => exact Or.inl q
    | inr q => exact Or.inr ⟨q, PySem.W.cellsFrom_some _ _ _ (Or.inl q)⟩
  apply codeAny_call_function room.depth (inK _ _ at_) rfl S.co S.gen rfl (PySem.W.codeRec_of inK cR)
  apply bi
  refine wpAny_newFunctionEnv_cells S.kind kinds (fun env eE s1 x1 => ?_)
  subst eE
  obtain ⟨t, rule, q⟩ := body cdv A outer s H vs Q E g (room.deeper _) asked
  have I0 := inv_start (CX := CX) (E := E) S room.hd e0 (len _ _ _ _ asked) vals x1
  refine ⟨line.keeps x1.toInCall.keep, codeAny_func (wpAny_mono (rule.run [] s1 _ H _ I0 q) (fun fl s' done => ?_) (fun _ _ z => z))⟩
  cases fl with
  | ret u => obtain ⟨v, _, H', J, rv, qv⟩ := done; exact ⟨v, H', J.os, J.bare, J.base, J.hok, rv, qv⟩
  | next => obtain ⟨_, H', J, qv⟩ := done; exact ⟨V.non, H', J.os, J.bare, J.base, J.hok, rfl, qv⟩
  | brk => obtain ⟨_, _, _, z⟩ := done; exact z.elim
  | cont => obtain ⟨_, _, _, z⟩ := done; exact z.elim
end

section
variable {X : Cx} {CX : CXT} {k : Nat} {f C : Addr} {fd : FuncData} {ps : List Str} {sp : Sp} {E : XK} {x m : Str} {p pos apos : Pos} {e o : Expr} {es : List Expr} {ta : TE} {t : TA}

theorem goes {pins : List (Addr × Obj)} {σ : L2.St} {H : Hp} {s : Shared} {Q : VK} {us : List Value} {vs : List V} (F : FnG X.prog X.w X.K X.mg X.base CX k f fd ps sp) (g : Gd X.A) (hr : Room k X.A) (hb : Binds X.K fd ps []) (hx : Passes CX X E)
    (I : Inv X pins σ H s) (r : Vals vs us) (h : sp vs H Q E) : wpAny (model X.prog X.w) X.A (call (.ref f) us) (EP X pins σ Q) X.xe s := by
  have n1 : (us ++ []).length = ps.length := by rw [List.append_nil, ← r.length]; exact F.len _ _ _ _ h
  have b1 := hb s us I.kIn n1
  rw [List.append_nil] at b1
  apply wpAny_call
  refine codeAny_mono (F.go g hr I.env0 b1 r h) (fun res s' z => ?_)
  match res, z with
  | .error _, z => exact hx pins σ H s _ s' I z
  | .ok (.ret _), z => exact I.after z
/-- what a name of a def is good for: the def at it keeps a promise -/
structure Has (P : Program) (w : World) (K : PySem.W.Frag) (mg : Str → Option Value) (base : Heap) (CX : CXT) (x : Str) (k : Nat) (ps : List Str) (sp : Sp) : Prop where
  ex : ∃ f fd, FnG P w K mg base CX k f fd ps sp ∧ mg x = some (.ref f) ∧ PySem.W.keepIn K (.ref f) = true ∧ Binds K fd ps []
theorem pe_callH (h : Has X.prog X.w X.K X.mg X.base CX x k ps sp) (g : Gd X.A) (hr : Room k X.A) (hx : Passes CX X E) (ha : PA X (e :: es) t) (hg : Gl X x := by exact rfl)
    (hdb : (x == ("__debug__" : Str)) = false := by decide) (he : starEach (e :: es) X.env = (false, eval e X.env) :: starEach es X.env := by rfl) (hpl : (backTo pos (starEach es X.env)).any (·.1) = false := by rfl) :
    PE X (.Call (.Name x p) (e :: es) [] pos) (tCall sp [] E t) := by
  obtain ⟨f, fd, F, m, kp, b⟩ := h.ex
  constructor
  intro pins s σ H Q I q
  apply wpAny_Call_Name_kw
  apply ld_glob I hg m _ hdb
  refine PySem.W.callWith_K (h₀ := X.base) I.ok.mod.kin kp (thn (ha.run pos pins s σ H _ I q) (fun us s1 z => ?_)) he hpl
  obtain ⟨vs, H1, I1, r, q1⟩ := z
  rw [List.append_nil] at q1
  exact ⟨I1.kIn, goes F g hr b hx I1 r q1⟩
theorem pe_call0H (h : Has X.prog X.w X.K X.mg X.base CX x k ps sp) (g : Gd X.A) (hr : Room k X.A) (hx : Passes CX X E) (hg : Gl X x := by exact rfl)
    (hdb : (x == ("__debug__" : Str)) = false := by decide) : PE X (.Call (.Name x p) [] [] pos) (tCall sp [] E tNil) := by
  obtain ⟨f, fd, F, m, kp, b⟩ := h.ex
  constructor
  intro pins s σ H Q I q
  apply wpAny_Call_Name_kw
  apply ld_glob I hg m _ hdb
  exact PySem.W.callWith_K0 I.kIn kp (goes (us := []) F g hr b hx I .nil q)
/-- a method of the instances of a class -/
structure HasM (P : Program) (w : World) (K : PySem.W.Frag) (mg : Str → Option Value) (base : Heap) (CX : CXT) (C : Addr) (m : Str) (k : Nat) (ps : List Str) (sp : Sp) : Prop where
  ex : ∃ f fd, FnG P w K mg base CX k f fd ps sp ∧ Meth K C m f ∧ Binds K fd ps []
theorem pe_methH {pl : Sem Bool} (he : PE X o ta) (c : Cls X.K C) (h : HasM X.prog X.w X.K X.mg X.base CX C m k ps sp) (g : Gd X.A) (hr : Room k X.A) (hx : Passes CX X E) (ha : PA X (e :: es) t)
    (hst : starEach (e :: es) X.env = (false, eval e X.env) :: starEach es X.env := by rfl) (hpl : (backTo pos (starEach es X.env)).any (·.1) = false := by rfl)
    (ht : eval (.Call (.Attribute o m apos) (e :: es) [] pos) X.env = ((eval o X.env).bind fun ov => (standAt apos.atName).bind fun _ => (holding [ov] (getMethod ov m pl)).bind fun fm =>
      callWith pos fm.1 fm.2 (backTo pos (starEach (e :: es) X.env)) (backToKw pos (keywordEach [] X.env))) := by rfl) :
    PE X (.Call (.Attribute o m apos) (e :: es) [] pos) (tMeth C m sp [] E ta t) := by
  obtain ⟨f, fd, F, M, b⟩ := h.ex
  constructor
  intro pins s σ H Q I q
  refine PySem.W.methodCall_KW (pl := pl) (thn (he.run pins s σ H _ I q) (fun u s1 z => ?_)) ht
  obtain ⟨x, H1, I1, rx, a, dx, fs, ex, ea, l, q1⟩ := z
  subst ex
  cases (show u = Value.ref a from rx)
  apply getmeth_ok I1 ea c M l
  refine PySem.W.callWith_K (first := [.ref a]) (h₀ := X.base) I.ok.mod.kin M.kp (thn (ha.run pos pins s1 σ H1 _ I1 q1) (fun us s2 z => ?_)) hst hpl
  obtain ⟨vs, H2, I2, r, q2⟩ := z
  rw [List.append_nil] at q2
  exact ⟨I2.kIn, goes (us := .ref a :: us) (vs := .ref a :: vs) F g hr b hx I2 (.cons rfl r) q2⟩
theorem pe_meth0H {pl : Sem Bool} (he : PE X o ta) (c : Cls X.K C) (h : HasM X.prog X.w X.K X.mg X.base CX C m k ps sp) (g : Gd X.A) (hr : Room k X.A) (hx : Passes CX X E)
    (ht : eval (.Call (.Attribute o m apos) [] [] pos) X.env = ((eval o X.env).bind fun ov => (standAt apos.atName).bind fun _ => (holding [ov] (getMethod ov m pl)).bind fun fm =>
      callWith pos fm.1 fm.2 (backTo pos (starEach [] X.env)) (backToKw pos (keywordEach [] X.env))) := by rfl) :
    PE X (.Call (.Attribute o m apos) [] [] pos) (tMeth C m sp [] E ta tNil) := by
  obtain ⟨f, fd, F, M, b⟩ := h.ex
  constructor
  intro pins s σ H Q I q
  refine PySem.W.methodCall_KW (pl := pl) (thn (he.run pins s σ H _ I q) (fun u s1 z => ?_)) ht
  obtain ⟨x, H1, I1, rx, a, dx, fs, ex, ea, l, q1⟩ := z
  subst ex
  cases (show u = Value.ref a from rx)
  apply getmeth_ok I1 ea c M l
  exact PySem.W.callWith_K0 (first := [.ref a]) I1.kIn M.kp (goes (us := [.ref a]) (vs := [.ref a]) F g hr b hx I1 (.cons rfl .nil) q1)
/-- len of an instance whose class has its own __len__ -/
theorem call_lenM (h : HasM X.prog X.w X.K X.mg X.base CX C "__len__" k ["self"] sp) (g : Gd X.A) (hr : Room (k + 1) X.A) (hx : Passes CX X E) :
    CallR X (.builtin "len") (fun xs H Q => ∃ a dx fs, xs = [.ref a] ∧ H a = some (.ins C dx fs) ∧ sp [.ref a] H (fun v H' => ∃ n : Int, v = .int n ∧ 0 ≤ n ∧ n < 2 ^ 63 ∧ Q (.int n) H') E) := by
  intro pins s σ H xs us Q I r q
  obtain ⟨a, dx, fs, rfl, ea, q1⟩ := q
  obtain ⟨f, fd, F, M, b⟩ := h.ex
  obtain ⟨u, rfl, ru⟩ := vals1 r
  cases (show u = Value.ref a from ru)
  obtain ⟨mA, O, _⟩ := ins_get I.hok ea
  obtain ⟨od, J, _⟩ := O.look
  have n1 : ([.ref a] : List Value).length = ["self"].length := rfl
  have b1 := b s [.ref a] I.kIn n1
  rw [List.append_nil] at b1
  obtain ⟨m', fr⟩ := I.fr
  refine PySem.W.len_K fr I.mod.kin J M.at_ M.fn ?_
  apply wpAny_call
  refine codeAny_mono (F.go (A := X.A.in1) g hr.in1 I.env0.in1 b1 (vs := [.ref a]) (.cons rfl .nil) q1) (fun res s' z => ?_)
  match res, z with
  | .error _, z => exact hx pins σ H s _ s' I z
  | .ok (.ret _), z =>
    obtain ⟨v, H', I', rv, n, rfl, n0, n1, q2⟩ := I.after z
    obtain ⟨t, rfl⟩ := rv
    exact ⟨⟨n0, n1⟩, .int n, H', I'.tok _, ⟨_, rfl⟩, q2⟩
/-- a class that is called: its __init__ keeps a promise -/
structure HasC (P : Program) (w : World) (K : PySem.W.Frag) (mg : Str → Option Value) (base : Heap) (x : Str) (C : Addr) (k : Nat) (ps : List Str) (sp : Sp) : Prop where
  ex : ∃ f fd, FnOk P w K mg base CX0 k f fd ps sp ∧ mg x = some (.ref C) ∧ Mk K C f ∧ Binds K fd ps []
theorem pe_makeH (h : HasC X.prog X.w X.K X.mg X.base x C k ps sp) (hr : Room (k + 1) X.A) (hx : Passes CX0 X E) (ha : PA X (e :: es) t) (hg : Gl X x := by exact rfl)
    (hdb : (x == ("__debug__" : Str)) = false := by decide) (he : starEach (e :: es) X.env = (false, eval e X.env) :: starEach es X.env := by rfl) (hpl : (backTo pos (starEach es X.env)).any (·.1) = false := by rfl) :
    PE X (.Call (.Name x p) (e :: es) [] pos) (tMake C sp [] E t) := by
  obtain ⟨f, fd, F, m, M, b⟩ := h.ex
  exact pe_make M F hr hg m b .nil hx ha hdb he hpl
end

/-! ### the script's end -/
section
variable {P : Program} {w : World} {K : PySem.W.Frag} {mg mb : Str → Option Value} {k : Nat} {fa a : Addr} {fd : FuncData} {x : Str} {sp : Sp} {s1 : Shared} {vs : List Value} {ns : List Int} {CX : CXT}
theorem core_end {H : Hp} (inK : K.In s1.heap) (hns : s1.heap.Ns mainGlobals mg) (hb : s1.heap.Ns builtinsNs mb) (hbb : ∀ x : Str, x ≠ "__name__" → mb x = bootBuiltins x) (lim : s1.heap.NoLimit) (hg : s1.gens = #[])
    (ha : s1.heap.get? a = some { cls := .type "list", data := .seq vs.toArray }) (hr : Room k callerA) (F : ∀ base : Heap, K.In base → base.Ns mainGlobals mg → FnG P w K mg base CX k fa fd [x] sp)
    (bi : ∀ (s : Shared) (u : Value), BindsTo s fd ⟨[u], []⟩ [(x, u)]) (asked : sp [.ref a] H (fun v _ => v = .bl true) (fun _ _ _ => False)) (none_ : ∀ e s', CX [] H s1 (fun _ _ _ => False) e s' → False)
    (hO : Only H) (ok : HOk P w H s1.heap) (hA : ∀ b, H b ≠ none → b = a) (hK : H a ≠ none → K.lookup a = none) :
    codeAny (model P w) callerA (.call (.ref fa) ⟨[.ref a], []⟩) (fun r s' => r = .ok (.ret (.bool true)) ∧ OldK s1.heap s'.heap ∧ s'.os = s1.os ∧ AllBare s'.gens) s1 := by
  have untracked : ∀ b o es ep, s1.heap.get? b = some o → o.data = .dict es ep → H b = none := by
    intro b o es ep e d
    rcases hq : H b with _ | u
    · rfl
    · have eb := hA b (by rw [hq]; exact nofun)
      rw [eb, ha] at e
      rw [← Option.some.inj e] at d
      exact absurd d (by exact nofun)
  have ns_ : ∀ b m, s1.heap.Ns b m → (hidT s1.heap H).Ns b m := by
    rintro b m ⟨o, es, ep, e, d, r⟩
    exact ⟨o, es, ep, hidT_get e (untracked b o es ep e d), d, r⟩
  have kin : K.In (hidT s1.heap H) := by
    intro b o e
    apply hidT_get (inK b o e)
    rcases hq : H b with _ | u
    · rfl
    · have eb := hA b (by rw [hq]; exact nofun)
      subst eb
      rw [hK (by rw [hq]; exact nofun)] at e
      exact absurd e nofun
  obtain ⟨mc, l1, l2⟩ := lim
  have e0 : Env0 P w K mg (hidT s1.heap H) callerA [] s1 H :=
    { frames := rfl, mod := ⟨kin, ns_ _ _ hns, ⟨mb, ns_ _ _ hb, hbb⟩, ⟨mc, ns_ _ _ l1, l2⟩⟩, bs := fun b o e => of_hidT e, bsz := Nat.le_of_eq (hidT_size _ _), funs := trivial,
      frf := fun b z => absurd (show b ∈ ([] : List Addr) from z) (List.not_mem_nil), hok := ok, bare := .of_eq hg }
  refine codeAny_mono ((F _ kin (ns_ _ _ hns)).go (args := ⟨[.ref a], []⟩) (us := [.ref a]) (vs := [.ref a]) rfl hr e0 (bi s1 (.ref a)) (.cons rfl .nil) asked) (fun r s' z => ?_)
  match r, z with
  | .error e, z => exact (none_ e s' z).elim
  | .ok (.ret u), z =>
    obtain ⟨v, H', os, bare, un, ok', rv, qv⟩ := z
    cases (show v = .bl true from qv)
    cases (show u = Value.bool true from rv)
    refine ⟨rfl, OldK.of_keep (fun b o e => ?_), os, bare⟩
    rcases hq : H b with _ | u
    · exact un.keep b o e hq (fun z => absurd (show b ∈ ([] : List Addr) from z) List.not_mem_nil) List.not_mem_nil
    · rcases hO b with z | ⟨ob, xs, z⟩
      · rw [z] at hq; cases hq
      · have g1 := (ok b _ z).1
        have g2 := (ok' b _ (un.frzs b ob _ z)).1
        rw [e] at g1
        rw [g2, ← g1]
theorem law_end (inK : K.In s1.heap) (hns : s1.heap.Ns mainGlobals mg) (hb : s1.heap.Ns builtinsNs mb) (hbb : ∀ x : Str, x ≠ "__name__" → mb x = bootBuiltins x) (lim : s1.heap.NoLimit) (hg : s1.gens = #[])
    (ha : s1.heap.get? a = some { cls := .type "list", data := .seq vs.toArray }) (hi : IntsAre vs ns) (hl : ns.length ≤ sizeLine) (hr : Room k callerA) (F : ∀ base : Heap, K.In base → base.Ns mainGlobals mg → FnG P w K mg base CX k fa fd [x] sp)
    (bi : ∀ (s : Shared) (u : Value), BindsTo s fd ⟨[u], []⟩ [(x, u)]) (asked : ∀ H : Hp, Only H → SqL K H a (ns.map V.int) → sp [.ref a] H (fun v _ => v = .bl true) (fun _ _ _ => False)) (none_ : ∀ H e s', CX [] H s1 (fun _ _ _ => False) e s' → False) :
    codeAny (model P w) callerA (.call (.ref fa) ⟨[.ref a], []⟩) (fun r s' => r = .ok (.ret (.bool true)) ∧ OldK s1.heap s'.heap ∧ s'.os = s1.os ∧ AllBare s'.gens) s1 := by
  have rv := vals_ints hi
  have lv : ns.length = vs.length := by have := rv.length; rwa [List.length_map] at this
  rcases hk : K.lookup a with _ | o
  · have own : ∀ b, (fun b => if b = a then some (HO.frz { cls := .type "list", data := .seq vs.toArray } (.lst (ns.map V.int))) else none : Hp) b ≠ none → b = a := by
      intro b z
      by_cases e : b = a
      · exact e
      · exact absurd (if_neg e) z
    have here : (fun b => if b = a then some (HO.frz { cls := .type "list", data := .seq vs.toArray } (.lst (ns.map V.int))) else none : Hp) a = some (HO.frz { cls := .type "list", data := .seq vs.toArray } (.lst (ns.map V.int))) := if_pos rfl
    have only : Only (fun b => if b = a then some (HO.frz { cls := .type "list", data := .seq vs.toArray } (.lst (ns.map V.int))) else none) := by
      intro b
      by_cases e : b = a
      · subst e; exact .inr ⟨_, _, here⟩
      · exact .inl (if_neg e)
    refine core_end inK hns hb hbb lim hg ha hr F bi (asked _ only (.inl (.inr ⟨_, here⟩))) (none_ _) only (fun b u z => ?_) own (fun _ => hk)
    have e := own b (fun h0 => by have z2 : some u = none := z.symm.trans h0; cases z2)
    subst e
    have z := here.symm.trans z
    cases z
    exact ⟨ha, by rw [List.length_map]; exact hl, vs, _, rv, ha⟩
  · have e := inK a o hk
    rw [ha] at e
    have e' := Option.some.inj e
    subst e'
    exact core_end (H := fun _ => none) inK hns hb hbb lim hg ha hr F bi (asked _ (fun _ => .inl rfl) (.inr ⟨_, vs.toArray, _, hk, rfl, rfl, rfl, by rw [List.size_toArray, ← lv]; exact hl, by simpa using rv⟩)) (none_ _) (fun _ => .inl rfl) (fun b u z => by cases z) (fun b z => absurd rfl z) (fun z => absurd rfl z)
theorem walk_to {l : PySem.W.OpenLaw} {n k : Nat} {q : Program} {loose : List Str} {XP : (Str → Option Value) → Heap → Prop} {YP : World → Heap → Prop} {d : DefRec} {Kf : Params → PySem.W.Frag} {sp : PySem.W.Frag → Sp} {x : Str}
    (hn : l.most = some n) (hn2 : n ≤ sizeLine) (hdf : d.params.defaults = []) (hr : Room k callerA) (hY : ∀ (w : World) (h : Heap), YP w h → (Kf w.params).In h)
    (F : ∀ (w : World) (mg : Str → Option Value) (fa : Addr) (h : Heap), (Kf w.params).In h → h.Ns mainGlobals mg → mg d.name = some (.ref fa) →
      ∃ fd : FuncData, (∀ (s : Shared) (u : Value), BindsTo s fd ⟨[u], []⟩ [(x, u)]) ∧ ∀ base : Heap, (Kf w.params).In base → base.Ns mainGlobals mg → FnG l.prog w (Kf w.params) mg base CX0 k fa fd [x] (sp (Kf w.params)))
    (hsp : ∀ (K : PySem.W.Frag) (H : Hp) (a : Addr) (ns : List Int), ns.length ≤ n → SqL K H a (ns.map V.int) → sp K [.ref a] H (fun v _ => v = .bl true) (fun _ _ _ => False)) :
    PySem.W.WalkO q loose XP YP l.row.toRowW d [] (fun f vs => PySem.call f vs) := by
  apply Att.attach_call hn hdf
  intro w s0 s1 mg mb fa o pm cd doc a vs ns G Y _ _ _ hmg obj hInts few gens
  obtain ⟨fd, bi, hF⟩ := F w mg fa _ (hY w _ Y) G.T.g hmg
  exact law_end (hY w _ Y) G.T.g G.T.b G.T.builtins G.T.nolimit gens obj hInts (Nat.le_trans few hn2) hr hF bi (fun H _ S => hsp _ H a ns few S) (fun _ _ _ z => z)
end
end GL
/-! Rules and promises that the proofs of this program share. -/
namespace GL
open PySem PySem.Spec PyProof.Rows L2

/-- a def as it stands behind the top -/
structure Df (K : PySem.W.Frag) (mg : Str → Option Value) (x : Str) (st : Stmt) : Prop where
  ex : ∃ f fd, Fun K x x st f fd ∧ mg x = some (.ref f)
theorem df_mk {K : PySem.W.Frag} {h : Heap} {mg : Str → Option Value} {x : Str} {st : Stmt} {f : Addr} {oc : Value} {od an : Option Addr} {osl : Array (Option Value)} {kV doc pm cdv ct : Value} (X : K.In h) (G : h.Ns mainGlobals mg)
    (a : PySem.W.nsIn K mainGlobals x = some (some (.ref f))) (l : K.lookup f = some ⟨oc, od, .func (PySem.W.fnOf x x (defArgs st) (defBody st) (defScope st) .none kV doc pm an cdv ct), osl⟩)
    (c : PySem.W.codeIn K cdv x = true) (k : PySem.W.keepIn K (.ref f) = true) : Df K mg x st := ⟨f, _, fun_mk l c k, PySem.W.mg_of X G a⟩
section
variable {P : Program} {w : World} {K : PySem.W.Frag} {mg : Str → Option Value} {base : Heap}
theorem _root_.L2.Fun.g {x qual : Str} {st : Stmt} {N ps : List Str} {k : Nat} {sp : Sp} {f : Addr} {fd : FuncData} (F : Fun K x qual st f fd) (S : FnScope N ps (defScope st)) (len : ∀ vs H Q E, sp vs H Q E → vs.length = ps.length)
    (body : ∀ (cdv : Value) (A : Around) (outer : List Env) (s : Shared) (H : Hp) (vs : List V) (Q : VK) (E : XK), Gd (A.deeper (envOfC qual (defScope st) s.heap.objs.size f cdv)) → Room k (A.deeper (envOfC qual (defScope st) s.heap.objs.size f cdv)) → sp vs H Q E →
      ∃ t, PSs (cxOf CX0 P w K mg base N qual (defScope st) f cdv A outer s H E).nox (defBody st) t ∧ t { nx := fun _ H' => Q .non H', rt := Q } (start N vs) H) : FnG P w K mg base CX0 (k + 1) f fd ps sp := by
  refine fnG_mk F S len (fun cdv A outer s H vs Q E g hr q => ?_)
  obtain ⟨t, ht, q⟩ := body cdv A outer s H vs Q E g hr q
  exact ⟨t, ht.nox, q⟩
/-- a method, and the __init__ of a class, as they stand behind the top -/
structure Dm (K : PySem.W.Frag) (C : Addr) (m qual : Str) (st : Stmt) : Prop where
  ex : ∃ f fd, Fun K m qual st f fd ∧ Meth K C m f
structure Dc (K : PySem.W.Frag) (C : Addr) (qual : Str) (st : Stmt) : Prop where
  ex : ∃ f fd, Fun K "__init__" qual st f fd ∧ Mk K C f
theorem dm_mk {C f : Addr} {m qual : Str} {st : Stmt} {oc : Value} {od an : Option Addr} {osl : Array (Option Value)} {kV doc pm cdv ct : Value} (a : PySem.W.findIn K (.ref C) m = some (some (.ref f))) (i : PySem.W.isFn K (.ref f) = true)
    (l : K.lookup f = some ⟨oc, od, .func (PySem.W.fnOf m qual (defArgs st) (defBody st) (defScope st) .none kV doc pm an cdv ct), osl⟩) (c : PySem.W.codeIn K cdv qual = true) (k : PySem.W.keepIn K (.ref f) = true) : Dm K C m qual st :=
  ⟨f, _, fun_mk l c k, ⟨a, i, k⟩⟩
theorem dc_mk {C f : Addr} {qual : Str} {st : Stmt} {oc : Value} {od an : Option Addr} {osl : Array (Option Value)} {kV doc pm cdv ct : Value} (a : PySem.W.findIn K (.ref C) "__init__" = some (some (.ref f))) (i : PySem.W.isFn K (.ref f) = true)
    (l : K.lookup f = some ⟨oc, od, .func (PySem.W.fnOf "__init__" qual (defArgs st) (defBody st) (defScope st) .none kV doc pm an cdv ct), osl⟩) (c : PySem.W.codeIn K cdv qual = true) (k : PySem.W.keepIn K (.ref f) = true)
    (mk : PySem.W.makesIn K C = true) (kc : PySem.W.keepIn K (.ref C) = true) : Dc K C qual st :=
  ⟨f, _, fun_mk l c k, ⟨mk, a, i, kc⟩⟩
theorem Dm.has {C : Addr} {m qual : Str} {st : Stmt} {N ps : List Str} {k : Nat} {sp : Sp} (D : Dm K C m qual st) (S : FnScope N ps (defScope st)) (len : ∀ vs H Q E, sp vs H Q E → vs.length = ps.length)
    (bi : ∀ (kV doc pm : Value) (an : Option Addr) (cdv ct : Value) (us : List Value), us.length = ps.length → bindArgs (PySem.W.fnOf m qual (defArgs st) (defBody st) (defScope st) .none kV doc pm an cdv ct) ⟨us, []⟩ = pure (ps.zip us))
    (body : ∀ (f : Addr) (cdv : Value) (A : Around) (outer : List Env) (s : Shared) (H : Hp) (vs : List V) (Q : VK) (E : XK), Gd (A.deeper (envOfC qual (defScope st) s.heap.objs.size f cdv)) → Room k (A.deeper (envOfC qual (defScope st) s.heap.objs.size f cdv)) → sp vs H Q E →
      ∃ t, PSs (cxOf CX0 P w K mg base N qual (defScope st) f cdv A outer s H E).nox (defBody st) t ∧ t { nx := fun _ H' => Q .non H', rt := Q } (start N vs) H) : HasM P w K mg base CX0 C m (k + 1) ps sp := by
  obtain ⟨f, fd, F, M⟩ := D.ex
  exact ⟨f, fd, F.g S len (body f), M, F.binds bi⟩
theorem Dc.has {C : Addr} {x qual : Str} {st : Stmt} {N ps : List Str} {k : Nat} {sp : Sp} (D : Dc K C qual st) (m : mg x = some (.ref C)) (S : FnScope N ps (defScope st)) (len : ∀ vs H Q E, sp vs H Q E → vs.length = ps.length)
    (bi : ∀ (kV doc pm : Value) (an : Option Addr) (cdv ct : Value) (us : List Value), us.length = ps.length → bindArgs (PySem.W.fnOf "__init__" qual (defArgs st) (defBody st) (defScope st) .none kV doc pm an cdv ct) ⟨us, []⟩ = pure (ps.zip us))
    (body : ∀ (f : Addr) (cdv : Value) (A : Around) (outer : List Env) (s : Shared) (H : Hp) (vs : List V) (Q : VK) (E : XK), Room k (A.deeper (envOfC qual (defScope st) s.heap.objs.size f cdv)) → sp vs H Q E →
      ∃ t, PSs (cxOf CX0 P w K mg base N qual (defScope st) f cdv A outer s H E).nox (defBody st) t ∧ t { nx := fun _ H' => Q .non H', rt := Q } (start N vs) H) : HasC P w K mg base x C (k + 1) ps sp := by
  obtain ⟨f, fd, F, M⟩ := D.ex
  exact ⟨f, fd, F.ok S len (body f), m, M, F.binds bi⟩
theorem Df.has {x : Str} {st : Stmt} {N ps : List Str} {k : Nat} {sp : Sp} (D : Df K mg x st) (S : FnScope N ps (defScope st)) (len : ∀ vs H Q E, sp vs H Q E → vs.length = ps.length)
    (bi : ∀ (kV doc pm : Value) (an : Option Addr) (cdv ct : Value) (us : List Value), us.length = ps.length → bindArgs (PySem.W.fnOf x x (defArgs st) (defBody st) (defScope st) .none kV doc pm an cdv ct) ⟨us, []⟩ = pure (ps.zip us))
    (body : ∀ (f : Addr) (cdv : Value) (A : Around) (outer : List Env) (s : Shared) (H : Hp) (vs : List V) (Q : VK) (E : XK), Gd (A.deeper (envOfC x (defScope st) s.heap.objs.size f cdv)) → Room k (A.deeper (envOfC x (defScope st) s.heap.objs.size f cdv)) → sp vs H Q E →
      ∃ t, PSs (cxOf CX0 P w K mg base N x (defScope st) f cdv A outer s H E).nox (defBody st) t ∧ t { nx := fun _ H' => Q .non H', rt := Q } (start N vs) H) : Has P w K mg base CX0 x (k + 1) ps sp := by
  obtain ⟨f, fd, F, m⟩ := D.ex
  exact ⟨f, fd, F.g S len (body f), m, F.kp, F.binds bi⟩
/-- the law's own def, for the end -/
theorem Df.law {x : Str} {st : Stmt} {p : Str} {k : Nat} {sp : Sp} {fa : Addr} (D : Df K mg x st) (m : mg x = some (.ref fa)) (S : ∀ base : Heap, K.In base → base.Ns mainGlobals mg → ∀ f fd, Fun K x x st f fd → FnG P w K mg base CX0 k f fd [p] sp)
    (bi : ∀ (kV doc pm : Value) (an : Option Addr) (cdv ct : Value) (u : Value), bindArgs (PySem.W.fnOf x x (defArgs st) (defBody st) (defScope st) .none kV doc pm an cdv ct) ⟨[u], []⟩ = pure [(p, u)]) :
    ∃ fd : FuncData, (∀ (s : Shared) (u : Value), BindsTo s fd ⟨[u], []⟩ [(p, u)]) ∧ ∀ base : Heap, K.In base → base.Ns mainGlobals mg → FnG P w K mg base CX0 k fa fd [p] sp := by
  obtain ⟨f, fd, F, m'⟩ := D.ex
  rw [m] at m'
  cases m'
  obtain ⟨oc, od, kV, doc, pm, an, cdv, ct, osl, eF, at_, cR⟩ := F.ex
  exact ⟨fd, fun s u => by subst eF; exact .of_eq (bi kV doc pm an cdv ct u), fun base kin hns => S base kin hns _ _ F⟩
end

/-- what a name of the module holds -/
def MgV (mg : Str → Option Value) (x : Str) (v : V) : Prop := ∃ u, mg x = some u ∧ RelV v u
theorem pe_globV {X : Cx} {x : Str} {v : V} {pos : Pos} (h : MgV X.mg x v) (hg : Gl X x := by exact rfl) (hd : (x == ("__debug__" : Str)) = false := by decide) : PE X (.Name x pos) (tC v) := by
  obtain ⟨u, m, r⟩ := h
  exact pe_glob hg m r hd

/-! ### repr of data -/
def rRepr (K : PySem.W.Frag) : List V → Hp → VK → Prop := fun xs H Q => ∃ x d, xs = [x] ∧ Dp K H x d ∧ d.showable = true ∧ d.hasDict = false ∧ d.depth ≤ 20 ∧ d.shown.length ≤ sizeLine ∧ Q (.str d.shown) H
theorem call_repr {X : Cx} (hg : Gd X.A) (hu : X.A.units + 64 < cLine) : CallR X (.builtin "repr") (rRepr X.K) := by
  intro pins s σ H xs us Q I r h
  obtain ⟨x, d, rfl, hd, hs, hn, hp, hz, q⟩ := h
  obtain ⟨u, rfl, r1⟩ := vals1 r
  have hh : ∀ v, RelV x v → ∃ as, Reads s.heap v d as := fun v rv => Dp.reads I d x v hd rv
  obtain ⟨as, hr⟩ := hh u r1
  cases d with
  | none => cases hr; exact PySem.P.repr_of_none ⟨.str _, H, I.tok _, ⟨_, rfl⟩, q⟩
  | bool b => cases hr; exact PySem.P.repr_of_bool ⟨.str _, H, I.tok _, ⟨_, rfl⟩, q⟩
  | int i => cases hr; exact PySem.P.repr_of_int (by simpa [PyData.showable] using hs) ⟨.str _, H, I.tok _, ⟨_, rfl⟩, q⟩
  | str y => cases hr; exact PySem.P.repr_of_str ⟨.str _, H, I.tok _, ⟨_, rfl⟩, q⟩ hz
  | list ds =>
    obtain ⟨a, rfl⟩ := isRef_of_reads hr rfl
    exact repr_of_reads' hr hs (PyData.noDict_hsm hn) hg (by omega) (fun _ _ e => e) (fun h' u tk hk => ⟨.str _, H, I.kept hk, ⟨_, rfl⟩, q⟩) hz
  | tuple ds =>
    obtain ⟨a, rfl⟩ := isRef_of_reads hr rfl
    exact repr_of_reads' hr hs (PyData.noDict_hsm hn) hg (by omega) (fun _ _ e => e) (fun h' u tk hk => ⟨.str _, H, I.kept hk, ⟨_, rfl⟩, q⟩) hz
  | dict kvs => cases hd

/-! ### values of expressions that change nothing -/
def Vl (te : TE) (σ : L2.St) (v : V) : Prop := ∀ (H : Hp) (Q : VK), Q v H → te σ H Q
theorem vl_and {ta tb : TE} {σ : L2.St} {a b : Bool} (ha : Vl ta σ (.bl a)) (hb : a = true → Vl tb σ (.bl b)) : Vl (tAndV ta tb) σ (.bl (a && b)) := by
  intro H Q q
  refine ha H _ ⟨a, rfl, ?_⟩
  cases a with
  | true => exact iteT (hb rfl H _ q)
  | false => exact iteF q
theorem vl_or {ta tb : TE} {σ : L2.St} {a b : Bool} (ha : Vl ta σ (.bl a)) (hb : a = false → Vl tb σ (.bl b)) : Vl (tOrV ta tb) σ (.bl (a || b)) := by
  intro H Q q
  refine ha H _ ⟨a, rfl, ?_⟩
  cases a with
  | true => exact iteT q
  | false => exact iteF (hb rfl H _ q)

/-! ### in a tuple of data, whatever the depth -/
def rInT (K : PySem.W.Frag) : R2 := fun x y H Q => ∃ d ds, Dp K H x d ∧ Dp K H y (.tuple ds) ∧ SeqAt.shaped d = true ∧ SeqAt.shaped (.tuple ds) = true ∧ Q (.bl (ds.any fun z => PyData.eqv z d)) H
theorem op_inT {X : Cx} (hu : X.A.units + 66 < cLine) : OpR X (compareOp .In) (rInT X.K) := by
  intro pins s σ H x y v u Q I rx ry asked
  obtain ⟨d, ds, hd, he, sd, se, q⟩ := asked
  obtain ⟨_, r1⟩ := Dp.reads I d x v hd rx
  obtain ⟨_, r2⟩ := Dp.reads I (.tuple ds) y u he ry
  have z := SeqAt.depth_of_shaped sd
  exact SeqAt.in_tuple_reads r2 r1 (SeqAt.canLay_of_shaped se) (SeqAt.canLay_of_shaped sd) (by have := Nat.min_le_right (PyData.depthAll ds) d.depth; omega) ⟨.bl _, H, I, rfl, q⟩

/-! ### how many different ints -/
def dist (ns : List Int) : Nat := (ns.foldl PyProof.Rows.step_dedup []).length
theorem range_getD (ns : List Int) : (List.range ns.length).map (fun i => ns.getD i 0) = ns := by
  apply List.ext_getElem
  · rw [List.length_map, List.length_range]
  · intro i h1 h2
    rw [List.getElem_map, List.getElem_range, List.getD_eq_getElem?_getD, List.getElem?_eq_getElem h2]
    rfl
def tLenSet (K : PySem.W.Frag) (ta : TE) : TE := fun σ H Q => ta σ H fun x H1 => ∃ (l : Addr) (ns : List Int), x = .ref l ∧ SqL K H1 l (ns.map V.int) ∧ ns.length < 64 ∧ Q (.int (dist ns : Nat)) H1
theorem pe_lenSet {X : Cx} {a : Expr} {ta : TE} {p p2 q pos : Pos} (hm : X.mg "len" = none) (hm2 : X.mg "set" = none) (ha : PE X a ta) (hg : Gl X "len" := by exact rfl) (hg2 : Gl X "set" := by exact rfl) (hc : X.calm = true := by rfl)
    (na : starEach [a] X.env = (false, eval a X.env) :: starEach [] X.env := by rfl) : PE X (.Call (.Name "len" p) [.Call (.Name "set" p2) [a] [] q] [] pos) (tLenSet X.K ta) := by
  constructor
  intro pins s σ H Q I asked
  refine Call_ ?_
  apply ld_blt I hg hm PySem.boot_len
  apply PyProof.Rows.callWith_builtin1 _ rfl rfl
  apply PyProof.Rows.args_cons _ rfl
  refine Call_ ?_
  apply ld_blt I hg2 hm2 PyProof.Rows.boot_set
  refine PyProof.Rows.callWith_type1 (PyProof.Rows.args_cons (thn (ha.run pins s σ H _ I asked) (fun v s1 z => PyProof.Rows.args_nil ?_)) na) na rfl
  obtain ⟨x, H1, I1, r1, l, ns, ex, hq, small, q1⟩ := z
  subst ex
  cases (show v = Value.ref l from r1)
  obtain ⟨its, r, pl, _⟩ := I1.list hq
  have size : its.toArray.size = ns.length := by have := r.length; rw [List.length_map] at this; rw [List.size_toArray, this]
  refine call_set_list (I1.ok.hd hc) pl.isList (ns := ns) (by simpa using r.ints) (by rw [size]; unfold scanBound; omega) (fun h' tk hS hk => ?_)
  apply PyProof.Rows.args_nil
  have e : (PyProof.Rows.firstMet (fun i => ns.getD i 0) its.toArray.size).length = dist ns := by
    rw [size]
    unfold PyProof.Rows.firstMet dist
    rw [range_getD]
  have few : dist ns ≤ ns.length := by rw [← e, size]; exact PyProof.Rows.firstMet_length_le _ _
  obtain ⟨o, es, ep, t, ho, hex, hd, _, _, _, hf, hn⟩ := hS
  rw [e] at hn
  have I2 : Inv X pins σ H1 { s1 with heap := h', toks := tk } := I1.kept (fun b o e => hk b o (Heap.lt_size e) e)
  exact call_len_set ho hex hd hf (by rw [hn]; omega) ⟨.int (dist ns : Nat), H1, I2.tok _, ⟨_, by rw [hn]⟩, q1⟩

/-! ### great powers -/
def CPowW (i j : Int) : Prop := 0 ≤ j ∧ (Builtin.Int.intBits i : Int) * j ≤ 2 ^ 27
theorem op_powW {X : Cx} : OpR X (binaryOp .Pow) (rI CPowW fun i j => .int (i ^ j.toNat)) := opI fun _ _ _ _ _ _ _ hc q => pow_int hc.1 hc.2 q

/-! ### kinds of values -/
inductive Kd where | non | bl | int | str | lst | tup | dct
def Kd.nm : Kd → String
  | .non => "NoneType" | .bl => "bool" | .int => "int" | .str => "str" | .lst => "list" | .tup => "tuple" | .dct => "dict"
def Kd.isB : Kd → Bool | .bl => true | _ => false
def Kd.isI : Kd → Bool | .bl => true | .int => true | _ => false
def Kd.isS : Kd → Bool | .str => true | _ => false
def Kd.isT : Kd → Bool | .tup => true | _ => false
theorem kit_bool {K : PySem.W.Frag} (k : Kd) : PySem.W.kitOne K (.type k.nm) (.type "bool") = some k.isB := by cases k <;> exact kit_ty (by decide +kernel)
theorem kit_int {K : PySem.W.Frag} (k : Kd) : PySem.W.kitOne K (.type k.nm) (.type "int") = some k.isI := by cases k <;> exact kit_ty (by decide +kernel)
theorem kit_str {K : PySem.W.Frag} (k : Kd) : PySem.W.kitOne K (.type k.nm) (.type "str") = some k.isS := by cases k <;> exact kit_ty (by decide +kernel)
theorem kit_tup {K : PySem.W.Frag} (k : Kd) : PySem.W.kitOne K (.type k.nm) (.type "tuple") = some k.isT := by cases k <;> exact kit_ty (by decide +kernel)
/-- a value of a kind -/
def Of (K : PySem.W.Frag) (H : Hp) (x : V) (k : Kd) : Prop := TyX K H x (.type k.nm)
theorem Of.bl {K : PySem.W.Frag} {H : Hp} {b : Bool} : Of K H (.bl b) .bl := .base (.bl b)
theorem Of.int {K : PySem.W.Frag} {H : Hp} {i : Int} : Of K H (.int i) .int := .base (.int i)
theorem Of.str {K : PySem.W.Frag} {H : Hp} {y : Str} : Of K H (.str y) .str := .base (.str y)
theorem Of.non {K : PySem.W.Frag} {H : Hp} : Of K H .non .non := .base .non
theorem Of.lst {K : PySem.W.Frag} {H : Hp} {a : Addr} {xs : List V} (h : H a = some (.lst xs)) : Of K H (.ref a) .lst := .base (.lst h)
theorem Of.tup {K : PySem.W.Frag} {H : Hp} {a : Addr} {xs : List V} (h : H a = some (.tup xs)) : Of K H (.ref a) .tup := .base (.tup h)
theorem Of.dct {K : PySem.W.Frag} {H : Hp} {a : Addr} {xs : List (Key × V)} (h : H a = some (.dK xs)) : Of K H (.ref a) .dct := .base (.dK h)
theorem Of.blI {K : PySem.W.Frag} {H : Hp} {x : V} (h : Of K H x .bl) : ∃ i, x = .bl i := by
  have e : Value.type (Kd.nm .bl) = .type "bool" := rfl
  unfold Of at h
  rw [e] at h
  generalize ht : Value.type "bool" = t at h
  cases h with
  | base b => cases b <;> first | exact ⟨_, rfl⟩ | exact absurd ht (by decide +kernel) | (exact absurd ht (by intro z; cases z))
  | byt b => exact absurd ht (by decide +kernel)
  | set _ => exact absurd ht (by decide +kernel)
  | kList _ _ => exact absurd ht (by decide +kernel)
  | kTuple _ _ => exact absurd ht (by decide +kernel)
  | kDict _ _ => exact absurd ht (by decide +kernel)
  | fTuple _ => exact absurd ht (by decide +kernel)
  | fDict _ => exact absurd ht (by decide +kernel)
theorem Of.intI {K : PySem.W.Frag} {H : Hp} {x : V} (h : Of K H x .int) : ∃ i, x = .int i := by
  have e : Value.type (Kd.nm .int) = .type "int" := rfl
  unfold Of at h
  rw [e] at h
  generalize ht : Value.type "int" = t at h
  cases h with
  | base b => cases b <;> first | exact ⟨_, rfl⟩ | exact absurd ht (by decide +kernel) | (exact absurd ht (by intro z; cases z))
  | byt b => exact absurd ht (by decide +kernel)
  | set _ => exact absurd ht (by decide +kernel)
  | kList _ _ => exact absurd ht (by decide +kernel)
  | kTuple _ _ => exact absurd ht (by decide +kernel)
  | kDict _ _ => exact absurd ht (by decide +kernel)
  | fTuple _ => exact absurd ht (by decide +kernel)
  | fDict _ => exact absurd ht (by decide +kernel)
theorem Of.strI {K : PySem.W.Frag} {H : Hp} {x : V} (h : Of K H x .str) : ∃ i, x = .str i := by
  have e : Value.type (Kd.nm .str) = .type "str" := rfl
  unfold Of at h
  rw [e] at h
  generalize ht : Value.type "str" = t at h
  cases h with
  | base b => cases b <;> first | exact ⟨_, rfl⟩ | exact absurd ht (by decide +kernel) | (exact absurd ht (by intro z; cases z))
  | byt b => exact absurd ht (by decide +kernel)
  | set _ => exact absurd ht (by decide +kernel)
  | kList _ _ => exact absurd ht (by decide +kernel)
  | kTuple _ _ => exact absurd ht (by decide +kernel)
  | kDict _ _ => exact absurd ht (by decide +kernel)
  | fTuple _ => exact absurd ht (by decide +kernel)
  | fDict _ => exact absurd ht (by decide +kernel)
/-- a value that is no int -/
theorem Of.notInt {K : PySem.W.Frag} {H : Hp} {i : Int} {k : Kd} (h : Of K H (.int i) k) : k = .int := by
  unfold Of at h
  generalize ht : Value.type k.nm = t at h
  cases h with
  | base b =>
    cases b
    cases k <;> first | rfl | exact absurd ht (by decide +kernel)
theorem Of.notStr {K : PySem.W.Frag} {H : Hp} {i : Str} {k : Kd} (h : Of K H (.str i) k) : k = .str := by
  unfold Of at h
  generalize ht : Value.type k.nm = t at h
  cases h with
  | base b =>
    cases b
    cases k <;> first | rfl | exact absurd ht (by decide +kernel)

/-! ### the dice: a list of three ints, the first of them not below nought -/
def Die (H : Hp) (p : Addr) : Prop := ∃ l b c : Int, 0 ≤ l ∧ H p = some (.lst [.int l, .int b, .int c])
/-- all but the dice at p is as it was -/
structure Got (p : Addr) (H H' : Hp) : Prop where
  keep : ∀ b o, H b = some o → b ≠ p → H' b = some o
  die : Die H' p
theorem Got.same {p : Addr} {H : Hp} (d : Die H p) : Got p H H := ⟨fun _ _ e _ => e, d⟩
theorem Got.trans {p : Addr} {H H1 H2 : Hp} (a : Got p H H1) (b : Got p H1 H2) : Got p H H2 := ⟨fun c o e n => b.keep c o (a.keep c o e n) n, b.die⟩
theorem Got.roll {p : Addr} {H : Hp} {l b c : Int} (h : 0 ≤ l) : Got p H (upd H p (.lst [.int l, .int b, .int c])) := ⟨fun d o e n => by rw [upd_ne n]; exact e, l, b, c, h, upd_same⟩
theorem Got.new {p q : Addr} {H : Hp} {o : HO} (d : Die H p) (n : H q = none) : Got p H (upd H q o) := by
  obtain ⟨l, b, c, l0, e⟩ := d
  exact ⟨fun x u z _ => by rw [upd_ne (ne_of_none z n)]; exact z, l, b, c, l0, by rw [upd_ne (ne_of_none e n)]; exact e⟩
theorem Got.free {p q : Addr} {H H' : Hp} (g : Got p H H') (d : Die H p) (n : H' q = none) : H q = none := by
  cases e : H q with
  | none => rfl
  | some o =>
    obtain ⟨l, b, c, _, ep⟩ := g.die
    by_cases z : q = p
    · rw [z, ep] at n; cases n
    · rw [g.keep q o e z] at n; cases n
theorem Got.over {p t : Addr} {H H' : Hp} (g : Got p H H') (d : Die H p) (n : H t = none) (u : HO) : Got p H (upd H' t u) := by
  refine ⟨fun b o e z => by rw [upd_ne (ne_of_none e n)]; exact g.keep b o e z, ?_⟩
  obtain ⟨l, b, c, l0, e⟩ := g.die
  obtain ⟨_, _, _, _, e0⟩ := d
  exact ⟨l, b, c, l0, by rw [upd_ne (ne_of_none e0 n)]; exact e⟩
theorem new_keep {H : Hp} {a p : Addr} {o u : HO} (h : H a = some o) (n : H p = none) : upd H p u a = some o := by rw [upd_ne (ne_of_none h n)]; exact h
theorem new_keep2 {H : Hp} {a p : Addr} {o u u' : HO} (h : H a = some o) (n : H p = none) : upd (upd H p u) p u' a = some o := by rw [upd_ne (ne_of_none h n), upd_ne (ne_of_none h n)]; exact h
theorem Die.ne {p q : Addr} {H : Hp} (d : Die H p) (n : H q = none) : p ≠ q := by
  obtain ⟨l, b, c, _, e⟩ := d
  exact ne_of_none e n
end GL
namespace GL
open PySem PySem.Spec PyProof.Rows L2
variable {K : PySem.W.Frag}
@[irreducible] def B : Int := 10 ^ 400
theorem B_eq : (B : Int) = 10 ^ 400 := by unfold B; rfl
def isIntV : V → Bool
  | .int i => decide (-B < i) && decide (i < B)
  | _ => false
def spIsInt (K : PySem.W.Frag) : Sp := fun vs H Q _ => ∃ x k, vs = [x] ∧ Of K H x k ∧ Q (.bl (isIntV x)) H
def isCountV : V → Bool
  | .int i => isIntV (.int i) && decide (0 ≤ i)
  | _ => false
def spIsCount (K : PySem.W.Frag) : Sp := fun vs H Q _ => ∃ x k, vs = [x] ∧ Of K H x k ∧ Q (.bl (isCountV x)) H
theorem one_sign {y : Str} (h : y.length = 1) : ∃ c, y = ⟨#[c]⟩ := by
  obtain ⟨⟨l⟩⟩ := y
  match l, h with
  | [c], _ => exact ⟨c, rfl⟩
def spRoll : Sp := fun vs H Q _ => ∃ p t, vs = [.ref p, .int t] ∧ Die H p ∧ 0 < t ∧ t.natAbs < 2 ^ 2000 ∧ ∀ r H', 0 ≤ r → r < t → Got p H H' → Q (.int r) H'
theorem at_ints {ns : List Int} {i : Int} (h0 : 0 ≤ i) (h1 : i < ns.length) : ∃ n, atI (ns.map V.int) i = some (.int n) := by
  obtain ⟨j, rfl⟩ : ∃ j : Nat, i = (j : Int) := ⟨i.toNat, by omega⟩
  have hj : j < ns.length := by omega
  exact ⟨ns[j], atI_nat (by rw [List.getElem?_map, List.getElem?_eq_getElem hj]; rfl)⟩
def spDice (K : PySem.W.Frag) : Sp := fun vs H Q _ => ∃ (a : Addr) (ns : List Int) (spot : Int), vs = [.ref a, .int spot] ∧ SqL K H a (ns.map V.int) ∧ 0 ≤ spot ∧ ∀ p H', H p = none → Same H H' → Die H' p → Q (.ref p) H'
def spPick : Sp := fun vs H Q _ => ∃ (p q : Addr) (xs : List V), vs = [.ref p, .ref q] ∧ Die H p ∧ (H q = some (.lst xs) ∨ H q = some (.tup xs)) ∧ q ≠ p ∧ 0 < xs.length ∧ xs.length ≤ 1000 ∧ ∀ v H', v ∈ xs → Got p H H' → Q v H'
def spLimit : Sp := fun vs H Q _ => vs = [] ∧ Q (.int B) H
theorem int_short {n : Int} : isIntV (.int n) = decide (n.natAbs < 10 ^ 400) := by
  have e : (10 : Int) ^ 400 = ((10 ^ 400 : Nat) : Int) := by rw [Int.natCast_pow]; rfl
  show (decide (-B < n) && decide (n < B)) = _
  rw [B_eq, e]
  generalize (10 ^ 400 : Nat) = N
  rw [Bool.eq_iff_iff]
  simp only [Bool.and_eq_true, decide_eq_true_eq]
  omega

theorem _root_.GL.Of.same {H H' : Hp} {x : V} {k : Kd} (h : Of K H x k) (s : Same H H') : Of K H' x k := by
  unfold Of at h ⊢
  generalize Value.type k.nm = t at h ⊢
  cases h with
  | base b =>
    cases b with
    | non => exact .base .non
    | bl x => exact .base (.bl x)
    | int i => exact .base (.int i)
    | str y => exact .base (.str y)
    | flt y => exact .base (.flt y)
    | lst e => exact .base (.lst (s _ _ e))
    | frz e => exact .base (.frz (s _ _ e))
    | tup e => exact .base (.tup (s _ _ e))
    | dK e => exact .base (.dK (s _ _ e))
    | dT e => exact .base (.dT (s _ _ e))
    | ins e a b c d e2 => exact .base (.ins (s _ _ e) a b c d e2)
  | byt b => exact .byt b
  | set e => exact .set (s _ _ e)
  | kList e c => exact .kList e c
  | kTuple e c => exact .kTuple e c
  | kDict e c => exact .kDict e c
  | fTuple e => exact .fTuple (s _ _ e)
  | fDict e => exact .fDict (s _ _ e)
/-- what is told of a value as a point -/
def PtV (K : PySem.W.Frag) (H : Hp) (x : V) (r : Bool) : Prop := ∃ k, Of K H x k ∧ (k.isT = false → r = false) ∧
  (k.isT = true → ∃ a xs, x = .ref a ∧ SqT K H a xs ∧ xs.length ≤ 1000 ∧ (xs.length ≠ 2 → r = false) ∧ (xs.length = 2 → ∃ u v ku kv, xs = [u, v] ∧ Of K H u ku ∧ Of K H v kv ∧ r = (isIntV u && isIntV v)))
def spIsPoint (K : PySem.W.Frag) : Sp := fun vs H Q _ => ∃ x r, vs = [x] ∧ PtV K H x r ∧ Q (.bl r) H
theorem ptTup2 {H : Hp} {a : Addr} {u v : V} {ku kv : Kd} (h : H a = some (.tup [u, v])) (hu : Of K H u ku) (hv : Of K H v kv) : PtV K H (.ref a) (isIntV u && isIntV v) :=
  ⟨.tup, .tup h, (fun z => nomatch z), fun _ => ⟨a, _, rfl, SqT.of h, (by show 2 ≤ 1000; decide), fun z => absurd rfl z, fun _ => ⟨u, v, ku, kv, rfl, hu, hv, rfl⟩⟩⟩
theorem ptTupN {H : Hp} {a : Addr} {xs : List V} (h : H a = some (.tup xs)) (l : xs.length ≤ 1000) (n : xs.length ≠ 2) : PtV K H (.ref a) false :=
  ⟨.tup, .tup h, (fun z => nomatch z), fun _ => ⟨a, _, rfl, SqT.of h, l, fun _ => rfl, fun z => absurd z n⟩⟩
theorem ptNo {H : Hp} {x : V} {k : Kd} (h : Of K H x k) (e : k.isT = false) : PtV K H x false := ⟨k, h, fun _ => rfl, fun z => by rw [e] at z; cases z⟩
def spPart : Sp := fun vs H Q _ => ∃ p, vs = [.ref p] ∧ Die H p ∧ ∀ n H', isIntV (.int n) = true → Got p H H' → Q (.int n) H'
def spMixed : Sp := fun vs H Q _ => ∃ (p q : Addr) (xs : List V), vs = [.ref p, .ref q] ∧ Die H p ∧ H q = some (.lst xs) ∧ q ≠ p ∧ xs.length ≤ 1000 ∧ ∀ l ys H', H l = none → l ≠ p → ys.length = xs.length → (∀ v ∈ ys, v ∈ xs) → H' l = some (.lst ys) → Got p H H' → Q (.ref l) H'

theorem Same.new {H : Hp} {p : Addr} {o : HO} (n : H p = none) : Same H (upd H p o) := fun b u e => by rw [upd_ne (ne_of_none e n)]; exact e
theorem Same.over {H H' : Hp} {p : Addr} (s : Same H H') (n : H p = none) (o : HO) : Same H (upd H' p o) := fun b u e => by rw [upd_ne (ne_of_none e n)]; exact s b u e
/-! ### lists of truth values -/
def bls (bs : List Bool) : PyData := .list (bs.map .bool)
theorem bls_dp {K : PySem.W.Frag} {H : Hp} : ∀ {bs : List Bool}, DpAll K H (bs.map V.bl) (bs.map .bool)
  | [] => .nil
  | b :: _ => .cons (.bl b) bls_dp
theorem bls_at {K : PySem.W.Frag} {H : Hp} {l : Addr} {bs : List Bool} (h : H l = some (.lst (bs.map V.bl))) : Dp K H (.ref l) (bls bs) := .lst (SqL.of h) bls_dp
theorem bls_eqv (bs : List Bool) : PyData.eqv (bls bs) (bls bs) = true := by
  show PyData.eqvAll (bs.map .bool) (bs.map .bool) = true
  induction bs with
  | nil => rfl
  | cons b r ih => rw [List.map_cons, PyData.eqvAll, ih]; cases b <;> rfl
theorem b4_ok (x y z u : Bool) : (bls [x, y, z, u]).showable = true ∧ (bls [x, y, z, u]).hasDict = false ∧ (bls [x, y, z, u]).depth ≤ 20 ∧ (bls [x, y, z, u]).shown.length ≤ sizeLine := by
  cases x <;> cases y <;> cases z <;> cases u <;> exact ⟨by decide +kernel, by decide +kernel, by decide +kernel, by decide +kernel⟩
theorem b4_shaped (x y z u : Bool) : SeqAt.shaped (bls [x, y, z, u]) = true := by cases x <;> cases y <;> cases z <;> cases u <;> decide +kernel
theorem few_of {n k : Nat} (hk : 1 ≤ k) (z : Int) (hz : (if (if (n : Int) < k then (n : Int) else k) > 1 then (if (n : Int) < k then (n : Int) else k) else 1) = z) : 0 ≤ z ∧ z ≤ k := by
  subst hz
  constructor <;> (split <;> (try split) <;> omega)
theorem seq_got {K : PySem.W.Frag} {a p : Addr} {xs : List V} {H0 H1 H' : Hp} (h : SqL K H0 a xs) (np : H0 p = none) (same : Same H0 H1) (g : Got p H1 H') : SqL K H' a xs := by
  have kp : ∀ o, H0 a = some o → H' a = some o := fun o e => g.keep a o (same a o e) (ne_of_none e np)
  rcases h with (z | ⟨o, z⟩) | z
  · exact .inl (.inl (kp _ z))
  · exact .inl (.inr ⟨o, kp _ z⟩)
  · exact .inr z
theorem take_map {α β : Type} {f : α → β} {l : List α} {i : Nat} {x : α} (h : l[i]? = some x) : (l.take i).map f ++ [f x] = (l.take (i + 1)).map f := by
  rw [List.take_add_one, h, List.map_append]
  rfl
theorem four {l : List V} (h : l.length = 4) : ∃ a b c d, l = [a, b, c, d] := by
  match l, h with
  | [a, b, c, d], _ => exact ⟨a, b, c, d, rfl⟩
end GL
namespace GL
open PySem PySem.Spec PyProof.Rows L2
/-! ### the two grids: false is the square one, true the other -/
def nm : Bool → Str | false => "square" | true => "triangle"
def num : Bool → Nat | false => 4 | true => 6
def sl : Bool → Int | false => 0 | true => 1
def ux : Bool → List (Int × Int)
  | false => [(1, 0), (0, 1), (-1, 0), (0, -1)]
  | true => [(1, 0), (0, 1), (-1, 1), (-1, 0), (0, -1), (1, -1)]
def mul (t : Bool) (u v : Int × Int) : Int × Int := (u.1 * v.1 - u.2 * v.2, u.1 * v.2 + u.2 * v.1 + sl t * (u.2 * v.2))
def nrm (t : Bool) (u : Int × Int) : Int := u.1 * u.1 + sl t * u.1 * u.2 + u.2 * u.2
def flip (t : Bool) (u : Int × Int) : Int × Int := (u.1 + sl t * u.2, -u.2)
def uni (t : Bool) (k : Int) : Int × Int := (ux t).getD (k % (num t : Int)).toNat (0, 0)
/-- what of the grids stands in the text -/
structure Uni (K : PySem.W.Frag) (w : World) (aG dU : Addr) (U : Bool → Addr) (us : Bool → List Addr) : Prop where
  grids : ∀ H, SqT K H aG [.str "square", .str "triangle"]
  key : ∀ t, KDct K w dU (nm t) (.ref (U t))
  tup : ∀ t H, SqT K H (U t) ((us t).map V.ref)
  len : ∀ t, (us t).length = num t
  pt : ∀ t (i : Nat) a p, (us t)[i]? = some a → (ux t)[i]? = some p → ∀ H, SqT K H a [.int p.1, .int p.2]
def gF (U : Bool → Addr) (t : Bool) : List (Str × V) := [("name", .str (nm t)), ("units", .ref (U t)), ("half", .int ((num t : Int) / 2)), ("slant", .int (sl t))]
def GridAt (C : Addr) (U : Bool → Addr) (H : Hp) (g : Addr) (t : Bool) : Prop := ∃ dx, H g = some (.ins C dx (gF U t))
structure GCls (K : PySem.W.Frag) (C : Addr) : Prop where
  cls : Cls K C
  name : NoAttr K C "name"
  units : NoAttr K C "units"
  half : NoAttr K C "half"
  slant : NoAttr K C "slant"
theorem put2 {a b : Str} {x y : V} (h : ¬ a = b) : putF b y [(a, x)] = [(a, x), (b, y)] := by
  show (if a = b then _ else (a, x) :: putF b y []) = _
  rw [if_neg h]
  rfl
theorem put3 {a b c : Str} {x y z : V} (h1 : ¬ a = c) (h2 : ¬ b = c) : putF c z [(a, x), (b, y)] = [(a, x), (b, y), (c, z)] := by
  show (if a = c then _ else (a, x) :: putF c z [(b, y)]) = _
  rw [if_neg h1, put2 h2]
theorem put4 {a b c d : Str} {x y z u : V} (h1 : ¬ a = d) (h2 : ¬ b = d) (h3 : ¬ c = d) : putF d u [(a, x), (b, y), (c, z)] = [(a, x), (b, y), (c, z), (d, u)] := by
  show (if a = d then _ else (a, x) :: putF d u [(b, y), (c, z)]) = _
  rw [if_neg h1, put3 h2 h3]
variable {K : PySem.W.Frag} {C : Addr} {U : Bool → Addr} {us : Bool → List Addr} {t : Bool}
theorem gF_units : (gF U t).lookup ("units" : Str) = some (.ref (U t)) := by unfold gF; cases t <;> rfl
theorem gF_slant : (gF U t).lookup ("slant" : Str) = some (.int (sl t)) := by unfold gF; cases t <;> rfl
theorem gF_half : (gF U t).lookup ("half" : Str) = some (.int ((num t : Int) / 2)) := by unfold gF; cases t <;> rfl
theorem gF_name : (gF U t).lookup ("name" : Str) = some (.str (nm t)) := by unfold gF; cases t <;> rfl
theorem GridAt.same {H H' : Hp} {g : Addr} (h : GridAt C U H g t) (s : Same H H') : GridAt C U H' g t := let ⟨dx, e⟩ := h; ⟨dx, s _ _ e⟩
theorem GridAt.got {p : Addr} {H H' : Hp} {g : Addr} (h : GridAt C U H g t) (s : Got p H H') (d : Die H p) : GridAt C U H' g t := by
  obtain ⟨dx, e⟩ := h
  obtain ⟨_, _, _, _, e0⟩ := d
  exact ⟨dx, s.keep _ _ e (ne_of e e0 (by intro z; cases z))⟩
/-- a point that stands at an address -/
def PAt (K : PySem.W.Frag) (H : Hp) (a : Addr) (u : Int × Int) : Prop := SqT K H a [.int u.1, .int u.2]
theorem PAt.same {H H' : Hp} {a : Addr} {u : Int × Int} (h : PAt K H a u) (s : Same H H') : PAt K H' a u := by
  rcases h with (z | ⟨o, z⟩) | z
  · exact .inl (.inl (s _ _ z))
  · exact .inl (.inr ⟨o, s _ _ z⟩)
  · exact .inr z
theorem PAt.got {p : Addr} {H H' : Hp} {a : Addr} {u : Int × Int} (h : PAt K H a u) (s : Got p H H') (d : Die H p) : PAt K H' a u := by
  obtain ⟨_, _, _, _, e0⟩ := d
  rcases h with (z | ⟨o, z⟩) | z
  · exact .inl (.inl (s.keep _ _ z (ne_of z e0 (by intro z; cases z))))
  · exact .inl (.inr ⟨o, s.keep _ _ z (ne_of z e0 (by intro z; cases z))⟩)
  · exact .inr z
theorem PAt.of {H : Hp} {a : Addr} {u : Int × Int} (h : H a = some (.tup [.int u.1, .int u.2])) : PAt K H a u := SqT.of h
def Sm (u : Int × Int) : Prop := u.1.natAbs < 2 ^ 3000 ∧ u.2.natAbs < 2 ^ 3000
theorem sm_mul {x y : Int} (hx : x.natAbs < 2 ^ 3000) (hy : y.natAbs < 2 ^ 3000) : CMulW x y := wide_mul hx hy (by decide) (by decide) (by decide)
theorem sl_mul {x : Int} (hx : x.natAbs < 2 ^ 6000) : CMulW (sl t) x := wide_mul (a := 1) (by cases t <;> decide) hx (by decide) (by decide) (by decide)
theorem num_pos : (0 : Int) < (num t : Int) := by cases t <;> decide
theorem len_ux : (ux t).length = num t := by cases t <;> rfl
theorem uni_at (k : Int) : (ux t)[(k % (num t : Int)).toNat]? = some (uni t k) := by
  have h1 := Int.emod_nonneg k (Int.ne_of_gt (num_pos (t := t)))
  have h2 := Int.emod_lt_of_pos k (num_pos (t := t))
  have h3 : (k % (num t : Int)).toNat < (ux t).length := by rw [len_ux]; omega
  rw [List.getElem?_eq_getElem h3]
  unfold uni
  rw [List.getD_eq_getElem?_getD, List.getElem?_eq_getElem h3]
  rfl
theorem uni_sm {k : Int} : Sm (uni t k) := by
  have h : ∀ p ∈ ux t, p.1.natAbs ≤ 1 ∧ p.2.natAbs ≤ 1 := by cases t <;> decide
  have z := h _ (List.mem_of_getElem? (uni_at (t := t) k))
  have b : (1 : Nat) < 2 ^ 3000 := by decide
  exact ⟨Nat.lt_of_le_of_lt z.1 b, Nat.lt_of_le_of_lt z.2 b⟩
theorem SqT.tup' {H : Hp} {a : Addr} {xs : List V} (h : SqT K H a xs) : Of K H (.ref a) .tup := by
  rcases h with (z | ⟨o, z⟩) | ⟨o, its, n, l, cl, _⟩
  · exact .base (.tup z)
  · exact .fTuple z
  · exact .kTuple l cl
theorem ptOk_sm {u : Int × Int} (h1 : isIntV (.int u.1) = true) (h2 : isIntV (.int u.2) = true) : Sm u := by
  rw [int_short] at h1 h2
  have b : (10 ^ 400 : Nat) ≤ 2 ^ 3000 := by decide +kernel
  exact ⟨Nat.lt_of_lt_of_le (of_decide_eq_true h1) b, Nat.lt_of_lt_of_le (of_decide_eq_true h2) b⟩
theorem len_put {f : Str} {y : V} : ∀ {fs : List (Str × V)}, (putF f y fs).length ≤ fs.length + 1
  | [] => Nat.le_refl _
  | (a, x) :: r => by
    show (if a = f then (a, y) :: r else (a, x) :: putF f y r).length ≤ _
    by_cases h : a = f
    · rw [if_pos h]; exact Nat.le_succ _
    · rw [if_neg h]; exact Nat.succ_le_succ len_put
theorem small_put {f : Str} {y : V} {fs : List (Str × V)} {n : Nat} (h : fs.length ≤ n) : (putF f y fs).length ≤ n + 1 := Nat.le_trans len_put (Nat.succ_le_succ h)
theorem bl_ne (x y : Bool) : (!decide (V.bl x = V.bl y)) = (x != y) := by cases x <;> cases y <;> decide +kernel
theorem bl_eq (x y : Bool) : decide (V.bl x = V.bl y) = (x == y) := by cases x <;> cases y <;> decide +kernel
theorem nat_eq (n m : Nat) : decide (V.int (n : Int) = V.int (m : Int)) = decide (n = m) := by
  by_cases h : n = m
  · subst h; rw [decide_eq_true rfl, decide_eq_true rfl]
  · rw [decide_eq_false h, decide_eq_false (fun z => h (by injection z with z; omega))]
/-! ### promises -/
def spInit (C : Addr) (U : Bool → Addr) : Sp := fun vs H Q _ => ∃ p dx t, vs = [.ref p, .str (nm t)] ∧ H p = some (.ins C dx []) ∧ ∀ H', (∀ b, b ≠ p → H' b = H b) → H' p = some (.ins C dx (gF U t)) → Q .non H'
def spTimes (K : PySem.W.Frag) (C : Addr) (U : Bool → Addr) : Sp := fun vs H Q _ => ∃ g t a b u v, vs = [.ref g, .ref a, .ref b] ∧ GridAt C U H g t ∧ PAt K H a u ∧ PAt K H b v ∧ Sm u ∧ Sm v ∧ ∀ p, H p = none → Q (.ref p) (upd H p (.tup [.int (mul t u v).1, .int (mul t u v).2]))
def spNorm (K : PySem.W.Frag) (C : Addr) (U : Bool → Addr) : Sp := fun vs H Q _ => ∃ g t a u, vs = [.ref g, .ref a] ∧ GridAt C U H g t ∧ PAt K H a u ∧ Sm u ∧ Q (.int (nrm t u)) H
def spFlip (K : PySem.W.Frag) (C : Addr) (U : Bool → Addr) : Sp := fun vs H Q _ => ∃ g t a u, vs = [.ref g, .ref a] ∧ GridAt C U H g t ∧ PAt K H a u ∧ Sm u ∧ ∀ p, H p = none → Q (.ref p) (upd H p (.tup [.int (flip t u).1, .int (flip t u).2]))
def spTurned (K : PySem.W.Frag) (C : Addr) (U : Bool → Addr) : Sp := fun vs H Q _ => ∃ g t a u k, vs = [.ref g, .ref a, .int k] ∧ GridAt C U H g t ∧ PAt K H a u ∧ Sm u ∧ ∀ p, H p = none → Q (.ref p) (upd H p (.tup [.int (mul t u (uni t k)).1, .int (mul t u (uni t k)).2]))
def ptOk (u : Int × Int) : Prop := isIntV (.int u.1) = true ∧ isIntV (.int u.2) = true
def spCheckP (K : PySem.W.Frag) : Sp := fun vs H Q _ => ∃ a u, vs = [.ref a] ∧ PAt K H a u ∧ ptOk u ∧ Q .non H
def spCheckN : Sp := fun vs H Q _ => ∃ k, vs = [.int k] ∧ isIntV (.int k) = true ∧ Q .non H
def spMUnit (K : PySem.W.Frag) (C : Addr) (U : Bool → Addr) : Sp := fun vs H Q _ => ∃ g t k, vs = [.ref g, .int k] ∧ GridAt C U H g t ∧ isIntV (.int k) = true ∧ ∀ i, (∀ H', PAt K H' i (uni t k)) → Q (.ref i) H
def spMNorm (K : PySem.W.Frag) (C : Addr) (U : Bool → Addr) : Sp := fun vs H Q _ => ∃ g t a u, vs = [.ref g, .ref a] ∧ GridAt C U H g t ∧ PAt K H a u ∧ ptOk u ∧ Q (.int (nrm t u)) H
def spMFlip (K : PySem.W.Frag) (C : Addr) (U : Bool → Addr) : Sp := fun vs H Q _ => ∃ g t a u, vs = [.ref g, .ref a] ∧ GridAt C U H g t ∧ PAt K H a u ∧ ptOk u ∧ ∀ p, H p = none → Q (.ref p) (upd H p (.tup [.int (flip t u).1, .int (flip t u).2]))
def spMTurned (K : PySem.W.Frag) (C : Addr) (U : Bool → Addr) : Sp := fun vs H Q _ => ∃ g t a u k, vs = [.ref g, .ref a, .int k] ∧ GridAt C U H g t ∧ PAt K H a u ∧ ptOk u ∧ isIntV (.int k) = true ∧ ∀ p, H p = none → Q (.ref p) (upd H p (.tup [.int (mul t u (uni t k)).1, .int (mul t u (uni t k)).2]))
def spMLen (C : Addr) (U : Bool → Addr) : Sp := fun vs H Q _ => ∃ g t, vs = [.ref g] ∧ GridAt C U H g t ∧ Q (.int (num t : Nat)) H
def alt (t : Bool) (e o : Int × Int) : Bool :=
  decide (dist [0, (e.2 - e.1) % (num t : Int), (o.1 - e.1) % (num t : Int), (o.2 - e.1) % (num t : Int)] = 4) &&
    (decide ((o.1 - e.1) % (num t : Int) < (e.2 - e.1) % (num t : Int)) != decide ((o.2 - e.1) % (num t : Int) < (e.2 - e.1) % (num t : Int)))
def spMAlt (K : PySem.W.Frag) (C : Addr) (U : Bool → Addr) : Sp := fun vs H Q _ => ∃ g t a b e o, vs = [.ref g, .ref a, .ref b] ∧ GridAt C U H g t ∧ PAt K H a e ∧ PAt K H b o ∧ ptOk e ∧ ptOk o ∧ ∀ H', Same H H' → Q (.bl (alt t e o)) H'
/-! ### the law's own grids -/
def PlainAt (H : Hp) (q : Addr) (t : Bool) : Prop := H q = some (.dK [(.inr "grid", .str (nm t))])
theorem PlainAt.get {H : Hp} {q : Addr} {t : Bool} (h : PlainAt H q t) : DGet H q (.str "grid") (some (.str (nm t))) := by
  have z := DGet.k (k := .inr "grid") h
  exact z
def spPlain : Sp := fun vs H Q _ => ∃ p, vs = [.ref p] ∧ Die H p ∧ ∀ q t H', H q = none → q ≠ p → PlainAt H' q t → Got p H H' → Q (.ref q) H'
def spAround : Sp := fun vs H Q _ => ∃ q t, vs = [.ref q] ∧ PlainAt H q t ∧ Q (.int (num t : Nat)) H
def spUnitL (K : PySem.W.Frag) : Sp := fun vs H Q _ => ∃ q t k, vs = [.ref q, .int k] ∧ PlainAt H q t ∧ ∀ p H', Same H H' → PAt K H' p (uni t k) → Q (.ref p) H'
def spTimesL (K : PySem.W.Frag) : Sp := fun vs H Q _ => ∃ q t a b u v, vs = [.ref q, .ref a, .ref b] ∧ PlainAt H q t ∧ PAt K H a u ∧ PAt K H b v ∧ Sm u ∧ Sm v ∧ ∀ p, H p = none → Q (.ref p) (upd H p (.tup [.int (mul t u v).1, .int (mul t u v).2]))
def spSpun (K : PySem.W.Frag) : Sp := fun vs H Q _ => ∃ q t a u k, vs = [.ref q, .ref a, .int k] ∧ PlainAt H q t ∧ PAt K H a u ∧ Sm u ∧ ∀ p H', Same H H' → PAt K H' p (mul t u (uni t k)) → Q (.ref p) H'
/-- how many of a pair have the rest d -/
def cnt2 (m : Int) (u : Int × Int) (d : Nat) : Nat := (if u.1 % m = (d : Int) then 1 else 0) + (if u.2 % m = (d : Int) then 1 else 0)
def metUp (m : Int) (e o : Int × Int) : Nat → List Int
  | 0 => []
  | d + 1 => (metUp m e o d ++ List.replicate (cnt2 m e d) 0) ++ List.replicate (cnt2 m o d) 1
def doAlt (m : Nat) (e o : Int × Int) : Bool := decide (dist [e.1 % (m : Int), e.2 % (m : Int), o.1 % (m : Int), o.2 % (m : Int)] = 4) && ([[0, 1, 0, 1], [1, 0, 1, 0]].any fun z => decide (z = metUp m e o m))
def spDoAlt (K : PySem.W.Frag) : Sp := fun vs H Q _ => ∃ t a b e o, vs = [.int (num t : Nat), .ref a, .ref b] ∧ PAt K H a e ∧ PAt K H b o ∧ ∀ H', Same H H' → Q (.bl (doAlt (num t) e o)) H'
/-! ### lists of ints -/
def intL (ns : List Int) : PyData := .list (ns.map .int)
theorem intL_dp {K : PySem.W.Frag} {H : Hp} : ∀ {ns : List Int}, DpAll K H (ns.map V.int) (ns.map .int)
  | [] => .nil
  | n :: _ => .cons (.int n) intL_dp
theorem intL_at {K : PySem.W.Frag} {H : Hp} {l : Addr} {ns : List Int} (h : H l = some (.lst (ns.map V.int))) : Dp K H (.ref l) (intL ns) := .lst (SqL.of h) intL_dp
theorem intL_eqv (a b : List Int) : PyData.eqv (intL a) (intL b) = decide (a = b) := by
  show PyData.eqvAll (a.map .int) (b.map .int) = _
  induction a generalizing b with
  | nil => cases b <;> simp [PyData.eqvAll]
  | cons x r ih =>
    cases b with
    | nil => simp [PyData.eqvAll]
    | cons y q =>
      rw [List.map_cons, List.map_cons, PyData.eqvAll, ih q, show PyData.eqv (.int x) (.int y) = (x == y) from rfl]
      rw [Bool.eq_iff_iff]
      simp
theorem flat_rep (c : Nat) (x : Int) : (List.replicate c [V.int x]).flatten = (List.replicate c x).map V.int := by
  induction c with
  | zero => rfl
  | succ n ih => rw [List.replicate_succ, List.flatten_cons, ih]; rfl
theorem metUp_len {m : Int} {e o : Int × Int} : ∀ i, (metUp m e o i).length ≤ 4 * i
  | 0 => Nat.le_refl _
  | i + 1 => by
    have := metUp_len (m := m) (e := e) (o := o) i
    have h : ∀ u : Int × Int, cnt2 m u i ≤ 2 := by intro u; unfold cnt2; split <;> split <;> decide
    have h1 := h e
    have h2 := h o
    rw [metUp, List.length_append, List.length_append, List.length_replicate, List.length_replicate]
    omega
theorem shaped_intL (ns : List Int) : SeqAt.shaped (intL ns) = true := PySem.W.shaped_ints ns
theorem int_eq {x y : Int} : decide (V.int x = V.int y) = decide (x = y) := by
  by_cases h : x = y
  · subst h; rw [decide_eq_true rfl, decide_eq_true rfl]
  · rw [decide_eq_false h, decide_eq_false (fun z => h (by injection z))]
/-- how many of the first j of a pair have the rest d -/
def cntU (m : Int) (u : Int × Int) (d : Nat) : Nat → Nat
  | 0 => 0
  | 1 => if u.1 % m = (d : Int) then 1 else 0
  | _ => cnt2 m u d
theorem cntU_all {m : Int} {u : Int × Int} {d : Nat} : cntU m u d [V.int u.1, V.int u.2].length = cnt2 m u d := rfl
theorem cnt2_le {m : Int} {u : Int × Int} {d : Nat} : cnt2 m u d ≤ 2 := by unfold cnt2; split <;> split <;> decide
theorem cntU_le {m : Int} {u : Int × Int} {d j : Nat} : cntU m u d j ≤ 2 := by
  match j with
  | 0 => exact Nat.zero_le _
  | 1 => show (if _ then 1 else 0) ≤ 2; split <;> decide
  | _ + 2 => exact cnt2_le
theorem pair_at {u : Int × Int} {j : Nat} {x : V} (h : [V.int u.1, V.int u.2][j]? = some x) : ∃ y, x = .int y ∧ [u.1, u.2][j]? = some y := by
  match j, h with
  | 0, h => exact ⟨_, (Option.some.inj h).symm, rfl⟩
  | 1, h => exact ⟨_, (Option.some.inj h).symm, rfl⟩
theorem cntU_yes {m : Int} {u : Int × Int} {d j : Nat} {y : Int} (h : [u.1, u.2][j]? = some y) (c : y % m = (d : Int)) : cntU m u d j + 1 = cntU m u d (j + 1) := by
  match j, h with
  | 0, h => cases (Option.some.inj h); show 0 + 1 = if _ then 1 else 0; rw [if_pos c]
  | 1, h => cases (Option.some.inj h); show (if _ then 1 else 0) + 1 = cnt2 m u d; unfold cnt2; rw [if_pos c]
theorem cntU_no {m : Int} {u : Int × Int} {d j : Nat} {y : Int} (h : [u.1, u.2][j]? = some y) (c : ¬ y % m = (d : Int)) : cntU m u d j = cntU m u d (j + 1) := by
  match j, h with
  | 0, h => cases (Option.some.inj h); show 0 = if _ then 1 else 0; rw [if_neg c]
  | 1, h => cases (Option.some.inj h); show (if _ then 1 else 0) = cnt2 m u d; unfold cnt2; rw [if_neg c]; rfl
/-! ### what the text has, for the end -/
def TupK (K : PySem.W.Frag) (a : Addr) (xs : List V) : Prop := ∃ (o : Obj) (its : Array Value) (n : Nat), K.lookup a = some o ∧ o.cls = .type "tuple" ∧ o.data = .seq its n ∧ its.size ≤ sizeLine ∧ Vals xs its.toList
theorem TupK.at {K : PySem.W.Frag} {a : Addr} {xs : List V} (h : TupK K a xs) (H : Hp) : SqT K H a xs := .inr h
theorem uni_mk {K : PySem.W.Frag} {w : World} {aG dU aS aT s0 s1 s2 s3 t0 t1 t2 t3 t4 t5 : Addr} (g : TupK K aG [.str "square", .str "triangle"]) (kS : KDct K w dU "square" (.ref aS)) (kT : KDct K w dU "triangle" (.ref aT))
    (hS : TupK K aS [.ref s0, .ref s1, .ref s2, .ref s3]) (hT : TupK K aT [.ref t0, .ref t1, .ref t2, .ref t3, .ref t4, .ref t5])
    (p0 : TupK K s0 [.int 1, .int 0]) (p1 : TupK K s1 [.int 0, .int 1]) (p2 : TupK K s2 [.int (-1), .int 0]) (p3 : TupK K s3 [.int 0, .int (-1)])
    (q0 : TupK K t0 [.int 1, .int 0]) (q1 : TupK K t1 [.int 0, .int 1]) (q2 : TupK K t2 [.int (-1), .int 1]) (q3 : TupK K t3 [.int (-1), .int 0]) (q4 : TupK K t4 [.int 0, .int (-1)]) (q5 : TupK K t5 [.int 1, .int (-1)]) :
    Uni K w aG dU (fun t => cond t aT aS) (fun t => cond t [t0, t1, t2, t3, t4, t5] [s0, s1, s2, s3]) where
  grids := g.at
  key := fun t => by cases t; exact kS; exact kT
  tup := fun t H => by cases t; exact hS.at H; exact hT.at H
  len := fun t => by cases t <;> rfl
  pt := fun t i a p ha hp H => by
    cases t
    · match i, ha, hp with
      | 0, ha, hp => cases Option.some.inj ha; cases Option.some.inj hp; exact p0.at H
      | 1, ha, hp => cases Option.some.inj ha; cases Option.some.inj hp; exact p1.at H
      | 2, ha, hp => cases Option.some.inj ha; cases Option.some.inj hp; exact p2.at H
      | 3, ha, hp => cases Option.some.inj ha; cases Option.some.inj hp; exact p3.at H
    · match i, ha, hp with
      | 0, ha, hp => cases Option.some.inj ha; cases Option.some.inj hp; exact q0.at H
      | 1, ha, hp => cases Option.some.inj ha; cases Option.some.inj hp; exact q1.at H
      | 2, ha, hp => cases Option.some.inj ha; cases Option.some.inj hp; exact q2.at H
      | 3, ha, hp => cases Option.some.inj ha; cases Option.some.inj hp; exact q3.at H
      | 4, ha, hp => cases Option.some.inj ha; cases Option.some.inj hp; exact q4.at H
      | 5, ha, hp => cases Option.some.inj ha; cases Option.some.inj hp; exact q5.at H
theorem kdct_mk {K : PySem.W.Frag} {w : World} {a v : Addr} {x : Str} {es : Array DictEntry} {n : Nat} (l : K.lookup a = some ⟨.type "dict", none, .dict es n, #[]⟩) (k : PySem.W.nsIn K a x = some (some (.ref v))) (kk : PySem.W.KeysLit w.params es.toList) : KDct K w a x (.ref v) :=
  ⟨es, n, .ref v, l, kk, k, rfl⟩
end GL
namespace GL
open PySem PySem.Spec PyProof.Rows L2
/-! ### what turns do to points -/
variable {t : Bool} {u : Int × Int} {a b k : Int}
theorem uni_congr {k l : Int} (h : k % (num t : Int) = l % (num t : Int)) : uni t k = uni t l := by unfold uni; rw [h]
theorem res4 (k : Int) : k % 4 = 0 ∨ k % 4 = 1 ∨ k % 4 = 2 ∨ k % 4 = 3 := by omega
theorem res6 (k : Int) : k % 6 = 0 ∨ k % 6 = 1 ∨ k % 6 = 2 ∨ k % 6 = 3 ∨ k % 6 = 4 ∨ k % 6 = 5 := by omega
theorem u4 : uni false 0 = (1, 0) ∧ uni false 1 = (0, 1) ∧ uni false 2 = (-1, 0) ∧ uni false 3 = (0, -1) := ⟨rfl, rfl, rfl, rfl⟩
theorem turn_add : mul t (mul t u (uni t a)) (uni t b) = mul t u (uni t (a + b)) := by
  obtain ⟨x, y⟩ := u
  cases t
  · rcases res4 a with h1 | h1 | h1 | h1 <;> rcases res4 b with h2 | h2 | h2 | h2 <;>
      (have e1 := uni_congr (t := false) (k := a) (l := a % 4) (by show a % 4 = (a % 4) % 4; omega)
       have e2 := uni_congr (t := false) (k := b) (l := b % 4) (by show b % 4 = (b % 4) % 4; omega)
       have e3 := uni_congr (t := false) (k := a + b) (l := a % 4 + b % 4) (by show (a + b) % 4 = (a % 4 + b % 4) % 4; omega)
       rw [h1] at e1
       rw [h2] at e2
       rw [h1, h2] at e3
       rw [e1, e2, e3]
       refine Prod.ext ?_ ?_ <;> simp [mul, sl, uni, ux, num] <;> omega)
  · rcases res6 a with h1 | h1 | h1 | h1 | h1 | h1 <;> rcases res6 b with h2 | h2 | h2 | h2 | h2 | h2 <;>
      (have e1 := uni_congr (t := true) (k := a) (l := a % 6) (by show a % 6 = (a % 6) % 6; omega)
       have e2 := uni_congr (t := true) (k := b) (l := b % 6) (by show b % 6 = (b % 6) % 6; omega)
       have e3 := uni_congr (t := true) (k := a + b) (l := a % 6 + b % 6) (by show (a + b) % 6 = (a % 6 + b % 6) % 6; omega)
       rw [h1] at e1
       rw [h2] at e2
       rw [h1, h2] at e3
       rw [e1, e2, e3]
       refine Prod.ext ?_ ?_ <;> simp [mul, sl, uni, ux, num] <;> omega)
theorem uni_red4 (k : Int) : uni false k = uni false (k % 4) := uni_congr (t := false) (by show k % 4 = (k % 4) % 4; omega)
theorem uni_red6 (k : Int) : uni true k = uni true (k % 6) := uni_congr (t := true) (by show k % 6 = (k % 6) % 6; omega)
theorem turn_all : mul t u (uni t (num t : Nat)) = u := by
  obtain ⟨x, y⟩ := u
  cases t <;> (refine Prod.ext ?_ ?_ <;> simp [mul, sl, uni, ux, num])
theorem turn_half : mul t u (uni t ((num t : Int) / 2)) = (0 - u.1, 0 - u.2) := by
  obtain ⟨x, y⟩ := u
  cases t <;> (refine Prod.ext ?_ ?_ <;> simp [mul, sl, uni, ux, num])
theorem turn_one : mul t (1, 0) (uni t k) = uni t k := by
  generalize uni t k = v
  obtain ⟨x, y⟩ := v
  cases t <;> (refine Prod.ext ?_ ?_ <;> simp [mul, sl])
theorem turn_flip : flip t (mul t (flip t u) (uni t k)) = mul t u (uni t (0 - k)) := by
  obtain ⟨x, y⟩ := u
  cases t
  · rcases res4 k with h1 | h1 | h1 | h1 <;>
      (have e1 := uni_red4 k
       have e3 := uni_congr (t := false) (k := 0 - k) (l := 0 - k % 4) (by show (0 - k) % 4 = (0 - k % 4) % 4; omega)
       rw [h1] at e1 e3
       rw [e1, e3]
       refine Prod.ext ?_ ?_ <;> simp [flip, mul, sl, uni, ux, num] <;> omega)
  · rcases res6 k with h1 | h1 | h1 | h1 | h1 | h1 <;>
      (have e1 := uni_red6 k
       have e3 := uni_congr (t := true) (k := 0 - k) (l := 0 - k % 6) (by show (0 - k) % 6 = (0 - k % 6) % 6; omega)
       rw [h1] at e1 e3
       rw [e1, e3]
       refine Prod.ext ?_ ?_ <;> simp [flip, mul, sl, uni, ux, num] <;> omega)
theorem turn_norm : nrm t (mul t u (uni t k)) = nrm t u := by
  obtain ⟨x, y⟩ := u
  cases t
  · rcases res4 k with h1 | h1 | h1 | h1 <;>
      (have e1 := uni_red4 k
       rw [h1] at e1
       rw [e1]
       simp [nrm, mul, sl, uni, ux, num] <;> grind)
  · rcases res6 k with h1 | h1 | h1 | h1 | h1 | h1 <;>
      (have e1 := uni_red6 k
       rw [h1] at e1
       rw [e1]
       simp [nrm, mul, sl, uni, ux, num] <;> grind)
/-- small points -/
def Le (n : Nat) (u : Int × Int) : Prop := u.1.natAbs ≤ n ∧ u.2.natAbs ≤ n
theorem Le.turn {n : Nat} (h : Le n u) : Le (2 * n) (mul t u (uni t k)) := by
  obtain ⟨x, y⟩ := u
  obtain ⟨h1, h2⟩ : x.natAbs ≤ n ∧ y.natAbs ≤ n := h
  cases t
  · rcases res4 k with h1 | h1 | h1 | h1 <;>
      (have e1 := uni_red4 k
       rw [h1] at e1
       rw [e1]
       refine ⟨?_, ?_⟩ <;> simp [mul, sl, uni, ux, num] <;> omega)
  · rcases res6 k with h1 | h1 | h1 | h1 | h1 | h1 <;>
      (have e1 := uni_red6 k
       rw [h1] at e1
       rw [e1]
       refine ⟨?_, ?_⟩ <;> simp [mul, sl, uni, ux, num] <;> omega)
theorem Le.flip {n : Nat} (h : Le n u) : Le (2 * n) (flip t u) := by
  obtain ⟨x, y⟩ := u
  obtain ⟨h1, h2⟩ : x.natAbs ≤ n ∧ y.natAbs ≤ n := h
  cases t <;> (refine ⟨?_, ?_⟩ <;> simp [GL.flip, sl] <;> omega)
theorem short_of {x : Int} (h : x.natAbs ≤ 10 ^ 9) : isIntV (.int x) = true := by rw [int_short]; exact decide_eq_true (Nat.lt_of_le_of_lt h (by decide +kernel))
theorem Le.ok {n : Nat} (h : Le n u) (hn : n ≤ 10 ^ 9) : ptOk u := ⟨short_of (Nat.le_trans h.1 hn), short_of (Nat.le_trans h.2 hn)⟩
theorem Le.sm {n : Nat} (h : Le n u) (hn : n ≤ 10 ^ 9) : Sm u := ptOk_sm (h.ok hn).1 (h.ok hn).2
/-! ### the text of a small point -/
def ptD (u : Int × Int) : PyData := .tuple [.int u.1, .int u.2]
theorem ptD_at {K : PySem.W.Frag} {H : Hp} {a : Addr} (h : PAt K H a u) : Dp K H (.ref a) (ptD u) := .tup h (.cons (.int _) (.cons (.int _) .nil))
theorem one_short : ∀ i : Fin 401, (PyData.shown (.int ((i.val : Int) - 200))).length ≤ 13 := by decide +kernel
theorem int_shown {x : Int} (h : x.natAbs ≤ 200) : (PyData.shown (.int x)).length ≤ 13 := by
  have z := one_short ⟨(x + 200).toNat, by omega⟩
  have e : (((x + 200).toNat : Nat) : Int) - 200 = x := by omega
  rw [e] at z
  exact z
theorem ptD_ok (h : Le 200 u) : (ptD u).showable = true ∧ (ptD u).hasDict = false ∧ (ptD u).depth ≤ 20 ∧ (ptD u).shown.length ≤ sizeLine := by
  have sh : ∀ {x : Int}, x.natAbs ≤ 200 → PyData.showable (.int x) = true := fun {x} h => by
    simp only [PyData.showable]
    exact decide_eq_true (Nat.lt_of_le_of_lt (Nat.log2_le_self _) (Nat.lt_of_le_of_lt h (by decide)))
  refine ⟨?_, ?_, ?_, ?_⟩
  · simp only [ptD, PyData.showable, PyData.showableAll, Bool.and_eq_true, Bool.and_true]
    have a1 := sh h.1
    have a2 := sh h.2
    simp only [PyData.showable] at a1 a2
    exact ⟨a1, a2⟩
  · simp [ptD, PyData.hasDict, PyData.hasDictAll]
  · simp [ptD, PyData.depth, PyData.depthAll]
  · refine Nat.le_trans (shown_le13 (d := ptD u) ?_ ?_) (by decide)
    · simp [ptD, PyData.layable0, PyData.canLay0, PyData.canLayAll0, PyData.depth, PyData.depthAll, PyData.weight, PyData.weightAll]
      have l1 : u.fst.natAbs.log2 ≤ 200 := Nat.le_trans (Nat.log2_le_self _) h.1
      have l2 : u.snd.natAbs.log2 ≤ 200 := Nat.le_trans (Nat.log2_le_self _) h.2
      split <;> split <;> omega
    · simp only [ptD, PyData.intsShort, PyData.intsShortAll, Bool.and_eq_true, Bool.and_true]
      exact ⟨decide_eq_true (int_shown h.1), decide_eq_true (int_shown h.2)⟩
theorem ptD_shaped (u : Int × Int) : SeqAt.shaped (ptD u) = true := by
  simp [ptD, SeqAt.shaped, PyData.canLay0, PyData.canLayAll0, PyData.depth, PyData.depthAll]
theorem ptD_eqv (u v : Int × Int) : PyData.eqv (ptD u) (ptD v) = decide (u = v) := by
  obtain ⟨x, y⟩ := u
  obtain ⟨z, w⟩ := v
  show PyData.eqvAll [.int x, .int y] [.int z, .int w] = _
  simp only [PyData.eqvAll]
  rw [show PyData.eqv (.int x) (.int z) = (x == z) from rfl, show PyData.eqv (.int y) (.int w) = (y == w) from rfl, Bool.eq_iff_iff]
  simp
theorem ptD_self (u : Int × Int) : PyData.eqv (ptD u) (ptD u) = true := by rw [ptD_eqv]; exact decide_eq_true rfl
theorem PlainAt.got {p q : Addr} {H H' : Hp} (h : PlainAt H q t) (s : Got p H H') (d : Die H p) : PlainAt H' q t := by
  obtain ⟨_, _, _, _, e0⟩ := d
  exact s.keep _ _ h (ne_of h e0 (by intro z; cases z))
def spTurns (C : Addr) (U : Bool → Addr) : Sp := fun vs H Q _ => ∃ p q g t, vs = [.ref p, .ref q, .ref g] ∧ Die H p ∧ PlainAt H q t ∧ GridAt C U H g t ∧ ∀ H', Got p H H' → Q (.bl true) H'
theorem Got.over_same {p : Addr} {H H1 H2 : Hp} (g : Got p H H1) (s : Same H1 H2) : Got p H H2 :=
  ⟨fun b o e n => s _ _ (g.keep b o e n), let ⟨l, b, c, l0, e⟩ := g.die; ⟨l, b, c, l0, s _ _ e⟩⟩
theorem str_self (x : Str) : (!decide (V.str x = V.str x)) = false := by rw [decide_eq_true rfl]; rfl
theorem int_self (x : Int) : (!decide (V.int x = V.int x)) = false := by rw [decide_eq_true rfl]; rfl
theorem Le.mono {n m : Nat} (h : Le n u) (hn : n ≤ m) : Le m u := ⟨Nat.le_trans h.1 hn, Nat.le_trans h.2 hn⟩
theorem uni_mod {t : Bool} (k : Int) : uni t (k % (num t : Int)) = uni t k := uni_congr (Int.emod_emod_of_dvd _ (Int.dvd_refl _))
theorem small_mod {t : Bool} (k : Int) : isIntV (.int (k % (num t : Int))) = true := by
  have h1 := Int.emod_nonneg k (Int.ne_of_gt (num_pos (t := t)))
  have h2 := Int.emod_lt_of_pos k (num_pos (t := t))
  have h3 : num t ≤ 6 := by cases t <;> decide
  refine short_of (Nat.le_trans (show _ ≤ 6 by omega) (by decide))
theorem num_small {t : Bool} : ((num t : Nat) : Int) < 2 ^ 63 := by cases t <;> decide
theorem num_ok {t : Bool} : isIntV (.int (num t : Nat)) = true := by cases t <;> exact short_of (by decide)
theorem half_ok {t : Bool} : isIntV (.int ((num t : Int) / 2)) = true := by cases t <;> exact short_of (by decide)
/-! ### all pairs of pairs of directions -/
theorem alt_fin4 : ∀ a b c d : Fin 4, (let D := doAlt 4 ((a.val : Int), (b.val : Int)) ((c.val : Int), (d.val : Int))
    alt false ((a.val : Int), (b.val : Int)) ((c.val : Int), (d.val : Int)) = D ∧ alt false ((c.val : Int), (d.val : Int)) ((a.val : Int), (b.val : Int)) = D ∧ alt false ((b.val : Int), (a.val : Int)) ((c.val : Int), (d.val : Int)) = D ∧
    alt false (0 - (a.val : Int), 0 - (b.val : Int)) (0 - (c.val : Int), 0 - (d.val : Int)) = D) := by decide +kernel
theorem alt_fin6 : ∀ a b c d : Fin 6, (let D := doAlt 6 ((a.val : Int), (b.val : Int)) ((c.val : Int), (d.val : Int))
    alt true ((a.val : Int), (b.val : Int)) ((c.val : Int), (d.val : Int)) = D ∧ alt true ((c.val : Int), (d.val : Int)) ((a.val : Int), (b.val : Int)) = D ∧ alt true ((b.val : Int), (a.val : Int)) ((c.val : Int), (d.val : Int)) = D ∧
    alt true (0 - (a.val : Int), 0 - (b.val : Int)) (0 - (c.val : Int), 0 - (d.val : Int)) = D) := by decide +kernel
theorem alt_four {t : Bool} {a b c d : Int} (ha : 0 ≤ a ∧ a < (num t : Int)) (hb : 0 ≤ b ∧ b < (num t : Int)) (hc : 0 ≤ c ∧ c < (num t : Int)) (hd : 0 ≤ d ∧ d < (num t : Int)) :
    alt t (a, b) (c, d) = doAlt (num t) (a, b) (c, d) ∧ alt t (c, d) (a, b) = doAlt (num t) (a, b) (c, d) ∧ alt t (b, a) (c, d) = doAlt (num t) (a, b) (c, d) ∧ alt t (0 - a, 0 - b) (0 - c, 0 - d) = doAlt (num t) (a, b) (c, d) := by
  obtain ⟨a, rfl⟩ : ∃ n : Nat, a = (n : Int) := ⟨a.toNat, by omega⟩
  obtain ⟨b, rfl⟩ : ∃ n : Nat, b = (n : Int) := ⟨b.toNat, by omega⟩
  obtain ⟨c, rfl⟩ : ∃ n : Nat, c = (n : Int) := ⟨c.toNat, by omega⟩
  obtain ⟨d, rfl⟩ : ∃ n : Nat, d = (n : Int) := ⟨d.toNat, by omega⟩
  cases t
  · exact alt_fin4 ⟨a, Int.ofNat_lt.mp ha.2⟩ ⟨b, Int.ofNat_lt.mp hb.2⟩ ⟨c, Int.ofNat_lt.mp hc.2⟩ ⟨d, Int.ofNat_lt.mp hd.2⟩
  · exact alt_fin6 ⟨a, Int.ofNat_lt.mp ha.2⟩ ⟨b, Int.ofNat_lt.mp hb.2⟩ ⟨c, Int.ofNat_lt.mp hc.2⟩ ⟨d, Int.ofNat_lt.mp hd.2⟩
theorem alt_next {t : Bool} {a b c d : Int} : alt t (a + 1, b + 1) (c + 1, d + 1) = alt t (a, b) (c, d) := by
  unfold alt
  rw [show b + 1 - (a + 1) = b - a by omega, show c + 1 - (a + 1) = c - a by omega, show d + 1 - (a + 1) = d - a by omega]
theorem alt_far {t : Bool} {a b c d s : Int} (hs : s % (num t : Int) = 0) : alt t (a + s, b) (c, d - (num t : Nat)) = alt t (a, b) (c, d) := by
  unfold alt
  have e1 : (b - (a + s)) % (num t : Int) = (b - a) % (num t : Int) := by cases t <;> (simp only [num] at hs ⊢; omega)
  have e2 : (c - (a + s)) % (num t : Int) = (c - a) % (num t : Int) := by cases t <;> (simp only [num] at hs ⊢; omega)
  have e3 : (d - (num t : Nat) - (a + s)) % (num t : Int) = (d - a) % (num t : Int) := by cases t <;> (simp only [num] at hs ⊢; omega)
  simp only [e1, e2, e3]
theorem b6_ok (x : Bool) : (bls [x, x, x, x, x, x]).showable = true ∧ (bls [x, x, x, x, x, x]).hasDict = false ∧ (bls [x, x, x, x, x, x]).depth ≤ 20 ∧ (bls [x, x, x, x, x, x]).shown.length ≤ sizeLine := by
  cases x <;> exact ⟨by decide +kernel, by decide +kernel, by decide +kernel, by decide +kernel⟩
theorem sub_mod (n : Int) {m : Int} (h : 0 < m) : (n - n % m) % m = 0 := by
  rw [Int.sub_emod, Int.emod_emod_of_dvd _ (Int.dvd_refl _), Int.sub_self, Int.zero_emod]
theorem sub_small (n : Int) {m : Int} (h : 0 < m) (h6 : m ≤ 6) (hn : (if n < 0 then -n else n) < (10 : Int) ^ (50 : Int).toNat * (10 : Int) ^ (50 : Int).toNat) : (n - n % m).natAbs ≤ 10 ^ 101 := by
  have h1 := Int.emod_nonneg n (Int.ne_of_gt h)
  have h2 := Int.emod_lt_of_pos n h
  have e : (10 : Int) ^ (50 : Int).toNat * (10 : Int) ^ (50 : Int).toNat = ((10 ^ 100 : Nat) : Int) := by decide +kernel
  rw [e] at hn
  have b : (10 ^ 100 : Nat) + 6 ≤ 10 ^ 101 := by decide +kernel
  generalize (10 ^ 100 : Nat) = N at *
  generalize (10 ^ 101 : Nat) = M at *
  split at hn <;> omega
theorem far_ok {x s : Int} (hs : s.natAbs ≤ 10 ^ 101) (hx : x.natAbs ≤ 10) : isIntV (.int (x + s)) = true := by
  rw [int_short]
  refine decide_eq_true (Nat.lt_of_le_of_lt (show _ ≤ 10 ^ 101 + 10 by generalize (10 ^ 101 : Nat) = M at *; omega) (by decide +kernel))
theorem same_made {H H3 : Hp} {x dx : Addr} {o1 o2 : HO} (hx : H x = none) (hdx : H dx = none) (hk : ∀ b, b ≠ x → H3 b = upd (upd H dx o1) x o2 b) : Same H H3 := by
  intro b o e
  have n1 := ne_of_none e hx
  have n2 := ne_of_none e hdx
  rw [hk b n1, upd_ne n1, upd_ne n2]
  exact e
end GL
namespace K05
open PySem PySem.Spec PyProof.Rows L2 GL
def topS (i : Nat) : Stmt := PySem.Challenge.pw_grownlines_k05_whole_turns_around_points.main.body.getD i (.Pass ⟨0, 0, 0, 0⟩)
abbrev s_times : Stmt := topS 2
abbrev N_times : List Str := ["grid", "one", "other", "low"]
theorem sc_times : FnScope N_times ["grid", "one", "other"] (defScope s_times) := ⟨rfl, rfl, rfl, by decide +kernel, rfl, by decide +kernel, by decide +kernel⟩
abbrev s_norm_in : Stmt := topS 3
abbrev N_norm_in : List Str := ["grid", "point"]
theorem sc_norm_in : FnScope N_norm_in ["grid", "point"] (defScope s_norm_in) := ⟨rfl, rfl, rfl, by decide +kernel, rfl, by decide +kernel, by decide +kernel⟩
abbrev s_flipped : Stmt := topS 4
abbrev N_flipped : List Str := ["grid", "point"]
theorem sc_flipped : FnScope N_flipped ["grid", "point"] (defScope s_flipped) := ⟨rfl, rfl, rfl, by decide +kernel, rfl, by decide +kernel, by decide +kernel⟩
abbrev s_turned_by : Stmt := topS 5
abbrev N_turned_by : List Str := ["grid", "point", "turn"]
theorem sc_turned_by : FnScope N_turned_by ["grid", "point", "turn"] (defScope s_turned_by) := ⟨rfl, rfl, rfl, by decide +kernel, rfl, by decide +kernel, by decide +kernel⟩
abbrev s_take_turns : Stmt := topS 6
abbrev N_take_turns : List Str := ["many", "ends", "others", "width", "one", "two"]
theorem sc_take_turns : FnScope N_take_turns ["many", "ends", "others"] (defScope s_take_turns) := ⟨rfl, rfl, rfl, by decide +kernel, rfl, by decide +kernel, by decide +kernel⟩
abbrev s_is_integer : Stmt := topS 9
abbrev N_is_integer : List Str := ["value"]
theorem sc_is_integer : FnScope N_is_integer ["value"] (defScope s_is_integer) := ⟨rfl, rfl, rfl, by decide +kernel, rfl, by decide +kernel, by decide +kernel⟩
abbrev s_is_point : Stmt := topS 10
abbrev N_is_point : List Str := ["value"]
theorem sc_is_point : FnScope N_is_point ["value"] (defScope s_is_point) := ⟨rfl, rfl, rfl, by decide +kernel, rfl, by decide +kernel, by decide +kernel⟩
abbrev s__check_point : Stmt := topS 20
abbrev N__check_point : List Str := ["point"]
theorem sc__check_point : FnScope N__check_point ["point"] (defScope s__check_point) := ⟨rfl, rfl, rfl, by decide +kernel, rfl, by decide +kernel, by decide +kernel⟩
abbrev s__check_number : Stmt := topS 21
abbrev N__check_number : List Str := ["number"]
theorem sc__check_number : FnScope N__check_number ["number"] (defScope s__check_number) := ⟨rfl, rfl, rfl, by decide +kernel, rfl, by decide +kernel, by decide +kernel⟩
abbrev s_Grid_WinitW : Stmt := inClass (topS 22) 0
abbrev N_Grid_WinitW : List Str := ["self", "name"]
theorem sc_Grid_WinitW : FnScope N_Grid_WinitW ["self", "name"] (defScope s_Grid_WinitW) := ⟨rfl, rfl, rfl, by decide +kernel, rfl, by decide +kernel, by decide +kernel⟩
abbrev s_Grid_unit : Stmt := inClass (topS 22) 1
abbrev N_Grid_unit : List Str := ["self", "direction"]
theorem sc_Grid_unit : FnScope N_Grid_unit ["self", "direction"] (defScope s_Grid_unit) := ⟨rfl, rfl, rfl, by decide +kernel, rfl, by decide +kernel, by decide +kernel⟩
abbrev s_Grid_product : Stmt := inClass (topS 22) 3
abbrev N_Grid_product : List Str := ["self", "one", "other"]
theorem sc_Grid_product : FnScope N_Grid_product ["self", "one", "other"] (defScope s_Grid_product) := ⟨rfl, rfl, rfl, by decide +kernel, rfl, by decide +kernel, by decide +kernel⟩
abbrev s_Grid_norm_of : Stmt := inClass (topS 22) 4
abbrev N_Grid_norm_of : List Str := ["self", "point"]
theorem sc_Grid_norm_of : FnScope N_Grid_norm_of ["self", "point"] (defScope s_Grid_norm_of) := ⟨rfl, rfl, rfl, by decide +kernel, rfl, by decide +kernel, by decide +kernel⟩
abbrev s_Grid_conjugate_of : Stmt := inClass (topS 22) 5
abbrev N_Grid_conjugate_of : List Str := ["self", "point"]
theorem sc_Grid_conjugate_of : FnScope N_Grid_conjugate_of ["self", "point"] (defScope s_Grid_conjugate_of) := ⟨rfl, rfl, rfl, by decide +kernel, rfl, by decide +kernel, by decide +kernel⟩
abbrev s_Grid_turned : Stmt := inClass (topS 22) 6
abbrev N_Grid_turned : List Str := ["self", "point", "turn"]
theorem sc_Grid_turned : FnScope N_Grid_turned ["self", "point", "turn"] (defScope s_Grid_turned) := ⟨rfl, rfl, rfl, by decide +kernel, rfl, by decide +kernel, by decide +kernel⟩
abbrev s_Grid_alternate : Stmt := inClass (topS 22) 8
abbrev N_Grid_alternate : List Str := ["self", "ends", "others"]
theorem sc_Grid_alternate : FnScope N_Grid_alternate ["self", "ends", "others"] (defScope s_Grid_alternate) := ⟨rfl, rfl, rfl, by decide +kernel, rfl, by decide +kernel, by decide +kernel⟩
abbrev s_Grid_WlenW : Stmt := inClass (topS 22) 9
abbrev N_Grid_WlenW : List Str := ["self"]
theorem sc_Grid_WlenW : FnScope N_Grid_WlenW ["self"] (defScope s_Grid_WlenW) := ⟨rfl, rfl, rfl, by decide +kernel, rfl, by decide +kernel, by decide +kernel⟩
abbrev s__law_dice : Stmt := topS 24
abbrev N__law_dice : List Str := ["_law_script", "_law_spot", "_law_cell", "_law_left"]
theorem sc__law_dice : FnScope N__law_dice ["_law_script", "_law_spot"] (defScope s__law_dice) := ⟨rfl, rfl, rfl, by decide +kernel, rfl, by decide +kernel, by decide +kernel⟩
abbrev s__law_roll : Stmt := topS 25
abbrev N__law_roll : List Str := ["_law_dice_here", "_law_total", "_law_found", "_law_one", "_law_two"]
theorem sc__law_roll : FnScope N__law_roll ["_law_dice_here", "_law_total"] (defScope s__law_roll) := ⟨rfl, rfl, rfl, by decide +kernel, rfl, by decide +kernel, by decide +kernel⟩
abbrev s__law_pick : Stmt := topS 26
abbrev N__law_pick : List Str := ["_law_dice_here", "_law_items"]
theorem sc__law_pick : FnScope N__law_pick ["_law_dice_here", "_law_items"] (defScope s__law_pick) := ⟨rfl, rfl, rfl, by decide +kernel, rfl, by decide +kernel, by decide +kernel⟩
abbrev s__law_around : Stmt := topS 27
abbrev N__law_around : List Str := ["_law_plain"]
theorem sc__law_around : FnScope N__law_around ["_law_plain"] (defScope s__law_around) := ⟨rfl, rfl, rfl, by decide +kernel, rfl, by decide +kernel, by decide +kernel⟩
abbrev s__law_unit : Stmt := topS 28
abbrev N__law_unit : List Str := ["_law_plain", "_law_direction"]
theorem sc__law_unit : FnScope N__law_unit ["_law_plain", "_law_direction"] (defScope s__law_unit) := ⟨rfl, rfl, rfl, by decide +kernel, rfl, by decide +kernel, by decide +kernel⟩
abbrev s__law_times : Stmt := topS 29
abbrev N__law_times : List Str := ["_law_plain", "_law_one", "_law_other", "_law_both", "_law_more"]
theorem sc__law_times : FnScope N__law_times ["_law_plain", "_law_one", "_law_other"] (defScope s__law_times) := ⟨rfl, rfl, rfl, by decide +kernel, rfl, by decide +kernel, by decide +kernel⟩
abbrev s__law_limit : Stmt := topS 30
abbrev N__law_limit : List Str := []
theorem sc__law_limit : FnScope N__law_limit [] (defScope s__law_limit) := ⟨rfl, rfl, rfl, by decide +kernel, rfl, by decide +kernel, by decide +kernel⟩
abbrev s__law_part : Stmt := topS 31
abbrev N__law_part : List Str := ["_law_dice_here", "_law_great", "_law_some", "_law_part_here"]
theorem sc__law_part : FnScope N__law_part ["_law_dice_here"] (defScope s__law_part) := ⟨rfl, rfl, rfl, by decide +kernel, rfl, by decide +kernel, by decide +kernel⟩
abbrev s__law_grid_plain : Stmt := topS 32
abbrev N__law_grid_plain : List Str := ["_law_dice_here"]
theorem sc__law_grid_plain : FnScope N__law_grid_plain ["_law_dice_here"] (defScope s__law_grid_plain) := ⟨rfl, rfl, rfl, by decide +kernel, rfl, by decide +kernel, by decide +kernel⟩
abbrev s__law_spun : Stmt := topS 33
abbrev N__law_spun : List Str := ["_law_plain", "_law_place", "_law_turn"]
theorem sc__law_spun : FnScope N__law_spun ["_law_plain", "_law_place", "_law_turn"] (defScope s__law_spun) := ⟨rfl, rfl, rfl, by decide +kernel, rfl, by decide +kernel, by decide +kernel⟩
abbrev s__law_do_alternate : Stmt := topS 34
abbrev N__law_do_alternate : List Str := ["_law_around_here", "_law_ends", "_law_others", "_law_met", "_law_direction", "_law_places", "_law_one"]
theorem sc__law_do_alternate : FnScope N__law_do_alternate ["_law_around_here", "_law_ends", "_law_others"] (defScope s__law_do_alternate) := ⟨rfl, rfl, rfl, by decide +kernel, rfl, by decide +kernel, by decide +kernel⟩
abbrev s__law_turns_right : Stmt := topS 35
abbrev N__law_turns_right : List Str := ["_law_dice_here", "_law_plain", "_law_grid", "_law_place", "_law_one", "_law_other", "_law_told", "_law_again"]
theorem sc__law_turns_right : FnScope N__law_turns_right ["_law_dice_here", "_law_plain", "_law_grid"] (defScope s__law_turns_right) := ⟨rfl, rfl, rfl, by decide +kernel, rfl, by decide +kernel, by decide +kernel⟩
abbrev s__law_pairs_right : Stmt := topS 36
abbrev N__law_pairs_right : List Str := ["_law_dice_here", "_law_plain", "_law_grid", "_law_around_here", "_law_by", "_law_shift", "_law_first", "_law_second", "_law_other", "_law_ends", "_law_due", "_law_told"]
theorem sc__law_pairs_right : FnScope N__law_pairs_right ["_law_dice_here", "_law_plain", "_law_grid"] (defScope s__law_pairs_right) := ⟨rfl, rfl, rfl, by decide +kernel, rfl, by decide +kernel, by decide +kernel⟩
abbrev s_law : Stmt := topS 37
abbrev N_law : List Str := ["_law_script", "_law_spot", "_law_dice_here", "_law_plain", "_law_grid", "_law_turn", "_law_square", "_law_triangle", "_law_told"]
theorem sc_law : FnScope N_law ["_law_script"] (defScope s_law) := ⟨rfl, rfl, rfl, by decide +kernel, rfl, by decide +kernel, by decide +kernel⟩
structure Txt (K : PySem.W.Frag) (mg : Str → Option Value) (aG dU : Addr) : Prop where
  zisinstance : mg "isinstance" = none
  zbool : mg "bool" = none
  zint : mg "int" = none
  ztuple : mg "tuple" = none
  zlen : mg "len" = none
  zset : mg "set" = none
  zmax : mg "max" = none
  zmin : mg "min" = none
  zabs : mg "abs" = none
  zrange : mg "range" = none
  zrepr : mg "repr" = none
  g_BOUND : MgV mg "_BOUND" (.int B)
  gGRIDS : MgV mg "GRIDS" (.ref aG)
  g_UNITS : MgV mg "_UNITS" (.ref dU)
section
variable {P : Program} {w : World} {K : PySem.W.Frag} {mg : Str → Option Value} {base : Heap}
variable {aG dU C : Addr} {U : Bool → Addr} {us : Bool → List Addr}
theorem h_init (T : Txt K mg aG dU) (hU : Uni K w aG dU U us) (c : GCls K C) (D : Dc K C "Grid.__init__" s_Grid_WinitW) (m : mg "Grid" = some (.ref C)) : HasC P w K mg base "Grid" C 1 ["self", "name"] (spInit C U) := by
  refine D.has m sc_Grid_WinitW (fun vs H Q E h => ?_) (fun kV doc pm an cdv ct us hl => match us, hl with | [_, _], _ => rfl) (fun f cdv A outer s H vs Q E hr h => ?_)
  · obtain ⟨p, dx, t, rfl, _⟩ := h
    rfl
  · obtain ⟨p, dx, t, rfl, hp, k⟩ := h
    refine ⟨_, (pss_cons
 (ps_if (pt_cmpR op_notIn_seq (pv 1) (pe_globV T.gGRIDS) (by rfl)) (pss_one
 ps_never) pss_nil)
 (pss_cons
 (ps_fld (pv 0) (pv 1) rfl)
 (pss_cons
 (ps_fld (pv 0) (pe_ix ix_kdict (pe_globV T.g_UNITS) (pv 1) (fun _ _ => rfl)) rfl)
 (pss_cons
 (ps_fld (pv 0) (pe_op op_fdiv (pe_callB call_len_seq (by exact rfl) T.zlen PySem.boot_len (pa_cons (pe_ix ix_kdict (pe_globV T.g_UNITS) (pv 1) (fun _ _ => rfl)) pa_nil)) pe_int) rfl)
 (pss_one
 (ps_fld (pv 0) (pe_ifExp (pt_cmpR op_eq (pv 1) pe_str (nomark _)) pe_int pe_int) rfl)))))), ?_⟩
    refine ⟨_, rfl, aG, _, rfl, .inr (hU.grids H), rfl, rfl, _, rfl, ?_⟩
    rw [show (!inV (V.str (nm t)) [.str "square", .str "triangle"]) = false by cases t <;> rfl]
    refine iteF ⟨_, rfl, _, rfl, _, _, _, _, rfl, hp, c.cls, c.name, by show 0 < 1000; decide, ?_⟩
    refine ⟨_, rfl, dU, _, _, rfl, rfl, hU.key t, _, rfl, _, _, _, _, rfl, upd_same, c.cls, c.units, by show 1 < 1000; decide, ?_⟩
    refine ⟨_, rfl, dU, _, _, rfl, rfl, hU.key t, U t, _, rfl, .inr (hU.tup t _), _, _, rfl, rfl, ⟨by decide, by decide⟩, _, rfl, _, _, _, _, rfl, upd_same, c.cls, c.half, Nat.lt_of_le_of_lt (small_put (n := 1) (small_put (n := 0) (Nat.le_refl 0))) (by decide), ?_⟩
    rw [List.length_map, hU.len t]
    refine ⟨_, rfl, rfl, _, rfl, ?_⟩
    rw [show decide (V.str (nm t) = V.str "triangle") = t from by cases t <;> decide +kernel]
    have fin : ∀ v, v = V.int (sl t) → (∃ y, (L2.start N_Grid_WinitW [V.ref p, V.str (nm t)])[0]? = some (some y) ∧ ∃ a C' dx' fs, y = V.ref a ∧ (upd (upd (upd H p (.ins C dx (putF "name" (V.str (nm t)) []))) p (.ins C dx (putF "units" (V.ref (U t)) (putF "name" (V.str (nm t)) [])))) p (.ins C dx (putF "half" (V.int ((num t : Int) / 2)) (putF "units" (V.ref (U t)) (putF "name" (V.str (nm t)) []))))) a = some (.ins C' dx' fs) ∧ Cls K C' ∧ NoAttr K C' "slant" ∧ fs.length < 1000 ∧ Q .non (upd (upd (upd (upd H p (.ins C dx (putF "name" (V.str (nm t)) []))) p (.ins C dx (putF "units" (V.ref (U t)) (putF "name" (V.str (nm t)) [])))) p (.ins C dx (putF "half" (V.int ((num t : Int) / 2)) (putF "units" (V.ref (U t)) (putF "name" (V.str (nm t)) []))))) a (.ins C' dx' (putF "slant" v fs)))) := by
      rintro _ rfl
      refine ⟨_, rfl, _, _, _, _, rfl, upd_same, c.cls, c.slant, Nat.lt_of_le_of_lt (small_put (n := 2) (small_put (n := 1) (small_put (n := 0) (Nat.le_refl 0)))) (by decide), k _ (fun b hb => by rw [upd_ne hb, upd_ne hb, upd_ne hb, upd_ne hb]) ?_⟩
      rw [upd_same]
      rw [show putF "name" (V.str (nm t)) [] = [(("name" : Str), V.str (nm t))] from rfl, put2 (by decide), put3 (by decide) (by decide), put4 (by decide) (by decide) (by decide)]
      rfl
    cases t with
    | false => exact iteF (fin _ rfl)
    | true => exact iteT (fin _ rfl)
theorem slm {t : Bool} {x : Int} (h : x.natAbs < 2 ^ 3000) : (sl t * x).natAbs < 2 ^ 3001 := by
  cases t
  · show (0 * x).natAbs < _; rw [Int.zero_mul]; decide
  · show (1 * x).natAbs < _; rw [Int.one_mul]; exact Nat.lt_of_lt_of_le h (by decide)
theorem h_times (c : GCls K C) (D : Df K mg "times" s_times) : Has P w K mg base CX0 "times" 1 ["grid", "one", "other"] (spTimes K C U) := by
  refine D.has sc_times (fun vs H Q E h => ?_) (fun kV doc pm an cdv ct us hl => match us, hl with | [_, _, _], _ => rfl) (fun f cdv A outer s H vs Q E gd hr h => ?_)
  · obtain ⟨g, t, a, b, u, v, rfl, _⟩ := h
    rfl
  · obtain ⟨g, t, a, b, u, v, rfl, ⟨dx, eg⟩, pu, pv', su, sv, k⟩ := h
    refine ⟨_, (pss_cons
 (ps_set (i := 3) sc_times.nd rfl (Or.inl rfl) (pe_op op_mulW (pe_ix ix_tup (pv 1) pe_int (fun _ _ => rfl)) (pe_ix ix_tup (pv 2) pe_int (fun _ _ => rfl))))
 (pss_one
 (ps_ret (pe_tup (pa_cons (pe_op op_sub (pe_op op_mulW (pe_ix ix_tup (pv 1) pe_int (fun _ _ => rfl)) (pe_ix ix_tup (pv 2) pe_int (fun _ _ => rfl))) (pv 3)) (pa_cons (pe_op op_add (pe_op op_add (pe_op op_mulW (pe_ix ix_tup (pv 1) pe_int (fun _ _ => rfl)) (pe_ix ix_tup (pv 2) pe_int (fun _ _ => rfl))) (pe_op op_mulW (pe_ix ix_tup (pv 1) pe_int (fun _ _ => rfl)) (pe_ix ix_tup (pv 2) pe_int (fun _ _ => rfl)))) (pe_op op_mulW (pe_fld (pv 0) rfl) (pv 3))) pa_nil)))))), ?_⟩
    refine ⟨_, rfl, _, _, _, _, rfl, rfl, pu, atI_nat (j := 1) rfl, _, rfl, _, _, _, _, rfl, rfl, pv', atI_nat (j := 1) rfl, _, _, rfl, rfl, sm_mul su.2 sv.2, ?_⟩
    refine ⟨_, rfl, _, _, _, _, rfl, rfl, pu, atI_nat (j := 0) rfl, _, rfl, _, _, _, _, rfl, rfl, pv', atI_nat (j := 0) rfl, _, _, rfl, rfl, sm_mul su.1 sv.1, _, rfl, _, _, rfl, rfl, ?_⟩
    refine ⟨_, rfl, _, _, _, _, rfl, rfl, pu, atI_nat (j := 0) rfl, _, rfl, _, _, _, _, rfl, rfl, pv', atI_nat (j := 1) rfl, _, _, rfl, rfl, sm_mul su.1 sv.2, _, rfl, _, _, _, _, rfl, rfl, pu, atI_nat (j := 1) rfl, _, rfl, _, _, _, _, rfl, rfl, pv', atI_nat (j := 0) rfl, _, _, rfl, rfl, sm_mul su.2 sv.1, _, _, rfl, rfl, ?_⟩
    refine ⟨_, rfl, _, _, _, _, _, rfl, eg, c.cls, c.slant, gF_slant, _, rfl, _, _, rfl, rfl, sl_mul (by rw [Int.natAbs_mul]; exact Nat.lt_of_lt_of_le (Nat.mul_lt_mul'' su.2 sv.2) (by decide)), _, _, rfl, rfl, by show 2 ≤ sizeLine; decide, fun p hp => k p hp⟩
theorem h_norm_in (c : GCls K C) (D : Df K mg "norm_in" s_norm_in) : Has P w K mg base CX0 "norm_in" 1 ["grid", "point"] (spNorm K C U) := by
  refine D.has sc_norm_in (fun vs H Q E h => ?_) (fun kV doc pm an cdv ct us hl => match us, hl with | [_, _], _ => rfl) (fun f cdv A outer s H vs Q E gd hr h => ?_)
  · obtain ⟨g, t, a, u, rfl, _⟩ := h
    rfl
  · obtain ⟨g, t, a, u, rfl, ⟨dx, eg⟩, pu, su, k⟩ := h
    refine ⟨_, (pss_one
 (ps_ret (pe_op op_add (pe_op op_add (pe_op op_mulW (pe_ix ix_tup (pv 1) pe_int (fun _ _ => rfl)) (pe_ix ix_tup (pv 1) pe_int (fun _ _ => rfl))) (pe_op op_mulW (pe_op op_mulW (pe_fld (pv 0) rfl) (pe_ix ix_tup (pv 1) pe_int (fun _ _ => rfl))) (pe_ix ix_tup (pv 1) pe_int (fun _ _ => rfl)))) (pe_op op_mulW (pe_ix ix_tup (pv 1) pe_int (fun _ _ => rfl)) (pe_ix ix_tup (pv 1) pe_int (fun _ _ => rfl)))))), ?_⟩
    refine ⟨_, rfl, _, _, _, _, rfl, rfl, pu, atI_nat (j := 0) rfl, _, rfl, _, _, _, _, rfl, rfl, pu, atI_nat (j := 0) rfl, _, _, rfl, rfl, sm_mul su.1 su.1, ?_⟩
    refine ⟨_, rfl, _, _, _, _, _, rfl, eg, c.cls, c.slant, gF_slant, _, rfl, _, _, _, _, rfl, rfl, pu, atI_nat (j := 0) rfl, _, _, rfl, rfl, sl_mul (Nat.lt_of_lt_of_le su.1 (by decide)), ?_⟩
    refine ⟨_, rfl, _, _, _, _, rfl, rfl, pu, atI_nat (j := 1) rfl, _, _, rfl, rfl, wide_mul (a := 3001) (b := 3000) (slm su.1) su.2 (by decide) (by decide) (by decide), _, _, rfl, rfl, ?_⟩
    refine ⟨_, rfl, _, _, _, _, rfl, rfl, pu, atI_nat (j := 1) rfl, _, rfl, _, _, _, _, rfl, rfl, pu, atI_nat (j := 1) rfl, _, _, rfl, rfl, sm_mul su.2 su.2, _, _, rfl, rfl, k⟩
theorem h_flipped (c : GCls K C) (D : Df K mg "flipped" s_flipped) : Has P w K mg base CX0 "flipped" 1 ["grid", "point"] (spFlip K C U) := by
  refine D.has sc_flipped (fun vs H Q E h => ?_) (fun kV doc pm an cdv ct us hl => match us, hl with | [_, _], _ => rfl) (fun f cdv A outer s H vs Q E gd hr h => ?_)
  · obtain ⟨g, t, a, u, rfl, _⟩ := h
    rfl
  · obtain ⟨g, t, a, u, rfl, ⟨dx, eg⟩, pu, su, k⟩ := h
    refine ⟨_, (pss_one
 (ps_ret (pe_tup (pa_cons (pe_op op_add (pe_ix ix_tup (pv 1) pe_int (fun _ _ => rfl)) (pe_op op_mulW (pe_fld (pv 0) rfl) (pe_ix ix_tup (pv 1) pe_int (fun _ _ => rfl)))) (pa_cons (pe_un un_neg (pe_ix ix_tup (pv 1) pe_int (fun _ _ => rfl))) pa_nil))))), ?_⟩
    refine ⟨_, rfl, _, _, _, _, rfl, rfl, pu, atI_nat (j := 0) rfl, _, rfl, _, _, _, _, _, rfl, eg, c.cls, c.slant, gF_slant, _, rfl, _, _, _, _, rfl, rfl, pu, atI_nat (j := 1) rfl, _, _, rfl, rfl, sl_mul (Nat.lt_of_lt_of_le su.2 (by decide)), _, _, rfl, rfl, ?_⟩
    exact ⟨_, rfl, _, _, _, _, rfl, rfl, pu, atI_nat (j := 1) rfl, _, rfl, by show 2 ≤ sizeLine; decide, fun p hp => k p hp⟩
theorem unit_at (hU : Uni K w aG dU U us) {t : Bool} (n : Int) : ∃ i : Addr, (∀ H, PAt K H i (uni t n)) ∧ atI ((us t).map V.ref) (n % (num t : Int)) = some (.ref i) := by
  have h1 := Int.emod_nonneg n (Int.ne_of_gt (num_pos (t := t)))
  have h2 := Int.emod_lt_of_pos n (num_pos (t := t))
  obtain ⟨j, hj⟩ : ∃ j : Nat, n % (num t : Int) = (j : Int) := ⟨(n % (num t : Int)).toNat, by omega⟩
  have e := uni_at (t := t) n
  rw [hj] at e ⊢
  have l : j < (us t).length := by rw [hU.len]; omega
  refine ⟨(us t)[j], hU.pt t j _ _ (List.getElem?_eq_getElem l) e, atI_nat ?_⟩
  rw [List.getElem?_map, List.getElem?_eq_getElem l]
  rfl
theorem h_turned_by (c : GCls K C) (hU : Uni K w aG dU U us) (T : Txt K mg aG dU) (D : Df K mg "turned_by" s_turned_by) (htimes : Has P w K mg base CX0 "times" 1 ["grid", "one", "other"] (spTimes K C U)) : Has P w K mg base CX0 "turned_by" 2 ["grid", "point", "turn"] (spTurned K C U) := by
  refine D.has sc_turned_by (fun vs H Q E h => ?_) (fun kV doc pm an cdv ct us hl => match us, hl with | [_, _, _], _ => rfl) (fun f cdv A outer s H vs Q E gd hr h => ?_)
  · obtain ⟨g, t, a, u, n, rfl, _⟩ := h
    rfl
  · obtain ⟨g, t, a, u, n, rfl, ⟨dx, eg⟩, pu, su, k⟩ := h
    refine ⟨_, (pss_one
 (ps_ret (pe_callH htimes gd (hr.mono (by decide)) pass0 (pa_cons (pv 0) (pa_cons (pv 1) (pa_cons (pe_ix ix_tup (pe_fld (pv 0) rfl) (pe_op op_mod (pv 2) (pe_callB call_len_seq (by exact rfl) T.zlen PySem.boot_len (pa_cons (pe_fld (pv 0) rfl) pa_nil))) (fun _ _ => rfl)) pa_nil)))))), ?_⟩
    refine ⟨_, rfl, _, rfl, _, rfl, _, _, _, _, _, rfl, eg, c.cls, c.units, gF_units, _, rfl, _, rfl, _, _, _, _, _, rfl, eg, c.cls, c.units, gF_units, U t, _, rfl, .inr (hU.tup t _), _, _, rfl, rfl, ?_, ?_⟩
    · rw [List.length_map, hU.len t]; exact num_pos
    rw [List.length_map, hU.len t]
    obtain ⟨i, hi, e1⟩ := unit_at (t := t) hU n
    refine ⟨_, _, _, _, rfl, rfl, hU.tup t _, e1, ?_⟩
    exact ⟨g, t, a, _, u, uni t n, rfl, ⟨dx, eg⟩, pu, hi H, su, uni_sm, k⟩
theorem h_is_integer (T : Txt K mg aG dU) (D : Df K mg "is_integer" s_is_integer) : Has P w K mg base CX0 "is_integer" 1 ["value"] (spIsInt K) := by
  refine D.has sc_is_integer (fun vs H Q E h => ?_) (fun kV doc pm an cdv ct us hl => match us, hl with | [_], _ => rfl) (fun f cdv A outer s H vs Q E gd hr h => ?_)
  · obtain ⟨x, k, rfl, _⟩ := h
    rfl
  · obtain ⟨x, k, rfl, hk, q⟩ := h
    refine ⟨_, (pss_cons
 (ps_if (PW.pt (pw_or (pt_val (pe_callB call_isi (by exact rfl) T.zisinstance (by decide +kernel) (pa_cons (pv 0) (pa_cons (pe_bltn (v := .ty "bool") (by exact rfl) T.zbool (by decide +kernel) rfl) pa_nil)))) (pw_or1 (pt_not (pt_val (pe_callB call_isi (by exact rfl) T.zisinstance (by decide +kernel) (pa_cons (pv 0) (pa_cons (pe_bltn (v := .ty "int") (by exact rfl) T.zint (by decide +kernel) rfl) pa_nil)))))))) (pss_one
 (ps_ret pe_bl)) pss_nil)
 (pss_one
 (ps_ret (pe_chain op_lt op_lt (pe_un un_neg (pe_globV T.g_BOUND)) (pv 0) (pe_globV T.g_BOUND))))), ?_⟩
    refine ⟨_, rfl, _, _, _, _, _, rfl, .ty _, hk, kit_bool _, _, rfl, ?_⟩
    cases k with
    | bl =>
      obtain ⟨b, rfl⟩ := hk.blI
      exact iteT (iteT q)
    | int =>
      obtain ⟨i, rfl⟩ := hk.intI
      refine iteF ⟨_, rfl, _, _, _, _, _, rfl, .ty _, hk, kit_int _, _, rfl, iteF ⟨_, rfl, _, rfl, _, _, rfl, rfl, _, rfl, ?_⟩⟩
      by_cases h1 : -B < i
      · have e : isIntV (.int i) = decide (i < B) := by show (decide (-B < i) && decide (i < B)) = _; rw [decide_eq_true h1, Bool.true_and]
        rw [e] at q
        rw [decide_eq_true h1]
        exact iteT ⟨_, _, rfl, rfl, q⟩
      · have e : isIntV (.int i) = false := by show (decide (-B < i) && decide (i < B)) = _; rw [decide_eq_false h1, Bool.false_and]
        rw [e] at q
        rw [decide_eq_false h1]
        exact iteF q
    | _ =>
      have e : isIntV x = false := by
        cases x with
        | int i => exact absurd hk.notInt (by intro z; cases z)
        | _ => rfl
      rw [e] at q
      exact iteF ⟨_, rfl, _, _, _, _, _, rfl, .ty _, hk, kit_int _, _, rfl, iteT q⟩

theorem pt_of {H : Hp} {a : Addr} {u : Int × Int} (h : PAt K H a u) (o : ptOk u) : PtV K H (.ref a) true :=
  ⟨.tup, SqT.tup' h, (fun z => nomatch z), fun _ => ⟨a, _, rfl, h, by show 2 ≤ 1000; decide, fun z => absurd rfl z, fun _ => ⟨_, _, _, _, rfl, .int, .int, by rw [o.1, o.2]; rfl⟩⟩⟩
theorem h_check_point (D : Df K mg "_check_point" s__check_point) (his_point : Has P w K mg base CX0 "is_point" 2 ["value"] (spIsPoint K)) : Has P w K mg base CX0 "_check_point" 3 ["point"] (spCheckP K) := by
  refine D.has sc__check_point (fun vs H Q E h => ?_) (fun kV doc pm an cdv ct us hl => match us, hl with | [_], _ => rfl) (fun f cdv A outer s H vs Q E gd hr h => ?_)
  · obtain ⟨a, u, rfl, _⟩ := h
    rfl
  · obtain ⟨a, u, rfl, pu, o, k⟩ := h
    refine ⟨_, (pss_one
 (ps_if (pt_not (pt_val (pe_callH his_point gd (hr.mono (by decide)) pass0 (pa_cons (pv 0) pa_nil)))) (pss_one
 ps_never) pss_nil)), ?_⟩
    exact ⟨_, rfl, _, _, rfl, pt_of pu o, _, rfl, iteF k⟩
theorem h_check_number (D : Df K mg "_check_number" s__check_number) (his_integer : Has P w K mg base CX0 "is_integer" 1 ["value"] (spIsInt K)) : Has P w K mg base CX0 "_check_number" 2 ["number"] spCheckN := by
  refine D.has sc__check_number (fun vs H Q E h => ?_) (fun kV doc pm an cdv ct us hl => match us, hl with | [_], _ => rfl) (fun f cdv A outer s H vs Q E gd hr h => ?_)
  · obtain ⟨n, rfl, _⟩ := h
    rfl
  · obtain ⟨n, rfl, o, k⟩ := h
    refine ⟨_, (pss_one
 (ps_if (pt_not (pt_val (pe_callH his_integer gd (hr.mono (by decide)) pass0 (pa_cons (pv 0) pa_nil)))) (pss_one
 ps_never) pss_nil)), ?_⟩
    refine ⟨_, rfl, _, _, rfl, .int, _, rfl, ?_⟩
    rw [o]
    exact iteF k
theorem h_unit (c : GCls K C) (hU : Uni K w aG dU U us) (T : Txt K mg aG dU) (D : Dm K C "unit" "Grid.unit" s_Grid_unit) (h_check_number : Has P w K mg base CX0 "_check_number" 2 ["number"] spCheckN) : HasM P w K mg base CX0 C "unit" 3 ["self", "direction"] (spMUnit K C U) := by
  refine D.has sc_Grid_unit (fun vs H Q E h => ?_) (fun kV doc pm an cdv ct us hl => match us, hl with | [_, _], _ => rfl) (fun f cdv A outer s H vs Q E gd hr h => ?_)
  · obtain ⟨g, t, n, rfl, _⟩ := h
    rfl
  · obtain ⟨g, t, n, rfl, ⟨dx, eg⟩, o, k⟩ := h
    refine ⟨_, (pss_cons
 (ps_expr (pe_callH h_check_number gd (hr.mono (by decide)) pass0 (pa_cons (pv 1) pa_nil)))
 (pss_one
 (ps_ret (pe_ix ix_tup (pe_fld (pv 0) rfl) (pe_op op_mod (pv 1) (pe_callB call_len_seq (by exact rfl) T.zlen PySem.boot_len (pa_cons (pe_fld (pv 0) rfl) pa_nil))) (fun _ _ => rfl))))), ?_⟩
    refine ⟨_, rfl, _, rfl, o, ?_⟩
    refine ⟨_, rfl, _, _, _, _, _, rfl, eg, c.cls, c.units, gF_units, _, rfl, _, rfl, _, _, _, _, _, rfl, eg, c.cls, c.units, gF_units, U t, _, rfl, .inr (hU.tup t _), _, _, rfl, rfl, ?_, ?_⟩
    · rw [List.length_map, hU.len t]; exact num_pos
    rw [List.length_map, hU.len t]
    obtain ⟨i, hi, e1⟩ := unit_at (t := t) hU n
    exact ⟨_, _, _, _, rfl, rfl, hU.tup t _, e1, k i hi⟩
theorem h_norm_of (c : GCls K C) (D : Dm K C "norm_of" "Grid.norm_of" s_Grid_norm_of) (h_check_point : Has P w K mg base CX0 "_check_point" 3 ["point"] (spCheckP K)) (hnorm_in : Has P w K mg base CX0 "norm_in" 1 ["grid", "point"] (spNorm K C U)) : HasM P w K mg base CX0 C "norm_of" 4 ["self", "point"] (spMNorm K C U) := by
  refine D.has sc_Grid_norm_of (fun vs H Q E h => ?_) (fun kV doc pm an cdv ct us hl => match us, hl with | [_, _], _ => rfl) (fun f cdv A outer s H vs Q E gd hr h => ?_)
  · obtain ⟨g, t, a, u, rfl, _⟩ := h
    rfl
  · obtain ⟨g, t, a, u, rfl, eg, pu, o, k⟩ := h
    refine ⟨_, (pss_cons
 (ps_expr (pe_callH h_check_point gd (hr.mono (by decide)) pass0 (pa_cons (pv 1) pa_nil)))
 (pss_one
 (ps_ret (pe_callH hnorm_in gd (hr.mono (by decide)) pass0 (pa_cons (pv 0) (pa_cons (pv 1) pa_nil)))))), ?_⟩
    exact ⟨_, rfl, _, u, rfl, pu, o, _, rfl, _, rfl, _, t, _, _, rfl, eg, pu, ptOk_sm o.1 o.2, k⟩
theorem h_conjugate_of (c : GCls K C) (D : Dm K C "conjugate_of" "Grid.conjugate_of" s_Grid_conjugate_of) (h_check_point : Has P w K mg base CX0 "_check_point" 3 ["point"] (spCheckP K)) (hflipped : Has P w K mg base CX0 "flipped" 1 ["grid", "point"] (spFlip K C U)) : HasM P w K mg base CX0 C "conjugate_of" 4 ["self", "point"] (spMFlip K C U) := by
  refine D.has sc_Grid_conjugate_of (fun vs H Q E h => ?_) (fun kV doc pm an cdv ct us hl => match us, hl with | [_, _], _ => rfl) (fun f cdv A outer s H vs Q E gd hr h => ?_)
  · obtain ⟨g, t, a, u, rfl, _⟩ := h
    rfl
  · obtain ⟨g, t, a, u, rfl, eg, pu, o, k⟩ := h
    refine ⟨_, (pss_cons
 (ps_expr (pe_callH h_check_point gd (hr.mono (by decide)) pass0 (pa_cons (pv 1) pa_nil)))
 (pss_one
 (ps_ret (pe_callH hflipped gd (hr.mono (by decide)) pass0 (pa_cons (pv 0) (pa_cons (pv 1) pa_nil)))))), ?_⟩
    exact ⟨_, rfl, _, u, rfl, pu, o, _, rfl, _, rfl, _, t, _, _, rfl, eg, pu, ptOk_sm o.1 o.2, k⟩
theorem h_turned (c : GCls K C) (D : Dm K C "turned" "Grid.turned" s_Grid_turned) (h_check_point : Has P w K mg base CX0 "_check_point" 3 ["point"] (spCheckP K)) (h_check_number : Has P w K mg base CX0 "_check_number" 2 ["number"] spCheckN) (hturned_by : Has P w K mg base CX0 "turned_by" 2 ["grid", "point", "turn"] (spTurned K C U)) : HasM P w K mg base CX0 C "turned" 4 ["self", "point", "turn"] (spMTurned K C U) := by
  refine D.has sc_Grid_turned (fun vs H Q E h => ?_) (fun kV doc pm an cdv ct us hl => match us, hl with | [_, _, _], _ => rfl) (fun f cdv A outer s H vs Q E gd hr h => ?_)
  · obtain ⟨g, t, a, u, n, rfl, _⟩ := h
    rfl
  · obtain ⟨g, t, a, u, n, rfl, eg, pu, o, on, k⟩ := h
    refine ⟨_, (pss_cons
 (ps_expr (pe_callH h_check_point gd (hr.mono (by decide)) pass0 (pa_cons (pv 1) pa_nil)))
 (pss_cons
 (ps_expr (pe_callH h_check_number gd (hr.mono (by decide)) pass0 (pa_cons (pv 2) pa_nil)))
 (pss_one
 (ps_ret (pe_callH hturned_by gd (hr.mono (by decide)) pass0 (pa_cons (pv 0) (pa_cons (pv 1) (pa_cons (pv 2) pa_nil)))))))), ?_⟩
    exact ⟨_, rfl, _, u, rfl, pu, o, _, rfl, _, rfl, on, _, rfl, _, rfl, _, rfl, _, t, _, _, _, rfl, eg, pu, ptOk_sm o.1 o.2, k⟩
theorem h_is_point (T : Txt K mg aG dU) (D : Df K mg "is_point" s_is_point) (his_integer : Has P w K mg base CX0 "is_integer" 1 ["value"] (spIsInt K)) : Has P w K mg base CX0 "is_point" 2 ["value"] (spIsPoint K) := by
  refine D.has sc_is_point (fun vs H Q E h => ?_) (fun kV doc pm an cdv ct us hl => match us, hl with | [_], _ => rfl) (fun f cdv A outer s H vs Q E gd hr h => ?_)
  · obtain ⟨x, r, rfl, _⟩ := h
    rfl
  · obtain ⟨x, r, rfl, ⟨k, hk, c0, c1⟩, q⟩ := h
    refine ⟨_, (pss_cons
 (ps_if (PW.pt (pw_or (pt_not (pt_val (pe_callB call_isi (by exact rfl) T.zisinstance (by decide +kernel) (pa_cons (pv 0) (pa_cons (pe_bltn (v := .ty "tuple") (by exact rfl) T.ztuple (by decide +kernel) rfl) pa_nil))))) (pw_or1 (pt_cmpR op_ne (pe_callB call_len_seq (by exact rfl) T.zlen PySem.boot_len (pa_cons (pv 0) pa_nil)) pe_int (nomark _))))) (pss_one
 (ps_ret pe_bl)) pss_nil)
 (pss_one
 (ps_ret (pe_and (pe_callH his_integer gd (hr.mono (by decide)) pass0 (pa_cons (pe_ix ix_tup (pv 0) pe_int (fun _ _ => rfl)) pa_nil)) (pe_one (pe_callH his_integer gd (hr.mono (by decide)) pass0 (pa_cons (pe_ix ix_tup (pv 0) pe_int (fun _ _ => rfl)) pa_nil))))))), ?_⟩
    refine ⟨_, rfl, _, _, _, _, _, rfl, .ty _, hk, kit_tup _, _, rfl, ?_⟩
    cases e : k.isT with
    | false =>
      rw [c0 e] at q
      exact iteT (iteT q)
    | true =>
      obtain ⟨a, xs, rfl, hx, lx, n2, y2⟩ := c1 e
      refine iteF ⟨_, rfl, a, xs, rfl, .inr hx, rfl, _, rfl, ?_⟩
      by_cases h2 : xs.length = 2
      · obtain ⟨u, v, ku, kv, rfl, hu, hv, er⟩ := y2 h2
        refine iteF ⟨_, rfl, a, _, _, u, rfl, rfl, hx, atI_nat (j := 0) rfl, _, _, rfl, hu, _, rfl, ?_⟩
        rw [er] at q
        cases hu1 : isIntV u with
        | true =>
          rw [hu1, Bool.true_and] at q
          exact iteT ⟨_, rfl, a, _, _, v, rfl, rfl, hx, atI_nat (j := 1) rfl, _, _, rfl, hv, q⟩
        | false =>
          rw [hu1, Bool.false_and] at q
          exact iteF q
      · rw [n2 h2] at q
        have : (!decide (V.int xs.length = V.int 2)) = true := by rw [decide_eq_false (fun z => h2 (by injection z with z; omega))]; rfl
        show if (!decide (V.int xs.length = V.int 2)) = true then _ else _
        rw [this]
        exact iteT q

theorem h_len (c : GCls K C) (hU : Uni K w aG dU U us) (T : Txt K mg aG dU) (D : Dm K C "__len__" "Grid.__len__" s_Grid_WlenW) : HasM P w K mg base CX0 C "__len__" 1 ["self"] (spMLen C U) := by
  refine D.has sc_Grid_WlenW (fun vs H Q E h => ?_) (fun kV doc pm an cdv ct us hl => match us, hl with | [_], _ => rfl) (fun f cdv A outer s H vs Q E gd hr h => ?_)
  · obtain ⟨g, t, rfl, _⟩ := h
    rfl
  · obtain ⟨g, t, rfl, ⟨dx, eg⟩, k⟩ := h
    refine ⟨_, (pss_one
 (ps_ret (pe_callB call_len_seq (by exact rfl) T.zlen PySem.boot_len (pa_cons (pe_fld (pv 0) rfl) pa_nil)))), ?_⟩
    refine ⟨_, rfl, _, _, _, _, _, rfl, eg, c.cls, c.units, gF_units, U t, _, rfl, .inr (hU.tup t _), ?_⟩
    rw [List.length_map, hU.len t]
    exact k
def spTake (K : PySem.W.Frag) : Sp := fun vs H Q _ => ∃ t a b e o, vs = [.int (num t : Nat), .ref a, .ref b] ∧ PAt K H a e ∧ PAt K H b o ∧ ∀ H', Same H H' → Q (.bl (alt t e o)) H'
theorem dist4 (a b c : Int) : decide (dist [0, a, b, c] = 4) = (!(decide ((0 : Int) = a) || (decide ((0 : Int) = b) || decide ((0 : Int) = c))) && !(decide (a = b) || decide (a = c)) && !decide (b = c)) := by
  unfold dist
  simp only [List.foldl, PyProof.Rows.step_dedup]
  by_cases h1 : (0 : Int) = a
  · subst h1; by_cases h2 : (0 : Int) = b
    · subst h2; by_cases h3 : (0 : Int) = c
      · subst h3; decide
      · simp [h3, Ne.symm h3]
    · by_cases h3 : (0 : Int) = c
      · subst h3; simp [h2]
      · by_cases h6 : b = c
        · subst h6; simp [h2]
        · simp [h2, h3, h6]
  · by_cases h2 : (0 : Int) = b
    · subst h2; by_cases h3 : (0 : Int) = c
      · subst h3; simp [h1]
      · by_cases h5 : a = c
        · subst h5; simp [h1]
        · simp [h1, h3, h5]
    · by_cases h3 : (0 : Int) = c
      · subst h3; by_cases h4 : a = b
        · subst h4; simp [h1]
        · simp [h1, h2, h4]
      · by_cases h4 : a = b
        · subst h4; by_cases h5 : a = c
          · subst h5; simp [h1]
          · simp [h1, h3, h5]
        · by_cases h5 : a = c
          · subst h5; simp [h1, h2, h4]
          · by_cases h6 : b = c
            · subst h6; simp [h1, h2, h4]
            · simp [h1, h2, h3, h4, h5, h6]
theorem alt_eq {t : Bool} {e o : Int × Int} : alt t e o = (!(decide ((0 : Int) = (e.2 - e.1) % (num t : Int)) || (decide ((0 : Int) = (o.1 - e.1) % (num t : Int)) || decide ((0 : Int) = (o.2 - e.1) % (num t : Int)))) && (!(decide ((e.2 - e.1) % (num t : Int) = (o.1 - e.1) % (num t : Int)) || decide ((e.2 - e.1) % (num t : Int) = (o.2 - e.1) % (num t : Int))) &&
    (decide ((o.1 - e.1) % (num t : Int) < (e.2 - e.1) % (num t : Int)) != decide ((o.2 - e.1) % (num t : Int) < (e.2 - e.1) % (num t : Int))))) := by
  unfold alt
  rw [dist4]
  by_cases h6 : (o.1 - e.1) % (num t : Int) = (o.2 - e.1) % (num t : Int)
  · rw [h6]; simp
  · simp [h6, Bool.and_assoc]
theorem h_take_turns (D : Df K mg "take_turns" s_take_turns) : Has P w K mg base CX0 "take_turns" 1 ["many", "ends", "others"] (spTake K) := by
  refine D.has sc_take_turns (fun vs H Q E h => ?_) (fun kV doc pm an cdv ct us hl => match us, hl with | [_, _, _], _ => rfl) (fun f cdv A outer s H vs Q E gd hr h => ?_)
  · obtain ⟨t, a, b, e, o, rfl, _⟩ := h
    rfl
  · obtain ⟨t, a, b, e, o, rfl, pe, po, k⟩ := h
    have hu := hr.units
    have hu66 : (A.deeper (envOfC "take_turns" (defScope s_take_turns) s.heap.objs.size f cdv)).units + 66 < cLine := by have := hr.un; omega
    refine ⟨_, (pss_cons
 (ps_set (i := 3) sc_take_turns.nd rfl (Or.inl rfl) (pe_op op_mod (pe_op op_sub (pe_ix ix_tup (pv 1) pe_int (fun _ _ => rfl)) (pe_ix ix_tup (pv 1) pe_int (fun _ _ => rfl))) (pv 0)))
 (pss_cons
 (ps_set (i := 4) sc_take_turns.nd rfl (Or.inl rfl) (pe_op op_mod (pe_op op_sub (pe_ix ix_tup (pv 2) pe_int (fun _ _ => rfl)) (pe_ix ix_tup (pv 1) pe_int (fun _ _ => rfl))) (pv 0)))
 (pss_cons
 (ps_set (i := 5) sc_take_turns.nd rfl (Or.inl rfl) (pe_op op_mod (pe_op op_sub (pe_ix ix_tup (pv 2) pe_int (fun _ _ => rfl)) (pe_ix ix_tup (pv 1) pe_int (fun _ _ => rfl))) (pv 0)))
 (pss_cons
 (ps_if (PW.pt (pw_or (pt_cmpR (op_inT hu66) pe_int (pe_tup (pa_cons (pv 3) (pa_cons (pv 4) (pa_cons (pv 5) pa_nil)))) (by rfl)) (pw_or1 (pt_cmpR (op_inT hu66) (pv 3) (pe_tup (pa_cons (pv 4) (pa_cons (pv 5) pa_nil))) (by rfl))))) (pss_one
 (ps_ret pe_bl)) pss_nil)
 (pss_one
 (ps_ret (pe_cmpR op_ne (pe_cmpR op_lt (pv 4) (pv 3) (nomark _)) (pe_cmpR op_lt (pv 5) (pv 3) (nomark _)) (nomark _)))))))), ?_⟩
    refine ⟨_, rfl, _, _, _, _, rfl, rfl, pe, atI_nat (j := 1) rfl, _, rfl, _, _, _, _, rfl, rfl, pe, atI_nat (j := 0) rfl, _, _, rfl, rfl, _, rfl, _, _, rfl, rfl, num_pos, ?_⟩
    refine ⟨_, rfl, _, _, _, _, rfl, rfl, po, atI_nat (j := 0) rfl, _, rfl, _, _, _, _, rfl, rfl, pe, atI_nat (j := 0) rfl, _, _, rfl, rfl, _, rfl, _, _, rfl, rfl, num_pos, ?_⟩
    refine ⟨_, rfl, _, _, _, _, rfl, rfl, po, atI_nat (j := 1) rfl, _, rfl, _, _, _, _, rfl, rfl, pe, atI_nat (j := 0) rfl, _, _, rfl, rfl, _, rfl, _, _, rfl, rfl, num_pos, ?_⟩
    refine ⟨_, rfl, _, rfl, _, rfl, by show 3 ≤ sizeLine; decide, fun L hL => ?_⟩
    have n3 : ∀ a b c d : Int, (List.any [PyData.int a, .int b, .int c] fun z => PyData.eqv z (.int d)) = (decide (d = a) || (decide (d = b) || decide (d = c))) := fun a b c d => by simp [PyData.eqv, eq_comm]; rfl
    have n2 : ∀ a b d : Int, (List.any [PyData.int a, .int b] fun z => PyData.eqv z (.int d)) = (decide (d = a) || decide (d = b)) := fun a b d => by simp [PyData.eqv, eq_comm]; rfl
    have s1 := Same.new (o := .tup [.int ((e.2 - e.1) % (num t : Int)), .int ((o.1 - e.1) % (num t : Int)), .int ((o.2 - e.1) % (num t : Int))]) hL
    refine ⟨.int 0, [.int ((e.2 - e.1) % (num t : Int)), .int ((o.1 - e.1) % (num t : Int)), .int ((o.2 - e.1) % (num t : Int))], .int 0, .tup (SqT.of upd_same) (.cons (.int _) (.cons (.int _) (.cons (.int _) .nil))), rfl, rfl, _, rfl, ?_⟩
    rw [n3]
    rw [alt_eq] at k
    generalize upd H L (.tup [.int ((e.2 - e.1) % (num t : Int)), .int ((o.1 - e.1) % (num t : Int)), .int ((o.2 - e.1) % (num t : Int))]) = H1 at *
    refine ite2 (fun c1 => ?_) (fun c1 => ?_)
    · rw [c1, Bool.not_true, Bool.false_and] at k
      exact iteT (k H1 s1)
    · have c1' : (decide ((0 : Int) = (e.2 - e.1) % (num t : Int)) || (decide ((0 : Int) = (o.1 - e.1) % (num t : Int)) || decide ((0 : Int) = (o.2 - e.1) % (num t : Int)))) = false := by simpa using c1
      rw [c1', Bool.not_false, Bool.true_and] at k
      refine ⟨_, rfl, _, rfl, _, rfl, by show 2 ≤ sizeLine; decide, fun L2 hL2 => ?_⟩
      have s2 := s1.trans (Same.new (o := .tup [.int ((o.1 - e.1) % (num t : Int)), .int ((o.2 - e.1) % (num t : Int))]) hL2)
      refine ⟨.int ((e.2 - e.1) % (num t : Int)), [.int ((o.1 - e.1) % (num t : Int)), .int ((o.2 - e.1) % (num t : Int))], .int _, .tup (SqT.of upd_same) (.cons (.int _) (.cons (.int _) .nil)), rfl, rfl, _, rfl, ?_⟩
      rw [n2]
      refine ite2 (fun c2 => ?_) (fun c2 => ?_)
      · rw [c2, Bool.not_true, Bool.false_and] at k
        exact k _ s2
      · have c2' : (decide ((e.2 - e.1) % (num t : Int) = (o.1 - e.1) % (num t : Int)) || decide ((e.2 - e.1) % (num t : Int) = (o.2 - e.1) % (num t : Int))) = false := by simpa using c2
        rw [c2', Bool.not_false, Bool.true_and] at k
        refine ⟨_, rfl, _, rfl, _, _, rfl, rfl, _, rfl, _, rfl, _, _, rfl, rfl, rfl, ?_⟩
        rw [bl_ne]
        exact k _ s2

theorem h_alternate (c : GCls K C) (hU : Uni K w aG dU U us) (T : Txt K mg aG dU) (D : Dm K C "alternate" "Grid.alternate" s_Grid_alternate) (his_point : Has P w K mg base CX0 "is_point" 2 ["value"] (spIsPoint K)) (htake_turns : Has P w K mg base CX0 "take_turns" 1 ["many", "ends", "others"] (spTake K)) : HasM P w K mg base CX0 C "alternate" 3 ["self", "ends", "others"] (spMAlt K C U) := by
  refine D.has sc_Grid_alternate (fun vs H Q E h => ?_) (fun kV doc pm an cdv ct us hl => match us, hl with | [_, _, _], _ => rfl) (fun f cdv A outer s H vs Q E gd hr h => ?_)
  · obtain ⟨g, t, a, b, e, o, rfl, _⟩ := h
    rfl
  · obtain ⟨g, t, a, b, e, o, rfl, ⟨dx, eg⟩, pe, po, oe, oo, k⟩ := h
    refine ⟨_, (pss_cons
 (ps_if (PW.pt (pw_or (pt_not (pt_val (pe_callH his_point gd (hr.mono (by decide)) pass0 (pa_cons (pv 1) pa_nil)))) (pw_or1 (pt_not (pt_val (pe_callH his_point gd (hr.mono (by decide)) pass0 (pa_cons (pv 2) pa_nil))))))) (pss_one
 ps_never) pss_nil)
 (pss_one
 (ps_ret (pe_callH htake_turns gd (hr.mono (by decide)) pass0 (pa_cons (pe_callB call_len_seq (by exact rfl) T.zlen PySem.boot_len (pa_cons (pe_fld (pv 0) rfl) pa_nil)) (pa_cons (pv 1) (pa_cons (pv 2) pa_nil))))))), ?_⟩
    refine ⟨_, rfl, _, _, rfl, pt_of pe oe, _, rfl, iteF ⟨_, rfl, _, _, rfl, pt_of po oo, _, rfl, iteF ?_⟩⟩
    refine ⟨_, rfl, _, _, _, _, _, rfl, eg, c.cls, c.units, gF_units, U t, _, rfl, .inr (hU.tup t _), ?_⟩
    rw [List.length_map, hU.len t]
    exact ⟨_, rfl, _, rfl, t, a, b, e, o, rfl, pe, po, k⟩
theorem h_law_roll (T : Txt K mg aG dU) (D : Df K mg "_law_roll" s__law_roll) : Has P w K mg base CX0 "_law_roll" 1 ["_law_dice_here", "_law_total"] spRoll := by
  refine D.has sc__law_roll (fun vs H Q E h => ?_) (fun kV doc pm an cdv ct us hl => match us, hl with | [_, _], _ => rfl) (fun f cdv A outer s H vs Q E gd hr h => ?_)
  · obtain ⟨p, t, rfl, _⟩ := h
    rfl
  · obtain ⟨p, t, rfl, ⟨l, b, c, l0, hp⟩, t0, tl, q⟩ := h
    refine ⟨_, (pss_cons
 (ps_if (pt_cmpR op_gt (pe_ix ix_list (pv 0) pe_int (fun _ _ => rfl)) pe_int (nomark _)) (pss_cons
 (ps_set (i := 2) sc__law_roll.nd rfl (Or.inl rfl) (pe_op op_mod (pe_callTy call_int1 (by exact rfl) T.zint (by decide +kernel) (pa_cons (pe_ix ix_list (pv 0) pe_int (fun _ _ => rfl)) pa_nil)) (pv 1)))
 (pss_cons
 (ps_asg (pe_op op_fdivW (pe_ix ix_list (pv 0) pe_int (fun _ _ => rfl)) (pv 1)) (pg_sub (pv 0) pe_int set_list))
 (pss_one
 (ps_ret (pv 2))))) pss_nil)
 (pss_cons
 (ps_asg (pe_op op_add (pe_ix ix_list (pv 0) pe_int (fun _ _ => rfl)) pe_int) (pg_sub (pv 0) pe_int set_list))
 (pss_cons
 (ps_set (i := 3) sc__law_roll.nd rfl (Or.inl rfl) (pe_op op_mod (pe_callTy call_int1 (by exact rfl) T.zint (by decide +kernel) (pa_cons (pe_op op_add (pe_ix ix_list (pv 0) pe_int (fun _ _ => rfl)) (pe_op op_mul pe_int (pe_ix ix_list (pv 0) pe_int (fun _ _ => rfl)))) pa_nil)) pe_int))
 (pss_cons
 (ps_set (i := 4) sc__law_roll.nd rfl (Or.inl rfl) (pe_op op_add (pe_op op_mul (pe_op op_mod (pe_callTy call_int1 (by exact rfl) T.zint (by decide +kernel) (pa_cons (pe_op op_add (pe_op op_mul (pv 3) (pv 3)) (pe_op op_mul pe_int (pe_ix ix_list (pv 0) pe_int (fun _ _ => rfl)))) pa_nil)) pe_int) pe_int) (pv 3)))
 (pss_one
 (ps_ret (pe_op op_mod (pe_callTy call_int1 (by exact rfl) T.zint (by decide +kernel) (pa_cons (pe_op op_fdiv (pv 4) pe_int) pa_nil)) (pv 1)))))))), ?_⟩
    have hS : ∀ {H : Hp} {xs}, H p = some (.lst xs) → SqL K H p xs := fun h => SqL.of h
    refine ⟨_, rfl, _, _, _, _, rfl, rfl, hS hp, atI_nat (j := 0) rfl, _, _, rfl, rfl, _, rfl, ?_⟩
    refine ite2 (fun c1 => ?_) (fun c1 => ?_)
    · refine ⟨_, rfl, _, _, _, _, rfl, rfl, hS hp, atI_nat (j := 0) rfl, .inl ⟨_, rfl, _, rfl, _, _, rfl, rfl, t0, ?_⟩⟩
      refine ⟨_, rfl, _, _, _, _, rfl, rfl, hS hp, atI_nat (j := 0) rfl, _, rfl, _, _, rfl, rfl, wide_div t0 tl (by decide) (by decide), _, rfl, _, _, _, _, rfl, rfl, hp, rfl, _, rfl, ?_⟩
      exact q _ _ (Int.emod_nonneg _ (Int.ne_of_gt t0)) (Int.emod_lt_of_pos _ t0) (Got.roll (Int.ediv_nonneg l0 (Int.le_of_lt t0)))
    · refine ⟨_, rfl, _, _, _, _, rfl, rfl, hS hp, atI_nat (j := 2) rfl, _, _, rfl, rfl, _, rfl, _, _, _, _, rfl, rfl, hp, rfl, ?_⟩
      have hp2 : (upd H p (.lst [.int l, .int b, .int (c + 1)])) p = some (.lst [.int l, .int b, .int (c + 1)]) := upd_same
      refine ⟨_, rfl, _, _, _, _, rfl, rfl, hS hp2, atI_nat (j := 1) rfl, _, rfl, _, _, _, _, rfl, rfl, hS hp2, atI_nat (j := 2) rfl, _, _, rfl, rfl, .inl ⟨by decide, by decide⟩, _, _, rfl, rfl, .inl ⟨_, rfl, _, _, rfl, rfl, by show (0 : Int) < _; decide, ?_⟩⟩
      generalize hx : (b + 15485863 * (c + 1)) % 2305843009213693693 = x1
      have x0 : 0 ≤ x1 ∧ x1 < 2305843009213693693 := by rw [← hx]; exact ⟨Int.emod_nonneg _ (by decide), Int.emod_lt_of_pos _ (by decide)⟩
      refine ⟨_, rfl, _, rfl, _, _, rfl, rfl, .inl ⟨by omega, by omega⟩, _, rfl, _, _, _, _, rfl, rfl, hS hp2, atI_nat (j := 2) rfl, _, _, rfl, rfl, .inl ⟨by decide, by decide⟩, _, _, rfl, rfl, .inl ⟨_, rfl, _, _, rfl, rfl, by show (0 : Int) < _; decide, _, _, rfl, rfl, .inr ⟨by decide, by decide⟩, _, rfl, _, _, rfl, rfl, ?_⟩⟩
      refine ⟨_, rfl, _, _, rfl, rfl, ⟨by decide, by decide⟩, .inl ⟨_, rfl, _, rfl, _, _, rfl, rfl, t0, ?_⟩⟩
      exact q _ _ (Int.emod_nonneg _ (Int.ne_of_gt t0)) (Int.emod_lt_of_pos _ t0) (Got.roll l0)

theorem h_law_dice (T : Txt K mg aG dU) (D : Df K mg "_law_dice" s__law_dice) : Has P w K mg base CX0 "_law_dice" 1 ["_law_script", "_law_spot"] (spDice K) := by
  refine D.has sc__law_dice (fun vs H Q E h => ?_) (fun kV doc pm an cdv ct us hl => match us, hl with | [_, _], _ => rfl) (fun f cdv A outer s H vs Q E gd hr h => ?_)
  · obtain ⟨a, ns, spot, rfl, _⟩ := h
    rfl
  · obtain ⟨a, ns, spot, rfl, hS, s0, q⟩ := h
    refine ⟨_, (Evl.pss_cut
 (ps_set (i := 2) sc__law_dice.nd rfl (Or.inl rfl) (pe_ifExp (pt_cmpR op_lt (pv 1) (pe_callB call_len_seq (by exact rfl) T.zlen PySem.boot_len (pa_cons (pv 0) pa_nil)) (nomark _)) (pe_callTy call_int1 (by exact rfl) T.zint (by decide +kernel) (pa_cons (pe_ix ix_list (pv 0) (pv 1) (fun _ _ => rfl)) pa_nil)) (pe_op op_add (pe_op op_mul pe_int (pv 1)) pe_int)))
 (pss_cons
 (ps_set (i := 3) sc__law_dice.nd rfl (Or.inl rfl) (pe_op op_mod (pe_callB (call_max2 rfl) (by exact rfl) T.zmax (by decide +kernel) (pa_cons pe_int (pa_cons (pe_op op_sub (pe_callB call_abs (by exact rfl) T.zabs (by decide +kernel) (pa_cons (pv 2) pa_nil)) (pe_op op_pow pe_int pe_int)) pa_nil))) (pe_op op_mulW (pe_op op_pow pe_int pe_int) (pe_op op_pow pe_int pe_int))))
 (pss_one
 (ps_ret (pe_lst (pa_cons (pv 3) (pa_cons (pe_op op_add (pe_op op_add (pe_op op_add (pe_op op_mul (pe_op op_mod (pe_callB call_abs (by exact rfl) T.zabs (by decide +kernel) (pa_cons (pv 2) pa_nil)) pe_int) pe_int) (pe_op op_mul pe_int (pv 1))) (pe_op op_mul pe_int (pe_callTy call_int1 (by exact rfl) T.zint (by decide +kernel) (pa_cons (pe_cmpR op_lt (pv 2) pe_int (nomark _)) pa_nil)))) pe_int) (pa_cons pe_int pa_nil)))))))), ?_⟩
    refine ⟨fun σ' H' => ∃ cell : Int, σ' = [some (.ref a), some (.int spot), some (.int cell), none] ∧ H' = H, ?_, ?_⟩
    · refine ⟨_, rfl, _, rfl, _, _, rfl, .inl hS, _, _, rfl, rfl, _, rfl, ?_⟩
      refine ite2 (fun c1 => ?_) (fun c1 => ?_)
      · have c1' : spot < ((ns.map V.int).length : Int) := of_decide_eq_true c1
        rw [List.length_map] at c1'
        obtain ⟨n, hn⟩ := at_ints s0 c1'
        exact ⟨_, rfl, _, rfl, _, _, _, _, rfl, rfl, hS, hn, .inl ⟨_, rfl, _, rfl, rfl⟩⟩
      · exact ⟨_, rfl, _, _, rfl, rfl, .inl ⟨by decide, by decide⟩, _, _, rfl, rfl, _, rfl, rfl⟩
    rintro _ _ ⟨cell, rfl, rfl⟩
    refine ⟨_, rfl, _, rfl, _, _, rfl, rfl, ⟨by decide, by decide, by decide⟩, _, _, rfl, rfl, _, _, rfl, _, _, rfl, rfl, ⟨by decide, by decide, by decide⟩, _, _, rfl, rfl, ⟨by decide, by decide, by decide⟩, _, _, rfl, rfl, wide_mul (a := 250) (b := 250) (by decide +kernel) (by decide +kernel) (by decide) (by decide) (by decide), _, _, rfl, rfl, by show (0 : Int) < _; decide +kernel, ?_⟩
    refine ⟨_, rfl, _, rfl, _, rfl, _, _, rfl, rfl, by show (0 : Int) < _; decide, _, _, rfl, rfl, .inr ⟨by decide, by decide⟩, _, rfl, _, _, rfl, rfl, .inl ⟨by decide, by decide⟩, _, _, rfl, rfl, _, rfl, _, _, rfl, rfl, .inr ⟨_, rfl, _, _, rfl, rfl, .inl ⟨by decide, by decide⟩, _, _, rfl, rfl, _, _, rfl, rfl, by show 3 ≤ sizeLine; decide, fun p hp => ?_⟩⟩
    exact q p _ hp (fun b o e => by rw [upd_ne (ne_of_none e hp)]; exact e) ⟨_, _, _, Int.emod_nonneg _ (by decide +kernel), upd_same⟩

theorem h_law_pick (T : Txt K mg aG dU) (D : Df K mg "_law_pick" s__law_pick) (h_law_roll : Has P w K mg base CX0 "_law_roll" 1 ["_law_dice_here", "_law_total"] spRoll) : Has P w K mg base CX0 "_law_pick" 2 ["_law_dice_here", "_law_items"] spPick := by
  refine D.has sc__law_pick (fun vs H Q E h => ?_) (fun kV doc pm an cdv ct us hl => match us, hl with | [_, _], _ => rfl) (fun f cdv A outer s H vs Q E gd hr h => ?_)
  · obtain ⟨p, q, xs, rfl, _⟩ := h
    rfl
  · obtain ⟨p, q, xs, rfl, hd, hx, ne, l0, l1, k⟩ := h
    refine ⟨_, (pss_one
 (ps_ret (pe_ix ix_seq (pv 1) (pe_callH h_law_roll gd (hr.mono (by decide)) pass0 (pa_cons (pv 0) (pa_cons (pe_callB call_len_seq (by exact rfl) T.zlen PySem.boot_len (pa_cons (pv 1) pa_nil)) pa_nil))) (fun _ _ => rfl)))), ?_⟩
    have hs : SqL K H q xs ∨ SqT K H q xs := hx.imp SqL.of SqT.of
    refine ⟨_, rfl, _, rfl, _, rfl, _, _, rfl, hs, _, _, rfl, hd, (by omega), Nat.lt_of_le_of_lt (show ((xs.length : Int)).natAbs ≤ 1000 by omega) (by decide), fun r H1 r0 r1 g => ?_⟩
    obtain ⟨j, rfl⟩ : ∃ j : Nat, r = (j : Int) := ⟨r.toNat, by omega⟩
    have hj : j < xs.length := by omega
    have hg : xs[j]? = some xs[j] := List.getElem?_eq_getElem hj
    rcases hx with hx | hx
    · exact .inl ⟨q, xs, _, _, rfl, rfl, SqL.of (g.keep _ _ hx ne), atI_nat hg, k _ _ (List.getElem_mem hj) g⟩
    · exact .inr (.inl ⟨q, xs, _, _, rfl, rfl, SqT.of (g.keep _ _ hx ne), atI_nat hg, k _ _ (List.getElem_mem hj) g⟩)

theorem h_law_limit (D : Df K mg "_law_limit" s__law_limit) : Has P w K mg base CX0 "_law_limit" 1 [] spLimit := by
  refine D.has sc__law_limit (fun vs H Q E h => ?_) (fun kV doc pm an cdv ct us hl => match us, hl with | [], _ => rfl) (fun f cdv A outer s H vs Q E gd hr h => ?_)
  · obtain ⟨rfl, _⟩ := h
    rfl
  · obtain ⟨rfl, q⟩ := h
    refine ⟨_, (pss_one
 (ps_ret (pe_op op_powW (pe_op op_pow pe_int pe_int) pe_int))), ?_⟩
    refine ⟨_, _, rfl, rfl, ⟨by decide, by decide, by decide⟩, _, _, rfl, rfl, ⟨by decide, by decide +kernel⟩, ?_⟩
    have e : (((10 : Int) ^ (50 : Int).toNat) ^ (8 : Int).toNat) = B := by rw [B_eq]; decide +kernel
    show Q (.int (((10 : Int) ^ (50 : Int).toNat) ^ (8 : Int).toNat)) H
    rw [e]
    exact q

theorem h_law_part (D : Df K mg "_law_part" s__law_part) (h_law_limit : Has P w K mg base CX0 "_law_limit" 1 [] spLimit) (h_law_roll : Has P w K mg base CX0 "_law_roll" 1 ["_law_dice_here", "_law_total"] spRoll)
    (h_law_pick : Has P w K mg base CX0 "_law_pick" 2 ["_law_dice_here", "_law_items"] spPick) : Has P w K mg base CX0 "_law_part" 3 ["_law_dice_here"] spPart := by
  refine D.has sc__law_part (fun vs H Q E h => ?_) (fun kV doc pm an cdv ct us hl => match us, hl with | [_], _ => rfl) (fun f cdv A outer s H vs Q E gd hr h => ?_)
  · obtain ⟨p, rfl, _⟩ := h
    rfl
  · obtain ⟨p, rfl, hd, k⟩ := h
    refine ⟨_, (pss_cons
 (ps_set (i := 1) sc__law_part.nd rfl (Or.inl rfl) (pe_op op_sub (pe_op op_sub (pe_call0H h_law_limit gd (hr.mono (by decide)) pass0) pe_int) (pe_callH h_law_roll gd (hr.mono (by decide)) pass0 (pa_cons (pv 0) (pa_cons (pe_op op_pow pe_int pe_int) pa_nil)))))
 (pss_cons
 (ps_set (i := 2) sc__law_part.nd rfl (Or.inl rfl) (pe_lst (pa_cons (pe_callH h_law_roll gd (hr.mono (by decide)) pass0 (pa_cons (pv 0) (pa_cons pe_int pa_nil))) (pa_cons (pe_callH h_law_roll gd (hr.mono (by decide)) pass0 (pa_cons (pv 0) (pa_cons pe_int pa_nil))) (pa_cons (pe_callH h_law_roll gd (hr.mono (by decide)) pass0 (pa_cons (pv 0) (pa_cons (pe_op op_pow pe_int pe_int) pa_nil))) (pa_cons (pv 1) pa_nil))))))
 (pss_cons
 (ps_set (i := 3) sc__law_part.nd rfl (Or.inl rfl) (pe_ix ix_list (pv 2) (pe_callH h_law_pick gd (hr.mono (by decide)) pass0 (pa_cons (pv 0) (pa_cons (pe_lst (pa_cons pe_int (pa_cons pe_int (pa_cons pe_int (pa_cons pe_int (pa_cons pe_int (pa_cons pe_int (pa_cons pe_int pa_nil)))))))) pa_nil))) (fun _ _ => rfl)))
 (pss_one
 (ps_ret (pe_ifExp (pt_cmpR op_eq (pe_callH h_law_roll gd (hr.mono (by decide)) pass0 (pa_cons (pv 0) (pa_cons pe_int pa_nil))) pe_int (nomark _)) (pe_op op_sub pe_int (pv 3)) (pv 3))))))), ?_⟩
    refine ⟨rfl, _, _, rfl, rfl, _, rfl, _, _, rfl, rfl, ⟨by decide, by decide, by decide⟩, p, _, rfl, hd, by decide, by decide, fun r1 H1 a1 b1 g1 => ?_⟩
    refine ⟨_, _, rfl, rfl, _, rfl, p, _, rfl, g1.die, by decide, by decide, fun r2 H2 a2 b2 g2 => ?_⟩
    refine ⟨_, rfl, p, _, rfl, g2.die, by decide, by decide, fun r3 H3 a3 b3 g3 => ?_⟩
    refine ⟨_, rfl, _, _, rfl, rfl, ⟨by decide, by decide, by decide⟩, p, _, rfl, g3.die, by decide, by decide, fun r4 H4 a4 b4 g4 => ?_⟩
    refine ⟨_, rfl, by show 4 ≤ sizeLine; decide, fun L hL => ?_⟩
    have g5 := (((g1.trans g2).trans g3).trans g4).trans (Got.new (o := .lst [.int r2, .int r3, .int r4, .int (B - 1 - r1)]) g4.die hL)
    have nL := g5.die
    refine ⟨_, rfl, _, rfl, by show 7 ≤ sizeLine; decide, fun M hM => ?_⟩
    have g6 := g5.trans (Got.new (o := .lst [.int 0, .int 0, .int 0, .int 1, .int 1, .int 2, .int 3]) g5.die hM)
    refine ⟨p, M, _, rfl, g6.die, .inl upd_same, (g5.die.ne hM).symm, by show 0 < 7; decide, by show 7 ≤ 1000; decide, fun v H7 hv g7 => ?_⟩
    have eL : H7 L = some (.lst [.int r2, .int r3, .int r4, .int (B - 1 - r1)]) := g7.keep _ _ (new_keep upd_same hM) (g4.die.ne hL).symm
    obtain ⟨j, n, rfl, hj, hn⟩ : ∃ (j : Nat) (n : Int), v = .int (j : Int) ∧ [V.int r2, V.int r3, V.int r4, V.int (B - 1 - r1)][j]? = some (.int n) ∧ n.natAbs < 10 ^ 400 := by
      have hB := B_eq
      have c3 : (r4.natAbs : Nat) < 10 ^ 400 := Nat.lt_of_lt_of_le (show r4.natAbs < 10 ^ 30 by have : r4 < 10 ^ 30 := b4; omega) (by decide +kernel)
      have c0 : (r2.natAbs : Nat) < 10 ^ 400 := Nat.lt_of_lt_of_le (show r2.natAbs < 9 by omega) (by decide +kernel)
      have c1 : (r3.natAbs : Nat) < 10 ^ 400 := Nat.lt_of_lt_of_le (show r3.natAbs < 200 by omega) (by decide +kernel)
      have c2 : (B - 1 - r1).natAbs < 10 ^ 400 := by
        have u : r1 < 10 ^ 20 := b1
        have e : (10 : Int) ^ 400 = ((10 ^ 400 : Nat) : Int) := by rw [Int.natCast_pow]; rfl
        have big : 10 ^ 21 ≤ (10 ^ 400 : Nat) := Nat.pow_le_pow_right (by decide) (by decide)
        rw [hB, e]
        generalize (10 ^ 400 : Nat) = N at *
        omega
      simp only [List.mem_cons, List.not_mem_nil, or_false] at hv
      rcases hv with h | h | h | h | h | h | h <;> subst h
      · exact ⟨0, _, rfl, rfl, c0⟩
      · exact ⟨0, _, rfl, rfl, c0⟩
      · exact ⟨0, _, rfl, rfl, c0⟩
      · exact ⟨1, _, rfl, rfl, c1⟩
      · exact ⟨1, _, rfl, rfl, c1⟩
      · exact ⟨2, _, rfl, rfl, c3⟩
      · exact ⟨3, _, rfl, rfl, c2⟩
    refine ⟨_, _, _, _, rfl, rfl, SqL.of eL, atI_nat hj, ?_⟩
    have hs : isIntV (.int n) = true := by rw [int_short]; exact decide_eq_true hn
    refine ⟨_, rfl, p, _, rfl, g7.die, by decide, by decide, fun r8 H8 a8 b8 g8 => ?_⟩
    refine ⟨rfl, _, rfl, ?_⟩
    have gg := (g6.trans g7).trans g8
    refine ite2 (fun _ => ?_) (fun _ => ?_)
    · exact ⟨_, rfl, _, _, rfl, rfl, k _ _ (by rw [int_short, Int.zero_sub, Int.natAbs_neg]; exact decide_eq_true hn) gg⟩
    · exact ⟨_, rfl, k _ _ hs gg⟩


theorem nm_sq {t : Bool} : decide (V.str (nm t) = V.str "square") = !t := by cases t <;> decide +kernel
theorem nm_tr {t : Bool} : decide (V.str (nm t) = V.str "triangle") = t := by cases t <;> decide +kernel
theorem h_law_around (D : Df K mg "_law_around" s__law_around) : Has P w K mg base CX0 "_law_around" 1 ["_law_plain"] spAround := by
  refine D.has sc__law_around (fun vs H Q E h => ?_) (fun kV doc pm an cdv ct us hl => match us, hl with | [_], _ => rfl) (fun f cdv A outer s H vs Q E gd hr h => ?_)
  · obtain ⟨q, t, rfl, _⟩ := h
    rfl
  · obtain ⟨q, t, rfl, hq, k⟩ := h
    have hu := hr.units
    refine ⟨_, (pss_one
 (ps_ret (pe_ifExp (pt_cmpR op_eq (pe_dget (Nat.lt_of_le_of_lt (Nat.add_le_add_left (by decide) _) hu) (pv 0) pe_str (fun _ _ => rfl)) pe_str (nomark _)) pe_int pe_int))), ?_⟩
    refine ⟨_, rfl, _, _, rfl, hq.get, rfl, _, rfl, ?_⟩
    rw [nm_sq]
    cases t with
    | false => exact iteT k
    | true => exact iteF k
theorem h_law_unit (D : Df K mg "_law_unit" s__law_unit) : Has P w K mg base CX0 "_law_unit" 1 ["_law_plain", "_law_direction"] (spUnitL K) := by
  refine D.has sc__law_unit (fun vs H Q E h => ?_) (fun kV doc pm an cdv ct us hl => match us, hl with | [_, _], _ => rfl) (fun f cdv A outer s H vs Q E gd hr h => ?_)
  · obtain ⟨q, t, n, rfl, _⟩ := h
    rfl
  · obtain ⟨q, t, n, rfl, hq, k⟩ := h
    have hu := hr.units
    refine ⟨_, (pss_cons
 (ps_if (pt_cmpR op_eq (pe_dget (Nat.lt_of_le_of_lt (Nat.add_le_add_left (by decide) _) hu) (pv 0) pe_str (fun _ _ => rfl)) pe_str (nomark _)) (pss_one
 (ps_ret (pe_ix ix_list (pe_lst (pa_cons (pe_tup (pa_cons pe_int (pa_cons pe_int pa_nil))) (pa_cons (pe_tup (pa_cons pe_int (pa_cons pe_int pa_nil))) (pa_cons (pe_tup (pa_cons (pe_op op_sub pe_int pe_int) (pa_cons pe_int pa_nil))) (pa_cons (pe_tup (pa_cons pe_int (pa_cons (pe_op op_sub pe_int pe_int) pa_nil))) pa_nil))))) (pe_op op_mod (pv 1) pe_int) (fun _ _ => rfl)))) pss_nil)
 (pss_one
 (ps_ret (pe_ix ix_list (pe_lst (pa_cons (pe_tup (pa_cons pe_int (pa_cons pe_int pa_nil))) (pa_cons (pe_tup (pa_cons pe_int (pa_cons pe_int pa_nil))) (pa_cons (pe_tup (pa_cons (pe_op op_sub pe_int pe_int) (pa_cons pe_int pa_nil))) (pa_cons (pe_tup (pa_cons (pe_op op_sub pe_int pe_int) (pa_cons pe_int pa_nil))) (pa_cons (pe_tup (pa_cons pe_int (pa_cons (pe_op op_sub pe_int pe_int) pa_nil))) (pa_cons (pe_tup (pa_cons pe_int (pa_cons (pe_op op_sub pe_int pe_int) pa_nil))) pa_nil))))))) (pe_op op_mod (pv 1) pe_int) (fun _ _ => rfl))))), ?_⟩
    refine ⟨_, rfl, _, _, rfl, hq.get, rfl, _, rfl, ?_⟩
    rw [nm_sq]
    cases t with
    | false =>
      refine iteT ?_
      refine ⟨by show 2 ≤ sizeLine; decide, fun t0 h0 => ?_⟩
      refine ⟨by show 2 ≤ sizeLine; decide, fun t1 h1 => ?_⟩
      refine ⟨_, _, rfl, rfl, by show 2 ≤ sizeLine; decide, fun t2 h2 => ?_⟩
      refine ⟨_, _, rfl, rfl, by show 2 ≤ sizeLine; decide, fun t3 h3 => ?_⟩
      refine ⟨by show 4 ≤ sizeLine; decide, fun L hL => ⟨_, rfl, _, _, rfl, rfl, by show (0 : Int) < _; decide, ?_⟩⟩
      have hn : n % 4 = 0 ∨ n % 4 = 1 ∨ n % 4 = 2 ∨ n % 4 = 3 := by omega
      rcases hn with hn | hn | hn | hn
      · refine ⟨L, _, (0 : Int), _, rfl, by show V.int (n % 4) = _; rw [hn], SqL.of upd_same, atI_nat (j := 0) rfl, k t0 _ (((((Same.new h0).trans (Same.new h1)).trans (Same.new h2)).trans (Same.new h3)).trans (Same.new hL)) ?_⟩
        rw [show uni false n = (1, 0) from by unfold uni; show (ux false).getD (n % 4).toNat _ = _; rw [hn]; rfl]
        exact PAt.of (new_keep (new_keep (new_keep (new_keep upd_same h1) h2) h3) hL)
      · refine ⟨L, _, (1 : Int), _, rfl, by show V.int (n % 4) = _; rw [hn], SqL.of upd_same, atI_nat (j := 1) rfl, k t1 _ (((((Same.new h0).trans (Same.new h1)).trans (Same.new h2)).trans (Same.new h3)).trans (Same.new hL)) ?_⟩
        rw [show uni false n = (0, 1) from by unfold uni; show (ux false).getD (n % 4).toNat _ = _; rw [hn]; rfl]
        exact PAt.of (new_keep (new_keep (new_keep upd_same h2) h3) hL)
      · refine ⟨L, _, (2 : Int), _, rfl, by show V.int (n % 4) = _; rw [hn], SqL.of upd_same, atI_nat (j := 2) rfl, k t2 _ (((((Same.new h0).trans (Same.new h1)).trans (Same.new h2)).trans (Same.new h3)).trans (Same.new hL)) ?_⟩
        rw [show uni false n = (-1, 0) from by unfold uni; show (ux false).getD (n % 4).toNat _ = _; rw [hn]; rfl]
        exact PAt.of (new_keep (new_keep upd_same h3) hL)
      · refine ⟨L, _, (3 : Int), _, rfl, by show V.int (n % 4) = _; rw [hn], SqL.of upd_same, atI_nat (j := 3) rfl, k t3 _ (((((Same.new h0).trans (Same.new h1)).trans (Same.new h2)).trans (Same.new h3)).trans (Same.new hL)) ?_⟩
        rw [show uni false n = (0, -1) from by unfold uni; show (ux false).getD (n % 4).toNat _ = _; rw [hn]; rfl]
        exact PAt.of (new_keep upd_same hL)
    | true =>
      refine iteF ?_
      refine ⟨by show 2 ≤ sizeLine; decide, fun t0 h0 => ?_⟩
      refine ⟨by show 2 ≤ sizeLine; decide, fun t1 h1 => ?_⟩
      refine ⟨_, _, rfl, rfl, by show 2 ≤ sizeLine; decide, fun t2 h2 => ?_⟩
      refine ⟨_, _, rfl, rfl, by show 2 ≤ sizeLine; decide, fun t3 h3 => ?_⟩
      refine ⟨_, _, rfl, rfl, by show 2 ≤ sizeLine; decide, fun t4 h4 => ?_⟩
      refine ⟨_, _, rfl, rfl, by show 2 ≤ sizeLine; decide, fun t5 h5 => ?_⟩
      refine ⟨by show 6 ≤ sizeLine; decide, fun L hL => ⟨_, rfl, _, _, rfl, rfl, by show (0 : Int) < _; decide, ?_⟩⟩
      have hn : n % 6 = 0 ∨ n % 6 = 1 ∨ n % 6 = 2 ∨ n % 6 = 3 ∨ n % 6 = 4 ∨ n % 6 = 5 := by omega
      rcases hn with hn | hn | hn | hn | hn | hn
      · refine ⟨L, _, (0 : Int), _, rfl, by show V.int (n % 6) = _; rw [hn], SqL.of upd_same, atI_nat (j := 0) rfl, k t0 _ (((((((Same.new h0).trans (Same.new h1)).trans (Same.new h2)).trans (Same.new h3)).trans (Same.new h4)).trans (Same.new h5)).trans (Same.new hL)) ?_⟩
        rw [show uni true n = (1, 0) from by unfold uni; show (ux true).getD (n % 6).toNat _ = _; rw [hn]; rfl]
        exact PAt.of (new_keep (new_keep (new_keep (new_keep (new_keep (new_keep upd_same h1) h2) h3) h4) h5) hL)
      · refine ⟨L, _, (1 : Int), _, rfl, by show V.int (n % 6) = _; rw [hn], SqL.of upd_same, atI_nat (j := 1) rfl, k t1 _ (((((((Same.new h0).trans (Same.new h1)).trans (Same.new h2)).trans (Same.new h3)).trans (Same.new h4)).trans (Same.new h5)).trans (Same.new hL)) ?_⟩
        rw [show uni true n = (0, 1) from by unfold uni; show (ux true).getD (n % 6).toNat _ = _; rw [hn]; rfl]
        exact PAt.of (new_keep (new_keep (new_keep (new_keep (new_keep upd_same h2) h3) h4) h5) hL)
      · refine ⟨L, _, (2 : Int), _, rfl, by show V.int (n % 6) = _; rw [hn], SqL.of upd_same, atI_nat (j := 2) rfl, k t2 _ (((((((Same.new h0).trans (Same.new h1)).trans (Same.new h2)).trans (Same.new h3)).trans (Same.new h4)).trans (Same.new h5)).trans (Same.new hL)) ?_⟩
        rw [show uni true n = (-1, 1) from by unfold uni; show (ux true).getD (n % 6).toNat _ = _; rw [hn]; rfl]
        exact PAt.of (new_keep (new_keep (new_keep (new_keep upd_same h3) h4) h5) hL)
      · refine ⟨L, _, (3 : Int), _, rfl, by show V.int (n % 6) = _; rw [hn], SqL.of upd_same, atI_nat (j := 3) rfl, k t3 _ (((((((Same.new h0).trans (Same.new h1)).trans (Same.new h2)).trans (Same.new h3)).trans (Same.new h4)).trans (Same.new h5)).trans (Same.new hL)) ?_⟩
        rw [show uni true n = (-1, 0) from by unfold uni; show (ux true).getD (n % 6).toNat _ = _; rw [hn]; rfl]
        exact PAt.of (new_keep (new_keep (new_keep upd_same h4) h5) hL)
      · refine ⟨L, _, (4 : Int), _, rfl, by show V.int (n % 6) = _; rw [hn], SqL.of upd_same, atI_nat (j := 4) rfl, k t4 _ (((((((Same.new h0).trans (Same.new h1)).trans (Same.new h2)).trans (Same.new h3)).trans (Same.new h4)).trans (Same.new h5)).trans (Same.new hL)) ?_⟩
        rw [show uni true n = (0, -1) from by unfold uni; show (ux true).getD (n % 6).toNat _ = _; rw [hn]; rfl]
        exact PAt.of (new_keep (new_keep upd_same h5) hL)
      · refine ⟨L, _, (5 : Int), _, rfl, by show V.int (n % 6) = _; rw [hn], SqL.of upd_same, atI_nat (j := 5) rfl, k t5 _ (((((((Same.new h0).trans (Same.new h1)).trans (Same.new h2)).trans (Same.new h3)).trans (Same.new h4)).trans (Same.new h5)).trans (Same.new hL)) ?_⟩
        rw [show uni true n = (1, -1) from by unfold uni; show (ux true).getD (n % 6).toNat _ = _; rw [hn]; rfl]
        exact PAt.of (new_keep upd_same hL)
theorem h_law_times (D : Df K mg "_law_times" s__law_times) : Has P w K mg base CX0 "_law_times" 1 ["_law_plain", "_law_one", "_law_other"] (spTimesL K) := by
  refine D.has sc__law_times (fun vs H Q E h => ?_) (fun kV doc pm an cdv ct us hl => match us, hl with | [_, _, _], _ => rfl) (fun f cdv A outer s H vs Q E gd hr h => ?_)
  · obtain ⟨q, t, a, b, u, v, rfl, _⟩ := h
    rfl
  · obtain ⟨q, t, a, b, u, v, rfl, hq, pu, pv', su, sv, k⟩ := h
    have hu := hr.units
    refine ⟨_, (pss_cons
 (ps_set (i := 3) sc__law_times.nd rfl (Or.inl rfl) (pe_op op_mulW (pe_ix ix_tup (pv 1) pe_int (fun _ _ => rfl)) (pe_ix ix_tup (pv 2) pe_int (fun _ _ => rfl))))
 (pss_cons
 (ps_set (i := 4) sc__law_times.nd rfl (Or.inl rfl) (pe_ifExp (pt_cmpR op_eq (pe_dget (Nat.lt_of_le_of_lt (Nat.add_le_add_left (by decide) _) hu) (pv 0) pe_str (fun _ _ => rfl)) pe_str (nomark _)) (pv 3) pe_int))
 (pss_one
 (ps_ret (pe_tup (pa_cons (pe_op op_sub (pe_op op_mulW (pe_ix ix_tup (pv 1) pe_int (fun _ _ => rfl)) (pe_ix ix_tup (pv 2) pe_int (fun _ _ => rfl))) (pv 3)) (pa_cons (pe_op op_add (pe_op op_add (pe_op op_mulW (pe_ix ix_tup (pv 1) pe_int (fun _ _ => rfl)) (pe_ix ix_tup (pv 2) pe_int (fun _ _ => rfl))) (pe_op op_mulW (pe_ix ix_tup (pv 1) pe_int (fun _ _ => rfl)) (pe_ix ix_tup (pv 2) pe_int (fun _ _ => rfl)))) (pv 4)) pa_nil))))))), ?_⟩
    refine ⟨_, rfl, _, _, _, _, rfl, rfl, pu, atI_nat (j := 1) rfl, _, rfl, _, _, _, _, rfl, rfl, pv', atI_nat (j := 1) rfl, _, _, rfl, rfl, sm_mul su.2 sv.2, ?_⟩
    refine ⟨_, rfl, _, _, rfl, hq.get, rfl, _, rfl, ?_⟩
    rw [nm_tr]
    cases t with
    | true =>
      refine iteT ⟨_, rfl, ?_⟩
      refine ⟨_, rfl, _, _, _, _, rfl, rfl, pu, atI_nat (j := 0) rfl, _, rfl, _, _, _, _, rfl, rfl, pv', atI_nat (j := 0) rfl, _, _, rfl, rfl, sm_mul su.1 sv.1, _, rfl, _, _, rfl, rfl, ?_⟩
      refine ⟨_, rfl, _, _, _, _, rfl, rfl, pu, atI_nat (j := 0) rfl, _, rfl, _, _, _, _, rfl, rfl, pv', atI_nat (j := 1) rfl, _, _, rfl, rfl, sm_mul su.1 sv.2, _, rfl, _, _, _, _, rfl, rfl, pu, atI_nat (j := 1) rfl, _, rfl, _, _, _, _, rfl, rfl, pv', atI_nat (j := 0) rfl, _, _, rfl, rfl, sm_mul su.2 sv.1, _, _, rfl, rfl, _, rfl, _, _, rfl, rfl, by show 2 ≤ sizeLine; decide, fun p hp => ?_⟩
      have z := k p hp
      unfold mul sl at z
      rw [Int.one_mul] at z
      exact z
    | false =>
      refine iteF ?_
      refine ⟨_, rfl, _, _, _, _, rfl, rfl, pu, atI_nat (j := 0) rfl, _, rfl, _, _, _, _, rfl, rfl, pv', atI_nat (j := 0) rfl, _, _, rfl, rfl, sm_mul su.1 sv.1, _, rfl, _, _, rfl, rfl, ?_⟩
      refine ⟨_, rfl, _, _, _, _, rfl, rfl, pu, atI_nat (j := 0) rfl, _, rfl, _, _, _, _, rfl, rfl, pv', atI_nat (j := 1) rfl, _, _, rfl, rfl, sm_mul su.1 sv.2, _, rfl, _, _, _, _, rfl, rfl, pu, atI_nat (j := 1) rfl, _, rfl, _, _, _, _, rfl, rfl, pv', atI_nat (j := 0) rfl, _, _, rfl, rfl, sm_mul su.2 sv.1, _, _, rfl, rfl, _, rfl, _, _, rfl, rfl, by show 2 ≤ sizeLine; decide, fun p hp => ?_⟩
      have z := k p hp
      unfold mul sl at z
      rw [Int.zero_mul] at z
      exact z
theorem h_law_grid_plain (D : Df K mg "_law_grid_plain" s__law_grid_plain) (h_law_pick : Has P w K mg base CX0 "_law_pick" 2 ["_law_dice_here", "_law_items"] spPick) : Has P w K mg base CX0 "_law_grid_plain" 3 ["_law_dice_here"] spPlain := by
  refine D.has sc__law_grid_plain (fun vs H Q E h => ?_) (fun kV doc pm an cdv ct us hl => match us, hl with | [_], _ => rfl) (fun f cdv A outer s H vs Q E gd hr h => ?_)
  · obtain ⟨p, rfl, _⟩ := h
    rfl
  · obtain ⟨p, rfl, hd, k⟩ := h
    refine ⟨_, (pss_one
 (ps_ret (pe_disp (pps_cons pe_str (pe_callH h_law_pick gd (hr.mono (by decide)) pass0 (pa_cons (pv 0) (pa_cons (pe_lst (pa_cons pe_str (pa_cons pe_str pa_nil))) pa_nil))) pps_nil) (by rfl) (by rfl) (fun z => by cases z) (by decide)))), ?_⟩
    intro q hq
    have g1 := Got.new (o := .dK []) hd hq
    refine ⟨_, rfl, by show 2 ≤ sizeLine; decide, fun l hl => ⟨p, l, _, rfl, (g1.trans (Got.new (o := .lst [.str "square", .str "triangle"]) g1.die hl)).die, .inl upd_same, (g1.die.ne hl).symm, by show 0 < 2; decide, by show 2 ≤ 1000; decide, fun v H' hv g => ?_⟩⟩
    have gg := (g1.trans (Got.new (o := .lst [.str "square", .str "triangle"]) g1.die hl)).trans g
    have qp : q ≠ p := (hd.ne hq).symm
    have e : H' q = some (.dK []) := g.keep _ _ (new_keep upd_same hl) qp
    obtain ⟨t, rfl⟩ : ∃ t, v = .str (nm t) := by
      simp only [List.mem_cons, List.not_mem_nil, or_false] at hv
      rcases hv with h | h <;> subst h
      · exact ⟨false, rfl⟩
      · exact ⟨true, rfl⟩
    exact ⟨e, [(.inr "grid", .str (nm t))], rfl, by show 1 ≤ 15; decide, k q t _ hq qp upd_same (gg.over hd hq _)⟩
theorem h_law_spun (D : Df K mg "_law_spun" s__law_spun) (h_law_around : Has P w K mg base CX0 "_law_around" 1 ["_law_plain"] spAround) (h_law_unit : Has P w K mg base CX0 "_law_unit" 1 ["_law_plain", "_law_direction"] (spUnitL K))
    (h_law_times : Has P w K mg base CX0 "_law_times" 1 ["_law_plain", "_law_one", "_law_other"] (spTimesL K)) : Has P w K mg base CX0 "_law_spun" 2 ["_law_plain", "_law_place", "_law_turn"] (spSpun K) := by
  refine D.has sc__law_spun (fun vs H Q E h => ?_) (fun kV doc pm an cdv ct us hl => match us, hl with | [_, _, _], _ => rfl) (fun f cdv A outer s H vs Q E gd hr h => ?_)
  · obtain ⟨q, t, a, u, n, rfl, _⟩ := h
    rfl
  · obtain ⟨q, t, a, u, n, rfl, hq, pu, su, k⟩ := h
    refine ⟨_, (pss_one
 (ps_ret (pe_callH h_law_times gd (hr.mono (by decide)) pass0 (pa_cons (pv 0) (pa_cons (pv 1) (pa_cons (pe_callH h_law_unit gd (hr.mono (by decide)) pass0 (pa_cons (pv 0) (pa_cons (pe_op op_mod (pv 2) (pe_callH h_law_around gd (hr.mono (by decide)) pass0 (pa_cons (pv 0) pa_nil))) pa_nil))) pa_nil)))))), ?_⟩
    refine ⟨_, rfl, _, rfl, _, rfl, _, rfl, _, rfl, q, t, rfl, hq, _, _, rfl, rfl, num_pos, q, t, _, rfl, hq, fun p H' s' hp => ?_⟩
    refine ⟨q, t, a, p, u, _, rfl, s' _ _ hq, pu.same s', hp, su, uni_sm, fun p2 hp2 => ?_⟩
    have e : uni t (n % (num t : Int)) = uni t n := by unfold uni; rw [Int.emod_emod_of_dvd _ (Int.dvd_refl _)]
    rw [e]
    exact k p2 _ (fun b o z => new_keep (s' b o z) hp2) (PAt.of upd_same)
theorem h_law_do_alternate (T : Txt K mg aG dU) (D : Df K mg "_law_do_alternate" s__law_do_alternate) : Has P w K mg base CX0 "_law_do_alternate" 1 ["_law_around_here", "_law_ends", "_law_others"] (spDoAlt K) := by
  refine D.has sc__law_do_alternate (fun vs H Q E h => ?_) (fun kV doc pm an cdv ct us hl => match us, hl with | [_, _, _], _ => rfl) (fun f cdv A outer s H vs Q E gd hr h => ?_)
  · obtain ⟨t, a, b, e, o, rfl, _⟩ := h
    rfl
  · obtain ⟨t, a, b, e, o, rfl, pe, po, k⟩ := h
    have hu := hr.units
    have hu66 : (A.deeper (envOfC "_law_do_alternate" (defScope s__law_do_alternate) s.heap.objs.size f cdv)).units + 66 < cLine := by have := hr.un; omega
    refine ⟨_, (pss_cons
 (ps_set (i := 3) sc__law_do_alternate.nd rfl (Or.inl rfl) (pe_lst pa_nil))
 (pss_cons
 (ps_for PassesOwn.never rfl (pi_range1 (by exact rfl) T.zrange (pa_cons (pv 0) pa_nil)) (pg_name (i := 4) sc__law_do_alternate.nd rfl (Or.inr rfl)) (pss_cons
 (ps_expr (pe_bm PySem.F.plainAttrs_list PySem.F.slot_list_extend PySem.F.type_list_extend mt_extend (pv 3) (pa_cons (pe_op op_rep (pe_lst (pa_cons pe_int pa_nil)) (pe_callB call_len_seq (by exact rfl) T.zlen PySem.boot_len (pa_cons (pe_lc (own := [("_law_one", 6)]) (g := gName 6) (tt := _) (by rfl) sc__law_do_alternate.nd (pi_tup (pv 1)) (blkOk_by (own := [("_law_one", 6)]) (N := N__law_do_alternate) (sc := defScope s__law_do_alternate) (by decide +kernel)) (fun _ _ _ _ _ => pg_name (i := 6) sc__law_do_alternate.nd rfl (Or.inl rfl)) (fun _ _ _ _ _ => pts_one (pt_cmpR op_eq (pe_op op_mod (pv 6) (pv 0)) (pv 4) (nomark _))) (fun _ _ _ _ _ => (pv 6))) pa_nil))) pa_nil)))
 (pss_one
 (ps_expr (pe_bm PySem.F.plainAttrs_list PySem.F.slot_list_extend PySem.F.type_list_extend mt_extend (pv 3) (pa_cons (pe_op op_rep (pe_lst (pa_cons pe_int pa_nil)) (pe_callB call_len_seq (by exact rfl) T.zlen PySem.boot_len (pa_cons (pe_lc (own := [("_law_one", 6)]) (g := gName 6) (tt := _) (by rfl) sc__law_do_alternate.nd (pi_tup (pv 2)) (blkOk_by (own := [("_law_one", 6)]) (N := N__law_do_alternate) (sc := defScope s__law_do_alternate) (by decide +kernel)) (fun _ _ _ _ _ => pg_name (i := 6) sc__law_do_alternate.nd rfl (Or.inl rfl)) (fun _ _ _ _ _ => pts_one (pt_cmpR op_eq (pe_op op_mod (pv 6) (pv 0)) (pv 4) (nomark _))) (fun _ _ _ _ _ => (pv 6))) pa_nil))) pa_nil))))))
 (pss_cons
 (ps_setLc (i := 5) (own := [("_law_one", 6)]) (g := gName 6) (tt := tYes) (by rfl) sc__law_do_alternate.nd rfl rfl (sw_true rfl rfl rfl (by decide +kernel)) (pi_tup (pe_op op_catA (pv 1) (pv 2))) (blkOk_by (own := [("_law_one", 6)]) (N := N__law_do_alternate) (sc := defScope s__law_do_alternate) (by decide +kernel)) (fun _ _ _ _ _ => pg_name (i := 6) sc__law_do_alternate.nd rfl (Or.inl rfl)) (fun _ _ _ _ _ => pts_nil) (fun _ _ _ _ _ => (pe_op op_mod (pv 6) (pv 0))))
 (pss_one
 (ps_ret (pe_and (pe_cmpR op_eq (pe_lenSet T.zlen T.zset (pv 5)) pe_int (nomark _)) (pe_one (pe_cmpR (op_inT hu66) (pv 3) (pe_tup (pa_cons (pe_lst (pa_cons pe_int (pa_cons pe_int (pa_cons pe_int (pa_cons pe_int pa_nil))))) (pa_cons (pe_lst (pa_cons pe_int (pa_cons pe_int (pa_cons pe_int (pa_cons pe_int pa_nil))))) pa_nil))) (by rfl))))))))), ?_⟩
    refine ⟨by show 0 ≤ sizeLine; decide, fun M hM => ?_⟩
    refine ⟨_, rfl, _, rfl, by cases t <;> decide, by cases t <;> decide, for_range (lo := 0) (n := num t) (fun i σ' H' => ∃ v4 v6, σ' = [some (.int (num t : Nat)), some (.ref a), some (.ref b), some (.ref M), v4, none, v6] ∧ Same H H' ∧ H' M = some (.lst ((metUp (num t) e o i).map V.int))) ⟨none, none, rfl, Same.new hM, upd_same⟩ ?_ ?_⟩
    · rintro i _ H0 hi ⟨v4, v6, rfl, s0, m0⟩
      refine ⟨_, rfl, .inl ⟨rfl, _, SqL.of m0⟩, by show 1 ≤ sizeLine; decide, fun L0 hL0 => ?_⟩
      refine ⟨_, rfl, a, rfl, ⟨_, pe.same (s0.trans (Same.new hL0))⟩, fun D hD => lc_tup (a := a) (xs := [.int e.1, .int e.2]) (fun i' H' => Same (upd H0 L0 (.lst [.int 0])) H' ∧ ∃ acc, H' D = some (.lst acc) ∧ acc.length = cntU (num t) e i i') ⟨Same.new hD, [], upd_same, rfl⟩ (fun i' H' _ h => (pe.same (s0.trans (Same.new hL0))).same h.1) ?_ ?_⟩
      · rintro i' x H' hx ⟨s', acc, hacc, lacc⟩
        obtain ⟨y, rfl, hy⟩ := pair_at hx
        refine ⟨rfl, ?_⟩
        refine ⟨_, rfl, _, rfl, _, _, rfl, rfl, num_pos, _, rfl, rfl, _, rfl, ?_⟩
        rw [int_eq, Int.zero_add]
        refine ite2 (fun c => ?_) (fun c => ?_)
        · exact ⟨_, rfl, acc, hacc, Nat.lt_of_le_of_lt (show acc.length ≤ 2 by rw [lacc]; exact cntU_le) (by decide), Same.over s' hD _, _, upd_same, by rw [List.length_append, lacc]; exact cntU_yes hy (of_decide_eq_true c)⟩
        · exact ⟨s', acc, hacc, by rw [lacc]; exact cntU_no hy (fun z => c (decide_eq_true z))⟩
      rintro Hc0 ⟨sc0, acc0, hacc0, lacc0⟩
      rw [cntU_all] at lacc0
      have lc0 : cnt2 (num t) e i ≤ 2 := cnt2_le
      refine ⟨D, acc0, rfl, .inl (SqL.of hacc0), L0, _, _, rfl, rfl, sc0 _ _ upd_same, by omega, by omega, by rw [Int.toNat_natCast, lacc0, List.length_singleton]; exact Nat.le_trans (show 1 * cnt2 (num t) e i ≤ 2 by omega) (by decide), fun R0 hR0 => ?_⟩
      rw [Int.toNat_natCast, lacc0, flat_rep]
      have sR0 : Same H (upd Hc0 R0 (.lst ((List.replicate (cnt2 (num t) e i) (0 : Int)).map V.int))) := ((s0.trans (Same.new hL0)).trans sc0).trans (Same.new hR0)
      have mR0 : upd Hc0 R0 (.lst ((List.replicate (cnt2 (num t) e i) (0 : Int)).map V.int)) M = some (.lst ((metUp (num t) e o i).map V.int)) := new_keep (sc0 _ _ (new_keep m0 hL0)) hR0
      refine ⟨M, R0, _, _, rfl, rfl, mR0, upd_same, by rw [List.length_map, List.length_map, List.length_replicate]; exact Nat.le_trans (show (metUp (num t) e o i).length + cnt2 (num t) e i ≤ 100 by have := metUp_len (m := (num t : Int)) (e := e) (o := o) i; have : num t ≤ 6 := (by cases t <;> decide); have : cnt2 (num t) e i ≤ 2 := cnt2_le; omega) (by decide : 100 ≤ sizeLine), ?_⟩
      rw [← List.map_append]
      have s1 := Same.over sR0 hM (.lst (((metUp (num t) e o i) ++ List.replicate (cnt2 (num t) e i) (0 : Int)).map V.int))
      have m1 : upd (upd Hc0 R0 (.lst ((List.replicate (cnt2 (num t) e i) (0 : Int)).map V.int))) M (.lst (((metUp (num t) e o i) ++ List.replicate (cnt2 (num t) e i) (0 : Int)).map V.int)) M = some _ := upd_same
      generalize upd (upd Hc0 R0 (.lst ((List.replicate (cnt2 (num t) e i) (0 : Int)).map V.int))) M (.lst (((metUp (num t) e o i) ++ List.replicate (cnt2 (num t) e i) (0 : Int)).map V.int)) = H1 at *
      refine ⟨_, rfl, .inl ⟨rfl, _, SqL.of m1⟩, by show 1 ≤ sizeLine; decide, fun L1 hL1 => ?_⟩
      refine ⟨_, rfl, b, rfl, ⟨_, po.same (s1.trans (Same.new hL1))⟩, fun D hD => lc_tup (a := b) (xs := [.int o.1, .int o.2]) (fun i' H' => Same (upd H1 L1 (.lst [.int 1])) H' ∧ ∃ acc, H' D = some (.lst acc) ∧ acc.length = cntU (num t) o i i') ⟨Same.new hD, [], upd_same, rfl⟩ (fun i' H' _ h => (po.same (s1.trans (Same.new hL1))).same h.1) ?_ ?_⟩
      · rintro i' x H' hx ⟨s', acc, hacc, lacc⟩
        obtain ⟨y, rfl, hy⟩ := pair_at hx
        refine ⟨rfl, ?_⟩
        refine ⟨_, rfl, _, rfl, _, _, rfl, rfl, num_pos, _, rfl, rfl, _, rfl, ?_⟩
        rw [int_eq, Int.zero_add]
        refine ite2 (fun c => ?_) (fun c => ?_)
        · exact ⟨_, rfl, acc, hacc, Nat.lt_of_le_of_lt (show acc.length ≤ 2 by rw [lacc]; exact cntU_le) (by decide), Same.over s' hD _, _, upd_same, by rw [List.length_append, lacc]; exact cntU_yes hy (of_decide_eq_true c)⟩
        · exact ⟨s', acc, hacc, by rw [lacc]; exact cntU_no hy (fun z => c (decide_eq_true z))⟩
      rintro Hc1 ⟨sc1, acc1, hacc1, lacc1⟩
      rw [cntU_all] at lacc1
      have lc1 : cnt2 (num t) o i ≤ 2 := cnt2_le
      refine ⟨D, acc1, rfl, .inl (SqL.of hacc1), L1, _, _, rfl, rfl, sc1 _ _ upd_same, by omega, by omega, by rw [Int.toNat_natCast, lacc1, List.length_singleton]; exact Nat.le_trans (show 1 * cnt2 (num t) o i ≤ 2 by omega) (by decide), fun R1 hR1 => ?_⟩
      rw [Int.toNat_natCast, lacc1, flat_rep]
      have sR1 : Same H (upd Hc1 R1 (.lst ((List.replicate (cnt2 (num t) o i) (1 : Int)).map V.int))) := ((s1.trans (Same.new hL1)).trans sc1).trans (Same.new hR1)
      have mR1 : upd Hc1 R1 (.lst ((List.replicate (cnt2 (num t) o i) (1 : Int)).map V.int)) M = some (.lst ((metUp (num t) e o i ++ List.replicate (cnt2 (num t) e i) (0 : Int)).map V.int)) := new_keep (sc1 _ _ (new_keep m1 hL1)) hR1
      refine ⟨M, R1, _, _, rfl, rfl, mR1, upd_same, by rw [List.length_map, List.length_map, List.length_replicate]; exact Nat.le_trans (show (metUp (num t) e o i ++ List.replicate (cnt2 (num t) e i) (0 : Int)).length + cnt2 (num t) o i ≤ 100 by simp only [List.length_append, List.length_replicate]; have := metUp_len (m := (num t : Int)) (e := e) (o := o) i; have : num t ≤ 6 := (by cases t <;> decide); have : cnt2 (num t) e i ≤ 2 := cnt2_le; omega) (by decide : 100 ≤ sizeLine), ?_⟩
      rw [← List.map_append]
      have s2 := Same.over sR1 hM (.lst (((metUp (num t) e o i ++ List.replicate (cnt2 (num t) e i) (0 : Int)) ++ List.replicate (cnt2 (num t) o i) (1 : Int)).map V.int))
      have m2 : upd (upd Hc1 R1 (.lst ((List.replicate (cnt2 (num t) o i) (1 : Int)).map V.int))) M (.lst (((metUp (num t) e o i ++ List.replicate (cnt2 (num t) e i) (0 : Int)) ++ List.replicate (cnt2 (num t) o i) (1 : Int)).map V.int)) M = some _ := upd_same
      generalize upd (upd Hc1 R1 (.lst ((List.replicate (cnt2 (num t) o i) (1 : Int)).map V.int))) M (.lst (((metUp (num t) e o i ++ List.replicate (cnt2 (num t) e i) (0 : Int)) ++ List.replicate (cnt2 (num t) o i) (1 : Int)).map V.int)) = H2 at *
      exact ⟨_, _, rfl, s2, m2⟩
    · rintro _ H0 ⟨v4, v6, rfl, s0, m0⟩
      refine ⟨_, rfl, _, rfl, a, b, _, _, rfl, rfl, pe.same s0, po.same s0, by show 4 ≤ sizeLine; decide, (fun z => nomatch z), (fun _ z => nomatch z), fun _ _ S hS => ⟨S, rfl, ⟨_, SqT.of upd_same⟩, fun D hD => lc_tup (a := S) (xs := [.int e.1, .int e.2, .int o.1, .int o.2]) (fun i' H' => Same (upd H0 S (.tup [.int e.1, .int e.2, .int o.1, .int o.2])) H' ∧ H' D = some (.lst (([e.1 % (num t : Int), e.2 % (num t : Int), o.1 % (num t : Int), o.2 % (num t : Int)].take i').map V.int))) ⟨Same.new hD, upd_same⟩ (fun i' H' _ h => SqT.of (h.1 _ _ upd_same)) ?_ ?_⟩⟩
      · rintro i' x H' hx ⟨s', hacc⟩
        refine ⟨rfl, ?_⟩
        simp only [tYes, if_true]
        obtain ⟨y, rfl, hy⟩ : ∃ y, x = V.int y ∧ [e.1 % (num t : Int), e.2 % (num t : Int), o.1 % (num t : Int), o.2 % (num t : Int)][i']? = some (y % (num t : Int)) := by
          match i', hx with
          | 0, h => exact ⟨_, (Option.some.inj h).symm, rfl⟩
          | 1, h => exact ⟨_, (Option.some.inj h).symm, rfl⟩
          | 2, h => exact ⟨_, (Option.some.inj h).symm, rfl⟩
          | 3, h => exact ⟨_, (Option.some.inj h).symm, rfl⟩
        refine ⟨_, rfl, _, rfl, _, _, rfl, rfl, num_pos, _, hacc, ?_, Same.over s' hD _, ?_⟩
        · rw [List.length_map, List.length_take]
          exact Nat.lt_of_le_of_lt (Nat.min_le_right _ _) (by show 4 < sizeLine; decide)
        · rw [upd_same, ← take_map hy]
      rintro Hd ⟨sd, hd⟩
      have sHd : Same H Hd := (s0.trans (Same.new hS)).trans sd
      have mHd : Hd M = some (.lst ((metUp (num t) e o (num t)).map V.int)) := sd _ _ (new_keep m0 hS)
      refine ⟨_, rfl, D, [e.1 % (num t : Int), e.2 % (num t : Int), o.1 % (num t : Int), o.2 % (num t : Int)], rfl, SqL.of hd, by show 4 < 64; decide, rfl, _, rfl, ?_⟩
      rw [show ∀ n : Nat, decide (V.int (n : Int) = V.int 4) = decide (n = 4) from fun n => nat_eq n 4]
      generalize hq : decide (dist [e.1 % (num t : Int), e.2 % (num t : Int), o.1 % (num t : Int), o.2 % (num t : Int)] = 4) = q4
      cases q4 with
      | false =>
        have ke := k _ sHd
        unfold doAlt at ke
        rw [hq, Bool.false_and] at ke
        exact iteF ke
      | true =>
        refine iteT ⟨_, rfl, by show 4 ≤ sizeLine; decide, fun l1 h1 => ⟨by show 4 ≤ sizeLine; decide, fun l2 h2 => ⟨by show 2 ≤ sizeLine; decide, fun tt htt => ?_⟩⟩⟩
        refine ⟨intL (metUp (num t) e o (num t)), [intL [0, 1, 0, 1], intL [1, 0, 1, 0]], intL_at (new_keep (new_keep (new_keep mHd h1) h2) htt), .tup (SqT.of upd_same) (.cons (intL_at (ns := [0, 1, 0, 1]) (new_keep (new_keep upd_same h2) htt)) (.cons (intL_at (ns := [1, 0, 1, 0]) (new_keep upd_same htt)) .nil)), shaped_intL _, by decide +kernel, ?_⟩
        have ke := k _ (((sHd.trans (Same.new (o := .lst [.int 0, .int 1, .int 0, .int 1]) h1)).trans (Same.new (o := .lst [.int 1, .int 0, .int 1, .int 0]) h2)).trans (Same.new (o := .tup [.ref l1, .ref l2]) htt))
        unfold doAlt at ke
        rw [hq, Bool.true_and] at ke
        simp only [List.any_cons, List.any_nil, intL_eqv] at ke ⊢
        exact ke
theorem h_law_turns_right (c : GCls K C) (T : Txt K mg aG dU) (h_law_roll : Has P w K mg base CX0 "_law_roll" 1 ["_law_dice_here", "_law_total"] spRoll) (h_law_part : Has P w K mg base CX0 "_law_part" 3 ["_law_dice_here"] spPart)
    (h_law_spun : Has P w K mg base CX0 "_law_spun" 2 ["_law_plain", "_law_place", "_law_turn"] (spSpun K)) (hm_turned : HasM P w K mg base CX0 C "turned" 4 ["self", "point", "turn"] (spMTurned K C U)) (hm_norm_of : HasM P w K mg base CX0 C "norm_of" 4 ["self", "point"] (spMNorm K C U))
    (hm_conjugate_of : HasM P w K mg base CX0 C "conjugate_of" 4 ["self", "point"] (spMFlip K C U)) (hm_unit : HasM P w K mg base CX0 C "unit" 3 ["self", "direction"] (spMUnit K C U)) (hm_len : HasM P w K mg base CX0 C "__len__" 1 ["self"] (spMLen C U))
    (D : Df K mg "_law_turns_right" s__law_turns_right) : Has P w K mg base CX0 "_law_turns_right" 6 ["_law_dice_here", "_law_plain", "_law_grid"] (spTurns C U) := by
  have c_turned := c.cls
  have c_norm_of := c.cls
  have c_conjugate_of := c.cls
  have c_unit := c.cls
  refine D.has sc__law_turns_right (fun vs H Q E h => ?_) (fun kV doc pm an cdv ct us hl => match us, hl with | [_, _, _], _ => rfl) (fun f cdv A outer s H vs Q E gd hr h => ?_)
  · obtain ⟨p, q, g, t, rfl, _⟩ := h
    rfl
  · obtain ⟨p, q, g, t, rfl, hd, hq, hg, k⟩ := h
    have hu := hr.units
    refine ⟨_, (pss_cons
 (ps_par3 (i := 3) (j := 4) (l := 5) (by rfl) sc__law_turns_right.nd rfl rfl rfl (by decide) (by decide) (by decide) rfl rfl rfl (pa_cons (pe_tup (pa_cons (pe_op op_sub (pe_callH h_law_roll gd (hr.mono (by decide)) pass0 (pa_cons (pv 0) (pa_cons pe_int pa_nil))) pe_int) (pa_cons (pe_op op_sub (pe_callH h_law_roll gd (hr.mono (by decide)) pass0 (pa_cons (pv 0) (pa_cons pe_int pa_nil))) pe_int) pa_nil))) (pa_cons (pe_callH h_law_part gd (hr.mono (by decide)) pass0 (pa_cons (pv 0) pa_nil)) (pa_cons (pe_op op_sub (pe_callH h_law_roll gd (hr.mono (by decide)) pass0 (pa_cons (pv 0) (pa_cons pe_int pa_nil))) pe_int) pa_nil))) (by rfl))
 (pss_cons
 (ps_set (i := 6) sc__law_turns_right.nd rfl (Or.inl rfl) (pe_methH (pv 2) c_turned hm_turned gd (hr.mono (by decide)) pass0 (pa_cons (pv 3) (pa_cons (pv 4) pa_nil))))
 (pss_cons
 (ps_if (PW.pt (pw_or (pt_cmpR op_ne (pe_callB (call_repr gd hu) (by exact rfl) T.zrepr (by decide +kernel) (pa_cons (pv 6) pa_nil)) (pe_callB (call_repr gd hu) (by exact rfl) T.zrepr (by decide +kernel) (pa_cons (pe_callH h_law_spun gd (hr.mono (by decide)) pass0 (pa_cons (pv 1) (pa_cons (pv 3) (pa_cons (pv 4) pa_nil)))) pa_nil)) (nomark _)) (pw_or1 (pt_cmpR op_ne (pe_methH (pv 2) c_norm_of hm_norm_of gd (hr.mono (by decide)) pass0 (pa_cons (pv 6) pa_nil)) (pe_methH (pv 2) c_norm_of hm_norm_of gd (hr.mono (by decide)) pass0 (pa_cons (pv 3) pa_nil)) (nomark _))))) (pss_one
 (ps_ret pe_bl)) pss_nil)
 (pss_cons
 (ps_if (pt_cmpR (op_neD hu) (pe_methH (pv 2) c_turned hm_turned gd (hr.mono (by decide)) pass0 (pa_cons (pv 6) (pa_cons (pv 5) pa_nil))) (pe_methH (pv 2) c_turned hm_turned gd (hr.mono (by decide)) pass0 (pa_cons (pv 3) (pa_cons (pe_op op_mod (pe_op op_add (pv 4) (pv 5)) (pe_callB (call_lenM hm_len gd (hr.mono (by decide)) pass0) (by exact rfl) T.zlen PySem.boot_len (pa_cons (pv 2) pa_nil))) pa_nil))) (nomark _)) (pss_one
 (ps_ret pe_bl)) pss_nil)
 (pss_cons
 (ps_if (pt_cmpR (op_neD hu) (pe_methH (pv 2) c_turned hm_turned gd (hr.mono (by decide)) pass0 (pa_cons (pv 3) (pa_cons (pe_callB (call_lenM hm_len gd (hr.mono (by decide)) pass0) (by exact rfl) T.zlen PySem.boot_len (pa_cons (pv 2) pa_nil)) pa_nil))) (pv 3) (nomark _)) (pss_one
 (ps_ret pe_bl)) pss_nil)
 (pss_cons
 (ps_if (pt_cmpR (op_neD hu) (pe_methH (pv 2) c_turned hm_turned gd (hr.mono (by decide)) pass0 (pa_cons (pv 3) (pa_cons (pe_fld (pv 2) rfl) pa_nil))) (pe_tup (pa_cons (pe_op op_sub pe_int (pe_ix ix_tup (pv 3) pe_int (fun _ _ => rfl))) (pa_cons (pe_op op_sub pe_int (pe_ix ix_tup (pv 3) pe_int (fun _ _ => rfl))) pa_nil))) (nomark _)) (pss_one
 (ps_ret pe_bl)) pss_nil)
 (pss_cons
 (ps_set (i := 7) sc__law_turns_right.nd rfl (Or.inl rfl) (pe_methH (pv 2) c_conjugate_of hm_conjugate_of gd (hr.mono (by decide)) pass0 (pa_cons (pe_methH (pv 2) c_turned hm_turned gd (hr.mono (by decide)) pass0 (pa_cons (pe_methH (pv 2) c_conjugate_of hm_conjugate_of gd (hr.mono (by decide)) pass0 (pa_cons (pv 3) pa_nil)) (pa_cons (pv 5) pa_nil))) pa_nil)))
 (pss_one
 (ps_ret (pe_and (pe_cmpR (op_eqD hu) (pv 7) (pe_methH (pv 2) c_turned hm_turned gd (hr.mono (by decide)) pass0 (pa_cons (pv 3) (pa_cons (pe_op op_sub pe_int (pv 5)) pa_nil))) (nomark _)) (pe_one (pe_cmpR (op_eqD hu) (pe_methH (pv 2) c_turned hm_turned gd (hr.mono (by decide)) pass0 (pa_cons (pe_tup (pa_cons pe_int (pa_cons pe_int pa_nil))) (pa_cons (pv 4) pa_nil))) (pe_methH (pv 2) c_unit hm_unit gd (hr.mono (by decide)) pass0 (pa_cons (pv 4) pa_nil)) (nomark _))))))))))))), ?_⟩
    refine ⟨_, rfl, p, _, rfl, hd, by decide, by decide, fun r1 H1 a1 b1 g1 => ?_⟩
    refine ⟨_, _, rfl, rfl, _, rfl, p, _, rfl, g1.die, by decide, by decide, fun r2 H2 a2 b2 g2 => ?_⟩
    refine ⟨_, _, rfl, rfl, by show 2 ≤ sizeLine; decide, fun P0 hP0 => ?_⟩
    have g3 := (g1.trans g2).trans (Got.new (o := .tup [.int (r1 - 49), .int (r2 - 49)]) g2.die hP0)
    refine ⟨_, rfl, p, rfl, g3.die, fun n H4 hn g4 => ?_⟩
    refine ⟨_, rfl, p, _, rfl, g4.die, by decide, by decide, fun r3 H5 a3 b3 g5 => ?_⟩
    refine ⟨_, _, rfl, rfl, _, _, _, rfl, ?_⟩
    have gg := (g3.trans g4).trans g5
    have pP : PAt K H5 P0 (r1 - 49, r2 - 49) := .inl (.inl ((g4.trans g5).keep _ _ upd_same (g2.die.ne hP0).symm))
    have hq5 := hq.got gg hd
    obtain ⟨dx, eg⟩ := hg.got gg hd
    have fin : ∀ H', Same H5 H' → Q (.bl true) H' := fun H' s' => k H' (gg.over_same s')
    have lu : Le 49 (r1 - 49, r2 - 49) := ⟨by show (r1 - 49).natAbs ≤ 49; omega, by show (r2 - 49).natAbs ≤ 49; omega⟩
    have on3 : isIntV (.int (r3 - 15)) = true := short_of (by have : (r3 - 15).natAbs ≤ 30 := by omega
                                                              exact Nat.le_trans this (by decide))
    clear hd g1 g2 g3 g4 g5 gg hP0
    generalize (r1 - 49, r2 - 49) = u at *
    have l2 : Le 98 (mul t u (uni t n)) := lu.turn
    have okU := lu.ok (show 49 ≤ 10 ^ 9 by decide)
    have ok1 := l2.ok (show 98 ≤ 10 ^ 9 by decide)
    obtain ⟨o1, o2, o3, o4⟩ := ptD_ok (l2.mono (show 98 ≤ 200 by decide))
    refine ⟨_, rfl, g, dx, _, rfl, eg, (by unfold gF; rfl), _, rfl, _, rfl, g, t, P0, u, n, rfl, ⟨dx, eg⟩, pP, okU, hn, fun p1 h1 => ?_⟩
    have pt1 : PAt K (upd H5 p1 (.tup [.int (mul t u (uni t n)).1, .int (mul t u (uni t n)).2])) p1 (mul t u (uni t n)) := PAt.of upd_same
    have s6 := Same.new (o := .tup [.int (mul t u (uni t n)).1, .int (mul t u (uni t n)).2]) h1
    generalize upd H5 p1 (.tup [.int (mul t u (uni t n)).1, .int (mul t u (uni t n)).2]) = H6 at *
    refine ⟨_, rfl, _, ptD _, rfl, ptD_at pt1, o1, o2, o3, o4, ?_⟩
    refine ⟨_, rfl, _, rfl, _, rfl, q, t, P0, u, n, rfl, s6 _ _ hq5, pP.same s6, lu.sm (by decide), fun p2 H7 s67 pt2 => ?_⟩
    refine ⟨_, ptD _, rfl, ptD_at pt2, o1, o2, o3, o4, rfl, _, rfl, ?_⟩
    rw [str_self]
    have s7 := s6.trans s67
    have eg7 := s7 _ _ eg
    have pt7 := pt1.same s67
    have pP7 := pP.same s7
    refine iteF ⟨_, rfl, g, dx, _, rfl, eg7, (by unfold gF; rfl), _, rfl, g, t, p1, _, rfl, ⟨dx, eg7⟩, pt7, ok1, _, rfl, g, dx, _, rfl, eg7, (by unfold gF; rfl), _, rfl, g, t, P0, u, rfl, ⟨dx, eg7⟩, pP7, okU, rfl, _, rfl, ?_⟩
    rw [turn_norm, int_self]
    refine iteF ?_
    -- turned twice
    refine ⟨_, rfl, g, dx, _, rfl, eg7, (by unfold gF; rfl), _, rfl, _, rfl, g, t, p1, _, _, rfl, ⟨dx, eg7⟩, pt7, ok1, on3, fun p3 h3 => ?_⟩
    have pt3 : PAt K (upd H7 p3 (.tup [.int (mul t (mul t u (uni t n)) (uni t (r3 - 15))).1, .int (mul t (mul t u (uni t n)) (uni t (r3 - 15))).2])) p3 (mul t (mul t u (uni t n)) (uni t (r3 - 15))) := PAt.of upd_same
    have s8 := s7.trans (Same.new (o := .tup [.int (mul t (mul t u (uni t n)) (uni t (r3 - 15))).1, .int (mul t (mul t u (uni t n)) (uni t (r3 - 15))).2]) h3)
    generalize upd H7 p3 (.tup [.int (mul t (mul t u (uni t n)) (uni t (r3 - 15))).1, .int (mul t (mul t u (uni t n)) (uni t (r3 - 15))).2]) = H8 at *
    have eg8 := s8 _ _ eg
    refine ⟨_, rfl, g, dx, _, rfl, eg8, (by unfold gF; rfl), _, rfl, _, rfl, _, rfl, _, _, rfl, rfl, _, rfl, g, dx, _, rfl, eg8, g, t, rfl, ⟨dx, eg8⟩, _, rfl, Int.natCast_nonneg _, num_small, _, _, rfl, rfl, num_pos, g, t, P0, u, _, rfl, ⟨dx, eg8⟩, pP.same s8, okU, small_mod _, fun p4 h4 => ?_⟩
    have s9 := s8.trans (Same.new (o := .tup [.int (mul t u (uni t ((n + (r3 - 15)) % (num t : Int)))).1, .int (mul t u (uni t ((n + (r3 - 15)) % (num t : Int)))).2]) h4)
    have pt3' := pt3.same (Same.new (o := .tup [.int (mul t u (uni t ((n + (r3 - 15)) % (num t : Int)))).1, .int (mul t u (uni t ((n + (r3 - 15)) % (num t : Int)))).2]) h4)
    have pt4 : PAt K (upd H8 p4 (.tup [.int (mul t u (uni t ((n + (r3 - 15)) % (num t : Int)))).1, .int (mul t u (uni t ((n + (r3 - 15)) % (num t : Int)))).2])) p4 (mul t u (uni t ((n + (r3 - 15)) % (num t : Int)))) := PAt.of upd_same
    generalize upd H8 p4 (.tup [.int (mul t u (uni t ((n + (r3 - 15)) % (num t : Int)))).1, .int (mul t u (uni t ((n + (r3 - 15)) % (num t : Int)))).2]) = H9 at *
    refine ⟨ptD _, ptD _, ptD_at pt3', ptD_at pt4, ptD_shaped _, ptD_shaped _, _, rfl, ?_⟩
    rw [turn_add, uni_mod, ptD_self]
    refine iteF ?_
    have eg9 := s9 _ _ eg
    -- the whole turn
    refine ⟨_, rfl, g, dx, _, rfl, eg9, (by unfold gF; rfl), _, rfl, _, rfl, g, dx, _, rfl, eg9, g, t, rfl, ⟨dx, eg9⟩, _, rfl, Int.natCast_nonneg _, num_small, g, t, P0, u, _, rfl, ⟨dx, eg9⟩, pP.same s9, okU, num_ok, fun p5 h5 => ?_⟩
    have s10 := s9.trans (Same.new (o := .tup [.int (mul t u (uni t (num t : Nat))).1, .int (mul t u (uni t (num t : Nat))).2]) h5)
    have pt5 : PAt K (upd H9 p5 (.tup [.int (mul t u (uni t (num t : Nat))).1, .int (mul t u (uni t (num t : Nat))).2])) p5 (mul t u (uni t (num t : Nat))) := PAt.of upd_same
    generalize upd H9 p5 (.tup [.int (mul t u (uni t (num t : Nat))).1, .int (mul t u (uni t (num t : Nat))).2]) = H10 at *
    refine ⟨_, rfl, ptD _, ptD _, ptD_at pt5, ptD_at (pP.same s10), ptD_shaped _, ptD_shaped _, _, rfl, ?_⟩
    rw [turn_all, ptD_self]
    refine iteF ?_
    have eg10 := s10 _ _ eg
    -- the half turn
    refine ⟨_, rfl, g, dx, _, rfl, eg10, (by unfold gF; rfl), _, rfl, _, rfl, _, _, _, _, _, rfl, eg10, c.cls, c.half, gF_half, g, t, P0, u, _, rfl, ⟨dx, eg10⟩, pP.same s10, okU, half_ok, fun p6 h6 => ?_⟩
    have s11 := s10.trans (Same.new (o := .tup [.int (mul t u (uni t ((num t : Int) / 2))).1, .int (mul t u (uni t ((num t : Int) / 2))).2]) h6)
    have q11 : PAt K (upd H10 p6 (.tup [.int (mul t u (uni t ((num t : Int) / 2))).1, .int (mul t u (uni t ((num t : Int) / 2))).2])) p6 (mul t u (uni t ((num t : Int) / 2))) := PAt.of upd_same
    have keep11 : Same H10 (upd H10 p6 (.tup [.int (mul t u (uni t ((num t : Int) / 2))).1, .int (mul t u (uni t ((num t : Int) / 2))).2])) := Same.new h6
    generalize upd H10 p6 (.tup [.int (mul t u (uni t ((num t : Int) / 2))).1, .int (mul t u (uni t ((num t : Int) / 2))).2]) = H11 at *
    have eg11 := s11 _ _ eg
    refine ⟨_, rfl, _, _, _, _, rfl, rfl, pP.same s11, atI_nat (j := 0) rfl, _, _, rfl, rfl, _, rfl, _, _, _, _, rfl, rfl, pP.same s11, atI_nat (j := 1) rfl, _, _, rfl, rfl, by show 2 ≤ sizeLine; decide, fun p7 h7 => ?_⟩
    have s12 := s11.trans (Same.new (o := .tup [.int (0 - u.1), .int (0 - u.2)]) h7)
    have q12 : PAt K (upd H11 p7 (.tup [.int (0 - u.1), .int (0 - u.2)])) p7 (0 - u.1, 0 - u.2) := PAt.of upd_same
    have keep12 : Same H11 (upd H11 p7 (.tup [.int (0 - u.1), .int (0 - u.2)])) := Same.new h7
    refine ⟨ptD _, ptD _, ptD_at (q11.same keep12), ptD_at q12, ptD_shaped _, ptD_shaped _, _, rfl, ?_⟩
    rw [turn_half, ptD_self]
    refine iteF ?_
    generalize upd H11 p7 (.tup [.int (0 - u.1), .int (0 - u.2)]) = H12 at *
    have eg12 := s12 _ _ eg
    -- mirrored, turned, mirrored
    refine ⟨_, rfl, g, dx, _, rfl, eg12, (by unfold gF; rfl), _, rfl, g, dx, _, rfl, eg12, (by unfold gF; rfl), _, rfl, g, dx, _, rfl, eg12, (by unfold gF; rfl), _, rfl, g, t, P0, u, rfl, ⟨dx, eg12⟩, pP.same s12, okU, fun p8 h8 => ?_⟩
    have s13 := s12.trans (Same.new (o := .tup [.int (flip t u).1, .int (flip t u).2]) h8)
    have q13 : PAt K (upd H12 p8 (.tup [.int (flip t u).1, .int (flip t u).2])) p8 (flip t u) := PAt.of upd_same
    have keep13 : Same H12 (upd H12 p8 (.tup [.int (flip t u).1, .int (flip t u).2])) := Same.new h8
    generalize upd H12 p8 (.tup [.int (flip t u).1, .int (flip t u).2]) = H13 at *
    have eg13 := s13 _ _ eg
    refine ⟨_, rfl, g, t, p8, _, _, rfl, ⟨dx, eg13⟩, q13, (lu.flip).ok (by decide), on3, fun p9 h9 => ?_⟩
    have s14 := s13.trans (Same.new (o := .tup [.int (mul t (flip t u) (uni t (r3 - 15))).1, .int (mul t (flip t u) (uni t (r3 - 15))).2]) h9)
    have q14 : PAt K (upd H13 p9 (.tup [.int (mul t (flip t u) (uni t (r3 - 15))).1, .int (mul t (flip t u) (uni t (r3 - 15))).2])) p9 (mul t (flip t u) (uni t (r3 - 15))) := PAt.of upd_same
    have keep14 : Same H13 (upd H13 p9 (.tup [.int (mul t (flip t u) (uni t (r3 - 15))).1, .int (mul t (flip t u) (uni t (r3 - 15))).2])) := Same.new h9
    generalize upd H13 p9 (.tup [.int (mul t (flip t u) (uni t (r3 - 15))).1, .int (mul t (flip t u) (uni t (r3 - 15))).2]) = H14 at *
    have eg14 := s14 _ _ eg
    refine ⟨g, t, p9, _, rfl, ⟨dx, eg14⟩, q14, (lu.flip.turn).ok (by decide), fun p10 h10 => ?_⟩
    have s15 := s14.trans (Same.new (o := .tup [.int (flip t (mul t (flip t u) (uni t (r3 - 15)))).1, .int (flip t (mul t (flip t u) (uni t (r3 - 15)))).2]) h10)
    have q15 : PAt K (upd H14 p10 (.tup [.int (flip t (mul t (flip t u) (uni t (r3 - 15)))).1, .int (flip t (mul t (flip t u) (uni t (r3 - 15)))).2])) p10 (flip t (mul t (flip t u) (uni t (r3 - 15)))) := PAt.of upd_same
    have keep15 : Same H14 (upd H14 p10 (.tup [.int (flip t (mul t (flip t u) (uni t (r3 - 15)))).1, .int (flip t (mul t (flip t u) (uni t (r3 - 15)))).2])) := Same.new h10
    generalize upd H14 p10 (.tup [.int (flip t (mul t (flip t u) (uni t (r3 - 15)))).1, .int (flip t (mul t (flip t u) (uni t (r3 - 15)))).2]) = H15 at *
    have eg15 := s15 _ _ eg
    have onN : isIntV (.int (0 - (r3 - 15))) = true := short_of (Nat.le_trans (show _ ≤ 30 by omega) (by decide))
    refine ⟨_, rfl, _, rfl, g, dx, _, rfl, eg15, (by unfold gF; rfl), _, rfl, _, rfl, _, _, rfl, rfl, g, t, P0, u, _, rfl, ⟨dx, eg15⟩, pP.same s15, okU, onN, fun p11 h11 => ?_⟩
    have s16 := s15.trans (Same.new (o := .tup [.int (mul t u (uni t (0 - (r3 - 15)))).1, .int (mul t u (uni t (0 - (r3 - 15)))).2]) h11)
    have q16 : PAt K (upd H15 p11 (.tup [.int (mul t u (uni t (0 - (r3 - 15)))).1, .int (mul t u (uni t (0 - (r3 - 15)))).2])) p11 (mul t u (uni t (0 - (r3 - 15)))) := PAt.of upd_same
    have keep16 : Same H15 (upd H15 p11 (.tup [.int (mul t u (uni t (0 - (r3 - 15)))).1, .int (mul t u (uni t (0 - (r3 - 15)))).2])) := Same.new h11
    generalize upd H15 p11 (.tup [.int (mul t u (uni t (0 - (r3 - 15)))).1, .int (mul t u (uni t (0 - (r3 - 15)))).2]) = H16 at *
    have eg16 := s16 _ _ eg
    refine ⟨ptD _, ptD _, ptD_at (q15.same keep16), ptD_at q16, ptD_shaped _, ptD_shaped _, _, rfl, ?_⟩
    rw [turn_flip, ptD_self]
    refine iteT ⟨_, rfl, g, dx, _, rfl, eg16, (by unfold gF; rfl), by show 2 ≤ sizeLine; decide, fun p12 h12 => ?_⟩
    have s17 := s16.trans (Same.new (o := .tup [.int 1, .int 0]) h12)
    have q17 : PAt K (upd H16 p12 (.tup [.int 1, .int 0])) p12 (1, 0) := PAt.of upd_same
    generalize upd H16 p12 (.tup [.int 1, .int 0]) = H17 at *
    have eg17 := s17 _ _ eg
    refine ⟨_, rfl, g, t, p12, (1, 0), n, rfl, ⟨dx, eg17⟩, q17, ⟨short_of (by decide), short_of (by decide)⟩, hn, fun p13 h13 => ?_⟩
    have s18 := s17.trans (Same.new (o := .tup [.int (mul t (1, 0) (uni t n)).1, .int (mul t (1, 0) (uni t n)).2]) h13)
    have q18 : PAt K (upd H17 p13 (.tup [.int (mul t (1, 0) (uni t n)).1, .int (mul t (1, 0) (uni t n)).2])) p13 (mul t (1, 0) (uni t n)) := PAt.of upd_same
    have keep18 : Same H17 (upd H17 p13 (.tup [.int (mul t (1, 0) (uni t n)).1, .int (mul t (1, 0) (uni t n)).2])) := Same.new h13
    generalize upd H17 p13 (.tup [.int (mul t (1, 0) (uni t n)).1, .int (mul t (1, 0) (uni t n)).2]) = H18 at *
    have eg18 := s18 _ _ eg
    refine ⟨_, rfl, g, dx, _, rfl, eg18, (by unfold gF; rfl), _, rfl, g, t, n, rfl, ⟨dx, eg18⟩, hn, fun i hi => ⟨ptD _, ptD _, ptD_at q18, ptD_at (hi _), ptD_shaped _, ptD_shaped _, ?_⟩⟩
    rw [turn_one, ptD_self]
    exact fin _ s18
theorem h_law_pairs_right (c : GCls K C) (T : Txt K mg aG dU) (h_law_roll : Has P w K mg base CX0 "_law_roll" 1 ["_law_dice_here", "_law_total"] spRoll) (h_law_part : Has P w K mg base CX0 "_law_part" 3 ["_law_dice_here"] spPart)
    (h_law_around : Has P w K mg base CX0 "_law_around" 1 ["_law_plain"] spAround) (hm_alternate : HasM P w K mg base CX0 C "alternate" 3 ["self", "ends", "others"] (spMAlt K C U))
    (h_law_do_alternate : Has P w K mg base CX0 "_law_do_alternate" 1 ["_law_around_here", "_law_ends", "_law_others"] (spDoAlt K)) (D : Df K mg "_law_pairs_right" s__law_pairs_right) : Has P w K mg base CX0 "_law_pairs_right" 6 ["_law_dice_here", "_law_plain", "_law_grid"] (spTurns C U) := by
  have c_alternate := c.cls
  refine D.has sc__law_pairs_right (fun vs H Q E h => ?_) (fun kV doc pm an cdv ct us hl => match us, hl with | [_, _, _], _ => rfl) (fun f cdv A outer s H vs Q E gd hr h => ?_)
  · obtain ⟨p, q, g, t, rfl, _⟩ := h
    rfl
  · obtain ⟨p, q, g, t, rfl, hd, hq, hg, k⟩ := h
    have hu := hr.units
    have np := num_pos (t := t)
    have nb : (num t : Int) ≤ 6 := by cases t <;> decide
    refine ⟨_, (pss_cons
 (ps_par (i := 3) (j := 4) (by rfl) sc__law_pairs_right.nd rfl rfl (by decide) rfl rfl (pa_cons (pe_callH h_law_around gd (hr.mono (by decide)) pass0 (pa_cons (pv 1) pa_nil)) (pa_cons (pe_callH h_law_part gd (hr.mono (by decide)) pass0 (pa_cons (pv 0) pa_nil)) pa_nil)) (by rfl))
 (Evl.pss_cut
 (ps_set (i := 5) sc__law_pairs_right.nd rfl (Or.inl rfl) (pe_ifExp (pt_cmpR op_lt (pe_callB call_abs (by exact rfl) T.zabs (by decide +kernel) (pa_cons (pv 4) pa_nil)) (pe_op op_mulW (pe_op op_pow pe_int pe_int) (pe_op op_pow pe_int pe_int)) (nomark _)) (pe_op op_sub (pv 4) (pe_op op_mod (pv 4) (pv 3))) pe_int))
 (pss_cons
 (ps_for PassesOwn.never rfl (pi_range1 (by exact rfl) T.zrange (pa_cons (pv 3) pa_nil)) (pg_name (i := 6) sc__law_pairs_right.nd rfl (Or.inl rfl)) (pss_one
 (ps_for PassesOwn.never rfl (pi_range1 (by exact rfl) T.zrange (pa_cons (pv 3) pa_nil)) (pg_name (i := 7) sc__law_pairs_right.nd rfl (Or.inl rfl)) (pss_cons
 (ps_set (i := 8) sc__law_pairs_right.nd rfl (Or.inl rfl) (pe_tup (pa_cons (pe_callH h_law_roll gd (hr.mono (by decide)) pass0 (pa_cons (pv 0) (pa_cons (pv 3) pa_nil))) (pa_cons (pe_callH h_law_roll gd (hr.mono (by decide)) pass0 (pa_cons (pv 0) (pa_cons (pv 3) pa_nil))) pa_nil))))
 (pss_cons
 (ps_par (i := 9) (j := 10) (by rfl) sc__law_pairs_right.nd rfl rfl (by decide) rfl rfl (pa_cons (pe_tup (pa_cons (pv 6) (pa_cons (pv 7) pa_nil))) (pa_cons (pe_callH h_law_do_alternate gd (hr.mono (by decide)) pass0 (pa_cons (pv 3) (pa_cons (pe_tup (pa_cons (pv 6) (pa_cons (pv 7) pa_nil))) (pa_cons (pv 8) pa_nil)))) pa_nil)) (by rfl))
 (pss_cons
 (ps_set (i := 11) sc__law_pairs_right.nd rfl (Or.inl rfl) (pe_lst (pa_cons (pe_methH (pv 2) c_alternate hm_alternate gd (hr.mono (by decide)) pass0 (pa_cons (pv 9) (pa_cons (pv 8) pa_nil))) (pa_cons (pe_methH (pv 2) c_alternate hm_alternate gd (hr.mono (by decide)) pass0 (pa_cons (pv 8) (pa_cons (pv 9) pa_nil))) (pa_cons (pe_methH (pv 2) c_alternate hm_alternate gd (hr.mono (by decide)) pass0 (pa_cons (pe_tup (pa_cons (pv 7) (pa_cons (pv 6) pa_nil))) (pa_cons (pv 8) pa_nil))) pa_nil)))))
 (pss_cons
 (ps_expr (pe_bm PySem.F.plainAttrs_list PySem.F.slot_list_append PySem.F.type_list_append mt_append (pv 11) (pa_cons (pe_methH (pv 2) c_alternate hm_alternate gd (hr.mono (by decide)) pass0 (pa_cons (pe_tup (pa_cons (pe_op op_add (pv 6) (pv 5)) (pa_cons (pv 7) pa_nil))) (pa_cons (pe_tup (pa_cons (pe_ix ix_tup (pv 8) pe_int (fun _ _ => rfl)) (pa_cons (pe_op op_sub (pe_ix ix_tup (pv 8) pe_int (fun _ _ => rfl)) (pv 3)) pa_nil))) pa_nil))) pa_nil)))
 (pss_cons
 (ps_expr (pe_bm PySem.F.plainAttrs_list PySem.F.slot_list_append PySem.F.type_list_append mt_append (pv 11) (pa_cons (pe_methH (pv 2) c_alternate hm_alternate gd (hr.mono (by decide)) pass0 (pa_cons (pe_tup (pa_cons (pe_op op_add (pv 6) pe_int) (pa_cons (pe_op op_add (pv 7) pe_int) pa_nil))) (pa_cons (pe_tup (pa_cons (pe_op op_add (pe_ix ix_tup (pv 8) pe_int (fun _ _ => rfl)) pe_int) (pa_cons (pe_op op_add (pe_ix ix_tup (pv 8) pe_int (fun _ _ => rfl)) pe_int) pa_nil))) pa_nil))) pa_nil)))
 (pss_cons
 (ps_expr (pe_bm PySem.F.plainAttrs_list PySem.F.slot_list_append PySem.F.type_list_append mt_append (pv 11) (pa_cons (pe_methH (pv 2) c_alternate hm_alternate gd (hr.mono (by decide)) pass0 (pa_cons (pe_tup (pa_cons (pe_op op_sub pe_int (pv 6)) (pa_cons (pe_op op_sub pe_int (pv 7)) pa_nil))) (pa_cons (pe_tup (pa_cons (pe_op op_sub pe_int (pe_ix ix_tup (pv 8) pe_int (fun _ _ => rfl))) (pa_cons (pe_op op_sub pe_int (pe_ix ix_tup (pv 8) pe_int (fun _ _ => rfl))) pa_nil))) pa_nil))) pa_nil)))
 (pss_one
 (ps_if (pt_cmpR op_ne (pe_callB (call_repr gd hu) (by exact rfl) T.zrepr (by decide +kernel) (pa_cons (pv 11) pa_nil)) (pe_callB (call_repr gd hu) (by exact rfl) T.zrepr (by decide +kernel) (pa_cons (pe_op op_rep (pe_lst (pa_cons (pv 10) pa_nil)) pe_int) pa_nil)) (nomark _)) (pss_one
 (ps_ret pe_bl)) pss_nil)))))))))))
 (pss_one
 (ps_ret pe_bl))))), ?_⟩
    refine ⟨_, rfl, q, t, rfl, hq, _, rfl, p, rfl, hd, fun n H1 hn g1 => ⟨_, _, rfl, ?_⟩⟩
    refine ⟨fun σ' H' => ∃ sh : Int, σ' = [some (.ref p), some (.ref q), some (.ref g), some (.int (num t : Nat)), some (.int n), some (.int sh), none, none, none, none, none, none] ∧ sh % (num t : Int) = 0 ∧ sh.natAbs ≤ 10 ^ 101 ∧ H1 = H', ?_, ?_⟩
    · refine ⟨_, rfl, _, rfl, _, _, rfl, rfl, ⟨by decide, by decide, by decide⟩, _, _, rfl, rfl, ⟨by decide, by decide, by decide⟩, _, _, rfl, rfl, wide_mul (a := 250) (b := 250) (by decide +kernel) (by decide +kernel) (by decide) (by decide) (by decide), _, _, rfl, rfl, _, rfl, ?_⟩
      refine ite2 (fun c1 => ?_) (fun c1 => ?_)
      · have c1' := of_decide_eq_true c1
        refine ⟨_, rfl, _, rfl, _, rfl, _, _, rfl, rfl, np, _, _, rfl, rfl, _, rfl, ?_, ?_, rfl⟩
        · exact sub_mod n np
        · exact sub_small n np nb c1'
      · exact ⟨0, rfl, Int.zero_emod _, Nat.zero_le _, rfl⟩
    rintro _ _ ⟨sh, rfl, hs, hsb, rfl⟩
    refine ⟨_, rfl, _, rfl, by cases t <;> decide, by cases t <;> decide, for_range (lo := 0) (n := num t) (fun i σ' H' => ∃ v6 v7 v8 v9 v10 v11, σ' = [some (.ref p), some (.ref q), some (.ref g), some (.int (num t : Nat)), some (.int n), some (.int sh), v6, v7, v8, v9, v10, v11] ∧ Got p H1 H') ⟨_, _, _, _, _, _, rfl, Got.same g1.die⟩ ?_ ?_⟩
    · rintro i _ H2 hi ⟨v6, v7, v8, v9, v10, v11, rfl, g2⟩
      refine ⟨_, rfl, _, rfl, by cases t <;> decide, by cases t <;> decide, for_range (lo := 0) (n := num t) (fun j σ' H' => ∃ v7 v8 v9 v10 v11, σ' = [some (.ref p), some (.ref q), some (.ref g), some (.int (num t : Nat)), some (.int n), some (.int sh), some (.int (0 + (i : Int))), v7, v8, v9, v10, v11] ∧ Got p H1 H') ⟨_, _, _, _, _, rfl, g2⟩ ?_ ?_⟩
      · rintro j _ H3 hj ⟨v7, v8, v9, v10, v11, rfl, g3⟩
        have nsm : ((num t : Nat) : Int).natAbs < 2 ^ 2000 := Nat.lt_of_le_of_lt (show _ ≤ 6 by omega) (by decide)
        refine ⟨_, rfl, _, rfl, p, _, rfl, g3.die, np, nsm, fun r1 H4 a1 b1 g4 => ?_⟩
        refine ⟨_, rfl, _, rfl, p, _, rfl, g4.die, np, nsm, fun r2 H5 a2 b2 g5 => ⟨by show 2 ≤ sizeLine; decide, fun O hO => ?_⟩⟩
        have gO := ((g3.trans g4).trans g5).trans (Got.new (o := .tup [.int r1, .int r2]) g5.die hO)
        have pO : PAt K (upd H5 O (.tup [.int r1, .int r2])) O (r1, r2) := PAt.of upd_same
        obtain ⟨dx, eg⟩ := (hg.got g1 hd).got gO g1.die
        generalize upd H5 O (.tup [.int r1, .int r2]) = Hs at *
        -- the answer that is due
        have ia : 0 ≤ 0 + (i : Int) ∧ 0 + (i : Int) < (num t : Int) := by omega
        have ib : 0 ≤ 0 + (j : Int) ∧ 0 + (j : Int) < (num t : Int) := by omega
        obtain ⟨e1, e2, e3, e6⟩ := alt_four (t := t) ia ib ⟨a1, b1⟩ ⟨a2, b2⟩
        have e4 := alt_far (a := 0 + (i : Int)) (b := 0 + (j : Int)) (c := r1) (d := r2) hs
        have e5 := alt_next (t := t) (a := 0 + (i : Int)) (b := 0 + (j : Int)) (c := r1) (d := r2)
        rw [e1] at e4 e5
        generalize hx : (0 + (i : Int)) = x at *
        generalize hy : (0 + (j : Int)) = y at *
        have sx : x.natAbs ≤ 10 := by omega
        have sy : y.natAbs ≤ 10 := by omega
        have s1 : r1.natAbs ≤ 10 := by omega
        have s2 : r2.natAbs ≤ 10 := by omega
        have sh9 : ∀ z : Int, z.natAbs ≤ 20 → isIntV (.int z) = true := fun z h => short_of (Nat.le_trans h (by decide))
        have okO : ptOk (r1, r2) := ⟨sh9 _ (by show r1.natAbs ≤ 20; omega), sh9 _ (by show r2.natAbs ≤ 20; omega)⟩
        have ok2 : ∀ z w : Int, z.natAbs ≤ 20 → w.natAbs ≤ 20 → ptOk (z, w) := fun z w h1 h2 => ⟨sh9 z h1, sh9 w h2⟩
        refine ⟨_, rfl, _, rfl, by show 2 ≤ sizeLine; decide, fun E1 h1 => ?_⟩
        have pE1 : PAt K (upd Hs E1 (.tup [.int x, .int y])) E1 (x, y) := PAt.of upd_same
        have sm1 := Same.new (o := .tup [.int x, .int y]) h1
        generalize upd Hs E1 (.tup [.int x, .int y]) = Ha at *
        refine ⟨_, rfl, _, rfl, _, rfl, by show 2 ≤ sizeLine; decide, fun E2 h2 => ?_⟩
        have pE2 : PAt K (upd Ha E2 (.tup [.int x, .int y])) E2 (x, y) := PAt.of upd_same
        have sm2 := sm1.trans (Same.new (o := .tup [.int x, .int y]) h2)
        have pE1b := pE1.same (Same.new (o := .tup [.int x, .int y]) h2)
        generalize upd Ha E2 (.tup [.int x, .int y]) = Hb at *
        refine ⟨_, rfl, t, E2, O, (x, y), (r1, r2), rfl, pE2, pO.same sm2, fun Hc sc => ⟨_, _, rfl, ?_⟩⟩
        generalize doAlt (num t) (x, y) (r1, r2) = due at *
        have smc := sm2.trans sc
        have pEc := pE1b.same sc
        refine ⟨_, rfl, g, dx, _, rfl, (smc _ _ eg), (by unfold gF; rfl), _, rfl, _, rfl, g, t, E1, O, (x, y), (r1, r2), rfl, ⟨dx, smc _ _ eg⟩, pEc, pO.same smc, ok2 _ _ (by omega) (by omega), okO, fun Hd sd => ?_⟩
        rw [e1]
        have smd := smc.trans sd
        refine ⟨_, rfl, g, dx, _, rfl, (smd _ _ eg), (by unfold gF; rfl), _, rfl, _, rfl, g, t, O, E1, (r1, r2), (x, y), rfl, ⟨dx, smd _ _ eg⟩, pO.same smd, pEc.same sd, okO, ok2 _ _ (by omega) (by omega), fun He se => ?_⟩
        rw [e2]
        have sme := smd.trans se
        refine ⟨_, rfl, g, dx, _, rfl, (sme _ _ eg), (by unfold gF; rfl), _, rfl, _, rfl, by show 2 ≤ sizeLine; decide, fun E3 h3 => ?_⟩
        have pE3 : PAt K (upd He E3 (.tup [.int y, .int x])) E3 (y, x) := PAt.of upd_same
        have sm3 := sme.trans (Same.new (o := .tup [.int y, .int x]) h3)
        generalize upd He E3 (.tup [.int y, .int x]) = Hf at *
        refine ⟨_, rfl, g, t, E3, O, (y, x), (r1, r2), rfl, ⟨dx, sm3 _ _ eg⟩, pE3, pO.same sm3, ok2 _ _ (by omega) (by omega), okO, fun Hg sg => ?_⟩
        rw [e3]
        refine ⟨by show 3 ≤ sizeLine; decide, fun L hL => ?_⟩
        have smg := sm3.trans sg
        have nL : Hs L = none := smg.free hL
        have smL := smg.trans (Same.new (o := .lst [.bl due, .bl due, .bl due]) hL)
        have eL : upd Hg L (.lst [.bl due, .bl due, .bl due]) L = some (.lst [.bl due, .bl due, .bl due]) := upd_same
        generalize upd Hg L (.lst [.bl due, .bl due, .bl due]) = Hh at *
        refine ⟨_, rfl, .inl ⟨rfl, _, SqL.of eL⟩, _, rfl, g, dx, _, rfl, (smL _ _ eg), (by unfold gF; rfl), _, rfl, _, rfl, _, _, rfl, rfl, _, rfl, by show 2 ≤ sizeLine; decide, fun A0 ha0 => ?_⟩
        have pA0 : PAt K (upd Hh A0 (.tup [.int (x + sh), .int (y)])) A0 (x + sh, y) := PAt.of upd_same
        have sa0 := smL.trans (Same.new (o := .tup [.int (x + sh), .int (y)]) ha0)
        have la0 : upd Hh A0 (.tup [.int (x + sh), .int (y)]) L = some (.lst [.bl due, .bl due, .bl due]) := new_keep eL ha0
        generalize upd Hh A0 (.tup [.int (x + sh), .int (y)]) = X0 at *
        refine ⟨_, rfl, _, _, _, _, rfl, rfl, pO.same sa0, atI_nat (j := 0) rfl, _, rfl, _, _, _, _, rfl, rfl, pO.same sa0, atI_nat (j := 1) rfl, _, rfl, _, _, rfl, rfl, by show 2 ≤ sizeLine; decide, fun B0 hb0 => ?_⟩
        have pB0 : PAt K (upd X0 B0 (.tup [.int (r1), .int (r2 - (num t : Nat))])) B0 (r1, r2 - (num t : Nat)) := PAt.of upd_same
        have sb0 := sa0.trans (Same.new (o := .tup [.int (r1), .int (r2 - (num t : Nat))]) hb0)
        have pA0' := pA0.same (Same.new (o := .tup [.int (r1), .int (r2 - (num t : Nat))]) hb0)
        have lb0 : upd X0 B0 (.tup [.int (r1), .int (r2 - (num t : Nat))]) L = some (.lst [.bl due, .bl due, .bl due]) := new_keep la0 hb0
        generalize upd X0 B0 (.tup [.int (r1), .int (r2 - (num t : Nat))]) = Y0 at *
        refine ⟨g, t, A0, B0, (x + sh, y), (r1, r2 - (num t : Nat)), rfl, ⟨dx, sb0 _ _ eg⟩, pA0', pB0, ⟨far_ok hsb sx, sh9 _ (by omega)⟩, ⟨sh9 _ (by show r1.natAbs ≤ 20; omega), sh9 _ (by show (r2 - (num t : Nat)).natAbs ≤ 20; omega)⟩, fun Z0 sz0 => ?_⟩
        rw [e4]
        refine ⟨L, _, _, rfl, rfl, sz0 _ _ lb0, by show 3 < sizeLine; decide, ?_⟩
        have sc0 := Same.over (sb0.trans sz0) nL (.lst ([.bl due, .bl due, .bl due] ++ [.bl due]))
        have lc0 : upd Z0 L (.lst ([.bl due, .bl due, .bl due] ++ [.bl due])) L = some (.lst [.bl due, .bl due, .bl due, .bl due]) := upd_same
        generalize upd Z0 L (.lst ([.bl due, .bl due, .bl due] ++ [.bl due])) = W0 at *
        refine ⟨_, rfl, .inl ⟨rfl, _, SqL.of lc0⟩, _, rfl, g, dx, _, rfl, (sc0 _ _ eg), (by unfold gF; rfl), _, rfl, _, _, rfl, rfl, _, rfl, _, _, rfl, rfl, by show 2 ≤ sizeLine; decide, fun A1 ha1 => ?_⟩
        have pA1 : PAt K (upd W0 A1 (.tup [.int (x + 1), .int (y + 1)])) A1 (x + 1, y + 1) := PAt.of upd_same
        have sa1 := sc0.trans (Same.new (o := .tup [.int (x + 1), .int (y + 1)]) ha1)
        have la1 : upd W0 A1 (.tup [.int (x + 1), .int (y + 1)]) L = some (.lst [.bl due, .bl due, .bl due, .bl due]) := new_keep lc0 ha1
        generalize upd W0 A1 (.tup [.int (x + 1), .int (y + 1)]) = X1 at *
        refine ⟨_, rfl, _, _, _, _, rfl, rfl, pO.same sa1, atI_nat (j := 0) rfl, _, _, rfl, rfl, _, rfl, _, _, _, _, rfl, rfl, pO.same sa1, atI_nat (j := 1) rfl, _, _, rfl, rfl, by show 2 ≤ sizeLine; decide, fun B1 hb1 => ?_⟩
        have pB1 : PAt K (upd X1 B1 (.tup [.int (r1 + 1), .int (r2 + 1)])) B1 (r1 + 1, r2 + 1) := PAt.of upd_same
        have sb1 := sa1.trans (Same.new (o := .tup [.int (r1 + 1), .int (r2 + 1)]) hb1)
        have pA1' := pA1.same (Same.new (o := .tup [.int (r1 + 1), .int (r2 + 1)]) hb1)
        have lb1 : upd X1 B1 (.tup [.int (r1 + 1), .int (r2 + 1)]) L = some (.lst [.bl due, .bl due, .bl due, .bl due]) := new_keep la1 hb1
        generalize upd X1 B1 (.tup [.int (r1 + 1), .int (r2 + 1)]) = Y1 at *
        refine ⟨g, t, A1, B1, (x + 1, y + 1), (r1 + 1, r2 + 1), rfl, ⟨dx, sb1 _ _ eg⟩, pA1', pB1, ok2 _ _ (by omega) (by omega), ok2 _ _ (by omega) (by omega), fun Z1 sz1 => ?_⟩
        rw [e5]
        refine ⟨L, _, _, rfl, rfl, sz1 _ _ lb1, by show 4 < sizeLine; decide, ?_⟩
        have sc1 := Same.over (sb1.trans sz1) nL (.lst ([.bl due, .bl due, .bl due, .bl due] ++ [.bl due]))
        have lc1 : upd Z1 L (.lst ([.bl due, .bl due, .bl due, .bl due] ++ [.bl due])) L = some (.lst [.bl due, .bl due, .bl due, .bl due, .bl due]) := upd_same
        generalize upd Z1 L (.lst ([.bl due, .bl due, .bl due, .bl due] ++ [.bl due])) = W1 at *
        refine ⟨_, rfl, .inl ⟨rfl, _, SqL.of lc1⟩, _, rfl, g, dx, _, rfl, (sc1 _ _ eg), (by unfold gF; rfl), _, rfl, _, _, rfl, rfl, _, rfl, _, _, rfl, rfl, by show 2 ≤ sizeLine; decide, fun A2 ha2 => ?_⟩
        have pA2 : PAt K (upd W1 A2 (.tup [.int (0 - x), .int (0 - y)])) A2 (0 - x, 0 - y) := PAt.of upd_same
        have sa2 := sc1.trans (Same.new (o := .tup [.int (0 - x), .int (0 - y)]) ha2)
        have la2 : upd W1 A2 (.tup [.int (0 - x), .int (0 - y)]) L = some (.lst [.bl due, .bl due, .bl due, .bl due, .bl due]) := new_keep lc1 ha2
        generalize upd W1 A2 (.tup [.int (0 - x), .int (0 - y)]) = X2 at *
        refine ⟨_, rfl, _, _, _, _, rfl, rfl, pO.same sa2, atI_nat (j := 0) rfl, _, _, rfl, rfl, _, rfl, _, _, _, _, rfl, rfl, pO.same sa2, atI_nat (j := 1) rfl, _, _, rfl, rfl, by show 2 ≤ sizeLine; decide, fun B2 hb2 => ?_⟩
        have pB2 : PAt K (upd X2 B2 (.tup [.int (0 - r1), .int (0 - r2)])) B2 (0 - r1, 0 - r2) := PAt.of upd_same
        have sb2 := sa2.trans (Same.new (o := .tup [.int (0 - r1), .int (0 - r2)]) hb2)
        have pA2' := pA2.same (Same.new (o := .tup [.int (0 - r1), .int (0 - r2)]) hb2)
        have lb2 : upd X2 B2 (.tup [.int (0 - r1), .int (0 - r2)]) L = some (.lst [.bl due, .bl due, .bl due, .bl due, .bl due]) := new_keep la2 hb2
        generalize upd X2 B2 (.tup [.int (0 - r1), .int (0 - r2)]) = Y2 at *
        refine ⟨g, t, A2, B2, (0 - x, 0 - y), (0 - r1, 0 - r2), rfl, ⟨dx, sb2 _ _ eg⟩, pA2', pB2, ok2 _ _ (by omega) (by omega), ok2 _ _ (by omega) (by omega), fun Z2 sz2 => ?_⟩
        rw [e6]
        refine ⟨L, _, _, rfl, rfl, sz2 _ _ lb2, by show 5 < sizeLine; decide, ?_⟩
        have sc2 := Same.over (sb2.trans sz2) nL (.lst ([.bl due, .bl due, .bl due, .bl due, .bl due] ++ [.bl due]))
        have lc2 : upd Z2 L (.lst ([.bl due, .bl due, .bl due, .bl due, .bl due] ++ [.bl due])) L = some (.lst [.bl due, .bl due, .bl due, .bl due, .bl due, .bl due]) := upd_same
        generalize upd Z2 L (.lst ([.bl due, .bl due, .bl due, .bl due, .bl due] ++ [.bl due])) = W2 at *
        obtain ⟨o1, o2, o3, o4⟩ := b6_ok due
        refine ⟨_, rfl, _, _, rfl, bls_at (bs := [due, due, due, due, due, due]) lc2, o1, o2, o3, o4, _, rfl, by show 1 ≤ sizeLine; decide, fun R hR => ⟨R, 6, _, rfl, rfl, upd_same, by decide, by decide, by show 1 * 6 ≤ sizeLine; decide, fun N hN => ?_⟩⟩
        have sR := (sc2.trans (Same.new (o := .lst [.bl due]) hR)).trans (Same.new (o := .lst (List.replicate (6 : Int).toNat [V.bl due]).flatten) hN)
        refine ⟨_, _, rfl, bls_at (bs := [due, due, due, due, due, due]) upd_same, o1, o2, o3, o4, rfl, _, rfl, ?_⟩
        rw [str_self]
        exact iteF ⟨_, _, _, _, _, rfl, gO.over_same sR⟩
      · rintro _ H3 ⟨v7, v8, v9, v10, v11, rfl, g3⟩
        exact ⟨_, _, _, _, _, _, rfl, g3⟩
    · rintro _ H2 ⟨v6, v7, v8, v9, v10, v11, rfl, g2⟩
      exact k _ (g1.trans g2)
def spLaw (K : PySem.W.Frag) : Sp := fun vs H Q _ => ∃ (a : Addr) (ns : List Int), vs = [.ref a] ∧ SqL K H a (ns.map V.int) ∧ ns.length ≤ 63 ∧ ∀ H', Q (.bl true) H'
theorem law_ok (T : Txt K mg aG dU) (c : GCls K C) (h_law_dice : Has P w K mg base CX0 "_law_dice" 1 ["_law_script", "_law_spot"] (spDice K)) (h_law_grid_plain : Has P w K mg base CX0 "_law_grid_plain" 3 ["_law_dice_here"] spPlain)
    (hGrid : HasC P w K mg base "Grid" C 1 ["self", "name"] (spInit C U)) (h_law_turns_right : Has P w K mg base CX0 "_law_turns_right" 6 ["_law_dice_here", "_law_plain", "_law_grid"] (spTurns C U)) (h_law_pairs_right : Has P w K mg base CX0 "_law_pairs_right" 6 ["_law_dice_here", "_law_plain", "_law_grid"] (spTurns C U))
    (hm_alternate : HasM P w K mg base CX0 C "alternate" 3 ["self", "ends", "others"] (spMAlt K C U))
    {f : Addr} {fd : FuncData} (F : Fun K "law" "law" s_law f fd) : FnG P w K mg base CX0 8 f fd ["_law_script"] (spLaw K) := by
  have c_alternate := c.cls
  refine F.g sc_law (fun vs H Q E h => ?_) (fun cdv A outer s H vs Q E gd hr h => ?_)
  · obtain ⟨a, ns, rfl, _⟩ := h
    rfl
  · obtain ⟨a, ns, rfl, hS, hl, k⟩ := h
    have hu := hr.units
    refine ⟨_, (pss_cons
 (ps_for PassesOwn.never rfl (pi_range1 (by exact rfl) T.zrange (pa_cons (pe_callB (call_max2 rfl) (by exact rfl) T.zmax (by decide +kernel) (pa_cons pe_int (pa_cons (pe_callB (call_min2 rfl) (by exact rfl) T.zmin (by decide +kernel) (pa_cons pe_int (pa_cons (pe_callB call_len_seq (by exact rfl) T.zlen PySem.boot_len (pa_cons (pv 0) pa_nil)) pa_nil))) pa_nil))) pa_nil)) (pg_name (i := 1) sc_law.nd rfl (Or.inl rfl)) (pss_cons
 (ps_set (i := 2) sc_law.nd rfl (Or.inl rfl) (pe_callH h_law_dice gd (hr.mono (by decide)) pass0 (pa_cons (pv 0) (pa_cons (pv 1) pa_nil))))
 (pss_cons
 (ps_set (i := 3) sc_law.nd rfl (Or.inl rfl) (pe_callH h_law_grid_plain gd (hr.mono (by decide)) pass0 (pa_cons (pv 2) pa_nil)))
 (pss_cons
 (ps_set (i := 4) sc_law.nd rfl (Or.inl rfl) (pe_makeH hGrid (hr.mono (by decide)) pass0 (pa_cons (pe_dget (Nat.lt_of_le_of_lt (Nat.add_le_add_left (by decide) _) hu) (pv 3) pe_str (fun _ _ => rfl)) pa_nil)))
 (pss_one
 (ps_for PassesOwn.never rfl (pi_range1 (by exact rfl) T.zrange (pa_cons pe_int pa_nil)) (pg_name (i := 5) sc_law.nd rfl (Or.inl rfl)) (pss_one
 (ps_if (PW.pt (pw_or (pt_not (pt_val (pe_callH h_law_turns_right gd (hr.mono (by decide)) pass0 (pa_cons (pv 2) (pa_cons (pv 3) (pa_cons (pv 4) pa_nil)))))) (pw_or1 (pt_not (pt_val (pe_callH h_law_pairs_right gd (hr.mono (by decide)) pass0 (pa_cons (pv 2) (pa_cons (pv 3) (pa_cons (pv 4) pa_nil))))))))) (pss_one
 (ps_ret pe_bl)) pss_nil))))))))
 (pss_cons
 (ps_par (i := 6) (j := 7) (by rfl) sc_law.nd rfl rfl (by decide) rfl rfl (pa_cons (pe_makeH hGrid (hr.mono (by decide)) pass0 (pa_cons pe_str pa_nil)) (pa_cons (pe_makeH hGrid (hr.mono (by decide)) pass0 (pa_cons pe_str pa_nil)) pa_nil)) (by rfl))
 (pss_cons
 (ps_set (i := 8) sc_law.nd rfl (Or.inl rfl) (pe_lst (pa_cons (pe_methH (pv 6) c_alternate hm_alternate gd (hr.mono (by decide)) pass0 (pa_cons (pe_tup (pa_cons pe_int (pa_cons pe_int pa_nil))) (pa_cons (pe_tup (pa_cons pe_int (pa_cons pe_int pa_nil))) pa_nil))) (pa_cons (pe_methH (pv 6) c_alternate hm_alternate gd (hr.mono (by decide)) pass0 (pa_cons (pe_tup (pa_cons pe_int (pa_cons pe_int pa_nil))) (pa_cons (pe_tup (pa_cons pe_int (pa_cons pe_int pa_nil))) pa_nil))) (pa_cons (pe_methH (pv 7) c_alternate hm_alternate gd (hr.mono (by decide)) pass0 (pa_cons (pe_tup (pa_cons pe_int (pa_cons pe_int pa_nil))) (pa_cons (pe_tup (pa_cons pe_int (pa_cons pe_int pa_nil))) pa_nil))) pa_nil)))))
 (pss_cons
 (ps_set (i := 8) sc_law.nd rfl (Or.inl rfl) (pe_op op_cat (pv 8) (pe_lst (pa_cons (pe_methH (pv 7) c_alternate hm_alternate gd (hr.mono (by decide)) pass0 (pa_cons (pe_tup (pa_cons pe_int (pa_cons pe_int pa_nil))) (pa_cons (pe_tup (pa_cons pe_int (pa_cons pe_int pa_nil))) pa_nil))) (pa_cons (pe_methH (pv 7) c_alternate hm_alternate gd (hr.mono (by decide)) pass0 (pa_cons (pe_tup (pa_cons pe_int (pa_cons pe_int pa_nil))) (pa_cons (pe_tup (pa_cons pe_int (pa_cons pe_int pa_nil))) pa_nil))) pa_nil)))))
 (pss_cons
 (ps_expr (pe_bm PySem.F.plainAttrs_list PySem.F.slot_list_append PySem.F.type_list_append mt_append (pv 8) (pa_cons (pe_methH (pv 6) c_alternate hm_alternate gd (hr.mono (by decide)) pass0 (pa_cons (pe_tup (pa_cons pe_int (pa_cons pe_int pa_nil))) (pa_cons (pe_tup (pa_cons pe_int (pa_cons pe_int pa_nil))) pa_nil))) pa_nil)))
 (pss_one
 (ps_ret (pe_cmpR (op_eqD hu) (pv 8) (pe_lst (pa_cons pe_bl (pa_cons pe_bl (pa_cons pe_bl (pa_cons pe_bl (pa_cons pe_bl (pa_cons pe_bl pa_nil))))))) (nomark _))))))))), ?_⟩
    refine ⟨_, rfl, _, _, rfl, .inl hS, _, _, rfl, _, _, rfl, ?_⟩
    generalize hz : (if (if ((ns.map V.int).length : Int) < 5 then ((ns.map V.int).length : Int) else 5) > 1 then (if ((ns.map V.int).length : Int) < 5 then ((ns.map V.int).length : Int) else 5) else 1) = z
    obtain ⟨z0, z5⟩ := few_of (k := 5) (by decide) z hz
    refine ⟨z, rfl, by omega, by omega, for_range (lo := 0) (n := z.toNat) (fun i σ' H' => ∃ v1 v2 v3 v4 v5 v6 v7 v8, σ' = [some (.ref a), v1, v2, v3, v4, v5, v6, v7, v8] ∧ SqL K H' a (ns.map V.int))
      ⟨none, none, none, none, none, none, none, none, rfl, hS⟩ ?_ ?_⟩
    · rintro i _ H0 hi ⟨v1, v2, v3, v4, v5, v6, v7, v8, rfl, hS0⟩
      refine ⟨_, rfl, _, rfl, a, ns, _, rfl, hS0, (by omega), fun p H1 np same die => ?_⟩
      refine ⟨_, rfl, p, rfl, die, fun q t H2 nq qp hq g2 => ?_⟩
      refine ⟨_, rfl, q, _, rfl, hq.get, fun x dx hx hdx ne => ⟨x, dx, t, rfl, upd_same, fun H3 hk hx3 => ⟨rfl, ?_⟩⟩⟩
      have s3 : Same H2 H3 := same_made hx hdx hk
      have g3 := g2.over_same s3
      have hq3 : PlainAt H3 q t := s3 _ _ hq
      have hg3 : GridAt C U H3 x t := ⟨dx, hx3⟩
      refine ⟨4, rfl, by decide, by decide, for_range (lo := 0) (n := 4) (fun j σ' H' => ∃ v5 v6 v7 v8, σ' = [some (.ref a), some (.int (0 + (i : Int))), some (.ref p), some (.ref q), some (.ref x), v5, v6, v7, v8] ∧ Got p H3 H') ⟨_, _, _, _, rfl, Got.same g3.die⟩ ?_ ?_⟩
      · rintro j _ H4 hj ⟨v5, v6, v7, v8, rfl, g4⟩
        refine ⟨_, rfl, _, rfl, _, rfl, p, q, x, t, rfl, g4.die, hq3.got g4 g3.die, hg3.got g4 g3.die, fun H5 g5 => ⟨true, rfl, iteF ?_⟩⟩
        refine ⟨_, rfl, _, rfl, _, rfl, p, q, x, t, rfl, g5.die, hq3.got (g4.trans g5) g3.die, hg3.got (g4.trans g5) g3.die, fun H6 g6 => ⟨true, rfl, iteF ?_⟩⟩
        exact ⟨_, _, _, _, rfl, (g4.trans g5).trans g6⟩
      · rintro _ H4 ⟨v5, v6, v7, v8, rfl, g4⟩
        exact ⟨_, _, _, _, _, _, _, _, rfl, seq_got hS0 np same (g3.trans g4)⟩
    · rintro _ H0 ⟨v1, v2, v3, v4, v5, v6, v7, v8, rfl, hS0⟩
      refine fun x dx hx hdx ne => ⟨x, dx, false, rfl, upd_same, fun H1 hk1 e1 => ⟨rfl, fun y dy hy hdy ney => ⟨y, dy, true, rfl, upd_same, fun H2 hk2 e2 => ⟨rfl, _, _, rfl, ?_⟩⟩⟩⟩
      have ex : H2 x = some (.ins C dx (gF U false)) := same_made hy hdy hk2 _ _ e1
      have sh9 : ∀ z : Int, z.natAbs ≤ 20 → isIntV (.int z) = true := fun z h => short_of (Nat.le_trans h (by decide))
      have ok2 : ∀ z w : Int, z.natAbs ≤ 20 → w.natAbs ≤ 20 → ptOk (z, w) := fun z w h1 h2 => ⟨sh9 z h1, sh9 w h2⟩
      have a1 : alt false (0, 2) (1, 3) = true := by decide +kernel
      have a2 : alt false (0, 1) (2, 3) = false := by decide +kernel
      have a3 : alt true (0, 2) (1, 3) = true := by decide +kernel
      have a4 : alt true (0, 2) (3, 5) = false := by decide +kernel
      have a5 : alt true (0, 3) (1, 5) = true := by decide +kernel
      have a6 : alt false (0, 0) (1, 3) = false := by decide +kernel
      have s0 : Same H2 H2 := Same.refl _
      refine ⟨_, rfl, x, dx, _, rfl, s0 _ _ ex, (by unfold gF; rfl), by show 2 ≤ sizeLine; decide, fun A0 ha0 => ?_⟩
      have pA0 : PAt K (upd H2 A0 (.tup [.int 0, .int 2])) A0 (0, 2) := PAt.of upd_same
      have sa0 := s0.trans (Same.new (o := .tup [.int 0, .int 2]) ha0)
      generalize upd H2 A0 (.tup [.int 0, .int 2]) = X0 at *
      refine ⟨by show 2 ≤ sizeLine; decide, fun B0 hb0 => ?_⟩
      have pB0 : PAt K (upd X0 B0 (.tup [.int 1, .int 3])) B0 (1, 3) := PAt.of upd_same
      have pA0' := pA0.same (Same.new (o := .tup [.int 1, .int 3]) hb0)
      have sb0 := sa0.trans (Same.new (o := .tup [.int 1, .int 3]) hb0)
      generalize upd X0 B0 (.tup [.int 1, .int 3]) = Y0 at *
      refine ⟨x, false, A0, B0, (0, 2), (1, 3), rfl, ⟨dx, sb0 _ _ ex⟩, pA0', pB0, ok2 _ _ (by decide) (by decide), ok2 _ _ (by decide) (by decide), fun Z0 sz0 => ?_⟩
      rw [a1]
      have sd0 := sb0.trans sz0
      refine ⟨_, rfl, x, dx, _, rfl, sd0 _ _ ex, (by unfold gF; rfl), by show 2 ≤ sizeLine; decide, fun A1 ha1 => ?_⟩
      have pA1 : PAt K (upd Z0 A1 (.tup [.int 0, .int 1])) A1 (0, 1) := PAt.of upd_same
      have sa1 := sd0.trans (Same.new (o := .tup [.int 0, .int 1]) ha1)
      generalize upd Z0 A1 (.tup [.int 0, .int 1]) = X1 at *
      refine ⟨by show 2 ≤ sizeLine; decide, fun B1 hb1 => ?_⟩
      have pB1 : PAt K (upd X1 B1 (.tup [.int 2, .int 3])) B1 (2, 3) := PAt.of upd_same
      have pA1' := pA1.same (Same.new (o := .tup [.int 2, .int 3]) hb1)
      have sb1 := sa1.trans (Same.new (o := .tup [.int 2, .int 3]) hb1)
      generalize upd X1 B1 (.tup [.int 2, .int 3]) = Y1 at *
      refine ⟨x, false, A1, B1, (0, 1), (2, 3), rfl, ⟨dx, sb1 _ _ ex⟩, pA1', pB1, ok2 _ _ (by decide) (by decide), ok2 _ _ (by decide) (by decide), fun Z1 sz1 => ?_⟩
      rw [a2]
      have sd1 := sb1.trans sz1
      refine ⟨_, rfl, y, dy, _, rfl, sd1 _ _ e2, (by unfold gF; rfl), by show 2 ≤ sizeLine; decide, fun A2 ha2 => ?_⟩
      have pA2 : PAt K (upd Z1 A2 (.tup [.int 0, .int 2])) A2 (0, 2) := PAt.of upd_same
      have sa2 := sd1.trans (Same.new (o := .tup [.int 0, .int 2]) ha2)
      generalize upd Z1 A2 (.tup [.int 0, .int 2]) = X2 at *
      refine ⟨by show 2 ≤ sizeLine; decide, fun B2 hb2 => ?_⟩
      have pB2 : PAt K (upd X2 B2 (.tup [.int 1, .int 3])) B2 (1, 3) := PAt.of upd_same
      have pA2' := pA2.same (Same.new (o := .tup [.int 1, .int 3]) hb2)
      have sb2 := sa2.trans (Same.new (o := .tup [.int 1, .int 3]) hb2)
      generalize upd X2 B2 (.tup [.int 1, .int 3]) = Y2 at *
      refine ⟨y, true, A2, B2, (0, 2), (1, 3), rfl, ⟨dy, sb2 _ _ e2⟩, pA2', pB2, ok2 _ _ (by decide) (by decide), ok2 _ _ (by decide) (by decide), fun Z2 sz2 => ?_⟩
      rw [a3]
      have sd2 := sb2.trans sz2
      refine ⟨by show 3 ≤ sizeLine; decide, fun L hL => ?_⟩
      have sL := sd2.trans (Same.new (o := .lst [.bl true, .bl false, .bl true]) hL)
      have l0 : upd Z2 L (.lst [.bl true, .bl false, .bl true]) L = some (.lst [.bl true, .bl false, .bl true]) := upd_same
      generalize upd Z2 L (.lst [.bl true, .bl false, .bl true]) = HL at *
      refine ⟨_, rfl, _, rfl, y, dy, _, rfl, sL _ _ e2, (by unfold gF; rfl), by show 2 ≤ sizeLine; decide, fun A3 ha3 => ?_⟩
      have pA3 : PAt K (upd HL A3 (.tup [.int 0, .int 2])) A3 (0, 2) := PAt.of upd_same
      have sa3 := sL.trans (Same.new (o := .tup [.int 0, .int 2]) ha3)
      have la3 := new_keep (u := .tup [.int 0, .int 2]) l0 ha3
      generalize upd HL A3 (.tup [.int 0, .int 2]) = X3 at *
      refine ⟨by show 2 ≤ sizeLine; decide, fun B3 hb3 => ?_⟩
      have pB3 : PAt K (upd X3 B3 (.tup [.int 3, .int 5])) B3 (3, 5) := PAt.of upd_same
      have pA3' := pA3.same (Same.new (o := .tup [.int 3, .int 5]) hb3)
      have sb3 := sa3.trans (Same.new (o := .tup [.int 3, .int 5]) hb3)
      have lb3 := new_keep (u := .tup [.int 3, .int 5]) la3 hb3
      generalize upd X3 B3 (.tup [.int 3, .int 5]) = Y3 at *
      refine ⟨y, true, A3, B3, (0, 2), (3, 5), rfl, ⟨dy, sb3 _ _ e2⟩, pA3', pB3, ok2 _ _ (by decide) (by decide), ok2 _ _ (by decide) (by decide), fun Z3 sz3 => ?_⟩
      rw [a4]
      have sd3 := sb3.trans sz3
      have lz3 := sz3 _ _ lb3
      refine ⟨_, rfl, y, dy, _, rfl, sd3 _ _ e2, (by unfold gF; rfl), by show 2 ≤ sizeLine; decide, fun A4 ha4 => ?_⟩
      have pA4 : PAt K (upd Z3 A4 (.tup [.int 0, .int 3])) A4 (0, 3) := PAt.of upd_same
      have sa4 := sd3.trans (Same.new (o := .tup [.int 0, .int 3]) ha4)
      have la4 := new_keep (u := .tup [.int 0, .int 3]) lz3 ha4
      generalize upd Z3 A4 (.tup [.int 0, .int 3]) = X4 at *
      refine ⟨by show 2 ≤ sizeLine; decide, fun B4 hb4 => ?_⟩
      have pB4 : PAt K (upd X4 B4 (.tup [.int 1, .int 5])) B4 (1, 5) := PAt.of upd_same
      have pA4' := pA4.same (Same.new (o := .tup [.int 1, .int 5]) hb4)
      have sb4 := sa4.trans (Same.new (o := .tup [.int 1, .int 5]) hb4)
      have lb4 := new_keep (u := .tup [.int 1, .int 5]) la4 hb4
      generalize upd X4 B4 (.tup [.int 1, .int 5]) = Y4 at *
      refine ⟨y, true, A4, B4, (0, 3), (1, 5), rfl, ⟨dy, sb4 _ _ e2⟩, pA4', pB4, ok2 _ _ (by decide) (by decide), ok2 _ _ (by decide) (by decide), fun Z4 sz4 => ?_⟩
      rw [a5]
      have sd4 := sb4.trans sz4
      have lz4 := sz4 _ _ lb4
      refine ⟨by show 2 ≤ sizeLine; decide, fun M hM => ?_⟩
      have lM := new_keep (u := .lst [.bl false, .bl true]) lz4 hM
      have eM : upd Z4 M (.lst [.bl false, .bl true]) M = some (.lst [.bl false, .bl true]) := upd_same
      have sM := sd4.trans (Same.new (o := .lst [.bl false, .bl true]) hM)
      generalize upd Z4 M (.lst [.bl false, .bl true]) = HM at *
      refine ⟨L, M, _, _, rfl, rfl, lM, eM, by show 3 + 2 ≤ sizeLine; decide, fun N hN => ?_⟩
      have sN := sM.trans (Same.new (o := .lst ([.bl true, .bl false, .bl true] ++ [.bl false, .bl true])) hN)
      have eN : upd HM N (.lst ([.bl true, .bl false, .bl true] ++ [.bl false, .bl true])) N = some (.lst [.bl true, .bl false, .bl true, .bl false, .bl true]) := upd_same
      generalize upd HM N (.lst ([.bl true, .bl false, .bl true] ++ [.bl false, .bl true])) = HN at *
      refine ⟨_, rfl, .inl ⟨rfl, _, SqL.of eN⟩, _, rfl, x, dx, _, rfl, sN _ _ ex, (by unfold gF; rfl), by show 2 ≤ sizeLine; decide, fun A5 ha5 => ?_⟩
      have pA5 : PAt K (upd HN A5 (.tup [.int 0, .int 0])) A5 (0, 0) := PAt.of upd_same
      have sa5 := sN.trans (Same.new (o := .tup [.int 0, .int 0]) ha5)
      have na5 := new_keep (u := .tup [.int 0, .int 0]) eN ha5
      generalize upd HN A5 (.tup [.int 0, .int 0]) = X5 at *
      refine ⟨by show 2 ≤ sizeLine; decide, fun B5 hb5 => ?_⟩
      have pB5 : PAt K (upd X5 B5 (.tup [.int 1, .int 3])) B5 (1, 3) := PAt.of upd_same
      have pA5' := pA5.same (Same.new (o := .tup [.int 1, .int 3]) hb5)
      have sb5 := sa5.trans (Same.new (o := .tup [.int 1, .int 3]) hb5)
      have nb5 := new_keep (u := .tup [.int 1, .int 3]) na5 hb5
      generalize upd X5 B5 (.tup [.int 1, .int 3]) = Y5 at *
      refine ⟨x, false, A5, B5, (0, 0), (1, 3), rfl, ⟨dx, sb5 _ _ ex⟩, pA5', pB5, ok2 _ _ (by decide) (by decide), ok2 _ _ (by decide) (by decide), fun Z5 sz5 => ?_⟩
      rw [a6]
      have sd5 := sb5.trans sz5
      have nz5 := sz5 _ _ nb5
      refine ⟨N, _, _, rfl, rfl, nz5, by show 5 < sizeLine; decide, ?_⟩
      refine ⟨_, rfl, by show 6 ≤ sizeLine; decide, fun R hR => ?_⟩
      refine ⟨bls [true, false, true, false, true, false], bls [true, false, true, false, true, false], bls_at (bs := [true, false, true, false, true, false]) (new_keep upd_same hR), bls_at (bs := [true, false, true, false, true, false]) upd_same, by decide +kernel, by decide +kernel, ?_⟩
      rw [bls_eqv]
      exact k _
end
theorem all_mk {P : Program} {w : World} {K : PySem.W.Frag} {h : Heap} {mg : Str → Option Value} {fa : Addr} {aG dU C aS aT s0 s1 s2 s3 t0 t1 t2 t3 t4 t5 : Addr} (X : K.In h) (G : h.Ns mainGlobals mg) (hfa : mg "law" = some (.ref fa))
    (z0 : PySem.W.nsIn K mainGlobals "isinstance" = some none)
    (z1 : PySem.W.nsIn K mainGlobals "bool" = some none)
    (z2 : PySem.W.nsIn K mainGlobals "int" = some none)
    (z3 : PySem.W.nsIn K mainGlobals "tuple" = some none)
    (z4 : PySem.W.nsIn K mainGlobals "len" = some none)
    (z5 : PySem.W.nsIn K mainGlobals "set" = some none)
    (z6 : PySem.W.nsIn K mainGlobals "max" = some none)
    (z7 : PySem.W.nsIn K mainGlobals "min" = some none)
    (z8 : PySem.W.nsIn K mainGlobals "abs" = some none)
    (z9 : PySem.W.nsIn K mainGlobals "range" = some none)
    (z10 : PySem.W.nsIn K mainGlobals "repr" = some none)
    (gG : PySem.W.nsIn K mainGlobals "GRIDS" = some (some (.ref aG))) (gU : PySem.W.nsIn K mainGlobals "_UNITS" = some (some (.ref dU))) (gC : PySem.W.nsIn K mainGlobals "Grid" = some (some (.ref C))) (c : GCls K C)
    (tg : TupK K aG [.str "square", .str "triangle"]) (kS : KDct K w dU "square" (.ref aS)) (kT : KDct K w dU "triangle" (.ref aT)) (tS : TupK K aS [.ref s0, .ref s1, .ref s2, .ref s3]) (tT : TupK K aT [.ref t0, .ref t1, .ref t2, .ref t3, .ref t4, .ref t5])
    (p0 : TupK K s0 [.int 1, .int 0]) (p1 : TupK K s1 [.int 0, .int 1]) (p2 : TupK K s2 [.int (-1), .int 0]) (p3 : TupK K s3 [.int 0, .int (-1)])
    (q0 : TupK K t0 [.int 1, .int 0]) (q1 : TupK K t1 [.int 0, .int 1]) (q2 : TupK K t2 [.int (-1), .int 1]) (q3 : TupK K t3 [.int (-1), .int 0]) (q4 : TupK K t4 [.int 0, .int (-1)]) (q5 : TupK K t5 [.int 1, .int (-1)])
    (di : Dc K C "Grid.__init__" s_Grid_WinitW)
    (m0 : Dm K C "unit" "Grid.unit" s_Grid_unit)
    (m1 : Dm K C "norm_of" "Grid.norm_of" s_Grid_norm_of)
    (m2 : Dm K C "conjugate_of" "Grid.conjugate_of" s_Grid_conjugate_of)
    (m3 : Dm K C "turned" "Grid.turned" s_Grid_turned)
    (m4 : Dm K C "alternate" "Grid.alternate" s_Grid_alternate)
    (m5 : Dm K C "__len__" "Grid.__len__" s_Grid_WlenW)
    (g0 : ∃ u, PySem.W.nsIn K mainGlobals "_BOUND" = some (some u) ∧ RelV (.int B) u)
    (d0 : Df K mg "is_integer" s_is_integer)
    (d1 : Df K mg "is_point" s_is_point)
    (d2 : Df K mg "times" s_times)
    (d3 : Df K mg "norm_in" s_norm_in)
    (d4 : Df K mg "flipped" s_flipped)
    (d5 : Df K mg "turned_by" s_turned_by)
    (d6 : Df K mg "_check_point" s__check_point)
    (d7 : Df K mg "_check_number" s__check_number)
    (d8 : Df K mg "_law_dice" s__law_dice)
    (d9 : Df K mg "_law_roll" s__law_roll)
    (d10 : Df K mg "_law_pick" s__law_pick)
    (d11 : Df K mg "_law_around" s__law_around)
    (d12 : Df K mg "_law_unit" s__law_unit)
    (d13 : Df K mg "_law_times" s__law_times)
    (d14 : Df K mg "_law_limit" s__law_limit)
    (d15 : Df K mg "_law_part" s__law_part)
    (d16 : Df K mg "_law_grid_plain" s__law_grid_plain)
    (d17 : Df K mg "_law_spun" s__law_spun)
    (d18 : Df K mg "_law_do_alternate" s__law_do_alternate)
    (d19 : Df K mg "_law_turns_right" s__law_turns_right)
    (d20 : Df K mg "_law_pairs_right" s__law_pairs_right)
    (d21 : Df K mg "law" s_law)
    (d22 : Df K mg "take_turns" s_take_turns)
    : ∃ fd : FuncData, (∀ (s : Shared) (u : Value), BindsTo s fd ⟨[u], []⟩ [("_law_script", u)]) ∧ ∀ base : Heap, K.In base → base.Ns mainGlobals mg → FnG P w K mg base CX0 8 fa fd ["_law_script"] (spLaw K) := by
  have T : Txt K mg aG dU := ⟨PySem.W.mg_none_of X G z0, PySem.W.mg_none_of X G z1, PySem.W.mg_none_of X G z2, PySem.W.mg_none_of X G z3, PySem.W.mg_none_of X G z4, PySem.W.mg_none_of X G z5, PySem.W.mg_none_of X G z6, PySem.W.mg_none_of X G z7, PySem.W.mg_none_of X G z8, PySem.W.mg_none_of X G z9, PySem.W.mg_none_of X G z10, (let ⟨u, a, r⟩ := g0; ⟨u, PySem.W.mg_of X G a, r⟩), ⟨_, PySem.W.mg_of X G gG, rfl⟩, ⟨_, PySem.W.mg_of X G gU, rfl⟩⟩
  have hU := uni_mk (w := w) tg kS kT tS tT p0 p1 p2 p3 q0 q1 q2 q3 q4 q5
  refine Df.law d21 hfa (fun base kin hns f fd F => ?_) (fun _ _ _ _ _ _ u => rfl)
  have hi := h_is_integer (P := P) (w := w) (base := base) T d0
  have hpt := h_is_point T d1 hi
  have htimes := h_times (P := P) (w := w) (base := base) (U := fun t => cond t aT aS) c d2
  have hnorm := h_norm_in (P := P) (w := w) (base := base) (U := fun t => cond t aT aS) c d3
  have hflip := h_flipped (P := P) (w := w) (base := base) (U := fun t => cond t aT aS) c d4
  have hturn := h_turned_by c hU T d5 htimes
  have hcp := h_check_point d6 hpt
  have hcn := h_check_number d7 hi
  have hdice := h_law_dice (P := P) (w := w) (base := base) T d8
  have hroll := h_law_roll (P := P) (w := w) (base := base) T d9
  have hpick := h_law_pick T d10 hroll
  have haround := h_law_around (P := P) (w := w) (base := base) d11
  have hunit := h_law_unit (P := P) (w := w) (base := base) d12
  have hltimes := h_law_times (P := P) (w := w) (base := base) d13
  have hlim := h_law_limit (P := P) (w := w) (base := base) d14
  have hpart := h_law_part d15 hlim hroll hpick
  have hplain := h_law_grid_plain d16 hpick
  have hspun := h_law_spun d17 haround hunit hltimes
  have hdo := h_law_do_alternate (P := P) (w := w) (base := base) T d18
  have mGrid := h_init (P := P) (w := w) (base := base) T hU c di (PySem.W.mg_of X G gC)
  have mu := h_unit c hU T m0 hcn
  have mn := h_norm_of c m1 hcp hnorm
  have mc := h_conjugate_of c m2 hcp hflip
  have mt := h_turned c m3 hcp hcn hturn
  have htt := h_take_turns (P := P) (w := w) (base := base) d22
  have ma := h_alternate c hU T m4 hpt htt
  have ml := h_len (P := P) (w := w) (base := base) c hU T m5
  have htr := h_law_turns_right c T hroll hpart hspun mt mn mc mu ml d19
  have hpr := h_law_pairs_right c T hroll hpart haround ma hdo d20
  exact law_ok T c hdice hplain mGrid htr hpr ma F
end K05

open PySem PySem.W PyProof.Rows in
set_option maxRecDepth 100000 in
set_option maxHeartbeats 0 in
theorem PySem.Challenge.cw_grownlines_k05_whole_turns_around_points_holds : PySem.Challenge.rw_grownlines_k05_whole_turns_around_points.Holds := by
  w_on; o_law; k_head; (case hw => w_witness2)
  k_fill
  refine GL.walk_to (l := PySem.Challenge.rw_grownlines_k05_whole_turns_around_points) (n := 63) (k := 8) (sp := K05.spLaw) (x := "_law_script") rfl (by decide) rfl ⟨rfl, by decide, by decide⟩ (fun w h Y => PySem.W.kIn_of Y) ?F (fun K H a ns hl hS => ⟨a, ns, rfl, hS, hl, fun _ => rfl⟩)
  case F =>
    intro w mg fa h KX G hmg
    refine' K05.all_mk KX G hmg ?zz0 ?zz1 ?zz2 ?zz3 ?zz4 ?zz5 ?zz6 ?zz7 ?zz8 ?zz9 ?zz10 ?nG ?nU ?nC ?cc ?tg ?kS ?kT ?tS ?tT ?ps0 ?ps1 ?ps2 ?ps3 ?qs0 ?qs1 ?qs2 ?qs3 ?qs4 ?qs5 ?di ?mm0 ?mm1 ?mm2 ?mm3 ?mm4 ?mm5 ?gg0 ?dd0 ?dd1 ?dd2 ?dd3 ?dd4 ?dd5 ?dd6 ?dd7 ?dd8 ?dd9 ?dd10 ?dd11 ?dd12 ?dd13 ?dd14 ?dd15 ?dd16 ?dd17 ?dd18 ?dd19 ?dd20 ?dd21 ?dd22
    (case zz0 => k_is)
    (case zz1 => k_is)
    (case zz2 => k_is)
    (case zz3 => k_is)
    (case zz4 => k_is)
    (case zz5 => k_is)
    (case zz6 => k_is)
    (case zz7 => k_is)
    (case zz8 => k_is)
    (case zz9 => k_is)
    (case zz10 => k_is)
    (case nG => k_is)
    (case nU => k_is)
    (case nC => k_is)
    (case cc => exact ⟨⟨by k_is, by k_is, by k_is, by k_is⟩, (show PySem.W.findIn _ _ _ = some none by k_is), (show PySem.W.findIn _ _ _ = some none by k_is), (show PySem.W.findIn _ _ _ = some none by k_is), (show PySem.W.findIn _ _ _ = some none by k_is)⟩)
    (case tg => exact ⟨_, _, _, by k_is, rfl, rfl, by decide, (.cons ⟨_, rfl⟩ (.cons ⟨_, rfl⟩ .nil))⟩)
    (case kS => refine' GL.kdct_mk ?kl ?kn ?kk; (case kl => k_is); (case kn => k_is); (case kk => exact ⟨⟨_, _, rfl, rfl⟩, ⟨_, _, rfl, rfl⟩, True.intro⟩))
    (case kT => refine' GL.kdct_mk ?kl ?kn ?kk; (case kl => k_is); (case kn => k_is); (case kk => exact ⟨⟨_, _, rfl, rfl⟩, ⟨_, _, rfl, rfl⟩, True.intro⟩))
    (case tS => exact ⟨_, _, _, by k_is, rfl, rfl, by decide, (.cons rfl (.cons rfl (.cons rfl (.cons rfl .nil))))⟩)
    (case tT => exact ⟨_, _, _, by k_is, rfl, rfl, by decide, (.cons rfl (.cons rfl (.cons rfl (.cons rfl (.cons rfl (.cons rfl .nil))))))⟩)
    (case ps0 => exact ⟨_, _, _, by k_is, rfl, rfl, by decide, (.cons ⟨_, rfl⟩ (.cons ⟨_, rfl⟩ .nil))⟩)
    (case ps1 => exact ⟨_, _, _, by k_is, rfl, rfl, by decide, (.cons ⟨_, rfl⟩ (.cons ⟨_, rfl⟩ .nil))⟩)
    (case ps2 => exact ⟨_, _, _, by k_is, rfl, rfl, by decide, (.cons ⟨_, rfl⟩ (.cons ⟨_, rfl⟩ .nil))⟩)
    (case ps3 => exact ⟨_, _, _, by k_is, rfl, rfl, by decide, (.cons ⟨_, rfl⟩ (.cons ⟨_, rfl⟩ .nil))⟩)
    (case qs0 => exact ⟨_, _, _, by k_is, rfl, rfl, by decide, (.cons ⟨_, rfl⟩ (.cons ⟨_, rfl⟩ .nil))⟩)
    (case qs1 => exact ⟨_, _, _, by k_is, rfl, rfl, by decide, (.cons ⟨_, rfl⟩ (.cons ⟨_, rfl⟩ .nil))⟩)
    (case qs2 => exact ⟨_, _, _, by k_is, rfl, rfl, by decide, (.cons ⟨_, rfl⟩ (.cons ⟨_, rfl⟩ .nil))⟩)
    (case qs3 => exact ⟨_, _, _, by k_is, rfl, rfl, by decide, (.cons ⟨_, rfl⟩ (.cons ⟨_, rfl⟩ .nil))⟩)
    (case qs4 => exact ⟨_, _, _, by k_is, rfl, rfl, by decide, (.cons ⟨_, rfl⟩ (.cons ⟨_, rfl⟩ .nil))⟩)
    (case qs5 => exact ⟨_, _, _, by k_is, rfl, rfl, by decide, (.cons ⟨_, rfl⟩ (.cons ⟨_, rfl⟩ .nil))⟩)
    (case di => refine' GL.dc_mk ?a ?i ?l ?c ?k ?mk ?kc; (case a => k_is); (case i => k_is); (case l => k_is); (case c => k_is); (case k => k_is); (case mk => k_is); (case kc => k_is))
    (case mm0 => refine' GL.dm_mk ?a ?i ?l ?c ?k; (case a => k_is); (case i => k_is); (case l => k_is); (case c => k_is); (case k => k_is))
    (case mm1 => refine' GL.dm_mk ?a ?i ?l ?c ?k; (case a => k_is); (case i => k_is); (case l => k_is); (case c => k_is); (case k => k_is))
    (case mm2 => refine' GL.dm_mk ?a ?i ?l ?c ?k; (case a => k_is); (case i => k_is); (case l => k_is); (case c => k_is); (case k => k_is))
    (case mm3 => refine' GL.dm_mk ?a ?i ?l ?c ?k; (case a => k_is); (case i => k_is); (case l => k_is); (case c => k_is); (case k => k_is))
    (case mm4 => refine' GL.dm_mk ?a ?i ?l ?c ?k; (case a => k_is); (case i => k_is); (case l => k_is); (case c => k_is); (case k => k_is))
    (case mm5 => refine' GL.dm_mk ?a ?i ?l ?c ?k; (case a => k_is); (case i => k_is); (case l => k_is); (case c => k_is); (case k => k_is))
    (case gg0 => exact ⟨_, by k_is, ⟨_, by rw [GL.B_eq]; rfl⟩⟩)
    (case dd0 => refine' GL.df_mk KX G ?a ?l ?c ?k; (case a => k_is); (case l => k_is); (case c => k_is); (case k => k_is))
    (case dd1 => refine' GL.df_mk KX G ?a ?l ?c ?k; (case a => k_is); (case l => k_is); (case c => k_is); (case k => k_is))
    (case dd2 => refine' GL.df_mk KX G ?a ?l ?c ?k; (case a => k_is); (case l => k_is); (case c => k_is); (case k => k_is))
    (case dd3 => refine' GL.df_mk KX G ?a ?l ?c ?k; (case a => k_is); (case l => k_is); (case c => k_is); (case k => k_is))
    (case dd4 => refine' GL.df_mk KX G ?a ?l ?c ?k; (case a => k_is); (case l => k_is); (case c => k_is); (case k => k_is))
    (case dd5 => refine' GL.df_mk KX G ?a ?l ?c ?k; (case a => k_is); (case l => k_is); (case c => k_is); (case k => k_is))
    (case dd6 => refine' GL.df_mk KX G ?a ?l ?c ?k; (case a => k_is); (case l => k_is); (case c => k_is); (case k => k_is))
    (case dd7 => refine' GL.df_mk KX G ?a ?l ?c ?k; (case a => k_is); (case l => k_is); (case c => k_is); (case k => k_is))
    (case dd8 => refine' GL.df_mk KX G ?a ?l ?c ?k; (case a => k_is); (case l => k_is); (case c => k_is); (case k => k_is))
    (case dd9 => refine' GL.df_mk KX G ?a ?l ?c ?k; (case a => k_is); (case l => k_is); (case c => k_is); (case k => k_is))
    (case dd10 => refine' GL.df_mk KX G ?a ?l ?c ?k; (case a => k_is); (case l => k_is); (case c => k_is); (case k => k_is))
    (case dd11 => refine' GL.df_mk KX G ?a ?l ?c ?k; (case a => k_is); (case l => k_is); (case c => k_is); (case k => k_is))
    (case dd12 => refine' GL.df_mk KX G ?a ?l ?c ?k; (case a => k_is); (case l => k_is); (case c => k_is); (case k => k_is))
    (case dd13 => refine' GL.df_mk KX G ?a ?l ?c ?k; (case a => k_is); (case l => k_is); (case c => k_is); (case k => k_is))
    (case dd14 => refine' GL.df_mk KX G ?a ?l ?c ?k; (case a => k_is); (case l => k_is); (case c => k_is); (case k => k_is))
    (case dd15 => refine' GL.df_mk KX G ?a ?l ?c ?k; (case a => k_is); (case l => k_is); (case c => k_is); (case k => k_is))
    (case dd16 => refine' GL.df_mk KX G ?a ?l ?c ?k; (case a => k_is); (case l => k_is); (case c => k_is); (case k => k_is))
    (case dd17 => refine' GL.df_mk KX G ?a ?l ?c ?k; (case a => k_is); (case l => k_is); (case c => k_is); (case k => k_is))
    (case dd18 => refine' GL.df_mk KX G ?a ?l ?c ?k; (case a => k_is); (case l => k_is); (case c => k_is); (case k => k_is))
    (case dd19 => refine' GL.df_mk KX G ?a ?l ?c ?k; (case a => k_is); (case l => k_is); (case c => k_is); (case k => k_is))
    (case dd20 => refine' GL.df_mk KX G ?a ?l ?c ?k; (case a => k_is); (case l => k_is); (case c => k_is); (case k => k_is))
    (case dd21 => refine' GL.df_mk KX G ?a ?l ?c ?k; (case a => k_is); (case l => k_is); (case c => k_is); (case k => k_is))
    (case dd22 => refine' GL.df_mk KX G ?a ?l ?c ?k; (case a => k_is); (case l => k_is); (case c => k_is); (case k => k_is))
