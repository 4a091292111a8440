import PyProof.Rows.All
import Wide.All
import OpenK.AllK
import Wide.FinOn
import HandS.ForMost
import HandS.IsInst
import HandS.Wide
import HandS.Style
import HandS.TupLe
import HandS.TupAny
import HandS.Walk
import HandS.Evl
import PySem.Challenge.RW_grownlines_k00_integers_and_letters
set_option Elab.async false
set_option linter.all false
set_option maxRecDepth 100000
set_option exponentiation.threshold 3000
/-! Promises of defs that are called where nothing is being shown (repr asks it). -/
namespace GL
open PySem PySem.Spec PyProof.Rows L2

def Gd (A : Around) : Prop := A.guards = some []
structure FnG (P : Program) (w : World) (K : PySem.W.Frag) (mg : Str → Option Value) (base : Heap) (CX : CXT) (k : Nat) (f : Addr) (fd : FuncData) (ps : List Str) (sp : Sp) : Prop where
  len : ∀ vs H Q E, sp vs H Q E → vs.length = ps.length
  go : ∀ {A : Around} {outer : List Env} {s : Shared} {H : Hp} {args : Args} {us : List Value} {vs : List V} {Q : VK} {E : XK}, Gd A → Room k A → Env0 P w K mg base A outer s H →
    BindsTo s fd args (ps.zip us) → Vals vs us → sp vs H Q E → codeAny (model P w) A (.call (.ref f) args) (CR CX outer P w H s Q E) s
section
variable {P : Program} {w : World} {K : PySem.W.Frag} {mg : Str → Option Value} {base : Heap} {CX : CXT} {k : Nat} {f : Addr} {fd : FuncData} {ps N : List Str} {sp : Sp} {x qual : Str} {st : Stmt}
theorem FnG.of (F : FnOk P w K mg base CX k f fd ps sp) : FnG P w K mg base CX k f fd ps sp :=
  ⟨F.len, fun {A outer s H args us vs Q E} _ r e b v q => F.run A outer s H args us vs Q E r e b v q⟩
theorem FnG.up {j : Nat} (F : FnG P w K mg base CX j f fd ps sp) (h : j ≤ k) : FnG P w K mg base CX k f fd ps sp :=
  ⟨F.len, fun g r => F.go g (r.mono h)⟩
theorem fnG_mk (F : Fun K x qual st f fd) (S : FnScope N ps (defScope st)) (len : ∀ vs H Q E, sp vs H Q E → vs.length = ps.length)
    (body : ∀ (cdv : Value) (A : Around) (outer : List Env) (s : Shared) (H : Hp) (vs : List V) (Q : VK) (E : XK), Gd A → Room k (A.deeper (envOfC qual (defScope st) s.heap.objs.size f cdv)) → sp vs H Q E →
      ∃ t, PSs (cxOf CX P w K mg base N qual (defScope st) f cdv A outer s H E) (defBody st) t ∧ t { nx := fun _ H' => Q .non H', rt := Q } (start N vs) H) :
    FnG P w K mg base CX (k + 1) f fd ps sp := by
  obtain ⟨oc, od, kV, doc, pm, an, cdv, ct, osl, eF, at_, cR⟩ := F.ex
  subst eF
  constructor
  · exact len
  intro A outer s H args us vs Q E g room e0 bi vals asked
  have inK : K.In s.heap := e0.mod.kin.keeps (fun b o q => (e0.bs b o q).1)
  have line : s.heap.NoLimit := e0.mod.nolimit.keeps (fun b o q => (e0.bs b o q).1)
  have kinds : ∀ y ∈ ps.zip us, (defScope st).names.lookup y.1 = some .local ∨ ((defScope st).names.lookup y.1 = some .cell ∧ ((cellsFrom (s.heap.objs.size + 1) (defScope st).names []).lookup y.1).isSome = true) := by
    intro ⟨n, v⟩ hy
    cases S.par n (List.of_mem_zip hy).1 with
    | inl q => exact Or.inl q
    | inr q => exact Or.inr ⟨q, PySem.W.cellsFrom_some _ _ _ (Or.inl q)⟩
  apply codeAny_call_function room.depth (inK _ _ at_) rfl S.co S.gen rfl (PySem.W.codeRec_of inK cR)
  apply bi
  refine wpAny_newFunctionEnv_cells S.kind kinds (fun env eE s1 x1 => ?_)
  subst eE
  obtain ⟨t, rule, q⟩ := body cdv A outer s H vs Q E g (room.deeper _) asked
  have I0 := inv_start (CX := CX) (E := E) S room.hd e0 (len _ _ _ _ asked) vals x1
  refine ⟨line.keeps x1.toInCall.keep, codeAny_func (wpAny_mono (rule.run [] s1 _ H _ I0 q) (fun fl s' done => ?_) (fun _ _ z => z))⟩
  cases fl with
  | ret u => obtain ⟨v, _, H', J, rv, qv⟩ := done; exact ⟨v, H', J.os, J.bare, J.base, J.hok, rv, qv⟩
  | next => obtain ⟨_, H', J, qv⟩ := done; exact ⟨V.non, H', J.os, J.bare, J.base, J.hok, rfl, qv⟩
  | brk => obtain ⟨_, _, _, z⟩ := done; exact z.elim
  | cont => obtain ⟨_, _, _, z⟩ := done; exact z.elim
end

section
variable {X : Cx} {CX : CXT} {k : Nat} {f C : Addr} {fd : FuncData} {ps : List Str} {sp : Sp} {E : XK} {x m : Str} {p pos apos : Pos} {e o : Expr} {es : List Expr} {ta : TE} {t : TA}

theorem goes {pins : List (Addr × Obj)} {σ : L2.St} {H : Hp} {s : Shared} {Q : VK} {us : List Value} {vs : List V} (F : FnG X.prog X.w X.K X.mg X.base CX k f fd ps sp) (g : Gd X.A) (hr : Room k X.A) (hb : Binds X.K fd ps []) (hx : Passes CX X E)
    (I : Inv X pins σ H s) (r : Vals vs us) (h : sp vs H Q E) : wpAny (model X.prog X.w) X.A (call (.ref f) us) (EP X pins σ Q) X.xe s := by
  have n1 : (us ++ []).length = ps.length := by rw [List.append_nil, ← r.length]; exact F.len _ _ _ _ h
  have b1 := hb s us I.kIn n1
  rw [List.append_nil] at b1
  apply wpAny_call
  refine codeAny_mono (F.go g hr I.env0 b1 r h) (fun res s' z => ?_)
  match res, z with
  | .error _, z => exact hx pins σ H s _ s' I z
  | .ok (.ret _), z => exact I.after z
/-- what a name of a def is good for: the def at it keeps a promise -/
structure Has (P : Program) (w : World) (K : PySem.W.Frag) (mg : Str → Option Value) (base : Heap) (CX : CXT) (x : Str) (k : Nat) (ps : List Str) (sp : Sp) : Prop where
  ex : ∃ f fd, FnG P w K mg base CX k f fd ps sp ∧ mg x = some (.ref f) ∧ PySem.W.keepIn K (.ref f) = true ∧ Binds K fd ps []
theorem pe_callH (h : Has X.prog X.w X.K X.mg X.base CX x k ps sp) (g : Gd X.A) (hr : Room k X.A) (hx : Passes CX X E) (ha : PA X (e :: es) t) (hg : Gl X x := by exact rfl)
    (hdb : (x == ("__debug__" : Str)) = false := by decide) (he : starEach (e :: es) X.env = (false, eval e X.env) :: starEach es X.env := by rfl) (hpl : (backTo pos (starEach es X.env)).any (·.1) = false := by rfl) :
    PE X (.Call (.Name x p) (e :: es) [] pos) (tCall sp [] E t) := by
  obtain ⟨f, fd, F, m, kp, b⟩ := h.ex
  constructor
  intro pins s σ H Q I q
  apply wpAny_Call_Name_kw
  apply ld_glob I hg m _ hdb
  refine PySem.W.callWith_K (h₀ := X.base) I.ok.mod.kin kp (thn (ha.run pos pins s σ H _ I q) (fun us s1 z => ?_)) he hpl
  obtain ⟨vs, H1, I1, r, q1⟩ := z
  rw [List.append_nil] at q1
  exact ⟨I1.kIn, goes F g hr b hx I1 r q1⟩
theorem pe_call0H (h : Has X.prog X.w X.K X.mg X.base CX x k ps sp) (g : Gd X.A) (hr : Room k X.A) (hx : Passes CX X E) (hg : Gl X x := by exact rfl)
    (hdb : (x == ("__debug__" : Str)) = false := by decide) : PE X (.Call (.Name x p) [] [] pos) (tCall sp [] E tNil) := by
  obtain ⟨f, fd, F, m, kp, b⟩ := h.ex
  constructor
  intro pins s σ H Q I q
  apply wpAny_Call_Name_kw
  apply ld_glob I hg m _ hdb
  exact PySem.W.callWith_K0 I.kIn kp (goes (us := []) F g hr b hx I .nil q)
/-- a method of the instances of a class -/
structure HasM (P : Program) (w : World) (K : PySem.W.Frag) (mg : Str → Option Value) (base : Heap) (CX : CXT) (C : Addr) (m : Str) (k : Nat) (ps : List Str) (sp : Sp) : Prop where
  ex : ∃ f fd, FnG P w K mg base CX k f fd ps sp ∧ Meth K C m f ∧ Binds K fd ps []
theorem pe_methH {pl : Sem Bool} (he : PE X o ta) (c : Cls X.K C) (h : HasM X.prog X.w X.K X.mg X.base CX C m k ps sp) (g : Gd X.A) (hr : Room k X.A) (hx : Passes CX X E) (ha : PA X (e :: es) t)
    (hst : starEach (e :: es) X.env = (false, eval e X.env) :: starEach es X.env := by rfl) (hpl : (backTo pos (starEach es X.env)).any (·.1) = false := by rfl)
    (ht : eval (.Call (.Attribute o m apos) (e :: es) [] pos) X.env = ((eval o X.env).bind fun ov => (standAt apos.atName).bind fun _ => (holding [ov] (getMethod ov m pl)).bind fun fm =>
      callWith pos fm.1 fm.2 (backTo pos (starEach (e :: es) X.env)) (backToKw pos (keywordEach [] X.env))) := by rfl) :
    PE X (.Call (.Attribute o m apos) (e :: es) [] pos) (tMeth C m sp [] E ta t) := by
  obtain ⟨f, fd, F, M, b⟩ := h.ex
  constructor
  intro pins s σ H Q I q
  refine PySem.W.methodCall_KW (pl := pl) (thn (he.run pins s σ H _ I q) (fun u s1 z => ?_)) ht
  obtain ⟨x, H1, I1, rx, a, dx, fs, ex, ea, l, q1⟩ := z
  subst ex
  cases (show u = Value.ref a from rx)
  apply getmeth_ok I1 ea c M l
  refine PySem.W.callWith_K (first := [.ref a]) (h₀ := X.base) I.ok.mod.kin M.kp (thn (ha.run pos pins s1 σ H1 _ I1 q1) (fun us s2 z => ?_)) hst hpl
  obtain ⟨vs, H2, I2, r, q2⟩ := z
  rw [List.append_nil] at q2
  exact ⟨I2.kIn, goes (us := .ref a :: us) (vs := .ref a :: vs) F g hr b hx I2 (.cons rfl r) q2⟩
theorem pe_meth0H {pl : Sem Bool} (he : PE X o ta) (c : Cls X.K C) (h : HasM X.prog X.w X.K X.mg X.base CX C m k ps sp) (g : Gd X.A) (hr : Room k X.A) (hx : Passes CX X E)
    (ht : eval (.Call (.Attribute o m apos) [] [] pos) X.env = ((eval o X.env).bind fun ov => (standAt apos.atName).bind fun _ => (holding [ov] (getMethod ov m pl)).bind fun fm =>
      callWith pos fm.1 fm.2 (backTo pos (starEach [] X.env)) (backToKw pos (keywordEach [] X.env))) := by rfl) :
    PE X (.Call (.Attribute o m apos) [] [] pos) (tMeth C m sp [] E ta tNil) := by
  obtain ⟨f, fd, F, M, b⟩ := h.ex
  constructor
  intro pins s σ H Q I q
  refine PySem.W.methodCall_KW (pl := pl) (thn (he.run pins s σ H _ I q) (fun u s1 z => ?_)) ht
  obtain ⟨x, H1, I1, rx, a, dx, fs, ex, ea, l, q1⟩ := z
  subst ex
  cases (show u = Value.ref a from rx)
  apply getmeth_ok I1 ea c M l
  exact PySem.W.callWith_K0 (first := [.ref a]) I1.kIn M.kp (goes (us := [.ref a]) (vs := [.ref a]) F g hr b hx I1 (.cons rfl .nil) q1)
/-- a class that is called: its __init__ keeps a promise -/
structure HasC (P : Program) (w : World) (K : PySem.W.Frag) (mg : Str → Option Value) (base : Heap) (CX : CXT) (x : Str) (C : Addr) (k : Nat) (ps : List Str) (sp : Sp) : Prop where
  ex : ∃ f fd, FnG P w K mg base CX k f fd ps sp ∧ mg x = some (.ref C) ∧ Mk K C f ∧ Binds K fd ps []
end

/-! ### the script's end -/
section
variable {P : Program} {w : World} {K : PySem.W.Frag} {mg mb : Str → Option Value} {k : Nat} {fa a : Addr} {fd : FuncData} {x : Str} {sp : Sp} {s1 : Shared} {vs : List Value} {ns : List Int} {CX : CXT}
theorem core_end {H : Hp} (inK : K.In s1.heap) (hns : s1.heap.Ns mainGlobals mg) (hb : s1.heap.Ns builtinsNs mb) (hbb : ∀ x : Str, x ≠ "__name__" → mb x = bootBuiltins x) (lim : s1.heap.NoLimit) (hg : s1.gens = #[])
    (ha : s1.heap.get? a = some { cls := .type "list", data := .seq vs.toArray }) (hr : Room k callerA) (F : ∀ base : Heap, K.In base → base.Ns mainGlobals mg → FnG P w K mg base CX k fa fd [x] sp)
    (bi : ∀ (s : Shared) (u : Value), BindsTo s fd ⟨[u], []⟩ [(x, u)]) (asked : sp [.ref a] H (fun v _ => v = .bl true) (fun _ _ _ => False)) (none_ : ∀ e s', CX [] H s1 (fun _ _ _ => False) e s' → False)
    (hO : Only H) (ok : HOk P w H s1.heap) (hA : ∀ b, H b ≠ none → b = a) (hK : H a ≠ none → K.lookup a = none) :
    codeAny (model P w) callerA (.call (.ref fa) ⟨[.ref a], []⟩) (fun r s' => r = .ok (.ret (.bool true)) ∧ OldK s1.heap s'.heap ∧ s'.os = s1.os ∧ AllBare s'.gens) s1 := by
  have untracked : ∀ b o es ep, s1.heap.get? b = some o → o.data = .dict es ep → H b = none := by
    intro b o es ep e d
    rcases hq : H b with _ | u
    · rfl
    · have eb := hA b (by rw [hq]; exact nofun)
      rw [eb, ha] at e
      rw [← Option.some.inj e] at d
      exact absurd d (by exact nofun)
  have ns_ : ∀ b m, s1.heap.Ns b m → (hidT s1.heap H).Ns b m := by
    rintro b m ⟨o, es, ep, e, d, r⟩
    exact ⟨o, es, ep, hidT_get e (untracked b o es ep e d), d, r⟩
  have kin : K.In (hidT s1.heap H) := by
    intro b o e
    apply hidT_get (inK b o e)
    rcases hq : H b with _ | u
    · rfl
    · have eb := hA b (by rw [hq]; exact nofun)
      subst eb
      rw [hK (by rw [hq]; exact nofun)] at e
      exact absurd e nofun
  obtain ⟨mc, l1, l2⟩ := lim
  have e0 : Env0 P w K mg (hidT s1.heap H) callerA [] s1 H :=
    { frames := rfl, mod := ⟨kin, ns_ _ _ hns, ⟨mb, ns_ _ _ hb, hbb⟩, ⟨mc, ns_ _ _ l1, l2⟩⟩, bs := fun b o e => of_hidT e, bsz := Nat.le_of_eq (hidT_size _ _), funs := trivial,
      frf := fun b z => absurd (show b ∈ ([] : List Addr) from z) (List.not_mem_nil), hok := ok, bare := .of_eq hg }
  refine codeAny_mono ((F _ kin (ns_ _ _ hns)).go (args := ⟨[.ref a], []⟩) (us := [.ref a]) (vs := [.ref a]) rfl hr e0 (bi s1 (.ref a)) (.cons rfl .nil) asked) (fun r s' z => ?_)
  match r, z with
  | .error e, z => exact (none_ e s' z).elim
  | .ok (.ret u), z =>
    obtain ⟨v, H', os, bare, un, ok', rv, qv⟩ := z
    cases (show v = .bl true from qv)
    cases (show u = Value.bool true from rv)
    refine ⟨rfl, OldK.of_keep (fun b o e => ?_), os, bare⟩
    rcases hq : H b with _ | u
    · exact un.keep b o e hq (fun z => absurd (show b ∈ ([] : List Addr) from z) List.not_mem_nil) List.not_mem_nil
    · rcases hO b with z | ⟨ob, xs, z⟩
      · rw [z] at hq; cases hq
      · have g1 := (ok b _ z).1
        have g2 := (ok' b _ (un.frzs b ob _ z)).1
        rw [e] at g1
        rw [g2, ← g1]
theorem law_end (inK : K.In s1.heap) (hns : s1.heap.Ns mainGlobals mg) (hb : s1.heap.Ns builtinsNs mb) (hbb : ∀ x : Str, x ≠ "__name__" → mb x = bootBuiltins x) (lim : s1.heap.NoLimit) (hg : s1.gens = #[])
    (ha : s1.heap.get? a = some { cls := .type "list", data := .seq vs.toArray }) (hi : IntsAre vs ns) (hl : ns.length ≤ sizeLine) (hr : Room k callerA) (F : ∀ base : Heap, K.In base → base.Ns mainGlobals mg → FnG P w K mg base CX k fa fd [x] sp)
    (bi : ∀ (s : Shared) (u : Value), BindsTo s fd ⟨[u], []⟩ [(x, u)]) (asked : ∀ H : Hp, Only H → SqL K H a (ns.map V.int) → sp [.ref a] H (fun v _ => v = .bl true) (fun _ _ _ => False)) (none_ : ∀ H e s', CX [] H s1 (fun _ _ _ => False) e s' → False) :
    codeAny (model P w) callerA (.call (.ref fa) ⟨[.ref a], []⟩) (fun r s' => r = .ok (.ret (.bool true)) ∧ OldK s1.heap s'.heap ∧ s'.os = s1.os ∧ AllBare s'.gens) s1 := by
  have rv := vals_ints hi
  have lv : ns.length = vs.length := by have := rv.length; rwa [List.length_map] at this
  rcases hk : K.lookup a with _ | o
  · have own : ∀ b, (fun b => if b = a then some (HO.frz { cls := .type "list", data := .seq vs.toArray } (.lst (ns.map V.int))) else none : Hp) b ≠ none → b = a := by
      intro b z
      by_cases e : b = a
      · exact e
      · exact absurd (if_neg e) z
    have here : (fun b => if b = a then some (HO.frz { cls := .type "list", data := .seq vs.toArray } (.lst (ns.map V.int))) else none : Hp) a = some (HO.frz { cls := .type "list", data := .seq vs.toArray } (.lst (ns.map V.int))) := if_pos rfl
    have only : Only (fun b => if b = a then some (HO.frz { cls := .type "list", data := .seq vs.toArray } (.lst (ns.map V.int))) else none) := by
      intro b
      by_cases e : b = a
      · subst e; exact .inr ⟨_, _, here⟩
      · exact .inl (if_neg e)
    refine core_end inK hns hb hbb lim hg ha hr F bi (asked _ only (.inl (.inr ⟨_, here⟩))) (none_ _) only (fun b u z => ?_) own (fun _ => hk)
    have e := own b (fun h0 => by have z2 : some u = none := z.symm.trans h0; cases z2)
    subst e
    have z := here.symm.trans z
    cases z
    exact ⟨ha, by rw [List.length_map]; exact hl, vs, _, rv, ha⟩
  · have e := inK a o hk
    rw [ha] at e
    have e' := Option.some.inj e
    subst e'
    exact core_end (H := fun _ => none) inK hns hb hbb lim hg ha hr F bi (asked _ (fun _ => .inl rfl) (.inr ⟨_, vs.toArray, _, hk, rfl, rfl, rfl, by rw [List.size_toArray, ← lv]; exact hl, by simpa using rv⟩)) (none_ _) (fun _ => .inl rfl) (fun b u z => by cases z) (fun b z => absurd rfl z) (fun z => absurd rfl z)
theorem walk_to {l : PySem.W.OpenLaw} {n k : Nat} {q : Program} {loose : List Str} {XP : (Str → Option Value) → Heap → Prop} {YP : World → Heap → Prop} {d : DefRec} {Kf : Params → PySem.W.Frag} {sp : PySem.W.Frag → Sp} {x : Str}
    (hn : l.most = some n) (hn2 : n ≤ sizeLine) (hdf : d.params.defaults = []) (hr : Room k callerA) (hY : ∀ (w : World) (h : Heap), YP w h → (Kf w.params).In h)
    (F : ∀ (w : World) (mg : Str → Option Value) (fa : Addr) (h : Heap), (Kf w.params).In h → h.Ns mainGlobals mg → mg d.name = some (.ref fa) →
      ∃ fd : FuncData, (∀ (s : Shared) (u : Value), BindsTo s fd ⟨[u], []⟩ [(x, u)]) ∧ ∀ base : Heap, (Kf w.params).In base → base.Ns mainGlobals mg → FnG l.prog w (Kf w.params) mg base CX0 k fa fd [x] (sp (Kf w.params)))
    (hsp : ∀ (K : PySem.W.Frag) (H : Hp) (a : Addr) (ns : List Int), ns.length ≤ n → SqL K H a (ns.map V.int) → sp K [.ref a] H (fun v _ => v = .bl true) (fun _ _ _ => False)) :
    PySem.W.WalkO q loose XP YP l.row.toRowW d [] (fun f vs => PySem.call f vs) := by
  apply Att.attach_call hn hdf
  intro w s0 s1 mg mb fa o pm cd doc a vs ns G Y _ _ _ hmg obj hInts few gens
  obtain ⟨fd, bi, hF⟩ := F w mg fa _ (hY w _ Y) G.T.g hmg
  exact law_end (hY w _ Y) G.T.g G.T.b G.T.builtins G.T.nolimit gens obj hInts (Nat.le_trans few hn2) hr hF bi (fun H _ S => hsp _ H a ns few S) (fun _ _ _ z => z)
end
end GL
/-! Rules and promises that the proofs of this program share. -/
namespace GL
open PySem PySem.Spec PyProof.Rows L2

/-- a def as it stands behind the top -/
structure Df (K : PySem.W.Frag) (mg : Str → Option Value) (x : Str) (st : Stmt) : Prop where
  ex : ∃ f fd, Fun K x x st f fd ∧ mg x = some (.ref f)
theorem df_mk {K : PySem.W.Frag} {h : Heap} {mg : Str → Option Value} {x : Str} {st : Stmt} {f : Addr} {oc : Value} {od an : Option Addr} {osl : Array (Option Value)} {kV doc pm cdv ct : Value} (X : K.In h) (G : h.Ns mainGlobals mg)
    (a : PySem.W.nsIn K mainGlobals x = some (some (.ref f))) (l : K.lookup f = some ⟨oc, od, .func (PySem.W.fnOf x x (defArgs st) (defBody st) (defScope st) .none kV doc pm an cdv ct), osl⟩)
    (c : PySem.W.codeIn K cdv x = true) (k : PySem.W.keepIn K (.ref f) = true) : Df K mg x st := ⟨f, _, fun_mk l c k, PySem.W.mg_of X G a⟩
section
variable {P : Program} {w : World} {K : PySem.W.Frag} {mg : Str → Option Value} {base : Heap}
theorem _root_.L2.Fun.g {x : Str} {st : Stmt} {N ps : List Str} {k : Nat} {sp : Sp} {f : Addr} {fd : FuncData} (F : Fun K x x st f fd) (S : FnScope N ps (defScope st)) (len : ∀ vs H Q E, sp vs H Q E → vs.length = ps.length)
    (body : ∀ (cdv : Value) (A : Around) (outer : List Env) (s : Shared) (H : Hp) (vs : List V) (Q : VK) (E : XK), Gd (A.deeper (envOfC x (defScope st) s.heap.objs.size f cdv)) → Room k (A.deeper (envOfC x (defScope st) s.heap.objs.size f cdv)) → sp vs H Q E →
      ∃ t, PSs (cxOf CX0 P w K mg base N x (defScope st) f cdv A outer s H E).nox (defBody st) t ∧ t { nx := fun _ H' => Q .non H', rt := Q } (start N vs) H) : FnG P w K mg base CX0 (k + 1) f fd ps sp := by
  refine fnG_mk F S len (fun cdv A outer s H vs Q E g hr q => ?_)
  obtain ⟨t, ht, q⟩ := body cdv A outer s H vs Q E g hr q
  exact ⟨t, ht.nox, q⟩
theorem Df.has {x : Str} {st : Stmt} {N ps : List Str} {k : Nat} {sp : Sp} (D : Df K mg x st) (S : FnScope N ps (defScope st)) (len : ∀ vs H Q E, sp vs H Q E → vs.length = ps.length)
    (bi : ∀ (kV doc pm : Value) (an : Option Addr) (cdv ct : Value) (us : List Value), us.length = ps.length → bindArgs (PySem.W.fnOf x x (defArgs st) (defBody st) (defScope st) .none kV doc pm an cdv ct) ⟨us, []⟩ = pure (ps.zip us))
    (body : ∀ (f : Addr) (cdv : Value) (A : Around) (outer : List Env) (s : Shared) (H : Hp) (vs : List V) (Q : VK) (E : XK), Gd (A.deeper (envOfC x (defScope st) s.heap.objs.size f cdv)) → Room k (A.deeper (envOfC x (defScope st) s.heap.objs.size f cdv)) → sp vs H Q E →
      ∃ t, PSs (cxOf CX0 P w K mg base N x (defScope st) f cdv A outer s H E).nox (defBody st) t ∧ t { nx := fun _ H' => Q .non H', rt := Q } (start N vs) H) : Has P w K mg base CX0 x (k + 1) ps sp := by
  obtain ⟨f, fd, F, m⟩ := D.ex
  exact ⟨f, fd, F.g S len (body f), m, F.kp, F.binds bi⟩
/-- the law's own def, for the end -/
theorem Df.law {x : Str} {st : Stmt} {p : Str} {k : Nat} {sp : Sp} {fa : Addr} (D : Df K mg x st) (m : mg x = some (.ref fa)) (S : ∀ base : Heap, K.In base → base.Ns mainGlobals mg → ∀ f fd, Fun K x x st f fd → FnG P w K mg base CX0 k f fd [p] sp)
    (bi : ∀ (kV doc pm : Value) (an : Option Addr) (cdv ct : Value) (u : Value), bindArgs (PySem.W.fnOf x x (defArgs st) (defBody st) (defScope st) .none kV doc pm an cdv ct) ⟨[u], []⟩ = pure [(p, u)]) :
    ∃ fd : FuncData, (∀ (s : Shared) (u : Value), BindsTo s fd ⟨[u], []⟩ [(p, u)]) ∧ ∀ base : Heap, K.In base → base.Ns mainGlobals mg → FnG P w K mg base CX0 k fa fd [p] sp := by
  obtain ⟨f, fd, F, m'⟩ := D.ex
  rw [m] at m'
  cases m'
  obtain ⟨oc, od, kV, doc, pm, an, cdv, ct, osl, eF, at_, cR⟩ := F.ex
  exact ⟨fd, fun s u => by subst eF; exact .of_eq (bi kV doc pm an cdv ct u), fun base kin hns => S base kin hns _ _ F⟩
end

/-- what a name of the module holds -/
def MgV (mg : Str → Option Value) (x : Str) (v : V) : Prop := ∃ u, mg x = some u ∧ RelV v u
theorem pe_globV {X : Cx} {x : Str} {v : V} {pos : Pos} (h : MgV X.mg x v) (hg : Gl X x := by exact rfl) (hd : (x == ("__debug__" : Str)) = false := by decide) : PE X (.Name x pos) (tC v) := by
  obtain ⟨u, m, r⟩ := h
  exact pe_glob hg m r hd

/-! ### repr of data -/
def rRepr (K : PySem.W.Frag) : List V → Hp → VK → Prop := fun xs H Q => ∃ x d, xs = [x] ∧ Dp K H x d ∧ d.showable = true ∧ d.hasDict = false ∧ d.depth ≤ 20 ∧ d.shown.length ≤ sizeLine ∧ Q (.str d.shown) H
theorem call_repr {X : Cx} (hg : Gd X.A) (hu : X.A.units + 64 < cLine) : CallR X (.builtin "repr") (rRepr X.K) := by
  intro pins s σ H xs us Q I r h
  obtain ⟨x, d, rfl, hd, hs, hn, hp, hz, q⟩ := h
  obtain ⟨u, rfl, r1⟩ := vals1 r
  have hh : ∀ v, RelV x v → ∃ as, Reads s.heap v d as := fun v rv => Dp.reads I d x v hd rv
  obtain ⟨as, hr⟩ := hh u r1
  cases d with
  | none => cases hr; exact PySem.P.repr_of_none ⟨.str _, H, I.tok _, ⟨_, rfl⟩, q⟩
  | bool b => cases hr; exact PySem.P.repr_of_bool ⟨.str _, H, I.tok _, ⟨_, rfl⟩, q⟩
  | int i => cases hr; exact PySem.P.repr_of_int (by simpa [PyData.showable] using hs) ⟨.str _, H, I.tok _, ⟨_, rfl⟩, q⟩
  | str y => cases hr; exact PySem.P.repr_of_str ⟨.str _, H, I.tok _, ⟨_, rfl⟩, q⟩ hz
  | list ds =>
    obtain ⟨a, rfl⟩ := isRef_of_reads hr rfl
    exact repr_of_reads' hr hs (PyData.noDict_hsm hn) hg (by omega) (fun _ _ e => e) (fun h' u tk hk => ⟨.str _, H, I.kept hk, ⟨_, rfl⟩, q⟩) hz
  | tuple ds =>
    obtain ⟨a, rfl⟩ := isRef_of_reads hr rfl
    exact repr_of_reads' hr hs (PyData.noDict_hsm hn) hg (by omega) (fun _ _ e => e) (fun h' u tk hk => ⟨.str _, H, I.kept hk, ⟨_, rfl⟩, q⟩) hz
  | dict kvs => cases hd

/-! ### values of expressions that change nothing -/
def Vl (te : TE) (σ : L2.St) (v : V) : Prop := ∀ (H : Hp) (Q : VK), Q v H → te σ H Q
theorem vl_and {ta tb : TE} {σ : L2.St} {a b : Bool} (ha : Vl ta σ (.bl a)) (hb : a = true → Vl tb σ (.bl b)) : Vl (tAndV ta tb) σ (.bl (a && b)) := by
  intro H Q q
  refine ha H _ ⟨a, rfl, ?_⟩
  cases a with
  | true => exact iteT (hb rfl H _ q)
  | false => exact iteF q
theorem vl_or {ta tb : TE} {σ : L2.St} {a b : Bool} (ha : Vl ta σ (.bl a)) (hb : a = false → Vl tb σ (.bl b)) : Vl (tOrV ta tb) σ (.bl (a || b)) := by
  intro H Q q
  refine ha H _ ⟨a, rfl, ?_⟩
  cases a with
  | true => exact iteT q
  | false => exact iteF (hb rfl H _ q)

/-! ### great powers -/
def CPowW (i j : Int) : Prop := 0 ≤ j ∧ (Builtin.Int.intBits i : Int) * j ≤ 2 ^ 27
theorem op_powW {X : Cx} : OpR X (binaryOp .Pow) (rI CPowW fun i j => .int (i ^ j.toNat)) := opI fun _ _ _ _ _ _ _ hc q => pow_int hc.1 hc.2 q

/-! ### kinds of values -/
inductive Kd where | non | bl | int | str | lst | tup | dct
def Kd.nm : Kd → String
  | .non => "NoneType" | .bl => "bool" | .int => "int" | .str => "str" | .lst => "list" | .tup => "tuple" | .dct => "dict"
def Kd.isB : Kd → Bool | .bl => true | _ => false
def Kd.isI : Kd → Bool | .bl => true | .int => true | _ => false
def Kd.isS : Kd → Bool | .str => true | _ => false
def Kd.isT : Kd → Bool | .tup => true | _ => false
theorem kit_bool {K : PySem.W.Frag} (k : Kd) : PySem.W.kitOne K (.type k.nm) (.type "bool") = some k.isB := by cases k <;> exact kit_ty (by decide +kernel)
theorem kit_int {K : PySem.W.Frag} (k : Kd) : PySem.W.kitOne K (.type k.nm) (.type "int") = some k.isI := by cases k <;> exact kit_ty (by decide +kernel)
theorem kit_str {K : PySem.W.Frag} (k : Kd) : PySem.W.kitOne K (.type k.nm) (.type "str") = some k.isS := by cases k <;> exact kit_ty (by decide +kernel)
theorem kit_tup {K : PySem.W.Frag} (k : Kd) : PySem.W.kitOne K (.type k.nm) (.type "tuple") = some k.isT := by cases k <;> exact kit_ty (by decide +kernel)
/-- a value of a kind -/
def Of (K : PySem.W.Frag) (H : Hp) (x : V) (k : Kd) : Prop := TyX K H x (.type k.nm)
theorem Of.bl {K : PySem.W.Frag} {H : Hp} {b : Bool} : Of K H (.bl b) .bl := .base (.bl b)
theorem Of.int {K : PySem.W.Frag} {H : Hp} {i : Int} : Of K H (.int i) .int := .base (.int i)
theorem Of.str {K : PySem.W.Frag} {H : Hp} {y : Str} : Of K H (.str y) .str := .base (.str y)
theorem Of.non {K : PySem.W.Frag} {H : Hp} : Of K H .non .non := .base .non
theorem Of.lst {K : PySem.W.Frag} {H : Hp} {a : Addr} {xs : List V} (h : H a = some (.lst xs)) : Of K H (.ref a) .lst := .base (.lst h)
theorem Of.tup {K : PySem.W.Frag} {H : Hp} {a : Addr} {xs : List V} (h : H a = some (.tup xs)) : Of K H (.ref a) .tup := .base (.tup h)
theorem Of.dct {K : PySem.W.Frag} {H : Hp} {a : Addr} {xs : List (Key × V)} (h : H a = some (.dK xs)) : Of K H (.ref a) .dct := .base (.dK h)
theorem Of.blI {K : PySem.W.Frag} {H : Hp} {x : V} (h : Of K H x .bl) : ∃ i, x = .bl i := by
  have e : Value.type (Kd.nm .bl) = .type "bool" := rfl
  unfold Of at h
  rw [e] at h
  generalize ht : Value.type "bool" = t at h
  cases h with
  | base b => cases b <;> first | exact ⟨_, rfl⟩ | exact absurd ht (by decide +kernel) | (exact absurd ht (by intro z; cases z))
  | byt b => exact absurd ht (by decide +kernel)
  | set _ => exact absurd ht (by decide +kernel)
  | kList _ _ => exact absurd ht (by decide +kernel)
  | kTuple _ _ => exact absurd ht (by decide +kernel)
  | kDict _ _ => exact absurd ht (by decide +kernel)
  | fTuple _ => exact absurd ht (by decide +kernel)
  | fDict _ => exact absurd ht (by decide +kernel)
theorem Of.intI {K : PySem.W.Frag} {H : Hp} {x : V} (h : Of K H x .int) : ∃ i, x = .int i := by
  have e : Value.type (Kd.nm .int) = .type "int" := rfl
  unfold Of at h
  rw [e] at h
  generalize ht : Value.type "int" = t at h
  cases h with
  | base b => cases b <;> first | exact ⟨_, rfl⟩ | exact absurd ht (by decide +kernel) | (exact absurd ht (by intro z; cases z))
  | byt b => exact absurd ht (by decide +kernel)
  | set _ => exact absurd ht (by decide +kernel)
  | kList _ _ => exact absurd ht (by decide +kernel)
  | kTuple _ _ => exact absurd ht (by decide +kernel)
  | kDict _ _ => exact absurd ht (by decide +kernel)
  | fTuple _ => exact absurd ht (by decide +kernel)
  | fDict _ => exact absurd ht (by decide +kernel)
theorem Of.strI {K : PySem.W.Frag} {H : Hp} {x : V} (h : Of K H x .str) : ∃ i, x = .str i := by
  have e : Value.type (Kd.nm .str) = .type "str" := rfl
  unfold Of at h
  rw [e] at h
  generalize ht : Value.type "str" = t at h
  cases h with
  | base b => cases b <;> first | exact ⟨_, rfl⟩ | exact absurd ht (by decide +kernel) | (exact absurd ht (by intro z; cases z))
  | byt b => exact absurd ht (by decide +kernel)
  | set _ => exact absurd ht (by decide +kernel)
  | kList _ _ => exact absurd ht (by decide +kernel)
  | kTuple _ _ => exact absurd ht (by decide +kernel)
  | kDict _ _ => exact absurd ht (by decide +kernel)
  | fTuple _ => exact absurd ht (by decide +kernel)
  | fDict _ => exact absurd ht (by decide +kernel)
/-- a value that is no int -/
theorem Of.notInt {K : PySem.W.Frag} {H : Hp} {i : Int} {k : Kd} (h : Of K H (.int i) k) : k = .int := by
  unfold Of at h
  generalize ht : Value.type k.nm = t at h
  cases h with
  | base b =>
    cases b
    cases k <;> first | rfl | exact absurd ht (by decide +kernel)
theorem Of.notStr {K : PySem.W.Frag} {H : Hp} {i : Str} {k : Kd} (h : Of K H (.str i) k) : k = .str := by
  unfold Of at h
  generalize ht : Value.type k.nm = t at h
  cases h with
  | base b =>
    cases b
    cases k <;> first | rfl | exact absurd ht (by decide +kernel)

/-! ### the dice: a list of three ints, the first of them not below nought -/
def Die (H : Hp) (p : Addr) : Prop := ∃ l b c : Int, 0 ≤ l ∧ H p = some (.lst [.int l, .int b, .int c])
/-- all but the dice at p is as it was -/
structure Got (p : Addr) (H H' : Hp) : Prop where
  keep : ∀ b o, H b = some o → b ≠ p → H' b = some o
  die : Die H' p
theorem Got.same {p : Addr} {H : Hp} (d : Die H p) : Got p H H := ⟨fun _ _ e _ => e, d⟩
theorem Got.trans {p : Addr} {H H1 H2 : Hp} (a : Got p H H1) (b : Got p H1 H2) : Got p H H2 := ⟨fun c o e n => b.keep c o (a.keep c o e n) n, b.die⟩
theorem Got.roll {p : Addr} {H : Hp} {l b c : Int} (h : 0 ≤ l) : Got p H (upd H p (.lst [.int l, .int b, .int c])) := ⟨fun d o e n => by rw [upd_ne n]; exact e, l, b, c, h, upd_same⟩
theorem Got.new {p q : Addr} {H : Hp} {o : HO} (d : Die H p) (n : H q = none) : Got p H (upd H q o) := by
  obtain ⟨l, b, c, l0, e⟩ := d
  exact ⟨fun x u z _ => by rw [upd_ne (ne_of_none z n)]; exact z, l, b, c, l0, by rw [upd_ne (ne_of_none e n)]; exact e⟩
theorem Got.free {p q : Addr} {H H' : Hp} (g : Got p H H') (d : Die H p) (n : H' q = none) : H q = none := by
  cases e : H q with
  | none => rfl
  | some o =>
    obtain ⟨l, b, c, _, ep⟩ := g.die
    by_cases z : q = p
    · rw [z, ep] at n; cases n
    · rw [g.keep q o e z] at n; cases n
theorem Got.over {p t : Addr} {H H' : Hp} (g : Got p H H') (d : Die H p) (n : H t = none) (u : HO) : Got p H (upd H' t u) := by
  refine ⟨fun b o e z => by rw [upd_ne (ne_of_none e n)]; exact g.keep b o e z, ?_⟩
  obtain ⟨l, b, c, l0, e⟩ := g.die
  obtain ⟨_, _, _, _, e0⟩ := d
  exact ⟨l, b, c, l0, by rw [upd_ne (ne_of_none e0 n)]; exact e⟩
theorem new_keep {H : Hp} {a p : Addr} {o u : HO} (h : H a = some o) (n : H p = none) : upd H p u a = some o := by rw [upd_ne (ne_of_none h n)]; exact h
theorem new_keep2 {H : Hp} {a p : Addr} {o u u' : HO} (h : H a = some o) (n : H p = none) : upd (upd H p u) p u' a = some o := by rw [upd_ne (ne_of_none h n), upd_ne (ne_of_none h n)]; exact h
theorem Die.ne {p q : Addr} {H : Hp} (d : Die H p) (n : H q = none) : p ≠ q := by
  obtain ⟨l, b, c, _, e⟩ := d
  exact ne_of_none e n
end GL
namespace K00
open PySem PySem.Spec PyProof.Rows L2 GL
def topS (i : Nat) : Stmt := PySem.Challenge.pw_grownlines_k00_integers_and_letters.main.body.getD i (.Pass ⟨0, 0, 0, 0⟩)
abbrev s_is_integer : Stmt := topS 4
abbrev N_is_integer : List Str := ["value"]
theorem sc_is_integer : FnScope N_is_integer ["value"] (defScope s_is_integer) := ⟨rfl, rfl, rfl, by decide +kernel, rfl, by decide +kernel, by decide +kernel⟩
abbrev s_is_count : Stmt := topS 5
abbrev N_is_count : List Str := ["value"]
theorem sc_is_count : FnScope N_is_count ["value"] (defScope s_is_count) := ⟨rfl, rfl, rfl, by decide +kernel, rfl, by decide +kernel, by decide +kernel⟩
abbrev s_is_letter : Stmt := topS 6
abbrev N_is_letter : List Str := ["value"]
theorem sc_is_letter : FnScope N_is_letter ["value"] (defScope s_is_letter) := ⟨rfl, rfl, rfl, by decide +kernel, rfl, by decide +kernel, by decide +kernel⟩
abbrev s__law_dice : Stmt := topS 8
abbrev N__law_dice : List Str := ["_law_script", "_law_spot", "_law_cell", "_law_left"]
theorem sc__law_dice : FnScope N__law_dice ["_law_script", "_law_spot"] (defScope s__law_dice) := ⟨rfl, rfl, rfl, by decide +kernel, rfl, by decide +kernel, by decide +kernel⟩
abbrev s__law_roll : Stmt := topS 9
abbrev N__law_roll : List Str := ["_law_dice_here", "_law_total", "_law_found", "_law_one", "_law_two"]
theorem sc__law_roll : FnScope N__law_roll ["_law_dice_here", "_law_total"] (defScope s__law_roll) := ⟨rfl, rfl, rfl, by decide +kernel, rfl, by decide +kernel, by decide +kernel⟩
abbrev s__law_pick : Stmt := topS 10
abbrev N__law_pick : List Str := ["_law_dice_here", "_law_items"]
theorem sc__law_pick : FnScope N__law_pick ["_law_dice_here", "_law_items"] (defScope s__law_pick) := ⟨rfl, rfl, rfl, by decide +kernel, rfl, by decide +kernel, by decide +kernel⟩
abbrev s__law_limit : Stmt := topS 11
abbrev N__law_limit : List Str := []
theorem sc__law_limit : FnScope N__law_limit [] (defScope s__law_limit) := ⟨rfl, rfl, rfl, by decide +kernel, rfl, by decide +kernel, by decide +kernel⟩
abbrev s__law_number : Stmt := topS 12
abbrev N__law_number : List Str := ["_law_dice_here", "_law_near", "_law_number_here"]
theorem sc__law_number : FnScope N__law_number ["_law_dice_here"] (defScope s__law_number) := ⟨rfl, rfl, rfl, by decide +kernel, rfl, by decide +kernel, by decide +kernel⟩
abbrev s__law_figures : Stmt := topS 13
abbrev N__law_figures : List Str := ["_law_number_here", "_law_many", "_law_left", "_law_turn"]
theorem sc__law_figures : FnScope N__law_figures ["_law_number_here"] (defScope s__law_figures) := ⟨rfl, rfl, rfl, by decide +kernel, rfl, by decide +kernel, by decide +kernel⟩
abbrev s__law_sign : Stmt := topS 14
abbrev N__law_sign : List Str := ["_law_dice_here", "_law_signs", "_law_text", "_law_sign_here"]
theorem sc__law_sign : FnScope N__law_sign ["_law_dice_here"] (defScope s__law_sign) := ⟨rfl, rfl, rfl, by decide +kernel, rfl, by decide +kernel, by decide +kernel⟩
abbrev s_law : Stmt := topS 15
abbrev N_law : List Str := ["_law_script", "_law_spot", "_law_dice_here", "_law_turn", "_law_number_here", "_law_text", "_law_is_short", "_law_told", "_law_odd"]
theorem sc_law : FnScope N_law ["_law_script"] (defScope s_law) := ⟨rfl, rfl, rfl, by decide +kernel, rfl, by decide +kernel, by decide +kernel⟩
@[irreducible] def B : Int := 10 ^ 400
structure Txt (K : PySem.W.Frag) (mg : Str → Option Value) : Prop where
  zisinstance : mg "isinstance" = none
  zbool : mg "bool" = none
  zint : mg "int" = none
  zstr : mg "str" = none
  zlen : mg "len" = none
  zmax : mg "max" = none
  zmin : mg "min" = none
  zabs : mg "abs" = none
  zrange : mg "range" = none
  zrepr : mg "repr" = none
  g_BOUND : MgV mg "_BOUND" (.int B)
  gLETTERS : MgV mg "LETTERS" (.str "abcdefghijklmnopqrstuvwxyz")
  gMAX_FIGURES : MgV mg "MAX_FIGURES" (.int 400)
section
variable {P : Program} {w : World} {K : PySem.W.Frag} {mg : Str → Option Value} {base : Heap}

def isIntV : V → Bool
  | .int i => decide (-B < i) && decide (i < B)
  | _ => false
def spIsInt (K : PySem.W.Frag) : Sp := fun vs H Q _ => ∃ x k, vs = [x] ∧ Of K H x k ∧ Q (.bl (isIntV x)) H
theorem h_is_integer (T : Txt K mg) (D : Df K mg "is_integer" s_is_integer) : Has P w K mg base CX0 "is_integer" 1 ["value"] (spIsInt K) := by
  refine D.has sc_is_integer (fun vs H Q E h => ?_) (fun kV doc pm an cdv ct us hl => match us, hl with | [_], _ => rfl) (fun f cdv A outer s H vs Q E gd hr h => ?_)
  · obtain ⟨x, k, rfl, _⟩ := h
    rfl
  · obtain ⟨x, k, rfl, hk, q⟩ := h
    refine ⟨_, (pss_cons
 (ps_if (PW.pt (pw_or (pt_val (pe_callB call_isi (by exact rfl) T.zisinstance (by decide +kernel) (pa_cons (pv 0) (pa_cons (pe_bltn (v := .ty "bool") (by exact rfl) T.zbool (by decide +kernel) rfl) pa_nil)))) (pw_or1 (pt_not (pt_val (pe_callB call_isi (by exact rfl) T.zisinstance (by decide +kernel) (pa_cons (pv 0) (pa_cons (pe_bltn (v := .ty "int") (by exact rfl) T.zint (by decide +kernel) rfl) pa_nil)))))))) (pss_one
 (ps_ret pe_bl)) pss_nil)
 (pss_one
 (ps_ret (pe_chain op_lt op_lt (pe_un un_neg (pe_globV T.g_BOUND)) (pv 0) (pe_globV T.g_BOUND))))), ?_⟩
    refine ⟨_, rfl, _, _, _, _, _, rfl, .ty _, hk, kit_bool _, _, rfl, ?_⟩
    cases k with
    | bl =>
      obtain ⟨b, rfl⟩ := hk.blI
      exact iteT (iteT q)
    | int =>
      obtain ⟨i, rfl⟩ := hk.intI
      refine iteF ⟨_, rfl, _, _, _, _, _, rfl, .ty _, hk, kit_int _, _, rfl, iteF ⟨_, rfl, _, rfl, _, _, rfl, rfl, _, rfl, ?_⟩⟩
      by_cases h1 : -B < i
      · have e : isIntV (.int i) = decide (i < B) := by show (decide (-B < i) && decide (i < B)) = _; rw [decide_eq_true h1, Bool.true_and]
        rw [e] at q
        rw [decide_eq_true h1]
        exact iteT ⟨_, _, rfl, rfl, q⟩
      · have e : isIntV (.int i) = false := by show (decide (-B < i) && decide (i < B)) = _; rw [decide_eq_false h1, Bool.false_and]
        rw [e] at q
        rw [decide_eq_false h1]
        exact iteF q
    | _ =>
      have e : isIntV x = false := by
        cases x with
        | int i => exact absurd hk.notInt (by intro z; cases z)
        | _ => rfl
      rw [e] at q
      exact iteF ⟨_, rfl, _, _, _, _, _, rfl, .ty _, hk, kit_int _, _, rfl, iteT q⟩

def isCountV : V → Bool
  | .int i => isIntV (.int i) && decide (0 ≤ i)
  | _ => false
def spIsCount (K : PySem.W.Frag) : Sp := fun vs H Q _ => ∃ x k, vs = [x] ∧ Of K H x k ∧ Q (.bl (isCountV x)) H
theorem h_is_count (D : Df K mg "is_count" s_is_count) (his_integer : Has P w K mg base CX0 "is_integer" 1 ["value"] (spIsInt K)) : Has P w K mg base CX0 "is_count" 2 ["value"] (spIsCount K) := by
  refine D.has sc_is_count (fun vs H Q E h => ?_) (fun kV doc pm an cdv ct us hl => match us, hl with | [_], _ => rfl) (fun f cdv A outer s H vs Q E gd hr h => ?_)
  · obtain ⟨x, k, rfl, _⟩ := h
    rfl
  · obtain ⟨x, k, rfl, hk, q⟩ := h
    refine ⟨_, (pss_one
 (ps_ret (pe_and (pe_callH his_integer gd (hr.mono (by decide)) pass0 (pa_cons (pv 0) pa_nil)) (pe_one (pe_cmpR op_ge (pv 0) pe_int (nomark _)))))), ?_⟩
    refine ⟨_, rfl, _, _, rfl, hk, _, rfl, ?_⟩
    cases h1 : isIntV x with
    | true =>
      cases x with
      | int i =>
        refine iteT ⟨_, rfl, _, _, rfl, rfl, ?_⟩
        have e : isCountV (.int i) = decide (0 ≤ i) := by show (isIntV (.int i) && decide (0 ≤ i)) = _; rw [h1, Bool.true_and]
        rw [e] at q
        exact q
      | _ => exact absurd h1 Bool.false_ne_true
    | false =>
      have e : isCountV x = false := by
        cases x with
        | int i => show (isIntV (.int i) && decide (0 ≤ i)) = _; rw [h1, Bool.false_and]
        | _ => rfl
      rw [e] at q
      exact iteF q

def isLetV : V → Bool
  | .str y => decide (y.length = 1) && y.cps.toList.all fun c => decide (97 ≤ c) && decide (c ≤ 122)
  | _ => false
theorem one_sign {y : Str} (h : y.length = 1) : ∃ c, y = ⟨#[c]⟩ := by
  obtain ⟨⟨l⟩⟩ := y
  match l, h with
  | [c], _ => exact ⟨c, rfl⟩
theorem letters_mem (c : Nat) : decide (c ∈ (("abcdefghijklmnopqrstuvwxyz" : Str)).cps.toList) = (decide (97 ≤ c) && decide (c ≤ 122)) := by
  have e : (("abcdefghijklmnopqrstuvwxyz" : Str)).cps.toList = [97, 98, 99, 100, 101, 102, 103, 104, 105, 106, 107, 108, 109, 110, 111, 112, 113, 114, 115, 116, 117, 118, 119, 120, 121, 122] := by decide +kernel
  rw [e, Bool.eq_iff_iff]
  simp only [List.mem_cons, List.not_mem_nil, or_false, decide_eq_true_eq, Bool.and_eq_true]
  omega
def spIsLet (K : PySem.W.Frag) : Sp := fun vs H Q _ => ∃ x k, vs = [x] ∧ Of K H x k ∧ (∀ y, x = .str y → y.length ≤ sizeLine) ∧ Q (.bl (isLetV x)) H
theorem h_is_letter (T : Txt K mg) (D : Df K mg "is_letter" s_is_letter) : Has P w K mg base CX0 "is_letter" 1 ["value"] (spIsLet K) := by
  refine D.has sc_is_letter (fun vs H Q E h => ?_) (fun kV doc pm an cdv ct us hl => match us, hl with | [_], _ => rfl) (fun f cdv A outer s H vs Q E gd hr h => ?_)
  · obtain ⟨x, k, rfl, _⟩ := h
    rfl
  · obtain ⟨x, k, rfl, hk, hz, q⟩ := h
    refine ⟨_, (pss_one
 (ps_ret (pe_and (pe_callB call_isi (by exact rfl) T.zisinstance (by decide +kernel) (pa_cons (pv 0) (pa_cons (pe_bltn (v := .ty "str") (by exact rfl) T.zstr (by decide +kernel) rfl) pa_nil))) (pe_and (pe_cmpR op_eq (pe_callB call_len_str (by exact rfl) T.zlen PySem.boot_len (pa_cons (pv 0) pa_nil)) pe_int (nomark _)) (pe_one (pe_cmpR op_in_sign (pv 0) (pe_globV T.gLETTERS) (by rfl))))))), ?_⟩
    refine ⟨_, rfl, _, _, _, _, _, rfl, .ty _, hk, kit_str _, _, rfl, ?_⟩
    cases k with
    | str =>
      obtain ⟨y, rfl⟩ := hk.strI
      refine iteT ⟨_, rfl, _, rfl, hz y rfl, rfl, _, rfl, ?_⟩
      refine ite2 (fun c1 => ?_) (fun c1 => ?_)
      · have l1 : y.length = 1 := by
          have := of_decide_eq_true c1
          injection this with this
          omega
        obtain ⟨c, rfl⟩ := one_sign l1
        refine ⟨_, rfl, _, _, rfl, rfl, ?_⟩
        have e : isLetV (.str ⟨#[c]⟩) = (decide (97 ≤ c) && decide (c ≤ 122)) := by
          show (decide (1 = 1) && ([c].all fun c => decide (97 ≤ c) && decide (c ≤ 122))) = _
          simp
        rw [e] at q
        rw [letters_mem]
        exact q
      · have e : isLetV (.str y) = false := by
          show (decide (y.length = 1) && _) = false
          rw [decide_eq_false (fun z => c1 (decide_eq_true (by rw [z]; rfl))), Bool.false_and]
        rw [e] at q
        exact q
    | _ =>
      have e : isLetV x = false := by
        cases x with
        | str i => exact absurd hk.notStr (by intro z; cases z)
        | _ => rfl
      rw [e] at q
      exact iteF q

def spRoll : Sp := fun vs H Q _ => ∃ p t, vs = [.ref p, .int t] ∧ Die H p ∧ 0 < t ∧ t.natAbs < 2 ^ 2000 ∧ ∀ r H', 0 ≤ r → r < t → Got p H H' → Q (.int r) H'
theorem h_law_roll (T : Txt K mg) (D : Df K mg "_law_roll" s__law_roll) : Has P w K mg base CX0 "_law_roll" 1 ["_law_dice_here", "_law_total"] spRoll := by
  refine D.has sc__law_roll (fun vs H Q E h => ?_) (fun kV doc pm an cdv ct us hl => match us, hl with | [_, _], _ => rfl) (fun f cdv A outer s H vs Q E gd hr h => ?_)
  · obtain ⟨p, t, rfl, _⟩ := h
    rfl
  · obtain ⟨p, t, rfl, ⟨l, b, c, l0, hp⟩, t0, tl, q⟩ := h
    refine ⟨_, (pss_cons
 (ps_if (pt_cmpR op_gt (pe_ix ix_list (pv 0) pe_int (fun _ _ => rfl)) pe_int (nomark _)) (pss_cons
 (ps_set (i := 2) sc__law_roll.nd rfl (Or.inl rfl) (pe_op op_mod (pe_callTy call_int1 (by exact rfl) T.zint (by decide +kernel) (pa_cons (pe_ix ix_list (pv 0) pe_int (fun _ _ => rfl)) pa_nil)) (pv 1)))
 (pss_cons
 (ps_asg (pe_op op_fdivW (pe_ix ix_list (pv 0) pe_int (fun _ _ => rfl)) (pv 1)) (pg_sub (pv 0) pe_int set_list))
 (pss_one
 (ps_ret (pv 2))))) pss_nil)
 (pss_cons
 (ps_asg (pe_op op_add (pe_ix ix_list (pv 0) pe_int (fun _ _ => rfl)) pe_int) (pg_sub (pv 0) pe_int set_list))
 (pss_cons
 (ps_set (i := 3) sc__law_roll.nd rfl (Or.inl rfl) (pe_op op_mod (pe_callTy call_int1 (by exact rfl) T.zint (by decide +kernel) (pa_cons (pe_op op_add (pe_ix ix_list (pv 0) pe_int (fun _ _ => rfl)) (pe_op op_mul pe_int (pe_ix ix_list (pv 0) pe_int (fun _ _ => rfl)))) pa_nil)) pe_int))
 (pss_cons
 (ps_set (i := 4) sc__law_roll.nd rfl (Or.inl rfl) (pe_op op_add (pe_op op_mul (pe_op op_mod (pe_callTy call_int1 (by exact rfl) T.zint (by decide +kernel) (pa_cons (pe_op op_add (pe_op op_mul (pv 3) (pv 3)) (pe_op op_mul pe_int (pe_ix ix_list (pv 0) pe_int (fun _ _ => rfl)))) pa_nil)) pe_int) pe_int) (pv 3)))
 (pss_one
 (ps_ret (pe_op op_mod (pe_callTy call_int1 (by exact rfl) T.zint (by decide +kernel) (pa_cons (pe_op op_fdiv (pv 4) pe_int) pa_nil)) (pv 1)))))))), ?_⟩
    have hS : ∀ {H : Hp} {xs}, H p = some (.lst xs) → SqL K H p xs := fun h => SqL.of h
    refine ⟨_, rfl, _, _, _, _, rfl, rfl, hS hp, atI_nat (j := 0) rfl, _, _, rfl, rfl, _, rfl, ?_⟩
    refine ite2 (fun c1 => ?_) (fun c1 => ?_)
    · refine ⟨_, rfl, _, _, _, _, rfl, rfl, hS hp, atI_nat (j := 0) rfl, .inl ⟨_, rfl, _, rfl, _, _, rfl, rfl, t0, ?_⟩⟩
      refine ⟨_, rfl, _, _, _, _, rfl, rfl, hS hp, atI_nat (j := 0) rfl, _, rfl, _, _, rfl, rfl, wide_div t0 tl (by decide) (by decide), _, rfl, _, _, _, _, rfl, rfl, hp, rfl, _, rfl, ?_⟩
      exact q _ _ (Int.emod_nonneg _ (Int.ne_of_gt t0)) (Int.emod_lt_of_pos _ t0) (Got.roll (Int.ediv_nonneg l0 (Int.le_of_lt t0)))
    · refine ⟨_, rfl, _, _, _, _, rfl, rfl, hS hp, atI_nat (j := 2) rfl, _, _, rfl, rfl, _, rfl, _, _, _, _, rfl, rfl, hp, rfl, ?_⟩
      have hp2 : (upd H p (.lst [.int l, .int b, .int (c + 1)])) p = some (.lst [.int l, .int b, .int (c + 1)]) := upd_same
      refine ⟨_, rfl, _, _, _, _, rfl, rfl, hS hp2, atI_nat (j := 1) rfl, _, rfl, _, _, _, _, rfl, rfl, hS hp2, atI_nat (j := 2) rfl, _, _, rfl, rfl, .inl ⟨by decide, by decide⟩, _, _, rfl, rfl, .inl ⟨_, rfl, _, _, rfl, rfl, by show (0 : Int) < _; decide, ?_⟩⟩
      generalize hx : (b + 15485863 * (c + 1)) % 2305843009213693693 = x1
      have x0 : 0 ≤ x1 ∧ x1 < 2305843009213693693 := by rw [← hx]; exact ⟨Int.emod_nonneg _ (by decide), Int.emod_lt_of_pos _ (by decide)⟩
      refine ⟨_, rfl, _, rfl, _, _, rfl, rfl, .inl ⟨by omega, by omega⟩, _, rfl, _, _, _, _, rfl, rfl, hS hp2, atI_nat (j := 2) rfl, _, _, rfl, rfl, .inl ⟨by decide, by decide⟩, _, _, rfl, rfl, .inl ⟨_, rfl, _, _, rfl, rfl, by show (0 : Int) < _; decide, _, _, rfl, rfl, .inr ⟨by decide, by decide⟩, _, rfl, _, _, rfl, rfl, ?_⟩⟩
      refine ⟨_, rfl, _, _, rfl, rfl, ⟨by decide, by decide⟩, .inl ⟨_, rfl, _, rfl, _, _, rfl, rfl, t0, ?_⟩⟩
      exact q _ _ (Int.emod_nonneg _ (Int.ne_of_gt t0)) (Int.emod_lt_of_pos _ t0) (Got.roll l0)

theorem at_ints {ns : List Int} {i : Int} (h0 : 0 ≤ i) (h1 : i < ns.length) : ∃ n, atI (ns.map V.int) i = some (.int n) := by
  obtain ⟨j, rfl⟩ : ∃ j : Nat, i = (j : Int) := ⟨i.toNat, by omega⟩
  have hj : j < ns.length := by omega
  exact ⟨ns[j], atI_nat (by rw [List.getElem?_map, List.getElem?_eq_getElem hj]; rfl)⟩
def spDice (K : PySem.W.Frag) : Sp := fun vs H Q _ => ∃ (a : Addr) (ns : List Int) (spot : Int), vs = [.ref a, .int spot] ∧ SqL K H a (ns.map V.int) ∧ 0 ≤ spot ∧ ∀ p H', H p = none → Same H H' → Die H' p → Q (.ref p) H'
theorem h_law_dice (T : Txt K mg) (D : Df K mg "_law_dice" s__law_dice) : Has P w K mg base CX0 "_law_dice" 1 ["_law_script", "_law_spot"] (spDice K) := by
  refine D.has sc__law_dice (fun vs H Q E h => ?_) (fun kV doc pm an cdv ct us hl => match us, hl with | [_, _], _ => rfl) (fun f cdv A outer s H vs Q E gd hr h => ?_)
  · obtain ⟨a, ns, spot, rfl, _⟩ := h
    rfl
  · obtain ⟨a, ns, spot, rfl, hS, s0, q⟩ := h
    refine ⟨_, (Evl.pss_cut
 (ps_set (i := 2) sc__law_dice.nd rfl (Or.inl rfl) (pe_ifExp (pt_cmpR op_lt (pv 1) (pe_callB call_len_seq (by exact rfl) T.zlen PySem.boot_len (pa_cons (pv 0) pa_nil)) (nomark _)) (pe_callTy call_int1 (by exact rfl) T.zint (by decide +kernel) (pa_cons (pe_ix ix_list (pv 0) (pv 1) (fun _ _ => rfl)) pa_nil)) (pe_op op_add (pe_op op_mul pe_int (pv 1)) pe_int)))
 (pss_cons
 (ps_set (i := 3) sc__law_dice.nd rfl (Or.inl rfl) (pe_op op_mod (pe_callB (call_max2 rfl) (by exact rfl) T.zmax (by decide +kernel) (pa_cons pe_int (pa_cons (pe_op op_sub (pe_callB call_abs (by exact rfl) T.zabs (by decide +kernel) (pa_cons (pv 2) pa_nil)) (pe_op op_pow pe_int pe_int)) pa_nil))) (pe_op op_mulW (pe_op op_pow pe_int pe_int) (pe_op op_pow pe_int pe_int))))
 (pss_one
 (ps_ret (pe_lst (pa_cons (pv 3) (pa_cons (pe_op op_add (pe_op op_add (pe_op op_add (pe_op op_mul (pe_op op_mod (pe_callB call_abs (by exact rfl) T.zabs (by decide +kernel) (pa_cons (pv 2) pa_nil)) pe_int) pe_int) (pe_op op_mul pe_int (pv 1))) (pe_op op_mul pe_int (pe_callTy call_int1 (by exact rfl) T.zint (by decide +kernel) (pa_cons (pe_cmpR op_lt (pv 2) pe_int (nomark _)) pa_nil)))) pe_int) (pa_cons pe_int pa_nil)))))))), ?_⟩
    refine ⟨fun σ' H' => ∃ cell : Int, σ' = [some (.ref a), some (.int spot), some (.int cell), none] ∧ H' = H, ?_, ?_⟩
    · refine ⟨_, rfl, _, rfl, _, _, rfl, .inl hS, _, _, rfl, rfl, _, rfl, ?_⟩
      refine ite2 (fun c1 => ?_) (fun c1 => ?_)
      · have c1' : spot < ((ns.map V.int).length : Int) := of_decide_eq_true c1
        rw [List.length_map] at c1'
        obtain ⟨n, hn⟩ := at_ints s0 c1'
        exact ⟨_, rfl, _, rfl, _, _, _, _, rfl, rfl, hS, hn, .inl ⟨_, rfl, _, rfl, rfl⟩⟩
      · exact ⟨_, rfl, _, _, rfl, rfl, .inl ⟨by decide, by decide⟩, _, _, rfl, rfl, _, rfl, rfl⟩
    rintro _ _ ⟨cell, rfl, rfl⟩
    refine ⟨_, rfl, _, rfl, _, _, rfl, rfl, ⟨by decide, by decide, by decide⟩, _, _, rfl, rfl, _, _, rfl, _, _, rfl, rfl, ⟨by decide, by decide, by decide⟩, _, _, rfl, rfl, ⟨by decide, by decide, by decide⟩, _, _, rfl, rfl, wide_mul (a := 250) (b := 250) (by decide +kernel) (by decide +kernel) (by decide) (by decide) (by decide), _, _, rfl, rfl, by show (0 : Int) < _; decide +kernel, ?_⟩
    refine ⟨_, rfl, _, rfl, _, rfl, _, _, rfl, rfl, by show (0 : Int) < _; decide, _, _, rfl, rfl, .inr ⟨by decide, by decide⟩, _, rfl, _, _, rfl, rfl, .inl ⟨by decide, by decide⟩, _, _, rfl, rfl, _, rfl, _, _, rfl, rfl, .inr ⟨_, rfl, _, _, rfl, rfl, .inl ⟨by decide, by decide⟩, _, _, rfl, rfl, _, _, rfl, rfl, by show 3 ≤ sizeLine; decide, fun p hp => ?_⟩⟩
    exact q p _ hp (fun b o e => by rw [upd_ne (ne_of_none e hp)]; exact e) ⟨_, _, _, Int.emod_nonneg _ (by decide +kernel), upd_same⟩

def spPick : Sp := fun vs H Q _ => ∃ (p q : Addr) (xs : List V), vs = [.ref p, .ref q] ∧ Die H p ∧ (H q = some (.lst xs) ∨ H q = some (.tup xs)) ∧ q ≠ p ∧ 0 < xs.length ∧ xs.length ≤ 1000 ∧ ∀ v H', v ∈ xs → Got p H H' → Q v H'
theorem h_law_pick (T : Txt K mg) (D : Df K mg "_law_pick" s__law_pick) (h_law_roll : Has P w K mg base CX0 "_law_roll" 1 ["_law_dice_here", "_law_total"] spRoll) : Has P w K mg base CX0 "_law_pick" 2 ["_law_dice_here", "_law_items"] spPick := by
  refine D.has sc__law_pick (fun vs H Q E h => ?_) (fun kV doc pm an cdv ct us hl => match us, hl with | [_, _], _ => rfl) (fun f cdv A outer s H vs Q E gd hr h => ?_)
  · obtain ⟨p, q, xs, rfl, _⟩ := h
    rfl
  · obtain ⟨p, q, xs, rfl, hd, hx, ne, l0, l1, k⟩ := h
    refine ⟨_, (pss_one
 (ps_ret (pe_ix ix_seq (pv 1) (pe_callH h_law_roll gd (hr.mono (by decide)) pass0 (pa_cons (pv 0) (pa_cons (pe_callB call_len_seq (by exact rfl) T.zlen PySem.boot_len (pa_cons (pv 1) pa_nil)) pa_nil))) (fun _ _ => rfl)))), ?_⟩
    have hs : SqL K H q xs ∨ SqT K H q xs := hx.imp SqL.of SqT.of
    refine ⟨_, rfl, _, rfl, _, rfl, _, _, rfl, hs, _, _, rfl, hd, (by omega), Nat.lt_of_le_of_lt (show ((xs.length : Int)).natAbs ≤ 1000 by omega) (by decide), fun r H1 r0 r1 g => ?_⟩
    obtain ⟨j, rfl⟩ : ∃ j : Nat, r = (j : Int) := ⟨r.toNat, by omega⟩
    have hj : j < xs.length := by omega
    have hg : xs[j]? = some xs[j] := List.getElem?_eq_getElem hj
    rcases hx with hx | hx
    · exact .inl ⟨q, xs, _, _, rfl, rfl, SqL.of (g.keep _ _ hx ne), atI_nat hg, k _ _ (List.getElem_mem hj) g⟩
    · exact .inr (.inl ⟨q, xs, _, _, rfl, rfl, SqT.of (g.keep _ _ hx ne), atI_nat hg, k _ _ (List.getElem_mem hj) g⟩)

theorem B_eq : (B : Int) = 10 ^ 400 := by unfold B; rfl
def spLimit : Sp := fun vs H Q _ => vs = [] ∧ Q (.int B) H
theorem h_law_limit (D : Df K mg "_law_limit" s__law_limit) : Has P w K mg base CX0 "_law_limit" 1 [] spLimit := by
  refine D.has sc__law_limit (fun vs H Q E h => ?_) (fun kV doc pm an cdv ct us hl => match us, hl with | [], _ => rfl) (fun f cdv A outer s H vs Q E gd hr h => ?_)
  · obtain ⟨rfl, _⟩ := h
    rfl
  · obtain ⟨rfl, q⟩ := h
    refine ⟨_, (pss_one
 (ps_ret (pe_op op_powW (pe_op op_pow pe_int pe_int) pe_int))), ?_⟩
    refine ⟨_, _, rfl, rfl, ⟨by decide, by decide, by decide⟩, _, _, rfl, rfl, ⟨by decide, by decide +kernel⟩, ?_⟩
    have e : (((10 : Int) ^ (50 : Int).toNat) ^ (8 : Int).toNat) = B := by rw [B_eq]; decide +kernel
    show Q (.int (((10 : Int) ^ (50 : Int).toNat) ^ (8 : Int).toNat)) H
    rw [e]
    exact q
@[irreducible] def W : Nat := 10 ^ 460
def spNumber : Sp := fun vs H Q _ => ∃ p, vs = [.ref p] ∧ Die H p ∧ ∀ n H', n.natAbs < W → Got p H H' → Q (.int n) H'
theorem W_eq : W = 10 ^ 460 := by unfold W; rfl
theorem near_ok {v : V} (h : v ∈ [V.int 0, V.int 1, V.int 10, V.int (10 ^ (20 : Int).toNat), V.int (B / 10), V.int B, V.int B, V.int (B * 10 ^ (50 : Int).toNat)]) : ∃ n : Int, v = .int n ∧ n.natAbs ≤ 10 ^ 450 := by
  have hB := B_eq
  simp only [List.mem_cons, List.not_mem_nil, or_false] at h
  rcases h with h | h | h | h | h | h | h | h <;> subst h <;> refine ⟨_, rfl, ?_⟩ <;> (try rw [hB]) <;> decide +kernel
theorem h_law_number (D : Df K mg "_law_number" s__law_number) (h_law_limit : Has P w K mg base CX0 "_law_limit" 1 [] spLimit) (h_law_roll : Has P w K mg base CX0 "_law_roll" 1 ["_law_dice_here", "_law_total"] spRoll)
    (h_law_pick : Has P w K mg base CX0 "_law_pick" 2 ["_law_dice_here", "_law_items"] spPick) : Has P w K mg base CX0 "_law_number" 3 ["_law_dice_here"] spNumber := by
  refine D.has sc__law_number (fun vs H Q E h => ?_) (fun kV doc pm an cdv ct us hl => match us, hl with | [_], _ => rfl) (fun f cdv A outer s H vs Q E gd hr h => ?_)
  · obtain ⟨p, rfl, _⟩ := h
    rfl
  · obtain ⟨p, rfl, hd, k⟩ := h
    refine ⟨_, (pss_cons
 (ps_set (i := 1) sc__law_number.nd rfl (Or.inl rfl) (pe_lst (pa_cons pe_int (pa_cons pe_int (pa_cons pe_int (pa_cons (pe_op op_pow pe_int pe_int) (pa_cons (pe_op op_fdiv (pe_call0H h_law_limit gd (hr.mono (by decide)) pass0) pe_int) (pa_cons (pe_call0H h_law_limit gd (hr.mono (by decide)) pass0) (pa_cons (pe_call0H h_law_limit gd (hr.mono (by decide)) pass0) (pa_cons (pe_op op_mulW (pe_call0H h_law_limit gd (hr.mono (by decide)) pass0) (pe_op op_pow pe_int pe_int)) pa_nil))))))))))
 (pss_cons
 (ps_set (i := 2) sc__law_number.nd rfl (Or.inl rfl) (pe_op op_sub (pe_op op_add (pe_callH h_law_pick gd (hr.mono (by decide)) pass0 (pa_cons (pv 0) (pa_cons (pv 1) pa_nil))) (pe_callH h_law_roll gd (hr.mono (by decide)) pass0 (pa_cons (pv 0) (pa_cons pe_int pa_nil)))) pe_int))
 (pss_one
 (ps_ret (pe_ifExp (pt_cmpR op_eq (pe_callH h_law_roll gd (hr.mono (by decide)) pass0 (pa_cons (pv 0) (pa_cons pe_int pa_nil))) pe_int (nomark _)) (pe_op op_sub pe_int (pv 2)) (pv 2)))))), ?_⟩
    refine ⟨_, _, rfl, rfl, ⟨by decide, by decide, by decide⟩, rfl, _, _, rfl, rfl, ⟨by decide, by decide⟩, rfl, rfl, rfl, _, _, rfl, rfl, ⟨by decide, by decide, by decide⟩, _, _, rfl, rfl, wide_mul (a := 1400) (b := 200) (by rw [B_eq]; decide +kernel) (by decide +kernel) (by decide) (by decide) (by decide), by show 8 ≤ sizeLine; decide, fun l hl => ?_⟩
    have d1 : ∀ o, Got p H (upd H l o) := fun o => Got.new hd hl
    refine ⟨_, rfl, _, rfl, _, _, _, rfl, (d1 _).die, .inl upd_same, (hd.ne hl).symm, (by show 0 < 8; decide), (by show 8 ≤ 1000; decide), fun v H1 hv g1 => ?_⟩
    obtain ⟨n, rfl, hn⟩ := near_ok hv
    refine ⟨_, rfl, _, _, rfl, g1.die, by decide, by decide, fun r H2 r0 r1 g2 => ?_⟩
    refine ⟨_, _, rfl, rfl, _, _, rfl, rfl, ?_⟩
    have big : (n + r - 2).natAbs < W := by
      rw [W_eq]
      have : (n + r - 2).natAbs ≤ n.natAbs + 2 := by omega
      exact Nat.lt_of_le_of_lt (Nat.le_trans this (Nat.add_le_add_right hn 2)) (by decide +kernel)
    refine ⟨_, rfl, _, _, rfl, g2.die, by decide, by decide, fun r3 H3 r30 r31 g3 => ?_⟩
    refine ⟨rfl, _, rfl, ?_⟩
    have gg := (((d1 _).trans g1).trans g2).trans g3
    refine ite2 (fun c1 => ?_) (fun c1 => ?_)
    · exact ⟨_, rfl, _, _, rfl, rfl, k _ _ (by rw [Int.zero_sub, Int.natAbs_neg]; exact big) gg⟩
    · exact ⟨_, rfl, k _ _ big gg⟩

/-- the figures of a number -/
theorem div_ten (x k : Nat) : x / 10 ^ k / 10 = x / 10 ^ (k + 1) := by rw [Nat.div_div_eq_div_mul, Nat.pow_succ]
def spFig : Sp := fun vs H Q _ => ∃ n : Int, vs = [.int n] ∧ n.natAbs < W ∧ ∀ m : Int, (m ≤ 400 ↔ n.natAbs < 10 ^ 400) → Q (.int m) H
theorem fig_end {x k : Nat} (h0 : x / 10 ^ (k + 1) = 0) (h1 : 0 < k → 10 ^ k ≤ x) : ((k : Int) + 1 ≤ 400 ↔ x < 10 ^ 400) := by
  have lt : x < 10 ^ (k + 1) := by
    rcases Nat.lt_or_ge x (10 ^ (k + 1)) with h | h
    · exact h
    · exact absurd h0 (Nat.ne_of_gt (Nat.div_pos h (Nat.pow_pos (by decide))))
  constructor
  · intro h
    exact Nat.lt_of_lt_of_le lt (Nat.pow_le_pow_right (by decide) (by omega))
  · intro h
    rcases Nat.lt_or_ge k 400 with z | z
    · omega
    · exact absurd h (Nat.not_lt.mpr (Nat.le_trans (Nat.pow_le_pow_right (by decide) z) (h1 (by omega))))
theorem h_law_figures (T : Txt K mg) (D : Df K mg "_law_figures" s__law_figures) : Has P w K mg base CX0 "_law_figures" 1 ["_law_number_here"] spFig := by
  refine D.has sc__law_figures (fun vs H Q E h => ?_) (fun kV doc pm an cdv ct us hl => match us, hl with | [_], _ => rfl) (fun f cdv A outer s H vs Q E gd hr h => ?_)
  · obtain ⟨n, rfl, _⟩ := h
    rfl
  · obtain ⟨n, rfl, hn, k⟩ := h
    refine ⟨_, (pss_cons
 (ps_par (i := 1) (j := 2) (by rfl) sc__law_figures.nd rfl rfl (by decide) rfl rfl (pa_cons pe_int (pa_cons (pe_op op_fdiv (pe_callB call_abs (by exact rfl) T.zabs (by decide +kernel) (pa_cons (pv 0) pa_nil)) pe_int) pa_nil)) (by rfl))
 (pss_cons
 (ps_for PassesOwn.never rfl (pi_range1 (by exact rfl) T.zrange (pa_cons pe_int pa_nil)) (pg_name (i := 3) sc__law_figures.nd rfl (Or.inl rfl)) (pss_cons
 (ps_if (pt_cmpR op_eq (pv 2) pe_int (nomark _)) (pss_one
 ps_break) pss_nil)
 (pss_one
 (ps_par (i := 1) (j := 2) (by rfl) sc__law_figures.nd rfl rfl (by decide) rfl rfl (pa_cons (pe_op op_add (pv 1) pe_int) (pa_cons (pe_op op_fdiv (pv 2) pe_int) pa_nil)) (by rfl)))))
 (pss_one
 (ps_ret (pv 1))))), ?_⟩
    have ea : (if n < 0 then -n else n) = (n.natAbs : Int) := by split <;> omega
    refine ⟨_, rfl, _, rfl, _, _, rfl, rfl, ⟨by decide, by decide⟩, _, _, rfl, ?_⟩
    rw [ea]
    refine ⟨_, rfl, by decide, by decide, for_range (lo := 0) (n := 600) (fun i σ' H' => ∃ t, H' = H ∧ σ' = [some (.int n), some (.int ((i : Int) + 1)), some (.int ((n.natAbs / 10 ^ (i + 1) : Nat) : Int)), t] ∧ (0 < i → 10 ^ i ≤ n.natAbs)) ⟨none, rfl, ?_, fun z => absurd z (Nat.lt_irrefl _)⟩ ?_ ?_⟩
    · simp only [Nat.zero_add, Nat.pow_one]
      rfl
    · rintro i _ _ hi ⟨t, rfl, rfl, h1⟩
      refine ⟨_, rfl, rfl, _, rfl, ?_⟩
      refine ite2 (fun c1 => ?_) (fun c1 => ?_)
      · have z : n.natAbs / 10 ^ (i + 1) = 0 := by
          have := of_decide_eq_true c1
          injection this with this
          omega
        exact ⟨_, rfl, k _ (fig_end z h1)⟩
      · have z : n.natAbs / 10 ^ (i + 1) ≠ 0 := fun z => c1 (decide_eq_true (by rw [z]; rfl))
        refine ⟨_, rfl, _, _, rfl, rfl, _, rfl, _, _, rfl, rfl, ⟨by decide, by decide⟩, _, _, rfl, ?_⟩
        refine ⟨some (.int (0 + (i : Int))), rfl, ?_, fun _ => ?_⟩
        · have e : ((n.natAbs / 10 ^ (i + 1) : Nat) : Int) / 10 = ((n.natAbs / 10 ^ (i + 1 + 1) : Nat) : Int) := by rw [← div_ten n.natAbs (i + 1)]; exact (Int.natCast_ediv _ 10).symm
          show [some (V.int n), some (V.int ((i : Int) + 1 + 1)), some (V.int (((n.natAbs / 10 ^ (i + 1) : Nat) : Int) / 10)), some (V.int (0 + (i : Int)))] = _
          rw [e]
          have e2 : ((i + 1 : Nat) : Int) + 1 = (i : Int) + 1 + 1 := by omega
          rw [e2]
        · rcases Nat.lt_or_ge n.natAbs (10 ^ (i + 1)) with h | h
          · exact absurd (Nat.div_eq_of_lt h) z
          · exact h
    · rintro _ _ ⟨t, rfl, rfl, h1⟩
      have z : n.natAbs / 10 ^ (600 + 1) = 0 := by
        apply Nat.div_eq_of_lt
        rw [W_eq] at hn
        exact Nat.lt_of_lt_of_le hn (Nat.pow_le_pow_right (by decide) (by decide))
      exact ⟨_, rfl, k _ (fig_end z h1)⟩

/-! ### a sign -/
theorem h_law_sign (D : Df K mg "_law_sign" s__law_sign) (h_law_pick : Has P w K mg base CX0 "_law_pick" 2 ["_law_dice_here", "_law_items"] spPick) : Has P w K mg base CX0 "_law_sign" 3 ["_law_dice_here"]
    (fun vs H Q _ => ∃ p, vs = [.ref p] ∧ Die H p ∧ ∀ y H', y.length ≤ 2 → Got p H H' → Q (.str y) H') := by
  refine D.has sc__law_sign (fun vs H Q E h => ?_) (fun kV doc pm an cdv ct us hl => match us, hl with | [_], _ => rfl) (fun f cdv A outer s H vs Q E gd hr h => ?_)
  · obtain ⟨p, rfl, _⟩ := h
    rfl
  · obtain ⟨p, rfl, hd, k⟩ := h
    refine ⟨_, (pss_cons
 (ps_set (i := 1) sc__law_sign.nd rfl (Or.inl rfl) pe_str)
 (pss_cons
 (ps_set (i := 2) sc__law_sign.nd rfl (Or.inl rfl) (pe_callH h_law_pick gd (hr.mono (by decide)) pass0 (pa_cons (pv 0) (pa_cons (pe_lc (own := [("_law_sign_here", 3)]) (g := gName 3) (tt := tYes) (by rfl) sc__law_sign.nd (pi_str (pv 1)) (blkOk_by (own := [("_law_sign_here", 3)]) (N := N__law_sign) (sc := defScope s__law_sign) (by decide +kernel)) (fun _ _ _ _ _ => pg_name (i := 3) sc__law_sign.nd rfl (Or.inl rfl)) (fun _ _ _ _ _ => pts_nil) (fun _ _ _ _ _ => (pv 3))) pa_nil))))
 (pss_one
 (ps_ret (pe_op op_add_str (pv 2) (pe_callH h_law_pick gd (hr.mono (by decide)) pass0 (pa_cons (pv 0) (pa_cons (pe_lst (pa_cons pe_str (pa_cons pe_str (pa_cons pe_str (pa_cons pe_str (pa_cons pe_str (pa_cons (pv 2) pa_nil))))))) pa_nil)))))))), ?_⟩
    refine ⟨_, rfl, _, rfl, _, rfl, fun L hL => lc_it (walk_str (z := "abcdefghijklmnopqrstuvwxyzAZ09 _-.,+{}[]@")) (fun i H' => Got p H H' ∧ ∃ acc, H' L = some (.lst acc) ∧ acc.length = i ∧ ∀ v ∈ acc, ∃ c, v = V.str ⟨#[c]⟩)
      ⟨Got.new hd hL, [], upd_same, rfl, fun v hv => absurd hv List.not_mem_nil⟩ (fun _ _ _ _ => True.intro) ?_ ?_⟩
    · rintro i x H1 _ hi ⟨g, acc, e1, e2, e3⟩ ⟨rfl, c, hc, rfl⟩
      refine ⟨rfl, ?_⟩
      simp only [tYes, if_true]
      refine ⟨_, rfl, acc, e1, ?_, ?_, acc ++ [V.str ⟨#[c]⟩], upd_same, by rw [List.length_append, e2]; rfl, fun v hv => ?_⟩
      · rw [e2]
        exact Nat.lt_of_lt_of_le hi (by decide +kernel)
      · refine ⟨fun b o e n => ?_, ?_⟩
        · rw [upd_ne (ne_of_none e hL)]
          exact g.keep b o e n
        · obtain ⟨l, b, c, l0, ep⟩ := g.die
          obtain ⟨_, _, _, _, ep0⟩ := hd
          exact ⟨l, b, c, l0, by rw [upd_ne (ne_of_none ep0 hL)]; exact ep⟩
      · rcases List.mem_append.mp hv with z | z
        · exact e3 v z
        · exact ⟨c, List.mem_singleton.mp z⟩
    · rintro H1 ⟨g, acc, e1, e2, e3⟩
      have sz : ("abcdefghijklmnopqrstuvwxyzAZ09 _-.,+{}[]@" : Str).cps.size = 41 := by decide +kernel
      have nL : L ≠ p := by
        obtain ⟨_, _, _, _, ep0⟩ := hd
        exact (ne_of_none ep0 hL).symm
      refine ⟨_, _, _, rfl, g.die, .inl e1, nL, by rw [e2, sz]; decide, by rw [e2, sz]; decide, fun v H2 hv g2 => ?_⟩
      obtain ⟨c, rfl⟩ := e3 v hv
      refine ⟨_, rfl, _, rfl, _, rfl, by show 6 ≤ sizeLine; decide, fun M hM => ?_⟩
      refine ⟨_, _, _, rfl, (Got.new g2.die hM).die, .inl upd_same, (g2.die.ne hM).symm, by show 0 < 6; decide, by show 6 ≤ 1000; decide, fun u H3 hu g3 => ?_⟩
      obtain ⟨y, rfl, hy⟩ : ∃ y, u = V.str y ∧ y.length ≤ 1 := by
        simp only [List.mem_cons, List.not_mem_nil, or_false] at hu
        rcases hu with h | h | h | h | h | h <;> subst h <;> refine ⟨_, rfl, ?_⟩ <;> first | decide | exact Nat.le_refl 1
      have hl : (⟨#[c]⟩ : Str).length + y.length ≤ 2 := by
        have : (⟨#[c]⟩ : Str).length = 1 := rfl
        omega
      refine ⟨_, _, rfl, rfl, Nat.le_trans hl (by decide), k _ _ (by rw [Str.length_append]; exact hl) (((g.trans g2).trans (Got.new g2.die hM)).trans g3)⟩

/-! ### the law -/
def spSign : Sp := fun vs H Q _ => ∃ p, vs = [.ref p] ∧ Die H p ∧ ∀ y H', y.length ≤ 2 → Got p H H' → Q (.str y) H'
theorem int_short {n : Int} : isIntV (.int n) = decide (n.natAbs < 10 ^ 400) := by
  have e : (10 : Int) ^ 400 = ((10 ^ 400 : Nat) : Int) := by rw [Int.natCast_pow]; rfl
  show (decide (-B < n) && decide (n < B)) = _
  rw [B_eq, e]
  generalize (10 ^ 400 : Nat) = N
  rw [Bool.eq_iff_iff]
  simp only [Bool.and_eq_true, decide_eq_true_eq]
  omega
theorem let_chain {c : Nat} : isLetV (.str ⟨#[c]⟩) = (decide (97 ≤ c) && decide (c ≤ 122)) := by
  show (decide (1 = 1) && ([c].all fun c => decide (97 ≤ c) && decide (c ≤ 122))) = _
  simp
theorem le_one {a c : Nat} : decide (¬ [c] < [a]) = decide (a ≤ c) := by
  rw [Bool.eq_iff_iff]
  simp only [decide_eq_true_eq, List.cons_lt_cons_iff]
  constructor
  · intro h
    rcases Nat.lt_or_ge c a with z | z
    · exact absurd (Or.inl z) h
    · exact z
  · rintro h (z | ⟨rfl, z⟩)
    · omega
    · exact absurd z (by simp)
def b3 (x y z : Bool) : PyData := .list [.bool x, .bool y, .bool z]
theorem b3_ok (x y z : Bool) : (b3 x y z).showable = true ∧ (b3 x y z).hasDict = false ∧ (b3 x y z).depth ≤ 20 ∧ (b3 x y z).shown.length ≤ sizeLine := by
  cases x <;> cases y <;> cases z <;> exact ⟨by decide +kernel, by decide +kernel, by decide +kernel, by decide +kernel⟩
theorem b3_dp {K : PySem.W.Frag} {H : Hp} {l : Addr} {x y z : Bool} (h : H l = some (.lst [.bl x, .bl y, .bl z])) : Dp K H (.ref l) (b3 x y z) :=
  .lst (SqL.of h) (.cons (.bl _) (.cons (.bl _) (.cons (.bl _) .nil)))
theorem le_one' {a c : Nat} : (!decide ([c] < [a])) = decide (a ≤ c) := by
  rw [← le_one, Bool.eq_iff_iff]
  simp only [Bool.not_eq_true', decide_eq_false_iff_not, decide_eq_true_eq]
theorem let_last (y : Str) : ∃ b, (decide (V.int y.length = V.int 1) = true → ∃ c, y = ⟨#[c]⟩ ∧ b = (decide (97 ≤ c) && decide (c ≤ 122))) ∧ (decide (V.int y.length = V.int 1) && b) = isLetV (.str y) := by
  by_cases h : y.length = 1
  · obtain ⟨c, rfl⟩ := one_sign h
    refine ⟨_, fun _ => ⟨c, rfl, rfl⟩, ?_⟩
    rw [let_chain]
    have : decide (V.int ((⟨#[c]⟩ : Str).length : Int) = V.int 1) = true := decide_eq_true rfl
    rw [this, Bool.true_and]
  · have e : decide (V.int (y.length : Int) = V.int 1) = false := decide_eq_false (fun z => h (by injection z with z; omega))
    refine ⟨false, fun z => ?_, ?_⟩
    · rw [e] at z
      cases z
    · rw [e]
      show false = (decide (y.length = 1) && _)
      rw [decide_eq_false h, Bool.false_and]
def spLaw (K : PySem.W.Frag) : Sp := fun vs H Q _ => ∃ (a : Addr) (ns : List Int), vs = [.ref a] ∧ SqL K H a (ns.map V.int) ∧ ns.length ≤ 63 ∧ ∀ H', Q (.bl true) H'
theorem law_ok (T : Txt K mg) (h_law_dice : Has P w K mg base CX0 "_law_dice" 1 ["_law_script", "_law_spot"] (spDice K)) (h_law_pick : Has P w K mg base CX0 "_law_pick" 2 ["_law_dice_here", "_law_items"] spPick)
    (h_law_number : Has P w K mg base CX0 "_law_number" 3 ["_law_dice_here"] spNumber) (h_law_sign : Has P w K mg base CX0 "_law_sign" 3 ["_law_dice_here"] spSign) (h_law_figures : Has P w K mg base CX0 "_law_figures" 1 ["_law_number_here"] spFig)
    (his_integer : Has P w K mg base CX0 "is_integer" 1 ["value"] (spIsInt K)) (his_count : Has P w K mg base CX0 "is_count" 2 ["value"] (spIsCount K)) (his_letter : Has P w K mg base CX0 "is_letter" 1 ["value"] (spIsLet K))
    {f : Addr} {fd : FuncData} (F : Fun K "law" "law" s_law f fd) : FnG P w K mg base CX0 4 f fd ["_law_script"] (spLaw K) := by
  refine F.g sc_law (fun vs H Q E h => ?_) (fun cdv A outer s H vs Q E gd hr h => ?_)
  · obtain ⟨a, ns, rfl, _⟩ := h
    rfl
  · obtain ⟨a, ns, rfl, hS, hl, k⟩ := h
    have hu := hr.units
    refine ⟨_, (pss_cons
 (ps_for PassesOwn.never rfl (pi_range1 (by exact rfl) T.zrange (pa_cons (pe_callB (call_max2 rfl) (by exact rfl) T.zmax (by decide +kernel) (pa_cons pe_int (pa_cons (pe_callB (call_min2 rfl) (by exact rfl) T.zmin (by decide +kernel) (pa_cons pe_int (pa_cons (pe_callB call_len_seq (by exact rfl) T.zlen PySem.boot_len (pa_cons (pv 0) pa_nil)) pa_nil))) pa_nil))) pa_nil)) (pg_name (i := 1) sc_law.nd rfl (Or.inl rfl)) (pss_cons
 (ps_set (i := 2) sc_law.nd rfl (Or.inl rfl) (pe_callH h_law_dice gd (hr.mono (by decide)) pass0 (pa_cons (pv 0) (pa_cons (pv 1) pa_nil))))
 (pss_cons
 (ps_for PassesOwn.never rfl (pi_range1 (by exact rfl) T.zrange (pa_cons pe_int pa_nil)) (pg_name (i := 3) sc_law.nd rfl (Or.inl rfl)) (pss_cons
 (ps_par (i := 4) (j := 5) (by rfl) sc_law.nd rfl rfl (by decide) rfl rfl (pa_cons (pe_callH h_law_number gd (hr.mono (by decide)) pass0 (pa_cons (pv 2) pa_nil)) (pa_cons (pe_callH h_law_sign gd (hr.mono (by decide)) pass0 (pa_cons (pv 2) pa_nil)) pa_nil)) (by rfl))
 (pss_cons
 (ps_set (i := 6) sc_law.nd rfl (Or.inl rfl) (pe_cmpR op_le (pe_callH h_law_figures gd (hr.mono (by decide)) pass0 (pa_cons (pv 4) pa_nil)) pe_int (nomark _)))
 (pss_cons
 (ps_set (i := 7) sc_law.nd rfl (Or.inl rfl) (pe_lst (pa_cons (pe_callH his_integer gd (hr.mono (by decide)) pass0 (pa_cons (pv 4) pa_nil)) (pa_cons (pe_callH his_count gd (hr.mono (by decide)) pass0 (pa_cons (pv 4) pa_nil)) (pa_cons (pe_callH his_letter gd (hr.mono (by decide)) pass0 (pa_cons (pv 5) pa_nil)) pa_nil)))))
 (pss_one
 (ps_if (pt_cmpR op_ne (pe_callB (call_repr gd hu) (by exact rfl) T.zrepr (by decide +kernel) (pa_cons (pv 7) pa_nil)) (pe_callB (call_repr gd hu) (by exact rfl) T.zrepr (by decide +kernel) (pa_cons (pe_lst (pa_cons (pv 6) (pa_cons (pe_and (pv 6) (pe_one (pe_cmpR op_ge (pv 4) pe_int (nomark _)))) (pa_cons (pe_and (pe_cmpR op_eq (pe_callB call_len_str (by exact rfl) T.zlen PySem.boot_len (pa_cons (pv 5) pa_nil)) pe_int (nomark _)) (pe_one (pe_chain op_le_str op_le_str pe_str (pv 5) pe_str))) pa_nil)))) pa_nil)) (nomark _)) (pss_one
 (ps_ret pe_bl)) pss_nil))))))
 (pss_cons
 (ps_set (i := 8) sc_law.nd rfl (Or.inl rfl) (pe_callH h_law_pick gd (hr.mono (by decide)) pass0 (pa_cons (pv 2) (pa_cons (pe_lst (pa_cons pe_non (pa_cons pe_bl (pa_cons pe_bl (pa_cons pe_str (pa_cons (pe_tup pa_nil) (pa_cons (pe_tup (pa_cons pe_int pa_nil)) (pa_cons (pe_lst (pa_cons pe_int pa_nil)) (pa_cons (pe_disp (pps_cons pe_int pe_int pps_nil) (by rfl) (by rfl) (fun z => by cases z) (by decide)) (pa_cons (pe_tup (pa_cons pe_str pa_nil)) (pa_cons (pe_lst (pa_cons pe_str pa_nil)) (pa_cons pe_str (pa_cons pe_str (pa_cons (pe_disp (pps_cons pe_str pe_int pps_nil) (by rfl) (by rfl) (fun z => by cases z) (by decide)) (pa_cons pe_str pa_nil))))))))))))))) pa_nil))))
 (pss_one
 (ps_if (PW.pt (pw_or (pt_cmpR (op_neD hu) (pe_lst (pa_cons (pe_callH his_integer gd (hr.mono (by decide)) pass0 (pa_cons (pv 8) pa_nil)) (pa_cons (pe_callH his_count gd (hr.mono (by decide)) pass0 (pa_cons (pv 8) pa_nil)) (pa_cons (pe_callH his_letter gd (hr.mono (by decide)) pass0 (pa_cons (pv 8) pa_nil)) pa_nil)))) (pe_lst (pa_cons pe_bl (pa_cons pe_bl (pa_cons pe_bl pa_nil)))) (nomark _)) (pw_or1 (pt_cmpR op_isnot_bl (pe_callH his_letter gd (hr.mono (by decide)) pass0 (pa_cons (pv 4) pa_nil)) pe_bl (nomark _))))) (pss_one
 (ps_ret pe_bl)) pss_nil))))))
 (pss_one
 (ps_ret (pe_cmpR (op_eqD hu) (pe_lst (pa_cons (pe_callH his_integer gd (hr.mono (by decide)) pass0 (pa_cons pe_int pa_nil)) (pa_cons (pe_callH his_count gd (hr.mono (by decide)) pass0 (pa_cons pe_int pa_nil)) (pa_cons (pe_callH his_count gd (hr.mono (by decide)) pass0 (pa_cons (pe_op op_sub pe_int pe_int) pa_nil)) (pa_cons (pe_globV T.gMAX_FIGURES) pa_nil))))) (pe_lst (pa_cons pe_bl (pa_cons pe_bl (pa_cons pe_bl (pa_cons pe_int pa_nil))))) (nomark _))))), ?_⟩
    have few : ∀ z : Int, z = (if (if ((ns.map V.int).length : Int) < 5 then ((ns.map V.int).length : Int) else 5) > 1 then (if ((ns.map V.int).length : Int) < 5 then ((ns.map V.int).length : Int) else 5) else 1) → 0 ≤ z ∧ z ≤ 5 := by
      intro z hz
      subst hz
      constructor <;> (split <;> (try split) <;> omega)
    refine ⟨_, rfl, _, _, rfl, .inl hS, _, _, rfl, _, _, rfl, ?_⟩
    generalize hz : (if (if ((ns.map V.int).length : Int) < 5 then ((ns.map V.int).length : Int) else 5) > 1 then (if ((ns.map V.int).length : Int) < 5 then ((ns.map V.int).length : Int) else 5) else 1) = z
    obtain ⟨z0, z5⟩ := few z hz.symm
    refine ⟨z, rfl, by omega, by omega, for_range (lo := 0) (n := z.toNat) (fun i σ' H' => ∃ v1 v2 v3 v4 v5 v6 v7 v8, σ' = [some (.ref a), v1, v2, v3, v4, v5, v6, v7, v8] ∧ SqL K H' a (ns.map V.int))
      ⟨none, none, none, none, none, none, none, none, rfl, hS⟩ ?_ ?_⟩
    · rintro i _ H0 hi ⟨v1, v2, v3, v4, v5, v6, v7, v8, rfl, hS0⟩
      refine ⟨_, rfl, _, rfl, a, ns, _, rfl, hS0, (by omega), fun p H1 np same die => ?_⟩
      have stay : ∀ H', Got p H1 H' → SqL K H' a (ns.map V.int) := by
        intro H' g
        have kp : ∀ o, H0 a = some o → H' a = some o := fun o e => g.keep a o (same a o e) (ne_of_none e np)
        rcases hS0 with (z | ⟨o, z⟩) | z
        · exact .inl (.inl (kp _ z))
        · exact .inl (.inr ⟨o, kp _ z⟩)
        · exact .inr z
      refine ⟨4, rfl, by decide, by decide, for_range (lo := 0) (n := 4) (fun i' σ' H' => ∃ v3 v4 v5 v6 v7 v8, σ' = [some (.ref a), some (.int (0 + (i : Int))), some (.ref p), v3, v4, v5, v6, v7, v8] ∧ Got p H1 H' ∧ (0 < i' → ∃ n, v4 = some (.int n)))
        ⟨v3, v4, v5, v6, v7, v8, rfl, Got.same die, fun z => absurd z (Nat.lt_irrefl _)⟩ ?_ ?_⟩
      · rintro i' _ H2 hi' ⟨v3, v4, v5, v6, v7, v8, rfl, g, _⟩
        refine ⟨_, rfl, p, rfl, g.die, fun n H3 hn g1 => ?_⟩
        refine ⟨_, rfl, p, rfl, g1.die, fun y H4 hy g2 => ?_⟩
        refine ⟨_, _, rfl, ?_⟩
        refine ⟨_, rfl, n, rfl, hn, fun m hm => ⟨_, _, rfl, rfl, ?_⟩⟩
        have es : decide (m ≤ 400) = isIntV (.int n) := by
          rw [int_short, Bool.eq_iff_iff, decide_eq_true_eq, decide_eq_true_eq]
          exact hm
        have ly : y.length ≤ sizeLine := Nat.le_trans hy (by decide)
        refine ⟨_, rfl, _, _, rfl, Of.int, _, rfl, _, _, rfl, Of.int, _, rfl, _, _, rfl, Of.str, fun y' e => by cases e; exact ly, by show 3 ≤ sizeLine; decide, fun L hL => ?_⟩
        have gN : Got p H1 (upd H4 L (.lst [.bl (isIntV (.int n)), .bl (isCountV (.int n)), .bl (isLetV (.str y))])) := ((g.trans g1).trans g2).trans (Got.new g2.die hL)
        obtain ⟨o1, o2, o3, o4⟩ := b3_ok (isIntV (.int n)) (isCountV (.int n)) (isLetV (.str y))
        refine ⟨_, rfl, _, _, rfl, b3_dp upd_same, o1, o2, o3, o4, ?_⟩
        obtain ⟨b, hb, eb⟩ := let_last y
        refine ⟨_, rfl, vl_and (a := decide (m ≤ 400)) (b := decide (0 ≤ n)) (fun _ _ q => ⟨_, rfl, q⟩) (fun _ _ _ q => ⟨_, rfl, _, _, rfl, rfl, q⟩) _ _
          (vl_and (a := decide (V.int y.length = V.int 1)) (b := b) (fun _ _ q => ⟨_, rfl, _, rfl, ly, rfl, q⟩) ?_ _ _ ⟨by show 3 ≤ sizeLine; decide, fun M hM => ?_⟩)⟩
        · intro c1 H5 Q5 q5
          obtain ⟨c, rfl, rfl⟩ := hb c1
          refine ⟨_, rfl, _, _, rfl, rfl, _, rfl, ?_⟩
          have s1 : (!decide ([c] < [97])) = decide (97 ≤ c) := le_one'
          have s2 : (!decide ([122] < [c])) = decide (c ≤ 122) := le_one'
          show if (!decide ([c] < [97])) = true then _ else _
          rw [s1]
          by_cases h1 : 97 ≤ c
          · rw [decide_eq_true h1] at q5 ⊢
            refine iteT ⟨_, _, rfl, rfl, ?_⟩
            show Q5 (.bl (!decide ([122] < [c]))) H5
            rw [s2]
            rw [Bool.true_and] at q5
            exact q5
          · rw [decide_eq_false h1] at q5 ⊢
            exact iteF q5
        have ec : (decide (m ≤ 400) && decide (0 ≤ n)) = isCountV (.int n) := by rw [es]; rfl
        refine ⟨_, _, rfl, b3_dp (x := isIntV (.int n)) (y := isCountV (.int n)) (z := isLetV (.str y)) (by show upd _ M (.lst [.bl (decide (m ≤ 400)), .bl (decide (m ≤ 400) && decide (0 ≤ n)), .bl (decide (V.int y.length = V.int 1) && b)]) M = _; rw [ec, es, eb]; exact upd_same), o1, o2, o3, o4, rfl, _, rfl, ?_⟩
        refine iteNS rfl ?_
        exact ⟨_, _, _, _, _, _, rfl, gN.trans (Got.new gN.die hM), fun _ => ⟨n, rfl⟩⟩
      · rintro _ H2 ⟨v3, v4, v5, v6, v7, v8, rfl, g, hn⟩
        obtain ⟨n, rfl⟩ := hn (by decide)
        refine ⟨_, rfl, by show 0 ≤ sizeLine; decide, fun t1 f1 => ⟨by show 1 ≤ sizeLine; decide, fun t2 f2 => ⟨by show 1 ≤ sizeLine; decide, fun t3 f3 => ?_⟩⟩⟩
        intro t4 f4
        refine ⟨upd_same, [(.inl 7, .int 7)], rfl, by decide, ?_⟩
        refine ⟨by show 1 ≤ sizeLine; decide, fun t5 f5 => ⟨by show 1 ≤ sizeLine; decide, fun t6 f6 => ?_⟩⟩
        intro t7 f7
        refine ⟨upd_same, [(.inr "a", .int 1)], rfl, by decide, by show 14 ≤ sizeLine; decide, fun M hM => ?_⟩
        have n2 := ((Got.same g.die).over g.die f1 (.tup [])).free g.die f2
        have g2 := ((Got.same g.die).over g.die f1 (.tup [])).over g.die n2 (.tup [.int 7])
        have n3 := g2.free g.die f3
        have g3 := g2.over g.die n3 (.lst [.int 7])
        have n4 := g3.free g.die f4
        have g4 := (g3.over g.die n4 (.dK [])).over g.die n4 (.dK (mergeK [] [(.inl 7, .int 7)]))
        have n5 := g4.free g.die f5
        have g5 := g4.over g.die n5 (.tup [.str "a"])
        have n6 := g5.free g.die f6
        have g6 := g5.over g.die n6 (.lst [.str "a"])
        have n7 := g6.free g.die f7
        have g7 := (g6.over g.die n7 (.dK [])).over g.die n7 (.dK (mergeK [] [(.inr "a", .int 1)]))
        have nM := g7.free g.die hM
        refine ⟨p, M, _, rfl, (g7.over g.die nM _).die, .inl upd_same, (g.die.ne nM).symm, by show 0 < 14; decide, by show 14 ≤ 1000; decide, fun v H3 hv gv => ?_⟩
        obtain ⟨kd, hk, iv, cv, lv, sv⟩ : ∃ kd, Of K H3 v kd ∧ isIntV v = false ∧ isCountV v = false ∧ isLetV v = false ∧ (∀ y, v = .str y → y.length ≤ sizeLine) := by
          obtain ⟨_, _, _, _, ep⟩ := (g7.over g.die nM (.lst [.non, .bl true, .bl false, .str "7", .ref t1, .ref t2, .ref t3, .ref t4, .ref t5, .ref t6, .str "", .str "ab", .ref t7, .str "\n"])).die
          have ke : ∀ t o, _ = some o → t ≠ p → H3 t = some o := fun t o e n => gv.keep t o e n
          simp only [List.mem_cons, List.not_mem_nil, or_false] at hv
          rcases hv with h | h | h | h | h | h | h | h | h | h | h | h | h | h <;> subst h
          · exact ⟨_, .non, rfl, rfl, rfl, fun y e => by cases e⟩
          · exact ⟨_, .bl, rfl, rfl, rfl, fun y e => by cases e⟩
          · exact ⟨_, .bl, rfl, rfl, rfl, fun y e => by cases e⟩
          · exact ⟨_, .str, rfl, rfl, by decide +kernel, fun y e => by cases e; decide⟩
          · exact ⟨_, .tup (ke _ _ (new_keep (new_keep2 (new_keep (new_keep (new_keep2 (new_keep (new_keep upd_same f2) f3) f4) f5) f6) f7) hM) (g.die.ne f1).symm), rfl, rfl, rfl, fun y e => by cases e⟩
          · exact ⟨_, .tup (ke _ _ (new_keep (new_keep2 (new_keep (new_keep (new_keep2 (new_keep upd_same f3) f4) f5) f6) f7) hM) (g.die.ne n2).symm), rfl, rfl, rfl, fun y e => by cases e⟩
          · exact ⟨_, .lst (ke _ _ (new_keep (new_keep2 (new_keep (new_keep (new_keep2 upd_same f4) f5) f6) f7) hM) (g.die.ne n3).symm), rfl, rfl, rfl, fun y e => by cases e⟩
          · exact ⟨_, .dct (ke _ _ (new_keep (new_keep2 (new_keep (new_keep upd_same f5) f6) f7) hM) (g.die.ne n4).symm), rfl, rfl, rfl, fun y e => by cases e⟩
          · exact ⟨_, .tup (ke _ _ (new_keep (new_keep2 (new_keep upd_same f6) f7) hM) (g.die.ne n5).symm), rfl, rfl, rfl, fun y e => by cases e⟩
          · exact ⟨_, .lst (ke _ _ (new_keep (new_keep2 upd_same f7) hM) (g.die.ne n6).symm), rfl, rfl, rfl, fun y e => by cases e⟩
          · exact ⟨_, .str, rfl, rfl, by decide +kernel, fun y e => by cases e; decide⟩
          · exact ⟨_, .str, rfl, rfl, by decide +kernel, fun y e => by cases e; decide⟩
          · exact ⟨_, .dct (ke _ _ (new_keep upd_same hM) (g.die.ne n7).symm), rfl, rfl, rfl, fun y e => by cases e⟩
          · exact ⟨_, .str, rfl, rfl, by decide +kernel, fun y e => by cases e; decide⟩
        refine ⟨_, rfl, v, kd, rfl, hk, _, rfl, _, _, rfl, hk, _, rfl, _, _, rfl, hk, sv, by show 3 ≤ sizeLine; decide, fun L hL => ⟨by show 3 ≤ sizeLine; decide, fun M' hM' => ?_⟩⟩
        rw [iv, cv, lv] at *
        refine ⟨b3 false false false, b3 false false false, b3_dp (new_keep upd_same hM'), b3_dp upd_same, by decide +kernel, by decide +kernel, _, rfl, ?_⟩
        have ev : PyData.eqv (b3 false false false) (b3 false false false) = true := by decide +kernel
        rw [ev]
        refine iteF ⟨_, rfl, _, _, rfl, Of.int, (fun y e => by cases e), _, _, rfl, rfl, _, rfl, ?_⟩
        refine iteNS rfl ?_
        refine ⟨_, _, _, _, _, _, _, _, rfl, ?_⟩
        refine stay _ ?_
        exact ((((g.trans (g7.over g.die nM _)).trans gv).trans (Got.new gv.die hL)).trans (Got.new (Got.new gv.die hL).die hM'))
    · rintro _ H' ⟨v1, v2, v3, v4, v5, v6, v7, v8, rfl, hS0⟩
      have e0 : isIntV (.int 0) = true := by rw [int_short]; decide +kernel
      have e1 : isCountV (.int 0) = true := by show (isIntV (.int 0) && decide ((0 : Int) ≤ 0)) = true; rw [e0]; rfl
      have e2 : isCountV (.int (0 - 1)) = false := by show (isIntV (.int (0 - 1)) && decide ((0 : Int) ≤ 0 - 1)) = false; rw [show decide ((0 : Int) ≤ 0 - 1) = false from by decide, Bool.and_false]
      refine ⟨_, _, rfl, Of.int, _, _, rfl, Of.int, _, _, rfl, rfl, _, _, rfl, Of.int, by show 4 ≤ sizeLine; decide, fun L hL => ⟨by show 4 ≤ sizeLine; decide, fun M hM => ?_⟩⟩
      have nLM : L ≠ M := ne_of_none (show (upd H' L _) L = some _ from upd_same) hM
      refine ⟨.list [.bool (isIntV (.int 0)), .bool (isCountV (.int 0)), .bool (isCountV (.int (0 - 1))), .int 400], .list [.bool true, .bool true, .bool false, .int 400],
        .lst (SqL.of (by rw [upd_ne nLM]; exact upd_same)) (.cons (.bl _) (.cons (.bl _) (.cons (.bl _) (.cons (.int _) .nil)))), .lst (SqL.of upd_same) (.cons (.bl _) (.cons (.bl _) (.cons (.bl _) (.cons (.int _) .nil)))), ?_, ?_, ?_⟩
      · rw [e0, e1, e2]; decide +kernel
      · decide +kernel
      · rw [e0, e1, e2]
        have e : PyData.eqv (.list [.bool true, .bool true, .bool false, .int 400]) (.list [.bool true, .bool true, .bool false, .int 400]) = true := by decide +kernel
        rw [e]
        exact k _
end
theorem all_mk {P : Program} {w : World} {K : PySem.W.Frag} {h : Heap} {mg : Str → Option Value} {fa : Addr} (X : K.In h) (G : h.Ns mainGlobals mg) (hfa : mg "law" = some (.ref fa))
    (z0 : PySem.W.nsIn K mainGlobals "isinstance" = some none)
    (z1 : PySem.W.nsIn K mainGlobals "bool" = some none)
    (z2 : PySem.W.nsIn K mainGlobals "int" = some none)
    (z3 : PySem.W.nsIn K mainGlobals "str" = some none)
    (z4 : PySem.W.nsIn K mainGlobals "len" = some none)
    (z5 : PySem.W.nsIn K mainGlobals "max" = some none)
    (z6 : PySem.W.nsIn K mainGlobals "min" = some none)
    (z7 : PySem.W.nsIn K mainGlobals "abs" = some none)
    (z8 : PySem.W.nsIn K mainGlobals "range" = some none)
    (z9 : PySem.W.nsIn K mainGlobals "repr" = some none)
    (g0 : ∃ u, PySem.W.nsIn K mainGlobals "_BOUND" = some (some u) ∧ RelV (.int B) u)
    (g1 : ∃ u, PySem.W.nsIn K mainGlobals "LETTERS" = some (some u) ∧ RelV (.str "abcdefghijklmnopqrstuvwxyz") u)
    (g2 : ∃ u, PySem.W.nsIn K mainGlobals "MAX_FIGURES" = some (some u) ∧ RelV (.int 400) u)
    (d0 : Df K mg "is_integer" s_is_integer)
    (d1 : Df K mg "is_count" s_is_count)
    (d2 : Df K mg "is_letter" s_is_letter)
    (d3 : Df K mg "_law_dice" s__law_dice)
    (d4 : Df K mg "_law_roll" s__law_roll)
    (d5 : Df K mg "_law_pick" s__law_pick)
    (d6 : Df K mg "_law_limit" s__law_limit)
    (d7 : Df K mg "_law_number" s__law_number)
    (d8 : Df K mg "_law_figures" s__law_figures)
    (d9 : Df K mg "_law_sign" s__law_sign)
    (d10 : Df K mg "law" s_law)
    : ∃ fd : FuncData, (∀ (s : Shared) (u : Value), BindsTo s fd ⟨[u], []⟩ [("_law_script", u)]) ∧ ∀ base : Heap, K.In base → base.Ns mainGlobals mg → FnG P w K mg base CX0 4 fa fd ["_law_script"] (spLaw K) := by
  have T : Txt K mg := ⟨PySem.W.mg_none_of X G z0, PySem.W.mg_none_of X G z1, PySem.W.mg_none_of X G z2, PySem.W.mg_none_of X G z3, PySem.W.mg_none_of X G z4, PySem.W.mg_none_of X G z5, PySem.W.mg_none_of X G z6, PySem.W.mg_none_of X G z7, PySem.W.mg_none_of X G z8, PySem.W.mg_none_of X G z9, (let ⟨u, a, r⟩ := g0; ⟨u, PySem.W.mg_of X G a, r⟩), (let ⟨u, a, r⟩ := g1; ⟨u, PySem.W.mg_of X G a, r⟩), (let ⟨u, a, r⟩ := g2; ⟨u, PySem.W.mg_of X G a, r⟩)⟩
  refine Df.law d10 hfa (fun base kin hns f fd F => ?_) (fun _ _ _ _ _ _ u => rfl)
  have hi := h_is_integer (P := P) (w := w) (base := base) T d0
  have hroll := h_law_roll (P := P) (w := w) (base := base) T d4
  have hpick := h_law_pick T d5 hroll
  have hlim := h_law_limit (P := P) (w := w) (base := base) d6
  exact law_ok T (h_law_dice T d3) hpick (h_law_number d7 hlim hroll hpick) (h_law_sign d9 hpick) (h_law_figures T d8) hi (h_is_count d1 hi) (h_is_letter T d2) F
end K00

open PySem PySem.W PyProof.Rows in
set_option maxRecDepth 100000 in
set_option maxHeartbeats 0 in
theorem PySem.Challenge.cw_grownlines_k00_integers_and_letters_holds : PySem.Challenge.rw_grownlines_k00_integers_and_letters.Holds := by
  w_on; o_law; k_head; (case hw => w_witness2)
  k_fill
  refine GL.walk_to (l := PySem.Challenge.rw_grownlines_k00_integers_and_letters) (n := 63) (k := 4) (sp := K00.spLaw) (x := "_law_script") rfl (by decide) rfl ⟨rfl, by decide, by decide⟩ (fun w h Y => PySem.W.kIn_of Y) ?F (fun K H a ns hl hS => ⟨a, ns, rfl, hS, hl, fun _ => rfl⟩)
  case F =>
    intro w mg fa h KX G hmg
    refine' K00.all_mk KX G hmg ?zz0 ?zz1 ?zz2 ?zz3 ?zz4 ?zz5 ?zz6 ?zz7 ?zz8 ?zz9 ?gg0 ?gg1 ?gg2 ?dd0 ?dd1 ?dd2 ?dd3 ?dd4 ?dd5 ?dd6 ?dd7 ?dd8 ?dd9 ?dd10
    (case zz0 => k_is)
    (case zz1 => k_is)
    (case zz2 => k_is)
    (case zz3 => k_is)
    (case zz4 => k_is)
    (case zz5 => k_is)
    (case zz6 => k_is)
    (case zz7 => k_is)
    (case zz8 => k_is)
    (case zz9 => k_is)
    (case gg0 => exact ⟨_, by k_is, ⟨_, by rw [K00.B_eq]; rfl⟩⟩)
    (case gg1 => exact ⟨_, by k_is, ⟨_, rfl⟩⟩)
    (case gg2 => exact ⟨_, by k_is, ⟨_, rfl⟩⟩)
    (case dd0 => refine' GL.df_mk KX G ?a ?l ?c ?k; (case a => k_is); (case l => k_is); (case c => k_is); (case k => k_is))
    (case dd1 => refine' GL.df_mk KX G ?a ?l ?c ?k; (case a => k_is); (case l => k_is); (case c => k_is); (case k => k_is))
    (case dd2 => refine' GL.df_mk KX G ?a ?l ?c ?k; (case a => k_is); (case l => k_is); (case c => k_is); (case k => k_is))
    (case dd3 => refine' GL.df_mk KX G ?a ?l ?c ?k; (case a => k_is); (case l => k_is); (case c => k_is); (case k => k_is))
    (case dd4 => refine' GL.df_mk KX G ?a ?l ?c ?k; (case a => k_is); (case l => k_is); (case c => k_is); (case k => k_is))
    (case dd5 => refine' GL.df_mk KX G ?a ?l ?c ?k; (case a => k_is); (case l => k_is); (case c => k_is); (case k => k_is))
    (case dd6 => refine' GL.df_mk KX G ?a ?l ?c ?k; (case a => k_is); (case l => k_is); (case c => k_is); (case k => k_is))
    (case dd7 => refine' GL.df_mk KX G ?a ?l ?c ?k; (case a => k_is); (case l => k_is); (case c => k_is); (case k => k_is))
    (case dd8 => refine' GL.df_mk KX G ?a ?l ?c ?k; (case a => k_is); (case l => k_is); (case c => k_is); (case k => k_is))
    (case dd9 => refine' GL.df_mk KX G ?a ?l ?c ?k; (case a => k_is); (case l => k_is); (case c => k_is); (case k => k_is))
    (case dd10 => refine' GL.df_mk KX G ?a ?l ?c ?k; (case a => k_is); (case l => k_is); (case c => k_is); (case k => k_is))
