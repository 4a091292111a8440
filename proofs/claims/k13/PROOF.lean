import PyProof.Rows.All
import Wide.All
import OpenK.AllK
import Wide.FinOn
import HandS.ForMost
import HandS.IsInst
import HandS.Wide
import HandS.Style
import HandS.TupLe
import HandS.TupAny
import HandS.Walk
import HandS.Evl
import HandS.Base
import HandS.Call
import HandS.List
import HandS.Ends
import HandS.Words
import HandS.More
import HandS.Zip
import PyProof.Rows.StrOr
import PyProof.ReprRoads
import KE.KIsAll
import KE.KCallOwn
import PyProof.InstEq
import HandS.OwnIter
import HandS.IterVal
import PyProof.WalksMore
import HandS.Deep
import HandS.Strs
import KE.KOpsOwn
import OpenK.KMeth
import OpenK.KOps
import OpenK.KCls
import PyProof.AttrMiss
import PyProof.Conv_bool
import PyProof.ListNew
import HandS.Exc
import HandS.ExcOwn
import HandS.ExcValue
import HandS.TryMany
import KE.KExcIs
import PyProof.ExcBaseAll.LookupError
import PyProof.ExcBaseAll.IndexError
import PyProof.ExcBaseAll.RuntimeError
import PyProof.ExcBaseAll.OverflowError
import PyProof.ExcBaseAll.ArithmeticError
import PyProof.ExcBaseAll.ZeroDivisionError
import HandS.ExcField
import HandS.HotCalls
import HandS.ExcIs
import HandS.Lambda
import HandS.EndTab
import PyProof.Rows.StrInSeq
import PyProof.EqKinds
import PyProof.NeKinds
import HandS.DictComp
import KE.KEqDict
import HandS.Set
import HandS.SetBool
import HandS.SetFor
import PyProof.Rows.SortStr
import HandS.Defaults
import HandS.Dict
import HandS.FStr
import HandS.Text
import HandS.StrMore
import KE.KRevSl
import HandS.RaiseMore
import HandS.ClsMeth
import KE.KDictSum
import HandS.Conv
import KE.KFmtOwn
import HandS.TupSets
import HandS.ListItems
import HandS.Star
import HandS.MethStar
import HandS.Zip0
import HandS.Iter
import HandS.Comp
import PyProof.StrLawsChain
import HandS.Replace
import HandS.Small
import KE.KNestM
import PySem.Challenge.RW_grownlines_k13_whole_lines_of_schemes
set_option Elab.async false
set_option linter.all false
set_option maxRecDepth 100000
set_option exponentiation.threshold 7000
set_option maxHeartbeats 4000000
/-! Promises of defs that are called where nothing is being shown (repr asks it). -/
namespace GL
open PySem PySem.Spec PyProof.Rows L2

noncomputable def Gd (A : Around) : Prop := A.guards = some []
structure FnG (P : Program) (w : World) (K : PySem.W.Frag) (mg : Str → Option Value) (base : Heap) (CX : CXT) (k : Nat) (f : Addr) (fd : FuncData) (ps : List Str) (sp : Sp) : Prop where
  len : ∀ vs H Q E, sp vs H Q E → vs.length = ps.length
  go : ∀ {A : Around} {outer : List Env} {s : Shared} {H : Hp} {args : Args} {us : List Value} {vs : List V} {Q : VK} {E : XK}, Gd A → Room k A → Env0 P w K mg base A outer s H →
    BindsTo s fd args (ps.zip us) → Vals vs us → sp vs H Q E → codeAny (model P w) A (.call (.ref f) args) (CR CX outer P w H s Q E) s
section
variable {P : Program} {w : World} {K : PySem.W.Frag} {mg : Str → Option Value} {base : Heap} {CX : CXT} {k : Nat} {f : Addr} {fd : FuncData} {ps N : List Str} {sp : Sp} {x qual : Str} {st : Stmt}
theorem fnG_mk (F : Fun K x qual st f fd) (S : FnScope N ps (defScope st)) (len : ∀ vs H Q E, sp vs H Q E → vs.length = ps.length)
    (body : ∀ (cdv : Value) (A : Around) (outer : List Env) (s : Shared) (H : Hp) (vs : List V) (Q : VK) (E : XK), Gd A → Room k (A.deeper (envOfC qual (defScope st) s.heap.objs.size f cdv)) → sp vs H Q E →
      ∃ t, PSs (cxOf CX P w K mg base N qual (defScope st) f cdv A outer s H E) (defBody st) t ∧ t { nx := fun _ H' => Q .non H', rt := Q } (start N vs) H) :
    FnG P w K mg base CX (k + 1) f fd ps sp := by
  obtain ⟨oc, od, kV, doc, pm, an, cdv, ct, osl, eF, at_, cR⟩ := F.ex
  subst eF
  constructor
  · exact len
  intro A outer s H args us vs Q E g room e0 bi vals asked
  have inK : K.In s.heap := e0.mod.kin.keeps (fun b o q => (e0.bs b o q).1)
  have line : s.heap.NoLimit := e0.mod.nolimit.keeps (fun b o q => (e0.bs b o q).1)
  have kinds : ∀ y ∈ ps.zip us, (defScope st).names.lookup y.1 = some .local ∨ ((defScope st).names.lookup y.1 = some .cell ∧ ((cellsFrom (s.heap.objs.size + 1) (defScope st).names []).lookup y.1).isSome = true) := by
    intro ⟨n, v⟩ hy
    cases S.par n (List.of_mem_zip hy).1 with
    | inl q => exact Or.inl q
    | inr q => exact Or.inr ⟨q, PySem.W.cellsFrom_some _ _ _ (Or.inl q)⟩
  apply codeAny_call_function room.depth (inK _ _ at_) rfl S.co S.gen rfl (PySem.W.codeRec_of inK cR)
  apply bi
  refine wpAny_newFunctionEnv_cells S.kind kinds (fun env eE s1 x1 => ?_)
  subst eE
  obtain ⟨t, rule, q⟩ := body cdv A outer s H vs Q E g (room.deeper _) asked
  have I0 := inv_start (CX := CX) (E := E) S room.hd e0 (len _ _ _ _ asked) vals x1
  refine ⟨line.keeps x1.toInCall.keep, codeAny_func (wpAny_mono (rule.run [] s1 _ H _ I0 q) (fun fl s' done => ?_) (fun _ _ z => z))⟩
  cases fl with
  | ret u => obtain ⟨v, _, H', J, rv, qv⟩ := done; exact ⟨v, H', J.os, J.bare, J.base, J.hok, rv, qv⟩
  | next => obtain ⟨_, H', J, qv⟩ := done; exact ⟨V.non, H', J.os, J.bare, J.base, J.hok, rfl, qv⟩
  | brk => obtain ⟨_, _, _, z⟩ := done; exact z.elim
  | cont => obtain ⟨_, _, _, z⟩ := done; exact z.elim
end

section
variable {X : Cx} {CX : CXT} {k : Nat} {f C : Addr} {fd : FuncData} {ps : List Str} {sp : Sp} {E : XK} {x m : Str} {p pos apos : Pos} {e o : Expr} {es : List Expr} {ta : TE} {t : TA}

theorem goes {pins : List (Addr × Obj)} {σ : L2.St} {H : Hp} {s : Shared} {Q : VK} {us : List Value} {vs : List V} (F : FnG X.prog X.w X.K X.mg X.base CX k f fd ps sp) (g : Gd X.A) (hr : Room k X.A) (hb : Binds X.K fd ps []) (hx : Passes CX X E)
    (I : Inv X pins σ H s) (r : Vals vs us) (h : sp vs H Q E) : wpAny (model X.prog X.w) X.A (call (.ref f) us) (EP X pins σ Q) X.xe s := by
  have n1 : (us ++ []).length = ps.length := by rw [List.append_nil, ← r.length]; exact F.len _ _ _ _ h
  have b1 := hb s us I.kIn n1
  rw [List.append_nil] at b1
  apply wpAny_call
  refine codeAny_mono (F.go g hr I.env0 b1 r h) (fun res s' z => ?_)
  match res, z with
  | .error _, z => exact hx pins σ H s _ s' I z
  | .ok (.ret _), z => exact I.after z
/-- what a name of a def is good for: the def at it keeps a promise -/
structure Has (P : Program) (w : World) (K : PySem.W.Frag) (mg : Str → Option Value) (base : Heap) (CX : CXT) (x : Str) (k : Nat) (ps : List Str) (sp : Sp) : Prop where
  ex : ∃ f fd, FnG P w K mg base CX k f fd ps sp ∧ mg x = some (.ref f) ∧ PySem.W.keepIn K (.ref f) = true ∧ Binds K fd ps []
theorem pe_callH (h : Has X.prog X.w X.K X.mg X.base CX x k ps sp) (g : Gd X.A) (hr : Room k X.A) (hx : Passes CX X E) (ha : PA X (e :: es) t) (hg : Gl X x := by exact rfl)
    (hdb : (x == ("__debug__" : Str)) = false := by decide) (he : starEach (e :: es) X.env = (false, eval e X.env) :: starEach es X.env := by rfl) (hpl : (backTo pos (starEach es X.env)).any (·.1) = false := by rfl) :
    PE X (.Call (.Name x p) (e :: es) [] pos) (tCall sp [] E t) := by
  obtain ⟨f, fd, F, m, kp, b⟩ := h.ex
  constructor
  intro pins s σ H Q I q
  apply wpAny_Call_Name_kw
  apply ld_glob I hg m _ hdb
  refine PySem.W.callWith_K (h₀ := X.base) I.ok.mod.kin kp (thn (ha.run pos pins s σ H _ I q) (fun us s1 z => ?_)) he hpl
  obtain ⟨vs, H1, I1, r, q1⟩ := z
  rw [List.append_nil] at q1
  exact ⟨I1.kIn, goes F g hr b hx I1 r q1⟩
/-- a method of the instances of a class -/
structure HasM (P : Program) (w : World) (K : PySem.W.Frag) (mg : Str → Option Value) (base : Heap) (CX : CXT) (C : Addr) (m : Str) (k : Nat) (ps : List Str) (sp : Sp) : Prop where
  ex : ∃ f fd, FnG P w K mg base CX k f fd ps sp ∧ Meth K C m f ∧ Binds K fd ps []
/-- a class that is called: its __init__ keeps a promise -/
structure HasC (P : Program) (w : World) (K : PySem.W.Frag) (mg : Str → Option Value) (base : Heap) (x : Str) (C : Addr) (k : Nat) (ps : List Str) (sp : Sp) : Prop where
  ex : ∃ f fd, FnOk P w K mg base CX0 k f fd ps sp ∧ mg x = some (.ref C) ∧ Mk K C f ∧ Binds K fd ps []
theorem pe_makeH (h : HasC X.prog X.w X.K X.mg X.base x C k ps sp) (hr : Room (k + 1) X.A) (hx : Passes CX0 X E) (ha : PA X (e :: es) t) (hg : Gl X x := by exact rfl)
    (hdb : (x == ("__debug__" : Str)) = false := by decide) (he : starEach (e :: es) X.env = (false, eval e X.env) :: starEach es X.env := by rfl) (hpl : (backTo pos (starEach es X.env)).any (·.1) = false := by rfl) :
    PE X (.Call (.Name x p) (e :: es) [] pos) (tMake C sp [] E t) := by
  obtain ⟨f, fd, F, m, M, b⟩ := h.ex
  exact pe_make M F hr hg m b .nil hx ha hdb he hpl
end

/-! ### the script's end -/
section
variable {P : Program} {w : World} {K : PySem.W.Frag} {mg mb : Str → Option Value} {k : Nat} {fa a : Addr} {fd : FuncData} {x : Str} {sp : Sp} {s1 : Shared} {vs : List Value} {ns : List Int} {CX : CXT}
end
end GL
/-! Rules and promises that the proofs of this program share. -/
namespace GL
open PySem PySem.Spec PyProof.Rows L2

/-- a def as it stands behind the top -/
structure Df (K : PySem.W.Frag) (mg : Str → Option Value) (x : Str) (st : Stmt) : Prop where
  ex : ∃ f fd, Fun K x x st f fd ∧ mg x = some (.ref f)
theorem df_mk {K : PySem.W.Frag} {h : Heap} {mg : Str → Option Value} {x : Str} {st : Stmt} {f : Addr} {oc : Value} {od an : Option Addr} {osl : Array (Option Value)} {kV doc pm cdv ct : Value} (X : K.In h) (G : h.Ns mainGlobals mg)
    (a : PySem.W.nsIn K mainGlobals x = some (some (.ref f))) (l : K.lookup f = some ⟨oc, od, .func (PySem.W.fnOf x x (defArgs st) (defBody st) (defScope st) .none kV doc pm an cdv ct), osl⟩)
    (c : PySem.W.codeIn K cdv x = true) (k : PySem.W.keepIn K (.ref f) = true) : Df K mg x st := ⟨f, _, fun_mk l c k, PySem.W.mg_of X G a⟩
section
variable {P : Program} {w : World} {K : PySem.W.Frag} {mg : Str → Option Value} {base : Heap}
theorem _root_.L2.Fun.g {x qual : Str} {st : Stmt} {N ps : List Str} {k : Nat} {sp : Sp} {f : Addr} {fd : FuncData} (F : Fun K x qual st f fd) (S : FnScope N ps (defScope st)) (len : ∀ vs H Q E, sp vs H Q E → vs.length = ps.length)
    (body : ∀ (cdv : Value) (A : Around) (outer : List Env) (s : Shared) (H : Hp) (vs : List V) (Q : VK) (E : XK), Gd (A.deeper (envOfC qual (defScope st) s.heap.objs.size f cdv)) → Room k (A.deeper (envOfC qual (defScope st) s.heap.objs.size f cdv)) → sp vs H Q E →
      ∃ t, PSs (cxOf CX0 P w K mg base N qual (defScope st) f cdv A outer s H E).nox (defBody st) t ∧ t { nx := fun _ H' => Q .non H', rt := Q } (start N vs) H) : FnG P w K mg base CX0 (k + 1) f fd ps sp := by
  refine fnG_mk F S len (fun cdv A outer s H vs Q E g hr q => ?_)
  obtain ⟨t, ht, q⟩ := body cdv A outer s H vs Q E g hr q
  exact ⟨t, ht.nox, q⟩
/-- a method, and the __init__ of a class, as they stand behind the top -/
structure Dm (K : PySem.W.Frag) (C : Addr) (m qual : Str) (st : Stmt) : Prop where
  ex : ∃ f fd, Fun K m qual st f fd ∧ Meth K C m f
structure Dc (K : PySem.W.Frag) (C : Addr) (qual : Str) (st : Stmt) : Prop where
  ex : ∃ f fd, Fun K "__init__" qual st f fd ∧ Mk K C f
theorem dm_mk {C f : Addr} {m qual : Str} {st : Stmt} {oc : Value} {od an : Option Addr} {osl : Array (Option Value)} {kV doc pm cdv ct : Value} (a : PySem.W.findIn K (.ref C) m = some (some (.ref f))) (i : PySem.W.isFn K (.ref f) = true)
    (l : K.lookup f = some ⟨oc, od, .func (PySem.W.fnOf m qual (defArgs st) (defBody st) (defScope st) .none kV doc pm an cdv ct), osl⟩) (c : PySem.W.codeIn K cdv qual = true) (k : PySem.W.keepIn K (.ref f) = true) : Dm K C m qual st :=
  ⟨f, _, fun_mk l c k, ⟨a, i, k⟩⟩
theorem dc_mk {C f : Addr} {qual : Str} {st : Stmt} {oc : Value} {od an : Option Addr} {osl : Array (Option Value)} {kV doc pm cdv ct : Value} (a : PySem.W.findIn K (.ref C) "__init__" = some (some (.ref f))) (i : PySem.W.isFn K (.ref f) = true)
    (l : K.lookup f = some ⟨oc, od, .func (PySem.W.fnOf "__init__" qual (defArgs st) (defBody st) (defScope st) .none kV doc pm an cdv ct), osl⟩) (c : PySem.W.codeIn K cdv qual = true) (k : PySem.W.keepIn K (.ref f) = true)
    (mk : PySem.W.makesIn K C = true) (kc : PySem.W.keepIn K (.ref C) = true) : Dc K C qual st :=
  ⟨f, _, fun_mk l c k, ⟨mk, a, i, kc⟩⟩
theorem Dm.has {C : Addr} {m qual : Str} {st : Stmt} {N ps : List Str} {k : Nat} {sp : Sp} (D : Dm K C m qual st) (S : FnScope N ps (defScope st)) (len : ∀ vs H Q E, sp vs H Q E → vs.length = ps.length)
    (bi : ∀ (kV doc pm : Value) (an : Option Addr) (cdv ct : Value) (us : List Value), us.length = ps.length → bindArgs (PySem.W.fnOf m qual (defArgs st) (defBody st) (defScope st) .none kV doc pm an cdv ct) ⟨us, []⟩ = pure (ps.zip us))
    (body : ∀ (f : Addr) (cdv : Value) (A : Around) (outer : List Env) (s : Shared) (H : Hp) (vs : List V) (Q : VK) (E : XK), Gd (A.deeper (envOfC qual (defScope st) s.heap.objs.size f cdv)) → Room k (A.deeper (envOfC qual (defScope st) s.heap.objs.size f cdv)) → sp vs H Q E →
      ∃ t, PSs (cxOf CX0 P w K mg base N qual (defScope st) f cdv A outer s H E).nox (defBody st) t ∧ t { nx := fun _ H' => Q .non H', rt := Q } (start N vs) H) : HasM P w K mg base CX0 C m (k + 1) ps sp := by
  obtain ⟨f, fd, F, M⟩ := D.ex
  exact ⟨f, fd, F.g S len (body f), M, F.binds bi⟩
theorem Dc.has {C : Addr} {x qual : Str} {st : Stmt} {N ps : List Str} {k : Nat} {sp : Sp} (D : Dc K C qual st) (m : mg x = some (.ref C)) (S : FnScope N ps (defScope st)) (len : ∀ vs H Q E, sp vs H Q E → vs.length = ps.length)
    (bi : ∀ (kV doc pm : Value) (an : Option Addr) (cdv ct : Value) (us : List Value), us.length = ps.length → bindArgs (PySem.W.fnOf "__init__" qual (defArgs st) (defBody st) (defScope st) .none kV doc pm an cdv ct) ⟨us, []⟩ = pure (ps.zip us))
    (body : ∀ (f : Addr) (cdv : Value) (A : Around) (outer : List Env) (s : Shared) (H : Hp) (vs : List V) (Q : VK) (E : XK), Room k (A.deeper (envOfC qual (defScope st) s.heap.objs.size f cdv)) → sp vs H Q E →
      ∃ t, PSs (cxOf CX0 P w K mg base N qual (defScope st) f cdv A outer s H E).nox (defBody st) t ∧ t { nx := fun _ H' => Q .non H', rt := Q } (start N vs) H) : HasC P w K mg base x C (k + 1) ps sp := by
  obtain ⟨f, fd, F, M⟩ := D.ex
  exact ⟨f, fd, F.ok S len (body f), m, M, F.binds bi⟩
theorem Df.has {x : Str} {st : Stmt} {N ps : List Str} {k : Nat} {sp : Sp} (D : Df K mg x st) (S : FnScope N ps (defScope st)) (len : ∀ vs H Q E, sp vs H Q E → vs.length = ps.length)
    (bi : ∀ (kV doc pm : Value) (an : Option Addr) (cdv ct : Value) (us : List Value), us.length = ps.length → bindArgs (PySem.W.fnOf x x (defArgs st) (defBody st) (defScope st) .none kV doc pm an cdv ct) ⟨us, []⟩ = pure (ps.zip us))
    (body : ∀ (f : Addr) (cdv : Value) (A : Around) (outer : List Env) (s : Shared) (H : Hp) (vs : List V) (Q : VK) (E : XK), Gd (A.deeper (envOfC x (defScope st) s.heap.objs.size f cdv)) → Room k (A.deeper (envOfC x (defScope st) s.heap.objs.size f cdv)) → sp vs H Q E →
      ∃ t, PSs (cxOf CX0 P w K mg base N x (defScope st) f cdv A outer s H E).nox (defBody st) t ∧ t { nx := fun _ H' => Q .non H', rt := Q } (start N vs) H) : Has P w K mg base CX0 x (k + 1) ps sp := by
  obtain ⟨f, fd, F, m⟩ := D.ex
  exact ⟨f, fd, F.g S len (body f), m, F.kp, F.binds bi⟩
end

/-- what a name of the module holds -/
noncomputable def MgV (mg : Str → Option Value) (x : Str) (v : V) : Prop := ∃ u, mg x = some u ∧ RelV v u
theorem pe_globV {X : Cx} {x : Str} {v : V} {pos : Pos} (h : MgV X.mg x v) (hg : Gl X x := by exact rfl) (hd : (x == ("__debug__" : Str)) = false := by decide) : PE X (.Name x pos) (tC v) := by
  obtain ⟨u, m, r⟩ := h
  exact pe_glob hg m r hd

/-! ### repr of data -/
noncomputable def rRepr (K : PySem.W.Frag) : List V → Hp → VK → Prop := fun xs H Q => ∃ x d, xs = [x] ∧ Dp K H x d ∧ d.showable = true ∧ d.hasDict = false ∧ d.depth ≤ 20 ∧ d.shown.length ≤ sizeLine ∧ Q (.str d.shown) H
theorem call_repr {X : Cx} (hg : Gd X.A) (hu : X.A.units + 64 < cLine) : CallR X (.builtin "repr") (rRepr X.K) := by
  intro pins s σ H xs us Q I r h
  obtain ⟨x, d, rfl, hd, hs, hn, hp, hz, q⟩ := h
  obtain ⟨u, rfl, r1⟩ := vals1 r
  have hh : ∀ v, RelV x v → ∃ as, Reads s.heap v d as := fun v rv => Dp.reads I d x v hd rv
  obtain ⟨as, hr⟩ := hh u r1
  cases d with
  | none => cases hr; exact PySem.P.repr_of_none ⟨.str _, H, I.tok _, ⟨_, rfl⟩, q⟩
  | bool b => cases hr; exact PySem.P.repr_of_bool ⟨.str _, H, I.tok _, ⟨_, rfl⟩, q⟩
  | int i => cases hr; exact PySem.P.repr_of_int (by simpa [PyData.showable] using hs) ⟨.str _, H, I.tok _, ⟨_, rfl⟩, q⟩
  | str y => cases hr; exact PySem.P.repr_of_str ⟨.str _, H, I.tok _, ⟨_, rfl⟩, q⟩ hz
  | list ds =>
    obtain ⟨a, rfl⟩ := isRef_of_reads hr rfl
    exact repr_of_reads' hr hs (PyData.noDict_hsm hn) hg (by omega) (fun _ _ e => e) (fun h' u tk hk => ⟨.str _, H, I.kept hk, ⟨_, rfl⟩, q⟩) hz
  | tuple ds =>
    obtain ⟨a, rfl⟩ := isRef_of_reads hr rfl
    exact repr_of_reads' hr hs (PyData.noDict_hsm hn) hg (by omega) (fun _ _ e => e) (fun h' u tk hk => ⟨.str _, H, I.kept hk, ⟨_, rfl⟩, q⟩) hz
  | dict kvs => cases hd

/-! ### values of expressions that change nothing -/
noncomputable def Vl (te : TE) (σ : L2.St) (v : V) : Prop := ∀ (H : Hp) (Q : VK), Q v H → te σ H Q
/-! ### in a tuple of data, whatever the depth -/
noncomputable def rInT (K : PySem.W.Frag) : R2 := fun x y H Q => ∃ d ds, Dp K H x d ∧ Dp K H y (.tuple ds) ∧ SeqAt.shaped d = true ∧ SeqAt.shaped (.tuple ds) = true ∧ Q (.bl (ds.any fun z => PyData.eqv z d)) H
/-! ### how many different ints -/
noncomputable def dist (ns : List Int) : Nat := (ns.foldl PyProof.Rows.step_dedup []).length
noncomputable def tLenSet (K : PySem.W.Frag) (ta : TE) : TE := fun σ H Q => ta σ H fun x H1 => ∃ (l : Addr) (ns : List Int), x = .ref l ∧ SqL K H1 l (ns.map V.int) ∧ ns.length < 64 ∧ Q (.int (dist ns : Nat)) H1
/-! ### great powers -/
noncomputable def CPowW (i j : Int) : Prop := 0 ≤ j ∧ (Builtin.Int.intBits i : Int) * j ≤ 2 ^ 27
/-! ### kinds of values -/
inductive Kd where | non | bl | int | str | lst | tup | dct
noncomputable def Kd.nm : Kd → String
  | .non => "NoneType" | .bl => "bool" | .int => "int" | .str => "str" | .lst => "list" | .tup => "tuple" | .dct => "dict"
noncomputable def Kd.isB : Kd → Bool | .bl => true | _ => false
noncomputable def Kd.isI : Kd → Bool | .bl => true | .int => true | _ => false
noncomputable def Kd.isS : Kd → Bool | .str => true | _ => false
noncomputable def Kd.isT : Kd → Bool | .tup => true | _ => false
theorem kit_bool {K : PySem.W.Frag} (k : Kd) : PySem.W.kitOne K (.type k.nm) (.type "bool") = some k.isB := by cases k <;> exact kit_ty (by decide +kernel)
theorem kit_int {K : PySem.W.Frag} (k : Kd) : PySem.W.kitOne K (.type k.nm) (.type "int") = some k.isI := by cases k <;> exact kit_ty (by decide +kernel)
theorem kit_str {K : PySem.W.Frag} (k : Kd) : PySem.W.kitOne K (.type k.nm) (.type "str") = some k.isS := by cases k <;> exact kit_ty (by decide +kernel)
theorem kit_tup {K : PySem.W.Frag} (k : Kd) : PySem.W.kitOne K (.type k.nm) (.type "tuple") = some k.isT := by cases k <;> exact kit_ty (by decide +kernel)
/-- a value of a kind -/
noncomputable def Of (K : PySem.W.Frag) (H : Hp) (x : V) (k : Kd) : Prop := TyX K H x (.type k.nm)
theorem Of.bl {K : PySem.W.Frag} {H : Hp} {b : Bool} : Of K H (.bl b) .bl := .base (.bl b)
theorem Of.int {K : PySem.W.Frag} {H : Hp} {i : Int} : Of K H (.int i) .int := .base (.int i)
theorem Of.str {K : PySem.W.Frag} {H : Hp} {y : Str} : Of K H (.str y) .str := .base (.str y)
theorem Of.non {K : PySem.W.Frag} {H : Hp} : Of K H .non .non := .base .non
theorem Of.lst {K : PySem.W.Frag} {H : Hp} {a : Addr} {xs : List V} (h : H a = some (.lst xs)) : Of K H (.ref a) .lst := .base (.lst h)
theorem Of.tup {K : PySem.W.Frag} {H : Hp} {a : Addr} {xs : List V} (h : H a = some (.tup xs)) : Of K H (.ref a) .tup := .base (.tup h)
theorem Of.dct {K : PySem.W.Frag} {H : Hp} {a : Addr} {xs : List (Key × V)} (h : H a = some (.dK xs)) : Of K H (.ref a) .dct := .base (.dK h)
theorem Of.blI {K : PySem.W.Frag} {H : Hp} {x : V} (h : Of K H x .bl) : ∃ i, x = .bl i := by
  have e : Value.type (Kd.nm .bl) = .type "bool" := rfl
  unfold Of at h
  rw [e] at h
  generalize ht : Value.type "bool" = t at h
  cases h with
  | base b => cases b <;> first | exact ⟨_, rfl⟩ | exact absurd ht (by decide +kernel) | (exact absurd ht (by intro z; cases z))
  | byt b => exact absurd ht (by decide +kernel)
  | set _ => exact absurd ht (by decide +kernel)
  | kList _ _ => exact absurd ht (by decide +kernel)
  | kTuple _ _ => exact absurd ht (by decide +kernel)
  | kDict _ _ => exact absurd ht (by decide +kernel)
  | fTuple _ => exact absurd ht (by decide +kernel)
  | fDict _ => exact absurd ht (by decide +kernel)
theorem Of.intI {K : PySem.W.Frag} {H : Hp} {x : V} (h : Of K H x .int) : ∃ i, x = .int i := by
  have e : Value.type (Kd.nm .int) = .type "int" := rfl
  unfold Of at h
  rw [e] at h
  generalize ht : Value.type "int" = t at h
  cases h with
  | base b => cases b <;> first | exact ⟨_, rfl⟩ | exact absurd ht (by decide +kernel) | (exact absurd ht (by intro z; cases z))
  | byt b => exact absurd ht (by decide +kernel)
  | set _ => exact absurd ht (by decide +kernel)
  | kList _ _ => exact absurd ht (by decide +kernel)
  | kTuple _ _ => exact absurd ht (by decide +kernel)
  | kDict _ _ => exact absurd ht (by decide +kernel)
  | fTuple _ => exact absurd ht (by decide +kernel)
  | fDict _ => exact absurd ht (by decide +kernel)
/-- a value that is no int -/
theorem Of.notInt {K : PySem.W.Frag} {H : Hp} {i : Int} {k : Kd} (h : Of K H (.int i) k) : k = .int := by
  unfold Of at h
  generalize ht : Value.type k.nm = t at h
  cases h with
  | base b =>
    cases b
    cases k <;> first | rfl | exact absurd ht (by decide +kernel)
/-! ### the dice: a list of three ints, the first of them not below nought -/
noncomputable def Die (H : Hp) (p : Addr) : Prop := ∃ l b c : Int, 0 ≤ l ∧ H p = some (.lst [.int l, .int b, .int c])
/-- all but the dice at p is as it was -/
structure Got (p : Addr) (H H' : Hp) : Prop where
  keep : ∀ b o, H b = some o → b ≠ p → H' b = some o
  die : Die H' p
theorem Got.same {p : Addr} {H : Hp} (d : Die H p) : Got p H H := ⟨fun _ _ e _ => e, d⟩
theorem Got.trans {p : Addr} {H H1 H2 : Hp} (a : Got p H H1) (b : Got p H1 H2) : Got p H H2 := ⟨fun c o e n => b.keep c o (a.keep c o e n) n, b.die⟩
theorem Got.roll {p : Addr} {H : Hp} {l b c : Int} (h : 0 ≤ l) : Got p H (upd H p (.lst [.int l, .int b, .int c])) := ⟨fun d o e n => by rw [upd_ne n]; exact e, l, b, c, h, upd_same⟩
theorem Got.new {p q : Addr} {H : Hp} {o : HO} (d : Die H p) (n : H q = none) : Got p H (upd H q o) := by
  obtain ⟨l, b, c, l0, e⟩ := d
  exact ⟨fun x u z _ => by rw [upd_ne (ne_of_none z n)]; exact z, l, b, c, l0, by rw [upd_ne (ne_of_none e n)]; exact e⟩
theorem Got.free {p q : Addr} {H H' : Hp} (g : Got p H H') (d : Die H p) (n : H' q = none) : H q = none := by
  cases e : H q with
  | none => rfl
  | some o =>
    obtain ⟨l, b, c, _, ep⟩ := g.die
    by_cases z : q = p
    · rw [z, ep] at n; cases n
    · rw [g.keep q o e z] at n; cases n
theorem Got.over {p t : Addr} {H H' : Hp} (g : Got p H H') (d : Die H p) (n : H t = none) (u : HO) : Got p H (upd H' t u) := by
  refine ⟨fun b o e z => by rw [upd_ne (ne_of_none e n)]; exact g.keep b o e z, ?_⟩
  obtain ⟨l, b, c, l0, e⟩ := g.die
  obtain ⟨_, _, _, _, e0⟩ := d
  exact ⟨l, b, c, l0, by rw [upd_ne (ne_of_none e0 n)]; exact e⟩
theorem new_keep {H : Hp} {a p : Addr} {o u : HO} (h : H a = some o) (n : H p = none) : upd H p u a = some o := by rw [upd_ne (ne_of_none h n)]; exact h
theorem Die.ne {p q : Addr} {H : Hp} (d : Die H p) (n : H q = none) : p ≠ q := by
  obtain ⟨l, b, c, _, e⟩ := d
  exact ne_of_none e n
end GL
namespace GL
open PySem PySem.Spec PyProof.Rows L2
variable {K : PySem.W.Frag}
@[irreducible] def B : Int := 10 ^ 400
theorem B_eq : (B : Int) = 10 ^ 400 := by unfold B; rfl
noncomputable def isIntV : V → Bool
  | .int i => decide (-B < i) && decide (i < B)
  | _ => false
noncomputable def spIsInt (K : PySem.W.Frag) : Sp := fun vs H Q _ => ∃ x k, vs = [x] ∧ Of K H x k ∧ Q (.bl (isIntV x)) H
noncomputable def isCountV : V → Bool
  | .int i => isIntV (.int i) && decide (0 ≤ i)
  | _ => false
noncomputable def spIsCount (K : PySem.W.Frag) : Sp := fun vs H Q _ => ∃ x k, vs = [x] ∧ Of K H x k ∧ Q (.bl (isCountV x)) H
theorem one_sign {y : Str} (h : y.length = 1) : ∃ c, y = ⟨#[c]⟩ := by
  obtain ⟨⟨l⟩⟩ := y
  match l, h with
  | [c], _ => exact ⟨c, rfl⟩
noncomputable def spRoll : Sp := fun vs H Q _ => ∃ p t, vs = [.ref p, .int t] ∧ Die H p ∧ 0 < t ∧ t.natAbs < 2 ^ 2000 ∧ ∀ r H', 0 ≤ r → r < t → Got p H H' → Q (.int r) H'
theorem at_ints {ns : List Int} {i : Int} (h0 : 0 ≤ i) (h1 : i < ns.length) : ∃ n, atI (ns.map V.int) i = some (.int n) := by
  obtain ⟨j, rfl⟩ : ∃ j : Nat, i = (j : Int) := ⟨i.toNat, by omega⟩
  have hj : j < ns.length := by omega
  exact ⟨ns[j], atI_nat (by rw [List.getElem?_map, List.getElem?_eq_getElem hj]; rfl)⟩
noncomputable def spDice (K : PySem.W.Frag) : Sp := fun vs H Q _ => ∃ (a : Addr) (ns : List Int) (spot : Int), vs = [.ref a, .int spot] ∧ SqL K H a (ns.map V.int) ∧ 0 ≤ spot ∧ ∀ p H', H p = none → Same H H' → Die H' p → Q (.ref p) H'
noncomputable def spPick : Sp := fun vs H Q _ => ∃ (p q : Addr) (xs : List V), vs = [.ref p, .ref q] ∧ Die H p ∧ (H q = some (.lst xs) ∨ H q = some (.tup xs)) ∧ q ≠ p ∧ 0 < xs.length ∧ xs.length ≤ 1000 ∧ ∀ v H', v ∈ xs → Got p H H' → Q v H'
noncomputable def spLimit : Sp := fun vs H Q _ => vs = [] ∧ Q (.int B) H
theorem int_short {n : Int} : isIntV (.int n) = decide (n.natAbs < 10 ^ 400) := by
  have e : (10 : Int) ^ 400 = ((10 ^ 400 : Nat) : Int) := by rw [Int.natCast_pow]; rfl
  show (decide (-B < n) && decide (n < B)) = _
  rw [B_eq, e]
  generalize (10 ^ 400 : Nat) = N
  rw [Bool.eq_iff_iff]
  simp only [Bool.and_eq_true, decide_eq_true_eq]
  omega

theorem _root_.GL.Of.same {H H' : Hp} {x : V} {k : Kd} (h : Of K H x k) (s : Same H H') : Of K H' x k := by
  unfold Of at h ⊢
  generalize Value.type k.nm = t at h ⊢
  cases h with
  | base b =>
    cases b with
    | non => exact .base .non
    | bl x => exact .base (.bl x)
    | int i => exact .base (.int i)
    | str y => exact .base (.str y)
    | flt y => exact .base (.flt y)
    | lst e => exact .base (.lst (s _ _ e))
    | frz e => exact .base (.frz (s _ _ e))
    | tup e => exact .base (.tup (s _ _ e))
    | dK e => exact .base (.dK (s _ _ e))
    | dT e => exact .base (.dT (s _ _ e))
    | ins e a b c d e2 => exact .base (.ins (s _ _ e) a b c d e2)
  | byt b => exact .byt b
  | set e => exact .set (s _ _ e)
  | kList e c => exact .kList e c
  | kTuple e c => exact .kTuple e c
  | kDict e c => exact .kDict e c
  | fTuple e => exact .fTuple (s _ _ e)
  | fDict e => exact .fDict (s _ _ e)
/-- what is told of a value as a point -/
noncomputable def PtV (K : PySem.W.Frag) (H : Hp) (x : V) (r : Bool) : Prop := ∃ k, Of K H x k ∧ (k.isT = false → r = false) ∧
  (k.isT = true → ∃ a xs, x = .ref a ∧ SqT K H a xs ∧ xs.length ≤ 1000 ∧ (xs.length ≠ 2 → r = false) ∧ (xs.length = 2 → ∃ u v ku kv, xs = [u, v] ∧ Of K H u ku ∧ Of K H v kv ∧ r = (isIntV u && isIntV v)))
noncomputable def spIsPoint (K : PySem.W.Frag) : Sp := fun vs H Q _ => ∃ x r, vs = [x] ∧ PtV K H x r ∧ Q (.bl r) H
noncomputable def spPart : Sp := fun vs H Q _ => ∃ p, vs = [.ref p] ∧ Die H p ∧ ∀ n H', isIntV (.int n) = true → Got p H H' → Q (.int n) H'
noncomputable def spMixed : Sp := fun vs H Q _ => ∃ (p q : Addr) (xs : List V), vs = [.ref p, .ref q] ∧ Die H p ∧ H q = some (.lst xs) ∧ q ≠ p ∧ xs.length ≤ 1000 ∧ ∀ l ys H', H l = none → l ≠ p → ys.length = xs.length → (∀ v ∈ ys, v ∈ xs) → H' l = some (.lst ys) → Got p H H' → Q (.ref l) H'

theorem Same.new {H : Hp} {p : Addr} {o : HO} (n : H p = none) : Same H (upd H p o) := fun b u e => by rw [upd_ne (ne_of_none e n)]; exact e
theorem Same.over {H H' : Hp} {p : Addr} (s : Same H H') (n : H p = none) (o : HO) : Same H (upd H' p o) := fun b u e => by rw [upd_ne (ne_of_none e n)]; exact s b u e
/-! ### lists of truth values -/
noncomputable def bls (bs : List Bool) : PyData := .list (bs.map .bool)
theorem few_of {n k : Nat} (hk : 1 ≤ k) (z : Int) (hz : (if (if (n : Int) < k then (n : Int) else k) > 1 then (if (n : Int) < k then (n : Int) else k) else 1) = z) : 0 ≤ z ∧ z ≤ k := by
  subst hz
  constructor <;> (split <;> (try split) <;> omega)
end GL
namespace GL
open PySem PySem.Spec PyProof.Rows L2
/-! ### the two grids: false is the square one, true the other -/
noncomputable def nm : Bool → Str | false => "square" | true => "triangle"
noncomputable def num : Bool → Nat | false => 4 | true => 6
noncomputable def sl : Bool → Int | false => 0 | true => 1
noncomputable def ux : Bool → List (Int × Int)
  | false => [(1, 0), (0, 1), (-1, 0), (0, -1)]
  | true => [(1, 0), (0, 1), (-1, 1), (-1, 0), (0, -1), (1, -1)]
noncomputable def mul (t : Bool) (u v : Int × Int) : Int × Int := (u.1 * v.1 - u.2 * v.2, u.1 * v.2 + u.2 * v.1 + sl t * (u.2 * v.2))
noncomputable def nrm (t : Bool) (u : Int × Int) : Int := u.1 * u.1 + sl t * u.1 * u.2 + u.2 * u.2
noncomputable def flip (t : Bool) (u : Int × Int) : Int × Int := (u.1 + sl t * u.2, -u.2)
noncomputable def uni (t : Bool) (k : Int) : Int × Int := (ux t).getD (k % (num t : Int)).toNat (0, 0)
/-- what of the grids stands in the text -/
structure Uni (K : PySem.W.Frag) (w : World) (aG dU : Addr) (U : Bool → Addr) (us : Bool → List Addr) : Prop where
  grids : ∀ H, SqT K H aG [.str "square", .str "triangle"]
  key : ∀ t, KDct K w dU (nm t) (.ref (U t))
  tup : ∀ t H, SqT K H (U t) ((us t).map V.ref)
  len : ∀ t, (us t).length = num t
  pt : ∀ t (i : Nat) a p, (us t)[i]? = some a → (ux t)[i]? = some p → ∀ H, SqT K H a [.int p.1, .int p.2]
noncomputable def gF (U : Bool → Addr) (t : Bool) : List (Str × V) := [("name", .str (nm t)), ("units", .ref (U t)), ("half", .int ((num t : Int) / 2)), ("slant", .int (sl t))]
noncomputable def GridAt (C : Addr) (U : Bool → Addr) (H : Hp) (g : Addr) (t : Bool) : Prop := ∃ dx, H g = some (.ins C dx (gF U t))
structure GCls (K : PySem.W.Frag) (C : Addr) : Prop where
  cls : Cls K C
  name : NoAttr K C "name"
  units : NoAttr K C "units"
  half : NoAttr K C "half"
  slant : NoAttr K C "slant"
theorem put2 {a b : Str} {x y : V} (h : ¬ a = b) : putF b y [(a, x)] = [(a, x), (b, y)] := by
  show (if a = b then _ else (a, x) :: putF b y []) = _
  rw [if_neg h]
  rfl
theorem put3 {a b c : Str} {x y z : V} (h1 : ¬ a = c) (h2 : ¬ b = c) : putF c z [(a, x), (b, y)] = [(a, x), (b, y), (c, z)] := by
  show (if a = c then _ else (a, x) :: putF c z [(b, y)]) = _
  rw [if_neg h1, put2 h2]
theorem put4 {a b c d : Str} {x y z u : V} (h1 : ¬ a = d) (h2 : ¬ b = d) (h3 : ¬ c = d) : putF d u [(a, x), (b, y), (c, z)] = [(a, x), (b, y), (c, z), (d, u)] := by
  show (if a = d then _ else (a, x) :: putF d u [(b, y), (c, z)]) = _
  rw [if_neg h1, put3 h2 h3]
variable {K : PySem.W.Frag} {C : Addr} {U : Bool → Addr} {us : Bool → List Addr} {t : Bool}
theorem gF_units : (gF U t).lookup ("units" : Str) = some (.ref (U t)) := by unfold gF; cases t <;> rfl
theorem gF_slant : (gF U t).lookup ("slant" : Str) = some (.int (sl t)) := by unfold gF; cases t <;> rfl
theorem gF_name : (gF U t).lookup ("name" : Str) = some (.str (nm t)) := by unfold gF; cases t <;> rfl
theorem GridAt.same {H H' : Hp} {g : Addr} (h : GridAt C U H g t) (s : Same H H') : GridAt C U H' g t := let ⟨dx, e⟩ := h; ⟨dx, s _ _ e⟩
/-- a point that stands at an address -/
noncomputable def PAt (K : PySem.W.Frag) (H : Hp) (a : Addr) (u : Int × Int) : Prop := SqT K H a [.int u.1, .int u.2]
theorem PAt.same {H H' : Hp} {a : Addr} {u : Int × Int} (h : PAt K H a u) (s : Same H H') : PAt K H' a u := by
  rcases h with (z | ⟨o, z⟩) | z
  · exact .inl (.inl (s _ _ z))
  · exact .inl (.inr ⟨o, s _ _ z⟩)
  · exact .inr z
theorem PAt.of {H : Hp} {a : Addr} {u : Int × Int} (h : H a = some (.tup [.int u.1, .int u.2])) : PAt K H a u := SqT.of h
noncomputable def Sm (u : Int × Int) : Prop := u.1.natAbs < 2 ^ 3000 ∧ u.2.natAbs < 2 ^ 3000
theorem sm_mul {x y : Int} (hx : x.natAbs < 2 ^ 3000) (hy : y.natAbs < 2 ^ 3000) : CMulW x y := wide_mul hx hy (by decide) (by decide) (by decide)
theorem sl_mul {x : Int} (hx : x.natAbs < 2 ^ 6000) : CMulW (sl t) x := wide_mul (a := 1) (by cases t <;> decide) hx (by decide) (by decide) (by decide)
theorem num_pos : (0 : Int) < (num t : Int) := by cases t <;> decide
theorem len_ux : (ux t).length = num t := by cases t <;> rfl
theorem uni_at (k : Int) : (ux t)[(k % (num t : Int)).toNat]? = some (uni t k) := by
  have h1 := Int.emod_nonneg k (Int.ne_of_gt (num_pos (t := t)))
  have h2 := Int.emod_lt_of_pos k (num_pos (t := t))
  have h3 : (k % (num t : Int)).toNat < (ux t).length := by rw [len_ux]; omega
  rw [List.getElem?_eq_getElem h3]
  unfold uni
  rw [List.getD_eq_getElem?_getD, List.getElem?_eq_getElem h3]
  rfl
theorem len_put {f : Str} {y : V} : ∀ {fs : List (Str × V)}, (putF f y fs).length ≤ fs.length + 1
  | [] => Nat.le_refl _
  | (a, x) :: r => by
    show (if a = f then (a, y) :: r else (a, x) :: putF f y r).length ≤ _
    by_cases h : a = f
    · rw [if_pos h]; exact Nat.le_succ _
    · rw [if_neg h]; exact Nat.succ_le_succ len_put
theorem small_put {f : Str} {y : V} {fs : List (Str × V)} {n : Nat} (h : fs.length ≤ n) : (putF f y fs).length ≤ n + 1 := Nat.le_trans len_put (Nat.succ_le_succ h)
/-! ### promises -/
noncomputable def spInit (C : Addr) (U : Bool → Addr) : Sp := fun vs H Q _ => ∃ p dx t, vs = [.ref p, .str (nm t)] ∧ H p = some (.ins C dx []) ∧ ∀ H', (∀ b, b ≠ p → H' b = H b) → H' p = some (.ins C dx (gF U t)) → Q .non H'
noncomputable def spTimes (K : PySem.W.Frag) (C : Addr) (U : Bool → Addr) : Sp := fun vs H Q _ => ∃ g t a b u v, vs = [.ref g, .ref a, .ref b] ∧ GridAt C U H g t ∧ PAt K H a u ∧ PAt K H b v ∧ Sm u ∧ Sm v ∧ ∀ p, H p = none → Q (.ref p) (upd H p (.tup [.int (mul t u v).1, .int (mul t u v).2]))
noncomputable def spNorm (K : PySem.W.Frag) (C : Addr) (U : Bool → Addr) : Sp := fun vs H Q _ => ∃ g t a u, vs = [.ref g, .ref a] ∧ GridAt C U H g t ∧ PAt K H a u ∧ Sm u ∧ Q (.int (nrm t u)) H
noncomputable def spFlip (K : PySem.W.Frag) (C : Addr) (U : Bool → Addr) : Sp := fun vs H Q _ => ∃ g t a u, vs = [.ref g, .ref a] ∧ GridAt C U H g t ∧ PAt K H a u ∧ Sm u ∧ ∀ p, H p = none → Q (.ref p) (upd H p (.tup [.int (flip t u).1, .int (flip t u).2]))
noncomputable def spTurned (K : PySem.W.Frag) (C : Addr) (U : Bool → Addr) : Sp := fun vs H Q _ => ∃ g t a u k, vs = [.ref g, .ref a, .int k] ∧ GridAt C U H g t ∧ PAt K H a u ∧ Sm u ∧ ∀ p, H p = none → Q (.ref p) (upd H p (.tup [.int (mul t u (uni t k)).1, .int (mul t u (uni t k)).2]))
noncomputable def ptOk (u : Int × Int) : Prop := isIntV (.int u.1) = true ∧ isIntV (.int u.2) = true
noncomputable def spCheckP (K : PySem.W.Frag) : Sp := fun vs H Q _ => ∃ a u, vs = [.ref a] ∧ PAt K H a u ∧ ptOk u ∧ Q .non H
noncomputable def spCheckN : Sp := fun vs H Q _ => ∃ k, vs = [.int k] ∧ isIntV (.int k) = true ∧ Q .non H
noncomputable def spMUnit (K : PySem.W.Frag) (C : Addr) (U : Bool → Addr) : Sp := fun vs H Q _ => ∃ g t k, vs = [.ref g, .int k] ∧ GridAt C U H g t ∧ isIntV (.int k) = true ∧ ∀ i, (∀ H', PAt K H' i (uni t k)) → Q (.ref i) H
noncomputable def spMNorm (K : PySem.W.Frag) (C : Addr) (U : Bool → Addr) : Sp := fun vs H Q _ => ∃ g t a u, vs = [.ref g, .ref a] ∧ GridAt C U H g t ∧ PAt K H a u ∧ ptOk u ∧ Q (.int (nrm t u)) H
noncomputable def spMFlip (K : PySem.W.Frag) (C : Addr) (U : Bool → Addr) : Sp := fun vs H Q _ => ∃ g t a u, vs = [.ref g, .ref a] ∧ GridAt C U H g t ∧ PAt K H a u ∧ ptOk u ∧ ∀ p, H p = none → Q (.ref p) (upd H p (.tup [.int (flip t u).1, .int (flip t u).2]))
noncomputable def spMTurned (K : PySem.W.Frag) (C : Addr) (U : Bool → Addr) : Sp := fun vs H Q _ => ∃ g t a u k, vs = [.ref g, .ref a, .int k] ∧ GridAt C U H g t ∧ PAt K H a u ∧ ptOk u ∧ isIntV (.int k) = true ∧ ∀ p, H p = none → Q (.ref p) (upd H p (.tup [.int (mul t u (uni t k)).1, .int (mul t u (uni t k)).2]))
noncomputable def spMLen (C : Addr) (U : Bool → Addr) : Sp := fun vs H Q _ => ∃ g t, vs = [.ref g] ∧ GridAt C U H g t ∧ Q (.int (num t : Nat)) H
noncomputable def alt (t : Bool) (e o : Int × Int) : Bool :=
  decide (dist [0, (e.2 - e.1) % (num t : Int), (o.1 - e.1) % (num t : Int), (o.2 - e.1) % (num t : Int)] = 4) &&
    (decide ((o.1 - e.1) % (num t : Int) < (e.2 - e.1) % (num t : Int)) != decide ((o.2 - e.1) % (num t : Int) < (e.2 - e.1) % (num t : Int)))
noncomputable def spMAlt (K : PySem.W.Frag) (C : Addr) (U : Bool → Addr) : Sp := fun vs H Q _ => ∃ g t a b e o, vs = [.ref g, .ref a, .ref b] ∧ GridAt C U H g t ∧ PAt K H a e ∧ PAt K H b o ∧ ptOk e ∧ ptOk o ∧ ∀ H', Same H H' → Q (.bl (alt t e o)) H'
/-! ### the law's own grids -/
noncomputable def PlainAt (H : Hp) (q : Addr) (t : Bool) : Prop := H q = some (.dK [(.inr "grid", .str (nm t))])
theorem PlainAt.get {H : Hp} {q : Addr} {t : Bool} (h : PlainAt H q t) : DGet H q (.str "grid") (some (.str (nm t))) := by
  have z := DGet.k (k := .inr "grid") h
  exact z
noncomputable def spPlain : Sp := fun vs H Q _ => ∃ p, vs = [.ref p] ∧ Die H p ∧ ∀ q t H', H q = none → q ≠ p → PlainAt H' q t → Got p H H' → Q (.ref q) H'
noncomputable def spAround : Sp := fun vs H Q _ => ∃ q t, vs = [.ref q] ∧ PlainAt H q t ∧ Q (.int (num t : Nat)) H
noncomputable def spUnitL (K : PySem.W.Frag) : Sp := fun vs H Q _ => ∃ q t k, vs = [.ref q, .int k] ∧ PlainAt H q t ∧ ∀ p H', Same H H' → PAt K H' p (uni t k) → Q (.ref p) H'
noncomputable def spTimesL (K : PySem.W.Frag) : Sp := fun vs H Q _ => ∃ q t a b u v, vs = [.ref q, .ref a, .ref b] ∧ PlainAt H q t ∧ PAt K H a u ∧ PAt K H b v ∧ Sm u ∧ Sm v ∧ ∀ p, H p = none → Q (.ref p) (upd H p (.tup [.int (mul t u v).1, .int (mul t u v).2]))
noncomputable def spSpun (K : PySem.W.Frag) : Sp := fun vs H Q _ => ∃ q t a u k, vs = [.ref q, .ref a, .int k] ∧ PlainAt H q t ∧ PAt K H a u ∧ Sm u ∧ ∀ p H', Same H H' → PAt K H' p (mul t u (uni t k)) → Q (.ref p) H'
/-- how many of a pair have the rest d -/
noncomputable def cnt2 (m : Int) (u : Int × Int) (d : Nat) : Nat := (if u.1 % m = (d : Int) then 1 else 0) + (if u.2 % m = (d : Int) then 1 else 0)
noncomputable def metUp (m : Int) (e o : Int × Int) : Nat → List Int
  | 0 => []
  | d + 1 => (metUp m e o d ++ List.replicate (cnt2 m e d) 0) ++ List.replicate (cnt2 m o d) 1
noncomputable def doAlt (m : Nat) (e o : Int × Int) : Bool := decide (dist [e.1 % (m : Int), e.2 % (m : Int), o.1 % (m : Int), o.2 % (m : Int)] = 4) && ([[0, 1, 0, 1], [1, 0, 1, 0]].any fun z => decide (z = metUp m e o m))
noncomputable def spDoAlt (K : PySem.W.Frag) : Sp := fun vs H Q _ => ∃ t a b e o, vs = [.int (num t : Nat), .ref a, .ref b] ∧ PAt K H a e ∧ PAt K H b o ∧ ∀ H', Same H H' → Q (.bl (doAlt (num t) e o)) H'
/-! ### lists of ints -/
noncomputable def intL (ns : List Int) : PyData := .list (ns.map .int)
/-- how many of the first j of a pair have the rest d -/
noncomputable def cntU (m : Int) (u : Int × Int) (d : Nat) : Nat → Nat
  | 0 => 0
  | 1 => if u.1 % m = (d : Int) then 1 else 0
  | _ => cnt2 m u d
/-! ### what the text has, for the end -/
noncomputable def TupK (K : PySem.W.Frag) (a : Addr) (xs : List V) : Prop := ∃ (o : Obj) (its : Array Value) (n : Nat), K.lookup a = some o ∧ o.cls = .type "tuple" ∧ o.data = .seq its n ∧ its.size ≤ sizeLine ∧ Vals xs its.toList
theorem TupK.at {K : PySem.W.Frag} {a : Addr} {xs : List V} (h : TupK K a xs) (H : Hp) : SqT K H a xs := .inr h
theorem uni_mk {K : PySem.W.Frag} {w : World} {aG dU aS aT s0 s1 s2 s3 t0 t1 t2 t3 t4 t5 : Addr} (g : TupK K aG [.str "square", .str "triangle"]) (kS : KDct K w dU "square" (.ref aS)) (kT : KDct K w dU "triangle" (.ref aT))
    (hS : TupK K aS [.ref s0, .ref s1, .ref s2, .ref s3]) (hT : TupK K aT [.ref t0, .ref t1, .ref t2, .ref t3, .ref t4, .ref t5])
    (p0 : TupK K s0 [.int 1, .int 0]) (p1 : TupK K s1 [.int 0, .int 1]) (p2 : TupK K s2 [.int (-1), .int 0]) (p3 : TupK K s3 [.int 0, .int (-1)])
    (q0 : TupK K t0 [.int 1, .int 0]) (q1 : TupK K t1 [.int 0, .int 1]) (q2 : TupK K t2 [.int (-1), .int 1]) (q3 : TupK K t3 [.int (-1), .int 0]) (q4 : TupK K t4 [.int 0, .int (-1)]) (q5 : TupK K t5 [.int 1, .int (-1)]) :
    Uni K w aG dU (fun t => cond t aT aS) (fun t => cond t [t0, t1, t2, t3, t4, t5] [s0, s1, s2, s3]) where
  grids := g.at
  key := fun t => by cases t; exact kS; exact kT
  tup := fun t H => by cases t; exact hS.at H; exact hT.at H
  len := fun t => by cases t <;> rfl
  pt := fun t i a p ha hp H => by
    cases t
    · match i, ha, hp with
      | 0, ha, hp => cases Option.some.inj ha; cases Option.some.inj hp; exact p0.at H
      | 1, ha, hp => cases Option.some.inj ha; cases Option.some.inj hp; exact p1.at H
      | 2, ha, hp => cases Option.some.inj ha; cases Option.some.inj hp; exact p2.at H
      | 3, ha, hp => cases Option.some.inj ha; cases Option.some.inj hp; exact p3.at H
    · match i, ha, hp with
      | 0, ha, hp => cases Option.some.inj ha; cases Option.some.inj hp; exact q0.at H
      | 1, ha, hp => cases Option.some.inj ha; cases Option.some.inj hp; exact q1.at H
      | 2, ha, hp => cases Option.some.inj ha; cases Option.some.inj hp; exact q2.at H
      | 3, ha, hp => cases Option.some.inj ha; cases Option.some.inj hp; exact q3.at H
      | 4, ha, hp => cases Option.some.inj ha; cases Option.some.inj hp; exact q4.at H
      | 5, ha, hp => cases Option.some.inj ha; cases Option.some.inj hp; exact q5.at H
theorem kdct_mk {K : PySem.W.Frag} {w : World} {a v : Addr} {x : Str} {es : Array DictEntry} {n : Nat} (l : K.lookup a = some ⟨.type "dict", none, .dict es n, #[]⟩) (k : PySem.W.nsIn K a x = some (some (.ref v))) (kk : PySem.W.KeysLit w.params es.toList) : KDct K w a x (.ref v) :=
  ⟨es, n, .ref v, l, kk, k, rfl⟩
end GL
namespace GL
open PySem PySem.Spec PyProof.Rows L2
/-! ### what turns do to points -/
variable {t : Bool} {u : Int × Int} {a b k : Int}
/-- small points -/
noncomputable def Le (n : Nat) (u : Int × Int) : Prop := u.1.natAbs ≤ n ∧ u.2.natAbs ≤ n
theorem short_of {x : Int} (h : x.natAbs ≤ 10 ^ 9) : isIntV (.int x) = true := by rw [int_short]; exact decide_eq_true (Nat.lt_of_le_of_lt h (by decide +kernel))
theorem Le.ok {n : Nat} (h : Le n u) (hn : n ≤ 10 ^ 9) : ptOk u := ⟨short_of (Nat.le_trans h.1 hn), short_of (Nat.le_trans h.2 hn)⟩
/-! ### the text of a small point -/
noncomputable def ptD (u : Int × Int) : PyData := .tuple [.int u.1, .int u.2]
theorem ptD_at {K : PySem.W.Frag} {H : Hp} {a : Addr} (h : PAt K H a u) : Dp K H (.ref a) (ptD u) := .tup h (.cons (.int _) (.cons (.int _) .nil))
theorem ptD_eqv (u v : Int × Int) : PyData.eqv (ptD u) (ptD v) = decide (u = v) := by
  obtain ⟨x, y⟩ := u
  obtain ⟨z, w⟩ := v
  show PyData.eqvAll [.int x, .int y] [.int z, .int w] = _
  simp only [PyData.eqvAll]
  rw [show PyData.eqv (.int x) (.int z) = (x == z) from rfl, show PyData.eqv (.int y) (.int w) = (y == w) from rfl, Bool.eq_iff_iff]
  simp
noncomputable def spTurns (C : Addr) (U : Bool → Addr) : Sp := fun vs H Q _ => ∃ p q g t, vs = [.ref p, .ref q, .ref g] ∧ Die H p ∧ PlainAt H q t ∧ GridAt C U H g t ∧ ∀ H', Got p H H' → Q (.bl true) H'
theorem Got.over_same {p : Addr} {H H1 H2 : Hp} (g : Got p H H1) (s : Same H1 H2) : Got p H H2 :=
  ⟨fun b o e n => s _ _ (g.keep b o e n), let ⟨l, b, c, l0, e⟩ := g.die; ⟨l, b, c, l0, s _ _ e⟩⟩
theorem Le.mono {n m : Nat} (h : Le n u) (hn : n ≤ m) : Le m u := ⟨Nat.le_trans h.1 hn, Nat.le_trans h.2 hn⟩
/-! ### all pairs of pairs of directions -/
end GL
/-! repr of lists and tuples of ints that have up to 4300 digits -/
namespace GL
open PySem PySem.Spec PyProof.Rows L2
noncomputable def Big (i : Int) : Prop := i.natAbs < 10 ^ 4300
section
variable {prog : Program} {w : World} {h₀ : Heap}
theorem big_call {A : Around} {E : Value → Shared → Prop} {s : Shared} {Q : Value → Shared → Prop} {i : Int} {t : Tok} (nd : s.heap.NoDigits) (hi : Big i) (h : Q (.str (toString i) s.toks) { s with toks := s.toks + 1 }) :
    wpAny (model prog w) A (call (.builtin "int.__repr__") [.int i t]) Q E s := by
  refine wpAny_call_entry F.slot_int_repr (typeIs_int s i t) F.entry_int_repr ?_ (F.args_int_repr_1 _)
  unfold Builtin.«int.__repr__»
  show wpAny (model prog w) _ (Builtin.overDigitLimit? i >>= _) _ _ s
  refine wpAny_bind (overDigitLimit_any nd (fun lt => ?_) (fun ge => absurd hi (Nat.not_lt.mpr ge)))
  exact wpAny_bind (wpAny_mkStr (wpAny_pure ⟨_, rfl, h⟩) (int_text_fits10 lt))
theorem big_leaf (nd : h₀.NoDigits) {i : Int} (t : Tok) (hi : Big i) (as : List Addr) (d : Nat) : ReprK prog w as h₀ d (.int i t) (toString i) := by
  intro base hb A g E s Q hg hcl hu hk hQ
  have hb' : base ≤ sizeLine := Nat.le_trans (Nat.le_add_right _ _) hb
  rw [pyReprUnder_leaf (v := Value.int i t) hb' (fun _ z => by cases z)]
  unfold pyRepr
  refine wpAny_bind (wpAny_pyReprObj_slot (Nat.lt_of_le_of_lt (Nat.le_add_right _ _) hu) (typeIs_int s i t) F.slot_int_repr.toG (big_call (nd.keeps hk) hi ⟨_, _, rfl, ?_⟩))
  exact wpAny_pure (hQ s.heap _ fun _ _ e => e)
/-- ints alone -/
noncomputable def BigInts (ds : List PyData) : Prop := ∀ d ∈ ds, ∃ i, d = .int i ∧ Big i
/-- an int, or a tuple of ints -/
inductive BigItem : PyData → Prop where
  | int {i : Int} : Big i → BigItem (.int i)
  | tup {xs : List PyData} : BigInts xs → BigItem (.tuple xs)
end
noncomputable def rReprBig (K : PySem.W.Frag) : List V → Hp → VK → Prop := fun xs H Q => ∃ a ds, xs = [.ref a] ∧ Dp K H (.ref a) (.list ds) ∧ (∀ d ∈ ds, BigItem d) ∧ ds ≠ [] ∧ 1 < (PyData.list ds).depth ∧ (PyData.shown (.list ds)).length ≤ sizeLine ∧ Q (.str (PyData.shown (.list ds))) H
/-! ### how long the text of such a list is -/
end GL
namespace GL
open PySem PySem.Spec PyProof.Rows L2
/-! ### products and quotients -/
section
variable {t : Bool} {u v f q z : Int × Int} {a b : Int}
noncomputable def padd (u v : Int × Int) : Int × Int := (u.1 + v.1, u.2 + v.2)
noncomputable def low (t : Bool) (u v : Int × Int) : Int × Int := mul t u (flip t v)
noncomputable def quo (t : Bool) (u v : Int × Int) : Option (Int × Int) := if (low t u v).1 % nrm t v = 0 ∧ (low t u v).2 % nrm t v = 0 then some ((low t u v).1 / nrm t v, (low t u v).2 / nrm t v) else none
end
/-! ### promises -/
noncomputable def spMProd (K : PySem.W.Frag) (C : Addr) (U : Bool → Addr) : Sp := fun vs H Q _ => ∃ g t a b u v, vs = [.ref g, .ref a, .ref b] ∧ GridAt C U H g t ∧ PAt K H a u ∧ PAt K H b v ∧ ptOk u ∧ ptOk v ∧ ∀ p, H p = none → Q (.ref p) (upd H p (.tup [.int (mul t u v).1, .int (mul t u v).2]))
/-- what stands for a quotient -/
noncomputable def QAt (K : PySem.W.Frag) (H : Hp) (r : Option (Int × Int)) (x : V) : Prop := match r with | none => x = .non | some q => ∃ p, x = .ref p ∧ PAt K H p q
theorem QAt.same {K : PySem.W.Frag} {H H' : Hp} {r : Option (Int × Int)} {x : V} (h : QAt K H r x) (s : Same H H') : QAt K H' r x := by
  cases r with
  | none => exact h
  | some q => obtain ⟨p, e, hp⟩ := h; exact ⟨p, e, hp.same s⟩
noncomputable def spDiv (K : PySem.W.Frag) (C : Addr) (U : Bool → Addr) : Sp := fun vs H Q _ => ∃ g t a b u v, vs = [.ref g, .ref a, .ref b] ∧ GridAt C U H g t ∧ PAt K H a u ∧ PAt K H b v ∧ Le (10 ^ 6) u ∧ Le (10 ^ 3) v ∧ 0 < nrm t v ∧ ∀ x H', Same H H' → QAt K H' (quo t u v) x → Q x H'
noncomputable def spPlus (K : PySem.W.Frag) : Sp := fun vs H Q _ => ∃ a b u v, vs = [.ref a, .ref b] ∧ PAt K H a u ∧ PAt K H b v ∧ ∀ p, H p = none → Q (.ref p) (upd H p (.tup [.int (padd u v).1, .int (padd u v).2]))
noncomputable def spNormL (K : PySem.W.Frag) : Sp := fun vs H Q _ => ∃ q t a u, vs = [.ref q, .ref a] ∧ PlainAt H q t ∧ PAt K H a u ∧ Sm u ∧ Q (.int (nrm t u)) H
noncomputable def spFlipL (K : PySem.W.Frag) : Sp := fun vs H Q _ => ∃ q t a u, vs = [.ref q, .ref a] ∧ PlainAt H q t ∧ PAt K H a u ∧ ∀ p, H p = none → Q (.ref p) (upd H p (.tup [.int (flip t u).1, .int (flip t u).2]))
noncomputable def spPlace (K : PySem.W.Frag) : Sp := fun vs H Q _ => ∃ p, vs = [.ref p] ∧ Die H p ∧ ∀ a u H', ptOk u → PAt K H' a u → Got p H H' → Q (.ref a) H'
noncomputable def spSmall (K : PySem.W.Frag) : Sp := fun vs H Q _ => ∃ p, vs = [.ref p] ∧ Die H p ∧ ∀ a u H', Le 20 u → PAt K H' a u → Got p H H' → Q (.ref a) H'
noncomputable def spParts (K : PySem.W.Frag) (C : Addr) (U : Bool → Addr) : Sp := fun vs H Q _ => ∃ q g t a b u v, vs = [.ref q, .ref g, .ref a, .ref b] ∧ PlainAt H q t ∧ GridAt C U H g t ∧ PAt K H a u ∧ PAt K H b v ∧ ptOk u ∧ ptOk v ∧ ∀ H', Same H H' → Q (.bl true) H'
/-! ### the list that is shown -/
noncomputable def bigD (t : Bool) (u v : Int × Int) : List PyData := [ptD (mul t u v), ptD (mul t u v), .int (nrm t u), ptD (flip t u)]
noncomputable def qD : Option (Int × Int) → PyData | none => .none | some q => ptD q
noncomputable def spQuots (C : Addr) (U : Bool → Addr) : Sp := fun vs H Q _ => ∃ p q g t, vs = [.ref p, .ref q, .ref g] ∧ Die H p ∧ PlainAt H q t ∧ GridAt C U H g t ∧ ∀ H', Got p H H' → Q (.bl true) H'
end GL
/-! comparing instances of one class with an own == -/
namespace GL
open PySem PySem.Spec PyProof.Rows L2
section
variable {X : Cx} {CX : CXT} {k : Nat} {C : Addr} {sp : Sp} {E : XK}
end
end GL
/-! comparing an instance that has an own == with anything; str of an instance -/
namespace GL
open PySem PySem.Spec PyProof.Rows L2
section
variable {prog : Program} {w : World} {A : Around} {E : Value → Shared → Prop} {s : Shared} {K : PySem.W.Frag} {x C L f : Addr} {h₀ : Heap} {m : Str → Option Value} {ox : Obj} {od : Option Obj} {b tb : Value}
open PySem.W PySem.Calls Builtin in
end

section
variable {X : Cx} {CX : CXT} {k : Nat} {C : Addr} {sp : Sp} {E : XK}
/-- what of a class stands in the text, for its == and != -/
structure EqC (K : PySem.W.Frag) (C : Addr) : Prop where
  ne : PySem.W.findIn K (.ref C) "__ne__" = some (some (.builtin "object.__ne__"))
  ob : PySem.W.subIn K (.ref C) (.type "object") = some true
/-- x is an instance of C, y is of a type that is no subclass of C -/
noncomputable def rEqA (K : PySem.W.Frag) (C : Addr) (sp : Sp) (E : XK) (neg : Bool) : R2 := fun x y H Q => ∃ a dx fs t, x = .ref a ∧ H a = some (.ins C dx fs) ∧ TyX K H y t ∧ PySem.W.notFirst K C t = true ∧
  sp [.ref a, y] H (fun v H' => ∃ r, v = .bl r ∧ Q (.bl (neg != r)) H') E
/-- str of an instance whose class has its own __str__ -/
noncomputable def rStrM (C : Addr) (sp : Sp) (E : XK) : List V → Hp → VK → Prop := fun xs H Q => ∃ a dx fs, xs = [.ref a] ∧ H a = some (.ins C dx fs) ∧ sp [.ref a] H (fun v H' => ∃ y, v = .str y ∧ Q (.str y) H') E
end
end GL
/-! list of an instance whose __iter__ hands out the iterator of a tuple -/
namespace GL
open PySem PySem.Spec PyProof.Rows L2
/-- at it the iterator of the tuple at t, with i things taken -/
noncomputable def ItT (t it : Addr) (i : Nat) : HO := .ext fun h => h.IsTupleIter it t i
noncomputable def ItX (it : Addr) : HO := .ext fun h => ∃ o, h.get? it = some o
section
variable {X : Cx} {pins : List (Addr × Obj)} {σ : L2.St} {H : Hp} {s : Shared} {t it : Addr} {i : Nat}
/-- iter(t), t a tuple -/
noncomputable def rIterT (K : PySem.W.Frag) : List V → Hp → VK → Prop := fun xs H Q => ∃ (l : Addr) (zs : List V), xs = [.ref l] ∧ SqT K H l zs ∧ ∀ it, H it = none → Q (.ref it) (upd H it (ItT l it 0))
end
section
variable {prog : Program} {w : World} {A : Around} {E : Value → Shared → Prop} {s : Shared}
end
section
variable {X : Cx} {pins : List (Addr × Obj)} {σ : L2.St} {H1 : Hp} {q it t a : Addr} {zs : List V} {A1 : Around}
end

section
variable {X : Cx} {CX CX' : CXT} {k k' : Nat} {C : Addr} {sp spL : Sp} {E : XK}
/-- list(o): __iter__ hands out the iterator of a tuple, __len__ says how long it is -/
noncomputable def rListIt (K : PySem.W.Frag) (C : Addr) (sp spL : Sp) (E : XK) : List V → Hp → VK → Prop := fun xs H Q => ∃ a dx fs, xs = [.ref a] ∧ H a = some (.ins C dx fs) ∧
  ∀ q, H q = none → sp [.ref a] (upd H q (.lst [])) (fun v H1 => ∃ it t zs, v = .ref it ∧ H1 it = some (ItT t it 0) ∧ H1 q = some (.lst []) ∧ H1 a = some (.ins C dx fs) ∧ zs.length ≤ 1000 ∧
    (∀ H : Hp, (∀ b o, b ≠ q → b ≠ it → H1 b = some o → H b = some o) → SqT K H t zs) ∧ spL [.ref a] H1 (fun v H2 => v = .int zs.length ∧ H2 = H1) E ∧
    ∀ H2, (∀ b o, b ≠ q → b ≠ it → H1 b = some o → H2 b = some o) → H2 q = some (.lst zs) → Q (.ref q) H2) E
end
end GL
/-! t.index(x), t a tuple of data of any depth -/
namespace GL
open PySem PySem.Spec PyProof.Rows L2
section
variable {X : Cx}
noncomputable def rIndexT (K : PySem.W.Frag) : V → List V → Hp → VK → Prop := fun x xs H Q => ∃ (a : Addr) (y : V) (d : PyData) (ds : List PyData) (j : Nat) (z : PyData), x = V.ref a ∧ xs = [y] ∧ Dp K H (V.ref a) (.tuple ds) ∧ Dp K H y d ∧
  SeqAt.shaped (.tuple ds) = true ∧ SeqAt.shaped d = true ∧ ds[j]? = some z ∧ PyData.eqv z d = true ∧ (∀ (m : Nat) (z' : PyData), m < j → ds[m]? = some z' → PyData.eqv z' d = false) ∧ Q (.int (j : Nat)) H
end
end GL
/-! points as data; what the Grid's own methods promise -/
namespace GL
open PySem PySem.Spec PyProof.Rows L2
variable {K : PySem.W.Frag} {C : Addr} {U : Bool → Addr} {us : Bool → List Addr} {t : Bool}
/-! ### points as data -/
theorem ptD_lay (u : Int × Int) : (ptD u).canLay0 = true := by simp [ptD, PyData.canLay0, PyData.canLayAll0]
theorem ptD_depth (u : Int × Int) : (ptD u).depth = 1 := by simp [ptD, PyData.depth, PyData.depthAll]
theorem ptDs_lay : ∀ zs : List (Int × Int), PyData.canLayAll0 (zs.map ptD) = true
  | [] => by simp [PyData.canLayAll0]
  | z :: zs => by simp [PyData.canLayAll0, ptD_lay z, ptDs_lay zs]
theorem ptDs_depth : ∀ zs : List (Int × Int), PyData.depthAll (zs.map ptD) ≤ 1
  | [] => by simp [PyData.depthAll]
  | z :: zs => by
    have h1 := ptDs_depth zs
    have h2 := ptD_depth z
    simp only [List.map_cons, PyData.depthAll]
    omega
theorem ptDs_shaped (zs : List (Int × Int)) : SeqAt.shaped (.list (zs.map ptD)) = true := by
  have h1 := ptDs_depth zs
  have h2 : PyData.depth (.list (zs.map ptD)) ≤ 64 := by
    simp only [PyData.depth]
    omega
  show (PyData.canLay0 (.list (zs.map ptD)) && decide (PyData.depth (.list (zs.map ptD)) ≤ 64)) = true
  rw [Bool.and_eq_true]
  exact ⟨by simp only [PyData.canLay0]; exact ptDs_lay zs, decide_eq_true h2⟩
theorem ptDs_eqv : ∀ zs ys : List (Int × Int), PyData.eqvAll (zs.map ptD) (ys.map ptD) = decide (zs = ys)
  | [], [] => rfl
  | [], y :: ys => rfl
  | z :: zs, [] => rfl
  | z :: zs, y :: ys => by
    rw [List.map_cons, List.map_cons, PyData.eqvAll, ptD_eqv, ptDs_eqv zs ys, Bool.eq_iff_iff]
    simp
theorem PAt.dp {H : Hp} {a : Addr} {u : Int × Int} (h : PAt K H a u) : Dp K H (.ref a) (ptD u) := .tup h (.cons (.int _) (.cons (.int _) .nil))
/-- at the addresses as stand the points ps -/
noncomputable def PAts (K : PySem.W.Frag) (H : Hp) (as : List Addr) (ps : List (Int × Int)) : Prop := as.length = ps.length ∧ ∀ (i : Nat) a p, as[i]? = some a → ps[i]? = some p → PAt K H a p
theorem PAts.dp {H : Hp} : ∀ {as : List Addr} {ps : List (Int × Int)}, PAts K H as ps → DpAll K H (as.map V.ref) (ps.map ptD)
  | [], [], _ => .nil
  | [], p :: ps, h => by cases h.1
  | a :: as, [], h => by cases h.1
  | a :: as, p :: ps, h => .cons (h.2 0 a p rfl rfl).dp (PAts.dp (as := as) (ps := ps) ⟨Nat.succ.inj h.1, fun i a p e1 e2 => h.2 (i + 1) a p e1 e2⟩)
theorem PAts.same {H H' : Hp} {as : List Addr} {ps : List (Int × Int)} (h : PAts K H as ps) (s : Same H H') : PAts K H' as ps := ⟨h.1, fun i a p e1 e2 => (h.2 i a p e1 e2).same s⟩
theorem PAt.lst {H : Hp} {a D : Addr} {u : Int × Int} {xs : List V} {o : HO} (h : PAt K H a u) (e : H D = some (.lst xs)) : PAt K (upd H D o) a u := by
  rcases h with (z | ⟨ob, z⟩) | z
  · exact .inl (.inl (by rw [upd_ne (ne_of z e (by intro z; cases z))]; exact z))
  · exact .inl (.inr ⟨ob, by rw [upd_ne (ne_of z e (by intro z; cases z))]; exact z⟩)
  · exact .inr z
theorem PAts.lst {H : Hp} {as : List Addr} {D : Addr} {ps : List (Int × Int)} {xs : List V} {o : HO} (h : PAts K H as ps) (e : H D = some (.lst xs)) : PAts K (upd H D o) as ps := ⟨h.1, fun i a p e1 e2 => (h.2 i a p e1 e2).lst e⟩
/-- which unit a point is -/
noncomputable def dirOf (t : Bool) (u : Int × Int) : Option Nat := (ux t).findIdx? fun p => decide (p = u)
noncomputable def dirV (t : Bool) (u : Int × Int) : V := match dirOf t u with | some j => .int (j : Nat) | none => .non
noncomputable def dirD (t : Bool) (u : Int × Int) : PyData := match dirOf t u with | some j => .int (j : Nat) | none => .none
/-- what is told of a grid -/
noncomputable def toldD (t : Bool) : PyData := .tuple [.str (nm t), .int ((num t : Int) / 2), .tuple ((ux t).map ptD), .int (num t : Int), .str (nm t)]
/-! ### what of the class Grid stands in the text, for == and isinstance -/
structure GIs (K : PySem.W.Frag) (C : Addr) : Prop where
  eq : EqC K C
  is : (((PySem.W.clsIn K C).isSome && PySem.W.typeIn K (.ref C) == some (.type "type")) = true)
  ha : PySem.W.findIn K (.ref C) "__class__" = some (some (.builtin "object.__class__"))
  hn : PySem.W.specialIn K (.builtin "object.__class__") "__get__" = some (some (.builtin "getset_descriptor.__get__"))
  htk : PySem.W.takesIn K (.builtin "object.__class__") = some true
  hm : PySem.W.mroIn K C (.type "object") = some true
theorem gis_mk (h1 : PySem.W.isClsIn K C = true) (h2 : PySem.W.typeIn K (.ref C) = some (.type "type")) (ne : PySem.W.findIn K (.ref C) "__ne__" = some (some (.builtin "object.__ne__"))) (ob : PySem.W.subIn K (.ref C) (.type "object") = some true)
    (ha : PySem.W.findIn K (.ref C) "__class__" = some (some (.builtin "object.__class__"))) (hn : PySem.W.specialIn K (.builtin "object.__class__") "__get__" = some (some (.builtin "getset_descriptor.__get__"))) (htk : PySem.W.takesIn K (.builtin "object.__class__") = some true)
    (hm : PySem.W.mroIn K C (.type "object") = some true) : GIs K C :=
  ⟨⟨ne, ob⟩, by
    have h1' : (PySem.W.clsIn K C).isSome = true := h1
    rw [h1', h2]
    rfl, ha, hn, htk, hm⟩
theorem GIs.ty {H : Hp} {a dx : Addr} {fs : List (Str × V)} (i : GIs K C) (c : Cls K C) (e : H a = some (.ins C dx fs)) : TyX K H (.ref a) (.ref C) := .base (.ins e c i.ha i.hn i.htk i.hm)
theorem kit_self : PySem.W.kitOne K (.ref C) (.ref C) = some true := by
  unfold PySem.W.kitOne
  rw [if_pos (beq_self_eq_true _)]
/-- the tuples of units have no dict -/
noncomputable def UTy (K : PySem.W.Frag) (U : Bool → Addr) : Prop := ∀ t, ∃ o, K.lookup (U t) = some o ∧ o.cls = .type "tuple" ∧ o.dict = none
/-! ### promises -/
/-- y as the other side of a grid t: r tells whether it is a grid of that name -/
noncomputable def GOpd (K : PySem.W.Frag) (C : Addr) (U : Bool → Addr) (H : Hp) (t : Bool) (y : V) (r : Bool) : Prop := (∃ b t', y = .ref b ∧ GridAt C U H b t' ∧ r = (t == t')) ∨ ∃ k : Kd, Of K H y k ∧ r = false
noncomputable def spGEq (K : PySem.W.Frag) (C : Addr) (U : Bool → Addr) : Sp := fun vs H Q _ => ∃ g t y r, vs = [.ref g, y] ∧ GridAt C U H g t ∧ GOpd K C U H t y r ∧ Q (.bl r) H
noncomputable def spGIter (C : Addr) (U : Bool → Addr) : Sp := fun vs H Q _ => ∃ g t, vs = [.ref g] ∧ GridAt C U H g t ∧ ∀ it, H it = none → Q (.ref it) (upd H it (ItT (U t) it 0))
noncomputable def spGStr (C : Addr) (U : Bool → Addr) : Sp := fun vs H Q _ => ∃ g t, vs = [.ref g] ∧ GridAt C U H g t ∧ Q (.str (nm t)) H
noncomputable def spGDir (K : PySem.W.Frag) (C : Addr) (U : Bool → Addr) : Sp := fun vs H Q _ => ∃ g t a u, vs = [.ref g, .ref a] ∧ GridAt C U H g t ∧ PAt K H a u ∧ ptOk u ∧ Q (dirV t u) H
end GL
/-! operators of own classes: both sides of one class, of two classes, - x, bool(x), x[i] -/
namespace GL
open PySem PySem.Spec PyProof.Rows L2
section
variable {prog : Program} {w : World} {A : Around} {E : Value → Shared → Prop} {s : Shared} {K : PySem.W.Frag} {x C D L f fD : Addr} {h₀ : Heap} {m : Str → Option Value} {ox : Obj} {od : Option Obj} {b : Value}
/-- what of two classes the text has, where D is no subclass of C -/
structure BinC (K : PySem.W.Frag) (C : Addr) (nm : String) : Prop where
  first : PySem.W.selfFirst K C = true
  own : ∃ f : Addr, PySem.W.findIn K (.ref C) (PySem.dunder nm) = some (some (.ref f))
  refl : PySem.W.findIn K (.ref C) (dunderR nm) = some none
open PySem.W PySem.Calls Builtin in
open PySem.W PySem.Calls Builtin in
open PySem.W PySem.Calls Builtin in
open PySem.W PySem.Calls Builtin in
end

section
variable {prog : Program} {w : World} {A : Around} {E : Value → Shared → Prop} {s : Shared} {x : Addr}
end

/-- what the text has of two classes, for an operator with an instance of each -/
structure SubC (K : PySem.W.Frag) (D : Addr) (r : Str) (nm : Str) (cd : ClassData) : Prop where
  ho : PySem.W.nsIn K cStatics "thirdparty.any" = some none
  hty : PySem.W.typeIn K (.ref D) = some (.type "type")
  h1 : PySem.W.findIn K (.type "type") r = some none
  hga : PySem.W.findIn K (.type "type") "__getattribute__" = some (some (.builtin "type.__getattribute__"))
  hgg : PySem.W.findIn K (.type "type") "__getattr__" = some none
  hcd : PySem.W.clsIn K D = some cd
  hcn : cd.name = nm
  hs8 : nm.cps.foldl (fun k c => k + (Str.utf8Of c).length) 0 ≤ 100
  hfit : (((s!"type object '{nm.toString}' has no attribute '" : String) : Str) ++ r ++ ("'" : Str)).length ≤ sizeLine
  hfit2 : r.length ≤ sizeLine
inductive BinK (K : PySem.W.Frag) (C D : Addr) (op : Operator) : Prop where
  | same (e : C = D) (c : PySem.W.selfFirst K C = true)
  | mixed (n : C ≠ D) (c : BinC K C op.info.2) (d : BinC K D op.info.2) (s : PySem.W.subIn K (.ref D) (.ref C) = some false)
  | sub (n : C ≠ D) (c : BinC K C op.info.2) (d : BinC K D op.info.2) (s : PySem.W.subIn K (.ref D) (.ref C) = some true) (nm : Str) (cd : ClassData) (z : SubC K D (dunderR op.info.2) nm cd)
section
variable {X : Cx} {CX : CXT} {k : Nat} {IsV : Addr → Prop} {sp : Sp} {E : XK} {m : Str} {ta tb : TE} {t : TA} {o e a b : Expr} {es : List Expr} {pos apos : Pos}
/-- x op y, both of classes of a family -/
noncomputable def rBinV (IsV : Addr → Prop) (sp : Sp) (E : XK) : R2 := fun x y H Q => ∃ a b C D dx dy fs gs, x = .ref a ∧ y = .ref b ∧ IsV C ∧ IsV D ∧ H a = some (.ins C dx fs) ∧ H b = some (.ins D dy gs) ∧ sp [.ref a, .ref b] H Q E
/-- o.m(args), o of a class of the family -/
noncomputable def tMethV (IsV : Addr → Prop) (m : Str) (sp : Sp) (E : XK) (ta : TE) (t : TA) : TE := fun σ H Q => ta σ H fun x H1 => ∃ a C dx fs, x = .ref a ∧ IsV C ∧ H1 a = some (.ins C dx fs) ∧ fs.lookup m = none ∧ t σ H1 fun vs H2 => sp (.ref a :: vs) H2 Q E
/-- x == y, x != y: x of a class of the family, y of no class below it -/
noncomputable def rEqV (K : PySem.W.Frag) (IsV : Addr → Prop) (sp : Sp) (E : XK) (neg : Bool) : R2 := fun x y H Q => ∃ a C dx fs t, x = .ref a ∧ IsV C ∧ H a = some (.ins C dx fs) ∧ TyX K H y t ∧ PySem.W.notFirst K C t = true ∧
  sp [.ref a, y] H (fun v H' => ∃ r, v = .bl r ∧ Q (.bl (neg != r)) H') E
/-- an instance of the family, alone -/
noncomputable def rOneV (IsV : Addr → Prop) (sp : Sp) (E : XK) : List V → Hp → VK → Prop := fun xs H Q => ∃ a C dx fs, xs = [.ref a] ∧ IsV C ∧ H a = some (.ins C dx fs) ∧ sp [.ref a] H Q E
end
end GL
/-! repr of data of any form without dicts, its ints of up to 4300 digits -/
namespace GL
open PySem PySem.Spec PyProof.Rows L2
mutual
noncomputable def okD : PyData → Bool
  | .int i => decide (i.natAbs < 10 ^ 4300)
  | .list xs => okAll xs
  | .tuple xs => okAll xs
  | .dict _ => false
  | _ => true
noncomputable def okAll : List PyData → Bool
  | [] => true
  | d :: r => okD d && okAll r
end
section
variable {prog : Program} {w : World} {h₀ : Heap}
mutual
theorem rep_of (nd : h₀.NoDigits) : ∀ {v : Value} {d : PyData} {as : List Addr}, Reads h₀ v d as → okD d = true → d.shown.length ≤ sizeLine → ∃ bs, ReadAtMost h₀ d.depth bs ∧ ReprK prog w bs h₀ d.depth v d.shown
  | _, _, _, .none, _, _ => ⟨[], (fun _ z => nomatch z), by simp only [PyData.shown]; exact ReprK.of_is ReprIs.none _ _ _⟩
  | _, _, _, .bool b, _, _ => ⟨[], (fun _ z => nomatch z), by simp only [PyData.shown]; exact ReprK.of_is (ReprIs.bool b) _ _ _⟩
  | _, _, _, .int i t, ok, _ => ⟨[], (fun _ z => nomatch z), by simp only [PyData.shown]; exact big_leaf nd t (show i.natAbs < 10 ^ 4300 from of_decide_eq_true (by simpa only [okD] using ok)) [] _⟩
  | _, _, _, .str x t, _, sz => ⟨[], (fun _ z => nomatch z), by simp only [PyData.shown]; exact ReprK.of_is (ReprIs.str x t (by simpa only [PyData.shown] using sz)) _ _ _⟩
  | _, _, _, .list (a := a) (vs := vs) (xs := xs) p1 p2 p3 p4, ok, sz => by
    have sz2 : (listText (PyData.shownAll xs)).length ≤ sizeLine := by simpa only [PyData.shown] using sz
    obtain ⟨bs, few, all⟩ := rep_all nd p4 (by simpa only [okD] using ok) (fun t m => Nat.le_trans (listText_mem_le m) sz2)
    have rd := Reads.list p1 p2 p3 p4
    have out : a ∉ bs := not_mem_of_deeper rd (by simp only [PyData.depth]; omega) few
    refine ⟨a :: bs, ReadAtMost.cons rd (by simp only [PyData.depth]; omega) few, ?_⟩
    simp only [PyData.depth, PyData.shown]
    obtain ⟨l⟩ := vs
    cases l with
    | nil =>
      have p5 : ReadsAll h₀ [] xs _ := p4
      cases p5
      simp only [PyData.shownAll, listText_nil]
      exact .listEmpty p1 p2 p3
    | cons x l => exact .list p1 p2 p3 out (by simpa using all.length_eq) (fun i y e => all.item i y (by simpa using e))
  | _, _, _, .tuple (a := a) (xs := xs) p1 p2 p3 p4, ok, sz => by
    have sz2 : (tupleText (PyData.shownAll xs)).length ≤ sizeLine := by simpa only [PyData.shown] using sz
    obtain ⟨bs, few, all⟩ := rep_all nd p4 (by simpa only [okD] using ok) (fun t m => Nat.le_trans (tupleText_mem_le m) sz2)
    have rd := Reads.tuple p1 p2 p3 p4
    have out : a ∉ bs := not_mem_of_deeper rd (by simp only [PyData.depth]; omega) few
    refine ⟨a :: bs, ReadAtMost.cons rd (by simp only [PyData.depth]; omega) few, ?_⟩
    simp only [PyData.depth, PyData.shown]
    exact .tuple p1 p2 p3 out all
  | _, _, _, .dict .., ok, _ => by simp only [okD] at ok; cases ok
theorem rep_all (nd : h₀.NoDigits) : ∀ {vs : List Value} {ds : List PyData} {as : List Addr}, ReadsAll h₀ vs ds as → okAll ds = true → (∀ t ∈ PyData.shownAll ds, t.length ≤ sizeLine) → ∃ bs, ReadAtMost h₀ (PyData.depthAll ds) bs ∧ ReprAllK prog w bs h₀ (PyData.depthAll ds) vs (PyData.shownAll ds)
  | _, _, _, .nil, _, _ => ⟨[], (fun _ z => nomatch z), by simp only [PyData.shownAll]; exact .nil⟩
  | _, _, _, .cons (d := d) (ds := ds) r rs, ok, sz => by
    have ok2 : okD d = true ∧ okAll ds = true := by simpa [okAll] using ok
    obtain ⟨b1, f1, k1⟩ := rep_of nd r ok2.1 (sz _ (by simp only [PyData.shownAll]; exact List.mem_cons_self ..))
    obtain ⟨b2, f2, k2⟩ := rep_all nd rs ok2.2 (fun t m => sz t (by simp only [PyData.shownAll]; exact List.mem_cons_of_mem _ m))
    refine ⟨b1 ++ b2, (f1.mono (by simp only [PyData.depthAll]; omega)).append (f2.mono (by simp only [PyData.depthAll]; omega)), ?_⟩
    simp only [PyData.depthAll, PyData.shownAll]
    exact .cons ((k1.more fun b m => List.mem_append_left _ m).level_le (by omega)) (k2.more_le (fun b m => List.mem_append_right _ m) (by omega))
end
end
noncomputable def rReprB (K : PySem.W.Frag) : List V → Hp → VK → Prop := fun xs H Q => ∃ a d, xs = [.ref a] ∧ Dp K H (.ref a) d ∧ okD d = true ∧ d.depth ≤ 20 ∧ d.shown.length ≤ sizeLine ∧ Q (.str d.shown) H
end GL
/-! vectors -/
namespace GL
open PySem PySem.Spec PyProof.Rows L2
/-! ### a class that is called, its __init__ calling defs -/
structure HasG (P : Program) (w : World) (K : PySem.W.Frag) (mg : Str → Option Value) (base : Heap) (x : Str) (C : Addr) (k : Nat) (ps : List Str) (sp : Sp) : Prop where
  ex : ∃ f fd, FnG P w K mg base CX0 k f fd ps sp ∧ mg x = some (.ref C) ∧ Mk K C f ∧ Binds K fd ps []
section
variable {X : Cx} {CX : CXT} {k : Nat} {f C : Addr} {fd : FuncData} {ps : List Str} {sp : Sp} {E : XK} {x : Str} {p pos : Pos} {e : Expr} {es : List Expr} {t : TA}
theorem run_makeG {pins : List (Addr × Obj)} {σ : L2.St} {H : Hp} {s : Shared} {Q : VK} {us : List Value} {vs : List V} (M : Mk X.K C f) (F : FnG X.prog X.w X.K X.mg X.base CX k f fd ps sp) (g : Gd X.A) (hr : Room (k + 1) X.A) (hb : Binds X.K fd ps [])
    (hx : Passes CX X E) (I : Inv X pins σ H s) (r : Vals vs us) (h : ∀ a dx, H a = none → H dx = none → dx ≠ a → sp (.ref a :: (vs ++ [])) (upd (upd H dx (.own a)) a (.ins C dx [])) (fun v H2 => v = .non ∧ Q (.ref a) H2) E) :
    wpAny (model X.prog X.w) X.A (call (.ref C) us) (EP X pins σ Q) X.xe s := by
  have q := h (s.heap.objs.size + 1) s.heap.objs.size (I.hok.fresh (Nat.le_succ _)) (I.hok.fresh (Nat.le_refl _)) (Nat.ne_of_lt (Nat.lt_succ_self _))
  rw [List.append_nil] at q
  have J := Inv.made (C := C) I
  have rr : Vals (V.ref (s.heap.objs.size + 1) :: vs) (Value.ref (s.heap.objs.size + 1) :: us) := .cons rfl r
  have nl : (Value.ref (s.heap.objs.size + 1) :: us ++ []).length = ps.length := by
    rw [List.append_nil, ← rr.length]
    exact F.len _ _ _ _ q
  have b1 := hb _ (Value.ref (s.heap.objs.size + 1) :: us) J.kIn nl
  rw [List.append_nil] at b1
  refine wpAny_call (make_map (f := f) I.kIn M.makes M.init (beq_iff_eq.mp M.fn) (codeAny_mono (F.go (by exact g) (hr.make C us []) (J.env0.make C us []) b1 rr q) fun res s' z => ?_))
  match res, z with
  | .error e, z => exact hx pins σ _ _ e s' J z
  | .ok (.ret u), z =>
    obtain ⟨v, H', I3, rv, ev, q3⟩ := J.after z
    subst ev
    exact ⟨rv, V.ref (s.heap.objs.size + 1), H', I3, rfl, q3⟩
theorem pe_makeG (h : HasG X.prog X.w X.K X.mg X.base x C k ps sp) (g : Gd X.A) (hr : Room (k + 1) X.A) (hx : Passes CX0 X E) (ha : PA X (e :: es) t) (hg : Gl X x := by exact rfl)
    (hdb : (x == ("__debug__" : Str)) = false := by decide) (he : starEach (e :: es) X.env = (false, eval e X.env) :: starEach es X.env := by rfl) (hpl : (backTo pos (starEach es X.env)).any (·.1) = false := by rfl) :
    PE X (.Call (.Name x p) (e :: es) [] pos) (tMake C sp [] E t) := by
  obtain ⟨f, fd, F, m, M, b⟩ := h.ex
  refine ⟨fun pins s σ H Q I q => ?_⟩
  refine wpAny_Call_Name_kw (ld_glob I hg m ?_ hdb)
  refine PySem.W.callWith_K (h₀ := X.base) I.ok.mod.kin M.kp (thn (ha.run pos pins s σ H _ I q) fun us s1 ⟨vs, H1, I1, r, q1⟩ => ?_) he hpl
  exact ⟨I1.kIn, run_makeG M F g hr b hx I1 r q1⟩
end
theorem Dc.hasG {P : Program} {w : World} {K : PySem.W.Frag} {mg : Str → Option Value} {base : Heap} {C : Addr} {x qual : Str} {st : Stmt} {N ps : List Str} {k : Nat} {sp : Sp} (D : Dc K C qual st) (m : mg x = some (.ref C)) (S : FnScope N ps (defScope st)) (len : ∀ vs H Q E, sp vs H Q E → vs.length = ps.length)
    (bi : ∀ (kV doc pm : Value) (an : Option Addr) (cdv ct : Value) (us : List Value), us.length = ps.length → bindArgs (PySem.W.fnOf "__init__" qual (defArgs st) (defBody st) (defScope st) .none kV doc pm an cdv ct) ⟨us, []⟩ = pure (ps.zip us))
    (body : ∀ (f : Addr) (cdv : Value) (A : Around) (outer : List Env) (s : Shared) (H : Hp) (vs : List V) (Q : VK) (E : XK), Gd (A.deeper (envOfC qual (defScope st) s.heap.objs.size f cdv)) → Room k (A.deeper (envOfC qual (defScope st) s.heap.objs.size f cdv)) → sp vs H Q E →
      ∃ t, PSs (cxOf CX0 P w K mg base N qual (defScope st) f cdv A outer s H E).nox (defBody st) t ∧ t { nx := fun _ H' => Q .non H', rt := Q } (start N vs) H) : HasG P w K mg base x C (k + 1) ps sp := by
  obtain ⟨f, fd, F, M⟩ := D.ex
  exact ⟨f, fd, F.g S len (body f), m, M, F.binds bi⟩
variable {K : PySem.W.Frag} {C CV CM D D' : Addr} {U : Bool → Addr} {us : Bool → List Addr} {t : Bool} {u z : Int × Int}
noncomputable def IsV (CV CM : Addr) (C : Addr) : Prop := C = CV ∨ C = CM
noncomputable def vF (g a : Addr) (n : Int) : List (Str × V) := [("grid", .ref g), ("point", .ref a), ("norm", .int n)]
/-- at v a vector of the class D, of the grid t, with the point u -/
noncomputable def VecAt (K : PySem.W.Frag) (C : Addr) (U : Bool → Addr) (D : Addr) (H : Hp) (v : Addr) (t : Bool) (u : Int × Int) : Prop := ∃ dx g a, H v = some (.ins D dx (vF g a (nrm t u))) ∧ GridAt C U H g t ∧ PAt K H a u
theorem VecAt.same {H H' : Hp} {v : Addr} (h : VecAt K C U D H v t u) (s : Same H H') : VecAt K C U D H' v t u := let ⟨dx, g, a, e, hg, hp⟩ := h; ⟨dx, g, a, s _ _ e, hg.same s, hp.same s⟩
noncomputable def psub (u v : Int × Int) : Int × Int := (u.1 - v.1, u.2 - v.2)
noncomputable def pw (t : Bool) (u : Int × Int) : Nat → Int × Int
  | 0 => (1, 0)
  | n + 1 => mul t (pw t u n) u
structure VCls (K : PySem.W.Frag) (D : Addr) : Prop where
  cls : Cls K D
  grid : NoAttr K D "grid"
  point : NoAttr K D "point"
  norm : NoAttr K D "norm"
/-! ### promises -/
noncomputable def spVInit (K : PySem.W.Frag) (C : Addr) (U : Bool → Addr) (D : Addr) (ok : Int × Int → Prop) : Sp := fun vs H Q _ => ∃ p dx g a t u, vs = [.ref p, .ref g, .ref a] ∧ H p = some (.ins D dx []) ∧ GridAt C U H g t ∧ PAt K H a u ∧ ok u ∧
  ∀ H', (∀ b, b ≠ p → H' b = H b) → H' p = some (.ins D dx (vF g a (nrm t u))) → Q .non H'
/-- what hands out a new vector, at u' -/
noncomputable def VNew (K : PySem.W.Frag) (C : Addr) (U : Bool → Addr) (D : Addr) (H : Hp) (t : Bool) (u : Int × Int) (Q : VK) : Prop := ∀ r H', H r = none → Same H H' → VecAt K C U D H' r t u → Q (.ref r) H'
noncomputable def spVBin (K : PySem.W.Frag) (C : Addr) (U : Bool → Addr) (CV CM : Addr) (f : Bool → Int × Int → Int × Int → Int × Int) : Sp := fun vs H Q _ => ∃ v w D D' t u z, vs = [.ref v, .ref w] ∧ IsV CV CM D ∧ IsV CV CM D' ∧ VecAt K C U D H v t u ∧ VecAt K C U D' H w t z ∧ Sm u ∧ Sm z ∧ Sm (f t u z) ∧ VNew K C U CM H t (f t u z) Q
noncomputable def spVDiv (K : PySem.W.Frag) (C : Addr) (U : Bool → Addr) (CV CM : Addr) : Sp := fun vs H Q _ => ∃ v w D D' t u z q, vs = [.ref v, .ref w] ∧ IsV CV CM D ∧ IsV CV CM D' ∧ VecAt K C U D H v t u ∧ VecAt K C U D' H w t z ∧ Sm u ∧ Sm z ∧ Sm q ∧ Sm (flip t z) ∧ Sm (low t u z) ∧ (nrm t z).natAbs < 2 ^ 2000 ∧ 0 < nrm t z ∧ mul t q z = u ∧ VNew K C U CM H t q Q
noncomputable def spVUn (K : PySem.W.Frag) (C : Addr) (U : Bool → Addr) (CV CM : Addr) (f : Bool → Int × Int → Int × Int) : Sp := fun vs H Q _ => ∃ v D t u, vs = [.ref v] ∧ IsV CV CM D ∧ VecAt K C U D H v t u ∧ Sm u ∧ Sm (f t u) ∧ VNew K C U CM H t (f t u) Q
noncomputable def spVTurn (K : PySem.W.Frag) (C : Addr) (U : Bool → Addr) (CV CM : Addr) : Sp := fun vs H Q _ => ∃ v D t u k, vs = [.ref v, .int k] ∧ IsV CV CM D ∧ VecAt K C U D H v t u ∧ isIntV (.int k) = true ∧ Sm u ∧ Sm (mul t u (uni t k)) ∧ VNew K C U CM H t (mul t u (uni t k)) Q
noncomputable def spVPow (K : PySem.W.Frag) (C : Addr) (U : Bool → Addr) (CV CM : Addr) : Sp := fun vs H Q _ => ∃ v D t u, ∃ n : Nat, vs = [.ref v, .int n] ∧ IsV CV CM D ∧ VecAt K C U D H v t u ∧ n ≤ 1000 ∧ Sm u ∧ (∀ i, i ≤ n → Sm (pw t u i)) ∧ VNew K C U CM H t (pw t u n) Q
noncomputable def spVItem (K : PySem.W.Frag) (C : Addr) (U : Bool → Addr) (CV CM : Addr) : Sp := fun vs H Q _ => ∃ v D t u i, vs = [.ref v, .int i] ∧ IsV CV CM D ∧ VecAt K C U D H v t u ∧ (i = 0 ∨ i = 1) ∧ Q (.int (if i = 0 then u.1 else u.2)) H
noncomputable def spVBool (K : PySem.W.Frag) (C : Addr) (U : Bool → Addr) (CV CM : Addr) : Sp := fun vs H Q _ => ∃ v D t u, vs = [.ref v] ∧ IsV CV CM D ∧ VecAt K C U D H v t u ∧ ∀ H', Same H H' → Q (.bl (!decide (u = (0, 0)))) H'
noncomputable def vText (u : Int × Int) : Str := (toString u.1 : Str) ++ "," ++ (toString u.2 : Str)
noncomputable def spVStr (K : PySem.W.Frag) (C : Addr) (U : Bool → Addr) (CV CM : Addr) : Sp := fun vs H Q _ => ∃ v D t u, vs = [.ref v] ∧ IsV CV CM D ∧ VecAt K C U D H v t u ∧ ptOk u ∧ ∀ H', Same H H' → Q (.str (vText u)) H'
/-- y as the other side of a vector of the grid t at u: r tells whether it is equal -/
noncomputable def VOpd (K : PySem.W.Frag) (C : Addr) (U : Bool → Addr) (CV CM : Addr) (H : Hp) (t : Bool) (u : Int × Int) (y : V) (r : Bool) : Prop :=
  (∃ w D t' z, y = .ref w ∧ IsV CV CM D ∧ VecAt K C U D H w t' z ∧ r = (t == t' && decide (u = z))) ∨ (∃ k : Kd, Of K H y k ∧ r = false) ∨ (∃ g t', y = .ref g ∧ GridAt C U H g t' ∧ r = false)
noncomputable def spVEq (K : PySem.W.Frag) (C : Addr) (U : Bool → Addr) (CV CM : Addr) : Sp := fun vs H Q _ => ∃ v D t u y r, vs = [.ref v, y] ∧ IsV CV CM D ∧ VecAt K C U D H v t u ∧ VOpd K C U CV CM H t u y r ∧ Q (.bl r) H
noncomputable def spPartner (K : PySem.W.Frag) (C : Addr) (U : Bool → Addr) (CV CM : Addr) : Sp := fun vs H Q _ => ∃ v w D D' t u z, vs = [.ref v, .ref w] ∧ IsV CV CM D ∧ IsV CV CM D' ∧ VecAt K C U D H v t u ∧ VecAt K C U D' H w t z ∧ Q .non H
noncomputable def spMinus (K : PySem.W.Frag) : Sp := fun vs H Q _ => ∃ a b u v, vs = [.ref a, .ref b] ∧ PAt K H a u ∧ PAt K H b v ∧ ∀ p, H p = none → Q (.ref p) (upd H p (.tup [.int (psub u v).1, .int (psub u v).2]))
noncomputable def spRaised (K : PySem.W.Frag) (C : Addr) (U : Bool → Addr) (j : Nat) : Sp := fun vs H Q _ => ∃ g t a u, ∃ n : Nat, vs = [.ref g, .ref a, .int n] ∧ GridAt C U H g t ∧ PAt K H a u ∧ Sm u ∧ n < 2 ^ j ∧ (∀ i, i ≤ n → Sm (pw t u i)) ∧ ∀ p H', H p = none → Same H H' → PAt K H' p (pw t u n) → Q (.ref p) H'
noncomputable def spWrite : Sp := fun vs H Q _ => ∃ n : Int, vs = [.int n] ∧ isIntV (.int n) = true ∧ ∀ H', Same H H' → Q (.str (toString n)) H'
noncomputable def spDivG (K : PySem.W.Frag) (C : Addr) (U : Bool → Addr) : Sp := fun vs H Q _ => ∃ g t a b u v, vs = [.ref g, .ref a, .ref b] ∧ GridAt C U H g t ∧ PAt K H a u ∧ PAt K H b v ∧ Sm u ∧ Sm v ∧ Sm (flip t v) ∧ Sm (low t u v) ∧ (nrm t v).natAbs < 2 ^ 2000 ∧ 0 < nrm t v ∧ ∀ x H', Same H H' → QAt K H' (quo t u v) x → Q x H'
/-! ### classes -/
structure VIs (K : PySem.W.Frag) (C CV CM : Addr) : Prop where
  v : GIs K CV
  m : GIs K CM
  mv : PySem.W.subIn K (.ref CM) (.ref CV) = some true
  vm : PySem.W.subIn K (.ref CV) (.ref CM) = some false
  gv : PySem.W.subIn K (.ref C) (.ref CV) = some false
  gm : PySem.W.subIn K (.ref C) (.ref CM) = some false
  ne : CV ≠ CM
end GL
namespace GL
open PySem PySem.Spec PyProof.Rows L2
variable {K : PySem.W.Frag} {CV CM : Addr}
/-- what the text has of an operator's names in both classes -/
structure OpTxt (K : PySem.W.Frag) (CV CM : Addr) (m r : Str) : Prop where
  fV : ∃ f : Addr, PySem.W.findIn K (.ref CV) m = some (some (.ref f))
  fM : ∃ f : Addr, PySem.W.findIn K (.ref CM) m = some (some (.ref f))
  rV : PySem.W.findIn K (.ref CV) r = some none
  rM : PySem.W.findIn K (.ref CM) r = some none
  rT : PySem.W.findIn K (.type "type") r = some none
structure ClsTxt (K : PySem.W.Frag) (CV CM : Addr) (nm : Str) : Prop where
  sfV : PySem.W.selfFirst K CV = true
  sfM : PySem.W.selfFirst K CM = true
  ho : PySem.W.nsIn K cStatics "thirdparty.any" = some none
  hty : PySem.W.typeIn K (.ref CM) = some (.type "type")
  hga : PySem.W.findIn K (.type "type") "__getattribute__" = some (some (.builtin "type.__getattribute__"))
  hgg : PySem.W.findIn K (.type "type") "__getattr__" = some none
  hcd : ∃ cd, PySem.W.clsIn K CM = some cd ∧ cd.name = nm
  mv : PySem.W.subIn K (.ref CM) (.ref CV) = some true
  vm : PySem.W.subIn K (.ref CV) (.ref CM) = some false
  ne : CV ≠ CM
end GL
/-! errors of own classes: made with a message or with one field, held as values, asked, raised, caught -/
namespace PySem
namespace GLE
open Builtin Builtin.ObjectAttr
/-- a chain of classes as the maker wants it: own ones first, then that of B -/
structure Chain (B : String) (bm : List Value) : Prop where
  hasB : bm.contains (.type B) = true
  exc : bm.contains (.type "BaseException") = true
  obj : bm.contains (.type "object") = true
  notA : bm.contains (.type "AttributeError") = false
  notN : bm.contains (.type "NameError") = false
  some_ : bm.isEmpty = false
  lets : ∀ me : Value, refuseLoop me "__setattr__" bm = pure ()
theorem Chain.cons {B : String} {bm : List Value} {c : Addr} (h : Chain B bm) : Chain B (.ref c :: bm) where
  hasB := by rw [List.contains_cons, h.hasB, Bool.or_true]
  exc := by rw [List.contains_cons, h.exc, Bool.or_true]
  obj := by rw [List.contains_cons, h.obj, Bool.or_true]
  notA := by rw [List.contains_cons, h.notA]; rfl
  notN := by rw [List.contains_cons, h.notN]; rfl
  some_ := rfl
  lets := fun me => by rw [refuseLoop_ref]; exact h.lets me
theorem chain_value : Chain "ValueError" [.type "ValueError", .type "Exception", .type "BaseException", .type "object"] :=
  ⟨by decide +kernel, by decide +kernel, by decide +kernel, by decide +kernel, by decide +kernel, rfl, fun me => by kernel_rfl⟩
theorem chain_key : Chain "LookupError" [.type "KeyError", .type "LookupError", .type "Exception", .type "BaseException", .type "object"] :=
  ⟨by decide +kernel, by decide +kernel, by decide +kernel, by decide +kernel, by decide +kernel, rfl, fun me => by kernel_rfl⟩
section
variable {prog : Program} {w : World} {A : Around} {E : Value → Shared → Prop} {R : Result → Shared → Prop} {h : Heap} {g : Array GenState} {d : Drawn} {t : Nat} {os : OsState}
variable {nm q : Str} {C N : Addr} {bs bm bB : List Value} {hdct : Bool} {sn : List Str} {sub : List Value} {ab : Bool} {col : Option Bool} {dd : Option Addr} {k0 k1 k2 k3 k5 : Option Value} {B nwId inId : String}
theorem mk_check (F : ExcBaseFacts B nwId inId bB) (ch : Chain B bm) {rest : List Value} {Q : Unit → Shared → Prop} (oC : h.get? C = some (excClassObj nm q C N bs bm hdct sn sub ab col dd k0 k1 k2 k3 k5 nwId)) (go : Q () ⟨h, g, d, t, os⟩) :
    wpAny (model prog w) A (checkBuiltinCall nwId ⟨.ref C :: rest, []⟩) Q E ⟨h, g, d, t, os⟩ := by
  have inB := (ch.cons (c := C)).hasB
  have noS := F.noStar
  simp only [checkBuiltinCall, F.newKind, F.newSplit, F.newRow]
  repeat (first | refine wpAny_loadPart_at oC ?_ | (refine wpAny_isSubtype_exc oC ?_; rw [inB]) | refine wpAny_staticBase_exc oC ?_ | refine wpAny_madeBy_exc oC ?_ | simp only [bne_self_eq_false, Bool.false_eq_true, if_false] | wp_step)
  exact go
theorem mk_new (F : ExcBaseFacts B nwId inId bB) (ch : Chain B bm) {rest : List Value} (oC : h.get? C = some (excClassObj nm q C N bs bm hdct sn sub ab col dd k0 k1 k2 k3 k5 nwId)) (few : rest.length ≤ sizeLine)
    (go : R (.ok (.ret (.ref (h.objs.size + 1)))) ⟨(h.push (W.kdv_tup rest)).push (HandSPX.excO C h.objs.size), g, d, t, os⟩) : codeAny (model prog w) A (.builtin nwId ⟨.ref C :: rest, []⟩) R ⟨h, g, d, t, os⟩ := by
  have inB := (ch.cons (c := C)).hasB
  have inA := (ch.cons (c := C)).notA
  have inN := (ch.cons (c := C)).notN
  have hend := F.ends
  refine codeAny_builtinAt F.entry ?_
  unfold Builtin.«BaseException.__new__»
  refine wpAt_bind ?_
  show wpAt _ _ _ (stack >>= _) _ _ _
  refine wpAt_bind (wpAt_stack fun p below => wpAt_of_wpAny ?_)
  wp_walk
  refine wpAt_of_wpAny ?_
  rw [F.owner]
  repeat (first | with_reducible refine wpAny_madeHere_exc F.canon oC ?_ | with_reducible refine wpAny_loadPart_at oC ?_ | (with_reducible refine wpAny_isSubtype_exc oC ?_; first | rw [inB] | rw [inA] | rw [inN]) | wp_step)
  show R _ _
  rw [Heap.size_push]
  exact go
theorem mk_tcall (F : ExcBaseFacts B nwId inId bB) (ch : Chain B bm) {rest : List Value} {fI : Addr} {Q : Fin → Shared → Prop} (oC : h.get? C = some (excClassObj nm q C N bs bm hdct sn sub ab col dd k0 k1 k2 k3 k5 nwId))
    (li : W.Looks (model prog w) h (typeLookup (.ref C) "__init__") (some (.ref fI))) (lb : ∀ me, W.Looks (model prog w) h (bindSpecial (.ref fI) me) (.ref fI, [me])) (few : rest.length ≤ sizeLine)
    (go : codeAny (model prog w) A (.call (.ref fI) ⟨.ref (h.objs.size + 1) :: rest, []⟩) (fun r s' => match r with | .ok (.ret v) => v = .none ∧ Q (.done (.ret (.ref (h.objs.size + 1)))) s' | .ok _ => False | .error e => E e s')
      ⟨(h.push (W.kdv_tup rest)).push (HandSPX.excO C h.objs.size), g, d, t, os⟩) : wpAny (model prog w) A (Builtin.«type.__call__» ⟨.ref C :: rest, []⟩) Q E ⟨h, g, d, t, os⟩ := by
  repeat (first | with_reducible refine wpAny_loadPart_at oC ?_ | with_reducible refine wpAny_madeBy_exc oC ?_ | wp_step)
  refine codeAny_call_builtin_code (Code.quiet_builtin _ F.quiet) (mk_check F ch oC ?_)
  refine mk_new F ch oC few ?_
  show wpAny _ _ _ _ _ _
  have old : ∀ b o, h.get? b = some o → ((h.push (W.kdv_tup rest)).push (HandSPX.excO C h.objs.size)).get? b = some o := fun b o z => Heap.get?_push_of_some _ (Heap.get?_push_of_some _ z)
  have oC1 := old _ _ oC
  have here : ((h.push (W.kdv_tup rest)).push (HandSPX.excO C h.objs.size)).get? (h.objs.size + 1) = some (HandSPX.excO C h.objs.size) := by heap_get
  have self_ : (Value.ref C :: bm).contains (.ref C) = true := by simp
  have li1 := li.keeps old
  have lb1 := (lb (.ref (h.objs.size + 1))).keeps old
  unfold isInstance
  repeat (first | with_reducible refine wpAny_loadPart_at here ?_ | (with_reducible refine wpAny_isSubtype_exc oC1 ?_; rw [self_]) | wp_step)
  show wpAny _ _ (typeLookup (.ref C) _) _ _ _
  refine li1.at ?_
  refine wpAny_holding (wpAny_bind (lb1.at ?_))
  refine wpAny_bind (wpAny_call (codeAny_mono go fun r s' z => ?_))
  rcases r with e | (v | _ | _ | _) <;> first | exact z | exact z.elim | skip
  obtain ⟨rfl, z⟩ := z
  first
    | exact wpAny_pure (wpAny_pure z)
    | (wp_walk; exact z)
theorem mk_call (F : ExcBaseFacts B nwId inId bB) (ch : Chain B bm) {rest : List Value} {fI : Addr} (oC : h.get? C = some (excClassObj nm q C N bs bm hdct sn sub ab col dd k0 k1 k2 k3 k5 nwId))
    (li : W.Looks (model prog w) h (typeLookup (.ref C) "__init__") (some (.ref fI))) (lb : ∀ me, W.Looks (model prog w) h (bindSpecial (.ref fI) me) (.ref fI, [me])) (few : rest.length ≤ sizeLine)
    (go : codeAny (model prog w) (A.under (.builtin "type.__call__" ⟨.ref C :: rest, []⟩)) (.call (.ref fI) ⟨.ref (h.objs.size + 1) :: rest, []⟩) (W.InitBack (h.objs.size + 1) R) ⟨(h.push (W.kdv_tup rest)).push (HandSPX.excO C h.objs.size), g, d, t, os⟩) :
    codeAny (model prog w) A (.call (.ref C) ⟨rest, []⟩) R ⟨h, g, d, t, os⟩ := by
  have f1 := tc_lookup
  have f2 := tc_bind (.ref C)
  have isT : (⟨h, g, d, t, os⟩ : Shared).TypeIs (.ref C) "type" := ⟨_, oC, rfl⟩
  refine codeAny_of_tree ?_
  show wpAny _ _ (callAny (.ref C) _) _ _ _
  repeat (any_goals (first | assumption | with_reducible refine wpAny_loadPart_at oC ?_ | wp_step))
  refine ⟨rfl, ?_⟩
  refine codeAny_call_builtin_at (Code.quiet_builtin _ (by decide +kernel)) entry_typeCall (wpAny_check_type_call_sub oC (mk_tcall F ch oC li lb few ?_))
  refine codeAny_mono go fun r s' z => ?_
  rcases r with e | (v | _ | _ | _) <;> exact z
end
end GLE
end PySem
namespace PySem
namespace GLE
open Builtin Builtin.ObjectAttr
section
variable {prog : Program} {w : World} {A : Around} {E : Value → Shared → Prop} {R : Result → Shared → Prop} {hp : Heap} {g : Array GenState} {d : Drawn} {t : Nat} {os : OsState}
/-- me.f = v on an error without a dict -/
theorem osa_first {K : W.Frag} {B : String} {f : Str} {tk : Tok} {v : Value} {x C : Addr} {fv : Array Value} {cd : ClassData} (X : K.In hp) (ox : hp.get? x = some { cls := .ref C, data := .fields fv }) (lc : W.clsIn K C = some cd) (ch : Chain B cd.mro)
    (hd : cd.hasDict = true) (no : W.findIn K (.ref C) f = some none)
    (go : ∀ h' tk' dx, (∀ b o, b ≠ x → hp.get? b = some o → h'.get? b = some o) → hp.objs.size ≤ dx → dx ≠ x → h'.get? x = some { cls := .ref C, dict := some dx, data := .fields fv } → h'.Ns1 dx (fun y => if y = f then some v else none) →
      R (.ok (.ret .none)) ⟨h', g, d, tk', os⟩) : codeAny (model prog w) A (.call (.builtin "object.__setattr__") ⟨[.ref x, .str f tk, v], []⟩) R ⟨hp, g, d, t, os⟩ := by
  have at_ : W.InstAt hp x { cls := .ref C, data := .fields fv } C none := ⟨ox, rfl, rfl, trivial⟩
  have SO := F.store_object
  have apart : x ≠ hp.objs.size := Nat.ne_of_lt (Heap.lt_size ox)
  have isO : W.Looks (model prog w) hp (isInstance (.ref x) (.type "object")) true := at_.type.andThen (W.looks_mroIn X (by unfold W.mroIn; rw [lc, Option.bind_some, if_neg (by rw [ch.some_]; decide), ch.obj]))
  refine codeAny_call_builtin SO.slot.plain SO.entry (@W.check_slot (model prog w) _ _ ⟨hp, g, d, t, os⟩ "object.__setattr__" "object" "__setattr__" (.ref x) [.str f tk, v] [] _ SO.kind SO.split isO (SO.args (.ref x) (.str f tk) v) ?_)
  have lm : W.Looks (model prog w) hp (mroOf (.ref C)) cd.mro := (W.looks_clsIn X lc).andThen .now
  have lt : W.Looks (model prog w) hp (storeTaker? none) none := .now
  have lcl : W.Looks (model prog w) hp (classData C) cd := W.looks_clsIn X lc
  rw [W.osa_eq, refuse_eq]
  refine wpAny_bind (wpAny_bind (at_.type.at (wpAny_bind (lm.at ?_))))
  rw [ch.lets]
  refine wpAny_pure (wpAny_bind (at_.type.at (wpAny_bind ((W.looks_findIn X no).at (wpAny_bind (lt.at ?_))))))
  show wpAny _ _ (storeInOwnDict (.ref x) (.ref C) (.str f tk) f v false) _ _ _
  obtain ⟨nm, bs, mro, ns, qn, has, sn, sb, ab, col, del⟩ := cd
  dsimp only at hd
  subst hd
  unfold storeInOwnDict ownDictForStores
  repeat (first | with_reducible refine HandSPX.store_in_new ?_ ?_ | with_reducible refine wpAny_loadPart_at ox ?_ | with_reducible refine lcl.at ?_ | wp_step)
  · exact ⟨_, #[], _, (Heap.get?_update_ne _ _ _ _ apart.symm).trans (Heap.get?_push_at rfl rfl), rfl, fun e he => absurd he (by simp), fun _ => rfl⟩
  · intro h' tk' hn' hs
    have ox1 : (hp.push { cls := .type "dict", data := .dict #[] }).get? x = some { cls := .ref C, data := .fields fv } := Heap.get?_push_of_some _ ox
    refine go h' tk' hp.objs.size (fun b o hb ho => ?_) (Nat.le_refl _) apart.symm ?_ hn'
    · exact (hs.2 b (Nat.ne_of_lt (Heap.lt_size ho))).trans ((Heap.get?_update_ne _ _ _ _ hb).trans (Heap.get?_push_of_some _ ho))
    · exact (hs.2 x apart).trans (Heap.get?_update_self _ ox1 rfl)
end
end GLE
end PySem
namespace PySem
namespace GLE
open PySem.W PySem.Calls PyProof.Rows PySem.HandSPX
/-- def __init__(self, f): self.f = f -/
noncomputable def iArgs (f : Str) (p1 p2 : Pos) : Arguments := { posonlyargs := [], args := [{ arg := "self", annotation := none, pos := p1 }, { arg := f, annotation := none, pos := p2 }], vararg := none, kwonlyargs := [], kw_defaults := [], kwarg := none, defaults := [] }
noncomputable def iBody (f : Str) (q1 q2 q3 q4 : Pos) : List Stmt := [.Assign [.Attribute (.Name "self" q1) f q2] (.Name f q3) q4]
noncomputable def iScope (f : Str) : Scope := { kind := .function, names := [(PySem.Str.ofString "self", .local), (f, .local)], isGenerator := false, isCoroutine := false, more := [] }
/-- what the written part says of the class x at C, over B, whose __init__ at fI keeps one field f -/
structure ErrTxt (K : Frag) (mg : Str → Option Value) (x f : Str) (C fI : Addr) : Prop where
  gC : mg x = some (.ref C)
  cls : ∃ nm q N bs bm sn sub ab col dd k0 k1 k2 k3 k5 B nwId inId bB, ExcBaseFacts B nwId inId bB ∧ Chain B bm ∧ K.lookup C = some (excClassObj nm q C N bs bm true sn sub ab col dd k0 k1 k2 k3 k5 nwId)
  sa : findIn K (.ref C) "__setattr__" = some (some (.builtin "object.__setattr__"))
  ga : findIn K (.ref C) "__getattribute__" = some (some (.builtin "BaseException.__getattribute__"))
  gg : findIn K (.ref C) "__getattr__" = some none
  noN : findIn K (.ref C) f = some none
  iC : findIn K (.ref C) "__init__" = some (some (.ref fI))
  tC : typeIn K (.ref fI) = some (.type "function")
  kC : keepIn K (.ref C) = true
  exC : subIn K (.ref C) (.type "BaseException") = some true
  tyC : typeIn K (.ref C) = some (.type "type")
  hdC : hasDictIn K C = true
  f1 : (f == ("self" : Str)) = false
  f2 : (f == ("__debug__" : Str)) = false
  bd : ∀ (qual : Str) (p1 p2 q1 q2 q3 q4 : Pos) (doc pm : Value) (an : Option Addr) (cdv ct : Value) (a : Addr) (v : Value) (u : Unit), bindArgs (fnOf "__init__" qual (iArgs f p1 p2) (iBody f q1 q2 q3 q4) (iScope f) .none .none doc pm an cdv ct) ⟨[.ref a, v], []⟩ = pure [(PySem.Str.ofString "self", .ref a), (f, v)]
  fn : ∃ (oc : Value) (od : Option Addr) (qual : Str) (doc pm : Value) (an : Option Addr) (cdv ct : Value) (osl : Array (Option Value)) (p1 p2 q1 q2 q3 q4 : Pos),
    K.lookup fI = some ⟨oc, od, .func (fnOf "__init__" qual (iArgs f p1 p2) (iBody f q1 q2 q3 q4) (iScope f) .none .none doc pm an cdv ct), osl⟩ ∧ codeIn K cdv qual = true
theorem ld_slot {M : Model} {s : Shared} {name : Str} {scope : Scope} {L a : Addr} {cd : Value} {m : Str → Option Value} {x : Str} {pos : Pos} {v : Value} {Q : Value → Shared → Prop} {A : Around} {E : Value → Shared → Prop} (n : s.heap.Ns L m) (e : m x = some v) (go : Q v s)
    (hk : scope.kind = .function) (hl : (envOfC name scope L a cd).kindOf x = some .local) (hd : (x == ("__debug__" : Str)) = false) : wpAny M A (eval (.Name x pos) (envOfC name scope L a cd)) Q E s := wpAny_Name (wpAny_loadName_local hk hl n e go) hd
/-- an error with its dict at d, made at e -/
structure Born (h h' : Heap) (e C d : Addr) (f : Str) (v : Value) : Prop where
  old : ∀ b o, h.get? b = some o → h'.get? b = some o
  new : h.objs.size ≤ e
  obj : ∃ oe vs, h'.get? e = some oe ∧ oe.cls = .ref C ∧ oe.dict = some d ∧ oe.data = .fields vs ∧ vs[1]? = some .none
  dnew : h.objs.size ≤ d
  dne : d ≠ e
  ns : h'.Ns1 d (fun y => if y = f then some v else none)
section
variable {prog : Program} {w : World} {A : Around} {E : Value → Shared → Prop} {R : Result → Shared → Prop} {s : Shared} {K : Frag} {mg : Str → Option Value} {C fI : Addr} {x f : Str}
theorem kind_self {name : Str} {L a : Addr} {cd : Value} : (envOfC name (iScope f) L a cd).kindOf "self" = some .local := by
  show List.lookup ("self" : Str) [(PySem.Str.ofString "self", NameKind.local), (f, .local)] = some .local
  rfl
theorem kind_fld {name : Str} {L a : Addr} {cd : Value} (n : (f == ("self" : Str)) = false) : (envOfC name (iScope f) L a cd).kindOf f = some .local := by
  show List.lookup f [(("self" : Str), NameKind.local), (f, .local)] = some .local
  simp [List.lookup, n]
theorem bind_b {kf : Str → Option NameKind} {y z : Str} {a b : Value} (ky : kf y = some .local) (kz : kf z = some .local) : bindL kf [(y, a), (z, b)] (fun _ => none) z = some b := by
  simp [bindL, ky, kz]
theorem bind_a {kf : Str → Option NameKind} {y z : Str} {a b : Value} (ky : kf y = some .local) (kz : kf z = some .local) (n : y ≠ z) : bindL kf [(y, a), (z, b)] (fun _ => none) y = some a := by
  simp [bindL, ky, kz, n]
theorem err_init (T : ErrTxt K mg x f C fI) {a t0 : Addr} {v : Value} (X : K.In s.heap) (nl : s.heap.NoLimit) (oa : s.heap.get? a = some (excO C t0)) (hroom : A.depth < recursionLimit)
    (go : ∀ h' tk dx, (∀ b o, b ≠ a → s.heap.get? b = some o → h'.get? b = some o) → h'.get? a = some { cls := .ref C, dict := some dx, data := .fields #[.ref t0, .none, .none, .none, .bool false, .none] } → s.heap.objs.size ≤ dx → dx ≠ a →
      h'.Ns1 dx (fun y => if y = f then some v else none) → R (.ok (.ret .none)) { s with heap := h', toks := tk }) : codeAny (model prog w) A (.call (.ref fI) ⟨[.ref a, v], []⟩) R s := by
  obtain ⟨oc, od, qual, doc, pm, an, cdv, ct, osl, p1, p2, q1, q2, q3, q4, ho, hcd⟩ := T.fn
  obtain ⟨nm, q, N, bs, bm, sn, sub, ab, col, dd, k0, k1, k2, k3, k5, B, nwId, inId, bB, F, ch, oC⟩ := T.cls
  have lc : clsIn K C = some { name := nm, bases := bs, mro := .ref C :: bm, ns := N, qualname := q, hasDict := true, slotNames := sn, subclasses := sub, abstract := ab, collection := col, hasDel := false } := by unfold clsIn; rw [oC] <;> rfl
  refine Att.call_fn (binds := [("self", .ref a), (f, v)]) X nl ho hcd hroom (BindsTo.of_eq ?_) ?_ (fun s₁ IC => ?_) rfl rfl rfl
  · exact T.bd _ _ _ _ _ _ _ _ _ _ _ _ _ _ ()
  · have k : List.lookup f [(("self" : Str), NameKind.local), (f, .local)] = some .local := by simp [List.lookup, T.f1]
    show ((_ || _) && ((_ || _) && true)) = true
    rw [show List.lookup f (iScope f).names = some .local from k]
    rfl
  obtain ⟨h₁, tk₁, rfl⟩ := IC.toInCall.same
  have old : ∀ b o, s.heap.get? b = some o → h₁.get? b = some o := IC.toInCall.keep
  have ns := IC.toInCall.ns
  have X1 : K.In h₁ := X.keeps old
  have oa1 := old _ _ oa
  show wpAny _ _ (execs _ _) _ _ _
  refine wpAny_execs_cons (plainObj_wpAny_Assign_Attribute ?_)
  refine ld_slot (v := v) ns ?_ (ld_slot (v := .ref a) ns ?_ ?_ rfl kind_self (by decide)) rfl (kind_fld T.f1) T.f2
  · exact bind_b kind_self (kind_fld T.f1)
  · exact bind_a kind_self (kind_fld T.f1) (fun z => by
      have y := T.f1
      rw [← z] at y
      simp at y)
  refine set_plain X1 (ox := excO C t0) (od := none) ⟨oa1, rfl, rfl, trivial⟩ T.sa ?_
  refine osa_first X1 oa1 lc ch.cons rfl T.noN (fun h3 tk3 dx k3 dn dne ox3 n3 => ?_)
  show wpAny _ _ (execs _ _) _ _ _
  have z : s.heap.objs.size < h₁.objs.size := ns.lt
  exact wpAny_execs_nil (go h3 tk3 dx (fun b o hb e => k3 b o hb (old b o e)) ox3 (Nat.le_of_lt (Nat.lt_of_lt_of_le z dn)) dne n3)
theorem err_made (T : ErrTxt K mg x f C fI) {v : Value} (X : K.In s.heap) (nl : s.heap.NoLimit) (hroom : A.depth + 1 < recursionLimit) (go : ∀ h' tk e d, Born s.heap h' e C d f v → R (.ok (.ret (.ref e))) { s with heap := h', toks := tk }) :
    codeAny (model prog w) A (.call (.ref C) ⟨[v], []⟩) R s := by
  obtain ⟨nm, q, N, bs, bm, sn, sub, ab, col, dd, k0, k1, k2, k3, k5, B, nwId, inId, bB, F, ch, oC⟩ := T.cls
  obtain ⟨hp, g, dr, tk, os⟩ := s
  have old : ∀ b o, hp.get? b = some o → ((hp.push (kdv_tup [v])).push (excO C hp.objs.size)).get? b = some o := fun b o e => Heap.get?_push_of_some _ (Heap.get?_push_of_some _ e)
  have here : ((hp.push (kdv_tup [v])).push (excO C hp.objs.size)).get? (hp.objs.size + 1) = some (excO C hp.objs.size) := by heap_get
  refine mk_call F ch (X _ _ oC) (looks_findIn X T.iC) (fun me => bind_fn X me T.tC) (by rw [sizeLine_eq]; exact (by decide : 1 ≤ 16777216)) ?_
  refine err_init (s := ⟨(hp.push (kdv_tup [v])).push (excO C hp.objs.size), g, dr, tk, os⟩) T (X.keeps old) (nl.keeps old) here ?_ fun h' tk' dx k' ox dn dne n1 => ?_
  · show A.depth + 1 < recursionLimit
    exact hroom
  · have z : hp.objs.size + 1 + 1 ≤ dx := by
      have q := dn
      simpa only [Heap.size_push] using q
    exact ⟨rfl, go h' tk' (hp.objs.size + 1) dx ⟨fun b o e => k' b o (Nat.ne_of_lt (Nat.lt_succ_of_lt (Heap.lt_size e))) (old b o e), Nat.le_succ _, ⟨_, _, ox, rfl, rfl, rfl, rfl⟩, Nat.le_trans (by show hp.objs.size ≤ hp.objs.size + 1 + 1; omega) z, dne, n1⟩⟩
end
end GLE
end PySem
namespace GL
open PySem PySem.Spec PyProof.Rows L2 PySem.GLE
/-- an error of the class at C whose dict, if any, is at d, held as a value -/
noncomputable def EV (C : Addr) (d : Option Addr) (a : Addr) : HO := .ext fun h => ∃ (oe : Obj) (vs : Array Value), h.get? a = some oe ∧ Zc (.ref C) d oe ∧ oe.data = .fields vs
theorem rel1 {f : Str} {v : V} {u : Value} (r : RelV v u) (g : Str) : RelO (List.lookup g [(f, v)]) (if g = f then some u else none) := by
  by_cases e : g = f
  · subst e
    rw [if_pos rfl]
    have q : List.lookup g [(g, v)] = some v := by simp [List.lookup]
    rw [q]
    exact r
  · rw [if_neg e]
    have n : (g == f) = false := by simpa using e
    have q : List.lookup g [(f, v)] = none := by simp [List.lookup, n]
    rw [q]
    trivial
section
variable {X : Cx} {C fI : Addr} {x f : Str} {a : Expr} {ta : TA} {p pos : Pos} {k : Nat}
/-- x(a) as a value: the error, its dict -/
noncomputable def tErr (C : Addr) (f : Str) (ta : TA) : TE := fun σ H Q => ta σ H fun vs H1 => ∃ v, vs = [v] ∧ ∀ e d, H1 e = none → H1 d = none → d ≠ e → Q (.ref e) (upd (upd H1 d (.xd [(f, v)])) e (EV C (some d) e))
/-- x(a) as what is raised -/
noncomputable def tMkErr (C : Addr) (f : Str) (ta : TA) : L2.St → Hp → XK → Prop := fun σ H Q => ta σ H fun vs H1 => ∃ v, vs = [v] ∧ ∀ d, H1 d = none → Q (.ref C) (some d) (upd H1 d (.xd [(f, v)]))
theorem pmk_err (T : ErrTxt X.K X.mg x f C fI) (hr : Room k X.A) (ha : PA X [a] ta) (hg : Gl X x := by exact rfl) (hdb : (x == ("__debug__" : Str)) = false := by decide)
    (he : starEach [a] X.env = (false, eval a X.env) :: starEach [] X.env := by rfl) (hpl : (backTo pos (starEach [] X.env)).any (·.1) = false := by rfl) : PMk X (.Call (.Name x p) [a] [] pos) (tMkErr C f ta) := by
  intro pins s σ H Q I h
  refine wpAny_Call_Name_kw (ld_glob I hg T.gC ?_ hdb)
  refine PySem.W.callWith_K (h₀ := X.base) I.ok.mod.kin T.kC (thn (ha.run pos pins s σ H _ I h) fun us s1 hh => ?_) he hpl
  obtain ⟨vs, H1, I1, r1, v, ev, q1⟩ := hh
  subst ev
  refine ⟨I1.kIn, ?_⟩
  obtain ⟨u, rfl, ru⟩ := vals1 r1
  show wpAny _ _ (call (.ref C) [u]) _ _ _
  have nl := I1.nolimit
  obtain ⟨hp, g, dr, tk, os⟩ := s1
  refine wpAny_call (err_made T I1.kIn nl (by have := hr.dp; omega) fun h' tk' e d M => ?_)
  show MkP X pins σ Q (.ref e) ⟨h', g, dr, tk', os⟩
  obtain ⟨oe, fv, oE, hc, hd, hdat, h1⟩ := M.obj
  obtain ⟨G, g1, g2⟩ := restrict h' fun b => decide (b ≠ e)
  have gk : ∀ b, b ≠ e → G.get? b = h'.get? b := fun b hb => g1 b (decide_eq_true hb)
  have ge : G.get? e = none := g2 e (by simp)
  have old : ∀ b o, hp.get? b = some o → G.get? b = some o := fun b o q => (gk b (Nat.ne_of_lt (Nat.lt_of_lt_of_le (Heap.lt_size q) M.new))).trans (M.old b o q)
  have up : ∀ b o, G.get? b = some o → h'.get? b = some o := fun b o q => by
    by_cases hb : b = e
    · rw [hb, ge] at q; cases q
    · exact (gk b hb).symm.trans q
  have ob : ObjOk X.prog X.w (upd H1 d (.xd [(f, v)])) G d (.xd [(f, v)]) := ⟨_, M.ns.at (fun o q => (gk d M.dne).trans q), fun y => rel1 ru y⟩
  have J : Inv X pins σ (upd H1 d (.xd [(f, v)])) ⟨G, g, dr, tk', os⟩ := I1.laid (t' := tk') old M.dnew ob
  refine ⟨e, oe, fv, ⟨G, g, dr, tk', os⟩, _, .ref C, some d, rfl, J, up, ge, oE, ⟨hc, hd⟩, hdat, h1, ?_, rfl, I1.bare, raises_own T.exC T.tyC, q1 d (I1.hok.fresh M.dnew)⟩
  rw [upd_ne (Ne.symm M.dne)]
  exact I1.hok.fresh M.new
/-- o.f, o an error held as a value -/
noncomputable def tErrF (K : PySem.W.Frag) (f : Str) (to : TE) : TE := fun σ H Q => to σ H fun x H1 => ∃ (a C d : Addr) (fs : List (Str × V)) (v : V), x = .ref a ∧ XfC K C ∧ PySem.W.findIn K (.ref C) f = some none ∧ H1 a = some (EV C (some d) a) ∧ H1 d = some (.xd fs) ∧ fs.lookup f = some v ∧ Q v H1
end
/-! ### isinstance -/
structure ErrC (K : PySem.W.Frag) (D : Addr) : Prop where
  cl : (PySem.W.clsIn K D).isSome = true
  hg : PySem.W.findIn K (.ref D) "__getattribute__" = some (some (.builtin "BaseException.__getattribute__"))
  hk : PySem.W.findIn K (.ref D) "__getattr__" = some none
  hs : PySem.W.subIn K (.ref D) (.type "BaseException") = some true
  ha : PySem.W.findIn K (.ref D) "__class__" = some (some (.builtin "object.__class__"))
  hn : PySem.W.specialIn K (.builtin "object.__class__") "__get__" = some (some (.builtin "getset_descriptor.__get__"))
  ht : PySem.W.takesIn K (.builtin "object.__class__") = some true
  hm : PySem.W.mroIn K D (.type "object") = some true
/-- an error of the class D is tracked at a, its dict at d, if any -/
noncomputable def IsErr (H : Hp) (D a : Addr) : Prop := H a = some (ExO (.ref D) a) ∨ ∃ d fs, H a = some (EV D (some d) a) ∧ H d = some (.xd fs)
noncomputable def rIsErr (K : PySem.W.Frag) : List V → Hp → VK → Prop := fun xs H Q => ∃ (a D : Addr) (c : V) (cv : Value) (b : Bool), xs = [.ref a, c] ∧ ErrC K D ∧ IsErr H D a ∧ ClsV c cv ∧ PySem.W.kitOne K (.ref D) cv = some b ∧ Q (.bl b) H
/-- .. of an error that is pinned -/
noncomputable def rIsPin (K : PySem.W.Frag) (pn : List (Addr × Obj)) : List V → Hp → VK → Prop := fun xs H Q => ∃ (p : Addr × Obj) (D : Addr) (c : V) (cv : Value) (b : Bool), xs = [.ref p.1, c] ∧ p ∈ pn ∧ Zc (.ref D) none p.2 ∧ (∃ vs, p.2.data = .fields vs) ∧ ErrC K D ∧ ClsV c cv ∧ PySem.W.kitOne K (.ref D) cv = some b ∧ Q (.bl b) H
/-! ### a text, or none of it -/
noncomputable def wd (t : Str) (b : Bool) : Str := if b then t else ""
noncomputable def rTimesB : R2 := fun x y H Q => ∃ (t : Str) (b : Bool), x = .str t ∧ y = .int (if b then 1 else 0) ∧ t.length < 1000 ∧ Q (.str (wd t b)) H
end GL
/-! except clauses with and without a name, one behind the other; defs called in a suite with the error that it holds -/
namespace GL
open PySem PySem.Spec PyProof.Rows L2 PySem.GLE
/-- a clause: its class, the slot of its name if it has one, its suite's reading -/
structure Cls1 where
  c : Value
  i : Option Nat
  ts : Addr → Value → Option Addr → TS
noncomputable def goEnd (i : Nat) (D : Ends) : Ends := { nx := fun σ H => D.nx (σ.set i none) H, rt := D.rt, bk := fun σ H => D.bk (σ.set i none) H, ct := fun σ H => D.ct (σ.set i none) H }
noncomputable def runC (q : Cls1) (D : Ends) (a : Addr) (cls : Value) (d : Option Addr) (σ : L2.St) (H : Hp) : Prop :=
  match q.i with
  | none => q.ts a cls d D σ H
  | some i => q.ts a cls d (goEnd i D) (σ.set i (some (.ref a))) H
/-- what the clauses together wish of an error of the body -/
noncomputable def wCls (K : PySem.W.Frag) (W0 : WX) (D : Ends) : List Cls1 → WX
  | [] => W0
  | q :: r => fun cls d σ H => ∃ b, PySem.W.exmOne K cls q.c = some b ∧ (b = true → ∀ a, H a = none → runC q D a cls d σ H) ∧ (b = false → wCls K W0 D r cls d σ H)
inductive Clauses (X : Cx) : List ExceptHandler → List Cls1 → Prop
  | nil : Clauses X [] []
  | bare {x : Str} {c : Value} {ts : Addr → Value → Option Addr → TS} {b₀ : Stmt} {suite : List Stmt} {np pos' : Pos} {hds : List ExceptHandler} {l : List Cls1} (nm : Names X x c)
      (su : ∀ (a : Addr) (oe : Obj) (cls : Value) (d : Option Addr) (pn : List (Addr × Obj)), Zc cls d oe → (∃ vs, oe.data = .fields vs) → PSs (X.suite a ((a, oe) :: pn)) (b₀ :: suite) (ts a cls d)) (r : Clauses X hds l) :
      Clauses X (.ExceptHandler (some (.Name x np)) none (b₀ :: suite) pos' :: hds) (⟨c, none, ts⟩ :: l)
  | named {x n : Str} {i : Nat} {c : Value} {ts : Addr → Value → Option Addr → TS} {b₀ : Stmt} {suite : List Stmt} {np pos' : Pos} {hds : List ExceptHandler} {l : List Cls1} (nm : Names X x c) (nd : X.N.Nodup) (at_ : X.N[i]? = some n) (ln : X.env.kindOf n = some .local)
      (su : ∀ (a : Addr) (oe : Obj) (cls : Value) (d : Option Addr) (pn : List (Addr × Obj)), Zc cls d oe → (∃ vs, oe.data = .fields vs) → PSs (X.suite a ((a, oe) :: pn)) (b₀ :: suite) (ts a cls d)) (r : Clauses X hds l) :
      Clauses X (.ExceptHandler (some (.Name x np)) (some n) (b₀ :: suite) pos' :: hds) (⟨c, some i, ts⟩ :: l)
section
variable {X : Cx} {body : List Stmt} {h₀ : ExceptHandler} {hds : List ExceptHandler} {l : List Cls1} {pos : Pos} {tb : WX → TS} {W0 : WX}
theorem ps_clauses (hs : X.stack = X.env :: X.outer) (hf : X.env.frame = some X.env.locals) (tk : Takes X W0)
    (hb : ∀ (W : WX) (pn : List (Addr × Obj)) (xe : Value → Shared → Prop), Takes (X.tr pn xe) W → PassesOwn (model X.prog X.w) X.A X.env xe → PSs (X.tr pn xe) body (tb W))
    (hh : Clauses X (h₀ :: hds) l) : PS X (.Try body (h₀ :: hds) [] [] pos) (fun D σ H => tb (wCls X.K W0 D l) D σ H) := by
  refine ⟨fun pins s σ H D I h => ?_⟩
  have ok := I.ok
  have frA : X.A.frames = some (X.env :: X.outer) := by rw [ok.frames, hs]
  refine wpAny_Try_except ?_
  refine wpAny_mono ((hb (wCls X.K W0 D l) (X.pn ++ pins) (fun e s₁ => wpAny (model X.prog X.w) X.A (noteFrame e X.env) (fun _ s₂ => wpAny (model X.prog X.w) X.A (setFlight e none) (fun _ s₃ =>
    wpAny (model X.prog X.w) X.A (handleBy e X.env (h₀ :: hds)) (SP X pins D) X.xe s₃) X.xe s₂) X.xe s₁) (fun u s' xx => ?_) PassesOwn.looking).run [] s σ H D (I.toTry _) h) (fun f s1 sp1 => ?_) (fun e s1 he => he)
  · obtain ⟨a, B, sI, pins', σ', H', cls, d, rfl, J', nb, up, sky, na, os, ag, w⟩ := xx
    have J : Inv X pins σ' H' sI := J'.ofTry ok
    have sky1 : Sky B (X.env :: X.outer) a (Zc cls d) X.env.locals s'.heap := by rw [← hs]; exact sky
    show wpAny (model X.prog X.w) X.A (noteFrame (.ref a) X.env) _ _ _
    refine Sky.land Zc.steady frA hf sky1 fun h3 fl3 up3 => ?_
    have J3 : Inv X pins σ' H' { s' with heap := h3 } := J.landed nb fl3.1 (up.trans up3) os ag
    obtain ⟨oe3, vs3, oa3, zc3, dt3⟩ := fl3.there
    have outF : ∀ {h : Heap} {o : Obj} {vs : Array Value}, h.FunFrames B (X.env :: X.outer) → h.get? a = some o → o.data = .fields vs → a ∉ frs (X.env :: X.outer) := fun {h o vs} ff e dd hm => by
      obtain ⟨_, o', e', hnf⟩ := ff.mem hm
      rw [e] at e'; cases e'
      exact hnf _ dd
    have nfr := outF fl3.2.2.1 oa3 dt3
    have nL : a ≠ X.env.locals := fun z => nfr (List.mem_filterMap.mpr ⟨X.env, List.mem_cons_self, by rw [hf, z]⟩)
    have nF : a ∉ X.fs := fun hm => by
      obtain ⟨e, he, q⟩ := List.mem_filterMap.mp hm
      exact nfr (List.mem_filterMap.mpr ⟨e, List.mem_cons_of_mem _ he, q⟩)
    have S3 := J3.suite oa3 dt3 na nL nF
    have tell : ∀ {x : Str} {c : Value} {np : Pos} {Q : Value → Shared → Prop} {E : Value → Shared → Prop}, Names X x c → Q c { s' with heap := h3 } → wpAny (model X.prog X.w) (X.A.mark (some (.ref a))) (eval (.Name x np) X.env) Q E { s' with heap := h3 } := fun {x c np Q E} nm q => by
      obtain ⟨hg, hdbg, hm | ⟨hm, hv, hnn⟩⟩ := nm
      · exact ld_glob (X := X.suite a ((a, oe3) :: (X.pn ++ pins))) S3 hg hm q hdbg
      · exact ld_blt (X := X.suite a ((a, oe3) :: (X.pn ++ pins))) S3 hg hm hv q hnn hdbg
    have LT : PySem.W.Looks (model X.prog X.w) h3 (typeOf (.ref a)) cls := fun A Q E s k q => wpAny_typeOf_ref (k _ _ oa3) (by rw [zc3.1]; exact q)
    have all : ∀ {hds' : List ExceptHandler} {l' : List Cls1}, Clauses X hds' l' → wCls X.K W0 D l' cls d σ' H' → wpAny (model X.prog X.w) X.A (handleBy (.ref a) X.env hds') (SP X pins D) X.xe { s' with heap := h3 } := by
      intro hds' l' hk
      induction hk with
      | nil =>
        intro w
        refine wpAny_handleBy_nil ?_
        obtain ⟨k1, k2, k3, oe, vs, T, oT, ts', he, hz, hd, h1, hr⟩ := id fl3
        unfold PySem.passOn
        refine wpAny_bind (wpAny_field he hd h1 ?_)
        rw [if_neg (show ¬ ((Value.ref T == Value.none) = true) from by simp)]
        have fin : wpAny (model X.prog X.w) X.A (setFlight (.ref a) X.env.frame) (fun _ s4 => wpAny (model X.prog X.w) X.A (throw (.ref a) : Sem Flow) (SP X pins D) X.xe s4) X.xe { s' with heap := h3 } := by
          rw [hf]
          refine HandSPX.setFlight_upZ fl3 fun h4 hh4 up4 => wpAny_throw (tk _ _ ?_)
          exact ⟨a, B, sI, pins, σ', H', cls, d, rfl, J, nb, (up.trans up3).trans up4, .inr (.inr (by rw [hs]; exact hh4)), na, os, ag, w⟩
        first
          | exact wpAny_bind (wpAny_pure (wpAny_bind fin))
          | exact wpAny_bind fin
      | @bare x c ts b₀ suite np pos' hds2 l2 nm su r ih =>
        intro w
        obtain ⟨b, hb1, yes, no⟩ := w
        refine wpAny_handleBy_cons (codeAny_handlers_test ?_) (by intro q; cases q)
        have LM := PySem.W.exm_one (M := model X.prog X.w) (J3.kIn) LT hb1
        refine tell nm (LM.here ?_)
        cases b with
        | false =>
          show wpAny _ X.A (handleBy (.ref a) X.env hds2) _ _ _
          exact ih (no rfl)
        | true =>
          refine codeAny_handlers_suite ?_
          refine HandSPX.lands_againZ fl3 fun h4 fl4 up4 => ?_
          have J4 : Inv X pins σ' H' { s' with heap := h4 } := J.landed nb fl4.1 ((up.trans up3).trans up4) os ag
          obtain ⟨oe4, vs4, oa4, zc4, dt4⟩ := fl4.there
          have S4 := J4.suite oa4 dt4 na nL nF
          refine wpAny_mono ((su a oe4 cls d (X.pn ++ pins) zc4 ⟨_, dt4⟩).run [] _ _ H' _ S4 (yes rfl a na)) (fun f s6 sp6 => ?_) (fun _ _ z => False.elim z)
          cases f with
          | ret u =>
            obtain ⟨v6, σ6, H6, S6, r6, q6⟩ := sp6
            exact ⟨_, _, _, S6.unsuite ok, r6, q6⟩
          | next | brk | cont =>
            obtain ⟨σ6, H6, S6, q6⟩ := sp6
            exact ⟨_, _, S6.unsuite ok, q6⟩
      | @named x n i c ts b₀ suite np pos' hds2 l2 nm nd at_ ln su r ih =>
        intro w
        obtain ⟨b, hb1, yes, no⟩ := w
        refine wpAny_handleBy_cons (codeAny_handlers_test ?_) (by intro q; cases q)
        have LM := PySem.W.exm_one (M := model X.prog X.w) (J3.kIn) LT hb1
        refine tell nm (LM.here ?_)
        cases b with
        | false =>
          show wpAny _ X.A (handleBy (.ref a) X.env hds2) _ _ _
          exact ih (no rfl)
        | true =>
          refine codeAny_handlers_suite_as ?_
          refine HandSPX.lands_againZ fl3 fun h4 fl4 up4 => ?_
          have J4 : Inv X pins σ' H' { s' with heap := h4 } := J.landed nb fl4.1 ((up.trans up3).trans up4) os ag
          obtain ⟨oe4, vs4, oa4, zc4, dt4⟩ := fl4.there
          have S4 := J4.suite oa4 dt4 na nL nF
          refine store_ok (X := X.suite a ((a, oe4) :: (X.pn ++ pins))) (v := .ref a) S4 nd at_ (.inl ln) rfl (fun s5 S5 => ?_) (.inr ln)
          refine wpAny_mono ((su a oe4 cls d (X.pn ++ pins) zc4 ⟨_, dt4⟩).run [] s5 _ H' _ S5 (yes rfl a na)) (fun f s6 sp6 => ?_) (fun _ _ z => False.elim z)
          have end_ : ∀ {σ6 : L2.St} {H6 : Hp} {Q : Shared → Prop}, Inv (X.suite a ((a, oe4) :: (X.pn ++ pins))) [] σ6 H6 s6 → (∀ s7, Inv X pins (σ6.set i none) H6 s7 → Q s7) →
              wpAny (model X.prog X.w) X.A (do bindName X.env n .none; unbindBehindTheSuite X.env n pos') (fun _ s7 => Q s7) X.xe s6 := fun {σ6 H6 Q} S6 hq => gone_ok (S6.unsuite ok) nd at_ ln hq
          cases f with
          | ret u =>
            obtain ⟨v6, σ6, H6, S6, r6, q6⟩ := sp6
            exact end_ S6 fun s7 J7 => ⟨_, _, _, J7, r6, q6⟩
          | next | brk | cont =>
            obtain ⟨σ6, H6, S6, q6⟩ := sp6
            exact end_ S6 fun s7 J7 => ⟨_, _, J7, q6⟩
    exact all hh w
  · cases f with
    | next =>
      obtain ⟨σ', H', J', q⟩ := sp1
      exact wpAny_execs_nil ⟨σ', H', J'.ofTry ok, q⟩
    | ret u =>
      obtain ⟨v, σ', H', J', r, q⟩ := sp1
      exact ⟨v, σ', H', J'.ofTry ok, r, q⟩
    | brk | cont =>
      obtain ⟨σ', H', J', q⟩ := sp1
      exact ⟨σ', H', J'.ofTry ok, q⟩
end
/-- a def that gets the error that is handled where it is called -/
structure FnE (P : Program) (w : World) (K : PySem.W.Frag) (mg : Str → Option Value) (base : Heap) (k : Nat) (f : Addr) (fd : FuncData) (ps : List Str) (sp : Addr × Obj → Sp) : Prop where
  len : ∀ p vs H Q E, sp p vs H Q E → vs.length = ps.length
  go : ∀ {A : Around} {outer : List Env} {s : Shared} {H : Hp} {args : Args} {us : List Value} {vs : List V} {Q : VK} {E : XK} {p : Addr × Obj}, L2H.RoomH k A → L2H.PinOk outer H s p → Env0 P w K mg base A outer s H → BindsTo s fd args (ps.zip us) → Vals vs us → sp p vs H Q E →
    codeAny (model P w) A (.call (.ref f) args) (CR CX0 outer P w H s Q E) s
structure HasE (P : Program) (w : World) (K : PySem.W.Frag) (mg : Str → Option Value) (base : Heap) (x : Str) (k : Nat) (ps : List Str) (sp : Addr × Obj → Sp) : Prop where
  ex : ∃ f fd, FnE P w K mg base k f fd ps sp ∧ mg x = some (.ref f) ∧ PySem.W.keepIn K (.ref f) = true ∧ Binds K fd ps []
section
variable {X : Cx} {k : Nat} {ps : List Str} {sp : Addr × Obj → Sp} {E : XK} {x : Str} {p pos : Pos} {e : Expr} {es : List Expr} {t : TA}
end
end GL
/-! repr of data in which a dict of one int to an int may stand -/
namespace GL
open PySem PySem.Spec PyProof.Rows L2
mutual
inductive Dq (K : PySem.W.Frag) (H : Hp) : V → PyData → Prop
  | dp {v : V} {d : PyData} : Dp K H v d → okD d = true → Dq K H v d
  | one {a : Addr} {k n : Int} : H a = some (.dK [(.inl k, .int n)]) → k.natAbs < 10 ^ 4300 → n.natAbs < 10 ^ 4300 → Dq K H (.ref a) (.dict [(.int k, .int n)])
  | emp {a : Addr} : H a = some (.dK []) → Dq K H (.ref a) (.dict [])
  | lst {a : Addr} {xs : List V} {ds : List PyData} : SqL K H a xs → DqAll K H xs ds → Dq K H (.ref a) (.list ds)
  | tup {a : Addr} {xs : List V} {ds : List PyData} : SqT K H a xs → DqAll K H xs ds → Dq K H (.ref a) (.tuple ds)
inductive DqAll (K : PySem.W.Frag) (H : Hp) : List V → List PyData → Prop
  | nil : DqAll K H [] []
  | cons {v : V} {vs : List V} {d : PyData} {ds : List PyData} : Dq K H v d → DqAll K H vs ds → DqAll K H (v :: vs) (d :: ds)
end
section
variable {X : Cx} {pins : List (Addr × Obj)} {σ : L2.St} {H : Hp} {s : Shared} {prog : Program} {w : World}
theorem emp_at (I : Inv X pins σ H s) {a : Addr} (e : H a = some (.dK [])) : (a == sysModules) = false ∧ ∃ o ep, s.heap.get? a = some o ∧ o.cls = .type "dict" ∧ o.data = .dict #[] ep := by
  obtain ⟨_, sys, vs, rel, dd⟩ := dk_of I.hok e
  obtain ⟨o, es, ep, ho, hx, hdat, _, hp, _⟩ := dd
  cases rel
  generalize he : es.toList = l at hp
  cases hp
  have : es = #[] := by rw [← Array.toArray_toList (xs := es), he]
  subst this
  exact ⟨sys, o, ep, ho, hx.1, hdat⟩
mutual
theorem Dq.reads (I : Inv X pins σ H s) : ∀ {d : PyData} {v : V} {u : Value}, Dq X.K H v d → RelV v u → ∃ as, Reads s.heap u d as
  | _, _, _, .dp h _, r => Dp.reads I _ _ _ h r
  | _, _, u, .one (k := k) (n := n) e k1 n1, r => by
    cases (show u = .ref _ from r)
    obtain ⟨_, _, vs, rel, dd⟩ := dk_of I.hok e
    obtain ⟨o, es, ep, ho, hx, hdat, _, hp, _⟩ := dd
    cases rel with
    | cons r1 rs =>
      cases rs
      generalize he : es.toList = l at hp
      cases hp with
      | cons p1 p2 ps =>
        cases ps
        rename_i q _ en
        obtain ⟨e1, tn, e3⟩ := r1
        have pk : keyIs (.inl k) en.key = true := by
          have z : keyIs q.1 en.key = true := p1
          rw [← show (Sum.inl k : Key) = q.1 from e1] at z
          exact z
        obtain ⟨i, t, z1, z2⟩ | ⟨x, t, z1, z2⟩ := keyIs_shape pk
        · cases z1
          refine ⟨_, Reads.dict (as := []) (bs := []) ho hx.1 hdat ?_ ?_⟩
          · rw [he]
            show ReadsAll _ [en.key] [_] _
            rw [z2]
            exact ReadsAll.cons (Reads.int k t) ReadsAll.nil
          · rw [he]
            show ReadsAll _ [en.val] [_] _
            rw [p2, e3]
            exact ReadsAll.cons (Reads.int n tn) ReadsAll.nil
        · cases z1
  | _, _, u, .emp e, r => by
    cases (show u = .ref _ from r)
    obtain ⟨_, o, ep, ho, hc, hd⟩ := emp_at I e
    exact ⟨_, Reads.dict (as := []) (bs := []) (kvs := []) ho hc hd ReadsAll.nil ReadsAll.nil⟩
  | _, _, u, .lst hs ha, r => by
    cases (show u = .ref _ from r)
    obtain ⟨its, rv, ⟨o, n, ho, hc, _, hd⟩, _⟩ := I.list hs
    obtain ⟨as, hr⟩ := Dq.readsAll I ha rv
    exact ⟨_, Reads.list ho hc hd hr⟩
  | _, _, u, .tup hs ha, r => by
    cases (show u = .ref _ from r)
    obtain ⟨its, rv, ⟨o, ho, hc, n, hd⟩, _⟩ := I.tuple hs
    obtain ⟨as, hr⟩ := Dq.readsAll I ha rv
    exact ⟨_, Reads.tuple ho hc hd hr⟩
theorem Dq.readsAll (I : Inv X pins σ H s) : ∀ {ds : List PyData} {vs : List V} {us : List Value}, DqAll X.K H vs ds → Vals vs us → ∃ as, ReadsAll s.heap us ds as
  | _, _, _, .nil, .nil => ⟨_, ReadsAll.nil⟩
  | _, _, _, .cons h1 h2, .cons r1 r2 => by
    obtain ⟨as, q1⟩ := Dq.reads I h1 r1
    obtain ⟨bs, q2⟩ := Dq.readsAll I h2 r2
    exact ⟨_, ReadsAll.cons q1 q2⟩
end
mutual
theorem Dq.rep (I : Inv X pins σ H s) (nd : s.heap.NoDigits) : ∀ {d : PyData} {v : V} {u : Value}, Dq X.K H v d → RelV v u → d.shown.length ≤ sizeLine → ∃ bs, ReadAtMost s.heap d.depth bs ∧ ReprK prog w bs s.heap d.depth u d.shown
  | _, _, _, .dp h ok, r, sz => by
    obtain ⟨as, q⟩ := Dp.reads I _ _ _ h r
    exact rep_of nd q ok sz
  | _, _, u, .one (a := a) (k := k) (n := n) e k1 n1, r, sz => by
    cases (show u = .ref _ from r)
    obtain ⟨as, rd⟩ := Dq.reads I (.one e k1 n1) (show RelV (.ref a) (.ref a) from rfl)
    obtain ⟨_, sys, _⟩ := dk_of I.hok e
    obtain ⟨o, es, ep, ho, hc, hdat, h4, h5⟩ : ∃ o es ep, s.heap.get? a = some o ∧ o.cls = .type "dict" ∧ o.data = .dict es ep ∧ ReadsAll s.heap (es.toList.map (·.key)) [.int k] [] ∧ ReadsAll s.heap (es.toList.map (·.val)) [.int n] [] := by
      cases rd with
      | dict h1 h2 h3 h4 h5 =>
        refine ⟨_, _, _, h1, h2, h3, ?_, ?_⟩
        · generalize hz : List.map _ _ = zs at h4
          cases h4 with
          | cons a1 a2 =>
            cases a1
            cases a2
            exact ReadsAll.cons (Reads.int _ _) ReadsAll.nil
        · generalize hz : List.map _ _ = zs at h5
          cases h5 with
          | cons a1 a2 =>
            cases a1
            cases a2
            exact ReadsAll.cons (Reads.int _ _) ReadsAll.nil
    have szd : (dictText (PyData.shownKv [(.int k, .int n)])).length ≤ sizeLine := by simpa only [PyData.shown] using sz
    obtain ⟨b1, f1, r1⟩ := rep_all (prog := prog) (w := w) nd h4 (by simp only [okAll, okD, decide_eq_true k1, Bool.and_self]) (fun t m => by
      obtain ⟨p, hp, hl⟩ := PyData.shownKv_key_le [(.int k, .int n)] t m
      exact Nat.le_trans hl (Nat.le_trans (dictText_mem_le hp) szd))
    obtain ⟨b2, f2, r2⟩ := rep_all (prog := prog) (w := w) nd h5 (by simp only [okAll, okD, decide_eq_true n1, Bool.and_self]) (fun t m => by
      obtain ⟨p, hp, hl⟩ := PyData.shownKv_val_le [(.int k, .int n)] t m
      exact Nat.le_trans hl (Nat.le_trans (dictText_mem_le hp) szd))
    have rd2 : Reads s.heap (.ref a) (.dict [(.int k, .int n)]) _ := .dict ho hc hdat h4 h5
    have out : a ∉ b1 ++ b2 := not_mem_of_deeper rd2 (by simp only [PyData.depth, PyData.depthKv, PyData.depthAll]; omega) ((f1.mono (m := 0) (by simp [PyData.depth, PyData.depthAll])).append (f2.mono (m := 0) (by simp [PyData.depth, PyData.depthAll])))
    refine ⟨a :: (b1 ++ b2), ReadAtMost.cons rd2 (Nat.le_refl _) ((f1.append f2).mono (by simp [PyData.depth, PyData.depthAll])), ?_⟩
    have ent := ReprEntriesK.of_two es.toList _ _ (r1.more_le (fun b m => List.mem_append_left b2 m) (Nat.le_refl _)) (r2.more_le (d' := PyData.depthAll [PyData.int k]) (fun b m => List.mem_append_right b1 m) (by simp [PyData.depth, PyData.depthAll]))
    have fin := ReprK.dict ho hc hdat sys out ent
    have e1 : PyData.depth (.dict [(.int k, .int n)]) = PyData.depthAll [PyData.int k] + 1 := by simp [PyData.depth, PyData.depthKv, PyData.depthAll]
    rw [e1]
    exact fin
  | _, _, u, .emp (a := a) e, r, sz => by
    cases (show u = .ref _ from r)
    obtain ⟨sys, o, ep, ho, hc, hd⟩ := emp_at I e
    have rd2 : Reads s.heap (.ref a) (.dict []) _ := .dict (as := []) (bs := []) (kvs := []) ho hc hd ReadsAll.nil ReadsAll.nil
    refine ⟨[a], ReadAtMost.cons rd2 (Nat.le_refl _) (fun _ z => nomatch z), ?_⟩
    have fin := ReprK.dict (prog := prog) (w := w) (as := []) (d := 0) (ps := []) ho hc hd sys (by simp) ReprEntriesK.nil
    have e1 : PyData.depth (.dict []) = 0 + 1 := by simp [PyData.depth, PyData.depthKv]
    rw [e1]
    exact fin
  | _, _, u, .lst (a := a) (xs := xs) (ds := ds) hs ha, r, sz => by
    cases (show u = .ref _ from r)
    obtain ⟨its, rv, ⟨o, n, ho, hc, _, hd⟩, _⟩ := I.list hs
    have sz2 : (listText (PyData.shownAll ds)).length ≤ sizeLine := by simpa only [PyData.shown] using sz
    obtain ⟨bs, few, all⟩ := Dq.repAll I nd ha rv (fun t m => Nat.le_trans (listText_mem_le m) sz2)
    obtain ⟨as, rr⟩ := Dq.readsAll I ha rv
    have rd : Reads s.heap (.ref a) (.list ds) _ := Reads.list ho hc hd rr
    have out : a ∉ bs := not_mem_of_deeper rd (by simp only [PyData.depth]; omega) few
    refine ⟨a :: bs, ReadAtMost.cons rd (by simp only [PyData.depth]; omega) few, ?_⟩
    simp only [PyData.depth, PyData.shown]
    cases its with
    | nil =>
      cases rr
      simp only [PyData.shownAll, listText_nil]
      exact .listEmpty ho hc hd
    | cons x l => exact .list ho hc hd out (by simpa using all.length_eq) (fun i y e => all.item i y (by simpa using e))
  | _, _, u, .tup (a := a) (xs := xs) (ds := ds) hs ha, r, sz => by
    cases (show u = .ref _ from r)
    obtain ⟨its, rv, ⟨o, ho, hc, n, hd⟩, _⟩ := I.tuple hs
    have sz2 : (tupleText (PyData.shownAll ds)).length ≤ sizeLine := by simpa only [PyData.shown] using sz
    obtain ⟨bs, few, all⟩ := Dq.repAll I nd ha rv (fun t m => Nat.le_trans (tupleText_mem_le m) sz2)
    obtain ⟨as, rr⟩ := Dq.readsAll I ha rv
    have rd : Reads s.heap (.ref a) (.tuple ds) _ := Reads.tuple ho hc hd rr
    have out : a ∉ bs := not_mem_of_deeper rd (by simp only [PyData.depth]; omega) few
    refine ⟨a :: bs, ReadAtMost.cons rd (by simp only [PyData.depth]; omega) few, ?_⟩
    simp only [PyData.depth, PyData.shown]
    exact .tuple ho hc hd out all
theorem Dq.repAll (I : Inv X pins σ H s) (nd : s.heap.NoDigits) : ∀ {ds : List PyData} {vs : List V} {us : List Value}, DqAll X.K H vs ds → Vals vs us → (∀ t ∈ PyData.shownAll ds, t.length ≤ sizeLine) →
    ∃ bs, ReadAtMost s.heap (PyData.depthAll ds) bs ∧ ReprAllK prog w bs s.heap (PyData.depthAll ds) us (PyData.shownAll ds)
  | _, _, _, .nil, .nil, _ => ⟨[], (fun _ z => nomatch z), by simp only [PyData.shownAll]; exact .nil⟩
  | _, _, _, .cons (d := d) (ds := ds) h1 h2, .cons r1 r2, sz => by
    obtain ⟨b1, f1, k1⟩ := Dq.rep I nd h1 r1 (sz _ (by simp only [PyData.shownAll]; exact List.mem_cons_self ..))
    obtain ⟨b2, f2, k2⟩ := Dq.repAll I nd h2 r2 (fun t m => sz t (by simp only [PyData.shownAll]; exact List.mem_cons_of_mem _ m))
    refine ⟨b1 ++ b2, (f1.mono (by simp only [PyData.depthAll]; omega)).append (f2.mono (by simp only [PyData.depthAll]; omega)), ?_⟩
    simp only [PyData.depthAll, PyData.shownAll]
    exact .cons ((k1.more fun b m => List.mem_append_left _ m).level_le (by omega)) (k2.more_le (fun b m => List.mem_append_right _ m) (by omega))
end
end
section
variable {X : Cx} {pins : List (Addr × Obj)} {σ : L2.St} {H : Hp} {s : Shared}
end
/-- repr(x), x an atom or data of any form -/
noncomputable def rReprQ (K : PySem.W.Frag) : List V → Hp → VK → Prop := fun xs H Q => ∃ (x : V) (d : PyData), xs = [x] ∧ ((Dp K H x d ∧ d.showable = true ∧ d.hasDict = false) ∨ ∃ a, x = .ref a ∧ Dq K H x d) ∧ d.depth ≤ 20 ∧ d.shown.length ≤ sizeLine ∧ Q (.str d.shown) H
end GL
/-! small values of any kind whose repr is asked -/
namespace GL
open PySem PySem.Spec PyProof.Rows L2
theorem ofS_ok (s : String) : PyData.strOk (Str.ofString s) = true := by
  unfold PyData.strOk
  rw [Str.ofString_eq_toList]
  rw [Array.all_eq_true]
  intro i hi
  simp only [List.getElem_toArray, List.getElem_map, decide_eq_true_eq]
  have v := (s.toList[i]'(by simpa using hi)).valid
  generalize s.toList[i]'(by simpa using hi) = c at *
  rcases v with h | ⟨_, h⟩
  · exact Nat.lt_of_lt_of_le h (by decide)
  · exact h
theorem app_ok {x y : Str} (hx : PyData.strOk x = true) (hy : PyData.strOk y = true) : PyData.strOk (x ++ y) = true := by
  unfold PyData.strOk at *
  show Array.all (x.cps ++ y.cps) _ = true
  rw [Array.all_append, hx, hy]
  rfl
section
variable {K : PySem.W.Frag} {H H' : Hp}
theorem sqL_same {a : Addr} {xs : List V} (h : SqL K H a xs) (s : Same H H') : SqL K H' a xs := by
  rcases h with (z | ⟨o, z⟩) | z
  · exact .inl (.inl (s _ _ z))
  · exact .inl (.inr ⟨o, s _ _ z⟩)
  · exact .inr z
theorem sqT_same {a : Addr} {xs : List V} (h : SqT K H a xs) (s : Same H H') : SqT K H' a xs := by
  rcases h with (z | ⟨o, z⟩) | z
  · exact .inl (.inl (s _ _ z))
  · exact .inl (.inr ⟨o, s _ _ z⟩)
  · exact .inr z
mutual
theorem dp_same (s : Same H H') : ∀ {v : V} {d : PyData}, Dp K H v d → Dp K H' v d
  | _, _, .non => .non
  | _, _, .bl b => .bl b
  | _, _, .int i => .int i
  | _, _, .str x => .str x
  | _, _, .lst h a => .lst (sqL_same h s) (dps_same s a)
  | _, _, .tup h a => .tup (sqT_same h s) (dps_same s a)
theorem dps_same (s : Same H H') : ∀ {vs : List V} {ds : List PyData}, DpAll K H vs ds → DpAll K H' vs ds
  | _, _, .nil => .nil
  | _, _, .cons h a => .cons (dp_same s h) (dps_same s a)
end
mutual
theorem dq_same (s : Same H H') : ∀ {v : V} {d : PyData}, Dq K H v d → Dq K H' v d
  | _, _, .dp h ok => .dp (dp_same s h) ok
  | _, _, .one e a b => .one (s _ _ e) a b
  | _, _, .emp e => .emp (s _ _ e)
  | _, _, .lst h a => .lst (sqL_same h s) (dqs_same s a)
  | _, _, .tup h a => .tup (sqT_same h s) (dqs_same s a)
theorem dqs_same (s : Same H H') : ∀ {vs : List V} {ds : List PyData}, DqAll K H vs ds → DqAll K H' vs ds
  | _, _, .nil => .nil
  | _, _, .cons h a => .cons (dq_same s h) (dqs_same s a)
end
structure Val (K : PySem.W.Frag) (H : Hp) (v : V) (d : PyData) : Prop where
  dq : Dq K H v d
  rp : (Dp K H v d ∧ d.showable = true ∧ d.hasDict = false) ∨ ∃ a, v = .ref a ∧ Dq K H v d
  dep : d.depth ≤ 3
  ls : PyData.leavesShort 300 d = true
  bk : d.bulk ≤ 100
  so : PyData.strOk d.shown = true
theorem Val.same {v : V} {d : PyData} (h : Val K H v d) (s : Same H H') : Val K H' v d :=
  ⟨dq_same s h.dq, h.rp.imp (fun ⟨a, b, c⟩ => ⟨dp_same s a, b, c⟩) (fun ⟨a, b, c⟩ => ⟨a, b, dq_same s c⟩), h.dep, h.ls, h.bk, h.so⟩
theorem Val.flat {v : V} {d : PyData} (h : Dp K H v d) (ok : okD d = true) (sh : d.showable = true) (nd : d.hasDict = false) (dep : d.depth ≤ 3) (ls : PyData.leavesShort 300 d = true) (bk : d.bulk ≤ 100) (so : PyData.strOk d.shown = true) : Val K H v d := ⟨.dp h ok, .inl ⟨h, sh, nd⟩, dep, ls, bk, so⟩
theorem Val.int {n : Int} (h : n.natAbs < 10 ^ 40) : Val K H (.int n) (.int n) := by
  have z : n.natAbs.log2 < 1920 := Nat.lt_trans (PySem.Flt.log2_lt_of (k := 200) (by decide) (Nat.lt_of_lt_of_le h (by decide +kernel))) (by decide)
  refine .flat (.int n) (decide_eq_true (Nat.lt_of_lt_of_le h (by decide +kernel))) (decide_eq_true z) rfl (by simp [PyData.depth]) ?_ (by simp [PyData.bulk]) (ofS_ok _)
  · have e := int_text_length_le10 (a := n) (k := 40) (by decide) h
    refine decide_eq_true ?_
    show (Str.ofString (toString n)).length ≤ 300
    rw [PySem.ofString_length]
    exact Nat.le_trans e (by decide)
end
end GL
namespace GL
open PySem PySem.Spec PyProof.Rows L2 PySem.GLE
theorem err_mk {K : PySem.W.Frag} {h : Heap} {mg : Str → Option Value} {x f nm q qual : Str} {C fI N : Addr} {bs bm bB : List Value} {sn : List Str} {sub : List Value} {ab : Bool} {col : Option Bool} {dd od an : Option Addr} {k0 k1 k2 k3 k5 : Option Value} {B nwId inId : String}
    {oc doc pm cdv ct : Value} {osl : Array (Option Value)} {p1 p2 q1 q2 q3 q4 : Pos} (X : K.In h) (G : h.Ns mainGlobals mg) (F : ExcBaseFacts B nwId inId bB) (ch : Chain B bm)
    (f1 : (f == ("self" : Str)) = false) (f2 : (f == ("__debug__" : Str)) = false)
    (bd : ∀ (qual : Str) (p1 p2 q1 q2 q3 q4 : Pos) (doc pm : Value) (an : Option Addr) (cdv ct : Value) (a : Addr) (v : Value) (u : Unit), bindArgs (PySem.W.fnOf "__init__" qual (iArgs f p1 p2) (iBody f q1 q2 q3 q4) (iScope f) .none .none doc pm an cdv ct) ⟨[.ref a, v], []⟩ = pure [(PySem.Str.ofString "self", .ref a), (f, v)])
    (n : PySem.W.nsIn K mainGlobals x = some (some (.ref C))) (l : K.lookup C = some (excClassObj nm q C N bs bm true sn sub ab col dd k0 k1 k2 k3 k5 nwId))
    (iC : PySem.W.findIn K (.ref C) "__init__" = some (some (.ref fI))) (lf : K.lookup fI = some ⟨oc, od, .func (PySem.W.fnOf "__init__" qual (iArgs f p1 p2) (iBody f q1 q2 q3 q4) (iScope f) .none .none doc pm an cdv ct), osl⟩) (cd : PySem.W.codeIn K cdv qual = true)
    (sa : PySem.W.findIn K (.ref C) "__setattr__" = some (some (.builtin "object.__setattr__"))) (ga : PySem.W.findIn K (.ref C) "__getattribute__" = some (some (.builtin "BaseException.__getattribute__"))) (gg : PySem.W.findIn K (.ref C) "__getattr__" = some none)
    (no : PySem.W.findIn K (.ref C) f = some none) (tC : PySem.W.typeIn K (.ref fI) = some (.type "function")) (kC : PySem.W.keepIn K (.ref C) = true) (exC : PySem.W.subIn K (.ref C) (.type "BaseException") = some true) (tyC : PySem.W.typeIn K (.ref C) = some (.type "type"))
    (hdC : PySem.W.hasDictIn K C = true) : ErrTxt K mg x f C fI :=
  { gC := PySem.W.mg_of X G n, cls := ⟨nm, q, N, bs, bm, sn, sub, ab, col, dd, k0, k1, k2, k3, k5, B, nwId, inId, bB, F, ch, l⟩, sa := sa, ga := ga, gg := gg, noN := no, iC := iC, tC := tC, kC := kC, exC := exC, tyC := tyC, hdC := hdC, f1 := f1, f2 := f2, bd := bd,
    fn := ⟨_, _, qual, _, _, _, _, _, _, _, _, _, _, _, _, lf, cd⟩ }
end GL
/-! the end of a law whose defs make lambdas: their tables of code objects -/
namespace GL
open PySem PySem.Spec PyProof.Rows L2 LamX
/-- law_call with tables: cs, the code objects and their tables -/
theorem law_tabs {P : Program} {w : World} {K : PySem.W.Frag} {mg mb : Str → Option Value} {CX : CXT} {k : Nat} {fa a : Addr} {cs : List (Addr × Addr)} {fd : FuncData} {x : Str} {sp : Sp} {sA : Shared} {vs : List Value} {ns : List Int}
    (inK : K.In sA.heap) (nsG : sA.heap.Ns mainGlobals mg) (hb : sA.heap.Ns builtinsNs mb) (bIs : ∀ x : Str, x ≠ "__name__" → mb x = bootBuiltins x) (lim : sA.heap.NoLimit) (hg : sA.gens = #[])
    (hT : ∀ p ∈ cs, sA.heap.get? p.2 = some { cls := .none, data := .fields #[] }) (tFree : ∀ p ∈ cs, K.lookup p.2 = none) (C : ∀ p ∈ cs, PySem.W.CodeHd sA.heap p.1 p.2)
    (modB : ∃ (bm : Addr) (ob : Obj), mg "__builtins__" = some (.ref bm) ∧ bm ≠ builtinsNs ∧ sA.heap.get? bm = some ob ∧ ob.cls = .type "module" ∧ ob.dict = some builtinsNs ∧ ob.data = .plain)
    (ha : sA.heap.get? a = some { cls := .type "list", data := .seq vs.toArray }) (hi : IntsAre vs ns) (hl : ns.length ≤ sizeLine) (hr : Room k callerA)
    (F : ∀ base : Heap, K.In base → base.Ns mainGlobals mg → (∀ p ∈ cs, TabB base mg p.1 p.2) → FnG P w K mg base CX k fa fd [x] sp) (hbind : ∀ (s : Shared) (u : Value), BindsTo s fd ⟨[u], []⟩ [(x, u)])
    (hsp : ∀ H : Hp, (∀ p ∈ cs, H p.2 = some (.tbl #[])) → SqL K H a (ns.map V.int) → sp [.ref a] H (fun v _ => v = .bl true) fun _ _ _ => False)
    (never : ∀ H e s', CX [] H sA (fun _ _ _ => False) e s' → False) :
    codeAny (model P w) callerA (.call (.ref fa) ⟨[.ref a], []⟩) (fun r s' => r = .ok (.ret (.bool true)) ∧ OldK sA.heap s'.heap ∧ s'.os = sA.os ∧ AllBare s'.gens) sA := by
  have relV := vals_ints hi
  have lenE := hi.length
  have tIs : ∀ b : Addr, b ∈ cs.map (·.2) → sA.heap.get? b = some { cls := .none, data := .fields #[] } := fun b hb => by
    obtain ⟨p, hp, e⟩ := List.mem_map.mp hb
    rw [← e]
    exact hT p hp
  have aOut : a ∉ cs.map (·.2) := fun z => by
    have q := tIs a z
    rw [ha] at q
    have z' : Data.seq vs.toArray _ = Data.fields #[] := congrArg Obj.data (Option.some.inj q)
    cases z'
  have tMem : ∀ p ∈ cs, p.2 ∈ cs.map (·.2) := fun p hp => List.mem_map.mpr ⟨p, hp, rfl⟩
  -- from an abstract heap in which nothing but the script and the tables may be tracked
  have heart : ∀ H : Hp, (∀ p ∈ cs, H p.2 = some (.tbl #[])) → (∀ b, H b = none ∨ b ∈ cs.map (·.2) ∨ ∃ o xs, H b = some (.frz o (.lst xs))) → SqL K H a (ns.map V.int) → HOk P w H sA.heap → (∀ b, H b ≠ none → b = a ∨ b ∈ cs.map (·.2)) → (H a ≠ none → K.lookup a = none) →
      codeAny (model P w) callerA (.call (.ref fa) ⟨[.ref a], []⟩) (fun r s' => r = .ok (.ret (.bool true)) ∧ OldK sA.heap s'.heap ∧ s'.os = sA.os ∧ AllBare s'.gens) sA := by
    intro H hH onlyH seqH okH atH noK
    have toB : ∀ {b : Addr} {o : Obj}, sA.heap.get? b = some o → H b = none → (hidT sA.heap H).get? b = some o := fun e n => hidT_get e n
    have noneD : ∀ {b : Addr} {o : Obj}, sA.heap.get? b = some o → (∀ vs n, o.data ≠ .seq vs n) → o.data ≠ .fields #[] → H b = none := fun {b o} e h1 h2 => by
      cases q : H b with
      | none => rfl
      | some u =>
        rcases atH b (by rw [q]; simp) with e' | e'
        · rw [e', ha] at e
          cases e
          exact (h1 _ _ rfl).elim
        · rw [tIs b e'] at e
          cases e
          exact (h2 rfl).elim
    have noneDict : ∀ {b : Addr} {o : Obj} {es : Array DictEntry} {ep : Nat}, sA.heap.get? b = some o → o.data = .dict es ep → H b = none := fun {b o es ep} e d => by
      refine noneD e (fun vs n z => ?_) fun z => ?_
      · rw [d] at z
        cases z
      · rw [d] at z
        cases z
    have keepNs : ∀ {b : Addr} {m : Str → Option Value}, sA.heap.Ns b m → (hidT sA.heap H).Ns b m := fun {b m} ⟨o, es, ep, e, d, r⟩ => ⟨o, es, ep, toB e (noneDict e d), d, r⟩
    have inKB : K.In (hidT sA.heap H) := fun b o e => toB (inK b o e) (by
      cases q : H b with
      | none => rfl
      | some u =>
        rcases atH b (by rw [q]; simp) with e' | e'
        · rw [e'] at e q
          rw [noK (by rw [q]; simp)] at e
          cases e
        · obtain ⟨p, hp, ep⟩ := List.mem_map.mp e'
          rw [← ep, tFree p hp] at e
          cases e)
    have modu : L2.Mod K mg (hidT sA.heap H) := ⟨inKB, keepNs nsG, ⟨mb, keepNs hb, bIs⟩, let ⟨mc, h1, h2⟩ := lim; ⟨mc, keepNs h1, h2⟩⟩
    have tabB : ∀ p ∈ cs, TabB (hidT sA.heap H) mg p.1 p.2 := fun p hp => by
      have tAt := hT p hp
      refine ⟨?_, ?_, fun z => ?_⟩
      · obtain ⟨o, us, file, tf, flags, tg, inF, text, tt, e1, r1, r2, r3, r4, r5, r6, r7, r8, hne⟩ := C p hp
        refine ⟨o, us, file, tf, flags, tg, inF, text, tt, toB e1 (noneD e1 (fun vs n z => ?_) fun z => ?_), r1, r2, r3, r4, r5, r6, r7, r8, hne⟩
        · rw [r2] at z
          cases z
        · rw [r2] at z
          cases z
          simp at r3
      · obtain ⟨bm, ob, b1, b2, b3, b4, b5, b6⟩ := modB
        have nG : bm ≠ mainGlobals := fun q => by
          obtain ⟨o, es, ep, e, hd, _⟩ := nsG
          rw [q, e] at b3
          cases b3
          rw [hd] at b6
          cases b6
        have nP : bm ≠ p.2 := fun q => by
          rw [q, tAt] at b3
          cases b3
          cases b6
        refine ⟨bm, ob, b1, b2, nG, nP, toB b3 (noneD b3 (fun vs n z => ?_) fun z => ?_), b4, b5, b6⟩
        · rw [b6] at z
          cases z
        · rw [b6] at z
          cases z
      · obtain ⟨o, es, ep, e, hd, _⟩ := nsG
        rw [z, tAt] at e
        cases e
        cases hd
    have env0 : Env0 P w K mg (hidT sA.heap H) callerA [] sA H := ⟨rfl, modu, fun b o e => of_hidT e, Nat.le_of_eq (hidT_size _ _), trivial, fun b hb => absurd (show b ∈ ([] : List Addr) from hb) (by simp), okH, .of_eq hg⟩
    refine codeAny_mono ((F _ inKB (keepNs nsG) tabB).go (A := callerA) (outer := []) (s := sA) (args := ⟨[.ref a], []⟩) (us := [.ref a]) (vs := [.ref a]) rfl hr env0 (hbind sA (.ref a)) (.cons rfl .nil) (hsp H hH seqH)) fun r s' h => ?_
    cases r with
    | error e => exact (never H e s' h).elim
    | ok fl =>
      cases fl with
      | next => exact False.elim h
      | brk => exact False.elim h
      | cont => exact False.elim h
      | ret u =>
        obtain ⟨v, H', ost, bar, unc, okH', r', q⟩ := h
        have q' : v = .bl true := q
        subst q'
        obtain rfl : u = Value.bool true := r'
        have same_ : ∀ b o, b ∉ cs.map (·.2) → sA.heap.get? b = some o → s'.heap.get? b = some o := fun b o nb e => by
          cases q : H b with
          | none => exact unc.keep b o e q (by intro z; exact absurd (show b ∈ ([] : List Addr) from z) (by simp)) (by simp)
          | some u =>
            rcases onlyH b with z | z | ⟨ob, xs, z⟩
            · rw [q] at z; cases z
            · exact absurd z nb
            · have z2 := unc.frzs b ob _ z
              obtain ⟨e1, _⟩ := okH b _ z
              obtain ⟨e2, _⟩ := okH' b _ z2
              rw [e] at e1; cases e1
              exact e2
        have grew : ∀ p ∈ cs, ∃ more : Array Value, s'.heap.get? p.2 = some { cls := .none, data := .fields more } := fun p hp => by
          obtain ⟨more, z⟩ := unc.tbls p.2 #[] (hH p hp)
          exact ⟨_, okH' p.2 _ z⟩
        refine ⟨rfl, ⟨fun b o e => ?_, fun b o e => ?_⟩, ost, bar⟩
        · by_cases hb : b ∈ cs.map (·.2)
          · obtain ⟨p, hp, ep⟩ := List.mem_map.mp hb
            obtain ⟨more, hm⟩ := grew p hp
            rw [← ep] at e ⊢
            rw [hT p hp] at e
            cases e
            exact .inr (.inl ⟨((C p hp).tab (hT p hp)).isCodeTable, rfl, #[], more, rfl, by rw [Array.empty_append]; exact hm⟩)
          · exact .inl (same_ b o hb e)
        · by_cases hb : b ∈ cs.map (·.2)
          · obtain ⟨p, hp, ep⟩ := List.mem_map.mp hb
            obtain ⟨more, hm⟩ := grew p hp
            rw [← ep]
            exact ⟨_, hm⟩
          · exact ⟨o, same_ b o hb e⟩
  cases hk : K.lookup a with
  | some o =>
    have e := inK a o hk
    rw [ha] at e
    cases e
    refine heart (fun b => if b ∈ cs.map (·.2) then some (.tbl #[]) else none) (fun p hp => if_pos (tMem p hp)) (fun b => ?_) (.inr ⟨_, vs.toArray, _, hk, rfl, rfl, rfl, by rw [List.size_toArray, lenE]; exact hl, by simpa using relV⟩) (fun b u z => ?_) (fun b z => ?_) fun z => absurd (show (if a ∈ cs.map (·.2) then some (HO.tbl #[]) else none) = none from if_neg aOut) z
    · by_cases hb : b ∈ cs.map (·.2)
      · exact .inr (.inl hb)
      · exact .inl (if_neg hb)
    · by_cases hb : b ∈ cs.map (·.2)
      · have z' := (if_pos hb).symm.trans z
        cases z'
        exact tIs b hb
      · have z' := (if_neg hb).symm.trans z
        cases z'
    · by_cases hb : b ∈ cs.map (·.2)
      · exact .inr hb
      · exact absurd (if_neg hb) z
  | none =>
    refine heart (fun b => if b = a then some (.frz { cls := .type "list", data := .seq vs.toArray } (.lst (ns.map V.int))) else if b ∈ cs.map (·.2) then some (.tbl #[]) else none) (fun p hp => (if_neg (show ¬ p.2 = a from fun z => aOut (by rw [← z]; exact tMem p hp))).trans (if_pos (tMem p hp))) (fun b => ?_)
      (.inl (.inr ⟨{ cls := .type "list", data := .seq vs.toArray }, if_pos rfl⟩)) (fun b u z => ?_) (fun b z => ?_) fun _ => hk
    · by_cases hb : b = a
      · exact .inr (.inr ⟨_, _, if_pos hb⟩)
      · by_cases hb2 : b ∈ cs.map (·.2)
        · exact .inr (.inl hb2)
        · exact .inl ((if_neg hb).trans (if_neg hb2))
    · by_cases hb : b = a
      · have z' := (if_pos hb).symm.trans z
        cases z'
        rw [hb]
        exact ⟨ha, by rw [List.length_map]; exact hl, vs, _, relV, ha⟩
      · have z1 := (if_neg hb).symm.trans z
        by_cases hb2 : b ∈ cs.map (·.2)
        · have z' := (if_pos hb2).symm.trans z1
          cases z'
          exact tIs b hb2
        · have z' := (if_neg hb2).symm.trans z1
          cases z'
    · by_cases hb : b = a
      · exact .inl hb
      · by_cases hb2 : b ∈ cs.map (·.2)
        · exact .inr hb2
        · exact absurd ((if_neg hb).trans (if_neg hb2)) z
/-- what is known of the law's promise at the head's heap h -/
noncomputable def LawTab (l : PySem.W.OpenLaw) (w : World) (K : PySem.W.Frag) (CX : CXT) (k n : Nat) (x : Str) (mg : Str → Option Value) (fa : Addr) (h : Heap) : Prop :=
  ∃ (fd : FuncData) (cs : List (Addr × Addr)) (sp : Sp), (∀ p ∈ cs, h.get? p.2 = some { cls := .none, data := .fields #[] }) ∧ (∀ p ∈ cs, K.lookup p.2 = none) ∧ (∀ p ∈ cs, PySem.W.CodeHd h p.1 p.2) ∧ (∀ (s : Shared) (u : Value), BindsTo s fd ⟨[u], []⟩ [(x, u)]) ∧
    (∀ (H : Hp) (a : Addr) (ns : List Int), ns.length ≤ n → (∀ z ∈ ns, Builtin.Int.intBits z ≤ 1048576) → (∀ p ∈ cs, H p.2 = some (.tbl #[])) → SqL K H a (ns.map V.int) → sp [.ref a] H (fun v _ => v = .bl true) fun _ _ _ => False) ∧
    ∀ base : Heap, K.In base → base.Ns mainGlobals mg → (∀ p ∈ cs, TabB base mg p.1 p.2) → FnG l.prog w K mg base CX k fa fd [x] sp
theorem walk_tabs {l : PySem.W.OpenLaw} {n k : Nat} {q : Program} {loose : List Str} {XP : (Str → Option Value) → Heap → Prop} {YP : World → Heap → Prop} {d : DefRec} {K : Params → PySem.W.Frag} {CX : World → CXT} {x : Str}
    (hn : l.most = some n) (hn2 : n ≤ sizeLine) (hdf : d.params.defaults = []) (hr : Room k callerA) (hY : ∀ (w : World) (h : Heap), YP w h → (K w.params).In h)
    (F : ∀ (w : World) (mg : Str → Option Value) (fa : Addr) (h : Heap), YP w h → (K w.params).In h → h.Ns mainGlobals mg → mg d.name = some (.ref fa) → LawTab l w (K w.params) (CX w) k n x mg fa h)
    (never : ∀ (w : World) (H : Hp) (s : Shared) (e : Value) (s' : Shared), CX w [] H s (fun _ _ _ => False) e s' → False) :
    PySem.W.WalkO q loose XP YP l.row.toRowW d [] (fun f vs => PySem.call f vs) := by
  refine Att.attach_callB hn hdf fun w sB sA mg mb fa o pm cd doc a vs ns G Y ho hd hcd hmg hobj hints hlen hbits hg => ?_
  have inK := hY w _ Y
  obtain ⟨fd, cs, sp, hT, tFree, C, hb, hsp, hF⟩ := F w mg fa _ Y inK G.T.g hmg
  exact law_tabs inK G.T.g G.T.b G.T.builtins G.T.nolimit hg hT tFree C G.T.bmain hobj hints (Nat.le_trans hlen hn2) hr hF hb (fun H hH seqH => hsp H a ns hlen hbits hH seqH) fun H e s' => never w H sA e s'
end GL
/-! a lambda handed to a def, where repr may be asked -/
namespace GL
open PySem PySem.Spec PyProof.Rows L2 LamX
section
variable {X : Cx} {pins : List (Addr × Obj)} {σ : L2.St} {H HZ : Hp} {s s1 : Shared}
/-- x(), in the def that got the lambda: Z is that def's context, entered at s -/
theorem lam_act {CXg : CXT} {Eg : XK} {Ng : List Str} {qg : Str} {sg : Scope} {g f c' : Addr} {cdg pm ctv : Value} {params : Arguments} {body : Expr} {scope : Scope} {k i : Nat} {a : Str} {pn : List (Addr × Obj)} {xe : Value → Shared → Prop} {W : WX} {E : XK} {tb : TE} {p1 p2 : Pos}
    (I : Inv X pins σ H s) (L : LamS X.env.scope scope) (objF : s.heap.get? f = some (PySem.W.kla_obj "<lambda>" (X.env.qual ++ "<lambda>") params body scope (cloFrom X.env.cells scope.names []) pm c' ctv)) (noF : H f = none) (outF : f ∉ frs X.stack)
    (bindN : bindArgs (PySem.W.kla_fn "<lambda>" (X.env.qual ++ "<lambda>") params body scope (cloFrom X.env.cells scope.names []) pm (.ref c') ctv) ⟨[], []⟩ = pure [])
    (tak : Takes ((cxOf CXg X.prog X.w X.K X.mg X.base Ng qg sg g cdg X.A X.stack s H Eg).tr pn xe) W) (toW : ∀ cls d σ' H', E cls d H' → W cls d σ' H') (hr : Room (k + 1) (X.A.deeper (envOfC qg sg s.heap.objs.size g cdg)))
    (gd : Gd X.A) (inBody : ∀ (A : Around) (outer : List Env) (s : Shared) (H : Hp), Gd (A.deeper (lamEnv X scope s.heap.objs.size f c')) → Room k (A.deeper (lamEnv X scope s.heap.objs.size f c')) → PE (lamCx X A outer s H E scope f c') body tb)
    (atN : Ng[i]? = some a) (visA : Vis sg a) (dbgA : (a == ("__debug__" : Str)) = false := by decide) (cdA : (a == ("__classdict__" : Str)) = false := by decide) :
    PE ((cxOf CXg X.prog X.w X.K X.mg X.base Ng qg sg g cdg X.A X.stack s H Eg).tr pn xe) (.Call (.Name a p1) [] [] p2)
      (fun σZ HZ Q => σZ[i]? = some (some (.ref f)) ∧ HZ c' = some (CodeO c' (X.env.qual ++ "<lambda>")) ∧ tb σ HZ Q) := by
  refine ⟨fun pinsZ sZ σZ HZ Q Iz h => ?_⟩
  obtain ⟨slotF, codeF, body_⟩ := h
  refine wpAny_Call_Name_kw (thn ((pe_var (pos := p1) (i := i) atN visA dbgA cdA).run pinsZ sZ σZ HZ (fun v H1 => v = .ref f ∧ H1 = HZ) Iz ⟨.ref f, slotF, rfl, rfl⟩) fun u s1 ⟨v, H1, Iy, r1, q1⟩ => ?_)
  obtain ⟨ev, eH⟩ := q1
  subst ev
  rw [eH] at Iy
  obtain rfl : u = Value.ref f := r1
  have objF1 : s1.heap.get? f = some (PySem.W.kla_obj "<lambda>" (X.env.qual ++ "<lambda>") params body scope (cloFrom X.env.cells scope.names []) pm c' ctv) := Iy.base.keep f _ objF noF outF (fun z => nomatch (show f ∈ ([] : List Addr) from z))
  refine PySem.W.callWith_F0 ⟨_, _, _, _, objF1⟩ ?_
  have unZ : Un (frs X.stack) [] H HZ s.heap s1.heap := Iy.base
  obtain ⟨⟨oc, vs, t, ocC, dataC, nameC⟩, _, _⟩ := Iy.hok c' _ codeF
  have runs : codeAny (model X.prog X.w) (X.A.deeper (envOfC qg sg s.heap.objs.size g cdg)) (.call (.ref f) ⟨[], []⟩) (CR (L2.CX X.prog X.w) (envOfC qg sg s.heap.objs.size g cdg :: X.stack) X.prog X.w HZ s1 Q E) s1 := by
    refine PySem.W.kla_callFunE hr.depth objF1 rfl L.co L.gen rfl ⟨c', oc, vs, t, rfl, ocC, dataC, nameC⟩ ?_
    rw [bindN]
    refine wpAny_pure (wpAny_newFunctionEnv (fun y hy => (L.own y hy).2) (fun y hy => absurd hy (by simp)) (fun h₁ nsL butL => ⟨Iy.nolimit.fresh _ butL, ?_⟩) L.kind)
    show codeAny _ _ (.expr body (lamEnv X scope s1.heap.objs.size f c')) _ _
    have old : ∀ b o, s1.heap.get? b = some o → h₁.get? b = some o := fun b o e => butL.extBut b o (Nat.ne_of_lt (Heap.lt_size e)) (Heap.get?_push_of_some _ e)
    have Jn : Inv (lamCx X (X.A.deeper (envOfC qg sg s.heap.objs.size g cdg)) (envOfC qg sg s.heap.objs.size g cdg :: X.stack) s1 HZ E scope f c') [] σ HZ { s1 with heap := h₁, toks := s1.toks + ([] : List (Str × Value)).length } :=
      lam_start2 I L Iy.env0 hr.hd unZ nsL old
    refine PySem.W.kla_codeExpr (wpAny_mono ((inBody (X.A.deeper (envOfC qg sg s.heap.objs.size g cdg)) _ s1 HZ gd (hr.deeper _)).run [] _ _ HZ Q Jn body_) (fun v s' res => ?_) fun e s' res => res)
    obtain ⟨w', H', J', rv, q⟩ := res
    exact ⟨w', H', J'.os, J'.bare, J'.base, J'.hok, rv, q⟩
  have outs : Passes (L2.CX X.prog X.w) ((cxOf CXg X.prog X.w X.K X.mg X.base Ng qg sg g cdg X.A X.stack s H Eg).tr pn xe) E := passes_call tak toW
  refine wpAny_call (codeAny_mono runs fun r s' res => ?_)
  cases r with
  | error e => exact outs pinsZ σZ HZ s1 e s' Iy res
  | ok fl =>
    cases fl with
    | ret u => exact Iy.after res
    | next => exact False.elim res
    | brk => exact False.elim res
    | cont => exact False.elim res
end
section
variable {X : Cx}
/-- x(lambda: body) -/
theorem pe_lam {T : List (Addr × Str)} {TT : (XK → Hp → VK → Prop) → Hp → VK → Prop} {x a : Str} {g c P : Addr} {k : Nat} {pg : Arguments} {bg : List Stmt} {sg : Scope} {dV kV doc pm cdv ct oc : Value} {an od : Option Addr} {osl : Array (Option Value)} {Ng : List Str}
    {params : Arguments} {body : Expr} {scope : Scope} {t : XK → TE} {p lpos pos : Pos} (glX : Gl X x) (mgX : X.mg x = some (.ref g)) (keepX : PySem.W.keepIn X.K (.ref g) = true)
    (objG : X.K.lookup g = some ⟨oc, od, .func (PySem.W.fnOf x x pg bg sg dV kV doc pm an cdv ct), osl⟩) (codeG : PySem.W.codeIn X.K cdv x = true) (bindsG : L2.Binds X.K (PySem.W.fnOf x x pg bg sg dV kV doc pm an cdv ct) [a] []) (Sg : FnScope Ng [a] sg) (atNg : Ng[0]? = some a) (visNg : Vis sg a)
    (gives : GivesTo X Ng x sg g cdv bg a (X.env.qual ++ "<lambda>") TT)
    (TB : TabB X.base X.mg c P) (codeX : X.env.code = .ref c) (inT : (P, X.env.qual ++ "<lambda>") ∈ T) (oneT : ∀ p ∈ T, p.1 = P → p.2 = X.env.qual ++ "<lambda>") (hr : Room (k + 2) X.A) (L : LamS X.env.scope scope) (noDef : defaultsOf params X.env = ([], []))
    (bindN : ∀ (q : Str) (cl : List (Str × Addr)) (pm cv ctv : Value), bindArgs (PySem.W.kla_fn "<lambda>" q params body scope cl pm cv ctv) ⟨[], []⟩ = pure [])
    (gd : Gd X.A) (inBody : ∀ (A : Around) (outer : List Env) (s : Shared) (H : Hp) (E : XK) (f c' : Addr), Gd (A.deeper (lamEnv X scope s.heap.objs.size f c')) → Room k (A.deeper (lamEnv X scope s.heap.objs.size f c')) → PE (lamCx X A outer s H E scope f c') body (t E))
    (hdb : (x == ("__debug__" : Str)) = false := by decide) (dbgA : (a == ("__debug__" : Str)) = false := by decide) (cdA : (a == ("__classdict__" : Str)) = false := by decide) :
    PE X (.Call (.Name x p) [.Lambda params body scope lpos] [] pos) (tLam T TT t) := by
  refine ⟨fun pins s σ H Q I h => ?_⟩
  obtain ⟨tabs, h⟩ := h
  refine wpAny_Call_Name_kw (ld_glob I glX mgX ?_ hdb)
  refine PySem.W.callWith_K (h₀ := X.base) I.ok.mod.kin keepX ?_ (by rfl) (by rfl)
  show wpAny _ _ (spliced ((false, eval (.Lambda params body scope lpos) X.env) :: backTo pos (starEach [] X.env))) _ _ s
  refine Calls.spliced_cons (lam_make2 I TB codeX inT oneT tabs noDef (L.has I.ok) fun f c' pm' ctv H1 s' Iy ext tabs1 objF noF outF codeAt => ?_)
  refine Calls.spliced_nil ⟨Iy.kIn, ?_⟩
  have runs : codeAny (model X.prog X.w) X.A (.call (.ref g) ⟨[.ref f], []⟩) (CR C8.CX0 X.stack X.prog X.w H1 s' Q C8.E0) s' := by
    refine run_ofS (N := Ng) (ps := [a]) (us := [.ref f]) (vs := [.ref f]) objG codeG Sg hr Iy.env0 (bindsG s' [.ref f] Iy.kIn rfl) (.cons rfl .nil) rfl fun hr' => ?_
    obtain ⟨t', ht', hq'⟩ := gives f c' s' H1 Q (fun E H' Q' => t E σ H' Q') (fun W pn xe E p1 p2 tak toW => lam_act (i := 0) Iy L objF noF outF (bindN _ _ _ _ _) tak toW hr' gd (fun A outer s H gd2 hr2 => inBody A outer s H E f c' gd2 hr2) atNg visNg dbgA cdA) codeAt (h H1 ext tabs1)
    exact ⟨t', ht'.nox, hq'⟩
  refine wpAny_call (codeAny_mono runs fun r s2 res => ?_)
  cases r with
  | error e => exact (show False from res).elim
  | ok fl =>
    cases fl with
    | ret u => exact Iy.after res
    | next => exact False.elim res
    | brk => exact False.elim res
    | cont => exact False.elim res
end
end GL
/-! an own operator with a right operand of a built-in type -/
namespace GL
open PySem PySem.Spec PyProof.Rows L2
section
variable {prog : Program} {w : World} {A : Around} {E : Value → Shared → Prop} {s : Shared} {K : PySem.W.Frag} {x C L f : Addr} {h₀ : Heap} {m : Str → Option Value} {ox : Obj} {od : Option Obj} {b : Value}
/-- what the type T says to an operator -/
structure TyOp (T nm : String) (tf : Bool) : Prop where
  fills : fillsNumberSlot (.type T) nm = pure tf
  py : tf = true → ∃ p y, numberSlotInPython (.type T) nm = pure p ∧ typeLookup (.type T) (dunderR nm) = pure y
open PySem.W PySem.Calls Builtin in
end
section
variable {prog : Program} {w : World} {A : Around} {E : Value → Shared → Prop} {s : Shared} {K : PySem.W.Frag} {x C D L f : Addr} {h₀ : Heap} {m : Str → Option Value} {ox : Obj} {od : Option Obj} {b : Value}
/-- a class that has no word for an operator -/
structure BareC (K : PySem.W.Frag) (D : Addr) (nm : String) : Prop where
  cd : ∃ cd, PySem.W.clsIn K D = some cd ∧ cd.mro = [.ref D, .type "object"]
  own : PySem.W.findIn K (.ref D) (PySem.dunder nm) = some none
  refl : PySem.W.findIn K (.ref D) (dunderR nm) = some none
open PySem.W PySem.Calls Builtin in
open PySem.W PySem.Calls Builtin in
end
/-- what may stand right: a value of a kind, an instance of the family, an instance of a class without such operators -/
noncomputable def ROpd (K : PySem.W.Frag) (IsV : Addr → Prop) (CG : Addr) (H : Hp) (y : V) : Prop := (∃ kd, Of K H y kd) ∨ (∃ b D dy gs, y = .ref b ∧ IsV D ∧ H b = some (.ins D dy gs)) ∨ ∃ b dx fs, y = .ref b ∧ H b = some (.ins CG dx fs)
noncomputable def rBinO (K : PySem.W.Frag) (IsV : Addr → Prop) (CG : Addr) (sp : Sp) (E : XK) : R2 := fun x y H Q => ∃ a C dx fs, x = .ref a ∧ IsV C ∧ H a = some (.ins C dx fs) ∧ ROpd K IsV CG H y ∧ sp [.ref a, y] H Q E
section
variable {X : Cx} {CX : CXT} {k : Nat} {IsV : Addr → Prop} {sp : Sp} {E : XK} {m : Str} {CG : Addr}
end
end GL
/-! a text compared with an instance that has an own ==; values of any kind in a tuple of texts -/
namespace GL
open PySem PySem.Spec PyProof.Rows L2
section
variable {prog : Program} {w : World} {A : Around} {E : Value → Shared → Prop} {s : Shared} {K : PySem.W.Frag} {b C f : Addr} {ob : Obj} {od : Option Obj} {y : Str} {t : Tok}
open PySem.W PySem.Calls Builtin in
open PySem.W PySem.Calls Builtin in
end
end GL
namespace GL
open PySem PySem.Spec PyProof.Rows L2
section
variable {X : Cx} {CX : CXT} {k : Nat} {C : Addr} {sp : Sp} {E : XK}
/-- x in (y, ..): texts, x an instance whose own == tells them all apart from it -/
noncomputable def rInO (C : Addr) (sp : Sp) (E : XK) (ys : List Str) (K : PySem.W.Frag) : R2 := fun x t H Q => ∃ a dx fs p, x = .ref a ∧ t = .ref p ∧ H a = some (.ins C dx fs) ∧ SqT K H p (ys.map V.str) ∧ (∀ y ∈ ys, sp [.ref a, .str y] H (fun v H' => v = .bl false ∧ H' = H) E) ∧ Q (.bl false) H
open PySem.W PySem.Calls in
noncomputable def rNotInO (C : Addr) (sp : Sp) (E : XK) (ys : List Str) (K : PySem.W.Frag) : R2 := fun x t H Q => ∃ a dx fs p, x = .ref a ∧ t = .ref p ∧ H a = some (.ins C dx fs) ∧ SqT K H p (ys.map V.str) ∧ (∀ y ∈ ys, sp [.ref a, .str y] H (fun v H' => v = .bl false ∧ H' = H) E) ∧ Q (.bl true) H
end
end GL
/-! what stays while lambdas are handed to a def: all but the dice and the tables -/
namespace GL
open PySem PySem.Spec PyProof.Rows L2 LamX
/-- the heap without the dice at p and without tables -/
noncomputable def mask (p : Addr) (H : Hp) : Hp := fun b => if b = p then none else match H b with | some (.tbl _) => none | x => x
theorem mask_at {p b : Addr} {H : Hp} {o : HO} (e : H b = some o) (n : b ≠ p) (nt : ∀ ps, o ≠ .tbl ps) : mask p H b = some o := by
  unfold mask
  rw [if_neg n, e]
  cases o <;> first | rfl | exact absurd rfl (nt _)
theorem mask_of {p b : Addr} {H : Hp} {o : HO} (e : mask p H b = some o) : H b = some o ∧ b ≠ p ∧ ∀ ps, o ≠ .tbl ps := by
  unfold mask at e
  split at e
  · cases e
  · rename_i n
    split at e
    · cases e
    · rename_i nt
      refine ⟨e, n, fun ps z => ?_⟩
      subst z
      exact nt _ e
theorem mask_same {p : Addr} {H : Hp} : Same (mask p H) H := fun b o e => (mask_of e).1
/-- M, what stays; H, the heap now -/
structure St (T : List (Addr × Str)) (p : Addr) (M H : Hp) : Prop where
  same : Same M H
  mp : M p = none
  nt : ∀ b ps, M b ≠ some (.tbl ps)
  die : Die H p
  tabs : Tabs T H
section
variable {T : List (Addr × Str)} {p : Addr} {M H H' : Hp}
theorem die_lst (d : Die H p) : ∃ xs, H p = some (.lst xs) := let ⟨_, _, _, _, e⟩ := d; ⟨_, e⟩
theorem tabs_keep (t : Tabs T H) (k : ∀ b o, H b = some o → (∀ xs, o ≠ .lst xs) → H' b = some o) : Tabs T H' := fun q hq => by
  obtain ⟨ps, h1, h2, h3⟩ := t q hq
  refine ⟨ps, k _ _ h1 (fun _ z => by cases z), h2, fun pos cv hc => ?_⟩
  obtain ⟨c, e1, e2⟩ := h3 pos cv hc
  exact ⟨c, e1, k _ _ e2 (fun _ z => by cases z)⟩
end
section
variable {K : PySem.W.Frag} {C CV CM D : Addr} {U : Bool → Addr} {p : Addr} {H : Hp} {t : Bool} {u : Int × Int}
end
/-- what a part leaves: all but the dice and the tables -/
noncomputable def GotT (T : List (Addr × Str)) (p : Addr) (H H' : Hp) : Prop := Same (mask p H) H' ∧ Die H' p ∧ Tabs T H'
/-! ### a def that tells its code object -/
structure Dl (K : PySem.W.Frag) (mg : Str → Option Value) (x : Str) (st : Stmt) (c : Addr) : Prop where
  ex : ∃ (f : Addr) (oc kV doc pm ct : Value) (od an : Option Addr) (osl : Array (Option Value)), K.lookup f = some ⟨oc, od, .func (PySem.W.fnOf x x (defArgs st) (defBody st) (defScope st) .none kV doc pm an (.ref c) ct), osl⟩ ∧ PySem.W.codeIn K (.ref c) x = true ∧ PySem.W.keepIn K (.ref f) = true ∧ mg x = some (.ref f)
section
variable {P : Program} {w : World} {K : PySem.W.Frag} {mg : Str → Option Value} {base : Heap} {k : Nat} {ps N : List Str} {sp : Sp} {x : Str} {st : Stmt} {c : Addr}
theorem dl_mk {h : Heap} {f : Addr} {oc : Value} {od an : Option Addr} {osl : Array (Option Value)} {kV doc pm ct : Value} (X : K.In h) (G : h.Ns mainGlobals mg)
    (a : PySem.W.nsIn K mainGlobals x = some (some (.ref f))) (l : K.lookup f = some ⟨oc, od, .func (PySem.W.fnOf x x (defArgs st) (defBody st) (defScope st) .none kV doc pm an (.ref c) ct), osl⟩)
    (cd : PySem.W.codeIn K (.ref c) x = true) (kp : PySem.W.keepIn K (.ref f) = true) : Dl K mg x st c := ⟨f, oc, kV, doc, pm, ct, od, an, osl, l, cd, kp, PySem.W.mg_of X G a⟩
theorem Dl.hasL (D : Dl K mg x st c) (S : FnScope N ps (defScope st)) (len : ∀ vs H Q E, sp vs H Q E → vs.length = ps.length)
    (bi : ∀ (kV doc pm : Value) (an : Option Addr) (cdv ct : Value) (us : List Value), us.length = ps.length → bindArgs (PySem.W.fnOf x x (defArgs st) (defBody st) (defScope st) .none kV doc pm an cdv ct) ⟨us, []⟩ = pure (ps.zip us))
    (body : ∀ (f : Addr) (A : Around) (outer : List Env) (s : Shared) (H : Hp) (vs : List V) (Q : VK) (E : XK), Gd (A.deeper (envOfC x (defScope st) s.heap.objs.size f (.ref c))) → Room k (A.deeper (envOfC x (defScope st) s.heap.objs.size f (.ref c))) → sp vs H Q E →
      ∃ t, PSs (cxOf CX0 P w K mg base N x (defScope st) f (.ref c) A outer s H E).nox (defBody st) t ∧ t { nx := fun _ H' => Q .non H', rt := Q } (start N vs) H) : Has P w K mg base CX0 x (k + 1) ps sp := by
  obtain ⟨f, oc, kV, doc, pm, ct, od, an, osl, at_, cR, kp, m⟩ := D.ex
  have F : Fun K x x st f (PySem.W.fnOf x x (defArgs st) (defBody st) (defScope st) .none kV doc pm an (.ref c) ct) := fun_mk at_ cR kp
  refine ⟨f, _, ?_, m, kp, .all (bi kV doc pm an (.ref c) ct)⟩
  constructor
  · exact len
  intro A outer s H args us vs Q E g room e0 bi vals asked
  have inK : K.In s.heap := e0.mod.kin.keeps (fun b o q => (e0.bs b o q).1)
  have line : s.heap.NoLimit := e0.mod.nolimit.keeps (fun b o q => (e0.bs b o q).1)
  have kinds : ∀ y ∈ ps.zip us, (defScope st).names.lookup y.1 = some .local ∨ ((defScope st).names.lookup y.1 = some .cell ∧ ((cellsFrom (s.heap.objs.size + 1) (defScope st).names []).lookup y.1).isSome = true) := by
    intro ⟨n, v⟩ hy
    cases S.par n (List.of_mem_zip hy).1 with
    | inl q => exact Or.inl q
    | inr q => exact Or.inr ⟨q, PySem.W.cellsFrom_some _ _ _ (Or.inl q)⟩
  apply codeAny_call_function room.depth (inK _ _ at_) rfl S.co S.gen rfl (PySem.W.codeRec_of inK cR)
  apply bi
  refine wpAny_newFunctionEnv_cells S.kind kinds (fun env eE s1 x1 => ?_)
  subst eE
  obtain ⟨t, rule0, q⟩ := body f A outer s H vs Q E g (room.deeper _) asked
  have rule := rule0.nox
  have I0 := inv_start (CX := CX0) (E := E) S room.hd e0 (len _ _ _ _ asked) vals x1
  refine ⟨line.keeps x1.toInCall.keep, codeAny_func (wpAny_mono (rule.run [] s1 _ H _ I0 q) (fun fl s' done => ?_) (fun _ _ z => z))⟩
  cases fl with
  | ret u => obtain ⟨v, _, H', J, rv, qv⟩ := done; exact ⟨v, H', J.os, J.bare, J.base, J.hok, rv, qv⟩
  | next => obtain ⟨_, H', J, qv⟩ := done; exact ⟨V.non, H', J.os, J.bare, J.base, J.hok, rfl, qv⟩
  | brk => obtain ⟨_, _, _, z⟩ := done; exact z.elim
  | cont => obtain ⟨_, _, _, z⟩ := done; exact z.elim
end
end GL
/-! a class that is called and may raise; not in a tuple of texts, for values of any kind -/
namespace GL
open PySem PySem.Spec PyProof.Rows L2
structure HasGX (P : Program) (w : World) (K : PySem.W.Frag) (mg : Str → Option Value) (base : Heap) (CX : CXT) (x : Str) (C : Addr) (k : Nat) (ps : List Str) (sp : Sp) : Prop where
  ex : ∃ f fd, FnG P w K mg base CX k f fd ps sp ∧ mg x = some (.ref C) ∧ Mk K C f ∧ Binds K fd ps []
section
variable {X : Cx} {CX : CXT} {k : Nat} {f C : Addr} {fd : FuncData} {ps : List Str} {sp : Sp} {E : XK} {x : Str} {p pos : Pos} {e : Expr} {es : List Expr} {t : TA}
end
theorem Dc.hasGX {P : Program} {w : World} {K : PySem.W.Frag} {mg : Str → Option Value} {base : Heap} {C : Addr} {x qual : Str} {st : Stmt} {N ps : List Str} {k : Nat} {sp : Sp} (D : Dc K C qual st) (m : mg x = some (.ref C)) (S : FnScope N ps (defScope st)) (len : ∀ vs H Q E, sp vs H Q E → vs.length = ps.length)
    (bi : ∀ (kV doc pm : Value) (an : Option Addr) (cdv ct : Value) (us : List Value), us.length = ps.length → bindArgs (PySem.W.fnOf "__init__" qual (defArgs st) (defBody st) (defScope st) .none kV doc pm an cdv ct) ⟨us, []⟩ = pure (ps.zip us))
    (body : ∀ (f : Addr) (cdv : Value) (A : Around) (outer : List Env) (s : Shared) (H : Hp) (vs : List V) (Q : VK) (E : XK), Gd (A.deeper (envOfC qual (defScope st) s.heap.objs.size f cdv)) → Room k (A.deeper (envOfC qual (defScope st) s.heap.objs.size f cdv)) → sp vs H Q E →
      ∃ t, PSs (cxOf (L2.CX P w) P w K mg base N qual (defScope st) f cdv A outer s H E) (defBody st) t ∧ t { nx := fun _ H' => Q .non H', rt := Q } (start N vs) H) : HasGX P w K mg base (L2.CX P w) x C (k + 1) ps sp := by
  obtain ⟨f, fd, F, M⟩ := D.ex
  exact ⟨f, fd, fnG_mk F S len (body f), m, M, F.binds bi⟩
/-! ### not in a tuple of texts -/
noncomputable def Dr (K : PySem.W.Frag) (H : Hp) (x : V) (d : PyData) : Prop := Dp K H x d ∨ Dq K H x d
noncomputable def rNotInQ (K : PySem.W.Frag) : R2 := fun x t H Q => ∃ d p, ∃ ys : List Str, Dr K H x d ∧ t = .ref p ∧ SqT K H p (ys.map V.str) ∧ d.canLay0 = true ∧ PyData.canLayAll0 (ys.map PyData.str) = true ∧ Q (.bl (!(ys.map PyData.str).any fun z => PyData.eqv z d)) H
theorem dp_strs {K : PySem.W.Frag} {H : Hp} : ∀ {ys : List Str}, DpAll K H (ys.map V.str) (ys.map PyData.str)
  | [] => .nil
  | y :: _ => .cons (.str y) dp_strs
section
variable {X : Cx} {CX : CXT} {k : Nat} {C : Addr} {sp : Sp} {E : XK}
end
end GL
/-! an empty dict beside texts and tuples -/
namespace GL
open PySem PySem.Spec PyProof.Rows L2 PySem.SeqAt
section
variable {prog : Program} {w : World} {A : Around} {E : Value → Shared → Prop} {s : Shared} {a b : Addr} {o : Obj}
open PySem.W PySem.Calls Builtin in
open PySem.W PySem.Calls Builtin in
end
section
variable {X : Cx} {pins : List (Addr × Obj)} {σ : L2.St} {H : Hp} {s : Shared}
noncomputable def rEqEmp (K : PySem.W.Frag) : R2 := fun x y H Q => ∃ a p xs, x = .ref a ∧ y = .ref p ∧ H a = some (.dK []) ∧ SqT K H p xs ∧ Q (.bl false) H
noncomputable def rNotInEmp (K : PySem.W.Frag) : R2 := fun x y H Q => ∃ a p, ∃ ys : List Str, x = .ref a ∧ y = .ref p ∧ H a = some (.dK []) ∧ SqT K H p (ys.map V.str) ∧ Q (.bl true) H
end
end GL
/-! dicts compared with dicts and with other data -/
namespace GL
open PySem PySem.Spec PyProof.Rows L2 PySem.SeqAt
/-- None or a text -/
noncomputable def thin : V → Bool
  | .non => true
  | .str _ => true
  | _ => false
noncomputable def hitsB (ls ks : List (Key × V)) : Bool := ks.all fun p => match valV ls p.1 with
  | some z => decide (p.2 = z)
  | none => false
section
variable {prog : Program} {w : World} {A : Around} {E : Value → Shared → Prop} {s : Shared} {a b : Addr} {o : Obj}
open PySem.W PySem.Calls Builtin in
end
section
variable {X : Cx} {pins : List (Addr × Obj)} {σ : L2.St} {H : Hp} {s : Shared}
/-- a value beside a dict: a dict of texts or None, or data -/
noncomputable def DV (K : PySem.W.Frag) (H : Hp) (x : V) (ls : List (Key × V)) (r : Bool) : Prop := (∃ a ks, x = .ref a ∧ H a = some (.dK ks) ∧ (∀ p ∈ ks, thin p.2 = true) ∧ (∀ p ∈ ks, ∀ z, valV ls p.1 = some z → thin z = true) ∧ r = (decide (ks.length = ls.length) && hitsB ls ks)) ∨ ∃ d, Dp K H x d ∧ (∀ t, d ≠ .bool t) ∧ r = false
noncomputable def rEqDct (K : PySem.W.Frag) : R2 := fun x y H Q => ∃ b ls r, y = .ref b ∧ H b = some (.dK ls) ∧ DV K H x ls r ∧ Q (.bl r) H
end
end GL
/-! sets of texts: a comprehension, set(list), sorted -/
namespace GL
open PySem PySem.Spec PyProof.Rows L2
noncomputable def keyT (e : Int × Value) : Str := match e.2 with
  | .str k _ => k
  | _ => Str.empty
noncomputable def GoodT (w : World) (e : Int × Value) : Prop := ∃ k tk, e.2 = Value.str k tk ∧ e.1 = hashStr w k
/-- the set of texts at a: ks are its members -/
noncomputable def SetT (w : World) (h : Heap) (a : Addr) (ks : List Str) : Prop :=
  ∃ o es ep tab, h.get? a = some o ∧ o.ExactSet ∧ o.data = .set es ep tab ∧ (∀ e ∈ es.toList, GoodT w e) ∧ ks.Nodup ∧ (es.toList.map keyT).Perm ks ∧ es.size < scanBound ∧ tab.fits es.size = true ∧ Ris tab.place.toList ∧ (w.params.followText "set-order" = true ∨ tab.led = true)
noncomputable def addS (ks : List Str) (k : Str) : List Str := if k ∈ ks then ks else k :: ks
section
variable {P : Program} {w : World} {h h' : Heap} {a : Addr} {ks : List Str}
theorem SetT.keep (R : SetT w h a ks) (k : ∀ o, h.get? a = some o → h'.get? a = some o) : SetT w h' a ks := let ⟨o, es, ep, tab, ho, r⟩ := R; ⟨o, es, ep, tab, k o ho, r⟩
theorem SetT.has (R : SetT w h a ks) : ∃ o, h.get? a = some o := let ⟨o, _, _, _, ho, _⟩ := R; ⟨o, ho⟩
theorem good_is {e : Int × Value} (g : GoodT w e) (k : Str) : (PySem.strKind P w).is k e.2 = true ↔ keyT e = k := by
  obtain ⟨k0, tk, h1, _⟩ := g
  unfold keyT
  rw [h1]
  show (Value.isStrOf k (.str k0 tk) = true) ↔ k0 = k
  simp [Value.isStrOf]
theorem good_elems {l : List (Int × Value)} (g : ∀ e ∈ l, GoodT w e) : ElemsOf (PySem.strKind P w) l := by
  intro e he
  obtain ⟨k, tk, h1, h2⟩ := g e he
  have z := (good_is (P := P) (g e he) k).mpr (by unfold keyT; rw [h1])
  exact ⟨⟨k, z, h2⟩, by rw [h1]; rfl⟩
theorem good_mem {l : List (Int × Value)} (g : ∀ e ∈ l, GoodT w e) (k : Str) : k ∈ l.map keyT ↔ ∃ e ∈ l, (PySem.strKind P w).is k e.2 = true := by
  simp only [List.mem_map]
  exact ⟨fun ⟨e, he, q⟩ => ⟨e, he, (good_is (g e he) k).mpr q⟩, fun ⟨e, he, q⟩ => ⟨e, he, (good_is (g e he) k).mp q⟩⟩
theorem SetT.setOf (R : SetT w h a ks) : h.SetOf (PySem.strKind P w) a (fun k => decide (k ∈ ks)) ks.length := by
  obtain ⟨o, es, ep, tab, ho, hx, hd, g, nd, pm, hb, hf, _⟩ := R
  refine ⟨o, es, ep, tab, ho, hx, hd, good_elems g, fun k => ?_, hb, hf, ?_⟩
  · rw [decide_eq_true_eq, ← pm.mem_iff]
    exact good_mem g k
  · rw [← pm.length_eq, List.length_map, Array.length_toList]
end
section
variable {P : Program} {w : World} {A : Around} {E : Value → Shared → Prop} {s : Shared} {a : Addr} {ks : List Str}
theorem scan_told {Q : Unit → Shared → Prop} (b : Bool) (q : Q () s) : wpAny (model P w) A (match b with | true => rule "set.scan.the-table-gave-way" | false => pure ()) Q E s := by
  cases b
  · exact wpAny_pure q
  · exact wpAny_rule q
/-- the table is stored, and laid anew where it has become too full -/
theorem setT_store {told : Bool → Sem Unit} (tells : ∀ (b : Bool) (s1 : Shared) (Q1 : Unit → Shared → Prop), Q1 () s1 → wpAny (model P w) A (told b) Q1 E s1)
    {o : Obj} {es new : Array (Int × Value)} {ep : Nat} {tab tab2 : SetTable} (at_ : s.heap.get? a = some o) (exact_ : o.ExactSet) (data_ : o.data = .set es ep tab)
    (good : ∀ e ∈ new.toList, GoodT w e) (nd : ks.Nodup) (perm : (new.toList.map keyT).Perm ks) (few : new.size < scanBound) (fits : tab2.fits new.size = true) (ris : Ris tab2.place.toList) (led : w.params.followText "set-order" = true ∨ tab2.led = true)
    {was : Bool} {R : Option Bool → Shared → Prop} (next : ∀ h', Heap.SameBut a s.heap h' → SetT w h' a ks → R (some true) { s with heap := h' }) :
    wpAny (model P w) A (do
        storeSet a new tab2
        if (!was && tab2.tooFull) = true then do
            told (relayAll tab2 new (SetTable.grown new.size)).2.2
            storeSet a (relayAll tab2 new (SetTable.grown new.size)).1 (relayAll tab2 new (SetTable.grown new.size)).2.1
            pure (some true)
          else pure (some true)) R E s := by
  have at1 := PpSet.storeB_at (es' := new) (t' := tab2) at_ data_
  have but1 := Heap.SameBut.update s.heap a (Obj.putSet new tab2)
  refine wpAny_bind (wpAny_storeSet_of at_ data_ ?_ (fits_of_scanBound few))
  by_cases full : (!was && tab2.tooFull) = true
  · rw [if_pos full]
    have e1 := relayAll_perm tab2 new (SetTable.grown new.size)
    have e2 := relayAll_fits tab2 new (SetTable.grown new.size)
    have e3 := relayAll_ris tab2 new (SetTable.grown new.size)
    have e4 := relayAll_led tab2 new (SetTable.grown new.size)
    revert e1 e2 e3 e4
    generalize relayAll tab2 new (SetTable.grown new.size) = Z
    obtain ⟨laid, tab3, gave⟩ := Z
    intro e1 e2 e3 e4
    replace e1 : laid.toList.Perm new.toList := e1
    have size : laid.size = new.size := by
      have z := e1.length_eq
      simpa using z
    have few2 : laid.size < scanBound := size ▸ few
    refine wpAny_bind (tells _ _ _ ?_)
    refine wpAny_bind (wpAny_storeSet_of at1 rfl ?_ (fits_of_scanBound few2))
    have at2 := PpSet.storeB_at (es' := laid) (t' := tab3) at1 rfl
    refine wpAny_pure (next _ (but1.trans (Heap.SameBut.update _ a _)) ⟨_, laid, _, tab3, at2, exact_, rfl, ?_, nd, (e1.map keyT).trans perm, few2, e2, e3, ?_⟩)
    · exact fun e he => good e (e1.mem_iff.mp he)
    · rcases led with z | z
      · exact .inl z
      · exact .inr (Eq.trans e4 z)
  · rw [if_neg full]
    exact wpAny_pure (next _ but1 ⟨_, new, _, tab2, at1, exact_, rfl, good, nd, perm, few, fits, ris, led⟩)
theorem setT_hashed {k : Str} {tk : Tok} {Q : Bool → Shared → Prop} (R : SetT w s.heap a ks) (room : ks.length + 1 < scanBound)
    (next : ∀ (b : Bool) h', Heap.SameBut a s.heap h' → SetT w h' a (addS ks k) → Q b { s with heap := h' }) : wpAny (model P w) A (setAddHashed a (.str k tk) (hashStr w k)) Q E s := by
  obtain ⟨o, es, ep, tab, ho, hex, hd, g, nd, pm, hb, hf, hr, hl⟩ := R
  have key : (PySem.strKind P w).is k (.str k tk) = true := strKind_is P w k tk
  have scan : (Value.str k tk).scannable = true := rfl
  have elems : ElemsOf (PySem.strKind P w) es.toList := good_elems g
  have size : es.size = ks.length := by rw [← pm.length_eq, List.length_map, Array.length_toList]
  unfold setAddHashed setAddHashedIn
  refine wpAny_holding ?_
  refine wpAny_bind (wpAny_setState_of ho hd hf ?_)
  dsimp only
  rw [byScan_of scan hb elems]
  simp only [↓reduceIte]
  unfold setAddByScan
  refine wpAny_bind (wpAny_bind (wpAny_rule ?_))
  refine wpAny_bind (wpAny_setScan_of key ho hd hf elems ?_)
  cases at_ : List.findIdx? (fun e => (PySem.strKind P w).is k e.2) es.toList with
  | some j =>
    dsimp only
    obtain ⟨hj, pj, _⟩ := List.findIdx?_eq_some_iff_getElem.mp at_
    have here : k ∈ ks := pm.mem_iff.mp ((good_mem (P := P) g k).mpr ⟨_, List.getElem_mem hj, pj⟩)
    refine wpAny_pure (wpAny_pure (next _ s.heap (Heap.SameBut.refl a s.heap) ?_))
    rw [show addS ks k = ks from if_pos here]
    exact ⟨o, es, ep, tab, ho, hex, hd, g, nd, pm, hb, hf, hr, hl⟩
  | none =>
    dsimp only
    have away : k ∉ ks := fun z => by
      obtain ⟨e, he, q⟩ := (good_mem (P := P) g k).mp (pm.mem_iff.mpr z)
      exact absurd (q.symm.trans (List.findIdx?_eq_none_iff.mp at_ e he)) (by decide)
    rw [show addS ks k = k :: ks from if_neg away] at next
    have e1 := layNew_perm tab es (hashStr w k) (.str k tk)
    have e2 := layNew_fits tab es (hashStr w k) (.str k tk)
    have e3 := layNew_ris tab es (hashStr w k) (.str k tk) hr
    have e4 := layNew_led tab es (hashStr w k) (.str k tk)
    change wpAny _ _ (match layNew tab es (hashStr w k) (.str k tk) with | _ => _) _ _ _
    revert e1 e2 e3 e4
    generalize layNew tab es (hashStr w k) (.str k tk) = Z
    obtain ⟨new, tab1, dummy, gave⟩ := Z
    intro e1 e2 e3 e4
    dsimp only at e1 e2 e3 e4 ⊢
    rw [Array.toList_push] at e1
    have cons : new.toList.Perm ((hashStr w k, Value.str k tk) :: es.toList) := e1.trans (List.perm_append_singleton _ _)
    have good1 : ∀ e ∈ new.toList, GoodT w e := fun e he => by
      rcases List.mem_cons.mp (cons.mem_iff.mp he) with z | z
      · exact z ▸ ⟨k, tk, rfl, rfl⟩
      · exact g e z
    have perm1 : (new.toList.map keyT).Perm (k :: ks) := (cons.map keyT).trans (List.Perm.cons _ pm)
    have nd1 : (k :: ks).Nodup := List.nodup_cons.mpr ⟨away, nd⟩
    have size1 : new.size = ks.length + 1 := by
      have z := cons.length_eq
      rw [Array.length_toList, List.length_cons, Array.length_toList, size] at z
      exact z
    have few1 : new.size < scanBound := size1 ▸ room
    have led1 : w.params.followText "set-order" = true ∨ tab1.led = true := hl.imp id (fun z => Eq.trans e4 z)
    refine wpAny_bind (scan_told gave ?_)
    by_cases pl : tab1.plain = true
    · rw [if_pos pl, hashByValue_scannable 8 scan]
      refine wpAny_bind (wpAny_pure ?_)
      refine setT_store ?_ ho hex hd good1 nd1 perm1 few1 ?_ ?_ ?_ (fun h' sb r => ?_)
      · intro b s1 Q1 q
        cases b
        · exact wpAny_pure q
        · exact wpAny_rule q
      · split
        · exact e2
        · exact SetTable.fits_plain_off e2
      · split <;> exact e3
      · split <;> exact led1
      · dsimp only
        exact wpAny_pure (next true h' sb r)
    · rw [if_neg pl]
      refine wpAny_bind (wpAny_pure ?_)
      simp only [↓reduceIte]
      refine setT_store ?_ ho hex hd good1 nd1 perm1 few1 e2 e3 led1 (fun h' sb r => ?_)
      · intro b s1 Q1 q
        cases b
        · exact wpAny_pure q
        · exact wpAny_rule q
      · dsimp only
        exact wpAny_pure (next true h' sb r)
/-- a.add(k) -/
theorem setT_add {k : Str} {tk : Tok} {Q : Value → Shared → Prop} (R : SetT w s.heap a ks) (room : ks.length + 1 < scanBound)
    (next : ∀ h', Heap.SameBut a s.heap h' → SetT w h' a (addS ks k) → Q .none { s with heap := h', toks := s.toks + 1 }) : wpAny (model P w) A (call (.builtin "set.add") [.ref a, .str k tk]) Q E s := by
  have S : s.heap.SetOf (PySem.strKind P w) a (fun k => decide (k ∈ ks)) ks.length := R.setOf
  refine wpAny_call_entry PySem.F.slot_set_add S.typeIs PySem.F.entry_set_add ?_ (PySem.F.args_set_add_2 _ _)
  unfold Builtin.«set.add» Builtin.Frozenset.oneOther Builtin.Frozenset.addrOf setAdd
  simp only [List.isEmpty_nil, bind_assoc]
  refine wpAny_bind (wpAny_pure ?_)
  try dsimp only
  refine wpAny_bind (wpAny_pure ?_)
  try dsimp only
  refine wpAny_bind (wpAny_holding ?_)
  refine wpAny_bind ((PySem.strKind P w).pyHash (k := k) (strKind_is P w k tk) ?_)
  exact setT_hashed (s := { s with toks := s.toks + 1 }) R room fun b h' sb r => wpAny_pure ⟨_, rfl, next h' sb r⟩
/-- a new one -/
theorem setT_new {h : Heap} (w : World) {a : Addr} (e : h.get? a = some { cls := .type "set", dict := none, data := .set #[] 0 (.fresh 0 0 (!w.params.followText "set-order")) }) : SetT w h a [] := by
  refine ⟨_, #[], 0, _, e, ⟨rfl, rfl, rfl⟩, rfl, ?_, List.nodup_nil, List.Perm.refl _, by decide, rfl, List.Pairwise.nil, ?_⟩
  · intro e he
    simp at he
  · cases f : w.params.followText "set-order"
    · exact .inr rfl
    · exact .inl rfl
/-- as a tracked thing -/
noncomputable def SetTO (w : World) (a : Addr) (ks : List Str) : HO := .ext fun h => SetT w h a ks
theorem setTO_new {P : Program} {w : World} {H : Hp} {h : Heap} {a : Addr} {ks : List Str} (R : SetT w h a ks) : ObjOk P w H h a (SetTO w a ks) := ⟨R, R.has, fun _ _ p k => SetT.keep p k⟩
end
section
variable {X : Cx} {pins : List (Addr × Obj)} {σ : L2.St} {H : Hp} {s : Shared} {D : Addr} {ks : List Str}
theorem setTO_get (I : Inv X pins σ H s) (e : H D = some (SetTO X.w D ks)) : SetT X.w s.heap D ks := (I.hok D _ e).1
theorem addT_ok {E : Value → Shared → Prop} {k : Str} {tk : Tok} {Q : Value → Shared → Prop} (I : Inv X pins σ H s) (hD : H D = some (SetTO X.w D ks)) (room : ks.length + 1 < scanBound)
    (next : ∀ s', Inv X pins σ (upd H D (SetTO X.w D (addS ks k))) s' → Q .none s') : wpAny (model X.prog X.w) X.A (call (.builtin "set.add") [.ref D, .str k tk]) Q E s := by
  refine setT_add (setTO_get I hD) room fun h' sb r => next _ ?_
  exact I.write (e := D) (t' := s.toks + 1) (by rw [hD]; trivial) (.inl rfl) (fun b u nb hu => (sb.2 b nb).trans hu) r.has (setTO_new r)
end
end GL
/-! a set comprehension whose members are texts -/
namespace GL
open PySem PySem.Spec PyProof.Rows L2
section
variable {X : Cx}
/-- one turn: the target is set, the tests are met, the member is put in -/
noncomputable def turnT (w : World) (g : TG) (tt : TT) (te : TE) (vs : List Nat) (σ : L2.St) (D : Addr) (Nx : Hp → Prop) : V → Hp → Prop := fun x H => g x (wipe σ vs) H fun σ2 H2 => wipe σ2 vs = wipe σ vs ∧ tt σ2 H2 fun b H3 =>
  if b = true then te σ2 H3 fun y H4 => ∃ (k : Str) (ks : List Str), y = .str k ∧ H4 D = some (SetTO w D ks) ∧ ks.length + 1 < scanBound ∧ Nx (upd H4 D (SetTO w D (addS ks k))) else Nx H3
noncomputable def tScT (w : World) (wi : TI) (g : TG) (tt : TT) (te : TE) (vs : List Nat) : TE := fun σ H Q => wi σ H fun J H1 => ∀ D, H1 D = none → ∃ W : Nat → Nat → Hp → Prop, (∃ m, W 0 m (upd H1 D (SetTO w D []))) ∧
  ∀ i m H, W i m H → (J.stop i H ∧ Q (.ref D) H) ∨ (J.go i H ∧ ∃ Nx : Hp → Prop, (∀ H', Nx H' → ∃ m', m' < m ∧ W (i + 1) m' H') ∧ ∀ x H', J.yld i H x H' → turnT w g tt te vs σ D Nx x H')
theorem pe_scT {elt tg iter : Expr} {ifs : List Expr} {scope : Scope} {own : List (PySem.Str × Nat)} {pos : Pos} {wi : TI} {g : TG} {tt : TT} {te : TE} (nodup : X.N.Nodup) (hi : PI X tg iter wi) (blk : BlkOk X.N X.env.scope scope own)
    (hg : ∀ (s : Shared) (H : Hp) (C : Addr) (cl : List (PySem.Str × Addr)) (fp : List Addr), PG (X.blk s H scope (compEnvC scope cl C X.env) fp) tg g)
    (ht : ∀ (s : Shared) (H : Hp) (C : Addr) (cl : List (PySem.Str × Addr)) (fp : List Addr), PTs (X.blk s H scope (compEnvC scope cl C X.env) fp) ifs tt)
    (he : ∀ (s : Shared) (H : Hp) (C : Addr) (cl : List (PySem.Str × Addr)) (fp : List Addr), PE (X.blk s H scope (compEnvC scope cl C X.env) fp) elt te)
    (calm : X.calm = true := by rfl) (plain : ∀ x, foldedSetIterable iter X.env x = pure x := by intro _; rfl) : PE X (.SetComp elt [⟨tg, iter, ifs, 0⟩] scope pos) (tScT X.w wi g tt te (own.map (·.2))) := by
  refine ⟨fun pins s σ H Q I asked => ?_⟩
  rw [PpSet.eval_SetComp]
  have captured : ∀ y ∈ scope.names, y.2 = .free → ∃ c, X.env.cells.lookup y.1 = some c := by
    intro y hy e
    have two := blk.free y hy e
    exact two.elim (fun k => I.ok.has _ (.inl k)) (fun k => I.ok.has _ (.inr k))
  refine wpAny_comprehension_free (use := none) rfl plain (closure_ok captured) blk.kind (fun y hy e => by rw [blk.uniq y hy, e]) (thn (hi.run pins s σ H _ I asked) fun xv s1 first => thn first fun itv s2 got => ?_)
  obtain ⟨it, fp, tn, J, H2, rfl, I2, turns, stands, apart, q⟩ := got
  refine PpSet.newSet_ok (newEnv_comp ?_)
  generalize whereD : s2.heap.objs.size = D
  have freeD : H2 D = none := I2.hok.fresh (Nat.le_of_eq whereD)
  obtain ⟨W, ⟨m0, w0⟩, each⟩ := q D freeD
  -- the new set
  generalize emptyO : (Obj.mk (.type "set") none (.set #[] 0 (.fresh 0 0 (!X.w.params.followText "set-order"))) #[] : Obj) = oS
  have atD : (s2.heap.push oS).get? D = some oS := by
    rw [← whereD, ← emptyO]
    exact Heap.get?_push_size _ rfl
  have Rnew : SetT X.w (s2.heap.push oS) D [] := setT_new X.w (by rw [atD, ← emptyO])
  have I3 : Inv X pins σ (upd H2 D (SetTO X.w D [])) { s2 with heap := s2.heap.push oS } := I2.laid (t' := s2.toks) (fun b o e => Heap.get?_push_of_some _ e) (Nat.le_of_eq whereD) (setTO_new Rnew)
  have below : ∀ b ∈ fp, b < s2.heap.objs.size := fun b hb => let ⟨o, e, _⟩ := turns.obj _ _ stands b hb; Heap.lt_size e
  have out3 : ∀ b ∈ fp, FpOk X pins (upd H2 D (SetTO X.w D [])) b ∧ b < (s2.heap.push oS).objs.size := by
    intro b hb
    have lt := below b hb
    have ne : b ≠ D := by rw [← whereD]; exact Nat.ne_of_lt lt
    refine ⟨⟨by rw [upd_ne ne]; exact (apart b hb).1, (apart b hb).2⟩, ?_⟩
    rw [Heap.size_push]
    exact Nat.lt_succ_of_lt lt
  have st3 : tn 0 (s2.heap.push oS) := turns.keep _ _ _ stands fun b _ o e => Heap.get?_push_of_some _ e
  generalize whole : ({ s2 with heap := s2.heap.push oS } : Shared) = s3 at I3
  have heap3 : s3.heap = s2.heap.push oS := by rw [← whole]
  rw [← heap3] at out3 st3
  have I4 := block_start I3 blk nodup out3
  generalize laid : upd H2 D (SetTO X.w D []) = H3 at *
  have pg := hg s3 H3 s3.heap.objs.size (cellsFrom (s3.heap.objs.size + 1) scope.names (cloFrom X.env.cells scope.names [])) fp
  have pt := ht s3 H3 s3.heap.objs.size (cellsFrom (s3.heap.objs.size + 1) scope.names (cloFrom X.env.cells scope.names [])) fp
  have pe := he s3 H3 s3.heap.objs.size (cellsFrom (s3.heap.objs.size + 1) scope.names (cloFrom X.env.cells scope.names [])) fp
  show codeAny _ _ (.compStart (.SetComp elt [⟨tg, iter, ifs, 0⟩] scope pos) 0 (.ref it) (.ref D) (compEnvC scope (cellsFrom (s3.heap.objs.size + 1) scope.names (cloFrom X.env.cells scope.names [])) s3.heap.objs.size X.env)) (compPost (model X.prog X.w) X.A X.xe none (EP X pins σ Q) (.ref D) s3.heap.objs.size)
    { s3 with heap := pushCells (s3.heap.push { cls := .type "dict", data := .dict #[] }) scope.names }
  have untracked : ∀ b ∈ fp, H3 b = none := fun b hb => (out3 b hb).1.1
  generalize inner : compEnvC scope (cellsFrom (s3.heap.objs.size + 1) scope.names (cloFrom X.env.cells scope.names [])) s3.heap.objs.size X.env = ce at I4 pg pt pe ⊢
  have frame : ce.locals = s3.heap.objs.size := by rw [← inner]; rfl
  generalize begun : ({ s3 with heap := pushCells (s3.heap.push { cls := .type "dict", data := .dict #[] }) scope.names } : Shared) = s4 at I4 ⊢
  have st4 : tn 0 s4.heap := turns.keep _ _ _ st3 fun b _ o e => by
    rw [← begun]
    exact pushCells_keeps _ _ _ _ (Heap.get?_push_of_some _ e)
  have apart' : ∀ {σ' : L2.St} {H' : Hp} {s' : Shared}, Inv (X.blk s3 H3 scope ce fp) [] σ' H' s' → (∀ b ∈ fp, H' b = none) → ∀ b ∈ fp, FpOk (X.blk s3 H3 scope ce fp) [] H' b := by
    intro σ' H' s' I' un b hb
    have ex := I'.ok.exf b hb
    exact ⟨un b hb, ex.1, I'.ok.exfs b hb, .inl hb, fun x c e => ex.2 x c e, fun p hp => by simp at hp⟩
  have loop : codeAny (model X.prog X.w) X.A (.compLoop (.SetComp elt [⟨tg, iter, ifs, 0⟩] scope pos) 0 (.ref it) (.ref D) ce) (compPost (model X.prog X.w) X.A X.xe none (EP X pins σ Q) (.ref D) s3.heap.objs.size) s4 := by
    refine PpSet.compLoopS_any (fun m s' => ∃ i H', Inv (X.blk s3 H3 scope ce fp) [] (wipe σ (own.map (·.2))) H' s' ∧ tn i s'.heap ∧ (∀ b ∈ fp, H' b = none) ∧ W i m H') ?_ m0 ⟨0, H3, I4, st4, untracked, w0⟩
    rintro m s5 ⟨i, H5, I5, st5, un5, w5⟩
    rcases each i m H5 w5 with ⟨stop, answer⟩ | ⟨go, Nx, less, step⟩
    · have over := turns.done (X.blk s3 H3 scope ce fp) rfl rfl rfl calm i [] s5 _ H5 (fun _ _ => False) I5 (apart' I5 un5) st5 stop
      refine thnF over fun r s6 ⟨hr, I6⟩ => ?_
      subst hr
      have I7 : Inv X pins σ H5 s6 := I3.call' (ch := fp) I6.os I6.base I6.hok I6.bare fun b hb => by
        obtain ⟨⟨_, z1, z2, z3, z4, z5⟩, _⟩ := out3 b hb
        exact ⟨z3, z1, z4, z5⟩
      have own5 : H5 s3.heap.objs.size = none := frame ▸ (show H5 ce.locals = none from I6.free)
      obtain ⟨mm, ns0, _⟩ := I6.loc
      have ns : s6.heap.Ns s3.heap.objs.size mm := frame ▸ (show s6.heap.Ns ce.locals mm from ns0)
      have away := I3.fpOk (Nat.le_refl _) own5
      refine ⟨mm, ns, fun h'' but => ?_⟩
      obtain ⟨f0, f1, f2, f3, f4, f5⟩ := away
      exact ⟨.ref D, H5, I7.turned (t' := s6.toks) (fun b o hb e => (but.2 b hb).trans e) f0 f1 f3 f4 f5, rfl, answer⟩
    · have next := turns.item (X.blk s3 H3 scope ce fp) rfl rfl rfl calm i [] s5 _ H5 (fun _ _ => False) I5 (apart' I5 un5) st5 go
      refine thnF next fun r s6 ⟨u, hr, h6⟩ => ?_
      subst hr
      refine thnF h6 fun _ s7 ⟨x, H7, I7, r7, y7, st7, un7⟩ => ?_
      have fixed := I7.pinned (apart' I7 un7) (turns.obj _ _ st7)
      refine thnF (pg.run _ s7 _ H7 x u _ fixed r7 (step x H7 y7)) fun _ s8 ⟨σ8, H8, I8, same8, q8⟩ => ?_
      refine thnF (pt.run _ s8 σ8 H8 _ I8 q8) fun b s9 ⟨H9, I9, q9⟩ => ?_
      have close : ∀ {s' : Shared} {H' : Hp}, Inv (X.blk s3 H3 scope ce fp) ([] ++ pinsAt fp s7.heap) σ8 H' s' → Nx H' → ∃ m', m' < m ∧ ∃ i H', Inv (X.blk s3 H3 scope ce fp) [] (wipe σ (own.map (·.2))) H' s' ∧ tn i s'.heap ∧ (∀ b ∈ fp, H' b = none) ∧ W i m' H' := by
        intro s' H' I' nx
        obtain ⟨m', lt, w'⟩ := less H' nx
        have pinned : ∀ b ∈ fp, ∀ o, s7.heap.get? b = some o → s'.heap.get? b = some o ∧ H' b = none := fun b hb o e => by
          have z := I'.pin (b, o) (List.mem_append_right _ (List.mem_append_right _ (mem_pinsAt hb e)))
          exact ⟨z.1, z.2.1⟩
        have length : (wipe σ (own.map (·.2))).length = σ8.length := by rw [← same8, wipe_length]
        refine ⟨m', lt, i + 1, H', (I'.unpinned (pins := [])).weak length (fun j v e => (wipe_some (by rw [← same8] at e; exact e)).1), turns.keep _ _ _ st7 fun b hb o e => (pinned b hb o e).1, fun b hb => ?_, w'⟩
        obtain ⟨o, e, _⟩ := turns.obj _ _ st7 b hb
        exact (pinned b hb o e).2
      cases b with
      | false => exact close I9 q9
      | true =>
        refine thnF (pe.run _ s9 σ8 H9 _ I9 q9) fun z s10 ⟨yv, H10, I10, r10, k, ks, ey, atD10, room, nx⟩ => ?_
        subst ey
        obtain ⟨tk, rfl⟩ : ∃ tk, z = Value.str k tk := r10
        exact addT_ok (X := X.blk s3 H3 scope ce fp) I10 atD10 room fun s11 I11 => close I11 nx
  exact PpSet.codeAny_compStart_set loop (turns.self X.A 0 _ _ _ st4 loop)
end
end GL
/-! sorted of a set of texts -/
namespace GL
open PySem PySem.Spec PyProof.Rows L2
theorem strs_of : ∀ (l : List Value), (∀ v ∈ l, ∃ k tk, v = Value.str k tk) → StrsAre l (l.map fun v => keyT (0, v))
  | [], _ => .nil
  | v :: l, h => by
    obtain ⟨k, tk, rfl⟩ := h v (List.mem_cons_self ..)
    exact .cons k tk (strs_of l fun u hu => h u (List.mem_cons_of_mem _ hu))
section
variable {P : Program} {w : World} {A : Around} {E : Value → Shared → Prop} {s : Shared} {a : Addr} {ks : List Str}
theorem setT_sorted {Q : Value → Shared → Prop} (R : SetT w s.heap a ks) (hh : A.handled = none) (few : ks.length < 64)
    (next : ∀ s' p (out : Array Value) (c : Nat) (ys : List Str), (∀ b o, s.heap.get? b = some o → s'.heap.get? b = some o) → s'.gens = s.gens → s'.os = s.os → s.heap.objs.size ≤ p → s'.heap.get? p = some (seqObj "list" out c) → StrsAre out.toList ys → ys.Perm ks → sortedS ys = true → Q (.ref p) s') :
    wpAny (model P w) A (call (.builtin "sorted") [.ref a]) Q E s := by
  obtain ⟨o, es, ep, tab, ho, hex, hd, g, nd, pm, hb, hf, hr, hl⟩ := R
  refine Calls.call_function_entry kind_sorted plain_sorted entry_sorted (args_sorted1 _) ?_
  unfold Builtin.«sorted»
  refine wpAny_bind (m := checkCount "sorted" 1 1 _) (wpAny_pure ?_)
  refine wpAny_bind (collect_set (A := A.in1) hh ⟨o, ho, hex.1, hd⟩ hf hb hr hl fun s1 vs keeps grows gens os perm => ?_)
  have texts : ∀ v ∈ vs, ∃ k tk, v = Value.str k tk := fun v hv => by
    obtain ⟨e, he, q⟩ := List.mem_map.mp (perm.mem_iff.mp hv)
    obtain ⟨k, tk, h1, _⟩ := g e he
    exact ⟨k, tk, q ▸ h1⟩
  have are := strs_of vs texts
  have keys : (vs.map fun v => keyT (0, v)).Perm ks := by
    have z := perm.map fun v => keyT (0, v)
    rw [List.map_map] at z
    exact z.trans pm
  have count : vs.length = ks.length := by rw [← keys.length_eq, List.length_map]
  refine wpAny_bind (wpAny_newList ?_ (by rw [count, sizeLine_eq]; omega))
  have atL : (s1.heap.push (seqObj "list" vs.toArray 0)).get? s1.heap.objs.size = some (seqObj "list" vs.toArray 0) := Heap.get?_push_size _ rfl
  refine wpAny_bind (wpAny_holding (wpAny_call_entry slot_list_sort ⟨_, atL, rfl⟩ entry_list_sort
    (list_sort_treeK strKind_oneLt atL are.keysOf (fun v₁ v₂ rest e => keyKind_strs (by rw [← e]; exact are)) (by rw [count]; exact few) fun st' hp hs => ⟨_, rfl, ?_⟩) (args_list_sort _)))
  obtain ⟨ys, a1, a2, a3⟩ := sorted_out_str are hp hs
  obtain ⟨c, hc⟩ := sortedHeap_at (vs := vs) (out := (arrOf st').map (·.2)) atL
  refine wpAny_pure ⟨_, rfl, next _ s1.heap.objs.size _ c ys (fun b u e => ?_) gens os grows hc a1 (a2.trans keys) a3⟩
  have q := keeps b u e
  have lt := Heap.lt_size q
  show (sortedHeap (s1.heap.push (seqObj "list" vs.toArray 0)) s1.heap.objs.size vs _).get? b = some u
  rw [sortedHeap_old (Nat.ne_of_lt lt) (by rw [size_push']; exact Nat.lt_succ_of_lt lt)]
  exact Heap.get?_push_of_some _ q
end
section
variable {X : Cx}
/-- sorted(a set of texts) -/
noncomputable def rSortedT (w : World) : List V → Hp → VK → Prop := fun vs H Q => ∃ (a : Addr) (ks : List Str), vs = [V.ref a] ∧ H a = some (SetTO w a ks) ∧ ks.length < 64 ∧ ∀ (ys : List Str) (p : Addr), ys.Perm ks → sortedS ys = true → H p = none → Q (.ref p) (upd H p (.lst (ys.map V.str)))
theorem call_sortedT (calm : X.calm = true := by rfl) : CallR X (.builtin "sorted") (rSortedT X.w) := by
  intro pins s σ H vs us Q I r h
  obtain ⟨a, ks, rfl, ha, few, q⟩ := h
  rw [Vals.ref1 r]
  refine setT_sorted (setTO_get I ha) (I.ok.hd calm) few fun s' p out c ys keeps gens os place at_ are perm srt => ?_
  have len : (ys.map V.str).length ≤ sizeLine := by
    rw [List.length_map, perm.length_eq, sizeLine_eq]
    omega
  have free : H p = none := I.hok.fresh place
  have J : Inv X pins σ (upd H p (.lst (ys.map V.str))) { s with heap := s'.heap, gens := s'.gens, drawn := s'.drawn, toks := s'.toks } :=
    I.call (ch := []) (Un.laid keeps place free) (I.hok.laid keeps place ⟨len, out.toList, c, vals_of_strs are, at_⟩) (by rw [gens]; exact I.bare) (fun _ z => nomatch z)
  have same : s' = { s with heap := s'.heap, gens := s'.gens, drawn := s'.drawn, toks := s'.toks } := by
    obtain ⟨h', g', d', t', o'⟩ := s'
    cases os
    rfl
  rw [same]
  exact ⟨.ref p, _, J, rfl, q ys p perm srt free⟩
end
end GL
/-! set(a list of texts) -/
namespace GL
open PySem PySem.Spec PyProof.Rows L2
noncomputable def setS (xs : List Str) : List Str := xs.foldl addS []
theorem addS_mem {ks : List Str} {k j : Str} : j ∈ addS ks k ↔ j ∈ ks ∨ j = k := by
  unfold addS
  split
  · rename_i h
    exact ⟨.inl, fun z => z.elim id (fun e => e ▸ h)⟩
  · rw [List.mem_cons]
    exact Or.comm
theorem addS_len {ks : List Str} {k : Str} : (addS ks k).length ≤ ks.length + 1 := by
  unfold addS
  split <;> simp
theorem setS_snoc {xs : List Str} {i : Nat} {x : Str} (h : xs[i]? = some x) : setS (xs.take (i + 1)) = addS (setS (xs.take i)) x := by
  unfold setS
  rw [List.take_succ, h]
  simp
theorem setS_len : ∀ (xs : List Str), (setS xs).length ≤ xs.length := by
  have g : ∀ (xs ks : List Str), (xs.foldl addS ks).length ≤ ks.length + xs.length := by
    intro xs
    induction xs with
    | nil => intro ks; simp
    | cons x r ih =>
      intro ks
      have a := ih (addS ks x)
      have b := addS_len (ks := ks) (k := x)
      simp only [List.foldl_cons, List.length_cons]
      omega
  intro xs
  have z := g xs []
  simpa [setS] using z
theorem setS_mem (xs : List Str) (j : Str) : j ∈ setS xs ↔ j ∈ xs := by
  have g : ∀ (xs ks : List Str), j ∈ xs.foldl addS ks ↔ j ∈ ks ∨ j ∈ xs := by
    intro xs
    induction xs with
    | nil => intro ks; simp
    | cons x r ih =>
      intro ks
      rw [List.foldl_cons, ih, addS_mem, List.mem_cons, or_assoc]
  have z := g xs []
  simpa [setS] using z
section
variable {P : Program} {w : World} {A : Around} {E : Value → Shared → Prop} {s : Shared}
theorem setT_loop {I S : Addr} {fp wr : List Addr} {G : Array GenState → Array GenState → Prop} {n : Nat} {Pv : Nat → Value → Prop} {St : Nat → Shared → Prop} {R : Result → Shared → Prop} (W : WalksS P w A.in1 I fp wr G n Pv St) (notS : S ∉ fp) {xs : List Str} (len : n = xs.length) (few : xs.length + 1 < scanBound)
    (vals : ∀ i v, Pv i v → ∃ k t, xs[i]? = some k ∧ v = .str k t) : ∀ (m i : Nat) (s : Shared), n - i = m → i ≤ n → St i s → SetT w s.heap S (setS (xs.take i)) →
      (∀ s', Moved (S :: wr) G s s' → SetT w s'.heap S (setS xs) → R (.ok (.ret .none)) s') → codeAny (model P w) A (.builtin "set.update.loop" ⟨[.ref S, .ref I], []⟩) R s := by
  have apart : S ∉ wr := fun z => notS (W.sub _ z)
  have wider : ∀ b ∈ wr, b ∈ S :: wr := fun b z => List.mem_cons_of_mem _ z
  intro m
  induction m with
  | zero =>
    intro i s hm le st here next
    obtain rfl : i = n := by omega
    refine codeAny_builtin PyProof.Rows.F.entry_set_update_loop ?_
    rw [Around.under_plainId PyProof.Rows.F.plain_set_update_loop _]
    show wpAny _ A.in1 (pyNext (.ref I) >>= fun _ => _) _ _ s
    refine wpAny_bind (W.done s _ _ st fun s' moved => ?_)
    rw [List.take_of_length_le (by omega)] at here
    show wpAny _ A.in1 (ret .none) _ _ s'
    exact wpAny_pure (next s' (moved.mono wider) (here.keep fun o e => moved.heap S o apart e))
  | succ m ih =>
    intro i s hm le st here next
    have lt : i < n := by omega
    refine codeAny_builtin PyProof.Rows.F.entry_set_update_loop ?_
    rw [Around.under_plainId PyProof.Rows.F.plain_set_update_loop _]
    show wpAny _ A.in1 (pyNext (.ref I) >>= fun _ => _) _ _ s
    refine wpAny_bind (W.item i s _ _ lt st fun v s' pv st' moved => ?_)
    obtain ⟨k, tk, at_, rfl⟩ := vals i v pv
    have here' : SetT w s'.heap S (setS (xs.take i)) := here.keep fun o e => moved.heap S o apart e
    show wpAny _ A.in1 (holding [Value.str k tk] (setAdd S (.str k tk)) >>= fun _ => _) _ _ s'
    unfold setAdd
    refine wpAny_bind (wpAny_holding (wpAny_holding ?_))
    refine wpAny_bind ((PySem.strKind P w).pyHash (k := k) (strKind_is _ _ _ _) ?_)
    have room : (setS (xs.take i)).length + 1 < scanBound := by
      have z := setS_len (xs.take i)
      have y := List.length_take_le i xs
      have y2 : (xs.take i).length ≤ xs.length := by rw [List.length_take]; omega
      omega
    refine setT_hashed (s := { s' with toks := s'.toks + 1 }) here' room fun b h' but there => ?_
    rw [← setS_snoc at_] at there
    refine wpAny_pure ⟨plainId_quiet PyProof.Rows.F.plain_set_update_loop _, ih (i + 1) _ (by omega) lt (W.frame _ s' _ _ st' (Nat.le_succ _) fun b hb o e => ?_) there fun s2 moved2 there2 => ?_⟩
    · have ne : b ≠ S := fun z => notS (by rw [← z]; exact hb)
      exact (but.2 b ne).trans e
    · refine next s2 (Moved.trans W.gtrans ((moved.mono wider).then_heap (Nat.le_succ _) fun b o hb e => ?_) moved2) there2
      have ne : b ≠ S := fun z => hb (by rw [z]; exact List.mem_cons_self ..)
      exact (but.2 b ne).trans e
theorem setT_list {l : Addr} {items : Array Value} {xs : List Str} {Q : Value → Shared → Prop} (calm : A.handled = none) (isl : s.heap.IsList l items) (are : StrsAre items.toList xs) (few : xs.length + 1 < scanBound)
    (next : ∀ (h' : Heap) (tk : Nat), SetT w h' s.heap.objs.size (setS xs) → (∀ b o, s.heap.get? b = some o → h'.get? b = some o) → Q (.ref s.heap.objs.size) { s with heap := h', toks := tk }) : wpAny (model P w) A (call (.type "set") [.ref l]) Q E s := by
  have count : items.size = xs.length := by
    have z := StrsAre.len_eq are
    rw [Array.length_toList] at z
    omega
  generalize fresh : (Obj.mk (.type "set") none (.set #[] 0 (.fresh 0 0 (!w.params.followText "set-order"))) #[] : Obj) = oS
  have sizeS : (s.heap.push oS).objs.size = s.heap.objs.size + 1 := Heap.size_push ..
  obtain ⟨c, tl, mro⟩ := PySem.F.called_set.mro
  have a1 := PySem.F.called_set.made
  have a2 := PySem.F.called_set.sub
  refine wpAny_call (codeAny_of_tree ?_)
  show wpAny _ _ (callAny (.type "set") _) _ _ _
  refine wpAny_pure ⟨Code.quiet_builtin _ (by decide +kernel), codeAny_builtin PySem.F.entry_type_call ?_⟩
  rw [Around.under_plain (weight_type_call_type "set" [.ref l] []) rfl]
  have a3 := PySem.F.called_set.notType
  have a4 := PySem.F.called_set.canCreate
  have a5 := PySem.F.typeCall_set_1 (.ref l)
  repeat (any_goals (first | assumption | wp_step))
  refine codeAny_mono (code_set_led1 (.ref l) (E := E) (Q₁ := fun obj s1 => obj = .ref s.heap.objs.size ∧ s1 = { s with heap := s.heap.push oS }) ⟨rfl, by rw [← fresh]⟩) fun r s1 made => ?_
  cases r with
  | error e => exact made
  | ok fl =>
    cases fl with
    | ret obj =>
      obtain ⟨rfl, rfl⟩ := made
      have atS : (s.heap.push oS).get? s.heap.objs.size = some oS := Heap.get?_push_size _ (by rw [← fresh]; rfl)
      have typeS : Shared.TypeIs { s with heap := s.heap.push oS } (.ref s.heap.objs.size) "set" := ⟨_, atS, by rw [← fresh]⟩
      have b1 := PySem.F.called_set.init.lookup
      have b2 := PySem.F.called_set.init.bind (.ref s.heap.objs.size)
      repeat (any_goals (first | assumption | wp_step))
      refine codeAny_mono (codeAny_call_builtin (R := wants (fun r s2 => r = .none ∧ ∃ h' tk, s2 = { s with heap := h', toks := tk } ∧ SetT w h' s.heap.objs.size (setS xs) ∧ (∀ b o, s.heap.get? b = some o → h'.get? b = some o)) E) PySem.F.called_set.init.plain PySem.F.entry_set_init (check_set_init_1 typeS ?_)) fun r2 s2 done => ?_
      · obtain ⟨⟨ocls, odict, odata, oslots⟩, atl, hcl, nl, hdl⟩ := isl
        simp only at hcl hdl
        subst hcl hdl
        have atl' : (s.heap.push oS).get? l = some { cls := .type "list", dict := odict, data := .seq items nl, slots := oslots } := Heap.get?_push_of_some _ atl
        have c1 := PySem.F.sub_list_set
        have c2 := PySem.F.sub_list_frozenset
        have c3 : (Value.type "list" == Value.type "dict") = false := by decide
        have isl1 : (s.heap.push oS).IsList l items := ⟨_, atl', rfl, nl, rfl⟩
        have ltl : l < s.heap.objs.size := Heap.lt_size atl
        have calm3 : A.in1.in1.in1.handled = none := by simp [calm]
        have neI : l ≠ (s.heap.push oS).objs.size := by rw [sizeS]; exact Nat.ne_of_lt (Nat.lt_succ_of_lt ltl)
        have notS : s.heap.objs.size ∉ [(s.heap.push oS).objs.size, l] := by
          rw [sizeS]
          simp only [List.mem_cons, List.not_mem_nil, or_false, not_or]
          exact ⟨Nat.ne_of_lt (Nat.lt_succ_self _), Nat.ne_of_gt ltl⟩
        subst fresh
        unfold Builtin.«set.__init__» noKeywords Builtin.Frozenset.updateFrom
        generalize keepIter : pyIter = PI
        wp_walk
        subst keepIter
        refine wpAny_pyIter_list isl1 ?_
        refine wpAny_bind (wpAny_runValue ?_)
        have vals : ∀ (i : Nat) (v : Value), items[i]? = some v → ∃ k t, xs[i]? = some k ∧ v = .str k t := fun i v hv => by
          have lt : i < xs.length := by rw [← count]; exact (Array.getElem?_eq_some_iff.mp hv).1
          obtain ⟨t, e⟩ := SS.strs_at are i v (by rw [Array.getElem?_toList]; exact hv)
          exact ⟨xs[i], t, List.getElem?_eq_getElem lt, by rw [e, List.getD_eq_getElem?_getD, List.getElem?_eq_getElem lt]; rfl⟩
        refine setT_loop ((Walks.list calm3 _ l neI items).toS) notS count few vals (items.size - 0) 0 _ (by omega) (Nat.zero_le _) ⟨⟨_, Heap.get?_push_size _ rfl, rfl, rfl⟩, (isl1.push _)⟩ ?_ ?_
        · exact setT_new w (Heap.get?_push_of_some _ atS)
        · intro s' moved there
          obtain ⟨h', g', d', tk', o'⟩ := s'
          obtain rfl : g' = s.gens := moved.gens
          obtain rfl : d' = s.drawn := moved.drawn
          obtain rfl : o' = s.os := moved.os
          show wpAny _ _ _ _ _ _
          refine wpAny_pure ?_
          show wpAny _ _ (ret .none) _ _ _
          refine wpAny_pure ⟨rfl, h', tk', rfl, there, fun b o e => ?_⟩
          have lt := Heap.lt_size e
          refine moved.heap b o ?_ (Heap.get?_push_of_some _ (Heap.get?_push_of_some _ e))
          rw [sizeS]
          simp only [List.mem_cons, List.not_mem_nil, or_false, not_or]
          exact ⟨Nat.ne_of_lt lt, Nat.ne_of_lt (Nat.lt_succ_of_lt lt)⟩
      · cases r2 with
        | error e => exact done
        | ok fl2 =>
          cases fl2 with
          | ret r =>
            obtain ⟨rfl, h', tk, rfl, there, keeps⟩ := done
            repeat (any_goals (first | assumption | wp_step))
            exact next _ _ there keeps
          | _ => exact done.elim
    | _ => exact made.elim
end
section
variable {X : Cx}
/-- set(a list of texts) -/
noncomputable def rSetT (K : PySem.W.Frag) (w : World) : List V → Hp → VK → Prop := fun vs H Q => ∃ (l : Addr) (xs : List Str), vs = [V.ref l] ∧ SqL K H l (xs.map V.str) ∧ xs.length + 1 < scanBound ∧ ∀ p, H p = none → Q (.ref p) (upd H p (SetTO w p (setS xs)))
theorem call_setT (calm : X.calm = true := by rfl) : CallR X (.type "set") (rSetT X.K X.w) := by
  intro pins s σ H vs us Q I r h
  obtain ⟨l, xs, rfl, hl, few, q⟩ := h
  obtain ⟨its, rv, isl, _⟩ := I.list hl
  rw [Vals.ref1 r]
  refine setT_list (I.ok.hd calm) isl.isList rv.strs few fun h' tk there keeps => ?_
  have free : H s.heap.objs.size = none := I.hok.fresh (Nat.le_refl _)
  exact ⟨.ref _, _, I.laid (t' := tk) keeps (Nat.le_refl _) (setTO_new there), rfl, q _ free⟩
end
end GL
/-! an own `in`; calls by keywords; a set comprehension over a tuple -/
namespace GL
open PySem PySem.Spec PyProof.Rows L2
section
variable {X : Cx} {CX : CXT} {k : Nat} {C : Addr} {sp : Sp} {E : XK}
noncomputable def rInA (C : Addr) (sp : Sp) (E : XK) : R2 := fun x y H Q => ∃ a dx fs, y = .ref a ∧ H a = some (.ins C dx fs) ∧ sp [.ref a, x] H (fun v H' => ∃ b, v = .bl b ∧ Q (.bl b) H') E
end
/-! ### keywords -/
structure HasK (P : Program) (w : World) (K : PySem.W.Frag) (mg : Str → Option Value) (base : Heap) (CX : CXT) (x : Str) (k : Nat) (ps : List Str) (n : Nat) (ks : List Str) (sp : Sp) : Prop where
  ex : ∃ f fd, FnG P w K mg base CX k f fd ps sp ∧ mg x = some (.ref f) ∧ PySem.W.keepIn K (.ref f) = true ∧ KBn K fd ps n ks (fun us ws => us ++ ws) (fun vs zs => vs ++ zs)
section
variable {X : Cx} {CX : CXT} {k n : Nat} {ps ks : List Str} {sp : Sp} {E : XK} {x : Str} {p pos : Pos} {e : Expr} {es : List Expr} {kws : List Keyword} {t tk : TA}
theorem pe_callKH (h : HasK X.prog X.w X.K X.mg X.base CX x k ps n ks sp) (g : Gd X.A) (hr : Room k X.A) (hx : Passes CX X E) (ha : PA X (e :: es) t) (hkw : PK X kws tk) (hg : Gl X x := by exact rfl)
    (hall : (backToKw pos (keywordEach kws X.env)).all (·.1.isSome) = true := by rfl) (hks : (backToKw pos (keywordEach kws X.env)).filterMap (·.1) = ks := by rfl) (hdb : (x == ("__debug__" : Str)) = false := by decide)
    (he : starEach (e :: es) X.env = (false, eval e X.env) :: starEach es X.env := by rfl) (hpl : ((backTo pos (starEach (e :: es) X.env)).any (·.1) || (backToKw pos (keywordEach kws X.env)).any (·.1.isNone)) = false := by rfl) :
    PE X (.Call (.Name x p) (e :: es) kws pos) (tCallN n ks.length sp (fun vs zs => vs ++ zs) E t tk) := by
  obtain ⟨f, fd, F, m, kp, b⟩ := h.ex
  refine ⟨fun pins s σ H Q I q => ?_⟩
  refine wpAny_Call_Name_kw (ld_glob I hg m ?_ hdb)
  refine PySem.W.callWith_KW (h₀ := X.base) I.ok.mod.kin kp hall (thn (ha.run pos pins s σ H _ I q) fun us s1 ⟨vs, H1, I1, r, q1⟩ => ?_) hpl he
  refine thn (hkw.run pos pins s1 σ H1 _ I1 q1) fun ws s2 ⟨zs, H2, I2, rz, l1, l2, q2⟩ => ⟨I2.kIn, ?_⟩
  rw [hks]
  have both := b.rel r rz
  have bound := b.to s2 us ws I2.kIn (r.length.symm.trans l1) (rz.length.symm.trans l2)
  refine wpAny_call (codeAny_mono (F.go g hr I2.env0 bound both q2) fun res s' z => ?_)
  match res, z with
  | .error _, z => exact hx pins σ H2 s2 _ s' I2 z
  | .ok (.ret _), z => exact I2.after z
end
/-- a def with a parameter that is passed by its name, without a default -/
theorem Df.hasK {P : Program} {w : World} {K : PySem.W.Frag} {mg : Str → Option Value} {base : Heap} {x : Str} {st : Stmt} {N ps : List Str} {k n : Nat} {ks : List Str} {sp : Sp} (D : Df K mg x st) (S : FnScope N ps (defScope st)) (len : ∀ vs H Q E, sp vs H Q E → vs.length = ps.length)
    (bi : ∀ (kV doc pm : Value) (an : Option Addr) (cdv ct : Value) (us ws : List Value), us.length = n → ws.length = ks.length → bindArgs (PySem.W.fnOf x x (defArgs st) (defBody st) (defScope st) .none kV doc pm an cdv ct) ⟨us, ks.zip ws⟩ = pure (ps.zip (us ++ ws)))
    (body : ∀ (f : Addr) (cdv : Value) (A : Around) (outer : List Env) (s : Shared) (H : Hp) (vs : List V) (Q : VK) (E : XK), Gd (A.deeper (envOfC x (defScope st) s.heap.objs.size f cdv)) → Room k (A.deeper (envOfC x (defScope st) s.heap.objs.size f cdv)) → sp vs H Q E →
      ∃ t, PSs (cxOf CX0 P w K mg base N x (defScope st) f cdv A outer s H E).nox (defBody st) t ∧ t { nx := fun _ H' => Q .non H', rt := Q } (start N vs) H) : HasK P w K mg base CX0 x (k + 1) ps n ks sp := by
  obtain ⟨f, fd, F, m⟩ := D.ex
  obtain ⟨oc, od, kV, doc, pm, an, cdv, ct, osl, eF, at_, cR⟩ := id F.ex
  exact ⟨f, fd, F.g S len (body f), m, F.kp, ⟨fun s us ws _ l1 l2 => by subst eF; exact .of_eq (bi kV doc pm an cdv ct us ws l1 l2), fun r1 r2 => r1.append r2⟩⟩
/-! ### a set comprehension over a tuple or a list -/
theorem scT_tup {w : World} {K : PySem.W.Frag} {a : Addr} {xs : List V} {g : TG} {tt : TT} {te : TE} {vs : List Nat} {σ : L2.St} {H1 : Hp} {D : Addr} {Qd : Hp → Prop} (Pv : Nat → Hp → Prop) (p0 : Pv 0 (upd H1 D (SetTO w D []))) (still : ∀ i H, i ≤ xs.length → Pv i H → SqT K H a xs)
    (each : ∀ i x H, xs[i]? = some x → Pv i H → turnT w g tt te vs σ D (Pv (i + 1)) x H) (done : ∀ H, Pv xs.length H → Qd H) :
    ∃ W : Nat → Nat → Hp → Prop, (∃ m, W 0 m (upd H1 D (SetTO w D []))) ∧ ∀ i m H, W i m H →
      ((Itt K a).stop i H ∧ Qd H) ∨ ((Itt K a).go i H ∧ ∃ Nx : Hp → Prop, (∀ H', Nx H' → ∃ m', m' < m ∧ W (i + 1) m' H') ∧ ∀ x H', (Itt K a).yld i H x H' → turnT w g tt te vs σ D Nx x H') := by
  refine ⟨fun i m H => m = xs.length - i ∧ i ≤ xs.length ∧ Pv i H, ⟨xs.length, (Nat.sub_zero _).symm, Nat.zero_le _, p0⟩, fun i m H ⟨em, le, p⟩ => ?_⟩
  have sq := still i H le p
  rcases Nat.lt_or_eq_of_le le with lt | e
  · refine .inr ⟨⟨xs, xs[i], sq, by simp [lt]⟩, Pv (i + 1), fun H' p' => ⟨xs.length - (i + 1), by omega, rfl, lt, p'⟩, fun x H' ⟨eH, y⟩ => ?_⟩
    subst eH
    exact each i x _ (y xs sq) p
  · subst e
    exact .inl ⟨⟨xs, sq, Nat.le_refl _⟩, done H p⟩
end GL
/-! data, read from its description -/
namespace GL
open PySem PySem.Spec PyProof.Rows L2
noncomputable def kdD : PyData → Kd
  | .none => .non
  | .bool _ => .bl
  | .int _ => .int
  | .str _ => .str
  | .list _ => .lst
  | .tuple _ => .tup
  | .dict _ => .dct
section
variable {K : PySem.W.Frag} {H H' : Hp} {x : V} {d : PyData}
theorem lst_of {a : Addr} {xs : List V} (h : SqL K H a xs) : Of K H (.ref a) .lst := by
  rcases h with (z | ⟨o, z⟩) | ⟨o, its, n, e, c, _⟩
  · exact .base (.lst z)
  · exact .base (.frz z)
  · exact .kList e c
theorem tup_of {a : Addr} {xs : List V} (h : SqT K H a xs) : Of K H (.ref a) .tup := by
  rcases h with (z | ⟨o, z⟩) | ⟨o, its, n, e, c, _⟩
  · exact .base (.tup z)
  · exact .fTuple z
  · exact .kTuple e c
theorem dOf (h : Dp K H x d) : Of K H x (kdD d) := by
  cases h with
  | non => exact .non
  | bl b => exact .bl
  | int i => exact .int
  | str y => exact .str
  | lst h a => exact lst_of h
  | tup h a => exact tup_of h
theorem dStr {y : Str} (h : Dp K H x (.str y)) : x = .str y := by cases h; rfl
theorem dInt {i : Int} (h : Dp K H x (.int i)) : x = .int i := by cases h; rfl
theorem dTup {ds : List PyData} (h : Dp K H x (.tuple ds)) : ∃ a xs, x = .ref a ∧ SqT K H a xs ∧ DpAll K H xs ds := by
  cases h with
  | tup h a => exact ⟨_, _, rfl, h, a⟩
theorem dLst {ds : List PyData} (h : Dp K H x (.list ds)) : ∃ a xs, x = .ref a ∧ SqL K H a xs ∧ DpAll K H xs ds := by
  cases h with
  | lst h a => exact ⟨_, _, rfl, h, a⟩
theorem dLen : ∀ {xs : List V} {ds : List PyData}, DpAll K H xs ds → xs.length = ds.length
  | _, _, .nil => rfl
  | _, _, .cons _ a => by simp [dLen a]
theorem dAt : ∀ {xs : List V} {ds : List PyData}, DpAll K H xs ds → ∀ {i : Nat} {x : V}, xs[i]? = some x → ∃ d, ds[i]? = some d ∧ Dp K H x d
  | _, _, .nil, i, x, h => by simp at h
  | _, _, .cons z a, 0, x, h => by simp at h; exact ⟨_, rfl, h ▸ z⟩
  | _, _, .cons z a, i + 1, x, h => by
    simp only [List.getElem?_cons_succ] at h ⊢
    exact dAt a h
theorem dAt' : ∀ {xs : List V} {ds : List PyData}, DpAll K H xs ds → ∀ {i : Nat} {d : PyData}, ds[i]? = some d → ∃ x, xs[i]? = some x ∧ Dp K H x d
  | _, _, .nil, i, x, h => by simp at h
  | _, _, .cons z a, 0, x, h => by simp at h; exact ⟨_, rfl, h ▸ z⟩
  | _, _, .cons z a, i + 1, x, h => by
    simp only [List.getElem?_cons_succ] at h ⊢
    exact dAt' a h
theorem dSnoc : ∀ {xs : List V} {ds : List PyData}, DpAll K H xs ds → Dp K H x d → DpAll K H (xs ++ [x]) (ds ++ [d])
  | _, _, .nil, h => .cons h .nil
  | _, _, .cons z a, h => .cons z (dSnoc a h)
theorem dApp {ys : List V} {es : List PyData} : ∀ {xs : List V} {ds : List PyData}, DpAll K H xs ds → DpAll K H ys es → DpAll K H (xs ++ ys) (ds ++ es)
  | _, _, .nil, h => h
  | _, _, .cons z a, h => .cons z (dApp a h)
theorem dTake : ∀ {xs : List V} {ds : List PyData} (n : Nat), DpAll K H xs ds → DpAll K H (xs.take n) (ds.take n)
  | _, _, 0, _ => by simp; exact .nil
  | _, _, n + 1, .nil => .nil
  | _, _, n + 1, .cons z a => .cons z (dTake n a)
theorem dStrs {ys : List Str} {H : Hp} : DpAll K H (ys.map V.str) (ys.map PyData.str) := by
  induction ys with
  | nil => exact .nil
  | cons y r ih => exact .cons (.str y) ih
theorem dStrs' : ∀ {ys : List Str} {xs : List V}, DpAll K H xs (ys.map PyData.str) → xs = ys.map V.str
  | [], _, .nil => rfl
  | y :: r, _, .cons z a => by
    rw [dStr z, dStrs' a]
    rfl
theorem dInts' : ∀ {ns : List Int} {xs : List V}, DpAll K H xs (ns.map PyData.int) → xs = ns.map V.int
  | [], _, .nil => rfl
  | y :: r, _, .cons z a => by
    rw [dInt z, dInts' a]
    rfl
end
theorem atI_m1 {α : Type} {xs : List α} {i : Nat} {v : α} (l : xs.length = i + 1) (h : xs[i]? = some v) : atI xs (-1) = some v := by
  unfold atI ixN
  rw [if_neg (by decide), if_pos (by omega)]
  show xs[((-1 : Int) + (xs.length : Int)).toNat]? = some v
  rw [show ((-1 : Int) + (xs.length : Int)).toNat = i by omega]
  exact h
/-- a pair as a target in a block of its own -/
theorem pg_tupK {X : Cx} {K0 : PySem.W.Frag} {es : List Expr} {k n : Nat} {t : TGs} {pos : Pos} (hK : X.K = K0) (hc : X.calm = true) (h : PGs X es t) (hn : (assignEach es X.env).length = n := by rfl) (hst : (assignEach es X.env).findIdx? (·.1) = none := by rfl) : PG X (.Tuple es k pos) (gTup K0 n t) := by
  subst hK
  exact pg_tup hc h hn hst
theorem cut_init {xs : List V} {n : Nat} (l : xs.length = n + 1) : cutV xs none (some (-1)) = xs.take n := by
  have e : HT.sIx xs.length xs.length (some (-1)) = n := by
    show (if (-1 : Int) < 0 then ((-1 : Int) + (xs.length : Int)).toNat else min (-1 : Int).toNat xs.length) = n
    rw [if_pos (by decide)]
    omega
  unfold cutV
  rw [e, HT.sIx_none, List.drop_zero, Nat.sub_zero]
/-! ### a list that grows by data -/
/-- the heap without D -/
noncomputable def wo (D : Addr) (H : Hp) : Hp := fun b => if b = D then none else H b
section
variable {K : PySem.W.Frag} {H H0 H1 H2 : Hp} {D b : Addr} {o : HO} {ds : List PyData} {d : PyData} {x : V}
theorem wo_at (e : H b = some o) (n : b ≠ D) : wo D H b = some o := (if_neg n).trans e
theorem wo_D : wo D H D = none := if_pos rfl
theorem wo_same : Same (wo D H) H := fun b o e => by
  by_cases h : b = D
  · rw [h, wo_D] at e; cases e
  · exact (if_neg h).symm.trans e
theorem wo_of (n : H0 D = none) (s : Same H0 H) : Same H0 (wo D H) := fun b o e => wo_at (s b o e) (fun z => by rw [z, n] at e; cases e)
theorem wo_mono (s : Same H H1) : Same (wo D H) (wo D H1) := wo_of wo_D (fun b o e => s b o (wo_same b o e))
theorem wo_upd : wo D (upd H D o) = wo D H := by
  funext b
  unfold wo
  by_cases h : b = D
  · rw [if_pos h, if_pos h]
  · rw [if_neg h, if_neg h, upd_ne h]
/-- data does not hang on an instance -/
theorem sqT_wo {C dx a : Addr} {fs : List (Str × V)} {xs : List V} (e : H D = some (.ins C dx fs)) (h : SqT K H a xs) : SqT K (wo D H) a xs := by
  rcases h with (z | ⟨o, z⟩) | z
  · exact .inl (.inl (wo_at z (fun q => by rw [q, e] at z; cases z)))
  · exact .inl (.inr ⟨o, wo_at z (fun q => by rw [q, e] at z; cases z)⟩)
  · exact .inr z
theorem sqL_wo {C dx a : Addr} {fs : List (Str × V)} {xs : List V} (e : H D = some (.ins C dx fs)) (h : SqL K H a xs) : SqL K (wo D H) a xs := by
  rcases h with (z | ⟨o, z⟩) | z
  · exact .inl (.inl (wo_at z (fun q => by rw [q, e] at z; cases z)))
  · exact .inl (.inr ⟨o, wo_at z (fun q => by rw [q, e] at z; cases z)⟩)
  · exact .inr z
mutual
theorem dp_wo {C dx : Addr} {fs : List (Str × V)} (e : H D = some (.ins C dx fs)) : ∀ {x : V} {d : PyData}, Dp K H x d → Dp K (wo D H) x d
  | _, _, .non => .non
  | _, _, .bl b => .bl b
  | _, _, .int i => .int i
  | _, _, .str y => .str y
  | _, _, .lst h a => .lst (sqL_wo e h) (dps_wo e a)
  | _, _, .tup h a => .tup (sqT_wo e h) (dps_wo e a)
theorem dps_wo {C dx : Addr} {fs : List (Str × V)} (e : H D = some (.ins C dx fs)) : ∀ {xs : List V} {ds : List PyData}, DpAll K H xs ds → DpAll K (wo D H) xs ds
  | _, _, .nil => .nil
  | _, _, .cons h a => .cons (dp_wo e h) (dps_wo e a)
end
theorem wo_under : Same (wo D H) (upd H D o) := by
  have z := wo_same (H := upd H D o) (D := D)
  rw [wo_upd] at z
  exact z
structure Grow (K : PySem.W.Frag) (H0 : Hp) (D : Addr) (ds : List PyData) (H : Hp) : Prop where
  free : H0 D = none
  same : Same H0 H
  ex : ∃ xs, H D = some (.lst xs) ∧ DpAll K (wo D H) xs ds
theorem Grow.start (n : H D = none) : Grow K H D [] (upd H D (.lst [])) := ⟨n, Same.new n, [], upd_same, .nil⟩
theorem Grow.from {xs : List V} (n : H D = none) (l : DpAll K H xs ds) : Grow K H D ds (upd H D (.lst xs)) := ⟨n, Same.new n, xs, upd_same, by rw [wo_upd]; exact dps_same (wo_of n same_rf) l⟩
where same_rf {H : Hp} : Same H H := fun _ _ e => e
theorem Grow.ext (A : Grow K H0 D ds H) (s : Same H H1) : Grow K H0 D ds H1 := ⟨A.free, A.same.trans s, let ⟨xs, e, l⟩ := A.ex; ⟨xs, s _ _ e, dps_same (wo_mono s) l⟩⟩
theorem Grow.base (A : Grow K H0 D ds H) (h : Dp K H0 x d) : Dp K (wo D H) x d := dp_same (wo_of A.free A.same) h
theorem Grow.at_ {xs : List V} (A : Grow K H0 D ds H) (e : H D = some (.lst xs)) : DpAll K (wo D H) xs ds := by
  obtain ⟨ys, e', l⟩ := A.ex
  rw [e] at e'
  cases e'
  exact l
theorem Grow.push {xs : List V} (A : Grow K H0 D ds H) (e : H D = some (.lst xs)) (h : Dp K (wo D H) x d) : Grow K H0 D (ds ++ [d]) (upd H D (.lst (xs ++ [x]))) := by
  refine ⟨A.free, fun b o z => ?_, xs ++ [x], upd_same, ?_⟩
  · rw [upd_ne (fun q => by rw [q, A.free] at z; cases z)]
    exact A.same b o z
  · rw [wo_upd]
    exact dSnoc (A.at_ e) h
theorem Grow.dp (A : Grow K H0 D ds H) : Dp K H (.ref D) (.list ds) := let ⟨_, e, l⟩ := A.ex; .lst (SqL.of e) (dps_same wo_same l)
theorem Grow.len {xs : List V} (A : Grow K H0 D ds H) (e : H D = some (.lst xs)) : xs.length = ds.length := dLen (A.at_ e)
/-- a new object beside the list -/
theorem Grow.new {p : Addr} {u : HO} (A : Grow K H0 D ds H) (n : H p = none) : Grow K H0 D ds (upd H p u) ∧ wo D (upd H p u) p = some u := ⟨A.ext (Same.new n), wo_at upd_same (fun z => by obtain ⟨xs, e, _⟩ := A.ex; rw [z, e] at n; cases n)⟩
end
/-! ### rows -/
noncomputable abbrev RowT := List (Str × Int)
noncomputable def itemD (x : Str × Int) : PyData := .tuple [.str x.1, .int x.2]
noncomputable def rowD (r : RowT) : PyData := .tuple (r.map itemD)
noncomputable def LetS (y : Str) : Bool := decide (y.length = 1) && y.cps.toList.all fun c => decide (97 ≤ c) && decide (c ≤ 122)
noncomputable def isLetD : PyData → Bool
  | .str y => LetS y
  | _ => false
noncomputable def isTurnD (t : Bool) : PyData → Bool
  | .int i => isCountV (.int i) && decide (i < (num t : Int))
  | _ => false
noncomputable def isItemD (t : Bool) : PyData → Bool
  | .tuple [a, b] => isLetD a && isTurnD t b
  | _ => false
structure ItemOk (t : Bool) (x : Str × Int) : Prop where
  l : LetS x.1 = true
  a : 0 ≤ x.2
  b : x.2 < (num t : Int)
structure RowOk (t : Bool) (r : RowT) : Prop where
  two : 2 ≤ r.length
  most : r.length ≤ 12
  all : ∀ x ∈ r, ItemOk t x
section
variable {K : PySem.W.Frag} {H : Hp} {x : V} {t : Bool}
theorem dItem {it : Str × Int} (h : Dp K H x (itemD it)) : ∃ q, x = .ref q ∧ SqT K H q [.str it.1, .int it.2] := by
  obtain ⟨a, xs, rfl, hs, l⟩ := dTup h
  cases l with
  | cons l1 l2 => cases l1; cases l2 with
    | cons l3 l4 => cases l3; cases l4; exact ⟨a, rfl, hs⟩
theorem itemDp {q : Addr} {it : Str × Int} (h : SqT K H q [.str it.1, .int it.2]) : Dp K H (.ref q) (itemD it) := .tup h (.cons (.str _) (.cons (.int _) .nil))
/-- the i-th item of a row -/
theorem rowAt {r : RowT} {xs : List V} (l : DpAll K H xs (r.map itemD)) {i : Nat} {x : V} (h : xs[i]? = some x) : ∃ it q, r[i]? = some it ∧ x = .ref q ∧ SqT K H q [.str it.1, .int it.2] := by
  obtain ⟨d, hd, z⟩ := dAt l h
  rw [List.getElem?_map] at hd
  cases e : r[i]? with
  | none => rw [e] at hd; cases hd
  | some it =>
    rw [e] at hd
    cases hd
    obtain ⟨q, rfl, hq⟩ := dItem z
    exact ⟨it, q, rfl, rfl, hq⟩
theorem rowLen {r : RowT} {xs : List V} (l : DpAll K H xs (r.map itemD)) : xs.length = r.length := by rw [dLen l, List.length_map]
theorem turn_ok {i : Int} (a : 0 ≤ i) (b : i < (num t : Int)) : isTurnD t (.int i) = true := by
  have n : (num t : Int) ≤ 6 := by cases t <;> decide
  have s : isIntV (.int i) = true := short_of (by omega)
  show ((isIntV (.int i) && decide (0 ≤ i)) && decide (i < (num t : Int))) = true
  rw [s, decide_eq_true a, decide_eq_true b]
  rfl
theorem item_ok {it : Str × Int} (h : ItemOk t it) : isItemD t (itemD it) = true := by
  show (LetS it.1 && isTurnD t (.int it.2)) = true
  rw [h.l, turn_ok h.a h.b]
  rfl
end
/-! ### a list made of a row -/
theorem lc_row {K : PySem.W.Frag} {a : Addr} {xs : List V} {r : RowT} {te : TE} {vs : List Nat} {σ : L2.St} {H1 : Hp} {D : Addr} {Qd : Hp → Prop} {i j : Nat} (F : Str × Int → PyData) (hs : SqT K H1 a xs) (l : DpAll K H1 xs (r.map itemD)) (few : r.length ≤ 1000) (hD : H1 D = none) (hw : ∀ u v, wipe (((wipe σ vs).set i u).set j v) vs = wipe σ vs)
    (each : ∀ (n : Nat) (it : Str × Int) (H' : Hp), r[n]? = some it → Same H1 H' → H' D ≠ none → ∀ Q : VK, (∀ y H'', Same H' H'' → Dp K (wo D H'') y (F it) → Q y H'') → te (((wipe σ vs).set i (some (.str it.1))).set j (some (.int it.2))) H' Q)
    (done : ∀ H', Same H1 H' → Dp K H' (.ref D) (.list (r.map F)) → Qd H') :
    ∃ W : Nat → Nat → Hp → Prop, (∃ m, W 0 m (upd H1 D (.lst []))) ∧ ∀ i' m H, W i' m H → ((Itt K a).stop i' H ∧ Qd H) ∨ ((Itt K a).go i' H ∧ ∃ Nx : Hp → Prop, (∀ H', Nx H' → ∃ m', m' < m ∧ W (i' + 1) m' H') ∧
      ∀ x H', (Itt K a).yld i' H x H' → gTup K 2 (gCons (gName i) (gCons (gName j) gNil)) x (wipe σ vs) H' fun σ2 H2 => wipe σ2 vs = wipe σ vs ∧ tYes σ2 H2 fun b H3 => if b = true then te σ2 H3 fun y H4 => ∃ acc, H4 D = some (.lst acc) ∧ acc.length < sizeLine ∧ Nx (upd H4 D (.lst (acc ++ [y]))) else Nx H3) := by
  refine lc_tup (fun n H' => Grow K H1 D ((r.take n).map F) H') (by rw [List.take_zero]; exact Grow.start hD) (fun n H' _ A => sqT_same hs A.same) ?_ ?_
  · intro n x H' hx A
    obtain ⟨it, q, hit, rfl, hq⟩ := rowAt l hx
    obtain ⟨ys, eD, lD⟩ := A.ex
    have lt := (List.getElem?_eq_some_iff.mp hit).1
    refine ⟨q, _, rfl, sqT_same hq A.same, rfl, _, _, rfl, _, _, rfl, rfl, hw _ _, ?_⟩
    simp only [tYes, if_true]
    refine each n it H' hit A.same (by rw [eD]; exact fun z => by cases z) _ (fun y H'' s'' dy => ⟨ys, s'' _ _ eD, ?_, ?_⟩)
    · rw [A.len eD, List.length_map, List.length_take, sizeLine_eq]
      omega
    · rw [List.take_add_one, hit]
      show Grow K H1 D ((r.take n ++ [it]).map F) _
      rw [List.map_append]
      exact (A.ext s'').push (s'' _ _ eD) dy
  · intro H' A
    rw [rowLen l, List.take_length] at A
    exact done H' A.same A.dp
/-- a set made of a row's letters -/
theorem sc_row {w : World} {K : PySem.W.Frag} {a : Addr} {xs : List V} {r : RowT} {te : TE} {vs : List Nat} {σ : L2.St} {H1 : Hp} {D : Addr} {Qd : Hp → Prop} {i j : Nat} (hs : SqT K H1 a xs) (l : DpAll K H1 xs (r.map itemD)) (few : r.length ≤ 1000) (hD : H1 D = none) (hw : ∀ u v, wipe (((wipe σ vs).set i u).set j v) vs = wipe σ vs)
    (each : ∀ (it : Str × Int) H' (Q : VK), Q (.str it.1) H' → te (((wipe σ vs).set i (some (.str it.1))).set j (some (.int it.2))) H' Q)
    (done : ∀ H', Same H1 H' → H' D = some (SetTO w D (setS (r.map (·.1)))) → Qd H') :
    ∃ W : Nat → Nat → Hp → Prop, (∃ m, W 0 m (upd H1 D (SetTO w D []))) ∧ ∀ i' m H, W i' m H → ((Itt K a).stop i' H ∧ Qd H) ∨ ((Itt K a).go i' H ∧ ∃ Nx : Hp → Prop, (∀ H', Nx H' → ∃ m', m' < m ∧ W (i' + 1) m' H') ∧
      ∀ x H', (Itt K a).yld i' H x H' → turnT w (gTup K 2 (gCons (gName i) (gCons (gName j) gNil))) tYes te vs σ D Nx x H') := by
  refine scT_tup (xs := xs) (fun n H' => Same H1 H' ∧ H' D = some (SetTO w D (setS ((r.map (·.1)).take n)))) ⟨Same.new hD, upd_same⟩ (fun n H' _ p => sqT_same hs p.1) ?_ ?_
  · rintro n x H' hx ⟨s', e⟩
    obtain ⟨it, q, hit, rfl, hq⟩ := rowAt l hx
    have lt := (List.getElem?_eq_some_iff.mp hit).1
    refine ⟨q, _, rfl, sqT_same hq s', rfl, _, _, rfl, _, _, rfl, rfl, hw _ _, ?_⟩
    simp only [tYes, if_true]
    refine each it H' _ ⟨it.1, _, rfl, e, ?_, Same.over s' hD _, ?_⟩
    · have z := setS_len ((r.map (·.1)).take n)
      rw [List.length_take, List.length_map] at z
      unfold scanBound
      omega
    · rw [upd_same, setS_snoc (x := it.1) (by rw [List.getElem?_map, hit]; rfl)]
  · rintro H' ⟨s', e⟩
    rw [rowLen l, ← List.length_map (f := fun x : Str × Int => x.1), List.take_length] at e
    exact done H' s' e
/-! ### sorted texts -/
theorem addS_nodup {ks : List Str} {k : Str} (h : ks.Nodup) : (addS ks k).Nodup := by
  unfold addS
  split
  · exact h
  · rename_i n
    exact List.nodup_cons.mpr ⟨n, h⟩
theorem setS_nodup (xs : List Str) : (setS xs).Nodup := by
  have g : ∀ (xs ks : List Str), ks.Nodup → (xs.foldl addS ks).Nodup := by
    intro xs
    induction xs with
    | nil => intro ks h; exact h
    | cons x r ih => intro ks h; exact ih _ (addS_nodup h)
  exact g xs [] List.nodup_nil
theorem rising_pair : ∀ (l : List Str) (p : Str), risingS p l = true → (∀ x ∈ l, p.cps.toList ≤ x.cps.toList) ∧ l.Pairwise (fun a b => a.cps.toList ≤ b.cps.toList)
  | [], p, _ => ⟨(fun x h => by cases h), List.Pairwise.nil⟩
  | x :: r, p, h => by
    have z : (!ltCps x.cps.toList p.cps.toList && risingS x r) = true := h
    rw [Bool.and_eq_true, ltCps_eq] at z
    have le : p.cps.toList ≤ x.cps.toList := List.not_lt.mp (by simpa using z.1)
    obtain ⟨h1, h2⟩ := rising_pair r x z.2
    refine ⟨fun y hy => ?_, List.pairwise_cons.mpr ⟨h1, h2⟩⟩
    rcases List.mem_cons.mp hy with e | hy
    · rw [e]; exact le
    · exact List.le_trans le (h1 y hy)
theorem sorted_pair {l : List Str} (h : sortedS l = true) : l.Pairwise (fun a b => a.cps.toList ≤ b.cps.toList) := by
  cases l with
  | nil => exact List.Pairwise.nil
  | cons x r =>
    obtain ⟨h1, h2⟩ := rising_pair r x h
    exact List.pairwise_cons.mpr ⟨h1, h2⟩
theorem sorted_uniq {a b : List Str} (ha : sortedS a = true) (hb : sortedS b = true) (p : a.Perm b) : a = b :=
  List.Perm.eq_of_pairwise (fun x y _ _ h1 h2 => Str.ext' (by have z := List.le_antisymm h1 h2; exact Array.toList_inj.mp z)) (sorted_pair ha) (sorted_pair hb) p
end GL
/-! a tuple backward: t[::-1] -/
namespace GL
open PySem PySem.Spec PyProof.Rows L2
section
variable {prog : Program} {w : World} {A : Around} {E : Value → Shared → Prop} {s : Shared}
end
section
variable {X : Cx}
noncomputable def tRevT (K : PySem.W.Frag) (te : TE) : TE := fun σ H Q => te σ H fun x H1 => ∃ a xs, x = .ref a ∧ SqT K H1 a xs ∧ ∀ p, H1 p = none → Q (.ref p) (upd H1 p (.tup xs.reverse))
end
end GL
/-! data that is short when shown; data without lists, kept while lists change -/
namespace GL
open PySem PySem.Spec PyProof.Rows L2
structure Mini (k n : Nat) (d : PyData) : Prop where
  s : d.showable = true
  h : d.hasDict = false
  l : PyData.leavesShort 300 d = true
  dep : d.depth ≤ k
  b : d.bulk ≤ n
section
variable {k n m : Nat} {d : PyData} {ds : List PyData}
theorem Mini.mono {k' n' : Nat} (h : Mini k n d) (a : k ≤ k') (b : n ≤ n') : Mini k' n' d := ⟨h.s, h.h, h.l, Nat.le_trans h.dep a, Nat.le_trans h.b b⟩
theorem Mini.non : Mini 0 0 .none := ⟨rfl, rfl, rfl, by simp [PyData.depth], by simp [PyData.bulk]⟩
theorem Mini.bl {b : Bool} : Mini 0 0 (.bool b) := ⟨rfl, rfl, rfl, by simp [PyData.depth], by simp [PyData.bulk]⟩
theorem Mini.int {i : Int} (h : i.natAbs < 10 ^ 9) : Mini 0 0 (.int i) := by
  refine ⟨decide_eq_true (Nat.lt_trans (PySem.Flt.log2_lt_of (k := 40) (by decide) (Nat.lt_trans h (by decide))) (by decide)), rfl, ?_, by simp [PyData.depth], by simp [PyData.bulk]⟩
  refine decide_eq_true ?_
  have e := int_text_length_le10 (a := i) (k := 9) (by decide) h
  show (Str.ofString (toString i)).length ≤ 300
  rw [PySem.ofString_length]
  exact Nat.le_trans e (by decide)
theorem Mini.str {y : Str} (ok : PyData.strOk y = true) (h : y.length ≤ n) : Mini 0 n (.str y) := by
  refine ⟨rfl, rfl, ?_, by simp [PyData.depth], by simpa [PyData.bulk, Str.length] using h⟩
  show (y.cps.toList.all fun c => decide (c < 16 ^ 8)) = true
  rw [List.all_eq_true]
  intro c hc
  unfold PyData.strOk at ok
  rw [Array.all_eq_true'] at ok
  have z := ok c (by simpa using hc)
  exact decide_eq_true (Nat.lt_trans (of_decide_eq_true z) (by decide))
theorem Mini.all (h : ∀ d ∈ ds, Mini k n d) : PyData.showableAll ds = true ∧ PyData.hasDictAll ds = false ∧ PyData.leavesShortAll 300 ds = true ∧ PyData.depthAll ds ≤ k ∧ PyData.bulkAll ds ≤ (n + 1) * ds.length := by
  induction ds with
  | nil => exact ⟨rfl, rfl, rfl, by simp [PyData.depthAll], by simp [PyData.bulkAll]⟩
  | cons x r ih =>
    obtain ⟨a1, a2, a3, a4, a5⟩ := ih (fun d hd => h d (List.mem_cons_of_mem _ hd))
    have z := h x (List.mem_cons_self ..)
    refine ⟨?_, ?_, ?_, ?_, ?_⟩
    · show (x.showable && PyData.showableAll r) = true
      rw [z.s, a1]; rfl
    · show (x.hasDict || PyData.hasDictAll r) = false
      rw [z.h, a2]; rfl
    · show (PyData.leavesShort 300 x && PyData.leavesShortAll 300 r) = true
      rw [z.l, a3]; rfl
    · simp only [PyData.depthAll]
      have := z.dep
      omega
    · simp only [PyData.bulkAll, List.length_cons]
      have := z.b
      rw [Nat.mul_add, Nat.mul_one]
      omega
theorem Mini.tup (h : ∀ d ∈ ds, Mini k n d) (c : (n + 1) * ds.length ≤ m) : Mini (k + 1) m (.tuple ds) := by
  obtain ⟨a1, a2, a3, a4, a5⟩ := Mini.all h
  exact ⟨a1, a2, a3, by simp only [PyData.depth]; omega, by simp only [PyData.bulk]; omega⟩
theorem Mini.lst (h : ∀ d ∈ ds, Mini k n d) (c : (n + 1) * ds.length ≤ m) : Mini (k + 1) m (.list ds) := by
  obtain ⟨a1, a2, a3, a4, a5⟩ := Mini.all h
  exact ⟨a1, a2, a3, by simp only [PyData.depth]; omega, by simp only [PyData.bulk]; omega⟩
theorem Mini.len (h : Mini k n d) (c : n ≤ 20000) : d.shown.length ≤ sizeLine := by
  have z := PyData.shown_le_bulk 300 (by decide) d h.l
  have b := h.b
  rw [sizeLine_eq]
  have : (300 + 2) * d.bulk ≤ 302 * 20000 := Nat.mul_le_mul (Nat.le_refl _) (by omega)
  omega
end
/-! ### no lists -/
mutual
noncomputable def noL : PyData → Bool
  | .list _ => false
  | .dict _ => false
  | .tuple ds => noLs ds
  | _ => true
noncomputable def noLs : List PyData → Bool
  | [] => true
  | d :: r => noL d && noLs r
end
/-- all but lists is kept -/
noncomputable def TK (H H' : Hp) : Prop := ∀ b o, H b = some o → (∀ xs, o ≠ .lst xs) → H' b = some o
section
variable {K : PySem.W.Frag} {H H' H2 : Hp}
theorem sqT_tk {a : Addr} {xs : List V} (h : SqT K H a xs) (t : TK H H') : SqT K H' a xs := by
  rcases h with (z | ⟨o, z⟩) | z
  · exact .inl (.inl (t _ _ z (fun _ q => by cases q)))
  · exact .inl (.inr ⟨o, t _ _ z (fun _ q => by cases q)⟩)
  · exact .inr z
mutual
theorem dp_tk (t : TK H H') : ∀ {x : V} {d : PyData}, Dp K H x d → noL d = true → Dp K H' x d
  | _, _, .non, _ => .non
  | _, _, .bl b, _ => .bl b
  | _, _, .int i, _ => .int i
  | _, _, .str y, _ => .str y
  | _, _, .lst h a, n => by simp [noL] at n
  | _, _, .tup h a, n => .tup (sqT_tk h t) (dps_tk t a (by simpa [noL] using n))
theorem dps_tk (t : TK H H') : ∀ {xs : List V} {ds : List PyData}, DpAll K H xs ds → noLs ds = true → DpAll K H' xs ds
  | _, _, .nil, _ => .nil
  | _, _, .cons h a, n => by
    have z := Bool.and_eq_true_iff.mp (by simpa [noLs] using n)
    exact .cons (dp_tk t h z.1) (dps_tk t a z.2)
end
end
end GL
/-! rules that name the written part, for blocks -/
namespace GL
open PySem PySem.Spec PyProof.Rows L2
section
variable {X : Cx} {K0 : PySem.W.Frag} {e : Expr} {ta te : TE} {f : Str} {pos : Pos} {tg : Expr}
theorem pe_fldK (hK : X.K = K0) (he : PE X e ta) (hb : attributeBase e f X.env (eval e X.env) = eval e X.env) : PE X (.Attribute e f pos) (tFld K0 ta f) := by
  subst hK
  exact pe_fld he hb
theorem pi_tupK (hK : X.K = K0) (he : PE X e te) : PI X tg e (iTup K0 te) := by
  subst hK
  exact pi_tup he
end
end GL
/-! classmethods called off a class, a class in a local variable called, where repr may be asked -/
namespace GL
open PySem PySem.Spec PyProof.Rows L2
section
variable {X : Cx} {CX : CXT} {k : Nat} {C p g f : Addr} {mc : Value} {m x : Str} {fd : FuncData} {ps : List Str} {sp : Sp} {E : XK} {o e : Expr} {es : List Expr} {ta : TE} {t : TA} {pos apos pv_ : Pos}
/-- a classmethod of a class -/
structure HasCM (P : Program) (w : World) (K : PySem.W.Frag) (mg : Str → Option Value) (base : Heap) (CX : CXT) (C : Addr) (m : Str) (k : Nat) (ps : List Str) (sp : Sp) : Prop where
  ex : ∃ g fd mc p, FnG P w K mg base CX k g fd ps sp ∧ Binds K fd ps [] ∧ ClX.CRead K C mc ∧ ClX.CMet K C mc m p g
/-- x(e, ..), x a local variable that holds a class -/
noncomputable def tMakeV (i : Nat) (C : Addr) (sp : Sp) (E : XK) (t : TA) : TE := fun σ H Q => σ[i]? = some (some (.ref C)) ∧ tMake C sp [] E t σ H Q
end
section
variable {X : Cx} {K0 : PySem.W.Frag} {T : String} {name : Str} {id : String} {r : V → List V → Hp → VK → Prop} {o e : Expr} {es : List Expr} {to : TE} {t : TA} {apos cpos : Pos}
theorem pe_bmK (hK : X.K = K0) (pa : PlainAttrs T) (slot : Slot T name id) (hty : typeOf (.builtin id) = pure (.type "method_descriptor")) (hm : MtR X id r) (ho : PE X o to) (ha : PA X (e :: es) t)
    (hbase : attributeBase o name X.env (eval o X.env) = eval o X.env := by rfl)
    (hfew : ((backTo cpos (starEach (e :: es) X.env)).all (fun x => !x.1) && (backToKw cpos (keywordEach [] X.env)).all (fun x => x.1.isSome)
      && decide ((e :: es).length + ([] : List Keyword).length + (if ([] : List Keyword).isEmpty then 0 else 1) < 30)) = true := by rfl)
    (hline : (apos.endLine == cpos.line) = true := by rfl) (hs : starEach (e :: es) X.env = (false, eval e X.env) :: starEach es X.env := by rfl) (hplain : (backTo cpos (starEach es X.env)).any (·.1) = false := by rfl) :
    PE X (.Call (.Attribute o name apos) (e :: es) [] cpos) (tBM K0 T r to t) := by
  subst hK
  exact pe_bm pa slot hty hm ho ha hbase hfew hline hs hplain
end
section
variable {P : Program} {w : World} {K : PySem.W.Frag} {mg : Str → Option Value} {base : Heap}
end
/-- a classmethod's def -/
structure Dcm (K : PySem.W.Frag) (C : Addr) (m qual : Str) (st : Stmt) : Prop where
  ex : ∃ f fd mc p, Fun K m qual st f fd ∧ ClX.CRead K C mc ∧ ClX.CMet K C mc m p f
end GL
/-! tuple(d) of a dict: its keys, in order -/
namespace GL
open PySem PySem.Spec PyProof.Rows L2
section
variable {prog : Program} {w : World} {A : Around} {E : Value → Shared → Prop} {s : Shared} {r d : Addr} {n : Nat} {P : Nat → Value → Prop} {OK : Heap → Prop}
theorem code_tuple_new_src {Q₁ : Value → Shared → Prop} (K : PySem.W.KdlSrc prog w "dict" r d n P OK) (hh : A.handled = none) (hok : OK s.heap) (hn : n ≤ sizeLine)
    (h : ∀ (h' : Heap) (tk : Nat) (acc : Array Value), (∀ b o, s.heap.get? b = some o → h'.get? b = some o) → ItemsOf P acc n →
      Q₁ (.ref h'.objs.size) { s with heap := h'.push { cls := .type "tuple", data := .seq acc }, toks := tk }) :
    codeAny (model prog w) A (.call (.builtin "tuple.__new__") ⟨[.type "tuple", .ref r], []⟩) (wants Q₁ E) s := by
  refine codeAny_of_tree ?_
  show wpAny _ A.in1 (do checkBuiltinCall "tuple.__new__" ⟨[.type "tuple", .ref r], []⟩; again (.builtin "tuple.__new__" ⟨[.type "tuple", .ref r], []⟩)) _ _ s
  refine wpAny_bind (wpAny_of_eq (F.newCall_tuple_1 _) (wpAny_pure ⟨plainId_quiet F.plain_tuple_new _, codeAny_builtin F.entry_tuple_new ?_⟩))
  rw [Around.under_plainId F.plain_tuple_new _]
  have hsub := sub_tuple_self
  have hinit := init_tuple_lookup
  have hmh := madeHere_tuple
  have hTI : s.TypeIs (.ref r) "dict" := K.type s hok
  have hh1 : A.in1.handled = none := hh
  wp_walk using wpAny_typeOf hTI, PySem.W.kdu_collect (A := A.in1) K hh1 hok hn
  intro h' tk acc hk hacc
  show wpAny _ _ (Builtin.Tuple.tupleExact acc.toList.toArray >>= fun v => ret v) _ _ _
  unfold Builtin.Tuple.tupleExact
  refine wpAny_bind (wpAny_newObj_type ?_ (by show acc.toList.toArray.size ≤ sizeLine; simp only [Array.toArray_toList]; rw [hacc.1]; exact hn))
  refine wpAny_pure ?_
  have e : acc.toList.toArray = acc := by simp
  rw [e]
  exact h h' tk acc hk hacc
theorem call_tuple_src {Q : Value → Shared → Prop} (K : PySem.W.KdlSrc prog w "dict" r d n P OK) (hh : A.handled = none) (hok : OK s.heap) (hn : n ≤ sizeLine)
    (hQ : ∀ (h' : Heap) (tk : Nat) (acc : Array Value), (∀ b o, s.heap.get? b = some o → h'.get? b = some o) → ItemsOf P acc n →
      Q (.ref h'.objs.size) { s with heap := h'.push { cls := .type "tuple", data := .seq acc }, toks := tk }) :
    wpAny (model prog w) A (call (.type "tuple") [.ref r]) Q E s := by
  refine callType_codes (Q₁ := fun obj s₁ => s₁.TypeIs obj "tuple" ∧ Q obj s₁) F.called_tuple (F.typeCall_tuple_1 _) F.entry_object_init
    (code_tuple_new_src (A := A.in1) K hh hok hn fun h' tk acc hk hacc => ⟨⟨_, Heap.get?_push_size _ rfl, rfl⟩, hQ h' tk acc hk hacc⟩) fun obj s₁ h₁ => ?_
  exact ⟨h₁.1, F.args_object_init_2 obj _, object_init_meets F.called_tuple.init.lookup F.called_tuple.made (by decide) prog w A.in1 _ s₁ ⟨h₁.1, rfl, h₁.2⟩⟩
end
/-- tuple(d) -/
noncomputable def kTupD (x : V) (H : Hp) (Q : VK) : Prop := ∃ p kvs, x = .ref p ∧ H p = some (.dK kvs) ∧ ∀ q, H q = none → Q (.ref q) (upd H q (.tup (kvs.map fun kv => kV kv.1)))
section
variable {X : Cx} {a : Expr} {ta : TE}
theorem rl_tupleD (hc : X.calm = true) (pins : List (Addr × Obj)) (s : Shared) (σ : L2.St) (H : Hp) (x : V) (v : Value) (Q : VK) (I : Inv X pins σ H s) (r : RelV x v) (h : kTupD x H Q) :
    wpAny (model X.prog X.w) X.A (call (.type "tuple") [v]) (EP X pins σ Q) X.xe s := by
  obtain ⟨p, kvs, rfl, hk, q⟩ := h
  obtain rfl : v = .ref p := r
  obtain ⟨z, lo, vs, rk, hd⟩ := (show ObjOk X.prog X.w H s.heap p (.dK kvs) from I.hok p _ hk)
  obtain ⟨ep, hat⟩ := hd.dictAt
  have hl : kvs.length = vs.length := Paired.length rk
  refine call_tuple_src (PySem.W.kdl_dict (knd := mixKind X.prog X.w) (kvs := vs) (ep := ep) lo) (I.ok.hd hc) hat (by rw [← hl]; exact z) fun h' tk acc hkeep hacc => ?_
  have I2 : Inv X pins σ H { s with heap := h', toks := tk } := I.kept hkeep
  refine ⟨.ref h'.objs.size, upd H h'.objs.size (.tup (kvs.map fun kv => kV kv.1)), I2.laid (t' := tk) (fun c o e => Heap.get?_push_of_some _ e) (Nat.le_refl _) (show ObjOk X.prog X.w _ _ _ (.tup (kvs.map fun kv => kV kv.1)) from ⟨?_, acc.toList, ?_, ?_⟩), rfl, q _ (I2.hok.fresh (Nat.le_refl _))⟩
  · rw [List.length_map]; exact z
  · have el : acc.toList.length = acc.size := by simp
    refine vals_of_at (by rw [List.length_map, el, hacc.1, hl]) fun j x w h1 h2 => ?_
    obtain ⟨k, y, hky, hi⟩ := hacc.2 j w (by rw [← Array.getElem?_toList]; exact h2)
    have e1 : (kvs.map (·.1))[j]? = some k := by
      rw [KV.keys rk, List.getElem?_map, hky] <;> rfl
    have e2 : (kvs.map fun kv => kV kv.1)[j]? = some (kV k) := by
      have e3 : (kvs.map fun kv => kV kv.1) = (kvs.map (·.1)).map kV := by rw [List.map_map] <;> rfl
      rw [e3, List.getElem?_map, e1] <;> rfl
    rw [e2] at h1
    cases h1
    exact keyIs_rel hi
  · rw [Array.toArray_toList]; exact IsTup.new _ _
theorem pe_tupleD {p pos : Pos} (hc : X.calm = true) (hg : Gl X "tuple") (hm : X.mg "tuple" = none) (ha : PE X a ta) (na : starEach [a] X.env = (false, eval a X.env) :: starEach [] X.env := by rfl) :
    PE X (.Call (.Name "tuple" p) [a] [] pos) (tThen ta kTupD) := by
  refine ⟨fun pins s σ H Q I h => ?_⟩
  exact Call_ (ld_blt I hg hm boot_tuple (PyProof.Rows.callWith_type1 (one_arg ha I h (fun v s2 x H2 I2 r q => rl_tupleD hc pins s2 σ H2 x v Q I2 r q) na) na))
end
end GL
/-! f"{x}" of an instance whose class has its own __str__ -/
namespace GL
open PySem PySem.Spec PyProof.Rows L2
structure FmtC (K : PySem.W.Frag) (C : Addr) : Prop where
  fm : PySem.W.findIn K (.ref C) "__format__" = some (some (.builtin "object.__format__"))
  ob : PySem.W.mroIn K C (.type "object") = some true
noncomputable def tFmtM (C : Addr) (sp : Sp) (E : XK) (te : TE) : TE := fun σ H Q => te σ H fun x H1 => ∃ a dx fs, x = .ref a ∧ H1 a = some (.ins C dx fs) ∧ sp [.ref a] H1 (fun v H' => ∃ y, v = .str y ∧ Q (.str y) H') E
section
variable {X : Cx} {CX : CXT} {k : Nat} {C : Addr} {sp : Sp} {E : XK} {e : Expr} {te : TE} {pos : Pos}
theorem pe_fmtM (h : HasM X.prog X.w X.K X.mg X.base CX C "__str__" k ["self"] sp) (g : Gd X.A) (hr : Room (k + 2) X.A) (hx : Passes CX X E) (fc : FmtC X.K C) (he : PE X e te) : PE X (.FormattedValue e (-1) none pos) (tFmtM C sp E te) := by
  refine ⟨fun pins s σ H Q I hh => ?_⟩
  refine wpAny_FormattedValue_plain (thn (he.run pins s σ H _ I hh) fun v s1 hv => ?_)
  obtain ⟨x, H1, I1, r1, a, dx, fs, rfl, ea, q1⟩ := hv
  cases (show v = Value.ref a from r1)
  obtain ⟨f, fd, F, M, b⟩ := h.ex
  obtain ⟨mA, O, _⟩ := ins_get I1.hok ea
  obtain ⟨od, J, _⟩ := O.look
  have I2 : Inv X pins σ H1 { s1 with toks := s1.toks + 1 } := I1.tok _
  have b1 := b { s1 with toks := s1.toks + 1 } [.ref a] I2.kIn rfl
  rw [List.append_nil] at b1
  refine PySem.W.kfo_fieldS (by have := hr.in1.un; omega) I1.kIn J fc.fm fc.ob M.at_ M.fn ?_
  apply wpAny_call
  refine codeAny_mono (F.go (A := X.A.in1) g (hr.in1.mono (by omega)) I2.env0.in1 b1 (vs := [.ref a]) (.cons rfl .nil) q1) (fun res s' z => ?_)
  match res, z with
  | .error _, z => exact hx pins σ H1 _ _ s' I2 z
  | .ok (.ret _), z =>
    obtain ⟨v, H', I', rv, y, rfl, q2⟩ := I2.after z
    obtain ⟨t, rfl⟩ := rv
    exact ⟨.str y, H', I', ⟨_, rfl⟩, q2⟩
end
end GL
/-! a set comprehension whose members are of one kind: ints, tuples of ints -/
namespace GL
open PySem PySem.Spec PyProof.Rows L2
/-- how a member comes into the set -/
noncomputable abbrev AddT := Addr → V → Hp → (Hp → Prop) → Prop
noncomputable def AddOk (X : Cx) (Ad : AddT) : Prop := ∀ {pins : List (Addr × Obj)} {s : Shared} {σ : L2.St} {H : Hp} {D : Addr} {y : V} {z : Value} {Nx : Hp → Prop} {Q E : Value → Shared → Prop}, Inv X pins σ H s → RelV y z → Ad D y H Nx →
  (∀ s' H', Inv X pins σ H' s' → Nx H' → Q .none s') → wpAny (model X.prog X.w) X.A (call (.builtin "set.add") [.ref D, z]) Q E s
/-- a new set -/
noncomputable def NewOk (P : Program) (w : World) (S0 : Addr → HO) : Prop := ∀ (H : Hp) (h : Heap) (D : Addr), h.get? D = some { cls := .type "set", dict := none, data := .set #[] 0 (.fresh 0 0 (!w.params.followText "set-order")) } → ObjOk P w H h D (S0 D)
section
variable {X : Cx}
/-- one turn: the target is set, the tests are met, the member is put in -/
noncomputable def turnG (Ad : AddT) (g : TG) (tt : TT) (te : TE) (vs : List Nat) (σ : L2.St) (D : Addr) (Nx : Hp → Prop) : V → Hp → Prop := fun x H => g x (wipe σ vs) H fun σ2 H2 => wipe σ2 vs = wipe σ vs ∧ tt σ2 H2 fun b H3 =>
  if b = true then te σ2 H3 fun y H4 => Ad D y H4 Nx else Nx H3
noncomputable def tScG (S0 : Addr → HO) (Ad : AddT) (wi : TI) (g : TG) (tt : TT) (te : TE) (vs : List Nat) : TE := fun σ H Q => wi σ H fun J H1 => ∀ D, H1 D = none → ∃ W : Nat → Nat → Hp → Prop, (∃ m, W 0 m (upd H1 D (S0 D))) ∧
  ∀ i m H, W i m H → (J.stop i H ∧ Q (.ref D) H) ∨ (J.go i H ∧ ∃ Nx : Hp → Prop, (∀ H', Nx H' → ∃ m', m' < m ∧ W (i + 1) m' H') ∧ ∀ x H', J.yld i H x H' → turnG Ad g tt te vs σ D Nx x H')
theorem pe_scG {S0 : Addr → HO} {Ad : AddT} (new : NewOk X.prog X.w S0) (ad : ∀ (s : Shared) (H : Hp) (sc : Scope) (ce : Env) (fp : List Addr), AddOk (X.blk s H sc ce fp) Ad) {elt tg iter : Expr} {ifs : List Expr} {scope : Scope} {own : List (PySem.Str × Nat)} {pos : Pos} {wi : TI} {g : TG} {tt : TT} {te : TE} (nodup : X.N.Nodup) (hi : PI X tg iter wi) (blk : BlkOk X.N X.env.scope scope own)
    (hg : ∀ (s : Shared) (H : Hp) (C : Addr) (cl : List (PySem.Str × Addr)) (fp : List Addr), PG (X.blk s H scope (compEnvC scope cl C X.env) fp) tg g)
    (ht : ∀ (s : Shared) (H : Hp) (C : Addr) (cl : List (PySem.Str × Addr)) (fp : List Addr), PTs (X.blk s H scope (compEnvC scope cl C X.env) fp) ifs tt)
    (he : ∀ (s : Shared) (H : Hp) (C : Addr) (cl : List (PySem.Str × Addr)) (fp : List Addr), PE (X.blk s H scope (compEnvC scope cl C X.env) fp) elt te)
    (calm : X.calm = true := by rfl) (plain : ∀ x, foldedSetIterable iter X.env x = pure x := by intro _; rfl) : PE X (.SetComp elt [⟨tg, iter, ifs, 0⟩] scope pos) (tScG S0 Ad wi g tt te (own.map (·.2))) := by
  refine ⟨fun pins s σ H Q I asked => ?_⟩
  rw [PpSet.eval_SetComp]
  have captured : ∀ y ∈ scope.names, y.2 = .free → ∃ c, X.env.cells.lookup y.1 = some c := by
    intro y hy e
    have two := blk.free y hy e
    exact two.elim (fun k => I.ok.has _ (.inl k)) (fun k => I.ok.has _ (.inr k))
  refine wpAny_comprehension_free (use := none) rfl plain (closure_ok captured) blk.kind (fun y hy e => by rw [blk.uniq y hy, e]) (thn (hi.run pins s σ H _ I asked) fun xv s1 first => thn first fun itv s2 got => ?_)
  obtain ⟨it, fp, tn, J, H2, rfl, I2, turns, stands, apart, q⟩ := got
  refine PpSet.newSet_ok (newEnv_comp ?_)
  generalize whereD : s2.heap.objs.size = D
  have freeD : H2 D = none := I2.hok.fresh (Nat.le_of_eq whereD)
  obtain ⟨W, ⟨m0, w0⟩, each⟩ := q D freeD
  -- the new set
  generalize emptyO : (Obj.mk (.type "set") none (.set #[] 0 (.fresh 0 0 (!X.w.params.followText "set-order"))) #[] : Obj) = oS
  have atD : (s2.heap.push oS).get? D = some oS := by
    rw [← whereD, ← emptyO]
    exact Heap.get?_push_size _ rfl
  have I3 : Inv X pins σ (upd H2 D (S0 D)) { s2 with heap := s2.heap.push oS } := I2.laid (t' := s2.toks) (fun b o e => Heap.get?_push_of_some _ e) (Nat.le_of_eq whereD) (new _ _ _ (by rw [atD, ← emptyO]))
  have below : ∀ b ∈ fp, b < s2.heap.objs.size := fun b hb => let ⟨o, e, _⟩ := turns.obj _ _ stands b hb; Heap.lt_size e
  have out3 : ∀ b ∈ fp, FpOk X pins (upd H2 D (S0 D)) b ∧ b < (s2.heap.push oS).objs.size := by
    intro b hb
    have lt := below b hb
    have ne : b ≠ D := by rw [← whereD]; exact Nat.ne_of_lt lt
    refine ⟨⟨by rw [upd_ne ne]; exact (apart b hb).1, (apart b hb).2⟩, ?_⟩
    rw [Heap.size_push]
    exact Nat.lt_succ_of_lt lt
  have st3 : tn 0 (s2.heap.push oS) := turns.keep _ _ _ stands fun b _ o e => Heap.get?_push_of_some _ e
  generalize whole : ({ s2 with heap := s2.heap.push oS } : Shared) = s3 at I3
  have heap3 : s3.heap = s2.heap.push oS := by rw [← whole]
  rw [← heap3] at out3 st3
  have I4 := block_start I3 blk nodup out3
  generalize laid : upd H2 D (S0 D) = H3 at *
  have pg := hg s3 H3 s3.heap.objs.size (cellsFrom (s3.heap.objs.size + 1) scope.names (cloFrom X.env.cells scope.names [])) fp
  have pt := ht s3 H3 s3.heap.objs.size (cellsFrom (s3.heap.objs.size + 1) scope.names (cloFrom X.env.cells scope.names [])) fp
  have pe := he s3 H3 s3.heap.objs.size (cellsFrom (s3.heap.objs.size + 1) scope.names (cloFrom X.env.cells scope.names [])) fp
  show codeAny _ _ (.compStart (.SetComp elt [⟨tg, iter, ifs, 0⟩] scope pos) 0 (.ref it) (.ref D) (compEnvC scope (cellsFrom (s3.heap.objs.size + 1) scope.names (cloFrom X.env.cells scope.names [])) s3.heap.objs.size X.env)) (compPost (model X.prog X.w) X.A X.xe none (EP X pins σ Q) (.ref D) s3.heap.objs.size)
    { s3 with heap := pushCells (s3.heap.push { cls := .type "dict", data := .dict #[] }) scope.names }
  have untracked : ∀ b ∈ fp, H3 b = none := fun b hb => (out3 b hb).1.1
  generalize inner : compEnvC scope (cellsFrom (s3.heap.objs.size + 1) scope.names (cloFrom X.env.cells scope.names [])) s3.heap.objs.size X.env = ce at I4 pg pt pe ⊢
  have frame : ce.locals = s3.heap.objs.size := by rw [← inner]; rfl
  generalize begun : ({ s3 with heap := pushCells (s3.heap.push { cls := .type "dict", data := .dict #[] }) scope.names } : Shared) = s4 at I4 ⊢
  have st4 : tn 0 s4.heap := turns.keep _ _ _ st3 fun b _ o e => by
    rw [← begun]
    exact pushCells_keeps _ _ _ _ (Heap.get?_push_of_some _ e)
  have apart' : ∀ {σ' : L2.St} {H' : Hp} {s' : Shared}, Inv (X.blk s3 H3 scope ce fp) [] σ' H' s' → (∀ b ∈ fp, H' b = none) → ∀ b ∈ fp, FpOk (X.blk s3 H3 scope ce fp) [] H' b := by
    intro σ' H' s' I' un b hb
    have ex := I'.ok.exf b hb
    exact ⟨un b hb, ex.1, I'.ok.exfs b hb, .inl hb, fun x c e => ex.2 x c e, fun p hp => by simp at hp⟩
  have loop : codeAny (model X.prog X.w) X.A (.compLoop (.SetComp elt [⟨tg, iter, ifs, 0⟩] scope pos) 0 (.ref it) (.ref D) ce) (compPost (model X.prog X.w) X.A X.xe none (EP X pins σ Q) (.ref D) s3.heap.objs.size) s4 := by
    refine PpSet.compLoopS_any (fun m s' => ∃ i H', Inv (X.blk s3 H3 scope ce fp) [] (wipe σ (own.map (·.2))) H' s' ∧ tn i s'.heap ∧ (∀ b ∈ fp, H' b = none) ∧ W i m H') ?_ m0 ⟨0, H3, I4, st4, untracked, w0⟩
    rintro m s5 ⟨i, H5, I5, st5, un5, w5⟩
    rcases each i m H5 w5 with ⟨stop, answer⟩ | ⟨go, Nx, less, step⟩
    · have over := turns.done (X.blk s3 H3 scope ce fp) rfl rfl rfl calm i [] s5 _ H5 (fun _ _ => False) I5 (apart' I5 un5) st5 stop
      refine thnF over fun r s6 ⟨hr, I6⟩ => ?_
      subst hr
      have I7 : Inv X pins σ H5 s6 := I3.call' (ch := fp) I6.os I6.base I6.hok I6.bare fun b hb => by
        obtain ⟨⟨_, z1, z2, z3, z4, z5⟩, _⟩ := out3 b hb
        exact ⟨z3, z1, z4, z5⟩
      have own5 : H5 s3.heap.objs.size = none := frame ▸ (show H5 ce.locals = none from I6.free)
      obtain ⟨mm, ns0, _⟩ := I6.loc
      have ns : s6.heap.Ns s3.heap.objs.size mm := frame ▸ (show s6.heap.Ns ce.locals mm from ns0)
      have away := I3.fpOk (Nat.le_refl _) own5
      refine ⟨mm, ns, fun h'' but => ?_⟩
      obtain ⟨f0, f1, f2, f3, f4, f5⟩ := away
      exact ⟨.ref D, H5, I7.turned (t' := s6.toks) (fun b o hb e => (but.2 b hb).trans e) f0 f1 f3 f4 f5, rfl, answer⟩
    · have next := turns.item (X.blk s3 H3 scope ce fp) rfl rfl rfl calm i [] s5 _ H5 (fun _ _ => False) I5 (apart' I5 un5) st5 go
      refine thnF next fun r s6 ⟨u, hr, h6⟩ => ?_
      subst hr
      refine thnF h6 fun _ s7 ⟨x, H7, I7, r7, y7, st7, un7⟩ => ?_
      have fixed := I7.pinned (apart' I7 un7) (turns.obj _ _ st7)
      refine thnF (pg.run _ s7 _ H7 x u _ fixed r7 (step x H7 y7)) fun _ s8 ⟨σ8, H8, I8, same8, q8⟩ => ?_
      refine thnF (pt.run _ s8 σ8 H8 _ I8 q8) fun b s9 ⟨H9, I9, q9⟩ => ?_
      have close : ∀ {s' : Shared} {H' : Hp}, Inv (X.blk s3 H3 scope ce fp) ([] ++ pinsAt fp s7.heap) σ8 H' s' → Nx H' → ∃ m', m' < m ∧ ∃ i H', Inv (X.blk s3 H3 scope ce fp) [] (wipe σ (own.map (·.2))) H' s' ∧ tn i s'.heap ∧ (∀ b ∈ fp, H' b = none) ∧ W i m' H' := by
        intro s' H' I' nx
        obtain ⟨m', lt, w'⟩ := less H' nx
        have pinned : ∀ b ∈ fp, ∀ o, s7.heap.get? b = some o → s'.heap.get? b = some o ∧ H' b = none := fun b hb o e => by
          have z := I'.pin (b, o) (List.mem_append_right _ (List.mem_append_right _ (mem_pinsAt hb e)))
          exact ⟨z.1, z.2.1⟩
        have length : (wipe σ (own.map (·.2))).length = σ8.length := by rw [← same8, wipe_length]
        refine ⟨m', lt, i + 1, H', (I'.unpinned (pins := [])).weak length (fun j v e => (wipe_some (by rw [← same8] at e; exact e)).1), turns.keep _ _ _ st7 fun b hb o e => (pinned b hb o e).1, fun b hb => ?_, w'⟩
        obtain ⟨o, e, _⟩ := turns.obj _ _ st7 b hb
        exact (pinned b hb o e).2
      cases b with
      | false => exact close I9 q9
      | true =>
        refine thnF (pe.run _ s9 σ8 H9 _ I9 q9) fun z s10 ⟨yv, H10, I10, r10, nx⟩ => ?_
        refine ad _ _ _ _ _ I10 r10 nx ?_
        exact fun s11 H11 I11 n11 => close I11 n11
  exact PpSet.codeAny_compStart_set loop (turns.self X.A 0 _ _ _ st4 loop)
end
/-! ### ints -/
noncomputable def AdI (w : World) : AddT := fun D y H Nx => ∃ (k : Int) (S : Int → Bool) (n : Nat), y = .int k ∧ H D = some (SetO w D S n) ∧ n + 1 < scanBound ∧ Nx (upd H D (SetO w D (fun j => S j || decide (j = k)) (if S k = true then n else n + 1)))
theorem adI {X : Cx} : AddOk X (AdI X.w) := by
  intro pins s σ H D y z Nx Q E I r ⟨k, S, n, e, ha, room, nx⟩ next
  subst e
  obtain ⟨tk, rfl⟩ : ∃ tk, z = .int k tk := r
  refine setR_add (setO_get I ha) room fun h' sb new => next _ _ ?_ nx
  have he : ∃ u, h'.get? D = some u := by
    have ⟨o, _, _, _, ho, _⟩ := new
    exact ⟨o, ho⟩
  exact I.write (e := D) (t' := s.toks + 1) (by rw [ha]; trivial) (.inl rfl) (fun b u hb hu => (sb.2 b hb).trans hu) he (setO_new new)
noncomputable def SetI0 (w : World) (D : Addr) : HO := SetO w D (fun _ => false) 0
theorem newI {P : Program} {w : World} : NewOk P w (SetI0 w) := by
  intro H h D e
  refine setO_new ⟨_, #[], 0, _, e, ⟨rfl, rfl, rfl⟩, rfl, ?_, List.nodup_nil, fun k => ?_, by decide, rfl, rfl, List.Pairwise.nil, ?_⟩
  · intro e he
    cases he
  · constructor
    · intro z
      cases z
    · intro z
      cases z
  · cases f : w.params.followText "set-order"
    · exact .inr rfl
    · exact .inl rfl
/-! ### tuples of ints -/
noncomputable def AdP (K : PySem.W.Frag) (P : Program) (w : World) : AddT := fun D y H Nx => ∃ (a : Addr) (k : List Int) (L : List (Addr × List Int)), y = .ref a ∧ SqT K H a (k.map V.int) ∧ H D = some (L2.SetTO P w D L) ∧ (∀ p ∈ L, SqT K H p.1 (p.2.map V.int)) ∧ L.length + 1 < 64 ∧
  ∀ L', (k ∈ L.map (·.2) → L' = L) → (k ∉ L.map (·.2) → L'.Perm ((a, k) :: L)) → Nx (upd H D (L2.SetTO P w D L'))
theorem adP {X : Cx} (hu : X.A.units + 64 < cLine) : AddOk X (AdP X.K X.prog X.w) := by
  intro pins s σ H D y z Nx Q E I r ⟨a, k, L, e, hk, hD, hL, few, nx⟩ next
  subst e
  obtain rfl : z = .ref a := r
  have R0 : SetT0 X.prog X.w s.heap D L := (I.hok D _ hD).1
  obtain ⟨es, ep, t, R⟩ := R0.full fun p hp => I.isT (hL p hp)
  have hx : IsT X.prog X.w s.heap k a := I.isT hk
  obtain ⟨o, ho, hex, hd⟩ := R.ob
  refine wpAny_call_entry PySem.F.slot_set_add ⟨o, ho, hex.1⟩ PySem.F.entry_set_add ?_ (PySem.F.args_set_add_2 _ _)
  unfold Builtin.«set.add» Builtin.Frozenset.oneOther Builtin.Frozenset.addrOf setAdd
  simp only [List.isEmpty_nil, bind_assoc]
  refine wpAny_bind (wpAny_pure ?_)
  try dsimp only
  refine wpAny_bind (wpAny_pure ?_)
  try dsimp only
  refine wpAny_bind (wpAny_holding ?_)
  have u1 : X.A.in1.units < cLine := by
    show X.A.units + 1 < cLine
    omega
  refine wpAny_bind (wpAny_pyHash_tuple u1 hx ?_)
  refine add_at (s := { s with toks := s.toks + (k.length + 1) }) R hx u1 few fun b h' L' es' ep' t' sb R2 c1 c2 => ?_
  refine wpAny_pure ⟨_, rfl, next _ (upd H D (L2.SetTO X.prog X.w D L')) ?_ (nx L' c1 c2)⟩
  exact I.write (e := D) (t' := s.toks + (k.length + 1)) (by rw [hD]; trivial) (.inl rfl) (fun b u nb hu => (sb.2 b nb).trans hu) (let ⟨o, ho, _⟩ := R2.ob; ⟨o, ho⟩) (L2.setTO_new R2.t0)
theorem adPB {X : Cx} (hu : X.A.units + 64 < cLine) : ∀ (s : Shared) (H : Hp) (sc : Scope) (ce : Env) (fp : List Addr), AddOk (X.blk s H sc ce fp) (AdP X.K X.prog X.w) := fun s H sc ce fp => @adP (X.blk s H sc ce fp) hu
theorem adIB {X : Cx} : ∀ (s : Shared) (H : Hp) (sc : Scope) (ce : Env) (fp : List Addr), AddOk (X.blk s H sc ce fp) (AdI X.w) := fun s H sc ce fp => @adI (X.blk s H sc ce fp)
noncomputable def SetP0 (P : Program) (w : World) (D : Addr) : HO := L2.SetTO P w D []
theorem newP {P : Program} {w : World} : NewOk P w (SetP0 P w) := fun H h D e => L2.setTO_new (setTR_fresh (P := P) e).t0
end GL
/-! sorted of a set of pairs of ints (in some order), len of a set of ints, a set comprehension over the keys of a locked dict -/
namespace GL
open PySem PySem.Spec PyProof.Rows L2
section
variable {P : Program} {w : World} {A : Around} {E : Value → Shared → Prop} {s : Shared}
theorem isPair_of {h : Heap} {k : List Int} {b : Addr} (x : IsT P w h k b) (l : k.length = 2) : ∃ i j, Srt.IsPair h (.ref b) i j := by
  obtain ⟨o, items, n, ho, hc, hd, hi⟩ := x
  match k, l with
  | [i, j], _ =>
    cases e : items.toList with
    | nil => rw [e] at hi; cases hi
    | cons u r =>
      rw [e] at hi
      cases hi with
      | cons h1 t1 =>
        cases t1 with
        | cons h2 t2 =>
          cases t2
          obtain ⟨t, rfl⟩ := Value.isInt_shape h1
          rename_i v2
          obtain ⟨t', rfl⟩ := Value.isInt_shape h2
          have ei : items = #[.int i t, .int j t'] := by
            have z := congrArg List.toArray e
            rw [Array.toArray_toList] at z
            exact z
          subst ei
          exact ⟨i, j, b, o, t, t', n, rfl, ho, hc, hd⟩
theorem setP_sorted {a : Addr} {L : List (Addr × List Int)} {es : Array (Int × Value)} {ep : Nat} {t : SetTable} {Q : Value → Shared → Prop} (R : SetTR P w s.heap a L es ep t) (hh : A.handled = none) (two : ∀ p ∈ L, p.2.length = 2)
    (next : ∀ s' p (out : List Value) (c : Nat), (∀ b o, s.heap.get? b = some o → s'.heap.get? b = some o) → s'.gens = s.gens → s'.os = s.os → s.heap.objs.size ≤ p → s'.heap.get? p = some (seqObj "list" out.toArray c) → out.Perm (L.map fun q => Value.ref q.1) → Q (.ref p) s') :
    wpAny (model P w) A (call (.builtin "sorted") [.ref a]) Q E s := by
  obtain ⟨o, ho, hex, hd⟩ := R.ob
  have size := R.size
  have few := R.few
  refine Calls.call_function_entry kind_sorted plain_sorted entry_sorted (args_sorted1 _) ?_
  unfold Builtin.«sorted»
  refine wpAny_bind (m := checkCount "sorted" 1 1 _) (wpAny_pure ?_)
  refine wpAny_bind (collect_set (A := A.in1) hh ⟨o, ho, hex.1, hd⟩ R.fits (by unfold scanBound; omega) R.tab.ris R.led fun s1 vs keeps grows gens os perm => ?_)
  have are : es.toList.map (·.2) = L.map fun q => Value.ref q.1 := by
    rw [R.rows]
    unfold rowsOf
    rw [List.map_map]
    rfl
  rw [are] at perm
  have count : vs.length = L.length := by rw [perm.length_eq, List.length_map]
  refine wpAny_bind (wpAny_newList ?_ (by rw [count, sizeLine_eq]; omega))
  have atL : (s1.heap.push (seqObj "list" vs.toArray 0)).get? s1.heap.objs.size = some (seqObj "list" vs.toArray 0) := Heap.get?_push_size _ rfl
  refine wpAny_bind (wpAny_holding (wpAny_call_entry slot_list_sort ⟨_, atL, rfl⟩ entry_list_sort
    (Srt.list_sort_any atL (by rw [count, sizeLine_eq]; omega) (fun h2 => Srt.pairs_sortable (s := { s1 with heap := s1.heap.push (seqObj "list" vs.toArray 0) }) (by omega) (fun v hm => ?_) fun o e => ?_) fun out hp => ⟨_, rfl, ?_⟩) (args_list_sort _)))
  · obtain ⟨q, hq, e⟩ := List.mem_map.mp (perm.mem_iff.mp hm)
    obtain ⟨i, j, p⟩ := isPair_of (R.tup q hq) (two q hq)
    rw [← e]
    exact ⟨i, j, p.keeps fun b o e _ => Heap.get?_push_of_some _ (keeps b o e)⟩
  · have e' : some o = some (seqObj "list" vs.toArray 0) := e.symm.trans atL
    cases e'
    intro c
    exact absurd (Value.type.inj c) (by decide)
  · obtain ⟨c, hc⟩ := sortedHeap_at (vs := vs) (out := out.toArray) atL
    refine wpAny_pure ⟨_, rfl, next _ s1.heap.objs.size out c (fun b u e => ?_) gens os grows hc (hp.trans perm)⟩
    have q := keeps b u e
    have lt := Heap.lt_size q
    show (sortedHeap (s1.heap.push (seqObj "list" vs.toArray 0)) s1.heap.objs.size vs _).get? b = some u
    rw [sortedHeap_old (Nat.ne_of_lt lt) (by rw [size_push']; exact Nat.lt_succ_of_lt lt)]
    exact Heap.get?_push_of_some _ q
end
section
variable {X : Cx}
noncomputable def rSortedQ (K : PySem.W.Frag) (P : Program) (w : World) : List V → Hp → VK → Prop := fun vs H Q => ∃ (a : Addr) (L : List (Addr × List Int)), vs = [V.ref a] ∧ H a = some (L2.SetTO P w a L) ∧ (∀ p ∈ L, SqT K H p.1 (p.2.map V.int) ∧ p.2.length = 2) ∧
  ∀ (ys : List V) (p : Addr), ys.Perm (L.map fun q => V.ref q.1) → H p = none → Q (.ref p) (upd H p (.lst ys))
theorem call_sortedQ (calm : X.calm = true := by rfl) : CallR X (.builtin "sorted") (rSortedQ X.K X.prog X.w) := by
  intro pins s σ H vs us Q I r h
  obtain ⟨a, L, rfl, ha, two, q⟩ := h
  rw [Vals.ref1 r]
  have R0 : SetT0 X.prog X.w s.heap a L := (I.hok a _ ha).1
  obtain ⟨es, ep, t, R⟩ := R0.full fun p hp => I.isT (two p hp).1
  refine setP_sorted R (I.ok.hd calm) (fun p hp => (two p hp).2) fun s' p out c keeps gens os place at_ perm => ?_
  have refs : ∀ u ∈ out, ∃ a, u = Value.ref a := fun u hu => by
    obtain ⟨q, _, e⟩ := List.mem_map.mp (perm.mem_iff.mp hu)
    exact ⟨q.1, e.symm⟩
  have pv : (out.map backV).Perm (L.map fun q => V.ref q.1) := by
    have z := perm.map backV
    rw [List.map_map] at z
    exact z
  have len : (out.map backV).length ≤ sizeLine := by
    rw [pv.length_eq, List.length_map, sizeLine_eq]
    have := R.few
    omega
  have free : H p = none := I.hok.fresh place
  have J : Inv X pins σ (upd H p (.lst (out.map backV))) { s with heap := s'.heap, gens := s'.gens, drawn := s'.drawn, toks := s'.toks } :=
    I.call (ch := []) (Un.laid keeps place free) (I.hok.laid keeps place ⟨len, out, c, vals_back refs, at_⟩) (by rw [gens]; exact I.bare) (fun _ z => nomatch z)
  have same : s' = { s with heap := s'.heap, gens := s'.gens, drawn := s'.drawn, toks := s'.toks } := by
    obtain ⟨h', g', d', t', o'⟩ := s'
    cases os
    rfl
  rw [same]
  exact ⟨.ref p, _, J, rfl, q _ p pv free⟩
/-- len of a set of ints -/
noncomputable def rLenI (w : World) : List V → Hp → VK → Prop := fun vs H Q => ∃ (a : Addr) (S : Int → Bool) (n : Nat), vs = [V.ref a] ∧ H a = some (SetO w a S n) ∧ n < 1000 ∧ Q (.int n) H
theorem call_lenI : CallR X (.builtin "len") (rLenI X.w) := by
  intro pins s σ H vs us Q I r h
  obtain ⟨a, S, n, rfl, ha, few, q⟩ := h
  rw [Vals.ref1 r]
  obtain ⟨o, es, ep, t, ho, hex, hd, _, _, _, _, hf, hn, _⟩ := setO_get I ha
  refine call_len_set ho hex hd hf (by rw [hn]; omega) ⟨.int n, H, I.tok _, ⟨_, by rw [hn]⟩, q⟩
end
end GL
/-! loops of comprehensions over the keys of a locked dict -/
namespace GL
open PySem PySem.Spec PyProof.Rows L2
theorem valV_at {kvs : List (Key × V)} : ∀ {i : Nat} {k : Key} {v : V}, (kvs.map (·.1)).Nodup → kvs[i]? = some (k, v) → valV kvs k = some v := by
  induction kvs with
  | nil => intro i k v _ e; cases e
  | cons p r ih =>
    intro i k v nd e
    cases i with
    | zero =>
      cases e
      exact valV_pos rfl
    | succ i =>
      have e' : r[i]? = some (k, v) := e
      rw [List.map_cons, List.nodup_cons] at nd
      rw [valV_neg (fun z => nd.1 (by rw [z]; exact List.mem_map.mpr ⟨(k, v), List.mem_of_getElem? e', rfl⟩))]
      exact ih nd.2 e'
/-! ### loops of any body -/
section
variable {K : PySem.W.Frag} {a p : Addr} {od : Obj} {kvs : List (Key × V)} {xs : List V} {H0 : Hp} {Qd : Hp → Prop} {Body : V → (Hp → Prop) → Hp → Prop}
theorem loop_list (Pv : Nat → Hp → Prop) (p0 : Pv 0 H0) (still : ∀ i H, i ≤ xs.length → Pv i H → SqL K H a xs) (each : ∀ i x H, xs[i]? = some x → Pv i H → Body x (Pv (i + 1)) H) (done : ∀ H, Pv xs.length H → Qd H) :
    ∃ W : Nat → Nat → Hp → Prop, (∃ m, W 0 m H0) ∧ ∀ i m H, W i m H → ((Itl K a).stop i H ∧ Qd H) ∨ ((Itl K a).go i H ∧ ∃ Nx : Hp → Prop, (∀ H', Nx H' → ∃ m', m' < m ∧ W (i + 1) m' H') ∧ ∀ x H', (Itl K a).yld i H x H' → Body x Nx H') := by
  refine ⟨fun i m H => m = xs.length - i ∧ i ≤ xs.length ∧ Pv i H, ⟨xs.length, (Nat.sub_zero _).symm, Nat.zero_le _, p0⟩, fun i m H ⟨em, le, p⟩ => ?_⟩
  have sq := still i H le p
  rcases Nat.lt_or_eq_of_le le with lt | e
  · refine .inr ⟨⟨xs, xs[i], sq, by simp [lt]⟩, Pv (i + 1), fun H' p' => ⟨xs.length - (i + 1), by omega, rfl, lt, p'⟩, fun x H' ⟨eH, y⟩ => ?_⟩
    subst eH
    exact each i x _ (y xs sq) p
  · subst e
    exact .inl ⟨⟨xs, sq, Nat.le_refl _⟩, done H p⟩
theorem loop_tup (Pv : Nat → Hp → Prop) (p0 : Pv 0 H0) (still : ∀ i H, i ≤ xs.length → Pv i H → SqT K H a xs) (each : ∀ i x H, xs[i]? = some x → Pv i H → Body x (Pv (i + 1)) H) (done : ∀ H, Pv xs.length H → Qd H) :
    ∃ W : Nat → Nat → Hp → Prop, (∃ m, W 0 m H0) ∧ ∀ i m H, W i m H → ((Itt K a).stop i H ∧ Qd H) ∨ ((Itt K a).go i H ∧ ∃ Nx : Hp → Prop, (∀ H', Nx H' → ∃ m', m' < m ∧ W (i + 1) m' H') ∧ ∀ x H', (Itt K a).yld i H x H' → Body x Nx H') := by
  refine ⟨fun i m H => m = xs.length - i ∧ i ≤ xs.length ∧ Pv i H, ⟨xs.length, (Nat.sub_zero _).symm, Nat.zero_le _, p0⟩, fun i m H ⟨em, le, p⟩ => ?_⟩
  have sq := still i H le p
  rcases Nat.lt_or_eq_of_le le with lt | e
  · refine .inr ⟨⟨xs, xs[i], sq, by simp [lt]⟩, Pv (i + 1), fun H' p' => ⟨xs.length - (i + 1), by omega, rfl, lt, p'⟩, fun x H' ⟨eH, y⟩ => ?_⟩
    subst eH
    exact each i x _ (y xs sq) p
  · subst e
    exact .inl ⟨⟨xs, sq, Nat.le_refl _⟩, done H p⟩
theorem loop_keys (Pv : Nat → Hp → Prop) (p0 : Pv 0 H0) (still : ∀ i H, i ≤ kvs.length → Pv i H → H p = some (.frz od (.dK kvs))) (each : ∀ i k v H, kvs[i]? = some (k, v) → Pv i H → Body (kV k) (Pv (i + 1)) H) (done : ∀ H, Pv kvs.length H → Qd H) :
    ∃ W : Nat → Nat → Hp → Prop, (∃ m, W 0 m H0) ∧ ∀ i m H, W i m H → ((Itk p od kvs).stop i H ∧ Qd H) ∨ ((Itk p od kvs).go i H ∧ ∃ Nx : Hp → Prop, (∀ H', Nx H' → ∃ m', m' < m ∧ W (i + 1) m' H') ∧ ∀ x H', (Itk p od kvs).yld i H x H' → Body x Nx H') := by
  refine ⟨fun i m H => m = kvs.length - i ∧ i ≤ kvs.length ∧ Pv i H, ⟨kvs.length, by simp, Nat.zero_le _, p0⟩, ?_⟩
  rintro i m H ⟨rfl, hi, q⟩
  have here := still i H hi q
  by_cases hlt : i < kvs.length
  · refine .inr ⟨⟨here, hlt⟩, Pv (i + 1), fun H' p' => ⟨kvs.length - (i + 1), by omega, rfl, hlt, p'⟩, fun x H' y => ?_⟩
    obtain ⟨rfl, k, v, e, rfl⟩ := y
    exact each i k v _ e q
  · have e : i = kvs.length := by omega
    subst e
    exact .inl ⟨⟨here, Nat.le_refl _⟩, done H q⟩
end
section
variable {p : Addr} {od : Obj} {kvs : List (Key × V)} {g : TG} {tt : TT} {te : TE} {vs : List Nat} {σ : L2.St} {H1 : Hp} {D : Addr} {Qd : Hp → Prop}
theorem lcK (Pv : Nat → Hp → Prop) (h0 : Pv 0 (upd H1 D (.lst []))) (hl : ∀ i H, i ≤ kvs.length → Pv i H → H p = some (.frz od (.dK kvs)))
    (hs : ∀ i k v H, kvs[i]? = some (k, v) → Pv i H → g (kV k) (wipe σ vs) H fun σ2 H2 => wipe σ2 vs = wipe σ vs ∧ tt σ2 H2 fun b H3 =>
      if b = true then te σ2 H3 fun y H4 => ∃ acc, H4 D = some (.lst acc) ∧ acc.length < sizeLine ∧ Pv (i + 1) (upd H4 D (.lst (acc ++ [y]))) else Pv (i + 1) H3) (hd : ∀ H, Pv kvs.length H → Qd H) :
    ∃ W : Nat → Nat → Hp → Prop, (∃ m, W 0 m (upd H1 D (.lst []))) ∧ ∀ i m H, W i m H →
      ((Itk p od kvs).stop i H ∧ Qd H) ∨ ((Itk p od kvs).go i H ∧ ∃ Nx : Hp → Prop, (∀ H', Nx H' → ∃ m', m' < m ∧ W (i + 1) m' H') ∧ ∀ x H', (Itk p od kvs).yld i H x H' → g x (wipe σ vs) H' fun σ2 H2 => wipe σ2 vs = wipe σ vs ∧ tt σ2 H2 fun b H3 =>
        if b = true then te σ2 H3 fun y H4 => ∃ acc, H4 D = some (.lst acc) ∧ acc.length < sizeLine ∧ Nx (upd H4 D (.lst (acc ++ [y]))) else Nx H3) := by
  refine ⟨fun i m H => m = kvs.length - i ∧ i ≤ kvs.length ∧ Pv i H, ⟨kvs.length, by simp, Nat.zero_le _, h0⟩, ?_⟩
  rintro i m H ⟨rfl, hi, q⟩
  have here := hl i H hi q
  by_cases hlt : i < kvs.length
  · refine .inr ⟨⟨here, hlt⟩, Pv (i + 1), fun H' p' => ⟨kvs.length - (i + 1), by omega, rfl, hlt, p'⟩, fun x H' y => ?_⟩
    obtain ⟨rfl, k, v, e, rfl⟩ := y
    exact hs i k v _ e q
  · have e : i = kvs.length := by omega
    subst e
    exact .inl ⟨⟨here, Nat.le_refl _⟩, hd H q⟩
/-- each key gives one value -/
theorem lcK_vals (os : List V) (lo : os.length = kvs.length) (hp : H1 p = some (.frz od (.dK kvs))) (hD : H1 D = none) (few : kvs.length ≤ 1000)
    (step : ∀ (i : Nat) (k : Key) (v y : V) (H' : Hp), kvs[i]? = some (k, v) → os[i]? = some y → Same H1 H' → ∀ Q : VK, (∀ H2, Same H' H2 → Q y H2) → g (kV k) (wipe σ vs) H' fun σ2 H2 => wipe σ2 vs = wipe σ vs ∧ te σ2 H2 Q)
    (done : ∀ H', Same H1 H' → H' D = some (.lst os) → Qd H') :
    ∃ W : Nat → Nat → Hp → Prop, (∃ m, W 0 m (upd H1 D (.lst []))) ∧ ∀ i m H, W i m H →
      ((Itk p od kvs).stop i H ∧ Qd H) ∨ ((Itk p od kvs).go i H ∧ ∃ Nx : Hp → Prop, (∀ H', Nx H' → ∃ m', m' < m ∧ W (i + 1) m' H') ∧ ∀ x H', (Itk p od kvs).yld i H x H' → g x (wipe σ vs) H' fun σ2 H2 => wipe σ2 vs = wipe σ vs ∧ tYes σ2 H2 fun b H3 =>
        if b = true then te σ2 H3 fun y H4 => ∃ acc, H4 D = some (.lst acc) ∧ acc.length < sizeLine ∧ Nx (upd H4 D (.lst (acc ++ [y]))) else Nx H3) := by
  refine lcK (fun i H' => Same H1 H' ∧ H' D = some (.lst (os.take i))) ⟨Same.new hD, upd_same⟩ (fun i H _ h => h.1 _ _ hp) (fun i k v H' e ⟨s, a⟩ => ?_) (fun H' ⟨s, a⟩ => done H' s (by rw [← lo, List.take_length] at a; exact a))
  have lt := (List.getElem?_eq_some_iff.mp e).1
  obtain ⟨y, ey⟩ : ∃ y, os[i]? = some y := ⟨os[i]'(by omega), List.getElem?_eq_getElem _⟩
  simp only [tYes, if_true]
  refine step i k v y H' e ey s _ fun H2 s2 => ⟨_, s2 _ _ a, ?_, Same.over (s.trans s2) hD _, ?_⟩
  · rw [List.length_take, sizeLine_eq]
    omega
  · rw [upd_same, List.take_add_one, ey]
    rfl
end
theorem lock_out {H H' : Hp} {p : Addr} {od : Obj} {u : HO} (e : H p = some u) (s : Same (upd H p (.frz od u)) H') : Same H (upd H' p u) := fun b o h => by
  by_cases z : b = p
  · subst z
    rw [e] at h
    cases h
    exact upd_same
  · rw [upd_ne z]
    exact s b o (by rw [upd_ne z]; exact h)
/-! ### all but dicts stays -/
noncomputable def dictO : HO → Bool
  | .dK _ => true
  | .frz _ (.dK _) => true
  | _ => false
noncomputable def DK (H H' : Hp) : Prop := ∀ b o, H b = some o → dictO o = false → H' b = some o
section
variable {K : PySem.W.Frag} {H H' H2 : Hp} {D : Addr} {o u : HO} {C : Addr} {U : Bool → Addr} {t : Bool}
theorem DK.of (s : Same H H') : DK H H' := fun b o e _ => s b o e
theorem DK.trans (a : DK H H') (b : DK H' H2) : DK H H2 := fun c o e n => b c o (a c o e n) n
theorem DK.put (e : H D = some o) (d : dictO o = true) : DK H (upd H D u) := fun b v h n => by
  rw [upd_ne (fun z => by rw [z, e] at h; cases h; rw [d] at n; cases n)]
  exact h
theorem DK.wo (e : H D = some o) (d : dictO o = true) : DK H (wo D H) := fun b v h n => wo_at h (fun z => by rw [z, e] at h; cases h; rw [d] at n; cases n)
theorem sqT_dk {a : Addr} {xs : List V} (h : SqT K H a xs) (s : DK H H') : SqT K H' a xs := by
  rcases h with (z | ⟨o, z⟩) | z
  · exact .inl (.inl (s _ _ z rfl))
  · exact .inl (.inr ⟨o, s _ _ z rfl⟩)
  · exact .inr z
theorem sqL_dk {a : Addr} {xs : List V} (h : SqL K H a xs) (s : DK H H') : SqL K H' a xs := by
  rcases h with (z | ⟨o, z⟩) | z
  · exact .inl (.inl (s _ _ z rfl))
  · exact .inl (.inr ⟨o, s _ _ z rfl⟩)
  · exact .inr z
mutual
theorem dp_dk (s : DK H H') : ∀ {x : V} {d : PyData}, Dp K H x d → Dp K H' x d
  | _, _, .non => .non
  | _, _, .bl b => .bl b
  | _, _, .int i => .int i
  | _, _, .str y => .str y
  | _, _, .lst h a => .lst (sqL_dk h s) (dps_dk s a)
  | _, _, .tup h a => .tup (sqT_dk h s) (dps_dk s a)
theorem dps_dk (s : DK H H') : ∀ {xs : List V} {ds : List PyData}, DpAll K H xs ds → DpAll K H' xs ds
  | _, _, .nil => .nil
  | _, _, .cons h a => .cons (dp_dk s h) (dps_dk s a)
end
theorem GridAt.dk {g : Addr} (h : GridAt C U H g t) (s : DK H H') : GridAt C U H' g t := let ⟨dx, e⟩ := h; ⟨dx, s _ _ e rfl⟩
end
section
variable {X : Cx}
theorem call_len_seqK {K0 : PySem.W.Frag} (e : X.K = K0) : CallR X (.builtin "len") (fun xs H Q => ∃ p ys, xs = [V.ref p] ∧ (SqL K0 H p ys ∨ SqT K0 H p ys) ∧ Q (V.int (ys.length : Nat)) H) := by
  subst e
  exact call_len_seq
end
end GL
/-! list(d.values()) -/
namespace GL
open PySem PySem.Spec PyProof.Rows L2
noncomputable def rValsL : V → Hp → VK → Prop := fun x H Q => ∃ (d : Addr) (kvs : List (Key × V)), x = .ref d ∧ H d = some (.dK kvs) ∧ ∀ p, H p = none → Q (.ref p) (upd H p (.lst (kvs.map (·.2))))
noncomputable def tListVals (te : TE) : TE := fun σ H Q => te σ H fun x H1 => rValsL x H1 Q
section
variable {X : Cx} {e : Expr} {te : TE} {p pos apos cpos : Pos}
theorem pe_listVals (hc : X.calm = true) (he : PE X e te) (hg : Gl X "list") (hm : X.mg "list" = none) (hv : bootBuiltins "list" = some (.type "list")) (hbase : attributeBase e "values" X.env (eval e X.env) = eval e X.env := by rfl) (hline : (apos.endLine == cpos.line) = true := by rfl)
    (hs : starEach [.Call (.Attribute e "values" apos) [] [] cpos] X.env = (false, eval (.Call (.Attribute e "values" apos) [] [] cpos) X.env) :: starEach [] X.env := by rfl) :
    PE X (.Call (.Name "list" p) [.Call (.Attribute e "values" apos) [] [] cpos] [] pos) (tListVals te) := by
  refine ⟨fun pins s σ H Q I hq => ?_⟩
  refine wpAny_Call_Name_kw (ld_blt I hg hm hv ?_)
  refine PyProof.Rows.callWith_type1 ?_ hs rfl
  rw [hs]
  show wpAny _ _ (spliced ((false, eval (.Call (.Attribute e "values" apos) [] [] cpos) X.env) :: backTo pos (starEach [] X.env))) _ _ s
  refine Calls.spliced_cons ?_
  refine wpAny_Call_method (T := "dict") (id := "dict.values") hbase rfl hline F.plainAttrs_dict F.slot_dict_values F.type_dict_values (thn (he.run pins s σ H _ I hq) fun u s1 ⟨x, H1, I1, rx, d, kvs, ex, hd, q⟩ => ?_)
  subst ex
  obtain rfl : u = Value.ref d := rx
  obtain ⟨hz, hs0, vs, kv, hdo⟩ := I1.hok d _ hd
  obtain ⟨ep, hat⟩ := hdo.dictAt
  have lk : kvs.length = vs.length := Paired.length kv
  have I2 : Inv X pins σ H1 { s1 with heap := s1.heap.push { cls := .type "dict_values", data := .fields #[.ref d] } } := I1.kept (t' := s1.toks) fun b ob q => Heap.get?_push_of_some _ q
  refine ⟨hdo.typeIs, hdo.mapOf.noDict, ?_⟩
  show wpAny _ _ (callWith cpos (.builtin "dict.values") [.ref d] [] []) _ X.xe s1
  refine method_meetsIn F.slot_dict_values F.entry_dict_values rfl (PySem.evalArgs_none ⟨rfl, hdo.typeIs, F.args_dict_values_1 _, _, meets_dict_values (mixKind X.prog X.w) d hs0, ⟨vs, hdo⟩, ?_⟩)
  refine Calls.spliced_nil ?_
  refine PySem.W.kdl_call (PySem.W.kdl_values (knd := mixKind X.prog X.w) (kvs := vs) (ep := ep)) (I1.ok.hd hc) ⟨⟨_, Heap.get?_push_size _ rfl, rfl, rfl⟩, hat.push _⟩ (by omega) fun h' tk acc' c' hkeep hS hacc => ?_
  refine ⟨.ref _, upd H1 _ (.lst (kvs.map (·.2))), I2.laid (t' := tk) hkeep (Nat.le_refl _) (show ObjOk X.prog X.w _ _ _ (.lst (kvs.map (·.2))) from ⟨?_, acc'.toList, c', ?_, ?_⟩), rfl, q _ (I2.hok.fresh (Nat.le_refl _))⟩
  · rw [List.length_map]; exact hz
  · have el : acc'.toList.length = acc'.size := by simp
    refine vals_of_at (by rw [List.length_map, el, hacc.1, lk]) fun j x w h1 h2 => ?_
    obtain ⟨k, hky⟩ := hacc.2 j w (by rw [← Array.getElem?_toList]; exact h2)
    rw [List.getElem?_map] at h1
    cases ek : kvs[j]? with
    | none => rw [ek] at h1; cases h1
    | some pk =>
      rw [ek] at h1
      cases h1
      obtain ⟨qv, g1, g2, g3⟩ := LiI.paired_get kv ek
      rw [hky] at g1
      cases g1
      exact g3
  · rw [Array.toArray_toList]; exact hS
end
end GL
/-! a class that is called and may raise, what is let out told at the slots of the call -/
namespace GL
open PySem PySem.Spec PyProof.Rows L2
section
variable {X : Cx} {CX : CXT} {k : Nat} {f C : Addr} {fd : FuncData} {ps : List Str} {sp : Sp} {E : L2.St → XK} {x : Str} {p pos : Pos} {e : Expr} {es : List Expr} {t : TA}
noncomputable def tMakeS (C : Addr) (sp : Sp) (E : L2.St → XK) (t : TA) : TE := fun σ H Q => tMake C sp [] (E σ) t σ H Q
end
/-! ### a dict that is not {} -/
section
variable {X : Cx}
noncomputable def rNeNil : R2 := fun x y H Q => ∃ a b ks, x = .ref a ∧ y = .ref b ∧ H a = some (.dK ks) ∧ H b = some (.dK []) ∧ Q (.bl (!decide (ks.length = 0))) H
end
end GL
/-! classmethods with *args, called with stars or without -/
namespace GL
open PySem PySem.Spec PyProof.Rows L2
/-- a def called with any number of arguments -/
structure FnGv (P : Program) (w : World) (K : PySem.W.Frag) (mg : Str → Option Value) (base : Heap) (CX : CXT) (k : Nat) (f : Addr) (sp : Sp) : Prop where
  go : ∀ {A : Around} {outer : List Env} {s : Shared} {H : Hp} {us : List Value} {vs : List V} {Q : VK} {E : XK}, Gd A → Room k A → Env0 P w K mg base A outer s H → Vals vs us → sp vs H Q E → codeAny (model P w) A (.call (.ref f) ⟨us, []⟩) (CR CX outer P w H s Q E) s
/-- what a star parameter makes of a promise -/
noncomputable def StarP (ps : List Str) (sp : Sp) : Sp := fun vs H Q E => ∃ ws rest, vs = ws ++ rest ∧ ws.length = ps.length ∧ rest.length ≤ sizeLine ∧ ∀ p, H p = none → sp (ws ++ [V.ref p]) (upd H p (.tup rest)) Q E
section
variable {P : Program} {w : World} {K : PySem.W.Frag} {mg : Str → Option Value} {base : Heap} {CX : CXT} {k : Nat} {f : Addr} {fd : FuncData} {ps N : List Str} {sp : Sp} {x qual pv : Str} {st : Stmt}
theorem fnGv_star (F : Fun K x qual st f fd) (S : FnScope N (ps ++ [pv]) (defScope st)) (hCX : StX.CXUp CX)
    (hb : ∀ (kV doc pm : Value) (an : Option Addr) (cdv ct : Value) (us rest : List Value), us.length = ps.length → bindArgs (PySem.W.fnOf x qual (defArgs st) (defBody st) (defScope st) .none kV doc pm an cdv ct) ⟨us ++ rest, []⟩ = (newTuple rest >>= fun t => pure (ps.zip us ++ [(pv, t)])))
    (body : ∀ (cdv : Value) (A : Around) (outer : List Env) (s : Shared) (H : Hp) (vs : List V) (Q : VK) (E : XK), Gd A → Room k (A.deeper (envOfC qual (defScope st) s.heap.objs.size f cdv)) → sp vs H Q E →
      ∃ t, PSs (cxOf CX P w K mg base N qual (defScope st) f cdv A outer s H E) (defBody st) t ∧ t { nx := fun _ H' => Q .non H', rt := Q } (start N vs) H) :
    FnGv P w K mg base CX (k + 1) f (StarP ps sp) := by
  obtain ⟨oc, od, kV, doc, pm, an, cdv, ct, osl, eF, lk, hcd⟩ := F.ex
  subst eF
  constructor
  intro A outer s H us vs Q E g hr e0 r hsp
  obtain ⟨ws, rest, ev, hl, hz, hq⟩ := hsp
  subst ev
  obtain ⟨u1, u2, eu, r1, r2⟩ := StX.vals_split r
  subst eu
  have hn : H s.heap.objs.size = Option.none := e0.hok.fresh (Nat.le_refl _)
  have hl1 : u1.length = ps.length := by rw [← r1.length]; exact hl
  have hl2 : u2.length ≤ sizeLine := by rw [← r2.length]; exact hz
  refine StX.run_bnd lk hcd S hr e0 (G := fun xs H2 => ∃ p, H p = Option.none ∧ xs = ws ++ [V.ref p] ∧ H2 = upd H p (.tup rest)) (fun A' Ex Q' h => ?_) fun s2 H2 xs ⟨p, hp, ex, eH⟩ hr' => ?_
  · rw [hb kV doc pm an cdv ct u1 u2 hl1]
    refine wpAny_bind (wpAny_newTuple (wpAny_pure ?_) hl2)
    have new : ObjOk P w (upd H s.heap.objs.size (.tup rest)) (s.heap.push ({ cls := .type "tuple", data := .seq u2.toArray } : Obj)) s.heap.objs.size (.tup rest) := ⟨hz, u2, r2, ⟨_, Heap.get?_push_size _ rfl, rfl, _, rfl⟩⟩
    have un := StX.un_laid (fs := frs outer) (s := s) (o := ({ cls := .type "tuple", data := .seq u2.toArray } : Obj)) (u := .tup rest) hn
    have z := h _ _ (ws ++ [V.ref s.heap.objs.size]) (u1 ++ [Value.ref s.heap.objs.size]) (StX.env0_laid e0 new) un rfl (fun e s' => hCX outer s H _ _ E e s' un (fun b o q => Heap.get?_push_of_some _ q) rfl) (r1.append (.cons rfl .nil))
      (by rw [List.length_append, List.length_append, hl] <;> rfl) ⟨_, hn, rfl, rfl⟩
    rw [List.zip_append hl1.symm] at z
    exact z
  · subst ex eH
    exact body cdv A outer s2 _ _ Q E g hr' (hq p hp)
end
/-- a classmethod called with any number of arguments -/
structure HasCMv (P : Program) (w : World) (K : PySem.W.Frag) (mg : Str → Option Value) (base : Heap) (CX : CXT) (C : Addr) (m : Str) (k : Nat) (sp : Sp) : Prop where
  ex : ∃ g mc p, FnGv P w K mg base CX k g sp ∧ ClX.CRead K C mc ∧ ClX.CMet K C mc m p g
theorem Dcm.hasV {P : Program} {w : World} {K : PySem.W.Frag} {mg : Str → Option Value} {base : Heap} {C : Addr} {m qual pv : Str} {st : Stmt} {N ps : List Str} {k : Nat} {sp : Sp} (D : Dcm K C m qual st) (S : FnScope N (ps ++ [pv]) (defScope st))
    (hb : ∀ (kV doc pm : Value) (an : Option Addr) (cdv ct : Value) (us rest : List Value), us.length = ps.length → bindArgs (PySem.W.fnOf m qual (defArgs st) (defBody st) (defScope st) .none kV doc pm an cdv ct) ⟨us ++ rest, []⟩ = (newTuple rest >>= fun t => pure (ps.zip us ++ [(pv, t)])))
    (body : ∀ (f : Addr) (cdv : Value) (A : Around) (outer : List Env) (s : Shared) (H : Hp) (vs : List V) (Q : VK) (E : XK), Gd (A.deeper (envOfC qual (defScope st) s.heap.objs.size f cdv)) → Room k (A.deeper (envOfC qual (defScope st) s.heap.objs.size f cdv)) → sp vs H Q E →
      ∃ t, PSs (cxOf (L2.CX P w) P w K mg base N qual (defScope st) f cdv A outer s H E) (defBody st) t ∧ t { nx := fun _ H' => Q .non H', rt := Q } (start N vs) H) : HasCMv P w K mg base (L2.CX P w) C m (k + 1) (StarP ps sp) := by
  obtain ⟨f, fd, mc, p, F, r, c⟩ := D.ex
  exact ⟨f, mc, p, fnGv_star F S StX.cxUp hb (body f), r, c⟩
section
variable {X : Cx} {CX : CXT} {k : Nat} {C p g f : Addr} {mc : Value} {m x : Str} {sp : Sp} {E : XK} {o e : Expr} {es : List Expr} {ta : TE} {t : TA} {pos apos pv_ : Pos}
theorem run_cmGv {pins : List (Addr × Obj)} {σ : L2.St} {H : Hp} {s : Shared} {Q : VK} {us : List Value} {vs : List V} {q : Addr} (F : FnGv X.prog X.w X.K X.mg X.base CX k g sp) (gd : Gd X.A) (hr : Room k X.A) (hx : Passes CX X E) (I : Inv X ((q, PySem.W.methodObj (.ref g) (.ref C)) :: pins) σ H s)
    (r : Vals vs us) (h : sp (.ref C :: vs) H Q E) : wpAny (model X.prog X.w) X.A (call (.ref q) us) (EP X pins σ Q) X.xe s := by
  have rr : Vals (V.ref C :: vs) (Value.ref C :: us) := .cons rfl r
  have z : wpAny (model X.prog X.w) X.A (call (.ref q) us) (EP X ((q, PySem.W.methodObj (.ref g) (.ref C)) :: pins) σ Q) X.xe s := by
    refine wpAny_call (PySem.W.method_call (ClX.pin_at I) ?_)
    refine codeAny_mono (F.go gd hr I.env0 rr h) fun res s' hq => ?_
    cases res with
    | error e => exact hx _ σ H s e s' I hq
    | ok fl =>
      cases fl with
      | ret u => exact I.after hq
      | next => exact False.elim hq
      | brk => exact False.elim hq
      | cont => exact False.elim hq
  exact thn z fun _ _ y => ClX.unpinE y
/-- C.m(a, ..), m a classmethod with a star parameter, no star in the call -/
theorem pe_cmethGv {pl : Sem Bool} (he : PE X o ta) (h : HasCMv X.prog X.w X.K X.mg X.base CX C m k sp) (gd : Gd X.A) (hr : Room k X.A) (hx : Passes CX X E) (ha : PA X (e :: es) t)
    (hst : starEach (e :: es) X.env = (false, eval e X.env) :: starEach es X.env := by rfl) (hpl : (backTo pos (starEach es X.env)).any (·.1) = false := by rfl)
    (ht : eval (.Call (.Attribute o m apos) (e :: es) [] pos) X.env = ((eval o X.env).bind fun ov => (standAt apos.atName).bind fun _ => (holding [ov] (getMethod ov m pl)).bind fun fm =>
      callWith pos fm.1 fm.2 (backTo pos (starEach (e :: es) X.env)) (backToKw pos (keywordEach [] X.env))) := by rfl) :
    PE X (.Call (.Attribute o m apos) (e :: es) [] pos) (ClX.tCMeth C sp E ta t) := by
  obtain ⟨g, mc, p, F, r, c⟩ := h.ex
  refine ⟨fun pins s σ H Q I h => ?_⟩
  refine PySem.W.methodCall_KW (pl := pl) (thn (he.run pins s σ H _ I h) fun u s1 ⟨x, H1, I1, rx, ex, q⟩ => ?_) ht
  subst ex
  obtain rfl : u = Value.ref C := rx
  refine ClX.getmethcm_ok I1 r c fun s2 I2 => ?_
  refine ClX.callwith_cm I2 (ClX.base_none I1 (Nat.le_refl _)) c.fi (thn (ha.run pos _ s2 σ H1 _ I2 q) fun us s3 ⟨vs, H2, I3, rv, q2⟩ => ⟨⟨ClX.pin_at I3, I3.kIn⟩, ?_⟩) hst hpl
  exact run_cmGv F gd hr hx I3 rv q2
/-- C.m(*a) -/
noncomputable def tCMeth1 (K : PySem.W.Frag) (C : Addr) (sp : Sp) (E : XK) (ta te : TE) : TE := fun σ H Q => ta σ H fun x H1 => x = .ref C ∧ te σ H1 fun y H2 => ∃ a xs, y = .ref a ∧ (SqT K H2 a xs ∨ SqL K H2 a xs) ∧ sp (.ref C :: xs) H2 Q E
end
section
variable {X : Cx} {CX : CXT} {k : Nat} {C : Addr} {x : Str} {ps : List Str} {sp : Sp} {E : XK} {e : Expr} {es : List Expr} {t : TA} {pos pv_ : Pos}
/-- x(e, ..), x a local variable that holds a class whose __init__ may raise -/
theorem pe_makeVX {i : Nat} (h : HasGX X.prog X.w X.K X.mg X.base CX x C k ps sp) (gd : Gd X.A) (hr : Room (k + 1) X.A) (hx : Passes CX X E) (ha : PA X (e :: es) t) {y : Str} (hN : X.N[i]? = some y := by rfl) (hv : Vis X.env.scope y := by exact .inl rfl)
    (hd : (y == ("__debug__" : Str)) = false := by decide) (hcd : (y == ("__classdict__" : Str)) = false := by decide) (he : starEach (e :: es) X.env = (false, eval e X.env) :: starEach es X.env := by rfl) (hpl : (backTo pos (starEach es X.env)).any (·.1) = false := by rfl) :
    PE X (.Call (.Name y pv_) (e :: es) [] pos) (tMakeV i C sp E t) := by
  obtain ⟨f, fd, F, m, M, b⟩ := h.ex
  refine ⟨fun pins s σ H Q I q => ?_⟩
  obtain ⟨slot, q⟩ := q
  refine wpAny_Call_Name_kw (thn ((pe_var (pos := pv_) (i := i) hN hv hd hcd).run pins s σ H (fun v H1 => v = .ref C ∧ H1 = H) I ⟨.ref C, slot, rfl, rfl⟩) fun u s1 ⟨v, H1, I1, r1, q1⟩ => ?_)
  obtain ⟨ev, eH⟩ := q1
  subst ev
  rw [eH] at I1
  obtain rfl : u = Value.ref C := r1
  refine PySem.W.callWith_K (h₀ := X.base) I1.ok.mod.kin M.kp (thn (ha.run pos pins s1 σ H _ I1 q) fun us s2 ⟨vs, H2, I2, r, q2⟩ => ?_) he hpl
  exact ⟨I2.kIn, run_makeG M F gd hr b hx I2 r q2⟩
end
end GL
/-! name = {k: v for ..} on one line, the name a local -/
namespace GL
open PySem PySem.Spec PyProof.Rows L2
section
variable {X : Cx}
theorem sw_trueD {kx vx : Expr} {gs : List Comprehension} {scope : Scope} {pos py : Pos} {y : Str} {l : Nat} {env : Env} (hk : env.scope.kind = .function) (hy : env.scope.names.lookup y = some .local) (hl : (py.line == pos.line) = true)
    (ha : (scope.names.any fun (n, k) => n == y && (k == .local || k == .cell)) = false) : swapsWith (.DictComp kx vx gs scope pos) (some (.Name y py)) l env = pure true := by
  have ky : env.kindOf y = some .local := hy
  have hb : env.blockKind = .function := by unfold Env.blockKind; rw [hk]; rfl
  unfold swapsWith
  simp only [hb, ky, ha, Expr.pos, hl]
  rfl
theorem ps_setDc {i : Nat} {y : Str} {py : Pos} {kx vx tg iter : Expr} {ifs : List Expr} {scope : Scope} {own : List (Str × Nat)} {pos spos : Pos} {wi : TI} {g : TG} {tt : TT} {tk tv : TE} (hc : X.calm = true) (hN : X.N.Nodup) (hy : X.N[i]? = some y) (hyl : X.env.scope.names.lookup y = some .local)
    (hsw : swapsWith (.DictComp kx vx [⟨tg, iter, ifs, 0⟩] scope pos) (some (.Name y py)) spos.line X.env = pure true) (hi : PI X tg iter wi) (ok : BlkOk X.N X.env.scope scope own)
    (hg : ∀ (s : Shared) (H : Hp) (C : Addr) (cl : List (Str × Addr)) (fp : List Addr), PG (X.blk s H scope (compEnvC scope cl C X.env) fp) tg g) (ht : ∀ (s : Shared) (H : Hp) (C : Addr) (cl : List (Str × Addr)) (fp : List Addr), PTs (X.blk s H scope (compEnvC scope cl C X.env) fp) ifs tt)
    (hk : ∀ (s : Shared) (H : Hp) (C : Addr) (cl : List (Str × Addr)) (fp : List Addr), PE (X.blk s H scope (compEnvC scope cl C X.env) fp) kx tk)
    (he : ∀ (s : Shared) (H : Hp) (C : Addr) (cl : List (Str × Addr)) (fp : List Addr), PE (X.blk s H scope (compEnvC scope cl C X.env) fp) vx tv) (hs : ∀ x, foldedSetIterable iter X.env x = pure x := by intro _; rfl) :
    PS X (.Assign [.Name y py] (.DictComp kx vx [⟨tg, iter, ifs, 0⟩] scope pos) spos) (tAsg (tDc wi g tt tk tv (own.map (·.2))) (gName i)) := by
  refine ⟨fun pins s σ H D I h => ?_⟩
  rw [exec_Assign_Name_used _ _ _ _ hsw]
  refine wpAny_bind (wpAny_standAt (wpAny_bind ?_))
  show wpAny _ X.A (do let _ ← comprehension (.DictComp kx vx [⟨tg, iter, ifs, 0⟩] scope pos) scope X.env (firstIterPos [⟨tg, iter, ifs, 0⟩] pos) newDict false (eval iter X.env) (some (assign (.Name y py) X.env))) _ _ s
  have h : tDc wi g tt tk tv (own.map (·.2)) σ H (fun x H1 => gName i x σ H1 D.nx) := h
  refine wpAny_bind (thn (dc_core (Qf := fun _ s' => SP X pins D .next s') hc hN I hi ok hg ht hk he hs h fun L C s' m H' I' q hn f => ?_) fun _ s' hq => wpAny_pure (wpAny_pure hq))
  show wpAny _ _ (assign (.Name y py) X.env (.ref L)) _ _ _
  refine wpAny_assign_Name (store_ok2 (v := V.ref L) I' hN hy (.inl hyl) rfl (fun s2 I2 ⟨a, sb, ha⟩ => ?_) (.inr hyl))
  obtain ⟨f0, f1, f2, f3, f4, f5⟩ := f
  have haC : C ≠ a := by
    rcases ha with z | z
    · rw [z]; exact f1
    · exact fun e => f4 y a z e.symm
  refine ⟨m, hn.sameBut sb haC, fun h3 sb3 => ?_⟩
  exact ⟨_, H', I2.turned (t' := s2.toks) (fun b o hb e => (sb3.2 b hb).trans e) f0 f1 f3 f4 f5, q⟩
end
end GL
/-! enumerate over a tuple -/
namespace GLEn
open PySem
open PySem.Sem (wp)
open AutoSeq1 (wpAny_loadPart')
noncomputable abbrev tIt (h : Heap) (l : Addr) : Heap := h.push { cls := .type "tuple_iterator", data := .fields #[.ref l, .int 0 0] }
noncomputable abbrev tEn (h : Heap) (l : Addr) : Heap := (tIt h l).push { cls := .type "enumerate", data := .fields #[.none, .bool false, .ref h.objs.size, rawInt 0, .none, .none] }
theorem newT (l : Addr) (xs : Array Value) : Meets (Builtin.«enumerate.__new__» ⟨[.type "enumerate", .ref l], []⟩) (fun _ R s => s.heap.IsTuple l xs ∧ R (.ok (.ret (.ref (tIt s.heap l).objs.size))) { s with heap := tEn s.heap l }) :=
  .of_wp fun prog w A R s h => by
    obtain ⟨hp, g, d, tk, os⟩ := s
    obtain ⟨hl, h⟩ := h
    have sub := sub_enumerate
    have L : Heap.IsTuple (Shared.heap ⟨hp, g, d, tk, os⟩) l xs := hl
    obtain ⟨ob, gt, c1, n, c2⟩ := hl
    wp_walk using wpAny_loadPart' gt
    refine wpAny_stack_any fun st => wpAny_pure ?_
    split
    · rename_i c _ _ _ _ _
      cases (c == Value.type "enumerate")
      · wp_walk using wpAny_loadPart' gt, wpAny_pyIter_tuple L
        exact ⟨_, rfl, h⟩
      · wp_walk using wpAny_loadPart' gt, wpAny_pyIter_tuple L
        exact ⟨_, rfl, h⟩
    · wp_walk using wpAny_loadPart' gt, wpAny_pyIter_tuple L
      exact ⟨_, rfl, h⟩
section
variable {prog : Program} {w : World} {A : Around} {E : Value → Shared → Prop} {s : Shared}
theorem callT {l : Addr} {xs : Array Value} {Q : Value → Shared → Prop} (L : s.heap.IsTuple l xs)
    (h : ∀ h', IsEnum h' (s.heap.objs.size + 1) s.heap.objs.size 0 .none → h'.IsTupleIter s.heap.objs.size l 0 → (∀ b o, s.heap.get? b = some o → h'.get? b = some o) → Q (.ref (s.heap.objs.size + 1)) { s with heap := h' }) :
    wpAny (model prog w) A (call (.type "enumerate") [.ref l]) Q E s := by
  refine callType_new F.called_enumerate (by decide) (F.typeCall_enumerate_1 _) (F.newCall_enumerate_1 _) (fun ob => F.args_object_init_2 ob _) F.entry_enumerate_new (newT l xs) ⟨L, ?_⟩
  have one : (tIt s.heap l).objs.size = s.heap.objs.size + 1 := Heap.size_push ..
  have at1 : (tEn s.heap l).get? (tIt s.heap l).objs.size = some _ := Heap.get?_push_size _ rfl
  have at0 : (tEn s.heap l).get? s.heap.objs.size = some _ := Heap.get?_push_of_some _ (Heap.get?_push_size _ rfl)
  show _ ∧ _
  rw [one] at at1 ⊢
  exact ⟨⟨_, at1, rfl⟩, h _ at1 ⟨_, at0, rfl, rfl⟩ fun b o x => Heap.get?_push_of_some _ (Heap.get?_push_of_some _ x)⟩
theorem nextT {e it l : Addr} {i : Nat} {xs : Array Value} {x old : Value} {Q : Value → Shared → Prop} (he : IsEnum s.heap e it i old) (hi : s.heap.IsTupleIter it l i) (hl : s.heap.IsTuple l xs) (hx : xs[i]? = some x) (hne : e ≠ it)
    (hQ : ∀ h', IsEnumOut h' e it ((i : Int) + 1) x s.heap.objs.size → h'.IsTupleIter it l (i + 1) → h'.get? s.heap.objs.size = some { cls := .type "tuple", data := .seq #[.int i s.toks, x] } →
      (∀ b o, b ≠ e → b ≠ it → s.heap.get? b = some o → h'.get? b = some o) → Q (.ref s.heap.objs.size) { s with heap := h', toks := s.toks + 1 }) :
    wpAny (model prog w) A (Builtin.«enumerate.__next__» ⟨[.ref e], []⟩) (fun fin s' => ∃ v, fin = .done (.ret v) ∧ Q v s') E s := by
  obtain ⟨hp, g, d, tk, os⟩ := s
  show wpAny _ _ (field (.ref e) 2 >>= _) _ _ _
  refine wpAny_bind (wpAny_field he rfl (x := .ref it) rfl ?_)
  refine wpAny_bind (RZ.nextOf_tuple_item hi hl hx fun h1 hi1 k1 => ?_)
  replace k1 : Heap.SameBut it hp h1 := k1
  have e1 : IsEnum h1 e it i old := (k1.2 e hne).trans he
  show wpAny _ _ (field (.ref e) 3 >>= _) _ _ ⟨h1, g, d, tk, os⟩
  refine wpAny_bind (wpAny_field e1 rfl (x := rawInt i) rfl ?_)
  show wpAny _ _ (field (.ref e) 4 >>= _) _ _ ⟨h1, g, d, tk, os⟩
  refine wpAny_bind (wpAny_field e1 rfl (x := .none) rfl ?_)
  show wpAny _ _ (mkInt i >>= _) _ _ ⟨h1, g, d, tk, os⟩
  refine wpAny_bind (wpAny_mkInt ?_)
  show wpAny _ _ (setField (.ref e) 3 (rawInt ((i : Int) + 1)) >>= _) _ _ ⟨h1, g, d, tk + 1, os⟩
  refine wpAny_bind (wpAny_setField_rec e1 (by simp) fun h2 e2 k2 => ?_)
  replace k2 : Heap.SameBut e h1 h2 := k2
  replace e2 : IsEnum h2 e it ((i : Int) + 1) old := e2
  show wpAny _ _ (setField (.ref e) 4 .none >>= _) _ _ ⟨h2, g, d, tk + 1, os⟩
  refine wpAny_bind (wpAny_setField_rec e2 (by simp) fun h3 e3 k3 => ?_)
  replace k3 : Heap.SameBut e h2 h3 := k3
  replace e3 : IsEnum h3 e it ((i : Int) + 1) old := e3
  show wpAny _ _ (newTuple [.int i tk, x] >>= _) _ _ ⟨h3, g, d, tk + 1, os⟩
  refine wpAny_bind (wpAny_newTuple ?_)
  have e4 : IsEnum (h3.push { cls := .type "tuple", data := .seq #[.int i tk, x] }) e it ((i : Int) + 1) old := Heap.get?_push_of_some _ e3
  generalize eh4 : h3.push { cls := .type "tuple", data := .seq #[.int i tk, x] } = h4 at e4
  have sz : h3.objs.size = hp.objs.size := by rw [k3.1, k2.1, k1.1]
  have lt : e < hp.objs.size := Heap.lt_size he
  have t4 : h4.get? hp.objs.size = some { cls := .type "tuple", data := .seq #[.int i tk, x] } := by rw [← eh4, ← sz]; exact Heap.get?_push_size _ rfl
  have rest4 : ∀ b o, b ≠ e → b ≠ it → hp.get? b = some o → h4.get? b = some o := fun b o n1 n2 q => by
    rw [← eh4]
    exact Heap.get?_push_of_some _ (k3.extBut b o n1 (k2.extBut b o n1 (k1.extBut b o n2 q)))
  have it4 : h4.IsTupleIter it l (i + 1) := by
    rw [← eh4]
    obtain ⟨o, ho, r⟩ := (hi1.extBut k2.extBut (Ne.symm hne)).extBut k3.extBut (Ne.symm hne)
    exact ⟨o, Heap.get?_push_of_some _ ho, r⟩
  show wpAny _ _ (Builtin.SmallTypes.ownedTupleIsFree (.ref e) >>= _) _ _ ⟨h4, g, d, tk + 1, os⟩
  rw [sz]
  clear eh4 e3 k3 e2 k2 e1 k1 hi1 sz h3 h2 h1
  refine wpAny_bind ?_
  unfold Builtin.SmallTypes.ownedTupleIsFree
  refine wpAny_bind (wpAny_field e4 rfl (x := .none) rfl (wpAny_pure ?_))
  simp only [if_true]
  refine wpAny_bind (wpAny_rule ?_)
  refine wpAny_bind (wpAny_field e4 rfl (x := old) rfl ?_)
  refine wpAny_bind (wpAny_setField_rec e4 (by simp) fun h5 e5 k5 => ?_)
  replace k5 : Heap.SameBut e h4 h5 := k5
  replace e5 : IsEnum h5 e it ((i : Int) + 1) x := e5
  show wpAny _ _ (Builtin.SmallTypes.ownedTupleHandOut (.ref e) (.ref hp.objs.size) >>= _) _ _ ⟨h5, g, d, tk + 1, os⟩
  refine wpAny_bind ?_
  unfold Builtin.SmallTypes.ownedTupleHandOut
  refine wpAny_bind (wpAny_setField_rec e5 (by simp) fun h6 e6 k6 => ?_)
  replace k6 : Heap.SameBut e h5 h6 := k6
  replace e6 : IsEnumOut h6 e it ((i : Int) + 1) x hp.objs.size := e6
  refine wpAny_setField_rec e6 (by simp) fun h7 e7 k7 => ?_
  replace k7 : Heap.SameBut e h6 h7 := k7
  replace e7 : IsEnumOut h7 e it ((i : Int) + 1) x hp.objs.size := e7
  refine wpAny_bind (wpAny_letGo (wpAny_pure ⟨_, rfl, hQ h7 e7 ?_ ?_ ?_⟩))
  · exact ((it4.extBut k5.extBut (Ne.symm hne)).extBut k6.extBut (Ne.symm hne)).extBut k7.extBut (Ne.symm hne)
  · exact k7.extBut _ _ (Nat.ne_of_gt lt) (k6.extBut _ _ (Nat.ne_of_gt lt) (k5.extBut _ _ (Nat.ne_of_gt lt) t4))
  · exact fun b o n1 n2 q => k7.extBut b o n1 (k6.extBut b o n1 (k5.extBut b o n1 (rest4 b o n1 n2 q)))
theorem itemT {e it l : Addr} {i : Nat} {xs : Array Value} {x old : Value} {Q : Option Value → Shared → Prop} (he : IsEnum s.heap e it i old) (hi : s.heap.IsTupleIter it l i) (hl : s.heap.IsTuple l xs) (hx : xs[i]? = some x) (hne : e ≠ it)
    (hQ : ∀ h', IsEnumOut h' e it ((i : Int) + 1) x s.heap.objs.size → h'.IsTupleIter it l (i + 1) → h'.get? s.heap.objs.size = some { cls := .type "tuple", data := .seq #[.int i s.toks, x] } →
      (∀ b o, b ≠ e → b ≠ it → s.heap.get? b = some o → h'.get? b = some o) → Q (some (.ref s.heap.objs.size)) { s with heap := h', toks := s.toks + 1 }) : wpAny (model prog w) A (pyNext (.ref e)) Q E s := by
  have ty : s.TypeIs (.ref e) "enumerate" := ⟨_, he, rfl⟩
  unfold pyNext
  exact wpAny_bind (wpAny_attempt (wpAny_callSpecial?_slot (name := Str.ofString "__next__") ty F.slot_enumerate_next (wpAny_call_entry F.slot_enumerate_next ty F.entry_enumerate_next (nextT he hi hl hx hne fun h' a b c k => wpAny_pure (hQ h' a b c k)) (F.args_enumerate_next_1 _))))
theorem endT {e it l : Addr} {i : Nat} {xs : Array Value} {old : Value} {Q : Option Value → Shared → Prop} (hh : A.handled = none) (he : IsEnum s.heap e it i old) (hi : s.heap.IsTupleIter it l i) (hl : s.heap.IsTuple l xs) (hx : xs[i]? = none)
    (hQ : ∀ h', Heap.ExtBut it s.heap h' → Q none { s with heap := h' }) : wpAny (model prog w) A (pyNext (.ref e)) Q E s := by
  have ty : s.TypeIs (.ref e) "enumerate" := ⟨_, he, rfl⟩
  unfold pyNext
  refine wpAny_bind (wpAny_attempt (wpAny_callSpecial?_slot (name := Str.ofString "__next__") ty F.slot_enumerate_next (wpAny_call_entry F.slot_enumerate_next ty F.entry_enumerate_next ?_ (F.args_enumerate_next_1 _))))
  show wpAny _ _ (field (.ref e) 2 >>= _) _ _ _
  refine wpAny_bind (wpAny_field he rfl (x := .ref it) rfl ?_)
  refine wpAny_bind (RZ.nextOf_tuple_end hh hi hl hx fun h' x k ⟨o, ho, hc⟩ => ?_)
  refine wpAny_bind (wpAny_isInstance (T := "StopIteration") (b := true) ⟨o, ho, hc⟩ isSubtype_stop ?_)
  exact wpAny_pure (hQ _ k)
end
end GLEn
namespace GL
open PySem PySem.Spec PyProof.Rows L2
/-- the tuple at a, each item in a new pair with its number -/
noncomputable def IteT (K : PySem.W.Frag) (a : Addr) : It :=
  ⟨fun i H => ∃ (xs : List V) (x : V), SqT K H a xs ∧ xs[i]? = some x, fun i H v H' => ∃ T x, v = .ref T ∧ H T = none ∧ H' = upd H T (.tup [.int (i : Nat), x]) ∧ ∀ xs, SqT K H a xs → xs[i]? = some x, fun i H => ∃ xs : List V, SqT K H a xs ∧ xs.length ≤ i⟩
theorem turn_enumT {P : Program} {w : World} {K : PySem.W.Frag} {elts : List Expr} {kk : Nat} {tpos : Pos} (a e it : Addr) :
    Turn P w K (.Tuple elts kk tpos) (IteT K a) [e, it] e (fun i h => (∃ old, IsEnum h e it ((i : Nat) : Int) old) ∧ h.IsTupleIter it a i ∧ e ≠ it) where
  mem := by simp
  obj := fun i h st b hb => by
    obtain ⟨⟨old, he⟩, ⟨o, ho, hc, hd⟩, _⟩ := st
    rcases (show b = e ∨ b = it by simpa using hb) with z | z
    · rw [z]; exact ⟨_, he, fun v q => nomatch q⟩
    · rw [z]; exact ⟨o, ho, fun v q => by rw [hd] at q; cases q⟩
  keep := fun i h h' st k => let ⟨⟨old, he⟩, hi, hne⟩ := st; ⟨⟨old, k e (by simp) _ he⟩, hi.at fun o q => k it (by simp) o q, hne⟩
  item := by
    intro X hP hw hK hc i pins s σ H E I hf st hg
    subst hP hw hK
    obtain ⟨⟨old, he⟩, hit, hne⟩ := st
    obtain ⟨xs, x, hq, hx⟩ := hg
    obtain ⟨its, rv, p, hz⟩ := I.tuple hq
    obtain ⟨u, hu, ru⟩ := rv.get hx
    have le : e < s.heap.objs.size := Heap.lt_size he
    have li : it < s.heap.objs.size := let ⟨_, q, _⟩ := hit; Heap.lt_size q
    have small : ∀ b ∈ [e, it], b < s.heap.objs.size := fun b hb => by
      rcases (show b = e ∨ b = it by simpa using hb) with z | z
      · rw [z]; exact le
      · rw [z]; exact li
    refine GLEn.itemT he hit (show s.heap.IsTuple a its.toArray from p) (x := u) (by simpa using hu) hne fun h' ho hit' hT hk => ?_
    refine ⟨_, rfl, wpAny_letOwnedTupleGo_enum (s := { s with heap := h', toks := s.toks + 1 }) ho fun h2 he' sb => ?_⟩
    have t2 : h2.get? s.heap.objs.size = some { cls := .type "tuple", data := .seq #[.int i s.toks, u] } := (sb.2 _ (Nat.ne_of_gt le)).trans hT
    have fresh : ObjOk X.prog X.w (upd H s.heap.objs.size (.tup [.int (i : Nat), x])) h2 s.heap.objs.size (.tup [.int (i : Nat), x]) := ⟨by show 2 ≤ sizeLine; decide, [.int i s.toks, u], .cons ⟨_, rfl⟩ (.cons ru .nil), ⟨_, t2, rfl, _, rfl⟩⟩
    have I1 : Inv X pins σ (upd H s.heap.objs.size (.tup [.int (i : Nat), x])) { s with heap := h2, toks := s.toks + 1 } :=
      I.turnedNew (ch := [e, it]) (fun b ob hb q => (sb.2 b (fun z => hb (by simp [z]))).trans (hk b ob (fun z => hb (by simp [z])) (fun z => hb (by simp [z])) q)) hf (Nat.le_refl _) fresh
    refine ⟨.ref s.heap.objs.size, _, I1, rfl, ⟨_, x, rfl, I.hok.fresh (Nat.le_refl _), rfl, fun ys hy => by rw [I.tuple_inj hy hq]; exact hx⟩, ⟨⟨u, ?_⟩, hit'.at fun o q => (sb.2 it (Ne.symm hne)).trans q, hne⟩, fun b hb => ?_⟩
    · rw [show ((i + 1 : Nat) : Int) = (i : Int) + 1 by omega]
      exact he'
    · rw [upd_ne (Nat.ne_of_lt (small b hb))]
      exact (hf b hb).1
  done := by
    intro X hP hw hK hc i pins s σ H E I hf st hg
    subst hP hw hK
    obtain ⟨⟨old, he⟩, hit, hne⟩ := st
    obtain ⟨xs, hq, hx⟩ := hg
    obtain ⟨its, rv, p, hz⟩ := I.tuple hq
    obtain ⟨f0, f1, f2, f3, f4, f5⟩ := hf it (by simp)
    have hl := rv.length
    exact GLEn.endT (I.ok.hd hc) he hit (show s.heap.IsTuple a its.toArray from p) (by simp; omega) fun h' eb => ⟨rfl, I.turned (t' := s.toks) (fun b o hb q => eb b o hb q) f0 f1 f3 f4 f5⟩
  self := fun A i s Q E st h => let ⟨⟨_, he⟩, _⟩ := st; wpAny_pyIter_enum he h
noncomputable def iEnumT (K : PySem.W.Frag) (ta : TA) : TI := fun σ H R => ta σ H fun vs H1 => ∃ a xs, vs = [.ref a] ∧ SqT K H1 a xs ∧ R (IteT K a) H1
theorem pi_enumT {X : Cx} {e : Expr} {ta : TA} {p pos tpos : Pos} {elts : List Expr} {kk : Nat} (hg : Gl X "enumerate") (hm : X.mg "enumerate" = none) (ha : PA X [e] ta) (hs : starEach [e] X.env = [(false, eval e X.env)] := by rfl) :
    PI X (.Tuple elts kk tpos) (.Call (.Name "enumerate" p) [e] [] pos) (iEnumT X.K ta) := by
  refine ⟨fun pins s σ H R I h => ?_⟩
  refine Call_ (ld_blt I hg hm boot_enumerate (PyProof.Rows.callWith_type1 (thn (ha.run pos pins s σ H _ I h) fun us s1 ⟨vs, H1, I1, r1, q1⟩ => ?_) hs rfl))
  obtain ⟨a, xs, ex, hq, q⟩ := q1
  subst ex
  cases r1 with
  | cons r rr =>
    cases rr
    cases r
    obtain ⟨its, rv, p', hz⟩ := I1.tuple hq
    refine GLEn.callT (show s1.heap.IsTuple a its.toArray from p') fun h' he hit hk => wpAny_pyIter_enum he ?_
    have I2 : Inv X pins σ H1 { s1 with heap := h' } := I1.kept (t' := s1.toks) hk
    refine ⟨s1.heap.objs.size + 1, [s1.heap.objs.size + 1, s1.heap.objs.size], _, _, H1, rfl, I2, turn_enumT a (s1.heap.objs.size + 1) s1.heap.objs.size, ⟨⟨.none, he⟩, hit, Nat.succ_ne_self _⟩, fun b hb => ?_, q⟩
    have le : s1.heap.objs.size ≤ b := by
      rcases (show b = s1.heap.objs.size + 1 ∨ b = s1.heap.objs.size by simpa using hb) with z | z
      · rw [z]; exact Nat.le_add_right _ _
      · rw [z]; exact Nat.le_refl _
    exact I1.fpOk le (I1.hok.fresh le)
/-- for i, x in enumerate(a tuple that stays) -/
theorem for_enumT {K : PySem.W.Frag} {a : Addr} {xs : List V} {g : TG} {tb : TS} {D : Ends} {σ : L2.St} {H : Hp} (Pv : Nat → L2.St → Hp → Prop) (h0 : Pv 0 σ H) (hl : ∀ i σ H, i ≤ xs.length → Pv i σ H → SqT K H a xs)
    (hs : ∀ i x σ H T, xs[i]? = some x → Pv i σ H → H T = none → g (.ref T) σ (upd H T (.tup [.int (i : Nat), x])) fun σ2 H2 => tb { D with nx := Pv (i + 1), ct := Pv (i + 1), bk := D.nx } σ2 H2) (hd : ∀ σ H, Pv xs.length σ H → D.nx σ H) :
    ∃ W : Nat → Nat → L2.St → Hp → Prop, (∃ m, W 0 m σ H) ∧ ∀ i m σ H, W i m σ H →
      ((IteT K a).stop i H ∧ D.nx σ H) ∨ ((IteT K a).go i H ∧ ∃ N : L2.St → Hp → Prop, (∀ σ' H', N σ' H' → ∃ m', m' < m ∧ W (i + 1) m' σ' H') ∧ ∀ x H', (IteT K a).yld i H x H' → g x σ H' fun σ2 H2 => tb { D with nx := N, ct := N, bk := D.nx } σ2 H2) := by
  refine ⟨fun i m σ H => m = xs.length - i ∧ i ≤ xs.length ∧ Pv i σ H, ⟨xs.length, by simp, Nat.zero_le _, h0⟩, ?_⟩
  rintro i m σ H ⟨rfl, hi, q⟩
  have here := hl i σ H hi q
  by_cases hlt : i < xs.length
  · refine .inr ⟨⟨xs, xs[i], here, List.getElem?_eq_getElem hlt⟩, Pv (i + 1), fun σ' H' p' => ⟨xs.length - (i + 1), by omega, rfl, hlt, p'⟩, fun x H' y => ?_⟩
    obtain ⟨T, x', rfl, nT, rfl, ex⟩ := y
    exact hs i x' σ H T (ex xs here) q nT
  · have e : i = xs.length := by omega
    subst e
    exact .inl ⟨⟨xs, here, Nat.le_refl _⟩, hd σ H q⟩
end GL
/-! x in a tuple of data of any depth -/
namespace GL
open PySem PySem.Spec PyProof.Rows L2
section
variable {X : Cx}
noncomputable def rInDT (K : PySem.W.Frag) : R2 := fun x y H Q => ∃ d ds, Dp K H x d ∧ Dp K H y (.tuple ds) ∧ SeqAt.shaped d = true ∧ SeqAt.shaped (.tuple ds) = true ∧ Q (.bl (ds.any fun z => PyData.eqv z d)) H
theorem op_inDT (hu : X.A.units + 65 < cLine) : OpR X (compareOp .In) (rInDT X.K) := by
  intro pins s σ H x y v u Q I rx ry h
  obtain ⟨d, ds, hd, he, sd, se, q⟩ := h
  obtain ⟨as, r1⟩ := Dp.reads I d x v hd rx
  obtain ⟨bs, r2⟩ := Dp.reads I (.tuple ds) y u he ry
  exact SeqAt.in_tuple_reads r2 r1 (SeqAt.canLay_of_shaped se) (SeqAt.canLay_of_shaped sd) (room_in_shaped sd hu) ⟨.bl _, H, I, rfl, q⟩
end
end GL
/-! a classmethod with *args, called with none -/
namespace GL
open PySem PySem.Spec PyProof.Rows L2
section
variable {X : Cx} {CX : CXT} {k : Nat} {C : Addr} {m : Str} {sp : Sp} {E : XK} {o : Expr} {ta : TE} {pos apos : Pos}
theorem pe_cmethG0v {pl : Sem Bool} (he : PE X o ta) (h : HasCMv X.prog X.w X.K X.mg X.base CX C m k sp) (gd : Gd X.A) (hr : Room k X.A) (hx : Passes CX X E)
    (ht : eval (.Call (.Attribute o m apos) [] [] pos) X.env = ((eval o X.env).bind fun ov => (standAt apos.atName).bind fun _ => (holding [ov] (getMethod ov m pl)).bind fun fm =>
      callWith pos fm.1 fm.2 (backTo pos (starEach [] X.env)) (backToKw pos (keywordEach [] X.env))) := by rfl) :
    PE X (.Call (.Attribute o m apos) [] [] pos) (ClX.tCMeth C sp E ta tNil) := by
  obtain ⟨g, mc, p, F, r, c⟩ := h.ex
  refine ⟨fun pins s σ H Q I h => ?_⟩
  refine PySem.W.methodCall_KW (pl := pl) (thn (he.run pins s σ H _ I h) fun u s1 ⟨x, H1, I1, rx, ex, q⟩ => ?_) ht
  subst ex
  obtain rfl : u = Value.ref C := rx
  refine ClX.getmethcm_ok I1 r c fun s2 I2 => ?_
  exact PySem.W.callWith_M0 (first := []) ⟨ClX.pin_at I2, I2.kIn⟩ c.fi (run_cmGv F gd hr hx I2 .nil q)
end
end GL
namespace K13
open PySem PySem.Spec PyProof.Rows L2 GL
noncomputable def topS (i : Nat) : Stmt := PySem.Challenge.pw_grownlines_k13_whole_lines_of_schemes.main.body.getD i (.Pass ⟨0, 0, 0, 0⟩)
noncomputable abbrev s_plus : Stmt := topS 2
noncomputable abbrev N_plus : List Str := ["one", "other"]
theorem sc_plus : FnScope N_plus ["one", "other"] (defScope s_plus) := ⟨rfl, rfl, rfl, by decide +kernel, rfl, by decide +kernel, by decide +kernel⟩
noncomputable abbrev s_trail : Stmt := topS 5
noncomputable abbrev N_trail : List Str := ["grid", "directions", "points", "direction"]
theorem sc_trail : FnScope N_trail ["grid", "directions"] (defScope s_trail) := ⟨rfl, rfl, rfl, by decide +kernel, rfl, by decide +kernel, by decide +kernel⟩
noncomputable abbrev s_is_integer : Stmt := topS 9
noncomputable abbrev N_is_integer : List Str := ["value"]
theorem sc_is_integer : FnScope N_is_integer ["value"] (defScope s_is_integer) := ⟨rfl, rfl, rfl, by decide +kernel, rfl, by decide +kernel, by decide +kernel⟩
noncomputable abbrev s_is_count : Stmt := topS 10
noncomputable abbrev N_is_count : List Str := ["value"]
theorem sc_is_count : FnScope N_is_count ["value"] (defScope s_is_count) := ⟨rfl, rfl, rfl, by decide +kernel, rfl, by decide +kernel, by decide +kernel⟩
noncomputable abbrev s_is_letter : Stmt := topS 11
noncomputable abbrev N_is_letter : List Str := ["value"]
theorem sc_is_letter : FnScope N_is_letter ["value"] (defScope s_is_letter) := ⟨rfl, rfl, rfl, by decide +kernel, rfl, by decide +kernel, by decide +kernel⟩
noncomputable abbrev s__check_grid : Stmt := topS 32
noncomputable abbrev N__check_grid : List Str := ["grid"]
theorem sc__check_grid : FnScope N__check_grid ["grid"] (defScope s__check_grid) := ⟨rfl, rfl, rfl, by decide +kernel, rfl, by decide +kernel, by decide +kernel⟩
noncomputable abbrev s_is_turn : Stmt := topS 33
noncomputable abbrev N_is_turn : List Str := ["grid", "value"]
theorem sc_is_turn : FnScope N_is_turn ["grid", "value"] (defScope s_is_turn) := ⟨rfl, rfl, rfl, by decide +kernel, rfl, by decide +kernel, by decide +kernel⟩
noncomputable abbrev s_is_item : Stmt := topS 34
noncomputable abbrev N_is_item : List Str := ["grid", "value"]
theorem sc_is_item : FnScope N_is_item ["grid", "value"] (defScope s_is_item) := ⟨rfl, rfl, rfl, by decide +kernel, rfl, by decide +kernel, by decide +kernel⟩
noncomputable abbrev s_is_row : Stmt := topS 35
noncomputable abbrev N_is_row : List Str := ["grid", "value", "least", "item"]
theorem sc_is_row : FnScope N_is_row ["grid", "value", "least"] (defScope s_is_row) := ⟨rfl, rfl, rfl, by decide +kernel, rfl, by decide +kernel, by decide +kernel⟩
noncomputable abbrev s_row_text : Stmt := topS 36
noncomputable abbrev N_row_text : List Str := ["items", "letter", "turn"]
theorem sc_row_text : FnScope N_row_text ["items"] (defScope s_row_text) := ⟨rfl, rfl, rfl, by decide +kernel, rfl, by decide +kernel, by decide +kernel⟩
noncomputable abbrev s_Grid_WinitW : Stmt := inClass (topS 27) 0
noncomputable abbrev N_Grid_WinitW : List Str := ["self", "name"]
theorem sc_Grid_WinitW : FnScope N_Grid_WinitW ["self", "name"] (defScope s_Grid_WinitW) := ⟨rfl, rfl, rfl, by decide +kernel, rfl, by decide +kernel, by decide +kernel⟩
noncomputable abbrev s_Grid_WeqW : Stmt := inClass (topS 27) 11
noncomputable abbrev N_Grid_WeqW : List Str := ["self", "other"]
noncomputable abbrev s_Rule_WinitW : Stmt := inClass (topS 39) 0
noncomputable abbrev N_Rule_WinitW : List Str := ["self", "grid", "items", "points", "letter", "turn"]
theorem sc_Rule_WinitW : FnScope N_Rule_WinitW ["self", "grid", "items"] (defScope s_Rule_WinitW) := ⟨rfl, rfl, rfl, by decide +kernel, rfl, by decide +kernel, by decide +kernel⟩
noncomputable abbrev s_Rule_WgetitemW : Stmt := inClass (topS 39) 7
noncomputable abbrev N_Rule_WgetitemW : List Str := ["self", "index"]
noncomputable abbrev s_Rule_WcontainsW : Stmt := inClass (topS 39) 8
noncomputable abbrev N_Rule_WcontainsW : List Str := ["self", "value"]
noncomputable abbrev s_Rule_WiterW : Stmt := inClass (topS 39) 9
noncomputable abbrev N_Rule_WiterW : List Str := ["self"]
noncomputable abbrev s_Rule_WlenW : Stmt := inClass (topS 39) 10
noncomputable abbrev N_Rule_WlenW : List Str := ["self"]
noncomputable abbrev s_Rule_WeqW : Stmt := inClass (topS 39) 11
noncomputable abbrev N_Rule_WeqW : List Str := ["self", "other"]
noncomputable abbrev s_Rule_WstrW : Stmt := inClass (topS 39) 12
noncomputable abbrev N_Rule_WstrW : List Str := ["self"]
theorem sc_Rule_WstrW : FnScope N_Rule_WstrW ["self"] (defScope s_Rule_WstrW) := ⟨rfl, rfl, rfl, by decide +kernel, rfl, by decide +kernel, by decide +kernel⟩
structure Txt (K : PySem.W.Frag) (mg : Str → Option Value) (aG dU C CR : Addr) : Prop where
  zisinstance : mg "isinstance" = none
  zbool : mg "bool" = none
  zint : mg "int" = none
  zstr : mg "str" = none
  ztuple : mg "tuple" = none
  zlist : mg "list" = none
  zdict : mg "dict" = none
  zset : mg "set" = none
  zsorted : mg "sorted" = none
  zall : mg "all" = none
  zlen : mg "len" = none
  zmax : mg "max" = none
  zmin : mg "min" = none
  zabs : mg "abs" = none
  zrange : mg "range" = none
  zrepr : mg "repr" = none
  ziter : mg "iter" = none
  g_BOUND : MgV mg "_BOUND" (.int B)
  gLETTERS : MgV mg "LETTERS" (.str "abcdefghijklmnopqrstuvwxyz")
  gMIN_ITEMS : MgV mg "MIN_ITEMS" (.int 2)
  gMAX_ITEMS : MgV mg "MAX_ITEMS" (.int 12)
  gGRIDS : MgV mg "GRIDS" (.ref aG)
  g_UNITS : MgV mg "_UNITS" (.ref dU)
  gGrid : MgV mg "Grid" (.ref C)
  gRule : MgV mg "Rule" (.ref CR)
section
variable {P : Program} {w : World} {K : PySem.W.Frag} {mg : Str → Option Value} {base : Heap}
variable {aG dU C CR : Addr} {U : Bool → Addr} {us : Bool → List Addr}
theorem h_is_integer (T : Txt K mg aG dU C CR) (D : Df K mg "is_integer" s_is_integer) : Has P w K mg base CX0 "is_integer" 1 ["value"] (spIsInt K) := by
  refine D.has sc_is_integer (fun vs H Q E h => ?_) (fun kV doc pm an cdv ct us hl => match us, hl with | [_], _ => rfl) (fun f cdv A outer s H vs Q E gd hr h => ?_)
  · obtain ⟨x, k, rfl, _⟩ := h
    rfl
  · obtain ⟨x, k, rfl, hk, q⟩ := h
    refine ⟨_, (pss_cons
 (ps_if (PW.pt (pw_or (pt_val (pe_callB call_isi (by exact rfl) T.zisinstance (by decide +kernel) (pa_cons (pv 0) (pa_cons (pe_bltn (v := .ty "bool") (by exact rfl) T.zbool (by decide +kernel) rfl) pa_nil)))) (pw_or1 (pt_not (pt_val (pe_callB call_isi (by exact rfl) T.zisinstance (by decide +kernel) (pa_cons (pv 0) (pa_cons (pe_bltn (v := .ty "int") (by exact rfl) T.zint (by decide +kernel) rfl) pa_nil)))))))) (pss_one
 (ps_ret pe_bl)) pss_nil)
 (pss_one
 (ps_ret (pe_chain op_lt op_lt (pe_un un_neg (pe_globV T.g_BOUND)) (pv 0) (pe_globV T.g_BOUND))))), ?_⟩
    refine ⟨_, rfl, _, _, _, _, _, rfl, .ty _, hk, kit_bool _, _, rfl, ?_⟩
    cases k with
    | bl =>
      obtain ⟨b, rfl⟩ := hk.blI
      exact iteT (iteT q)
    | int =>
      obtain ⟨i, rfl⟩ := hk.intI
      refine iteF ⟨_, rfl, _, _, _, _, _, rfl, .ty _, hk, kit_int _, _, rfl, iteF ⟨_, rfl, _, rfl, _, _, rfl, rfl, _, rfl, ?_⟩⟩
      by_cases h1 : -B < i
      · have e : isIntV (.int i) = decide (i < B) := by show (decide (-B < i) && decide (i < B)) = _; rw [decide_eq_true h1, Bool.true_and]
        rw [e] at q
        rw [decide_eq_true h1]
        exact iteT ⟨_, _, rfl, rfl, q⟩
      · have e : isIntV (.int i) = false := by show (decide (-B < i) && decide (i < B)) = _; rw [decide_eq_false h1, Bool.false_and]
        rw [e] at q
        rw [decide_eq_false h1]
        exact iteF q
    | _ =>
      have e : isIntV x = false := by
        cases x with
        | int i => exact absurd hk.notInt (by intro z; cases z)
        | _ => rfl
      rw [e] at q
      exact iteF ⟨_, rfl, _, _, _, _, _, rfl, .ty _, hk, kit_int _, _, rfl, iteT q⟩

theorem h_is_count (D : Df K mg "is_count" s_is_count) (his_integer : Has P w K mg base CX0 "is_integer" 1 ["value"] (spIsInt K)) : Has P w K mg base CX0 "is_count" 2 ["value"] (spIsCount K) := by
  refine D.has sc_is_count (fun vs H Q E h => ?_) (fun kV doc pm an cdv ct us hl => match us, hl with | [_], _ => rfl) (fun f cdv A outer s H vs Q E gd hr h => ?_)
  · obtain ⟨x, k, rfl, _⟩ := h
    rfl
  · obtain ⟨x, k, rfl, hk, q⟩ := h
    refine ⟨_, (pss_one
 (ps_ret (pe_and (pe_callH his_integer gd (hr.mono (by decide)) pass0 (pa_cons (pv 0) pa_nil)) (pe_one (pe_cmpR op_ge (pv 0) pe_int (nomark _)))))), ?_⟩
    refine ⟨_, rfl, _, _, rfl, hk, _, rfl, ?_⟩
    cases h1 : isIntV x with
    | true =>
      cases x with
      | int i =>
        refine iteT ⟨_, rfl, _, _, rfl, rfl, ?_⟩
        have e : isCountV (.int i) = decide (0 ≤ i) := by show (isIntV (.int i) && decide (0 ≤ i)) = _; rw [h1, Bool.true_and]
        rw [e] at q
        exact q
      | _ => exact absurd h1 Bool.false_ne_true
    | false =>
      have e : isCountV x = false := by
        cases x with
        | int i => show (isIntV (.int i) && decide (0 ≤ i)) = _; rw [h1, Bool.false_and]
        | _ => rfl
      rw [e] at q
      exact iteF q

end
end K13
namespace K13
open PySem PySem.Spec PyProof.Rows L2 GL
/-- no text, no tuple of great length -/
noncomputable def Mild : PyData → Prop
  | .str y => y.length ≤ 1000
  | .tuple ds => ds.length ≤ 1000 ∧ ∀ d ∈ ds, ∀ y, d = .str y → y.length ≤ 1000
  | _ => True
noncomputable def spLet (K : PySem.W.Frag) : Sp := fun vs H Q _ => ∃ x d, vs = [x] ∧ Dp K H x d ∧ (∀ y, d = .str y → y.length ≤ 1000) ∧ Q (.bl (isLetD d)) H
noncomputable def spCheckG (C : Addr) (U : Bool → Addr) : Sp := fun vs H Q _ => ∃ g t, vs = [.ref g] ∧ GridAt C U H g t ∧ Q .non H
noncomputable def spIsTurn (K : PySem.W.Frag) (C : Addr) (U : Bool → Addr) : Sp := fun vs H Q _ => ∃ g t x d, vs = [.ref g, x] ∧ GridAt C U H g t ∧ Dp K H x d ∧ Q (.bl (isTurnD t d)) H
noncomputable def spIsItem (K : PySem.W.Frag) (C : Addr) (U : Bool → Addr) : Sp := fun vs H Q _ => ∃ g t x d, vs = [.ref g, x] ∧ GridAt C U H g t ∧ Dp K H x d ∧ Mild d ∧ Q (.bl (isItemD t d)) H
noncomputable def spIsRow (K : PySem.W.Frag) (C : Addr) (U : Bool → Addr) : Sp := fun vs H Q _ => ∃ g t x r, vs = [.ref g, x, .int 2] ∧ GridAt C U H g t ∧ Dp K H x (rowD r) ∧ RowOk t r ∧ ∀ H', Same H H' → Q (.bl true) H'
theorem letters_mem (c : Nat) : decide (c ∈ (("abcdefghijklmnopqrstuvwxyz" : Str)).cps.toList) = (decide (97 ≤ c) && decide (c ≤ 122)) := by
  have e : (("abcdefghijklmnopqrstuvwxyz" : Str)).cps.toList = [97, 98, 99, 100, 101, 102, 103, 104, 105, 106, 107, 108, 109, 110, 111, 112, 113, 114, 115, 116, 117, 118, 119, 120, 121, 122] := by decide +kernel
  rw [e, Bool.eq_iff_iff]
  simp only [List.mem_cons, List.not_mem_nil, or_false, decide_eq_true_eq, Bool.and_eq_true]
  omega
theorem count_not {K : PySem.W.Frag} {H : Hp} {x : V} {d : PyData} {t : Bool} (h : Dp K H x d) (c : isCountV x = false) : isTurnD t d = false := by
  cases h with
  | int i => show (isCountV (.int i) && _) = false; rw [c, Bool.false_and]
  | _ => rfl
theorem count_is {K : PySem.W.Frag} {H : Hp} {x : V} {d : PyData} {t : Bool} (h : Dp K H x d) (c : isCountV x = true) : ∃ i, x = .int i ∧ d = .int i ∧ isTurnD t d = decide (i < (num t : Int)) := by
  cases h with
  | int i => exact ⟨i, rfl, rfl, by show (isCountV (.int i) && _) = _; rw [c, Bool.true_and]⟩
  | _ => cases (show false = true from c)
theorem item_not {t : Bool} {ds : List PyData} (h : ds.length ≠ 2) : isItemD t (.tuple ds) = false := by
  match ds, h with
  | [], _ => rfl
  | [_], _ => rfl
  | [_, _], h => exact absurd rfl h
  | _ :: _ :: _ :: _, _ => rfl
section
variable {P : Program} {w : World} {K : PySem.W.Frag} {mg : Str → Option Value} {base : Heap}
variable {aG dU C CR : Addr} {U : Bool → Addr} {us : Bool → List Addr}
theorem h_is_letter (T : Txt K mg aG dU C CR) (D : Df K mg "is_letter" s_is_letter) : Has P w K mg base CX0 "is_letter" 1 ["value"] (spLet K) := by
  refine D.has sc_is_letter (fun vs H Q E h => ?_) (fun kV doc pm an cdv ct us hl => match us, hl with | [_], _ => rfl) (fun f cdv A outer s H vs Q E gd hr h => ?_)
  · obtain ⟨x, d, rfl, _⟩ := h
    rfl
  · obtain ⟨x, d, rfl, hx, short, q⟩ := h
    refine ⟨_, (pss_one
 (ps_ret (pe_and (pe_callB call_isi (by exact rfl) T.zisinstance (by decide +kernel) (pa_cons (pv 0) (pa_cons (pe_bltn (v := .ty "str") (by exact rfl) T.zstr (by decide +kernel) rfl) pa_nil))) (pe_and (pe_cmpR op_eq (pe_callB call_len_str (by exact rfl) T.zlen PySem.boot_len (pa_cons (pv 0) pa_nil)) pe_int (nomark _)) (pe_one (pe_cmpR op_in_sign (pv 0) (pe_globV T.gLETTERS) (by rfl))))))), ?_⟩
    refine ⟨_, rfl, _, _, _, _, _, rfl, .ty _, dOf hx, kit_str _, _, rfl, ?_⟩
    cases d with
    | str y =>
      obtain rfl := dStr hx
      refine iteT ⟨_, rfl, _, rfl, Nat.le_trans (short y rfl) (by rw [sizeLine_eq]; decide), rfl, _, rfl, ?_⟩
      refine ite2 (fun c1 => ?_) (fun c1 => ?_)
      · have l1 : y.length = 1 := by
          have := of_decide_eq_true c1
          injection this with this
          omega
        obtain ⟨c, rfl⟩ := GL.one_sign l1
        refine ⟨_, rfl, _, _, rfl, rfl, ?_⟩
        have e : isLetD (.str ⟨#[c]⟩) = (decide (97 ≤ c) && decide (c ≤ 122)) := by
          show (decide (1 = 1) && ([c].all fun c => decide (97 ≤ c) && decide (c ≤ 122))) = _
          simp
        rw [e] at q
        rw [letters_mem]
        exact q
      · have e : isLetD (.str y) = false := by
          show (decide (y.length = 1) && _) = false
          rw [decide_eq_false (fun z => c1 (decide_eq_true (by rw [z]; rfl))), Bool.false_and]
        rw [e] at q
        exact q
    | _ => exact iteF q
theorem h_check_grid (T : Txt K mg aG dU C CR) (c : GCls K C) (i : GIs K C) (D : Df K mg "_check_grid" s__check_grid) : Has P w K mg base CX0 "_check_grid" 1 ["grid"] (spCheckG C U) := by
  refine D.has sc__check_grid (fun vs H Q E h => ?_) (fun kV doc pm an cdv ct us hl => match us, hl with | [_], _ => rfl) (fun f cdv A outer s H vs Q E gd hr h => ?_)
  · obtain ⟨g, t, rfl, _⟩ := h
    rfl
  · obtain ⟨g, t, rfl, ⟨dg, eg⟩, q⟩ := h
    refine ⟨_, (pss_one
 (ps_if (pt_not (pt_val (pe_callB call_isi (by exact rfl) T.zisinstance (by decide +kernel) (pa_cons (pv 0) (pa_cons (pe_globV T.gGrid) pa_nil))))) (pss_one
 ps_never) pss_nil)), ?_⟩
    exact ⟨_, rfl, _, _, _, _, _, rfl, .own _, i.ty c.cls eg, kit_self, _, rfl, (iteF q : if (!true) = true then _ else _)⟩
theorem h_is_turn (c : GCls K C) (hU : Uni K w aG dU U us) (T : Txt K mg aG dU C CR) (D : Df K mg "is_turn" s_is_turn) (his_count : Has P w K mg base CX0 "is_count" 2 ["value"] (spIsCount K)) : Has P w K mg base CX0 "is_turn" 3 ["grid", "value"] (spIsTurn K C U) := by
  refine D.has sc_is_turn (fun vs H Q E h => ?_) (fun kV doc pm an cdv ct us hl => match us, hl with | [_, _], _ => rfl) (fun f cdv A outer s H vs Q E gd hr h => ?_)
  · obtain ⟨g, t, x, d, rfl, _⟩ := h
    rfl
  · obtain ⟨g, t, x, d, rfl, ⟨dg, eg⟩, hx, q⟩ := h
    refine ⟨_, (pss_one
 (ps_ret (pe_and (pe_callH his_count gd (hr.mono (by decide)) pass0 (pa_cons (pv 1) pa_nil)) (pe_one (pe_cmpR op_lt (pv 1) (pe_callB call_len_seq (by exact rfl) T.zlen PySem.boot_len (pa_cons (pe_fld (pv 0) rfl) pa_nil)) (nomark _)))))), ?_⟩
    refine ⟨_, rfl, x, _, rfl, dOf hx, _, rfl, ?_⟩
    cases e : isCountV x with
    | false =>
      rw [count_not hx e] at q
      exact iteF q
    | true =>
      obtain ⟨i, rfl, rfl, e2⟩ := count_is (t := t) hx e
      rw [e2] at q
      refine iteT ⟨_, rfl, _, rfl, _, _, _, _, _, rfl, eg, c.cls, c.units, gF_units, U t, _, rfl, .inr (hU.tup t _), ?_⟩
      rw [List.length_map, hU.len t]
      exact ⟨_, _, rfl, rfl, q⟩
theorem h_is_item (T : Txt K mg aG dU C CR) (D : Df K mg "is_item" s_is_item) (h_check_grid : Has P w K mg base CX0 "_check_grid" 1 ["grid"] (spCheckG C U)) (his_letter : Has P w K mg base CX0 "is_letter" 1 ["value"] (spLet K)) (his_turn : Has P w K mg base CX0 "is_turn" 3 ["grid", "value"] (spIsTurn K C U)) :
    Has P w K mg base CX0 "is_item" 4 ["grid", "value"] (spIsItem K C U) := by
  refine D.has sc_is_item (fun vs H Q E h => ?_) (fun kV doc pm an cdv ct us hl => match us, hl with | [_, _], _ => rfl) (fun f cdv A outer s H vs Q E gd hr h => ?_)
  · obtain ⟨g, t, x, d, rfl, _⟩ := h
    rfl
  · obtain ⟨g, t, x, d, rfl, hg, hx, mild, q⟩ := h
    refine ⟨_, (pss_cons
 (ps_expr (pe_callH h_check_grid gd (hr.mono (by decide)) pass0 (pa_cons (pv 0) pa_nil)))
 (pss_cons
 (ps_if (PW.pt (pw_or (pt_not (pt_val (pe_callB call_isi (by exact rfl) T.zisinstance (by decide +kernel) (pa_cons (pv 1) (pa_cons (pe_bltn (v := .ty "tuple") (by exact rfl) T.ztuple (by decide +kernel) rfl) pa_nil))))) (pw_or1 (pt_cmpR op_ne (pe_callB call_len_seq (by exact rfl) T.zlen PySem.boot_len (pa_cons (pv 1) pa_nil)) pe_int (nomark _))))) (pss_one
 (ps_ret pe_bl)) pss_nil)
 (pss_one
 (ps_ret (pe_and (pe_callH his_letter gd (hr.mono (by decide)) pass0 (pa_cons (pe_ix ix_tup (pv 1) pe_int (fun _ _ => rfl)) pa_nil)) (pe_one (pe_callH his_turn gd (hr.mono (by decide)) pass0 (pa_cons (pv 0) (pa_cons (pe_ix ix_tup (pv 1) pe_int (fun _ _ => rfl)) pa_nil))))))))), ?_⟩
    refine ⟨_, rfl, g, t, rfl, hg, ?_⟩
    refine ⟨_, rfl, _, _, _, _, _, rfl, .ty _, dOf hx, kit_tup _, _, rfl, ?_⟩
    cases d with
    | tuple ds =>
      obtain ⟨a, xs, rfl, hs, l⟩ := dTup hx
      have ln := dLen l
      refine iteF ⟨_, rfl, a, xs, rfl, .inr hs, rfl, _, rfl, ?_⟩
      by_cases h2 : ds.length = 2
      · match ds, h2, l with
        | [d1, d2], _, l =>
          cases l with
          | cons l1 l2 => cases l2 with
            | cons l3 l4 =>
              cases l4
              rename_i u v
              have e : isItemD t (.tuple [d1, d2]) = (isLetD d1 && isTurnD t d2) := rfl
              rw [e] at q
              refine iteF ⟨_, rfl, a, _, _, u, rfl, rfl, hs, atI_nat (j := 0) rfl, u, d1, rfl, l1, (fun y hy => mild.2 d1 (by simp) y hy), _, rfl, ?_⟩
              cases b : isLetD d1 with
              | true =>
                rw [b, Bool.true_and] at q
                exact iteT ⟨_, rfl, _, rfl, a, _, _, v, rfl, rfl, hs, atI_nat (j := 1) rfl, g, t, v, d2, rfl, hg, l3, q⟩
              | false =>
                rw [b, Bool.false_and] at q
                exact iteF q
      · rw [item_not h2] at q
        have z : (!decide (V.int (xs.length : Int) = V.int 2)) = true := by rw [decide_eq_false (fun z => h2 (by injection z with z; omega))]; rfl
        show if (!decide (V.int (xs.length : Int) = V.int 2)) = true then _ else _
        rw [z]
        exact iteT q
    | _ => exact iteT (iteT q)
end
end K13
namespace K13
open PySem PySem.Spec PyProof.Rows L2 GL
theorem same_rfl {H : Hp} : Same H H := fun _ _ e => e
/-- the points of some directions from u on -/
noncomputable def path (t : Bool) : Int × Int → List Int → List (Int × Int)
  | u, [] => [u]
  | u, n :: r => u :: path t (padd u (uni t n)) r
noncomputable def spTrail (K : PySem.W.Frag) (C : Addr) (U : Bool → Addr) : Sp := fun vs H Q _ => ∃ g t l ns, vs = [.ref g, .ref l] ∧ GridAt C U H g t ∧ SqL K H l (ns.map V.int) ∧ (∀ n ∈ ns, 0 ≤ n ∧ n < (num t : Int)) ∧ ns.length ≤ 1000 ∧
  ∀ D H', Same H H' → Dp K H' (.ref D) (.list ((path t (0, 0) ns).map ptD)) → Q (.ref D) H'
theorem path_snoc (t : Bool) : ∀ (ns : List Int) (u : Int × Int) (n : Int), path t u (ns ++ [n]) = path t u ns ++ [padd ((path t u ns).getLast?.getD (0, 0)) (uni t n)]
  | [], u, n => rfl
  | m :: r, u, n => by
    show u :: path t (padd u (uni t m)) (r ++ [n]) = _
    rw [path_snoc t r]
    have ne : path t (padd u (uni t m)) r ≠ [] := by cases r <;> exact List.cons_ne_nil _ _
    have e : (u :: path t (padd u (uni t m)) r).getLast? = (path t (padd u (uni t m)) r).getLast? := by
      cases h : path t (padd u (uni t m)) r with
      | nil => exact absurd h ne
      | cons a b => rfl
    rw [show path t u (m :: r) = u :: path t (padd u (uni t m)) r from rfl, e]
    rfl
theorem path_len (t : Bool) : ∀ (ns : List Int) (u : Int × Int), (path t u ns).length = ns.length + 1
  | [], _ => rfl
  | n :: r, u => by show (path t _ r).length + 1 = _; rw [path_len t r]; rfl
theorem path_last (t : Bool) (ns : List Int) (u : Int × Int) : ∃ v, (path t u ns).getLast? = some v ∧ (path t u ns)[ns.length]? = some v := by
  have l := path_len t ns u
  have h : ns.length < (path t u ns).length := by omega
  refine ⟨(path t u ns)[ns.length], ?_, List.getElem?_eq_getElem h⟩
  rw [List.getLast?_eq_getElem?, l]
  exact List.getElem?_eq_getElem h
section
variable {P : Program} {w : World} {K : PySem.W.Frag} {mg : Str → Option Value} {base : Heap}
variable {aG dU C CR : Addr} {U : Bool → Addr} {us : Bool → List Addr}
theorem h_is_row (T : Txt K mg aG dU C CR) (D : Df K mg "is_row" s_is_row) (h_check_grid : Has P w K mg base CX0 "_check_grid" 1 ["grid"] (spCheckG C U)) (his_count : Has P w K mg base CX0 "is_count" 2 ["value"] (spIsCount K)) (his_item : Has P w K mg base CX0 "is_item" 4 ["grid", "value"] (spIsItem K C U)) :
    HasK P w K mg base CX0 "is_row" 5 ["grid", "value", "least"] 2 ["least"] (spIsRow K C U) := by
  refine D.hasK sc_is_row (fun vs H Q E h => ?_) (fun kV doc pm an cdv ct us ws h1 h2 => match us, ws, h1, h2 with | [_, _], [_], _, _ => rfl) (fun f cdv A outer s H vs Q E gd hr h => ?_)
  · obtain ⟨g, t, x, r, rfl, _⟩ := h
    rfl
  · obtain ⟨g, t, x, r, rfl, hg, hx, ok, q⟩ := h
    refine ⟨_, (pss_cons
 (ps_expr (pe_callH h_check_grid gd (hr.mono (by decide)) pass0 (pa_cons (pv 0) pa_nil)))
 (pss_cons
 (ps_if (pt_not (pt_val (pe_callH his_count gd (hr.mono (by decide)) pass0 (pa_cons (pv 2) pa_nil)))) (pss_one
 ps_never) pss_nil)
 (pss_cons
 (ps_if (PW.pt (pw_or (pt_not (pt_val (pe_callB call_isi (by exact rfl) T.zisinstance (by decide +kernel) (pa_cons (pv 1) (pa_cons (pe_bltn (v := .ty "tuple") (by exact rfl) T.ztuple (by decide +kernel) rfl) pa_nil))))) (pw_or (pt_cmpR op_lt (pe_callB call_len_seq (by exact rfl) T.zlen PySem.boot_len (pa_cons (pv 1) pa_nil)) (pv 2) (nomark _)) (pw_or1 (pt_cmpR op_gt (pe_callB call_len_seq (by exact rfl) T.zlen PySem.boot_len (pa_cons (pv 1) pa_nil)) (pe_globV T.gMAX_ITEMS) (nomark _)))))) (pss_one
 (ps_ret pe_bl)) pss_nil)
 (pss_one
 (ps_ret (pe_callB (cr_all rfl) (by exact rfl) T.zall (by decide +kernel) (pa_cons (pe_lc (own := [("item", 3)]) (g := gName 3) (tt := tYes) (by rfl) sc_is_row.nd (pi_tup (pv 1)) (blkOk_by (own := [("item", 3)]) (N := N_is_row) (sc := defScope s_is_row) (by decide +kernel)) (fun _ _ _ _ _ => pg_name (i := 3) sc_is_row.nd rfl (Or.inl rfl)) (fun _ _ _ _ _ => pts_nil) (fun _ _ _ _ _ => (pe_callH his_item gd (hr.mono (by decide)) pass0 (pa_cons (pv 0) (pa_cons (pv 3) pa_nil))))) pa_nil))))))), ?_⟩
    obtain ⟨a, xs, rfl, hs, l⟩ := dTup hx
    have ln := rowLen l
    have l2 := ok.two
    have l12 := ok.most
    refine ⟨_, rfl, g, t, rfl, hg, ?_⟩
    refine ⟨_, rfl, _, _, rfl, .int, _, rfl, ?_⟩
    rw [show isCountV (.int 2) = true by rw [show isCountV (.int 2) = (isIntV (.int 2) && decide ((0 : Int) ≤ 2)) from rfl, short_of (by decide)]; rfl]
    refine (iteF ?_ : if (!true) = true then _ else _)
    refine ⟨_, rfl, _, _, _, _, _, rfl, .ty _, tup_of hs, kit_tup _, _, rfl, iteF ?_⟩
    refine ⟨_, rfl, a, xs, rfl, .inr hs, _, rfl, _, _, rfl, rfl, _, rfl, ?_⟩
    rw [decide_eq_false (show ¬ (xs.length : Int) < 2 by omega)]
    refine iteF ⟨_, rfl, a, xs, rfl, .inr hs, _, _, rfl, rfl, _, rfl, ?_⟩
    rw [decide_eq_false (show ¬ (12 : Int) < (xs.length : Int) by omega)]
    refine iteF ?_
    refine ⟨_, rfl, a, rfl, ⟨_, hs⟩, fun D hD => lc_tup (a := a) (xs := xs) (fun i' H' => Same H H' ∧ H' D = some (.lst ((List.replicate i' true).map V.bl))) ⟨Same.new hD, upd_same⟩ (fun i' H' _ h => sqT_same hs h.1) ?_ ?_⟩
    · rintro i' x H' hx ⟨s', hacc⟩
      obtain ⟨it, q', hit, rfl, hq⟩ := rowAt l hx
      have iok := ok.all it (List.mem_of_getElem? hit)
      refine ⟨rfl, ?_⟩
      simp only [tYes, if_true]
      refine ⟨_, rfl, _, rfl, g, t, _, itemD it, rfl, hg.same s', itemDp (sqT_same hq s'), ⟨by show 2 ≤ 1000; decide, fun d hd y e => ?_⟩, ?_⟩
      · simp only [List.mem_cons, List.not_mem_nil, or_false] at hd
        rcases hd with rfl | rfl
        · cases e
          have z := iok.l
          have z2 : it.1.length = 1 := of_decide_eq_true (Bool.and_eq_true_iff.mp z).1
          omega
        · cases e
      rw [item_ok iok]
      refine ⟨_, hacc, ?_, Same.over s' hD _, ?_⟩
      · have lt := (List.getElem?_eq_some_iff.mp hx).1
        rw [List.length_map, List.length_replicate, sizeLine_eq]
        omega
      · rw [upd_same, List.replicate_succ', List.map_append]
        rfl
    rintro Hc ⟨sc, hacc⟩
    refine ⟨D, List.replicate xs.length true, rfl, SqL.of hacc, ?_⟩
    rw [show (List.replicate xs.length true).all id = true by simp]
    exact q _ sc
theorem unit_at (hU : Uni K w aG dU U us) {t : Bool} (n : Int) : ∃ i : Addr, (∀ H, PAt K H i (uni t n)) ∧ atI ((us t).map V.ref) (n % (num t : Int)) = some (.ref i) := by
  have h1 := Int.emod_nonneg n (Int.ne_of_gt (num_pos (t := t)))
  have h2 := Int.emod_lt_of_pos n (num_pos (t := t))
  obtain ⟨j, hj⟩ : ∃ j : Nat, n % (num t : Int) = (j : Int) := ⟨(n % (num t : Int)).toNat, by omega⟩
  have e := uni_at (t := t) n
  rw [hj] at e ⊢
  have l : j < (us t).length := by rw [hU.len]; omega
  refine ⟨(us t)[j], hU.pt t j _ _ (List.getElem?_eq_getElem l) e, atI_nat ?_⟩
  rw [List.getElem?_map, List.getElem?_eq_getElem l]
  rfl

theorem h_plus (D : Df K mg "plus" s_plus) : Has P w K mg base CX0 "plus" 1 ["one", "other"] (spPlus K) := by
  refine D.has sc_plus (fun vs H Q E h => ?_) (fun kV doc pm an cdv ct us hl => match us, hl with | [_, _], _ => rfl) (fun f cdv A outer s H vs Q E gd hr h => ?_)
  · obtain ⟨a, b, u, v, rfl, _⟩ := h
    rfl
  · obtain ⟨a, b, u, v, rfl, pu, pv', k⟩ := h
    refine ⟨_, (pss_one
 (ps_ret (pe_tup (pa_cons (pe_op op_add (pe_ix ix_tup (pv 0) pe_int (fun _ _ => rfl)) (pe_ix ix_tup (pv 1) pe_int (fun _ _ => rfl))) (pa_cons (pe_op op_add (pe_ix ix_tup (pv 0) pe_int (fun _ _ => rfl)) (pe_ix ix_tup (pv 1) pe_int (fun _ _ => rfl))) pa_nil))))), ?_⟩
    exact ⟨_, rfl, _, _, _, _, rfl, rfl, pu, atI_nat (j := 0) rfl, _, rfl, _, _, _, _, rfl, rfl, pv', atI_nat (j := 0) rfl, _, _, rfl, rfl, _, rfl, _, _, _, _, rfl, rfl, pu, atI_nat (j := 1) rfl, _, rfl, _, _, _, _, rfl, rfl, pv', atI_nat (j := 1) rfl, _, _, rfl, rfl, by show 2 ≤ sizeLine; decide, fun p hp => k p hp⟩
theorem h_trail (c : GCls K C) (hU : Uni K w aG dU U us) (D : Df K mg "trail" s_trail) (hplus : Has P w K mg base CX0 "plus" 1 ["one", "other"] (spPlus K)) : Has P w K mg base CX0 "trail" 2 ["grid", "directions"] (spTrail K C U) := by
  refine D.has sc_trail (fun vs H Q E h => ?_) (fun kV doc pm an cdv ct us hl => match us, hl with | [_, _], _ => rfl) (fun f cdv A outer s H vs Q E gd hr h => ?_)
  · obtain ⟨g, t, l, ns, rfl, _⟩ := h
    rfl
  · obtain ⟨g, t, l, ns, rfl, hg, hl, ok, few, k⟩ := h
    refine ⟨_, (pss_cons
 (ps_set (i := 2) sc_trail.nd rfl (Or.inl rfl) (pe_lst (pa_cons (pe_tup (pa_cons pe_int (pa_cons pe_int pa_nil))) pa_nil)))
 (pss_cons
 (ps_for PassesOwn.never rfl (pi_list (pv 1)) (pg_name (i := 3) sc_trail.nd rfl (Or.inl rfl)) (pss_one
 (ps_expr (pe_bm PySem.F.plainAttrs_list PySem.F.slot_list_append PySem.F.type_list_append mt_append (pv 2) (pa_cons (pe_callH hplus gd (hr.mono (by decide)) pass0 (pa_cons (pe_ix ix_list (pv 2) (pe_un un_neg pe_int) (fun _ _ => rfl)) (pa_cons (pe_ix ix_tup (pe_fld (pv 0) rfl) (pv 3) (fun _ _ => rfl)) pa_nil))) pa_nil)))))
 (pss_one
 (ps_ret (pv 2))))), ?_⟩
    refine ⟨by show 2 ≤ sizeLine; decide, fun p0 n0 => ⟨by show 1 ≤ sizeLine; decide, fun L nL => ?_⟩⟩
    have P0 : PAt K (upd H p0 (.tup [.int 0, .int 0])) p0 (0, 0) := PAt.of upd_same
    have s0 := Same.new (o := .tup [.int 0, .int 0]) n0
    generalize upd H p0 (.tup [.int 0, .int 0]) = H1 at *
    have A0 : Grow K H1 L [ptD (0, 0)] (upd H1 L (.lst [.ref p0])) := Grow.from nL (.cons P0.dp .nil)
    have hl1 := sqL_same hl s0
    have hg1 := hg.same s0
    refine ⟨_, rfl, l, rfl, ⟨_, sqL_same hl1 A0.same⟩, for_list (a := l) (xs := ns.map V.int) (fun i σ' H' => ∃ v, σ' = [some (.ref g), some (.ref l), some (.ref L), v] ∧ Grow K H1 L ((path t (0, 0) (ns.take i)).map ptD) H') ⟨none, rfl, A0⟩ (fun i σ' H' _ ⟨v, e, A⟩ => sqL_same hl1 A.same) ?_ ?_⟩
    · rintro i x _ H' hx ⟨v, rfl, A⟩
      obtain ⟨n, hn, rfl⟩ : ∃ n, ns[i]? = some n ∧ x = .int n := by
        rw [List.getElem?_map] at hx
        cases e : ns[i]? with
        | none => rw [e] at hx; cases hx
        | some y => rw [e] at hx; cases hx; exact ⟨y, rfl, rfl⟩
      obtain ⟨n0', n1'⟩ := ok n (List.mem_of_getElem? hn)
      obtain ⟨xs, eL, la⟩ := A.ex
      have li : i < ns.length := (List.getElem?_eq_some_iff.mp hn).1
      have lt : (ns.take i).length = i := by rw [List.length_take]; omega
      obtain ⟨last, hlast, hidx⟩ := path_last t (ns.take i) (0, 0)
      have lx : xs.length = i + 1 := by rw [dLen la, List.length_map, path_len, lt]
      rw [lt] at hidx
      obtain ⟨y, hy, dy⟩ := dAt' la (i := i) (d := ptD last) (by rw [List.getElem?_map, hidx]; rfl)
      obtain ⟨qa, rfl, pq⟩ : ∃ q, y = .ref q ∧ PAt K (wo L H') q last := by
        obtain ⟨a, zs, rfl, hs, l2⟩ := dTup dy
        cases l2 with
        | cons z1 z2 => cases z1; cases z2 with
          | cons z3 z4 => cases z3; cases z4; exact ⟨a, rfl, hs⟩
      have pq' := pq.same wo_same
      obtain ⟨dg, eg⟩ := hg1.same A.same
      obtain ⟨iu, hu1, hu2⟩ := unit_at hU (t := t) n
      rw [Int.emod_eq_of_lt n0' n1'] at hu2
      have neg : atI xs (-1) = some (.ref qa) := atI_m1 lx hy
      refine ⟨_, rfl, .inl ⟨rfl, _, SqL.of eL⟩, ?_⟩
      refine ⟨_, rfl, _, rfl, L, _, _, _, rfl, rfl, SqL.of eL, neg, ?_⟩
      refine ⟨_, rfl, _, _, _, _, _, rfl, eg, c.cls, c.units, gF_units, _, rfl, U t, _, _, _, rfl, rfl, hU.tup t _, hu2, ?_⟩
      refine ⟨qa, iu, _, _, rfl, pq', hu1 _, fun p np => ?_⟩
      have eL' := Same.new (o := .tup [.int (padd last (uni t n)).1, .int (padd last (uni t n)).2]) np _ _ eL
      obtain ⟨A1, e1⟩ := A.new (u := .tup [.int (padd last (uni t n)).1, .int (padd last (uni t n)).2]) np
      refine ⟨L, _, _, rfl, rfl, eL', by rw [lx, sizeLine_eq]; omega, _, rfl, ?_⟩
      have A2 := A1.push eL' (PAt.of (u := padd last (uni t n)) e1).dp
      rw [show (path t (0, 0) (ns.take (i + 1))).map ptD = (path t (0, 0) (ns.take i)).map ptD ++ [ptD (padd last (uni t n))] by
        rw [List.take_add_one, hn]
        show (path t (0, 0) (ns.take i ++ [n])).map ptD = _
        rw [path_snoc, hlast, List.map_append]
        rfl]
      exact A2
    · rintro _ H' ⟨v, rfl, A⟩
      rw [List.length_map, List.take_length] at A
      exact ⟨_, rfl, k L H' (s0.trans A.same) A.dp⟩
end
end K13
namespace K13
open PySem PySem.Spec PyProof.Rows L2 GL
noncomputable def Lets (r : RowT) (ys : List Str) : Prop := ys.Perm (setS (r.map (·.1))) ∧ sortedS ys = true
noncomputable def starts (t : Bool) (r : RowT) : List (Int × Int) := (path t (0, 0) (r.map (·.2))).dropLast
noncomputable def sumOf (t : Bool) (r : RowT) : Int × Int := (path t (0, 0) (r.map (·.2))).getLast?.getD (0, 0)
noncomputable def rF (g : Addr) (x l s e : V) : List (Str × V) := [("grid", .ref g), ("row", x), ("letters", l), ("starts", s), ("end", e)]
structure RCls (K : PySem.W.Frag) (D : Addr) : Prop where
  cls : Cls K D
  grid : NoAttr K D "grid"
  row : NoAttr K D "row"
  letters : NoAttr K D "letters"
  starts : NoAttr K D "starts"
  end_ : NoAttr K D "end"
noncomputable def RuleAt (K : PySem.W.Frag) (C : Addr) (U : Bool → Addr) (CR : Addr) (H : Hp) (p : Addr) (t : Bool) (r : RowT) : Prop := ∃ dx g x l s e ys, H p = some (.ins CR dx (rF g x l s e)) ∧ GridAt C U H g t ∧ RowOk t r ∧ Dp K H x (rowD r) ∧ Lets r ys ∧ Dp K H l (.tuple (ys.map PyData.str)) ∧ Dp K H s (.tuple ((starts t r).map ptD)) ∧ Dp K H e (ptD (sumOf t r))
noncomputable def spRInit (K : PySem.W.Frag) (C : Addr) (U : Bool → Addr) (CR : Addr) : Sp := fun vs H Q _ => ∃ p dx g t x r, vs = [.ref p, .ref g, x] ∧ H p = some (.ins CR dx []) ∧ GridAt C U H g t ∧ Dp K H x (rowD r) ∧ RowOk t r ∧ ∀ H', (∀ b o, b ≠ p → H b = some o → H' b = some o) → RuleAt K C U CR H' p t r → Q .non H'
section
variable {P : Program} {w : World} {K : PySem.W.Frag} {mg : Str → Option Value} {base : Heap}
variable {aG dU C CR : Addr} {U : Bool → Addr} {us : Bool → List Addr}
theorem RuleAt.same {H H' : Hp} {p : Addr} {t : Bool} {r : RowT} (h : RuleAt K C U CR H p t r) (s : Same H H') : RuleAt K C U CR H' p t r := by
  obtain ⟨dx, g, x, l, st, e, ys, a1, a2, a3, a4, a5, a6, a7, a8⟩ := h
  exact ⟨dx, g, x, l, st, e, ys, s _ _ a1, a2.same s, a3, dp_same s a4, a5, dp_same s a6, dp_same s a7, dp_same s a8⟩
theorem h_rinit (T : Txt K mg aG dU C CR) (rc : RCls K CR) (D : Dc K CR "Rule.__init__" s_Rule_WinitW) (h_check_grid : Has P w K mg base CX0 "_check_grid" 1 ["grid"] (spCheckG C U)) (his_row : HasK P w K mg base CX0 "is_row" 5 ["grid", "value", "least"] 2 ["least"] (spIsRow K C U)) (htrail : Has P w K mg base CX0 "trail" 2 ["grid", "directions"] (spTrail K C U)) (m : mg "Rule" = some (.ref CR)) :
    HasG P w K mg base "Rule" CR 6 ["self", "grid", "items"] (spRInit K C U CR) := by
  refine D.hasG m sc_Rule_WinitW (fun vs H Q E h => ?_) (fun kV doc pm an cdv ct us hl => match us, hl with | [_, _, _], _ => rfl) (fun f cdv A outer s H vs Q E gd hr h => ?_)
  · obtain ⟨p, dx, g, t, x, r, rfl, _⟩ := h
    rfl
  · obtain ⟨p, dx, g, t, x, r, rfl, hp, hg, hx, ok, k⟩ := h
    refine ⟨_, (pss_cons
 (ps_expr (pe_callH h_check_grid gd (hr.mono (by decide)) pass0 (pa_cons (pv 1) pa_nil)))
 (pss_cons
 (ps_if (pt_not (pt_val (pe_callKH his_row gd (hr.mono (by decide)) pass0 (pa_cons (pv 1) (pa_cons (pv 2) pa_nil)) (pk_cons (pe_globV T.gMIN_ITEMS) pk_nil)))) (pss_one
 ps_never) pss_nil)
 (pss_cons
 (ps_set (i := 3) sc_Rule_WinitW.nd rfl (Or.inl rfl) (pe_callH htrail gd (hr.mono (by decide)) pass0 (pa_cons (pv 1) (pa_cons (pe_lc (own := [("letter", 4), ("turn", 5)]) (g := (gTup K 2 (gCons (gName 4) (gCons (gName 5) gNil)))) (tt := tYes) (by rfl) sc_Rule_WinitW.nd (pi_tup (pv 2)) (blkOk_by (own := [("letter", 4), ("turn", 5)]) (N := N_Rule_WinitW) (sc := defScope s_Rule_WinitW) (by decide +kernel)) (fun _ _ _ _ _ => (pg_tupK (K0 := K) (n := 2) (by exact rfl) (by rfl) (pgs_cons (pg_name (i := 4) sc_Rule_WinitW.nd rfl (Or.inl rfl)) (pgs_cons (pg_name (i := 5) sc_Rule_WinitW.nd rfl (Or.inl rfl)) pgs_nil)))) (fun _ _ _ _ _ => pts_nil) (fun _ _ _ _ _ => (pv 5))) pa_nil))))
 (pss_cons
 (ps_fld (pv 0) (pv 1) rfl)
 (pss_cons
 (ps_fld (pv 0) (pv 2) rfl)
 (pss_cons
 (ps_fld (pv 0) (pe_callTy call_tuple_of (by exact rfl) T.ztuple (by decide +kernel) (pa_cons (pe_callB call_sortedT (by exact rfl) T.zsorted (by decide +kernel) (pa_cons (pe_scT (own := [("letter", 4), ("turn", 5)]) (g := (gTup K 2 (gCons (gName 4) (gCons (gName 5) gNil)))) (tt := tYes) sc_Rule_WinitW.nd (pi_tup (pv 2)) (blkOk_by (own := [("letter", 4), ("turn", 5)]) (N := N_Rule_WinitW) (sc := defScope s_Rule_WinitW) (by decide +kernel)) (fun _ _ _ _ _ => (pg_tupK (K0 := K) (n := 2) (by exact rfl) (by rfl) (pgs_cons (pg_name (i := 4) sc_Rule_WinitW.nd rfl (Or.inl rfl)) (pgs_cons (pg_name (i := 5) sc_Rule_WinitW.nd rfl (Or.inl rfl)) pgs_nil)))) (fun _ _ _ _ _ => pts_nil) (fun _ _ _ _ _ => (pv 4))) pa_nil)) pa_nil)) rfl)
 (pss_cons
 (ps_fld (pv 0) (pe_callTy call_tuple_of (by exact rfl) T.ztuple (by decide +kernel) (pa_cons (pe_slice sl_list (pv 3) po_none (po_some (pe_un un_neg pe_int))) pa_nil)) rfl)
 (pss_one
 (ps_fld (pv 0) (pe_ix ix_list (pv 3) (pe_un un_neg pe_int) (fun _ _ => rfl)) rfl))))))))), ?_⟩
    obtain ⟨a, xs, rfl, hs, l⟩ := dTup hx
    have ln := rowLen l
    refine ⟨_, rfl, g, t, rfl, hg, ?_⟩
    refine ⟨_, rfl, _, rfl, rfl, rfl, g, t, _, r, rfl, hg, hx, ok, fun H1 s1 => ?_⟩
    refine ⟨_, rfl, (iteF ?_ : if (!true) = true then _ else _)⟩
    have few : r.length ≤ 1000 := Nat.le_trans ok.most (by decide)
    refine ⟨_, rfl, _, rfl, a, rfl, ⟨_, sqT_same hs s1⟩, fun D hD => lc_row (fun it => .int it.2) (sqT_same hs s1) (dps_same s1 l) few hD (fun _ _ => rfl) (fun n it H' _ _ _ Q q => ⟨_, rfl, q _ _ same_rfl (.int _)⟩) (fun H2 s2 dp => ?_)⟩
    obtain ⟨_, ys, e0, hys, lys⟩ := dLst dp
    cases e0
    have ey : ys = (r.map (·.2)).map V.int := dInts' (by rw [List.map_map]; exact lys)
    subst ey
    refine ⟨g, t, D, r.map (fun it : Str × Int => it.2), rfl, (hg.same s1).same s2, hys, ?_, by rw [List.length_map]; exact few, fun L H3 s3 dL => ?_⟩
    · intro n hn
      obtain ⟨it, hit, rfl⟩ := List.mem_map.mp hn
      exact ⟨(ok.all it hit).a, (ok.all it hit).b⟩
    have s13 := (s1.trans s2).trans s3
    have hp3 := s13 _ _ hp
    have hg3 := hg.same s13
    obtain ⟨dg, eg⟩ := id hg3
    have gp : g ≠ p := fun z => by rw [z, hp3] at eg; cases eg
    have M1 : Dp K (wo p H3) (.ref a) (rowD r) := dp_wo hp3 (dp_same s13 hx)
    have M2 := dp_wo hp3 dL
    have M3 : GridAt C U (wo p H3) g t := ⟨dg, wo_at eg gp⟩
    refine ⟨_, rfl, _, rfl, _, _, _, _, rfl, hp3, rc.cls, rc.grid, by show 0 < 1000; decide, ?_⟩
    refine ⟨_, rfl, _, rfl, _, _, _, _, rfl, upd_same, rc.cls, rc.row, by show 1 < 1000; decide, ?_⟩
    have u2 : ∀ {o1 o2 : HO}, Same (wo p H3) (upd (upd H3 p o1) p o2) := fun {o1 o2} => by
      have z := wo_under (H := upd H3 p o1) (D := p) (o := o2)
      rw [wo_upd] at z
      exact z
    obtain ⟨_, xs', e1, hs', l'⟩ := dTup M1
    cases e1
    have Su := u2 (o1 := .ins CR dx (putF "grid" (V.ref g) [])) (o2 := .ins CR dx (putF "row" (V.ref a) (putF "grid" (V.ref g) [])))
    have e5 : upd (upd H3 p (.ins CR dx (putF "grid" (V.ref g) []))) p (.ins CR dx (putF "row" (V.ref a) (putF "grid" (V.ref g) []))) p = some (.ins CR dx (putF "row" (V.ref a) (putF "grid" (V.ref g) []))) := upd_same
    have keep5 : ∀ b o, b ≠ p → H b = some o → upd (upd H3 p (.ins CR dx (putF "grid" (V.ref g) []))) p (.ins CR dx (putF "row" (V.ref a) (putF "grid" (V.ref g) []))) b = some o := fun b o n e => by rw [upd_ne n, upd_ne n]; exact s13 _ _ e
    generalize upd (upd H3 p (.ins CR dx (putF "grid" (V.ref g) []))) p (.ins CR dx (putF "row" (V.ref a) (putF "grid" (V.ref g) []))) = H5 at *
    have Mp : wo p H3 p = none := wo_D
    generalize wo p H3 = M at *
    refine ⟨_, rfl, a, rfl, ⟨_, sqT_same hs' Su⟩, fun D2 hD2 => sc_row (sqT_same hs' Su) (dps_same Su l') few hD2 (fun _ _ => rfl) (fun it H' Q q => ⟨_, rfl, q⟩) (fun H6 s6 e6 => ?_)⟩
    have l64 := setS_len (r.map (fun it : Str × Int => it.1))
    rw [List.length_map] at l64
    refine ⟨D2, _, rfl, e6, by have := ok.most; omega, fun ys p2 perm srt n2 => ?_⟩
    refine ⟨p2, _, rfl, .inl ⟨SqL.of upd_same, fun p3 n3 => ?_⟩⟩
    have s7 := s6.trans ((Same.new (o := .lst (ys.map V.str)) n2).trans (Same.new (o := .tup (ys.map V.str)) n3))
    have e7 := s7 _ _ e5
    have d7 : Dp K (upd (upd H6 p2 (.lst (ys.map V.str))) p3 (.tup (ys.map V.str))) (.ref p3) (.tuple (ys.map PyData.str)) := .tup (SqT.of upd_same) dStrs
    generalize upd (upd H6 p2 (.lst (ys.map V.str))) p3 (.tup (ys.map V.str)) = H7 at *
    have M4 := dp_wo e7 d7
    have Sm7 : Same M (wo p H7) := fun b o e => wo_at (s7 _ _ (Su _ _ e)) (fun z => by rw [z, Mp] at e; cases e)
    refine ⟨_, rfl, _, _, _, _, rfl, e7, rc.cls, rc.letters, by show 2 < 1000; decide, ?_⟩
    have F7 : Same (wo p H7) (upd H7 p (.ins CR dx (putF "letters" (V.ref p3) (putF "row" (V.ref a) (putF "grid" (V.ref g) []))))) := wo_under
    have e8 : upd H7 p (.ins CR dx (putF "letters" (V.ref p3) (putF "row" (V.ref a) (putF "grid" (V.ref g) [])))) p = some (.ins CR dx (putF "letters" (V.ref p3) (putF "row" (V.ref a) (putF "grid" (V.ref g) [])))) := upd_same
    have keep8 : ∀ b o, b ≠ p → H b = some o → upd H7 p (.ins CR dx (putF "letters" (V.ref p3) (putF "row" (V.ref a) (putF "grid" (V.ref g) [])))) b = some o := fun b o n e => by rw [upd_ne n]; exact s7 _ _ (keep5 b o n e)
    generalize upd H7 p (.ins CR dx (putF "letters" (V.ref p3) (putF "row" (V.ref a) (putF "grid" (V.ref g) [])))) = H8 at *
    have Mp7 : wo p H7 p = none := wo_D
    generalize wo p H7 = M7 at *
    replace M1 := dp_same Sm7 M1
    replace M2 := dp_same Sm7 M2
    replace M3 := M3.same Sm7
    obtain ⟨_, zs, e2, hz, lz⟩ := dLst M2
    cases e2
    have lzs : zs.length = r.length + 1 := by rw [dLen lz, List.length_map, path_len, List.length_map]
    refine ⟨_, rfl, _, rfl, _, rfl, L, zs, rfl, sqL_same hz F7, fun p4 n4 => ?_⟩
    rw [show cutV zs none (some (-1)) = zs.take r.length from cut_init lzs]
    refine ⟨p4, _, rfl, .inl ⟨SqL.of upd_same, fun p5 n5 => ?_⟩⟩
    have s9 := (Same.new (o := .lst (zs.take r.length)) n4).trans (Same.new (o := .tup (zs.take r.length)) n5)
    have e9 := s9 _ _ e8
    have M5 : Dp K M7 (.ref L) (.list ((path t (0, 0) (r.map (fun it : Str × Int => it.2))).map ptD)) := .lst hz lz
    have d9 : Dp K (upd (upd H8 p4 (.lst (zs.take r.length))) p5 (.tup (zs.take r.length))) (.ref p5) (.tuple ((starts t r).map ptD)) := by
      refine .tup (SqT.of upd_same) ?_
      have z := dps_same (F7.trans s9) (dTake r.length lz)
      rw [← List.map_take] at z
      unfold starts
      rw [List.dropLast_eq_take, path_len, List.length_map]
      exact z
    generalize upd (upd H8 p4 (.lst (zs.take r.length))) p5 (.tup (zs.take r.length)) = H9 at *
    have M6 := dp_wo e9 d9
    have Sm9 : Same M7 (wo p H9) := fun b o e => wo_at (s9 _ _ (F7 _ _ e)) (fun z => by rw [z, Mp7] at e; cases e)
    refine ⟨_, rfl, _, _, _, _, rfl, e9, rc.cls, rc.starts, by show 3 < 1000; decide, ?_⟩
    have F9 : Same (wo p H9) (upd H9 p (.ins CR dx (putF "starts" (V.ref p5) (putF "letters" (V.ref p3) (putF "row" (V.ref a) (putF "grid" (V.ref g) [])))))) := wo_under
    obtain ⟨v, hv1, hv2⟩ := path_last t (r.map (fun it : Str × Int => it.2)) (0, 0)
    rw [List.length_map] at hv2
    obtain ⟨y, hy, dy⟩ := dAt' lz (i := r.length) (d := ptD v) (by rw [List.getElem?_map, hv2]; rfl)
    refine ⟨_, rfl, _, rfl, L, _, _, _, rfl, rfl, sqL_same hz (Sm9.trans F9), atI_m1 lzs hy, ?_⟩
    refine ⟨_, rfl, _, _, _, _, rfl, upd_same, rc.cls, rc.end_, by show 4 < 1000; decide, k _ (fun b o n e => by rw [upd_ne n, upd_ne n]; exact s9 _ _ (keep8 b o n e)) ?_⟩
    have F10 : ∀ {o1 o2 : HO}, Same (wo p H9) (upd (upd H9 p o1) p o2) := fun {o1 o2} => by
      have z := wo_under (H := upd H9 p o1) (D := p) (o := o2)
      rw [wo_upd] at z
      exact z
    refine ⟨dx, g, .ref a, .ref p3, .ref p5, y, ys, ?_, (M3.same Sm9).same F10, ok, dp_same F10 (dp_same Sm9 M1), ⟨perm, srt⟩, dp_same F10 (dp_same Sm9 M4), dp_same F10 M6, ?_⟩
    · rw [upd_same]
      rfl
    · unfold sumOf
      rw [show (List.map (fun x : Str × Int => x.2) r) = r.map (fun it : Str × Int => it.2) from rfl, hv1]
      exact dp_same F10 (dp_same Sm9 dy)
end
end K13
namespace K13
open PySem PySem.Spec PyProof.Rows L2 GL
noncomputable def itemT (it : Str × Int) : Str := it.1 ++ (toString it.2 : Str)
noncomputable def rowT (r : RowT) : Str := Txt.join " " (r.map itemT)
/-- a row of at most twelve items -/
structure RowS (t : Bool) (r : RowT) : Prop where
  most : r.length ≤ 12
  all : ∀ x ∈ r, ItemOk t x
theorem _root_.GL.RowOk.s {t : Bool} {r : RowT} (h : RowOk t r) : RowS t r := ⟨h.most, h.all⟩
noncomputable def spRowText (K : PySem.W.Frag) : Sp := fun vs H Q _ => ∃ x r t, vs = [x] ∧ Dp K H x (rowD r) ∧ RowS t r ∧ ∀ H', Same H H' → Q (.str (rowT r)) H'
noncomputable def spRLen (K : PySem.W.Frag) (C : Addr) (U : Bool → Addr) (CR : Addr) : Sp := fun vs H Q _ => ∃ p t r, vs = [.ref p] ∧ RuleAt K C U CR H p t r ∧ Q (.int r.length) H
noncomputable def spRStr (K : PySem.W.Frag) (C : Addr) (U : Bool → Addr) (CR : Addr) : Sp := fun vs H Q _ => ∃ p t r, vs = [.ref p] ∧ RuleAt K C U CR H p t r ∧ ∀ H', Same H H' → Q (.str (rowT r)) H'
noncomputable def spRIter (K : PySem.W.Frag) (C : Addr) (U : Bool → Addr) (CR : Addr) : Sp := fun vs H Q _ => ∃ p dx g a l s e, vs = [.ref p] ∧ H p = some (.ins CR dx (rF g (.ref a) l s e)) ∧ ∃ xs, SqT K H a xs ∧ ∀ it, H it = none → Q (.ref it) (upd H it (ItT a it 0))
noncomputable def spRItem (K : PySem.W.Frag) (C : Addr) (U : Bool → Addr) (CR : Addr) : Sp := fun vs H Q _ => ∃ p t r i it, vs = [.ref p, .int (i : Nat)] ∧ RuleAt K C U CR H p t r ∧ r[i]? = some it ∧ ∀ x, Dp K H x (itemD it) → Q x H
/-- y as the other side of a rule -/
noncomputable def ROpdR (K : PySem.W.Frag) (C : Addr) (U : Bool → Addr) (CR : Addr) (H : Hp) (t : Bool) (r : RowT) (y : V) (b : Bool) : Prop := (∃ p t' r', y = .ref p ∧ RuleAt K C U CR H p t' r' ∧ b = (t == t' && decide (r = r'))) ∨ ∃ kd, Of K H y kd ∧ b = false
noncomputable def spREq (K : PySem.W.Frag) (C : Addr) (U : Bool → Addr) (CR : Addr) : Sp := fun vs H Q _ => ∃ p t r y b, vs = [.ref p, y] ∧ RuleAt K C U CR H p t r ∧ ROpdR K C U CR H t r y b ∧ Q (.bl b) H
noncomputable def spRIn (K : PySem.W.Frag) (C : Addr) (U : Bool → Addr) (CR : Addr) : Sp := fun vs H Q _ => ∃ p t r x d, vs = [.ref p, x] ∧ RuleAt K C U CR H p t r ∧ Dp K H x d ∧ Mild d ∧ SeqAt.shaped d = true ∧ Q (.bl (if isItemD t d then (r.map itemD).any (fun z => PyData.eqv z d) else (r.map fun it => PyData.str it.1).any (fun z => PyData.eqv z d))) H
theorem dec_len : ∀ i : Int, 0 ≤ i → i < 6 → (Str.ofString (toString i)).length = 1 := by
  intro i a b
  have h : i = 0 ∨ i = 1 ∨ i = 2 ∨ i = 3 ∨ i = 4 ∨ i = 5 := by omega
  rcases h with h | h | h | h | h | h <;> subst h <;> decide +kernel
theorem let_len {y : Str} (h : LetS y = true) : y.length = 1 := of_decide_eq_true (Bool.and_eq_true_iff.mp h).1
theorem item_len {t : Bool} {it : Str × Int} (h : ItemOk t it) : (itemT it).length = 2 := by
  have n : (num t : Int) ≤ 6 := by cases t <;> decide
  unfold itemT
  rw [Str.length_append, let_len h.l]
  have z := dec_len it.2 h.a (by have := h.b; omega)
  show 1 + (Str.ofString (toString it.2)).length = 2
  rw [z]
section
variable {P : Program} {w : World} {K : PySem.W.Frag} {mg : Str → Option Value} {base : Heap}
variable {aG dU C CR : Addr} {U : Bool → Addr} {us : Bool → List Addr}
theorem rF_row {g : Addr} {x l s e : V} : (rF g x l s e).lookup ("row" : Str) = some x := rfl
theorem h_row_text (T : Txt K mg aG dU C CR) (D : Df K mg "row_text" s_row_text) : Has P w K mg base CX0 "row_text" 1 ["items"] (spRowText K) := by
  refine D.has sc_row_text (fun vs H Q E h => ?_) (fun kV doc pm an cdv ct us hl => match us, hl with | [_], _ => rfl) (fun f cdv A outer s H vs Q E gd hr h => ?_)
  · obtain ⟨x, r, t, rfl, _⟩ := h
    rfl
  · obtain ⟨x, r, t, rfl, hx, ok, k⟩ := h
    refine ⟨_, (pss_one
 (ps_ret (pe_bm PySem.F.plainAttrs_str PySem.F.slot_str_join PySem.F.type_str_join mt_join pe_str (pa_cons (pe_lc (own := [("letter", 1), ("turn", 2)]) (g := (gTup K 2 (gCons (gName 1) (gCons (gName 2) gNil)))) (tt := tYes) (by rfl) sc_row_text.nd (pi_tup (pv 0)) (blkOk_by (own := [("letter", 1), ("turn", 2)]) (N := N_row_text) (sc := defScope s_row_text) (by decide +kernel)) (fun _ _ _ _ _ => (pg_tupK (K0 := K) (n := 2) (by exact rfl) (by rfl) (pgs_cons (pg_name (i := 1) sc_row_text.nd rfl (Or.inl rfl)) (pgs_cons (pg_name (i := 2) sc_row_text.nd rfl (Or.inl rfl)) pgs_nil)))) (fun _ _ _ _ _ => pts_nil) (fun _ _ _ _ _ => (pe_joined (.cons (pe_fmt (pv 1)) (.cons (pe_fmt (pv 2)) .nil))))) pa_nil)))), ?_⟩
    obtain ⟨a, xs, rfl, hs, l⟩ := dTup hx
    have few : r.length ≤ 1000 := Nat.le_trans ok.most (by decide)
    refine ⟨rfl, _, rfl, a, rfl, ⟨_, hs⟩, fun D hD => lc_row (te := fun σ H Q => tJs [tFmt (tVar 1), tFmt (tVar 2)] Str.empty σ H fun out H1 => Q (V.str out) H1) (fun it => .str (itemT it)) hs l few hD (fun _ _ => rfl) (fun n it H' hit _ _ Q q => ?_) (fun H2 s2 dp => ?_)⟩
    · have iok := ok.all it (List.mem_of_getElem? hit)
      have n6 : (num t : Int) ≤ 6 := by cases t <;> decide
      have lo := iok.a
      have hi := iok.b
      have l1 := let_len iok.l
      have l2 := item_len iok
      refine ⟨_, rfl, .inl ⟨_, rfl, by rw [l1, sizeLine_eq]; decide, ?_⟩⟩
      refine ⟨_, rfl, by rw [Str.empty_append, l1, sizeLine_eq]; decide, _, rfl, .inr ⟨_, rfl, Nat.lt_trans (PySem.Flt.log2_lt_of (k := 4) (by decide) (by omega)) (by decide), ?_⟩⟩
      rw [Str.empty_append]
      exact ⟨_, rfl, by show (itemT it).length ≤ sizeLine; rw [l2, sizeLine_eq]; decide, q _ _ same_rfl (.str _)⟩
    · obtain ⟨_, ys, e0, hys, lys⟩ := dLst dp
      cases e0
      have ey : ys = (r.map itemT).map V.str := dStrs' (by rw [List.map_map]; exact lys)
      subst ey
      refine ⟨_, _, _, rfl, rfl, .inl hys, ?_, k _ s2⟩
      have sum : ((r.map itemT).map (fun x => x.length)).sum = 2 * r.length := by
        have each : ∀ it ∈ r, (itemT it).length = 2 := fun it h => item_len (ok.all it h)
        clear ok l dp hys lys k few hx
        induction r with
        | nil => rfl
        | cons x r ih =>
          have a1 := each x (List.mem_cons_self ..)
          have a2 := ih (fun it h => each it (List.mem_cons_of_mem _ h))
          simp only [List.map_cons, List.sum_cons, List.length_cons] at a2 ⊢
          omega
      have m := ok.most
      rw [sum, List.length_map]
      show 2 * r.length + r.length * 1 ≤ 16777216
      omega
end
end K13
namespace K13
open PySem PySem.Spec PyProof.Rows L2 GL SkE
theorem let_ok {y : Str} (h : LetS y = true) : PyData.strOk y = true := by
  unfold PyData.strOk
  have z := (Bool.and_eq_true_iff.mp h).2
  rw [List.all_eq_true] at z
  rw [Array.all_eq_true]
  intro i hi
  have m := z (y.cps[i]) (by simp)
  simp only [Bool.and_eq_true, decide_eq_true_eq] at m
  refine decide_eq_true ?_
  exact Nat.lt_of_le_of_lt m.2 (by decide)
theorem strs_lays : ∀ {ys : List Str}, (∀ y ∈ ys, PyData.strOk y = true) → PyData.canLayAll0 (ys.map PyData.str) = true
  | [], _ => rfl
  | w :: r, h => by
    have := strs_lays (ys := r) (fun v hv => h v (List.mem_cons_of_mem _ hv))
    simp [PyData.canLayAll0, PyData.canLay0, this, h w (List.mem_cons_self ..)]
theorem strs_deep : ∀ (ys : List Str), PyData.depthAll (ys.map PyData.str) = 0
  | [] => by simp [PyData.depthAll]
  | y :: r => by simp [PyData.depthAll, PyData.depth, strs_deep r]
theorem strs_shapedT {ys : List Str} (h : ∀ y ∈ ys, PyData.strOk y = true) : SeqAt.shaped (.tuple (ys.map PyData.str)) = true := by
  unfold SeqAt.shaped
  simp [PyData.canLay0, strs_lays h, PyData.depth, strs_deep]
theorem item_eqv (a b : Str × Int) : PyData.eqv (itemD a) (itemD b) = decide (a = b) := by
  obtain ⟨a1, a2⟩ := a
  obtain ⟨b1, b2⟩ := b
  simp [itemD, PyData.eqv, PyData.eqvAll, Prod.ext_iff]
  rfl
theorem row_eqvA : ∀ (a b : RowT), PyData.eqvAll (a.map itemD) (b.map itemD) = decide (a = b)
  | [], [] => rfl
  | [], _ :: _ => rfl
  | _ :: _, [] => rfl
  | x :: a, y :: b => by
    show (PyData.eqv (itemD x) (itemD y) && PyData.eqvAll (a.map itemD) (b.map itemD)) = _
    rw [item_eqv, row_eqvA a b]
    by_cases h1 : x = y <;> by_cases h2 : a = b <;> simp [h1, h2]
theorem row_eqv (a b : RowT) : PyData.eqv (rowD a) (rowD b) = decide (a = b) := by
  show PyData.eqvAll (a.map itemD) (b.map itemD) = _
  exact row_eqvA a b
section
variable {P : Program} {w : World} {K : PySem.W.Frag} {mg : Str → Option Value} {base : Heap}
variable {aG dU C CR : Addr} {U : Bool → Addr} {us : Bool → List Addr}
theorem h_rstr (T : Txt K mg aG dU C CR) (rc : RCls K CR) (D : Dm K CR "__str__" "Rule.__str__" s_Rule_WstrW) (hrow_text : Has P w K mg base CX0 "row_text" 1 ["items"] (spRowText K)) : HasM P w K mg base CX0 CR "__str__" 2 ["self"] (spRStr K C U CR) := by
  refine D.has sc_Rule_WstrW (fun vs H Q E h => ?_) (fun kV doc pm an cdv ct us hl => match us, hl with | [_], _ => rfl) (fun f cdv A outer s H vs Q E gd hr h => ?_)
  · obtain ⟨p, t, r, rfl, _⟩ := h
    rfl
  · obtain ⟨p, t, r, rfl, ⟨dx, g, xr, ll, ss, ee, ys, e1, hg, ok, hx, lets, hl, _⟩, k⟩ := h
    refine ⟨_, (pss_one
 (ps_ret (pe_callTy call_str_str (by exact rfl) T.zstr (by decide +kernel) (pa_cons (pe_callH hrow_text gd (hr.mono (by decide)) pass0 (pa_cons (pe_fld (pv 0) rfl) pa_nil)) pa_nil)))), ?_⟩
    exact ⟨_, rfl, _, _, _, _, _, rfl, e1, rc.cls, rc.row, rF_row, _, r, t, rfl, hx, ok.s, fun H' s' => ⟨_, rfl, k H' s'⟩⟩
end
end K13
namespace K13
open PySem PySem.Spec PyProof.Rows L2 GL SkE
theorem made_same {D : Addr} {H1 : Hp} {q dq : Addr} (hq : H1 q = none) (hdq : H1 dq = none) (ne : dq ≠ q) : Same H1 (upd (upd H1 dq (.own q)) q (.ins D dq [])) := (Same.new hdq).trans (Same.new (by rw [upd_ne ne.symm]; exact hq))
theorem made_keep {H1 Hm H' : Hp} {q : Addr} (hq : H1 q = none) (s : Same H1 Hm) (keep : ∀ b o, b ≠ q → Hm b = some o → H' b = some o) : Same H1 H' := fun b o e => keep b o (fun z => by rw [z, hq] at e; cases e) (s b o e)
theorem made_grid {D : Addr} {H1 H' : Hp} {q dq : Addr} (hq : H1 q = none) (hdq : H1 dq = none) (ne : dq ≠ q) (keep : ∀ b, b ≠ q → H' b = (upd (upd H1 dq (.own q)) q (.ins D dq [])) b) : Same H1 H' := made_keep hq (made_same hq hdq ne) (fun b o n e => by rw [keep b n]; exact e)
theorem nil_intro {σ : L2.St} {H : Hp} {R : List V → Hp → Prop} (h : R [] H) : tNil σ H R := h
theorem TK.wo {H : Hp} {D : Addr} {xs : List V} (e : H D = some (.lst xs)) : TK H (wo D H) := fun b o h n => wo_at h (fun z => by rw [z, e] at h; cases h; exact n _ rfl)
theorem die_same {H H' : Hp} {p : Addr} (d : Die H p) (s : Same H H') : Die H' p := let ⟨l, b, c, h0, e⟩ := d; ⟨l, b, c, h0, s _ _ e⟩
theorem die_free {H : Hp} {p b : Addr} (d : Die H p) (n : H b = none) : b ≠ p := fun z => by obtain ⟨_, _, _, _, e⟩ := d; rw [z, e] at n; cases n
theorem got_same {p : Addr} {H H1 H2 : Hp} (s : Same H H1) (g : Got p H1 H2) : Got p H H2 := ⟨fun b o e n => g.keep b o (s _ _ e) n, g.die⟩
section
variable {K : PySem.W.Frag} {H : Hp} {x y : V} {ds es : List PyData} {Q : VK}
theorem cat_go (ha : Dp K H x (.tuple ds)) (hb : Dp K H y (.tuple es)) (few : ds.length + es.length ≤ sizeLine) (k : ∀ z H', Same H H' → Dp K H' z (.tuple (ds ++ es)) → Q z H') : rCatA K x y H Q := by
  obtain ⟨a, xs, rfl, hx, lx⟩ := dTup ha
  obtain ⟨b, ys, rfl, hy, ly⟩ := dTup hb
  have l1 := dLen lx
  have l2 := dLen ly
  refine ⟨a, b, xs, ys, rfl, rfl, hx, hy, by rw [l1, l2]; exact few, fun e => ?_, fun _ e => ?_, fun _ _ p np => ?_⟩
  · have d0 : ds = [] := List.length_eq_zero_iff.mp (by rw [← l1, e]; rfl)
    exact k _ H same_rfl (by rw [d0]; exact hb)
  · have e0 : es = [] := List.length_eq_zero_iff.mp (by rw [← l2, e]; rfl)
    exact k _ H same_rfl (by rw [e0, List.append_nil]; exact ha)
  · exact k _ _ (Same.new np) (.tup (SqT.of upd_same) (dApp (dps_same (Same.new np) lx) (dps_same (Same.new np) ly)))
end
section
variable {K : PySem.W.Frag} {H : Hp} {C CR : Addr} {U : Bool → Addr} {t : Bool} {r : RowT}
theorem go_grid {H1 : Hp} {Q : Addr → Hp → Prop} {E : XK} (k : ∀ g H3, Same H1 H3 → GridAt C U H3 g t → Q g H3) :
    ∀ q dq, H1 q = none → H1 dq = none → dq ≠ q → spInit C U (.ref q :: ([.str (nm t)] ++ [])) (upd (upd H1 dq (.own q)) q (.ins C dq [])) (fun v H2 => v = .non ∧ Q q H2) E := by
  intro q dq ng nd ne
  exact ⟨q, dq, t, rfl, upd_same, fun H3 keep eg => ⟨rfl, k q H3 (made_grid ng nd ne keep) ⟨dq, eg⟩⟩⟩
theorem go_rule {H1 : Hp} {g : Addr} {x : V} {Q : Addr → Hp → Prop} {E : XK} (gr : GridAt C U H1 g t) (hx : Dp K H1 x (rowD r)) (ok : RowOk t r) (k : ∀ R H4, H1 R = none → Same H1 H4 → RuleAt K C U CR H4 R t r → Q R H4) :
    ∀ q dq, H1 q = none → H1 dq = none → dq ≠ q → spRInit K C U CR (.ref q :: ([.ref g, x] ++ [])) (upd (upd H1 dq (.own q)) q (.ins CR dq [])) (fun v H2 => v = .non ∧ Q q H2) E := by
  intro R dR nR nd ne
  have fm := made_same (D := CR) nR nd ne
  exact ⟨R, dR, g, t, x, r, rfl, upd_same, gr.same fm, dp_same fm hx, ok, fun H4 keep rule => ⟨rfl, k R H4 nR (made_keep nR fm keep) rule⟩⟩
end
section
variable {K : PySem.W.Frag} {H H' H1 : Hp} {C CR : Addr} {U : Bool → Addr} {t : Bool} {r : RowT}
end
noncomputable def RNew (K : PySem.W.Frag) (C : Addr) (U : Bool → Addr) (CR : Addr) (H : Hp) (t : Bool) (r : RowT) (Q : VK) : Prop := ∀ q H', H q = none → Same H H' → RuleAt K C U CR H' q t r → Q (.ref q) H'
theorem fresh_of {H H' : Hp} {r : Addr} (s : Same H H') (n : H' r = none) : H r = none := by
  cases e : H r with
  | none => rfl
  | some o => rw [s _ _ e] at n; cases n
/-- whether data is a row of so many items at least -/
noncomputable def isRowD (t : Bool) (n : Int) : PyData → Bool
  | .tuple ds => (decide (n ≤ (ds.length : Int)) && decide (ds.length ≤ 12)) && ds.all (isItemD t)
  | _ => false
noncomputable def MildD (d : PyData) : Prop := ∀ ds, d = .tuple ds → ds.length ≤ 1000 ∧ ∀ x ∈ ds, Mild x
noncomputable def spIsRowG (K : PySem.W.Frag) (C : Addr) (U : Bool → Addr) : Sp := fun vs H Q _ => ∃ g t x d n, vs = [.ref g, x, .int n] ∧ GridAt C U H g t ∧ Dp K H x d ∧ isCountV (.int n) = true ∧ MildD d ∧ ∀ H', Same H H' → Q (.bl (isRowD t n d)) H'
noncomputable def spWrite (K : PySem.W.Frag) : Sp := fun vs H Q _ => ∃ x r, vs = [x] ∧ Dp K H x (rowD r) ∧ RowS true r ∧ 1 ≤ r.length ∧ ∀ H', Same H H' → Q (.str (rowT r)) H'
theorem item_mild {t : Bool} {it : Str × Int} (h : ItemOk t it) : Mild (itemD it) := ⟨by show 2 ≤ 1000; decide, fun d hd y e => by
  simp only [List.mem_cons, List.not_mem_nil, or_false] at hd
  rcases hd with rfl | rfl
  · cases e
    show it.1.length ≤ 1000
    rw [let_len h.l]; decide
  · cases e⟩
theorem row_mild {t : Bool} {r : RowT} (h : RowS t r) : MildD (rowD r) := fun ds e => by
  cases e
  refine ⟨by rw [List.length_map]; have := h.most; omega, fun x hx => ?_⟩
  obtain ⟨it, hi, rfl⟩ := List.mem_map.mp hx
  exact item_mild (h.all it hi)
theorem isRow_row {t : Bool} {n : Int} {r : RowT} : isRowD t n (rowD r) = true ↔ n ≤ (r.length : Int) ∧ RowS t r := by
  show (((decide (n ≤ ((r.map itemD).length : Int)) && decide ((r.map itemD).length ≤ 12)) && (r.map itemD).all (isItemD t)) = true) ↔ _
  rw [List.length_map, Bool.and_eq_true, Bool.and_eq_true, decide_eq_true_eq, decide_eq_true_eq, List.all_eq_true]
  constructor
  · rintro ⟨⟨h1, h2⟩, h3⟩
    refine ⟨h1, h2, fun it hi => ?_⟩
    have z := h3 (itemD it) (List.mem_map_of_mem hi)
    have z : (LetS it.1 && isTurnD t (.int it.2)) = true := z
    rw [Bool.and_eq_true] at z
    have z2 : (isCountV (.int it.2) && decide (it.2 < (num t : Int))) = true := z.2
    rw [Bool.and_eq_true, decide_eq_true_eq] at z2
    have z3 : (isIntV (.int it.2) && decide ((0 : Int) ≤ it.2)) = true := z2.1
    rw [Bool.and_eq_true, decide_eq_true_eq] at z3
    exact ⟨z.1, z3.2, z2.2⟩
  · rintro ⟨h1, h⟩
    refine ⟨⟨h1, h.most⟩, fun d hd => ?_⟩
    obtain ⟨it, hi, rfl⟩ := List.mem_map.mp hd
    exact item_ok (h.all it hi)
section
variable {P : Program} {w : World} {K : PySem.W.Frag} {mg : Str → Option Value} {base : Heap}
variable {aG dU C CR eP iP : Addr} {U : Bool → Addr} {us : Bool → List Addr}
theorem h_is_row_g (T : Txt K mg aG dU C CR) (D : Df K mg "is_row" s_is_row) (h_check_grid : Has P w K mg base CX0 "_check_grid" 1 ["grid"] (spCheckG C U)) (his_count : Has P w K mg base CX0 "is_count" 2 ["value"] (spIsCount K)) (his_item : Has P w K mg base CX0 "is_item" 4 ["grid", "value"] (spIsItem K C U)) :
    HasK P w K mg base CX0 "is_row" 5 ["grid", "value", "least"] 2 ["least"] (spIsRowG K C U) := by
  refine D.hasK sc_is_row (fun vs H Q E h => ?_) (fun kV doc pm an cdv ct us ws h1 h2 => match us, ws, h1, h2 with | [_, _], [_], _, _ => rfl) (fun f cdv A outer s H vs Q E gd hr h => ?_)
  · obtain ⟨g, t, x, d, n, rfl, _⟩ := h
    rfl
  · obtain ⟨g, t, x, d, n, rfl, hg, hx, cn, mild, q⟩ := h
    refine ⟨_, (pss_cons
 (ps_expr (pe_callH h_check_grid gd (hr.mono (by decide)) pass0 (pa_cons (pv 0) pa_nil)))
 (pss_cons
 (ps_if (pt_not (pt_val (pe_callH his_count gd (hr.mono (by decide)) pass0 (pa_cons (pv 2) pa_nil)))) (pss_one
 ps_never) pss_nil)
 (pss_cons
 (ps_if (PW.pt (pw_or (pt_not (pt_val (pe_callB call_isi (by exact rfl) T.zisinstance (by decide +kernel) (pa_cons (pv 1) (pa_cons (pe_bltn (v := .ty "tuple") (by exact rfl) T.ztuple (by decide +kernel) rfl) pa_nil))))) (pw_or (pt_cmpR op_lt (pe_callB call_len_seq (by exact rfl) T.zlen PySem.boot_len (pa_cons (pv 1) pa_nil)) (pv 2) (nomark _)) (pw_or1 (pt_cmpR op_gt (pe_callB call_len_seq (by exact rfl) T.zlen PySem.boot_len (pa_cons (pv 1) pa_nil)) (pe_globV T.gMAX_ITEMS) (nomark _)))))) (pss_one
 (ps_ret pe_bl)) pss_nil)
 (pss_one
 (ps_ret (pe_callB (cr_all rfl) (by exact rfl) T.zall (by decide +kernel) (pa_cons (pe_lc (own := [("item", 3)]) (g := gName 3) (tt := tYes) (by rfl) sc_is_row.nd (pi_tup (pv 1)) (blkOk_by (own := [("item", 3)]) (N := N_is_row) (sc := defScope s_is_row) (by decide +kernel)) (fun _ _ _ _ _ => pg_name (i := 3) sc_is_row.nd rfl (Or.inl rfl)) (fun _ _ _ _ _ => pts_nil) (fun _ _ _ _ _ => (pe_callH his_item gd (hr.mono (by decide)) pass0 (pa_cons (pv 0) (pa_cons (pv 3) pa_nil))))) pa_nil))))))), ?_⟩
    refine ⟨_, rfl, g, t, rfl, hg, ?_⟩
    refine ⟨_, rfl, _, _, rfl, .int, _, rfl, ?_⟩
    rw [cn]
    refine (iteF ?_ : if (!true) = true then _ else _)
    refine ⟨_, rfl, _, _, _, _, _, rfl, .ty _, dOf hx, kit_tup _, _, rfl, ?_⟩
    cases d with
    | tuple ds =>
      obtain ⟨m1, m2⟩ := mild ds rfl
      obtain ⟨a, xs, rfl, hs, l⟩ := dTup hx
      have ln := dLen l
      have eR : isRowD t n (.tuple ds) = ((decide (n ≤ (ds.length : Int)) && decide (ds.length ≤ 12)) && ds.all (isItemD t)) := rfl
      rw [eR] at q
      refine iteF ⟨_, rfl, a, xs, rfl, .inr hs, _, rfl, _, _, rfl, rfl, _, rfl, ?_⟩
      by_cases c1 : n ≤ (ds.length : Int)
      · rw [decide_eq_false (show ¬ (xs.length : Int) < n by omega)]
        rw [decide_eq_true c1, Bool.true_and] at q
        refine iteF ⟨_, rfl, a, xs, rfl, .inr hs, _, _, rfl, rfl, _, rfl, ?_⟩
        by_cases c2 : ds.length ≤ 12
        · rw [decide_eq_false (show ¬ (12 : Int) < (xs.length : Int) by omega)]
          rw [decide_eq_true c2, Bool.true_and] at q
          refine iteF ?_
          refine ⟨_, rfl, a, rfl, ⟨_, hs⟩, fun D hD => lc_tup (a := a) (xs := xs) (fun i' H' => Same H H' ∧ H' D = some (.lst (((ds.take i').map (isItemD t)).map V.bl))) ⟨Same.new hD, upd_same⟩ (fun i' H' _ h => sqT_same hs h.1) ?_ ?_⟩
          · rintro i' x H' hx ⟨s', hacc⟩
            obtain ⟨d, hd, dx⟩ := dAt l hx
            refine ⟨rfl, ?_⟩
            simp only [tYes, if_true]
            refine ⟨_, rfl, _, rfl, g, t, x, d, rfl, hg.same s', dp_same s' dx, m2 d (List.mem_of_getElem? hd), ?_⟩
            refine ⟨_, hacc, ?_, Same.over s' hD _, ?_⟩
            · rw [List.length_map, List.length_map, List.length_take, sizeLine_eq]
              omega
            · rw [upd_same, List.take_add_one, hd, List.map_append, List.map_append]
              rfl
          rintro Hc ⟨sc, hacc⟩
          rw [ln, List.take_length] at hacc
          refine ⟨D, _, rfl, SqL.of hacc, ?_⟩
          rw [show (ds.map (isItemD t)).all id = ds.all (isItemD t) by rw [List.all_map]; rfl]
          exact q _ sc
        · rw [decide_eq_true (show (12 : Int) < (xs.length : Int) by omega)]
          rw [decide_eq_false c2, Bool.false_and] at q
          exact iteT (q _ same_rfl)
      · rw [decide_eq_true (show (xs.length : Int) < n by omega)]
        rw [decide_eq_false c1, Bool.false_and, Bool.false_and] at q
        exact iteT (iteT (q _ same_rfl))
    | _ => exact iteT (iteT (q _ same_rfl))
end
end K13
namespace K13
open PySem PySem.Spec PyProof.Rows L2 GL SkE
noncomputable abbrev s_norm_in : Stmt := topS 4
noncomputable abbrev N_norm_in : List Str := ["grid", "point"]
theorem sc_norm_in : FnScope N_norm_in ["grid", "point"] (defScope s_norm_in) := ⟨rfl, rfl, rfl, by decide +kernel, rfl, by decide +kernel, by decide +kernel⟩
noncomputable abbrev s__has_rows : Stmt := topS 46
noncomputable abbrev N__has_rows : List Str := ["grid", "axiom", "rules", "letter"]
theorem sc__has_rows : FnScope N__has_rows ["grid", "axiom", "rules"] (defScope s__has_rows) := ⟨rfl, rfl, rfl, by decide +kernel, rfl, by decide +kernel, by decide +kernel⟩
section
variable {P : Program} {w : World} {K : PySem.W.Frag} {mg : Str → Option Value} {base : Heap}
variable {aG dU C CR : Addr} {U : Bool → Addr} {us : Bool → List Addr}
theorem slm {t : Bool} {x : Int} (h : x.natAbs < 2 ^ 3000) : (sl t * x).natAbs < 2 ^ 3001 := by
  cases t
  · show (0 * x).natAbs < _; rw [Int.zero_mul]; decide
  · show (1 * x).natAbs < _; rw [Int.one_mul]; exact Nat.lt_of_lt_of_le h (by decide)

theorem h_norm_in (c : GCls K C) (D : Df K mg "norm_in" s_norm_in) : Has P w K mg base CX0 "norm_in" 1 ["grid", "point"] (spNorm K C U) := by
  refine D.has sc_norm_in (fun vs H Q E h => ?_) (fun kV doc pm an cdv ct us hl => match us, hl with | [_, _], _ => rfl) (fun f cdv A outer s H vs Q E gd hr h => ?_)
  · obtain ⟨g, t, a, u, rfl, _⟩ := h
    rfl
  · obtain ⟨g, t, a, u, rfl, ⟨dx, eg⟩, pu, su, k⟩ := h
    refine ⟨_, (pss_one
 (ps_ret (pe_op op_add (pe_op op_add (pe_op op_mulW (pe_ix ix_tup (pv 1) pe_int (fun _ _ => rfl)) (pe_ix ix_tup (pv 1) pe_int (fun _ _ => rfl))) (pe_op op_mulW (pe_op op_mulW (pe_fld (pv 0) rfl) (pe_ix ix_tup (pv 1) pe_int (fun _ _ => rfl))) (pe_ix ix_tup (pv 1) pe_int (fun _ _ => rfl)))) (pe_op op_mulW (pe_ix ix_tup (pv 1) pe_int (fun _ _ => rfl)) (pe_ix ix_tup (pv 1) pe_int (fun _ _ => rfl)))))), ?_⟩
    refine ⟨_, rfl, _, _, _, _, rfl, rfl, pu, atI_nat (j := 0) rfl, _, rfl, _, _, _, _, rfl, rfl, pu, atI_nat (j := 0) rfl, _, _, rfl, rfl, sm_mul su.1 su.1, ?_⟩
    refine ⟨_, rfl, _, _, _, _, _, rfl, eg, c.cls, c.slant, gF_slant, _, rfl, _, _, _, _, rfl, rfl, pu, atI_nat (j := 0) rfl, _, _, rfl, rfl, sl_mul (Nat.lt_of_lt_of_le su.1 (by decide)), ?_⟩
    refine ⟨_, rfl, _, _, _, _, rfl, rfl, pu, atI_nat (j := 1) rfl, _, _, rfl, rfl, wide_mul (a := 3001) (b := 3000) (slm su.1) su.2 (by decide) (by decide) (by decide), _, _, rfl, rfl, ?_⟩
    refine ⟨_, rfl, _, _, _, _, rfl, rfl, pu, atI_nat (j := 1) rfl, _, rfl, _, _, _, _, rfl, rfl, pu, atI_nat (j := 1) rfl, _, _, rfl, rfl, sm_mul su.2 su.2, _, _, rfl, rfl, k⟩

end
theorem if_nf {A B : Prop} (h : A) : if (!false) = true then A else B := (if_pos (by decide)).mpr h
theorem itemD_of {t : Bool} : ∀ {d : PyData}, isItemD t d = true → ∃ it, d = itemD it
  | .tuple [.str y, .int n], _ => ⟨(y, n), rfl⟩
  | .tuple [.str y, .none], h => by simp [isItemD, isTurnD] at h
  | .tuple [.str y, .bool _], h => by simp [isItemD, isTurnD] at h
  | .tuple [.str y, .str _], h => by simp [isItemD, isTurnD] at h
  | .tuple [.str y, .list _], h => by simp [isItemD, isTurnD] at h
  | .tuple [.str y, .tuple _], h => by simp [isItemD, isTurnD] at h
  | .tuple [.str y, .dict _], h => by simp [isItemD, isTurnD] at h
  | .tuple [.none, _], h => by simp [isItemD, isLetD] at h
  | .tuple [.bool _, _], h => by simp [isItemD, isLetD] at h
  | .tuple [.int _, _], h => by simp [isItemD, isLetD] at h
  | .tuple [.list _, _], h => by simp [isItemD, isLetD] at h
  | .tuple [.tuple _, _], h => by simp [isItemD, isLetD] at h
  | .tuple [.dict _, _], h => by simp [isItemD, isLetD] at h
  | .tuple [], h => by simp [isItemD] at h
  | .tuple [_], h => by simp [isItemD] at h
  | .tuple (_ :: _ :: _ :: _), h => by simp [isItemD] at h
  | .none, h => by simp [isItemD] at h
  | .bool _, h => by simp [isItemD] at h
  | .int _, h => by simp [isItemD] at h
  | .str _, h => by simp [isItemD] at h
  | .list _, h => by simp [isItemD] at h
  | .dict _, h => by simp [isItemD] at h
theorem itemsD_of {t : Bool} : ∀ {ds : List PyData}, (∀ d ∈ ds, isItemD t d = true) → ∃ r : RowT, ds = r.map itemD
  | [], _ => ⟨[], rfl⟩
  | d :: ds, h => by
    obtain ⟨it, rfl⟩ := itemD_of (h d (List.mem_cons_self ..))
    obtain ⟨r, rfl⟩ := itemsD_of (fun x hx => h x (List.mem_cons_of_mem _ hx))
    exact ⟨it :: r, rfl⟩
theorem rowD_of {t : Bool} {n : Int} {d : PyData} (h : isRowD t n d = true) : ∃ r, d = rowD r ∧ n ≤ (r.length : Int) ∧ RowS t r := by
  cases d with
  | tuple ds =>
    have z : ((decide (n ≤ (ds.length : Int)) && decide (ds.length ≤ 12)) && ds.all (isItemD t)) = true := h
    rw [Bool.and_eq_true, List.all_eq_true] at z
    obtain ⟨r, rfl⟩ := itemsD_of z.2
    exact ⟨r, rfl, isRow_row.mp h⟩
  | _ => cases h
theorem two_count : isCountV (.int 2) = true := by
  rw [show isCountV (.int 2) = (isIntV (.int 2) && decide ((0 : Int) ≤ 2)) from rfl, short_of (by decide)]
  rfl
theorem one_count : isCountV (.int 1) = true := by
  rw [show isCountV (.int 1) = (isIntV (.int 1) && decide ((0 : Int) ≤ 1)) from rfl, short_of (by decide)]
  rfl
structure TxS (K : PySem.W.Frag) (mg : Str → Option Value) (aG dU C CR : Addr) : Prop extends Txt K mg aG dU C CR where
  gMAX_LETTERS : MgV mg "MAX_LETTERS" (.int 6)
  gMAX_AXIOM : MgV mg "MAX_AXIOM" (.int 12)
  gLEAST_NORM : MgV mg "LEAST_NORM" (.int 2)
theorem kit_ndct {K : PySem.W.Frag} {k : Kd} (n : k ≠ .dct) : PySem.W.kitOne K (.type k.nm) (.type "dict") = some false := by
  cases k <;> first | exact absurd rfl n | exact kit_ty (by decide +kernel)
theorem kit_dct {K : PySem.W.Frag} : PySem.W.kitOne K (.type "dict") (.type "dict") = some true := kit_ty (by decide +kernel)
theorem tyX_same {K : PySem.W.Frag} {H H' : Hp} {x : V} {t : Value} (h : TyX K H x t) (s : Same H H') : TyX K H' x t := by
  cases h with
  | base b =>
    cases b with
    | non => exact .base .non
    | bl x => exact .base (.bl x)
    | int i => exact .base (.int i)
    | str y => exact .base (.str y)
    | flt y => exact .base (.flt y)
    | lst e => exact .base (.lst (s _ _ e))
    | frz e => exact .base (.frz (s _ _ e))
    | tup e => exact .base (.tup (s _ _ e))
    | dK e => exact .base (.dK (s _ _ e))
    | dT e => exact .base (.dT (s _ _ e))
    | ins e a b c d e2 => exact .base (.ins (s _ _ e) a b c d e2)
  | byt b => exact .byt b
  | set e => exact .set (s _ _ e)
  | kList e c => exact .kList e c
  | kTuple e c => exact .kTuple e c
  | kDict e c => exact .kDict e c
  | fTuple e => exact .fTuple (s _ _ e)
  | fDict e => exact .fDict (s _ _ e)
theorem wo_same1 {H H1 : Hp} {p : Addr} (s : Same H H1) : Same (wo p H) (wo p H1) := fun b o e => by
  unfold wo at e ⊢
  split at e
  · cases e
  · rename_i n
    rw [if_neg n]
    exact s _ _ e
noncomputable def keyD : Key → PyData
  | .inl i => .int i
  | .inr y => .str y
/-- the entries of a dict, beside it -/
noncomputable def Ents (K : PySem.W.Frag) (M : Hp) (kvs : List (Key × V)) (ks : List (Key × PyData)) : Prop := Paired (fun kv kd => kv.1 = kd.1 ∧ Dp K M kv.2 kd.2 ∧ MildD kd.2 ∧ ∀ y, kd.1 = .inr y → y.length ≤ 1000) kvs ks
/-- what is judged as rules: a dict, or no dict -/
noncomputable def RuV (K : PySem.W.Frag) (H : Hp) (x : V) : Option (List (Key × PyData)) → Prop
  | none => ∃ k : Kd, Of K H x k ∧ k ≠ .dct
  | some ks => ∃ q kvs, x = .ref q ∧ H q = some (.dK kvs) ∧ Ents K (wo q H) kvs ks ∧ ks.length ≤ 1000 ∧ (ks.map (·.1)).Nodup
theorem keyDp {K : PySem.W.Frag} {H : Hp} : ∀ {k : Key}, Dp K H (kV k) (keyD k)
  | .inl i => .int i
  | .inr y => .str y
theorem ents_at {K : PySem.W.Frag} {M : Hp} {kvs : List (Key × V)} {ks : List (Key × PyData)} (h : Ents K M kvs ks) : ∀ {i : Nat} {k : Key} {v : V}, kvs[i]? = some (k, v) → ∃ kd, ks[i]? = some kd ∧ k = kd.1 ∧ Dp K M v kd.2 ∧ MildD kd.2 ∧ ∀ y, kd.1 = .inr y → y.length ≤ 1000 := by
  unfold Ents at h
  induction h with
  | nil => intro i k v e; cases e
  | @cons p q ps qs h t ih =>
    intro i k v e
    cases i with
    | zero => cases e; exact ⟨q, rfl, h⟩
    | succ i => exact ih (i := i) e
theorem ents_keys {K : PySem.W.Frag} {M : Hp} {kvs : List (Key × V)} {ks : List (Key × PyData)} (h : Ents K M kvs ks) : kvs.map (·.1) = ks.map (·.1) := by
  unfold Ents at h
  induction h with
  | nil => rfl
  | cons h t ih => rw [List.map_cons, List.map_cons, ih, h.1]
noncomputable def entB (t : Bool) (kd : Key × PyData) : Bool := isLetD (keyD kd.1) && isRowD t 2 kd.2
noncomputable def hasB (t : Bool) (ax : PyData) : Option (List (Key × PyData)) → Bool
  | none => false
  | some ks => isRowD t 1 ax && (decide (1 ≤ ks.length) && decide (ks.length ≤ 6)) && ks.all (entB t)
noncomputable def spHas (K : PySem.W.Frag) (C : Addr) (U : Bool → Addr) : Sp := fun vs H Q _ => ∃ g t ax d x o, vs = [.ref g, ax, x] ∧ GridAt C U H g t ∧ Dp K H ax d ∧ MildD d ∧ RuV K H x o ∧ ∀ H', Same H H' → Q (.bl (hasB t d o)) H'
section
variable {P : Program} {w : World} {K : PySem.W.Frag} {mg : Str → Option Value} {base : Heap}
variable {aG dU C CR : Addr} {U : Bool → Addr} {us : Bool → List Addr}
theorem h_has_rows (T : TxS K mg aG dU C CR) (D : Df K mg "_has_rows" s__has_rows) (his_row : HasK P w K mg base CX0 "is_row" 5 ["grid", "value", "least"] 2 ["least"] (spIsRowG K C U)) (his_letter : Has P w K mg base CX0 "is_letter" 1 ["value"] (spLet K)) :
    Has P w K mg base CX0 "_has_rows" 6 ["grid", "axiom", "rules"] (spHas K C U) := by
  refine D.has sc__has_rows (fun vs H Q E h => ?_) (fun kV doc pm an cdv ct us hl => match us, hl with | [_, _, _], _ => rfl) (fun f cdv A outer s H vs Q E gd hr h => ?_)
  · obtain ⟨g, t, ax, d, x, o, rfl, _⟩ := h
    rfl
  · obtain ⟨g, t, ax, d, x, o, rfl, hg, ha, mild, rv, q⟩ := h
    have hu := hr.units
    refine ⟨_, (pss_cons
 (ps_if (PW.pt (pw_or (pt_not (pt_val (pe_callKH his_row gd (hr.mono (by decide)) pass0 (pa_cons (pv 0) (pa_cons (pv 1) pa_nil)) (pk_cons pe_int pk_nil)))) (pw_or1 (pt_cmpR op_gt (pe_callB call_len_seq (by exact rfl) T.zlen PySem.boot_len (pa_cons (pv 1) pa_nil)) (pe_globV T.gMAX_AXIOM) (nomark _))))) (pss_one
 (ps_ret pe_bl)) pss_nil)
 (pss_cons
 (ps_if (PW.pt (pw_or (pt_not (pt_val (pe_callB call_isi (by exact rfl) T.zisinstance (by decide +kernel) (pa_cons (pv 2) (pa_cons (pe_bltn (v := .ty "dict") (by exact rfl) T.zdict (by decide +kernel) rfl) pa_nil))))) (pw_or1 (pt_not (pt_chain op_le op_le pe_int (pe_callB call_lenD (by exact rfl) T.zlen PySem.boot_len (pa_cons (pv 2) pa_nil)) (pe_globV T.gMAX_LETTERS)))))) (pss_one
 (ps_ret pe_bl)) pss_nil)
 (pss_one
 (ps_ret (pe_callB (cr_all rfl) (by exact rfl) T.zall (by decide +kernel) (pa_cons (pe_lock (pe_lc (own := [("letter", 3)]) (g := gName 3) (tt := tYes) (by rfl) sc__has_rows.nd (pi_keys (pv 2)) (blkOk_by (own := [("letter", 3)]) (N := N__has_rows) (sc := defScope s__has_rows) (by decide +kernel)) (fun _ _ _ _ _ => pg_name (i := 3) sc__has_rows.nd rfl (Or.inl rfl)) (fun _ _ _ _ _ => pts_nil) (fun _ _ _ _ _ => (pe_and (pe_callH his_letter gd (hr.mono (by decide)) pass0 (pa_cons (pv 3) pa_nil)) (pe_one (pe_callKH his_row gd (hr.mono (by decide)) pass0 (pa_cons (pv 0) (pa_cons (pe_dget (Nat.lt_of_le_of_lt (Nat.add_le_add_left (by decide) _) hu) (pv 2) (pv 3) (fun _ _ => rfl)) pa_nil)) (pk_cons (pe_globV T.gMIN_ITEMS) pk_nil))))))) pa_nil)))))), ?_⟩
    dsimp only [cxOf, Cx.nox]
    have no : isRowD t 1 d = false → hasB t d o = false := fun e => by
      cases o with
      | none => rfl
      | some ks =>
        show ((isRowD t 1 d && _) && _) = false
        rw [e, Bool.false_and, Bool.false_and]
    refine ⟨_, rfl, _, rfl, rfl, rfl, g, t, ax, d, 1, rfl, hg, ha, one_count, mild, fun H1 s1 => ⟨_, rfl, ?_⟩⟩
    cases b1 : isRowD t 1 d with
    | false =>
      refine iteT ?_
      have z := q H1 s1
      rw [no b1] at z
      exact z
    | true =>
    obtain ⟨r, rfl, h1, rs⟩ := rowD_of b1
    obtain ⟨a, xs, rfl, hs, l⟩ := dTup ha
    have ln := rowLen l
    have l12 := rs.most
    refine (iteF ?_ : if (!true) = true then _ else _)
    refine ⟨_, rfl, a, xs, rfl, .inr (sqT_same hs s1), _, _, rfl, rfl, _, rfl, ?_⟩
    rw [decide_eq_false (show ¬ (12 : Int) < (xs.length : Int) by omega)]
    refine iteF ?_
    cases o with
    | none =>
      obtain ⟨kd, on, nd⟩ := rv
      refine ⟨_, rfl, _, _, _, _, _, rfl, .ty _, tyX_same on s1, kit_ndct nd, _, rfl, if_nf (iteT (q _ s1))⟩
    | some ks =>
    obtain ⟨p, kvs, rfl, hp, en, few, nd⟩ := rv
    have lk : kvs.length = ks.length := Paired.length en
    have hp1 := s1 _ _ hp
    refine ⟨_, rfl, _, _, _, _, _, rfl, .ty _, (Of.dct hp1 : Of K H1 (.ref p) .dct), kit_dct, _, rfl, (iteF ?_ : if (!true) = true then _ else _)⟩
    have eH : hasB t (rowD r) (some ks) = ((decide (1 ≤ ks.length) && decide (ks.length ≤ 6)) && ks.all (entB t)) := by
      show ((isRowD t 1 (rowD r) && _) && _) = _
      rw [b1, Bool.true_and]
    rw [eH] at q
    refine ⟨_, rfl, p, kvs, rfl, hp1, _, _, rfl, rfl, _, rfl, ?_⟩
    by_cases c1 : 1 ≤ ks.length
    case neg =>
      rw [decide_eq_false c1, Bool.false_and, Bool.false_and] at q
      rw [decide_eq_false (show ¬ (1 : Int) ≤ (kvs.length : Int) by omega)]
      exact iteF ⟨_, rfl, iteT (q _ s1)⟩
    rw [decide_eq_true c1, Bool.true_and] at q
    rw [decide_eq_true (show (1 : Int) ≤ (kvs.length : Int) by omega)]
    refine iteT ⟨_, _, rfl, rfl, _, rfl, ?_⟩
    by_cases c2 : ks.length ≤ 6
    case neg =>
      rw [decide_eq_false c2, Bool.false_and] at q
      rw [decide_eq_false (show ¬ (kvs.length : Int) ≤ 6 by omega)]
      exact if_nf (q _ s1)
    rw [decide_eq_true c2, Bool.true_and] at q
    rw [decide_eq_true (show (kvs.length : Int) ≤ 6 by omega)]
    refine (iteF ?_ : if (!true) = true then _ else _)
    refine ⟨p, _, hp1, trivial, fun od => ?_⟩
    have fB : upd H1 p (.frz od (.dK kvs)) p = some (.frz od (.dK kvs)) := upd_same
    have sB : Same (wo p H) (upd H1 p (.frz od (.dK kvs))) := (wo_same1 s1).trans wo_under
    have gB : GridAt C U (wo p H) g t := let ⟨dx, e⟩ := hg; ⟨dx, wo_at e (fun z => by rw [z, hp] at e; cases e)⟩
    refine ⟨_, rfl, p, od, rfl, .inl ⟨kvs, fB, fun D nD => lcK_vals (ks.map fun kd => .bl (entB t kd)) (by rw [List.length_map, lk]) fB nD (by omega) (fun i k v y H' e ey s Q' q' => ?_) (fun H' s e => ?_)⟩⟩
    · obtain ⟨kd, hkd, ek, dv, mk, sk⟩ := ents_at en e
      have ey' : y = .bl (entB t kd) := by
        rw [List.getElem?_map, hkd] at ey
        exact (Option.some.inj ey).symm
      subst ey'
      refine ⟨rfl, ?_⟩
      refine ⟨_, rfl, _, keyD kd.1, rfl, by rw [← ek]; exact keyDp, (fun z ez => ?_), ?_⟩
      · cases h : kd.1 with
        | inl i => rw [h] at ez; cases ez
        | inr y => rw [h] at ez; cases ez; exact sk _ h
      have eE : entB t kd = (isLetD (keyD kd.1) && isRowD t 2 kd.2) := rfl
      rw [eE] at q'
      cases bL : isLetD (keyD kd.1) with
      | false =>
        rw [bL, Bool.false_and] at q'
        exact ⟨_, rfl, iteF (q' _ same_rfl)⟩
      | true =>
        rw [bL, Bool.true_and] at q'
        have get : DGet H' p (kV k) (valV kvs k) := .inl ⟨kvs, k, .inr ⟨od, s _ _ fB⟩, rfl, rfl⟩
        rw [valV_at (by rw [ents_keys en]; exact nd) e] at get
        exact ⟨_, rfl, iteT ⟨_, rfl, _, rfl, _, rfl, p, v, rfl, get, rfl, rfl, g, t, v, kd.2, 2, rfl, gB.same (sB.trans s), dp_same (sB.trans s) dv, two_count, mk, fun H2 s2 => q' H2 s2⟩⟩
    · have np : D ≠ p := fun z => by rw [z, fB] at nD; cases nD
      refine ⟨s _ _ fB, D, ks.map (entB t), rfl, SqL.of (by rw [upd_ne np, e, List.map_map]; rfl), ?_⟩
      rw [show (ks.map (entB t)).all id = ks.all (entB t) by rw [List.all_map]; rfl]
      exact q _ (s1.trans (lock_out hp1 s))
end
end K13
namespace K13
open PySem PySem.Spec PyProof.Rows L2 GL SkE
noncomputable abbrev s__is_complete : Stmt := topS 47
noncomputable abbrev N__is_complete : List Str := ["axiom", "rules", "rows", "letter", "row", "turn"]
theorem sc__is_complete : FnScope N__is_complete ["axiom", "rules"] (defScope s__is_complete) := ⟨rfl, rfl, rfl, by decide +kernel, rfl, by decide +kernel, by decide +kernel⟩
noncomputable abbrev Rls := List (Str × RowT)
/-- the entries of a dict whose rows are rows -/
noncomputable def RsAt (K : PySem.W.Frag) (M : Hp) (kvs : List (Key × V)) (rs : Rls) : Prop := Paired (fun kv yr => kv.1 = .inr yr.1 ∧ Dp K M kv.2 (rowD yr.2) ∧ yr.2.length ≤ 1000) kvs rs
theorem rs_at {K : PySem.W.Frag} {M : Hp} {kvs : List (Key × V)} {rs : Rls} (h : RsAt K M kvs rs) : ∀ {i : Nat} {k : Key} {v : V}, kvs[i]? = some (k, v) → ∃ yr, rs[i]? = some yr ∧ k = .inr yr.1 ∧ Dp K M v (rowD yr.2) ∧ yr.2.length ≤ 1000 := by
  unfold RsAt at h
  induction h with
  | nil => intro i k v e; cases e
  | @cons p q ps qs h t ih =>
    intro i k v e
    cases i with
    | zero => cases e; exact ⟨q, rfl, h⟩
    | succ i => exact ih (i := i) e
theorem rs_keys {K : PySem.W.Frag} {M : Hp} {kvs : List (Key × V)} {rs : Rls} (h : RsAt K M kvs rs) : kvs.map (·.1) = rs.map fun yr => .inr yr.1 := by
  unfold RsAt at h
  induction h with
  | nil => rfl
  | cons h t ih => rw [List.map_cons, List.map_cons, ih, h.1]
theorem rkeys_nd {rs : Rls} (nd : (rs.map (·.1)).Nodup) : (rs.map fun yr => (.inr yr.1 : Key)).Nodup :=
  List.pairwise_map.mpr ((List.pairwise_map.mp nd).imp fun n e => n (by injection e))
theorem RsAt.same {K : PySem.W.Frag} {M M' : Hp} {kvs : List (Key × V)} {rs : Rls} (h : RsAt K M kvs rs) (s : Same M M') : RsAt K M' kvs rs := _root_.L2.Paired.mapP h fun a b ⟨h1, h2, h3⟩ => ⟨h1, dp_same s h2, h3⟩
noncomputable def RowsAt (K : PySem.W.Frag) (M : Hp) (vs : List V) (rr : List RowT) : Prop := Paired (fun v row => Dp K M v (rowD row) ∧ row.length ≤ 1000) vs rr
theorem rows_of {K : PySem.W.Frag} {M : Hp} {kvs : List (Key × V)} {rs : Rls} (h : RsAt K M kvs rs) : RowsAt K M (kvs.map (·.2)) (rs.map (·.2)) := by
  unfold RsAt at h
  induction h with
  | nil => exact .nil
  | cons h t ih => exact .cons h.2 ih
theorem rows_at {K : PySem.W.Frag} {M : Hp} {vs : List V} {rr : List RowT} (h : RowsAt K M vs rr) : ∀ {i : Nat} {v : V}, vs[i]? = some v → ∃ row, rr[i]? = some row ∧ Dp K M v (rowD row) ∧ row.length ≤ 1000 := by
  unfold RowsAt at h
  induction h with
  | nil => intro i v e; cases e
  | @cons p q ps qs h t ih =>
    intro i v e
    cases i with
    | zero => cases e; exact ⟨q, rfl, h⟩
    | succ i => exact ih (i := i) e
theorem rows_small {K : PySem.W.Frag} {M : Hp} {vs : List V} {rr : List RowT} (h : RowsAt K M vs rr) : ∀ {i : Nat} {row : RowT}, rr[i]? = some row → row.length ≤ 1000 := by
  unfold RowsAt at h
  induction h with
  | nil => intro i v e; cases e
  | @cons p q ps qs h t ih =>
    intro i v e
    cases i with
    | zero => cases e; exact h.2
    | succ i => exact ih (i := i) e
theorem flat_len {α : Type} (f : Str × Int → α) : ∀ (rr : List RowT), (∀ row ∈ rr, row.length ≤ 1000) → (rr.flatMap fun row => row.map f).length ≤ rr.length * 1000
  | [], _ => by simp
  | r :: rr, h => by
    have a := flat_len f rr (fun x m => h x (List.mem_cons_of_mem _ m))
    have b := h r List.mem_cons_self
    rw [List.flatMap_cons, List.length_append, List.length_map, List.length_cons]
    omega
noncomputable def inB (rs : Rls) (it : Str × Int) : Bool := decide (it.1 ∈ rs.map (·.1))
theorem rs_in {K : PySem.W.Frag} {M : Hp} {kvs : List (Key × V)} {rs : Rls} (h : RsAt K M kvs rs) {it : Str × Int} : (valV kvs (.inr it.1)).isSome = inB rs it := by
  rw [← valV_any]
  unfold inB
  have e := rs_keys h
  have z : (kvs.any fun kv => decide (kv.1 = (.inr it.1 : Key))) = (kvs.map (·.1)).any fun k => decide (k = (.inr it.1 : Key)) := by rw [List.any_map]; rfl
  rw [z, e, List.any_map, Bool.eq_iff_iff, List.any_eq_true, decide_eq_true_eq, List.mem_map]
  constructor
  · rintro ⟨yr, m, q⟩
    have q := of_decide_eq_true q
    exact ⟨yr, m, by injection q⟩
  · rintro ⟨yr, m, q⟩
    exact ⟨yr, m, by rw [← q]; exact decide_eq_true rfl⟩
noncomputable def complB (r : RowT) (rs : Rls) : Bool := (r :: rs.map (·.2)).all fun row => row.all (inB rs)
noncomputable def spCompl (K : PySem.W.Frag) : Sp := fun vs H Q _ => ∃ ax p r kvs rs, vs = [ax, .ref p] ∧ Dp K H ax (rowD r) ∧ r.length ≤ 1000 ∧ H p = some (.dK kvs) ∧ RsAt K (wo p H) kvs rs ∧ rs.length ≤ 1000 ∧ (rs.map (·.1)).Nodup ∧ ∀ H', Same H H' → Q (.bl (complB r rs)) H'
section
variable {P : Program} {w : World} {K : PySem.W.Frag} {mg : Str → Option Value} {base : Heap}
variable {aG dU C CR : Addr} {U : Bool → Addr} {us : Bool → List Addr}
theorem h_is_complete (T : TxS K mg aG dU C CR) (D : Df K mg "_is_complete" s__is_complete) :
    Has P w K mg base CX0 "_is_complete" 2 ["axiom", "rules"] (spCompl K) := by
  refine D.has sc__is_complete (fun vs H Q E h => ?_) (fun kV doc pm an cdv ct us hl => match us, hl with | [_, _], _ => rfl) (fun f cdv A outer s H vs Q E gd hr h => ?_)
  · obtain ⟨ax, p, r, kvs, rs, rfl, _⟩ := h
    rfl
  · obtain ⟨ax, p, r, kvs, rs, rfl, ha, few, hp, en, many, nd, q⟩ := h
    have hu := hr.units
    refine ⟨_, (pss_cons
 (ps_set (i := 2) sc__is_complete.nd rfl (Or.inl rfl) (pe_op op_cat (pe_lst (pa_cons (pv 0) pa_nil)) (pe_lock (pe_lc (own := [("letter", 3)]) (g := gName 3) (tt := tYes) (by rfl) sc__is_complete.nd (pi_keys (pv 1)) (blkOk_by (own := [("letter", 3)]) (N := N__is_complete) (sc := defScope s__is_complete) (by decide +kernel)) (fun _ _ _ _ _ => pg_name (i := 3) sc__is_complete.nd rfl (Or.inl rfl)) (fun _ _ _ _ _ => pts_nil) (fun _ _ _ _ _ => (pe_dget (Nat.lt_of_le_of_lt (Nat.add_le_add_left (by decide) _) hu) (pv 1) (pv 3) (fun _ _ => rfl)))))))
 (pss_one
 (ps_ret (pe_callB (cr_all rfl) (by exact rfl) T.zall (by decide +kernel) (pa_cons (pe_lc2 (own := [("row", 4), ("letter", 3), ("turn", 5)]) (vs1 := [3, 5]) (g := gName 4) (tt := tYes) (g1 := (gTup K 2 (gCons (gName 3) (gCons (gName 5) gNil)))) (tt1 := tYes) (by rfl) sc__is_complete.nd (pi_list (pv 2)) (blkOk_by (own := [("row", 4), ("letter", 3), ("turn", 5)]) (N := N__is_complete) (sc := defScope s__is_complete) (by decide +kernel)) (by decide) (fun _ _ _ _ _ => pg_name (i := 4) sc__is_complete.nd rfl (Or.inl rfl)) (fun _ _ _ _ _ => pts_nil) (fun _ _ _ _ _ => (pi_tupK (K0 := K) (by exact rfl) (pv 4))) (fun _ _ _ _ _ => (pg_tupK (K0 := K) (n := 2) (by exact rfl) (by rfl) (pgs_cons (pg_name (i := 3) sc__is_complete.nd rfl (Or.inl rfl)) (pgs_cons (pg_name (i := 5) sc__is_complete.nd rfl (Or.inl rfl)) pgs_nil)))) (fun _ _ _ _ _ => pts_nil) (fun _ _ _ _ _ => (pe_cmp (pc_din (Nat.lt_of_le_of_lt (Nat.add_le_add_left (by decide) _) hu) (pv 3) (pv 1))))) pa_nil))))), ?_⟩
    dsimp only [cxOf, Cx.nox]
    obtain ⟨a, xs, rfl, hs, l⟩ := dTup ha
    have lk : kvs.length = rs.length := Paired.length en
    have ndk : (kvs.map (·.1)).Nodup := by
      rw [rs_keys en]
      exact rkeys_nd nd
    refine ⟨_, rfl, by show 1 ≤ sizeLine; decide, fun L nL => ?_⟩
    have eL : upd H L (.lst [.ref a]) L = some (.lst [.ref a]) := upd_same
    have s1 := Same.new (o := .lst [.ref a]) nL
    generalize upd H L (.lst [.ref a]) = H1 at *
    have hp1 := s1 _ _ hp
    refine ⟨p, _, hp1, trivial, fun od => ?_⟩
    have fB : upd H1 p (.frz od (.dK kvs)) p = some (.frz od (.dK kvs)) := upd_same
    refine ⟨_, rfl, p, od, rfl, .inl ⟨kvs, fB, fun D nD => lcK_vals (kvs.map (·.2)) (by rw [List.length_map]) fB nD (by omega) (fun i k v y H' e ey s Q' q' => ?_) (fun H' s e => ?_)⟩⟩
    · rw [List.getElem?_map, e] at ey
      cases ey
      have get : DGet H' p (kV k) (valV kvs k) := .inl ⟨kvs, k, .inr ⟨od, s _ _ fB⟩, rfl, rfl⟩
      rw [valV_at ndk e] at get
      exact ⟨rfl, _, rfl, _, rfl, p, _, rfl, get, q' _ same_rfl⟩
    have np : D ≠ p := fun z => by rw [z, fB] at nD; cases nD
    have s2 := s1.trans (lock_out hp1 s)
    have eL2 := lock_out hp1 s _ _ eL
    have eD : upd H' p (.dK kvs) D = some (.lst (kvs.map (·.2))) := (upd_ne np).trans e
    have hp2 : upd H' p (.dK kvs) p = some (.dK kvs) := upd_same
    refine ⟨s _ _ fB, L, D, _, _, rfl, rfl, eL2, eD, by rw [List.length_map, lk, sizeLine_eq]; show 1 + rs.length ≤ _; omega, fun R nR => ?_⟩
    generalize upd H' p (.dK kvs) = H2 at *
    have s3 := s2.trans (Same.new (o := .lst ([.ref a] ++ kvs.map (·.2))) nR)
    have e3 : upd H2 R (.lst ([.ref a] ++ kvs.map (·.2))) R = some (.lst ([.ref a] ++ kvs.map (·.2))) := upd_same
    have p3 : upd H2 R (.lst ([.ref a] ++ kvs.map (·.2))) p = some (.dK kvs) := Same.new nR _ _ hp2
    have rows : RowsAt K (upd H2 R (.lst ([.ref a] ++ kvs.map (·.2)))) ([.ref a] ++ kvs.map (·.2)) (r :: rs.map (·.2)) := .cons ⟨dp_same s3 (.tup hs l), few⟩ (rows_of (en.same (wo_same.trans s3)))
    have small : ∀ row ∈ (r :: rs.map (·.2)), row.length ≤ 1000 := fun row hm => by
      obtain ⟨i, e⟩ := List.mem_iff_getElem?.mp hm
      exact rows_small rows e
    have en0 := en
    have many2 : (r :: rs.map (·.2)).length ≤ 1001 := by rw [List.length_cons, List.length_map]; omega
    generalize upd H2 R (.lst ([.ref a] ++ kvs.map (·.2))) = H3 at *
    have lr := Paired.length rows
    generalize [V.ref a] ++ kvs.map (·.2) = vs at *
    generalize eR : r :: rs.map (·.2) = rr at *
    refine ⟨_, rfl, R, rfl, ⟨_, SqL.of e3⟩, fun D2 nD2 => loop_list (a := R) (xs := vs) (fun i H' => Same H3 H' ∧ H' D2 = some (.lst (((rr.take i).flatMap fun row => row.map (inB rs)).map V.bl))) ⟨Same.new nD2, upd_same⟩ (fun i H' _ h => SqL.of (h.1 _ _ e3)) ?_ ?_⟩
    · rintro i x H' hx ⟨s', hacc⟩
      refine ⟨rfl, ?_⟩
      simp only [tYes, if_true]
      obtain ⟨row, hrow, dx, fewr⟩ := rows_at rows hx
      obtain ⟨ar, ys, rfl, hys, lys⟩ := dTup dx
      refine ⟨_, rfl, ar, rfl, ⟨_, sqT_same hys s'⟩, loop_tup (a := ar) (xs := ys) (fun j H'' => Same H3 H'' ∧ H'' D2 = some (.lst ((((rr.take i).flatMap fun row => row.map (inB rs)) ++ (row.take j).map (inB rs)).map V.bl))) ⟨s', by rw [hacc, List.take_zero, List.map_nil, List.append_nil]⟩ (fun j H'' _ h => sqT_same hys h.1) ?_ ?_⟩
      · rintro j x H'' hx ⟨s'', hacc''⟩
        obtain ⟨it, q2, hit, rfl, hq⟩ := rowAt lys hx
        have lt := (List.getElem?_eq_some_iff.mp hit).1
        have lti := (List.getElem?_eq_some_iff.mp hrow).1
        refine ⟨q2, _, rfl, sqT_same hq s'', rfl, _, _, rfl, _, _, rfl, rfl, rfl, ?_⟩
        have get : DGet H'' p (.str it.1) (valV kvs (.inr it.1)) := DGet.k (k := (.inr it.1 : Key)) (s'' _ _ p3)
        refine ⟨_, rfl, _, rfl, p, _, rfl, get, _, hacc'', ?_, Same.over s'' nD2 _, ?_⟩
        · have z := flat_len (inB rs) (rr.take i) (fun row hm => small row (List.mem_of_mem_take hm))
          have z2 : (rr.take i).length ≤ 1001 := by rw [List.length_take]; omega
          rw [List.length_map, List.length_append, List.length_map, List.length_take, sizeLine_eq]
          have z3 := Nat.mul_le_mul_right 1000 z2
          omega
        · rw [upd_same, List.take_add_one, hit, rs_in en0]
          show _ = some (HO.lst (List.map V.bl (_ ++ List.map (inB rs) (List.take j row ++ [it]))))
          rw [List.map_append (l₂ := [it]), ← List.append_assoc, List.map_append (l₂ := List.map (inB rs) [it])]
          rfl
      · rintro H'' ⟨s'', e''⟩
        refine ⟨s'', ?_⟩
        rw [rowLen lys, List.take_length] at e''
        rw [e'', List.take_add_one, hrow, List.flatMap_append]
        simp
    · rintro H' ⟨s', e'⟩
      rw [lr, List.take_length] at e'
      refine ⟨D2, _, rfl, SqL.of e', ?_⟩
      rw [show (rr.flatMap fun row => row.map (inB rs)).all id = complB r rs by rw [← eR]; unfold complB; rw [List.all_flatMap]; congr 1; funext x; rw [List.all_map]; rfl]
      exact q _ (s3.trans s')
end
end K13
namespace K13
open PySem PySem.Spec PyProof.Rows L2 GL SkE
noncomputable abbrev s__rules_of : Stmt := topS 48
noncomputable abbrev N__rules_of : List Str := ["grid", "axiom", "rules", "own", "growths", "letter"]
theorem sc__rules_of : FnScope N__rules_of ["grid", "axiom", "rules"] (defScope s__rules_of) := ⟨rfl, rfl, rfl, by decide +kernel, rfl, by decide +kernel, by decide +kernel⟩
theorem rowD_inj {r r' : RowT} (e : rowD r = rowD r') : r = r' := by
  have z := row_eqv r r'
  rw [← e, row_eqv] at z
  simpa using z
theorem RuleAt.dk {K : PySem.W.Frag} {C CR : Addr} {U : Bool → Addr} {H H' : Hp} {p : Addr} {t : Bool} {r : RowT} (h : RuleAt K C U CR H p t r) (s : DK H H') : RuleAt K C U CR H' p t r := by
  obtain ⟨dx, g, x, l, st, e, ys, a1, a2, a3, a4, a5, a6, a7, a8⟩ := h
  exact ⟨dx, g, x, l, st, e, ys, s _ _ a1 rfl, a2.dk s, a3, dp_dk s a4, a5, dp_dk s a6, dp_dk s a7, dp_dk s a8⟩
/-- the rules of a scheme, by their letters -/
noncomputable def OwnAt (K : PySem.W.Frag) (C : Addr) (U : Bool → Addr) (CR : Addr) (M : Hp) (t : Bool) (kvs : List (Key × V)) (ss : Rls) : Prop := Paired (fun kv yr => kv.1 = .inr yr.1 ∧ ∃ a, kv.2 = .ref a ∧ RuleAt K C U CR M a t yr.2) kvs ss
section
variable {K : PySem.W.Frag} {C CR : Addr} {U : Bool → Addr} {M M' : Hp} {t : Bool} {kvs : List (Key × V)} {ss rs : Rls}
theorem OwnAt.dk (h : OwnAt K C U CR M t kvs ss) (s : DK M M') : OwnAt K C U CR M' t kvs ss := _root_.L2.Paired.mapP h fun a b ⟨h1, q, h2, h3⟩ => ⟨h1, q, h2, h3.dk s⟩
theorem own_at (h : OwnAt K C U CR M t kvs ss) : ∀ {i : Nat} {k : Key} {v : V}, kvs[i]? = some (k, v) → ∃ yr a, ss[i]? = some yr ∧ k = .inr yr.1 ∧ v = .ref a ∧ RuleAt K C U CR M a t yr.2 := by
  unfold OwnAt at h
  induction h with
  | nil => intro i k v e; cases e
  | @cons p q ps qs h t ih =>
    intro i k v e
    cases i with
    | zero =>
      cases e
      obtain ⟨h1, a, h2, h3⟩ := h
      exact ⟨q, a, rfl, h1, h2, h3⟩
    | succ i => exact ih (i := i) e
theorem own_keys (h : OwnAt K C U CR M t kvs ss) : kvs.map (·.1) = ss.map fun yr => .inr yr.1 := by
  unfold OwnAt at h
  induction h with
  | nil => rfl
  | cons h t ih => rw [List.map_cons, List.map_cons, ih, h.1]
theorem own_snoc {a : Addr} {yr : Str × RowT} : ∀ {kvs : List (Key × V)} {ss : Rls}, OwnAt K C U CR M t kvs ss → RuleAt K C U CR M a t yr.2 → OwnAt K C U CR M t (kvs ++ [(.inr yr.1, .ref a)]) (ss ++ [yr])
  | _, _, .nil, h => .cons ⟨rfl, a, rfl, h⟩ .nil
  | _, _, .cons x r, h => .cons x (own_snoc r h)
theorem own_len (h : OwnAt K C U CR M t kvs ss) : kvs.length = ss.length := Paired.length h
end
noncomputable def entsOf (rs : Rls) : List (Key × PyData) := rs.map fun yr => (.inr yr.1, rowD yr.2)
structure SchOk (t : Bool) (r : RowT) (rs : Rls) : Prop where
  ax : RowS t r
  one : 1 ≤ r.length
  lo : 1 ≤ rs.length
  hi : rs.length ≤ 6
  nd : (rs.map (·.1)).Nodup
  lets : ∀ yr ∈ rs, LetS yr.1 = true
  rows : ∀ yr ∈ rs, RowOk t yr.2
  compl : complB r rs = true
  same : ∀ yr ∈ rs, ∀ zr ∈ rs, sumOf t yr.2 = sumOf t zr.2
  wide : ∀ yr ∈ rs, 2 ≤ nrm t (sumOf t yr.2)
theorem ents_rows {t : Bool} : ∀ {ks : List (Key × PyData)}, ks.all (entB t) = true → ∃ rs : Rls, ks = entsOf rs ∧ ∀ yr ∈ rs, LetS yr.1 = true ∧ RowOk t yr.2
  | [], _ => ⟨[], rfl, fun _ h => absurd h List.not_mem_nil⟩
  | (k, d) :: ks, h => by
    rw [List.all_cons, Bool.and_eq_true] at h
    obtain ⟨rs, rfl, all⟩ := ents_rows h.2
    have z : (isLetD (keyD k) && isRowD t 2 d) = true := h.1
    rw [Bool.and_eq_true] at z
    obtain ⟨row, rfl, h2, hs⟩ := rowD_of z.2
    cases k with
    | inl i => cases z.1
    | inr y =>
      refine ⟨(y, row) :: rs, rfl, fun yr m => ?_⟩
      rcases List.mem_cons.mp m with rfl | m
      · exact ⟨z.1, by show 2 ≤ row.length; omega, hs.most, hs.all⟩
      · exact all yr m
theorem has_out {K : PySem.W.Frag} {H : Hp} {x : V} {t : Bool} {d : PyData} {o : Option (List (Key × PyData))} (rv : RuV K H x o) (h : hasB t d o = true) : ∃ r rs, d = rowD r ∧ o = some (entsOf rs) ∧ RowS t r ∧ 1 ≤ r.length ∧ 1 ≤ rs.length ∧ rs.length ≤ 6 ∧ (rs.map (·.1)).Nodup ∧ (∀ yr ∈ rs, LetS yr.1 = true ∧ RowOk t yr.2) := by
  cases o with
  | none => cases h
  | some ks =>
    have z : ((isRowD t 1 d && (decide (1 ≤ ks.length) && decide (ks.length ≤ 6))) && ks.all (entB t)) = true := h
    rw [Bool.and_eq_true, Bool.and_eq_true, Bool.and_eq_true, decide_eq_true_eq, decide_eq_true_eq] at z
    obtain ⟨r, rfl, h1, hs⟩ := rowD_of z.1.1
    obtain ⟨rs, rfl, all⟩ := ents_rows z.2
    obtain ⟨p, kvs, _, _, _, _, nd⟩ := rv
    have l : (entsOf rs).length = rs.length := List.length_map _
    refine ⟨r, rs, rfl, rfl, hs, by omega, by omega, by omega, ?_, all⟩
    unfold entsOf at nd
    rw [List.map_map] at nd
    exact List.pairwise_map.mpr ((List.pairwise_map.mp nd).imp fun n e => n (by show (Sum.inr _ : Key) = Sum.inr _; rw [e]))
theorem sch_has {t : Bool} {r : RowT} {rs : Rls} (h : SchOk t r rs) : hasB t (rowD r) (some (entsOf rs)) = true := by
  show ((isRowD t 1 (rowD r) && (decide (1 ≤ (entsOf rs).length) && decide ((entsOf rs).length ≤ 6))) && (entsOf rs).all (entB t)) = true
  have l : (entsOf rs).length = rs.length := List.length_map _
  have h1 := h.one
  have h2 := h.lo
  have h3 := h.hi
  rw [isRow_row.mpr ⟨by omega, h.ax⟩, l, decide_eq_true h2, decide_eq_true h3]
  rw [Bool.and_self, Bool.true_and]
  refine List.all_eq_true.mpr ?_
  intro kd m
  obtain ⟨yr, my, rfl⟩ := List.mem_map.mp m
  have ok := h.rows yr my
  show (LetS yr.1 && isRowD t 2 (rowD yr.2)) = true
  rw [h.lets yr my, isRow_row.mpr ⟨by have := ok.two; omega, ok.most, ok.all⟩]
  rfl
theorem ents_inj : ∀ {a b : Rls}, entsOf a = entsOf b → a = b
  | [], [], _ => rfl
  | [], _ :: _, e => by cases e
  | _ :: _, [], e => by cases e
  | x :: a, y :: b, e => by
    have e' : (((.inr x.1 : Key), rowD x.2) :: entsOf a) = ((.inr y.1, rowD y.2) :: entsOf b) := e
    injection e' with e1 e2
    injection e1 with e3 e4
    injection e3 with e3
    rw [ents_inj e2, Prod.ext e3 (rowD_inj e4)]
theorem rs_of {K : PySem.W.Frag} {M : Hp} {t : Bool} : ∀ {kvs : List (Key × V)} {rs : Rls}, Ents K M kvs (entsOf rs) → (∀ yr ∈ rs, LetS yr.1 = true ∧ RowOk t yr.2) → RsAt K M kvs rs
  | _, [], .nil, _ => .nil
  | _, yr :: rs, .cons h r, all => .cons ⟨h.1, h.2.1, by have := (all yr List.mem_cons_self).2.most; omega⟩ (rs_of r fun x m => all x (List.mem_cons_of_mem _ m))
/-- the row of a letter -/
noncomputable def rowOf (rs : Rls) (y : Str) : RowT := match rs.find? (fun yr => decide (yr.1 = y)) with
  | some yr => yr.2
  | none => []
theorem rowOf_mem : ∀ {rs : Rls} {yr : Str × RowT}, (rs.map (·.1)).Nodup → yr ∈ rs → rowOf rs yr.1 = yr.2
  | x :: rs, yr, nd, m => by
    rw [List.map_cons, List.nodup_cons] at nd
    unfold rowOf
    rw [List.find?_cons]
    rcases List.mem_cons.mp m with rfl | m
    · rw [decide_eq_true rfl]
    · rw [decide_eq_false (fun e => nd.1 (by rw [e]; exact List.mem_map_of_mem m))]
      exact rowOf_mem nd.2 m
noncomputable def ssOf (rs : Rls) (ys : List Str) : Rls := ys.map fun y => (y, rowOf rs y)
theorem ss_perm {rs : Rls} {ys : List Str} (nd : (rs.map (·.1)).Nodup) (pm : ys.Perm (rs.map (·.1))) : (ssOf rs ys).Perm rs := by
  have z := pm.map fun y => (y, rowOf rs y)
  rw [List.map_map] at z
  have e : rs.map ((fun y => (y, rowOf rs y)) ∘ fun yr : Str × RowT => yr.1) = rs := by
    conv => rhs; rw [← List.map_id rs]
    exact List.map_congr_left fun yr m => by show (yr.1, rowOf rs yr.1) = yr; rw [rowOf_mem nd m]
  rw [e] at z
  exact z
theorem ss_keys {rs : Rls} {ys : List Str} : (ssOf rs ys).map (·.1) = ys := by
  unfold ssOf
  rw [List.map_map]
  conv => rhs; rw [← List.map_id ys]
  rfl
theorem str_at' {x : V} {i : Nat} {ys : List Str} (h : (ys.map V.str)[i]? = some x) : ∃ y, ys[i]? = some y ∧ x = .str y := by
  rw [List.getElem?_map] at h
  cases e : ys[i]? with
  | none => rw [e] at h; cases h
  | some y => rw [e] at h; cases h; exact ⟨y, rfl, rfl⟩
theorem rs_get {K : PySem.W.Frag} {M : Hp} {y : Str} : ∀ {kvs : List (Key × V)} {rs : Rls}, RsAt K M kvs rs → (rs.map (·.1)).Nodup → y ∈ rs.map (·.1) → ∃ v, valV kvs (.inr y) = some v ∧ Dp K M v (rowD (rowOf rs y)) ∧ (y, rowOf rs y) ∈ rs
  | _, _, .nil, _, m => by cases m
  | kv :: kvs, yr :: rs, .cons h r, nd, m => by
    rw [List.map_cons, List.nodup_cons] at nd
    by_cases e : yr.1 = y
    · subst e
      have er : rowOf (yr :: rs) yr.1 = yr.2 := rowOf_mem (by rw [List.map_cons, List.nodup_cons]; exact nd) List.mem_cons_self
      rw [er]
      exact ⟨kv.2, valV_pos h.1, h.2.1, List.mem_cons_self⟩
    · have m' : y ∈ rs.map (·.1) := by
        rcases List.mem_cons.mp m with q | q
        · exact absurd q.symm e
        · exact q
      obtain ⟨v, ev, dv, mm⟩ := rs_get r nd.2 m'
      have er : rowOf (yr :: rs) y = rowOf rs y := by unfold rowOf; rw [List.find?_cons, decide_eq_false e]
      rw [er]
      exact ⟨v, by rw [valV_neg (by rw [h.1]; exact fun q => e (by injection q))]; exact ev, dv, List.mem_cons_of_mem _ mm⟩
theorem own_none {K : PySem.W.Frag} {C CR : Addr} {U : Bool → Addr} {M : Hp} {t : Bool} {y : Str} : ∀ {kvs : List (Key × V)} {ss : Rls}, OwnAt K C U CR M t kvs ss → y ∉ ss.map (·.1) → valV kvs (.inr y) = none
  | _, _, .nil, _ => rfl
  | kv :: kvs, yr :: ss, .cons h r, n => by
    rw [List.map_cons, List.mem_cons, not_or] at n
    rw [valV_neg (by rw [h.1]; exact fun q => n.1 (by injection q with q; exact q.symm))]
    exact own_none r n.2
theorem not_taken {y : Str} : ∀ {ys : List Str} {i : Nat}, ys.Nodup → ys[i]? = some y → y ∉ ys.take i
  | [], _, _, h => by cases h
  | z :: ys, 0, _, _ => by simp
  | z :: ys, i + 1, nd, h => by
    rw [List.nodup_cons] at nd
    have h' : ys[i]? = some y := h
    rw [List.take_succ_cons, List.mem_cons, not_or]
    exact ⟨fun e => nd.1 (by rw [← e]; exact List.mem_of_getElem? h'), not_taken nd.2 h'⟩
theorem dPt {K : PySem.W.Frag} {H : Hp} {x : V} {u : Int × Int} (h : Dp K H x (ptD u)) : ∃ a, x = .ref a ∧ PAt K H a u := by
  obtain ⟨a, xs, rfl, hs, l⟩ := dTup h
  cases l with
  | cons h1 l2 => cases l2 with
    | cons h2 l3 =>
      cases l3
      cases h1
      cases h2
      exact ⟨a, rfl, hs⟩
noncomputable def sumL (u : Int × Int) : List Int := [u.1, u.2]
/-- the sums of some rules, each once -/
structure SumsL (K : PySem.W.Frag) (M : Hp) (t : Bool) (L : List (Addr × List Int)) (ss : Rls) : Prop where
  at_ : ∀ p ∈ L, SqT K M p.1 (p.2.map V.int)
  mem : ∀ k, k ∈ L.map (·.2) ↔ ∃ yr ∈ ss, k = sumL (sumOf t yr.2)
  nd : (L.map (·.2)).Nodup
  len : L.length ≤ ss.length
theorem SumsL.nil {K : PySem.W.Frag} {M : Hp} {t : Bool} : SumsL K M t [] [] := ⟨(fun _ h => absurd h List.not_mem_nil), (fun k => ⟨fun h => absurd h List.not_mem_nil, fun ⟨_, h, _⟩ => absurd h List.not_mem_nil⟩), List.nodup_nil, Nat.le_refl _⟩
theorem SumsL.more {K : PySem.W.Frag} {M : Hp} {t : Bool} {L L' : List (Addr × List Int)} {ss : Rls} {yr : Str × RowT} {b : Addr} (h : SumsL K M t L ss) (hb : SqT K M b ((sumL (sumOf t yr.2)).map V.int)) (h1 : sumL (sumOf t yr.2) ∈ L.map (·.2) → L' = L) (h2 : sumL (sumOf t yr.2) ∉ L.map (·.2) → L'.Perm ((b, sumL (sumOf t yr.2)) :: L)) : SumsL K M t L' (ss ++ [yr]) := by
  by_cases c : sumL (sumOf t yr.2) ∈ L.map (·.2)
  · obtain rfl := h1 c
    refine ⟨h.at_, fun k => ?_, h.nd, by rw [List.length_append]; have := h.len; show _ ≤ _ + 1; omega⟩
    rw [h.mem]
    constructor
    · rintro ⟨z, m, e⟩
      exact ⟨z, List.mem_append_left _ m, e⟩
    · rintro ⟨z, m, e⟩
      rcases List.mem_append.mp m with m | m
      · exact ⟨z, m, e⟩
      · rw [List.mem_singleton.mp m] at e
        rw [e]
        exact (h.mem _).mp c
  · have pm := h2 c
    refine ⟨fun p m => ?_, fun k => ?_, ?_, ?_⟩
    · rcases List.mem_cons.mp (pm.mem_iff.mp m) with rfl | m
      · exact hb
      · exact h.at_ p m
    · rw [(pm.map (·.2)).mem_iff, List.map_cons, List.mem_cons, h.mem]
      constructor
      · rintro (e | ⟨z, m, e⟩)
        · exact ⟨yr, List.mem_append_right _ List.mem_cons_self, e⟩
        · exact ⟨z, List.mem_append_left _ m, e⟩
      · rintro ⟨z, m, e⟩
        rcases List.mem_append.mp m with m | m
        · exact .inr ⟨z, m, e⟩
        · rw [List.mem_singleton.mp m] at e
          exact .inl e
    · rw [(pm.map (·.2)).nodup_iff, List.map_cons, List.nodup_cons]
      exact ⟨c, h.nd⟩
    · rw [pm.length_eq, List.length_cons, List.length_append]
      have := h.len
      show _ ≤ _ + 1
      omega
theorem sums_two {K : PySem.W.Frag} {M : Hp} {t : Bool} {L : List (Addr × List Int)} {ss : Rls} (h : SumsL K M t L ss) : ∀ q ∈ L, q.2.length = 2 := fun q m => by
  obtain ⟨yr, _, e⟩ := (h.mem q.2).mp (List.mem_map_of_mem m)
  rw [e]
  rfl
theorem uni_small (t : Bool) (n : Int) : (uni t n).1.natAbs ≤ 1 ∧ (uni t n).2.natAbs ≤ 1 := by
  have m : ∀ u ∈ ux t, u.1.natAbs ≤ 1 ∧ u.2.natAbs ≤ 1 := by cases t <;> decide
  unfold uni
  rw [List.getD_eq_getElem?_getD]
  cases h : (ux t)[(n % (num t : Int)).toNat]? with
  | none => exact ⟨by decide, by decide⟩
  | some u => exact m u (List.mem_of_getElem? h)
theorem path_small (t : Bool) : ∀ (ns : List Int) (u : Int × Int) (v : Int × Int), v ∈ path t u ns → v.1.natAbs ≤ u.1.natAbs + ns.length ∧ v.2.natAbs ≤ u.2.natAbs + ns.length
  | [], u, v, h => by rw [List.mem_singleton.mp h]; exact ⟨Nat.le_add_right _ _, Nat.le_add_right _ _⟩
  | n :: ns, u, v, h => by
    rcases List.mem_cons.mp h with z | z
    · rw [z]; exact ⟨Nat.le_add_right _ _, Nat.le_add_right _ _⟩
    · have a := path_small t ns _ v z
      have b := uni_small t n
      simp only [padd, List.length_cons] at *
      omega
theorem sum_small {t : Bool} {r : RowT} (ok : RowOk t r) : (sumOf t r).1.natAbs ≤ 12 ∧ (sumOf t r).2.natAbs ≤ 12 := by
  obtain ⟨v, e1, e2⟩ := path_last t (r.map (·.2)) (0, 0)
  have z := path_small t _ _ v (List.mem_of_getElem? e2)
  have e : sumOf t r = v := by unfold sumOf; rw [e1]; rfl
  rw [e]
  have m := ok.most
  rw [List.length_map] at z
  simp only [Int.natAbs_zero] at z
  omega
noncomputable def spRulesOf (K : PySem.W.Frag) (C : Addr) (U : Bool → Addr) (CR : Addr) : Sp := fun vs H Q _ => ∃ g t ax d x o, vs = [.ref g, ax, x] ∧ GridAt C U H g t ∧ Dp K H ax d ∧ MildD d ∧ RuV K H x o ∧
  ((¬ ∃ r rs, d = rowD r ∧ o = some (entsOf rs) ∧ SchOk t r rs) → ∀ H', Same H H' → Q .non H') ∧
  (∀ r rs, d = rowD r → o = some (entsOf rs) → SchOk t r rs → ∀ q kvs ss H', Same H H' → H q = none → H' q = some (.dK kvs) → ss.Perm rs → sortedS (ss.map (·.1)) = true → OwnAt K C U CR H' t kvs ss → Q (.ref q) H')
section
variable {P : Program} {w : World} {K : PySem.W.Frag} {mg : Str → Option Value} {base : Heap}
variable {aG dU C CR : Addr} {U : Bool → Addr} {us : Bool → List Addr}
theorem h_rules_of (T : TxS K mg aG dU C CR) (c : GCls K C) (rc : RCls K CR) (D : Df K mg "_rules_of" s__rules_of) (h_has_rows : Has P w K mg base CX0 "_has_rows" 6 ["grid", "axiom", "rules"] (spHas K C U)) (h_is_complete : Has P w K mg base CX0 "_is_complete" 2 ["axiom", "rules"] (spCompl K)) (hnorm_in : Has P w K mg base CX0 "norm_in" 1 ["grid", "point"] (spNorm K C U)) (hRule : HasG P w K mg base "Rule" CR 6 ["self", "grid", "items"] (spRInit K C U CR)) :
    Has P w K mg base CX0 "_rules_of" 8 ["grid", "axiom", "rules"] (spRulesOf K C U CR) := by
  refine D.has sc__rules_of (fun vs H Q E h => ?_) (fun kV doc pm an cdv ct us hl => match us, hl with | [_, _, _], _ => rfl) (fun f cdv A outer s H vs Q E gd hr h => ?_)
  · obtain ⟨g, t, ax, d, x, o, rfl, _⟩ := h
    rfl
  · obtain ⟨g, t, ax, d, x, o, rfl, hg, ha, mild, rv, k0, k1⟩ := h
    have hu := hr.units
    refine ⟨_, (pss_cons
 (ps_if (PW.pt (pw_or (pt_not (pt_val (pe_callH h_has_rows gd (hr.mono (by decide)) pass0 (pa_cons (pv 0) (pa_cons (pv 1) (pa_cons (pv 2) pa_nil)))))) (pw_or1 (pt_not (pt_val (pe_callH h_is_complete gd (hr.mono (by decide)) pass0 (pa_cons (pv 1) (pa_cons (pv 2) pa_nil)))))))) (pss_one
 (ps_ret pe_non)) pss_nil)
 (pss_cons
 (ps_set (i := 3) sc__rules_of.nd rfl (Or.inr rfl) (pe_dc (own := [("letter", 5)]) (g := gName 5) (tt := tYes) (by rfl) sc__rules_of.nd (pi_list (pe_callB (call_sortedD (by rfl)) (by exact rfl) T.zsorted (by decide +kernel) (pa_cons (pv 2) pa_nil))) (blkOk_by (own := [("letter", 5)]) (N := N__rules_of) (sc := defScope s__rules_of) (by decide +kernel)) (fun _ _ _ _ _ => pg_name (i := 5) sc__rules_of.nd rfl (Or.inl rfl)) (fun _ _ _ _ _ => pts_nil) (fun _ _ _ _ _ => (pv 5)) (fun _ _ _ _ _ => (pe_makeG hRule gd (hr.mono (by decide)) pass0 (pa_cons (pv 0) (pa_cons (pe_dget (Nat.lt_of_le_of_lt (Nat.add_le_add_left (by decide) _) hu) (pv 2) (pv 5) (fun _ _ => rfl)) pa_nil))))))
 (pss_cons
 (ps_set (i := 4) sc__rules_of.nd rfl (Or.inl rfl) (pe_callB call_sortedQ (by exact rfl) T.zsorted (by decide +kernel) (pa_cons (pe_lock (pe_scG newP (adPB hu) (own := [("letter", 5)]) (g := gName 5) (tt := tYes) sc__rules_of.nd (pi_keys (pv 3)) (blkOk_by (own := [("letter", 5)]) (N := N__rules_of) (sc := defScope s__rules_of) (by decide +kernel)) (fun _ _ _ _ _ => pg_name (i := 5) sc__rules_of.nd rfl (Or.inl rfl)) (fun _ _ _ _ _ => pts_nil) (fun _ _ _ _ _ => (pe_fldK (K0 := K) (by exact rfl) (pe_dget (Nat.lt_of_le_of_lt (Nat.add_le_add_left (by decide) _) hu) (pv 3) (pv 5) (fun _ _ => rfl)) (by rfl))))) pa_nil)))
 (pss_cons
 (ps_if (PW.pt (pw_or (pt_cmpR op_gt (pe_callB call_len_seq (by exact rfl) T.zlen PySem.boot_len (pa_cons (pv 4) pa_nil)) pe_int (nomark _)) (pw_or1 (pt_cmpR op_lt (pe_callH hnorm_in gd (hr.mono (by decide)) pass0 (pa_cons (pv 0) (pa_cons (pe_ix ix_list (pv 4) pe_int (fun _ _ => rfl)) pa_nil))) (pe_globV T.gLEAST_NORM) (nomark _))))) (pss_one
 (ps_ret pe_non)) pss_nil)
 (pss_one
 (ps_ret (pv 3))))))), ?_⟩
    dsimp only [cxOf, Cx.nox]
    refine ⟨_, rfl, _, rfl, _, rfl, g, t, ax, d, x, o, rfl, hg, ha, mild, rv, fun H1 s1 => ⟨_, rfl, ?_⟩⟩
    cases hB : hasB t d o with
    | false =>
      refine iteT (k0 (fun ⟨r, rs, e1, e2, ok⟩ => ?_) H1 s1)
      rw [e1, e2, sch_has ok] at hB
      cases hB
    | true =>
    obtain ⟨r, rs, rfl, rfl, axs, ax1, lo, hi, nd, all⟩ := has_out rv hB
    obtain ⟨p, kvs, rfl, hp, en, _, _⟩ := rv
    have hp1 := s1 _ _ hp
    have rsa := rs_of en all
    have uniq : ∀ {r' rs'}, rowD r = rowD r' → some (entsOf rs) = some (entsOf rs') → r' = r ∧ rs' = rs := fun e1 e2 => ⟨(rowD_inj e1).symm, (ents_inj (Option.some.inj e2)).symm⟩
    refine (iteF ?_ : if (!true) = true then _ else _)
    refine ⟨_, rfl, _, rfl, ax, p, r, kvs, rs, rfl, dp_same s1 ha, by have := axs.most; omega, hp1, rsa.same (wo_same1 s1), by omega, nd, fun H2 s2 => ⟨_, rfl, ?_⟩⟩
    cases cB : complB r rs with
    | false =>
      refine iteT (k0 (fun ⟨r', rs', e1, e2, ok⟩ => ?_) H2 (s1.trans s2))
      obtain ⟨rfl, rfl⟩ := uniq e1 e2
      rw [ok.compl] at cB
      cases cB
    | true =>
    refine (iteF ?_ : if (!true) = true then _ else _)
    have s12 := s1.trans s2
    have hp2 := s12 _ _ hp
    refine ⟨_, rfl, p, kvs, rs.map (·.1), rfl, .inl hp2, by rw [rs_keys rsa, List.map_map]; rfl, by rw [List.length_map]; omega, fun ys L perm srt nL => ?_⟩
    have eL : upd H2 L (.lst (ys.map V.str)) L = some (.lst (ys.map V.str)) := upd_same
    have s3 := s12.trans (Same.new (o := .lst (ys.map V.str)) nL)
    generalize upd H2 L (.lst (ys.map V.str)) = H3 at *
    have pss := ss_perm nd perm
    have lss : (ssOf rs ys).length = rs.length := pss.length_eq
    have lys : ys.length = rs.length := by rw [perm.length_eq, List.length_map]
    have ndy : ys.Nodup := perm.nodup_iff.mpr nd
    refine ⟨L, rfl, ⟨_, SqL.of eL⟩, fun D nD => loop_list (a := L) (xs := ys.map V.str) (fun i H' => ∃ kv', Same H3 H' ∧ H' D = some (.dK kv') ∧ OwnAt K C U CR H' t kv' ((ssOf rs ys).take i)) ⟨[], Same.new nD, upd_same, .nil⟩ (fun i H' _ h => let ⟨_, h, _⟩ := h; SqL.of (h _ _ eL)) ?_ ?_⟩
    · rintro i x H' hx ⟨kv', s', eD, own⟩
      obtain ⟨y, hy, rfl⟩ := str_at' hx
      have ey : (ssOf rs ys)[i]? = some (y, rowOf rs y) := by unfold ssOf; rw [List.getElem?_map, hy]; rfl
      obtain ⟨v, ev, dv, mem⟩ := rs_get rsa nd (perm.mem_iff.mp (List.mem_of_getElem? hy))
      have get : DGet H' p (.str y) (valV kvs (.inr y)) := DGet.k (k := (.inr y : Key)) (s' _ _ (s3 _ _ hp))
      rw [ev] at get
      have lt := (List.getElem?_eq_some_iff.mp ey).1
      have lo' := own_len own
      rw [List.length_take] at lo'
      refine ⟨rfl, ?_⟩
      simp only [tYes, if_true]
      refine ⟨_, rfl, _, rfl, _, rfl, _, rfl, p, v, rfl, get, nil_intro ?_⟩
      refine go_rule (hg.same (s3.trans s')) (dp_same (wo_same.trans (s3.trans s')) dv) (all _ mem).2 fun R H4 nR s4 rule => ⟨kv', .inr y, rfl, s4 _ _ eD, by rw [sizeLine_eq]; omega, kv' ++ [(.inr y, .ref R)], Same.over (s'.trans s4) nD _, ?_, ?_⟩
      · rw [upd_same, putK_new]
        exact own_none own (fun m => not_taken ndy hy (by rw [List.map_take, ss_keys] at m; exact m))
      · rw [List.take_add_one, ey]
        exact own_snoc (yr := (y, rowOf rs y)) ((own.dk (.of s4)).dk (.put (s4 _ _ eD) rfl)) (rule.dk (.put (s4 _ _ eD) rfl))
    rintro H4 ⟨kv', s4, eD, own⟩
    rw [List.length_map, lys, ← lss, List.take_length] at own
    have nDH : H D = none := fresh_of s3 nD
    have s34 := s3.trans s4
    have ndk : (kv'.map (·.1)).Nodup := by rw [own_keys own]; exact rkeys_nd (by rw [ss_keys]; exact ndy)
    have lkv := own_len own
    have sske : (ssOf rs ys).map (·.1) = ys := ss_keys
    generalize ssOf rs ys = ss at *
    refine ⟨D, _, eD, trivial, fun od => ?_⟩
    have fB : upd H4 D (.frz od (.dK kv')) D = some (.frz od (.dK kv')) := upd_same
    have own5 : OwnAt K C U CR (upd H4 D (.frz od (.dK kv'))) t kv' ss := own.dk (.put eD rfl)
    generalize e5 : upd H4 D (.frz od (.dK kv')) = H5 at fB own5
    refine ⟨_, rfl, D, od, rfl, .inl ⟨kv', fB, fun E nE => loop_keys (p := D) (od := od) (kvs := kv') (fun i H' => ∃ L, Same H5 H' ∧ H' E = some (L2.SetTO P w E L) ∧ SumsL K H5 t L (ss.take i)) ⟨[], Same.new nE, upd_same, .nil⟩ (fun i H' _ h => let ⟨_, h, _⟩ := h; h _ _ fB) ?_ ?_⟩⟩
    · rintro i k v H' e ⟨L, s', eE, sl⟩
      obtain ⟨yr, a, eyr, rfl, rfl, rule⟩ := own_at own5 e
      have get : DGet H' D (.str yr.1) (valV kv' (.inr yr.1)) := .inl ⟨kv', .inr yr.1, .inr ⟨od, s' _ _ fB⟩, rfl, rfl⟩
      rw [valV_at ndk e] at get
      refine ⟨rfl, ?_⟩
      simp only [tYes, if_true]
      obtain ⟨dx, g2, x, l, st, en2, ys2, a1, a2, a3, a4, a5, a6, a7, a8⟩ := rule
      obtain ⟨b, rfl, pb⟩ := dPt a8
      have few := (List.getElem?_eq_some_iff.mp e).1
      have ll := sl.len
      rw [List.length_take] at ll
      refine ⟨_, rfl, _, rfl, D, _, rfl, get, _, _, _, _, _, rfl, s' _ _ a1, rc.cls, rc.end_, rfl, ?_⟩
      refine ⟨b, sumL (sumOf t yr.2), L, rfl, sqT_same pb s', eE, fun q m => sqT_same (sl.at_ q m) s', by omega, fun L' h1 h2 => ⟨L', Same.over s' nE _, upd_same, ?_⟩⟩
      rw [List.take_add_one, eyr]
      exact sl.more pb h1 h2
    rintro H' ⟨L, s', eE, sl⟩
    rw [lkv, List.take_length] at sl
    have nED : E ≠ D := fun z => by rw [z, fB] at nE; cases nE
    have s6 : Same H4 (upd H' D (.dK kv')) := lock_out eD (by rw [e5]; exact s')
    have eD6 : upd H' D (.dK kv') D = some (.dK kv') := upd_same
    have dk6 : DK H5 (upd H' D (.dK kv')) := (DK.of s').trans (.put (s' _ _ fB) rfl)
    have eE6 : upd H' D (.dK kv') E = some (L2.SetTO P w E L) := (upd_ne nED).trans eE
    refine ⟨s' _ _ fB, E, L, rfl, eE6, fun q m => ⟨sqT_dk (sl.at_ q m) dk6, sums_two sl q m⟩, fun gs G permG nG => ?_⟩
    have at6 : ∀ q ∈ L, SqT K (upd H' D (.dK kv')) q.1 (q.2.map V.int) := fun q m => sqT_dk (sl.at_ q m) dk6
    have own6 := own5.dk dk6
    generalize upd H' D (.dK kv') = H6 at *
    have s7 := Same.new (o := .lst gs) nG
    have eG : upd H6 G (.lst gs) G = some (.lst gs) := upd_same
    have own7 := own6.dk (.of s7)
    have eD7 := s7 _ _ eD6
    have s07 := (s34.trans s6).trans s7
    generalize upd H6 G (.lst gs) = H7 at *
    have lg : gs.length = L.length := by rw [permG.length_eq, List.length_map]
    refine ⟨_, rfl, G, gs, rfl, .inl (SqL.of eG), _, _, rfl, rfl, _, rfl, ?_⟩
    have mss : ∀ yr, yr ∈ ss ↔ yr ∈ rs := fun yr => pss.mem_iff
    by_cases c1 : L.length ≤ 1
    case neg =>
      rw [decide_eq_true (show (1 : Int) < (gs.length : Int) by omega)]
      refine iteT (k0 (fun ⟨r', rs', e1, e2, ok⟩ => ?_) H7 s07)
      obtain ⟨rfl, rfl⟩ := uniq e1 e2
      match L, c1, sl with
      | q1 :: q2 :: L', _, sl =>
        obtain ⟨y1, m1, z1⟩ := (sl.mem q1.2).mp (by simp)
        obtain ⟨y2, m2, z2⟩ := (sl.mem q2.2).mp (by simp)
        have nd := sl.nd
        rw [List.map_cons, List.map_cons, List.nodup_cons, List.mem_cons, not_or] at nd
        exact nd.1.1 (by rw [z1, z2, ok.same y1 ((mss y1).mp m1) y2 ((mss y2).mp m2)])
      | [], c, _ => exact c (Nat.zero_le _)
      | [_], c, _ => exact c (Nat.le_refl _)
    rw [decide_eq_false (show ¬ (1 : Int) < (gs.length : Int) by omega)]
    obtain ⟨y0, m0⟩ : ∃ yr, yr ∈ rs := match rs, lo with | yr :: _, _ => ⟨yr, List.mem_cons_self⟩
    have sure : ∀ yr ∈ rs, sumL (sumOf t yr.2) ∈ L.map (·.2) := fun yr m => (sl.mem _).mpr ⟨yr, (mss yr).mpr m, rfl⟩
    obtain ⟨q, rfl⟩ : ∃ q, L = [q] := by
      match L, c1, sure y0 m0 with
      | [], _, m => cases m
      | [q], _, _ => exact ⟨q, rfl⟩
      | _ :: _ :: _, c, _ => exact absurd c (by simp)
    have eq1 : ∀ yr ∈ rs, sumL (sumOf t yr.2) = q.2 := fun yr m => List.mem_singleton.mp (sure yr m)
    have eqs : ∀ yr ∈ rs, ∀ zr ∈ rs, sumOf t yr.2 = sumOf t zr.2 := fun yr m zr m' => by
      have z := (eq1 yr m).trans (eq1 zr m').symm
      unfold sumL at z
      injection z with a b
      injection b with b _
      exact Prod.ext a b
    have gsE : gs = [.ref q.1] := List.perm_singleton.mp permG
    subst gsE
    have pq : PAt K H7 q.1 (sumOf t y0.2) := by
      have z := sqT_same (at6 q List.mem_cons_self) s7
      rw [← eq1 y0 m0] at z
      exact z
    obtain ⟨sm1, sm2⟩ := sum_small (all y0 m0).2
    refine iteF ⟨_, rfl, _, rfl, G, _, _, _, rfl, rfl, SqL.of eG, atI_nat (j := 0) rfl, g, t, q.1, _, rfl, hg.same s07, pq, ⟨?_, ?_⟩, _, _, rfl, rfl, _, rfl, ?_⟩
    · exact Nat.lt_of_le_of_lt sm1 (Nat.lt_of_lt_of_le (show 12 < 2 ^ 10 by decide) (Nat.pow_le_pow_right (by decide) (by decide)))
    · exact Nat.lt_of_le_of_lt sm2 (Nat.lt_of_lt_of_le (show 12 < 2 ^ 10 by decide) (Nat.pow_le_pow_right (by decide) (by decide)))
    by_cases c2 : nrm t (sumOf t y0.2) < 2
    · rw [decide_eq_true c2]
      refine iteT (k0 (fun ⟨r', rs', e1, e2, ok⟩ => ?_) H7 s07)
      obtain ⟨rfl, rfl⟩ := uniq e1 e2
      have := ok.wide y0 m0
      omega
    · rw [decide_eq_false c2]
      refine iteF ⟨_, rfl, ?_⟩
      exact k1 r rs rfl rfl ⟨axs, ax1, lo, hi, nd, fun yr m => (all yr m).1, fun yr m => (all yr m).2, cB, eqs, fun yr m => by rw [eqs yr m y0 m0]; omega⟩ D kv' ss H7 s07 nDH eD7 pss (by rw [sske]; exact srt) own7
end
end K13
namespace K13
open PySem PySem.Spec PyProof.Rows L2 GL SkE
noncomputable abbrev s__letters_met : Stmt := topS 49
noncomputable abbrev N__letters_met : List Str := ["axiom", "rules", "met", "_", "letter", "turn", "other"]
theorem sc__letters_met : FnScope N__letters_met ["axiom", "rules"] (defScope s__letters_met) := ⟨rfl, rfl, rfl, by decide +kernel, rfl, by decide +kernel, by decide +kernel⟩
/-- what comes from the axiom by so many orders -/
noncomputable def Reach (r : RowT) (rs : Rls) : Nat → Str → Prop
  | 0, y => y ∈ r.map (·.1)
  | n + 1, y => Reach r rs n y ∨ ∃ zr ∈ rs, Reach r rs n zr.1 ∧ y ∈ zr.2.map (·.1)
/-- the letters that come, ascending -/
structure Met (r : RowT) (rs : Rls) (n : Nat) (us : List Str) : Prop where
  srt : sortedS us = true
  nd : us.Nodup
  mem : ∀ y, y ∈ us ↔ Reach r rs n y
theorem nodup_le : ∀ {l D : List Str}, l.Nodup → (∀ x ∈ l, x ∈ D) → l.length ≤ D.length
  | [], _, _, _ => Nat.zero_le _
  | x :: l, D, nd, h => by
    rw [List.nodup_cons] at nd
    have m := h x List.mem_cons_self
    have z := nodup_le (l := l) (D := D.erase x) nd.2 (fun y hy => (List.mem_erase_of_ne (fun e => nd.1 (by rw [← e]; exact hy))).mpr (h y (List.mem_cons_of_mem _ hy)))
    rw [List.length_erase_of_mem m] at z
    have p := List.length_pos_of_mem m
    rw [List.length_cons]
    omega
theorem lets_le {r : RowT} {ys : List Str} (h : Lets r ys) : ys.length ≤ r.length := by
  rw [h.1.length_eq]
  have z := setS_len (r.map (fun it : Str × Int => it.1))
  rw [List.length_map] at z
  exact z
theorem reach_in {r : RowT} {rs : Rls} (c : complB r rs = true) : ∀ {n : Nat} {y : Str}, Reach r rs n y → y ∈ rs.map (·.1)
  | 0, y, h => by
    unfold complB at c
    rw [List.all_cons, Bool.and_eq_true] at c
    obtain ⟨it, m, rfl⟩ := List.mem_map.mp h
    exact of_decide_eq_true (List.all_eq_true.mp c.1 it m)
  | n + 1, y, h => by
    rcases h with h | ⟨zr, mz, _, m⟩
    · exact reach_in c h
    · unfold complB at c
      rw [List.all_cons, Bool.and_eq_true] at c
      obtain ⟨it, m, rfl⟩ := List.mem_map.mp m
      rename_i m0
      exact of_decide_eq_true (List.all_eq_true.mp (List.all_eq_true.mp c.2 zr.2 (List.mem_map_of_mem mz)) it (by assumption))
theorem own_get {K : PySem.W.Frag} {C CR : Addr} {U : Bool → Addr} {M : Hp} {t : Bool} {y : Str} : ∀ {kvs : List (Key × V)} {rs : Rls}, OwnAt K C U CR M t kvs rs → (rs.map (·.1)).Nodup → y ∈ rs.map (·.1) → ∃ a, valV kvs (.inr y) = some (.ref a) ∧ RuleAt K C U CR M a t (rowOf rs y) ∧ (y, rowOf rs y) ∈ rs
  | _, _, .nil, _, m => by cases m
  | kv :: kvs, yr :: rs, .cons h r, nd, m => by
    obtain ⟨h1, b, h2, h3⟩ := h
    by_cases e : yr.1 = y
    · subst e
      have er : rowOf (yr :: rs) yr.1 = yr.2 := rowOf_mem nd List.mem_cons_self
      rw [er]
      exact ⟨b, by rw [← h2]; exact valV_pos h1, h3, List.mem_cons_self⟩
    · rw [List.map_cons, List.nodup_cons] at nd
      have m' : y ∈ rs.map (·.1) := by
        rcases List.mem_cons.mp m with q | q
        · exact absurd q.symm e
        · exact q
      obtain ⟨v, ev, dv, mm⟩ := own_get r nd.2 m'
      have er : rowOf (yr :: rs) y = rowOf rs y := by unfold rowOf; rw [List.find?_cons, decide_eq_false e]
      rw [er]
      exact ⟨v, by rw [valV_neg (by rw [h1]; exact fun q => e (by injection q))]; exact ev, dv, List.mem_cons_of_mem _ mm⟩
noncomputable def spMet (K : PySem.W.Frag) (C : Addr) (U : Bool → Addr) (CR : Addr) : Sp := fun vs H Q _ => ∃ ax q t r kvs ss, vs = [ax, .ref q] ∧ Dp K H ax (rowD r) ∧ r.length ≤ 12 ∧ H q = some (.dK kvs) ∧ OwnAt K C U CR H t kvs ss ∧ (ss.map (·.1)).Nodup ∧ ss.length ≤ 6 ∧ complB r ss = true ∧
  ∀ u us H', Same H H' → Dp K H' u (.tuple (us.map PyData.str)) → Met r ss ss.length us → Q u H'
section
variable {P : Program} {w : World} {K : PySem.W.Frag} {mg : Str → Option Value} {base : Heap}
variable {aG dU C CR : Addr} {U : Bool → Addr} {us : Bool → List Addr}
theorem h_letters_met (T : TxS K mg aG dU C CR) (rc : RCls K CR) (D : Df K mg "_letters_met" s__letters_met) :
    Has P w K mg base CX0 "_letters_met" 1 ["axiom", "rules"] (spMet K C U CR) := by
  refine D.has sc__letters_met (fun vs H Q E h => ?_) (fun kV doc pm an cdv ct us hl => match us, hl with | [_, _], _ => rfl) (fun f cdv A outer s H vs Q E gd hr h => ?_)
  · obtain ⟨ax, q, t, r, kvs, ss, rfl, _⟩ := h
    rfl
  · obtain ⟨ax, q, t, r, kvs, ss, rfl, ha, l12, hq, own, nd, few, cB, k⟩ := h
    have hu := hr.units
    refine ⟨_, (pss_cons
 (ps_set (i := 2) sc__letters_met.nd rfl (Or.inl rfl) (pe_callB call_sortedT (by exact rfl) T.zsorted (by decide +kernel) (pa_cons (pe_scT (own := [("letter", 4), ("turn", 5)]) (g := (gTup K 2 (gCons (gName 4) (gCons (gName 5) gNil)))) (tt := tYes) sc__letters_met.nd (pi_tup (pv 0)) (blkOk_by (own := [("letter", 4), ("turn", 5)]) (N := N__letters_met) (sc := defScope s__letters_met) (by decide +kernel)) (fun _ _ _ _ _ => (pg_tupK (K0 := K) (n := 2) (by exact rfl) (by rfl) (pgs_cons (pg_name (i := 4) sc__letters_met.nd rfl (Or.inl rfl)) (pgs_cons (pg_name (i := 5) sc__letters_met.nd rfl (Or.inl rfl)) pgs_nil)))) (fun _ _ _ _ _ => pts_nil) (fun _ _ _ _ _ => (pv 4))) pa_nil)))
 (pss_cons
 (ps_for PassesOwn.never rfl (pi_range1 (by exact rfl) T.zrange (pa_cons (pe_callB call_lenD (by exact rfl) T.zlen PySem.boot_len (pa_cons (pv 1) pa_nil)) pa_nil)) (pg_name (i := 3) sc__letters_met.nd rfl (Or.inl rfl)) (pss_one
 (ps_set (i := 2) sc__letters_met.nd rfl (Or.inl rfl) (pe_callB call_sortedT (by exact rfl) T.zsorted (by decide +kernel) (pa_cons (pe_callTy call_setT (by exact rfl) T.zset (by decide +kernel) (pa_cons (pe_op op_cat (pv 2) (pe_lc2 (own := [("letter", 4), ("other", 6)]) (vs1 := [6]) (g := gName 4) (tt := tYes) (g1 := gName 6) (tt1 := tYes) (by rfl) sc__letters_met.nd (pi_list (pv 2)) (blkOk_by (own := [("letter", 4), ("other", 6)]) (N := N__letters_met) (sc := defScope s__letters_met) (by decide +kernel)) (by decide) (fun _ _ _ _ _ => pg_name (i := 4) sc__letters_met.nd rfl (Or.inl rfl)) (fun _ _ _ _ _ => pts_nil) (fun _ _ _ _ _ => (pi_tupK (K0 := K) (by exact rfl) (pe_fldK (K0 := K) (by exact rfl) (pe_dget (Nat.lt_of_le_of_lt (Nat.add_le_add_left (by decide) _) hu) (pv 1) (pv 4) (fun _ _ => rfl)) (by rfl)))) (fun _ _ _ _ _ => pg_name (i := 6) sc__letters_met.nd rfl (Or.inl rfl)) (fun _ _ _ _ _ => pts_nil) (fun _ _ _ _ _ => (pv 6)))) pa_nil)) pa_nil)))))
 (pss_one
 (ps_ret (pe_callTy call_tuple_of (by exact rfl) T.ztuple (by decide +kernel) (pa_cons (pv 2) pa_nil)))))), ?_⟩
    dsimp only [cxOf, Cx.nox]
    obtain ⟨a, xs, rfl, hs, l⟩ := dTup ha
    have lkv := own_len own
    refine ⟨_, rfl, a, rfl, ⟨_, hs⟩, fun D2 hD2 => sc_row hs l (by omega) hD2 (fun _ _ => rfl) (fun it H' Q q => ⟨_, rfl, q⟩) (fun H6 s6 e6 => ?_)⟩
    have l64 := setS_len (r.map (fun it : Str × Int => it.1))
    rw [List.length_map] at l64
    refine ⟨D2, _, rfl, e6, by omega, fun ys m perm srt nm => ?_⟩
    have em : upd H6 m (.lst (ys.map V.str)) m = some (.lst (ys.map V.str)) := upd_same
    have s0 := s6.trans (Same.new (o := .lst (ys.map V.str)) nm)
    generalize upd H6 m (.lst (ys.map V.str)) = H1 at *
    have met0 : Met r ss 0 ys := ⟨srt, perm.nodup_iff.mpr (setS_nodup _), fun y => by rw [perm.mem_iff, setS_mem]; exact Iff.rfl⟩
    refine ⟨_, rfl, q, kvs, rfl, s0 _ _ hq, ?_⟩
    refine ⟨_, rfl, by omega, by omega, for_range (lo := 0) (n := kvs.length) (fun i σ' H' => ∃ m us v, σ' = [some (.ref a), some (.ref q), some (.ref m), v, none, none, none] ∧ Same H H' ∧ H' m = some (.lst (us.map V.str)) ∧ Met r ss i us) ⟨m, ys, none, rfl, s0, em, met0⟩ ?_ ?_⟩
    · rintro i _ H' hi ⟨m, us, v, rfl, s1, em, met⟩
      have keys := fun y (hy : y ∈ us) => reach_in cB ((met.mem y).mp hy)
      have l6 : us.length ≤ 6 := by
        have z := nodup_le met.nd keys
        rw [List.length_map] at z
        omega
      refine ⟨_, rfl, _, rfl, m, rfl, ⟨_, SqL.of em⟩, fun D nD => loop_list (a := m) (xs := us.map V.str) (fun j H2 => ∃ zs : List Str, Same H' H2 ∧ H2 D = some (.lst (zs.map V.str)) ∧ zs.length ≤ j * 12 ∧ ∀ y, y ∈ zs ↔ ∃ z ∈ us.take j, y ∈ (rowOf ss z).map (·.1)) ⟨[], Same.new nD, upd_same, Nat.zero_le _, fun y => by simp⟩ (fun j H2 _ h => let ⟨_, h, _⟩ := h; SqL.of (h _ _ em)) ?_ ?_⟩
      · rintro j x H2 hx ⟨zs, s2, eD, lz, mz⟩
        obtain ⟨y, hy, rfl⟩ := str_at' hx
        have lj := (List.getElem?_eq_some_iff.mp hy).1
        obtain ⟨b, ev, rule, mem⟩ := own_get own nd (keys y (List.mem_of_getElem? hy))
        have get : DGet H2 q (.str y) (valV kvs (.inr y)) := DGet.k (k := (.inr y : Key)) (s2 _ _ (s1 _ _ hq))
        rw [ev] at get
        obtain ⟨dx, g2, x, lr, st, en2, ys2, a1, a2, ok, a4, lets, a6, a7, a8⟩ := rule.same s1
        obtain ⟨c, xs2, rfl, hc, lc⟩ := dTup a6
        have exs := dStrs' lc
        subst exs
        refine ⟨rfl, ?_⟩
        simp only [tYes, if_true]
        have l12 := lets_le lets
        have lm := ok.most
        refine ⟨_, rfl, _, rfl, q, _, rfl, get, _, _, _, _, _, rfl, s2 _ _ a1, rc.cls, rc.letters, rfl, c, rfl, ⟨_, sqT_same hc s2⟩, loop_tup (a := c) (xs := ys2.map V.str) (fun k H3 => Same H' H3 ∧ H3 D = some (.lst ((zs ++ ys2.take k).map V.str))) ⟨s2, by rw [List.take_zero, List.append_nil]; exact eD⟩ (fun k H3 _ h => sqT_same hc h.1) ?_ ?_⟩
        · rintro k x H3 hx ⟨s3, eD3⟩
          obtain ⟨y3, hy3, rfl⟩ := str_at' hx
          have lk := (List.getElem?_eq_some_iff.mp hy3).1
          have lzs : zs.length ≤ 72 := by
            have := Nat.mul_le_mul_right 12 (show j ≤ 6 by omega)
            omega
          refine ⟨rfl, _, rfl, _, eD3, ?_, Same.over s3 nD _, ?_⟩
          · rw [List.length_map, List.length_append, List.length_take, sizeLine_eq]
            omega
          · rw [upd_same, List.take_add_one, hy3, ← List.append_assoc, List.map_append (l₂ := (some y3).toList)]
            rfl
        · rintro H3 ⟨s3, eD3⟩
          rw [List.length_map, List.take_length] at eD3
          refine ⟨zs ++ ys2, s3, eD3, by rw [List.length_append]; omega, fun y' => ?_⟩
          rw [List.mem_append, mz, List.take_add_one, hy, lets.1.mem_iff, setS_mem]
          constructor
          · rintro (⟨z, m1, m2⟩ | m2)
            · exact ⟨z, List.mem_append_left _ m1, m2⟩
            · exact ⟨y, List.mem_append_right _ List.mem_cons_self, m2⟩
          · rintro ⟨z, m1, m2⟩
            rcases List.mem_append.mp m1 with m1 | m1
            · exact .inl ⟨z, m1, m2⟩
            · obtain rfl : z = y := List.mem_singleton.mp m1
              exact .inr m2
      · rintro H2 ⟨zs, s2, eD, lz, mz⟩
        rw [List.length_map] at lz mz
        rw [List.take_length] at mz
        have nmD : m ≠ D := fun z => by rw [← z, em] at nD; cases nD
        refine ⟨m, D, _, _, rfl, rfl, s2 _ _ em, eD, by rw [List.length_map, List.length_map, sizeLine_eq]; omega, fun R nR => ?_⟩
        rw [← List.map_append]
        refine ⟨R, us ++ zs, rfl, SqL.of upd_same, by rw [List.length_append]; unfold scanBound; omega, fun S nS => ?_⟩
        have step : ∀ y, y ∈ setS (us ++ zs) ↔ Reach r ss (i + 1) y := fun y => by
          rw [setS_mem, List.mem_append, mz, met.mem]
          constructor
          · rintro (h | ⟨z, m1, m2⟩)
            · exact .inl h
            · obtain ⟨_, _, _, mem⟩ := own_get own nd (keys z m1)
              exact .inr ⟨_, mem, (met.mem z).mp m1, m2⟩
          · rintro (h | ⟨zr, m1, m2, m3⟩)
            · exact .inl h
            · exact .inr ⟨zr.1, (met.mem _).mpr m2, by rw [rowOf_mem nd m1]; exact m3⟩
        have l6' : (setS (us ++ zs)).length ≤ 6 := by
          have z := nodup_le (setS_nodup (us ++ zs)) (fun y hy => reach_in cB ((step y).mp hy))
          rw [List.length_map] at z
          omega
        refine ⟨S, _, rfl, upd_same, by omega, fun ys2 m2 perm2 srt2 nm2 => ?_⟩
        refine ⟨m2, ys2, _, rfl, ?_, upd_same, srt2, perm2.nodup_iff.mpr (setS_nodup _), fun y => by rw [perm2.mem_iff]; exact step y⟩
        exact (((s1.trans s2).trans (Same.new nR)).trans (Same.new nS)).trans (Same.new nm2)
    · rintro _ H' ⟨m, us, v, rfl, s1, em, met⟩
      refine ⟨_, rfl, m, _, rfl, .inl ⟨SqL.of em, fun l nl => k _ us _ (s1.trans (Same.new nl)) (.tup (SqT.of upd_same) dStrs) (by rw [← lkv]; exact met)⟩⟩
end
end K13
namespace K13
open PySem PySem.Spec PyProof.Rows L2 GL SkE PySem.GLE LamX
noncomputable abbrev s_Scheme_WinitW : Stmt := inClass (topS 50) 0
noncomputable abbrev N_Scheme_WinitW : List Str := ["self", "grid", "axiom", "rules", "own", "heads", "letter", "turn"]
theorem sc_Scheme_WinitW : FnScope N_Scheme_WinitW ["self", "grid", "axiom", "rules"] (defScope s_Scheme_WinitW) := ⟨rfl, rfl, rfl, by decide +kernel, rfl, by decide +kernel, by decide +kernel⟩
noncomputable abbrev s_Grid_WstrW : Stmt := inClass (topS 27) 12
noncomputable abbrev N_Grid_WstrW : List Str := ["self"]
theorem sc_Grid_WstrW : FnScope N_Grid_WstrW ["self"] (defScope s_Grid_WstrW) := ⟨rfl, rfl, rfl, by decide +kernel, rfl, by decide +kernel, by decide +kernel⟩
noncomputable def spGStr (C : Addr) (U : Bool → Addr) : Sp := fun vs H Q _ => ∃ g t, vs = [.ref g] ∧ GridAt C U H g t ∧ Q (.str (nm t)) H
structure Msg (K : PySem.W.Frag) (mg : Str → Option Value) (x : Str) (C : Addr) : Prop where
  q : PySem.W.excIn K C [.type "ValueError", .type "Exception", .type "BaseException", .type "object"] "ValueError.__new__" = true
  g : mg x = some (.ref C)
  k : PySem.W.keepIn K (.ref C) = true
  b : PySem.W.subIn K (.ref C) (.type "BaseException") = some true
  t : PySem.W.typeIn K (.ref C) = some (.type "type")
structure TxM (K : PySem.W.Frag) (mg : Str → Option Value) (aG dU C CR eG eS : Addr) : Prop extends TxS K mg aG dU C CR where
  mInvalidGrid : Msg K mg "InvalidGrid" eG
  mInvalidScheme : Msg K mg "InvalidScheme" eS
theorem join_max {sep : Str} {l : List Str} {n : Nat} (h : ∀ y ∈ l, y.length ≤ n) : (Txt.join sep l).length ≤ l.length * (n + sep.length) := by
  show (Builtin.Str.glued sep l).length ≤ _
  rw [StrLaws.glued_eq_join]
  refine Nat.le_trans (StrLaws.join_length_le _ _) ?_
  have s : (l.map (fun x => x.length)).sum ≤ l.length * n := by
    induction l with
    | nil => simp
    | cons x r ih =>
      have a := h x (List.mem_cons_self ..)
      have b := ih (fun y hy => h y (List.mem_cons_of_mem _ hy))
      rw [List.map_cons, List.sum_cons, List.length_cons, Nat.succ_mul]
      omega
  rw [Nat.mul_add]
  omega
theorem rowT_most {t : Bool} {r : RowT} (h : ∀ it ∈ r, ItemOk t it) (m : r.length ≤ 12) : (rowT r).length ≤ 36 := by
  have z := join_max (sep := (" " : Str)) (l := r.map itemT) (n := 2) (fun y hy => by
    obtain ⟨it, hi, rfl⟩ := List.mem_map.mp hy
    exact Nat.le_of_eq (item_len (h it hi)))
  rw [List.length_map, show (" " : Str).length = 1 by decide +kernel] at z
  exact Nat.le_trans z (by omega)
theorem rowT_len {t : Bool} {r : RowT} (h : ∀ it ∈ r, ItemOk t it) (m : r.length ≤ 12) : (rowT r).length ≤ sizeLine := Nat.le_trans (rowT_most h m) (by decide)
theorem heads_len {t : Bool} {r : RowT} (h : ∀ it ∈ r, ItemOk t it) (m : r.length ≤ 12) : (Str.empty ++ Str.ofString "axiom " ++ rowT r).length ≤ sizeLine := by
  rw [strLen_append]
  have z := rowT_most h m
  have e : (Str.empty ++ Str.ofString "axiom ").length = 6 := by decide +kernel
  rw [e, sizeLine_eq]
  omega
section
variable {K : PySem.W.Frag} {C CR D : Addr} {U : Bool → Addr} {H : Hp} {p dx : Addr} {t : Bool} {r : RowT} {kvs : List (Key × V)} {ss : Rls}
theorem grid_wo {g : Addr} (e : H p = some (.ins D dx [])) (h : GridAt C U H g t) : GridAt C U (wo p H) g t := by
  obtain ⟨dg, eg⟩ := h
  refine ⟨dg, wo_at eg (fun z => ?_)⟩
  rw [z, e] at eg
  unfold gF at eg
  cases t <;> cases eg
theorem rule_wo {a : Addr} (e : H p = some (.ins D dx [])) (h : RuleAt K C U CR H a t r) : RuleAt K C U CR (wo p H) a t r := by
  obtain ⟨da, g, x, l, st, en, ys, a1, a2, a3, a4, a5, a6, a7, a8⟩ := h
  exact ⟨da, g, x, l, st, en, ys, wo_at a1 (fun z => by rw [z, e] at a1; cases a1), grid_wo e a2, a3, dp_wo e a4, a5, dp_wo e a6, dp_wo e a7, dp_wo e a8⟩
theorem own_wo (e : H p = some (.ins D dx [])) (h : OwnAt K C U CR H t kvs ss) : OwnAt K C U CR (wo p H) t kvs ss := _root_.L2.Paired.mapP h fun a b ⟨h1, q, h2, h3⟩ => ⟨h1, q, h2, rule_wo e h3⟩
end
structure SCls (K : PySem.W.Frag) (D : Addr) : Prop where
  cls : Cls K D
  rules : NoAttr K D "_rules"
  grid : NoAttr K D "grid"
  axiom_ : NoAttr K D "axiom"
  letters : NoAttr K D "letters"
  growth : NoAttr K D "growth"
  lines : NoAttr K D "lines"
  closed : NoAttr K D "is_closed"
  even : NoAttr K D "is_even"
  used : NoAttr K D "used"
/-- the line of a rule -/
noncomputable def ruleT (yr : Str × RowT) : Str := Str.empty ++ Str.ofString "rule " ++ yr.1 ++ Str.ofString " " ++ rowT yr.2
/-- the lines of a scheme -/
noncomputable def linesT (t : Bool) (r : RowT) (ss : Rls) : List Str := [Str.empty ++ Str.ofString "grid " ++ nm t, Str.empty ++ Str.ofString "axiom " ++ rowT r] ++ ss.map ruleT
noncomputable def SchAt (K : PySem.W.Frag) (C : Addr) (U : Bool → Addr) (CR CS : Addr) (H : Hp) (p : Addr) (t : Bool) (r : RowT) (ss : Rls) : Prop := ∃ dx g q kvs ax l gw ln bc be u us,
  H p = some (.ins CS dx [("_rules", .ref q), ("grid", .ref g), ("axiom", ax), ("letters", l), ("growth", gw), ("lines", ln), ("is_closed", .bl bc), ("is_even", .bl be), ("used", u)]) ∧ H q = some (.dK kvs) ∧ GridAt C U H g t ∧ Dp K H ax (rowD r) ∧ OwnAt K C U CR H t kvs ss ∧
  Dp K H l (.tuple ((ss.map (·.1)).map PyData.str)) ∧ (∀ yr ∈ ss, Dp K H gw (ptD (sumOf t yr.2))) ∧ Dp K H ln (.tuple ((linesT t r ss).map PyData.str)) ∧ bc = PyData.eqv (ptD (sumOf t r)) (ptD (0, 0)) ∧ Dp K H u (.tuple (us.map PyData.str)) ∧ Met r ss ss.length us
theorem complB_perm {r : RowT} {ss rs : Rls} (pm : ss.Perm rs) (h : complB r rs = true) : complB r ss = true := by
  have inn : ∀ it, inB ss it = inB rs it := fun it => by
    unfold inB
    rw [decide_eq_decide]
    exact (pm.map (·.1)).mem_iff
  unfold complB at h ⊢
  rw [List.all_eq_true] at h ⊢
  intro row m
  have m' : row ∈ r :: rs.map (·.2) := by
    rcases List.mem_cons.mp m with e | m
    · rw [e]; exact List.mem_cons_self
    · exact List.mem_cons_of_mem _ ((pm.map (·.2)).mem_iff.mp m)
  have z := h row m'
  rw [List.all_eq_true] at z ⊢
  intro it hi
  rw [inn]
  exact z it hi
noncomputable def Raises (H : Hp) (D : Addr) (E : XK) : Prop := ∀ H', Same H H' → E (.ref D) none H'
noncomputable def spSInit (K : PySem.W.Frag) (C : Addr) (U : Bool → Addr) (CR CS eS : Addr) : Sp := fun vs H Q E => ∃ p dx g t ax d x o, vs = [.ref p, .ref g, ax, x] ∧ H p = some (.ins CS dx []) ∧ GridAt C U H g t ∧ Dp K H ax d ∧ MildD d ∧ RuV K H x o ∧
  ((¬ ∃ r rs, d = rowD r ∧ o = some (entsOf rs) ∧ SchOk t r rs) → Raises H eS E) ∧
  (∀ r rs, d = rowD r → o = some (entsOf rs) → SchOk t r rs → ∀ ss H', (∀ b o, b ≠ p → H b = some o → H' b = some o) → ss.Perm rs → sortedS (ss.map (·.1)) = true → SchAt K C U CR CS H' p t r ss → Q .non H')
/-- no grid -/
noncomputable def NoGrid (K : PySem.W.Frag) (C : Addr) (H : Hp) (x : V) : Prop := ∃ T, TyX K H x T ∧ PySem.W.kitOne K T (.ref C) = some false
noncomputable def spSInitX (K : PySem.W.Frag) (C : Addr) (U : Bool → Addr) (CR CS eG eS : Addr) : Sp := fun vs H Q E => (∃ p one ax x, vs = [.ref p, one, ax, x] ∧ NoGrid K C H one ∧ Raises H eG E) ∨ spSInit K C U CR CS eS vs H Q E
theorem hasGX_sub {P : Program} {w : World} {K : PySem.W.Frag} {mg : Str → Option Value} {base : Heap} {CX : CXT} {x : Str} {C : Addr} {k : Nat} {ps : List Str} {sp sp2 : Sp} (h : HasGX P w K mg base CX x C k ps sp2) (sub : ∀ vs H Q E, sp vs H Q E → sp2 vs H Q E) : HasGX P w K mg base CX x C k ps sp := by
  obtain ⟨f, fd, F, r⟩ := h.ex
  exact ⟨f, fd, ⟨fun vs H Q E h => F.len vs H Q E (sub _ _ _ _ h), fun g hr e0 b v a => F.go g hr e0 b v (sub _ _ _ _ a)⟩, r⟩
section
variable {P : Program} {w : World} {K : PySem.W.Frag} {mg : Str → Option Value} {base : Heap}
variable {aG dU C CR CS eG eS : Addr} {U : Bool → Addr} {us : Bool → List Addr}
theorem h_gstr (c : GCls K C) (T : TxS K mg aG dU C CR) (D : Dm K C "__str__" "Grid.__str__" s_Grid_WstrW) : HasM P w K mg base CX0 C "__str__" 1 ["self"] (spGStr C U) := by
  refine D.has sc_Grid_WstrW (fun vs H Q E h => ?_) (fun kV doc pm an cdv ct us hl => match us, hl with | [_], _ => rfl) (fun f cdv A outer s H vs Q E gd hr h => ?_)
  · obtain ⟨g, t, rfl, _⟩ := h
    rfl
  · obtain ⟨g, t, rfl, ⟨dx, eg⟩, k⟩ := h
    refine ⟨_, (pss_one
 (ps_ret (pe_callTy call_str_str (by exact rfl) T.zstr (by decide +kernel) (pa_cons (pe_fld (pv 0) rfl) pa_nil)))), ?_⟩
    exact ⟨_, rfl, _, _, _, _, _, rfl, eg, c.cls, c.name, gF_name, _, rfl, k⟩
theorem h_sinit (T : TxM K mg aG dU C CR eG eS) (c : GCls K C) (i : GIs K C) (rc : RCls K CR) (sc : SCls K CS) (fmG : FmtC K C) (fmR : FmtC K CR) (D : Dc K CS "Scheme.__init__" s_Scheme_WinitW) (h_rules_of : Has P w K mg base CX0 "_rules_of" 8 ["grid", "axiom", "rules"] (spRulesOf K C U CR)) (hrow_text : Has P w K mg base CX0 "row_text" 1 ["items"] (spRowText K)) (htrail : Has P w K mg base CX0 "trail" 2 ["grid", "directions"] (spTrail K C U)) (h_letters_met : Has P w K mg base CX0 "_letters_met" 1 ["axiom", "rules"] (spMet K C U CR))
    (hm_gstr : HasM P w K mg base CX0 C "__str__" 1 ["self"] (spGStr C U)) (hm_rstr : HasM P w K mg base CX0 CR "__str__" 2 ["self"] (spRStr K C U CR)) (m : mg "Scheme" = some (.ref CS)) :
    HasGX P w K mg base (L2.CX P w) "Scheme" CS 9 ["self", "grid", "axiom", "rules"] (spSInitX K C U CR CS eG eS) := by
  refine D.hasGX m sc_Scheme_WinitW (fun vs H Q E h => ?_) (fun kV doc pm an cdv ct us hl => match us, hl with | [_, _, _, _], _ => rfl) (fun f cdv A outer s H vs Q E gd hr h => ?_)
  · rcases h with ⟨p, one, ax, x, rfl, _⟩ | ⟨p, dx, g, t, ax, d, x, o, rfl, _⟩
    · rfl
    · rfl
  · rcases h with ⟨p, one, ax, x, rfl, ⟨Tx, tyT, kitT⟩, bad⟩ | h
    · have hu := hr.units
      refine ⟨_, (pss_cons
 (ps_if (pt_not (pt_val (pe_callB call_isi (by exact rfl) T.zisinstance (by decide +kernel) (pa_cons (pv 1) (pa_cons (pe_globV T.gGrid) pa_nil))))) (pss_one
 (ps_raise rfl (takes_of rfl rfl rfl rfl) (pmk_own PySem.F.excBase_ValueError T.mInvalidGrid.q T.mInvalidGrid.g T.mInvalidGrid.k (raises_own T.mInvalidGrid.b T.mInvalidGrid.t) rfl))) pss_nil)
 (pss_cons
 (ps_set (i := 4) sc_Scheme_WinitW.nd rfl (Or.inr rfl) (pe_callH h_rules_of gd (hr.mono (by decide)) pass0 (pa_cons (pv 1) (pa_cons (pv 2) (pa_cons (pv 3) pa_nil)))))
 (pss_cons
 (ps_if (pt_cmpR op_isN (pv 4) pe_non (nomark _)) (pss_one
 (ps_raise rfl (takes_of rfl rfl rfl rfl) (pmk_own PySem.F.excBase_ValueError T.mInvalidScheme.q T.mInvalidScheme.g T.mInvalidScheme.k (raises_own T.mInvalidScheme.b T.mInvalidScheme.t) rfl))) pss_nil)
 (pss_cons
 (ps_set (i := 5) sc_Scheme_WinitW.nd rfl (Or.inl rfl) (pe_tup (pa_cons (pe_joined (.cons pe_str (.cons (pe_fmtM hm_gstr gd (hr.mono (by decide)) pass0 fmG (pv 1)) .nil))) (pa_cons (pe_joined (.cons pe_str (.cons (pe_fmt (pe_callH hrow_text gd (hr.mono (by decide)) pass0 (pa_cons (pv 2) pa_nil))) .nil))) pa_nil))))
 (pss_cons
 (ps_fld (pv 0) (pv 4) rfl)
 (pss_cons
 (ps_fld (pv 0) (pv 1) rfl)
 (pss_cons
 (ps_fld (pv 0) (pv 2) rfl)
 (pss_cons
 (ps_fld (pv 0) (pe_tupleD (by exact rfl) (by exact rfl) T.ztuple (pv 4)) rfl)
 (pss_cons
 (ps_fld (pv 0) (pe_fld (pe_dget (Nat.lt_of_le_of_lt (Nat.add_le_add_left (by decide) _) hu) (pv 4) (pe_ix ix_tup (pe_fld (pv 0) rfl) pe_int (fun _ _ => rfl)) (fun _ _ => rfl)) rfl) rfl)
 (pss_cons
 (ps_fld (pv 0) (pe_op op_catA (pv 5) (pe_callTy call_tuple_of (by exact rfl) T.ztuple (by decide +kernel) (pa_cons (pe_lock (pe_lc (own := [("letter", 6)]) (g := gName 6) (tt := tYes) (by rfl) sc_Scheme_WinitW.nd (pi_keys (pv 4)) (blkOk_by (own := [("letter", 6)]) (N := N_Scheme_WinitW) (sc := defScope s_Scheme_WinitW) (by decide +kernel)) (fun _ _ _ _ _ => pg_name (i := 6) sc_Scheme_WinitW.nd rfl (Or.inl rfl)) (fun _ _ _ _ _ => pts_nil) (fun _ _ _ _ _ => (pe_joined (.cons pe_str (.cons (pe_fmt (pv 6)) (.cons pe_str (.cons (pe_fmtM hm_rstr gd (hr.mono (by decide)) pass0 fmR (pe_dget (Nat.lt_of_le_of_lt (Nat.add_le_add_left (by decide) _) hu) (pv 4) (pv 6) (fun _ _ => rfl))) .nil)))))))) pa_nil))) rfl)
 (pss_cons
 (ps_fld (pv 0) (pe_cmpR (op_eqD hu) (pe_ix ix_list (pe_callH htrail gd (hr.mono (by decide)) pass0 (pa_cons (pv 1) (pa_cons (pe_lc (own := [("letter", 6), ("turn", 7)]) (g := (gTup K 2 (gCons (gName 6) (gCons (gName 7) gNil)))) (tt := tYes) (by rfl) sc_Scheme_WinitW.nd (pi_tup (pv 2)) (blkOk_by (own := [("letter", 6), ("turn", 7)]) (N := N_Scheme_WinitW) (sc := defScope s_Scheme_WinitW) (by decide +kernel)) (fun _ _ _ _ _ => (pg_tupK (K0 := K) (n := 2) (by exact rfl) (by rfl) (pgs_cons (pg_name (i := 6) sc_Scheme_WinitW.nd rfl (Or.inl rfl)) (pgs_cons (pg_name (i := 7) sc_Scheme_WinitW.nd rfl (Or.inl rfl)) pgs_nil)))) (fun _ _ _ _ _ => pts_nil) (fun _ _ _ _ _ => (pv 7))) pa_nil))) (pe_un un_neg pe_int) (fun _ _ => rfl)) (pe_tup (pa_cons pe_int (pa_cons pe_int pa_nil))) (nomark _)) rfl)
 (pss_cons
 (ps_fld (pv 0) (pe_cmpR op_eq (pe_callB call_lenI (by exact rfl) T.zlen PySem.boot_len (pa_cons (pe_lock (pe_scG newI adIB (own := [("letter", 6)]) (g := gName 6) (tt := tYes) sc_Scheme_WinitW.nd (pi_keys (pv 4)) (blkOk_by (own := [("letter", 6)]) (N := N_Scheme_WinitW) (sc := defScope s_Scheme_WinitW) (by decide +kernel)) (fun _ _ _ _ _ => pg_name (i := 6) sc_Scheme_WinitW.nd rfl (Or.inl rfl)) (fun _ _ _ _ _ => pts_nil) (fun _ _ _ _ _ => (pe_callB (call_len_seqK (K0 := K) (by exact rfl)) (by exact rfl) T.zlen PySem.boot_len (pa_cons (pe_fldK (K0 := K) (by exact rfl) (pe_dget (Nat.lt_of_le_of_lt (Nat.add_le_add_left (by decide) _) hu) (pv 4) (pv 6) (fun _ _ => rfl)) (by rfl)) pa_nil))))) pa_nil)) pe_int (nomark _)) rfl)
 (pss_one
 (ps_fld (pv 0) (pe_callH h_letters_met gd (hr.mono (by decide)) pass0 (pa_cons (pv 2) (pa_cons (pv 4) pa_nil))) rfl)))))))))))))), ?_⟩
      dsimp only [cxOf]
      exact ⟨_, rfl, _, _, _, _, _, rfl, .own _, tyT, kitT, _, rfl, iteT (bad H same_rfl)⟩
    obtain ⟨p, dx, g, t, ax, d, x, o, rfl, hp, hg, ha, mild, rv, k0, k1⟩ := h
    have hu := hr.units
    refine ⟨_, (pss_cons
 (ps_if (pt_not (pt_val (pe_callB call_isi (by exact rfl) T.zisinstance (by decide +kernel) (pa_cons (pv 1) (pa_cons (pe_globV T.gGrid) pa_nil))))) (pss_one
 (ps_raise rfl (takes_of rfl rfl rfl rfl) (pmk_own PySem.F.excBase_ValueError T.mInvalidGrid.q T.mInvalidGrid.g T.mInvalidGrid.k (raises_own T.mInvalidGrid.b T.mInvalidGrid.t) rfl))) pss_nil)
 (pss_cons
 (ps_set (i := 4) sc_Scheme_WinitW.nd rfl (Or.inr rfl) (pe_callH h_rules_of gd (hr.mono (by decide)) pass0 (pa_cons (pv 1) (pa_cons (pv 2) (pa_cons (pv 3) pa_nil)))))
 (pss_cons
 (ps_if (pt_cmpR op_isN (pv 4) pe_non (nomark _)) (pss_one
 (ps_raise rfl (takes_of rfl rfl rfl rfl) (pmk_own PySem.F.excBase_ValueError T.mInvalidScheme.q T.mInvalidScheme.g T.mInvalidScheme.k (raises_own T.mInvalidScheme.b T.mInvalidScheme.t) rfl))) pss_nil)
 (pss_cons
 (ps_set (i := 5) sc_Scheme_WinitW.nd rfl (Or.inl rfl) (pe_tup (pa_cons (pe_joined (.cons pe_str (.cons (pe_fmtM hm_gstr gd (hr.mono (by decide)) pass0 fmG (pv 1)) .nil))) (pa_cons (pe_joined (.cons pe_str (.cons (pe_fmt (pe_callH hrow_text gd (hr.mono (by decide)) pass0 (pa_cons (pv 2) pa_nil))) .nil))) pa_nil))))
 (pss_cons
 (ps_fld (pv 0) (pv 4) rfl)
 (pss_cons
 (ps_fld (pv 0) (pv 1) rfl)
 (pss_cons
 (ps_fld (pv 0) (pv 2) rfl)
 (pss_cons
 (ps_fld (pv 0) (pe_tupleD (by exact rfl) (by exact rfl) T.ztuple (pv 4)) rfl)
 (pss_cons
 (ps_fld (pv 0) (pe_fld (pe_dget (Nat.lt_of_le_of_lt (Nat.add_le_add_left (by decide) _) hu) (pv 4) (pe_ix ix_tup (pe_fld (pv 0) rfl) pe_int (fun _ _ => rfl)) (fun _ _ => rfl)) rfl) rfl)
 (pss_cons
 (ps_fld (pv 0) (pe_op op_catA (pv 5) (pe_callTy call_tuple_of (by exact rfl) T.ztuple (by decide +kernel) (pa_cons (pe_lock (pe_lc (own := [("letter", 6)]) (g := gName 6) (tt := tYes) (by rfl) sc_Scheme_WinitW.nd (pi_keys (pv 4)) (blkOk_by (own := [("letter", 6)]) (N := N_Scheme_WinitW) (sc := defScope s_Scheme_WinitW) (by decide +kernel)) (fun _ _ _ _ _ => pg_name (i := 6) sc_Scheme_WinitW.nd rfl (Or.inl rfl)) (fun _ _ _ _ _ => pts_nil) (fun _ _ _ _ _ => (pe_joined (.cons pe_str (.cons (pe_fmt (pv 6)) (.cons pe_str (.cons (pe_fmtM hm_rstr gd (hr.mono (by decide)) pass0 fmR (pe_dget (Nat.lt_of_le_of_lt (Nat.add_le_add_left (by decide) _) hu) (pv 4) (pv 6) (fun _ _ => rfl))) .nil)))))))) pa_nil))) rfl)
 (pss_cons
 (ps_fld (pv 0) (pe_cmpR (op_eqD hu) (pe_ix ix_list (pe_callH htrail gd (hr.mono (by decide)) pass0 (pa_cons (pv 1) (pa_cons (pe_lc (own := [("letter", 6), ("turn", 7)]) (g := (gTup K 2 (gCons (gName 6) (gCons (gName 7) gNil)))) (tt := tYes) (by rfl) sc_Scheme_WinitW.nd (pi_tup (pv 2)) (blkOk_by (own := [("letter", 6), ("turn", 7)]) (N := N_Scheme_WinitW) (sc := defScope s_Scheme_WinitW) (by decide +kernel)) (fun _ _ _ _ _ => (pg_tupK (K0 := K) (n := 2) (by exact rfl) (by rfl) (pgs_cons (pg_name (i := 6) sc_Scheme_WinitW.nd rfl (Or.inl rfl)) (pgs_cons (pg_name (i := 7) sc_Scheme_WinitW.nd rfl (Or.inl rfl)) pgs_nil)))) (fun _ _ _ _ _ => pts_nil) (fun _ _ _ _ _ => (pv 7))) pa_nil))) (pe_un un_neg pe_int) (fun _ _ => rfl)) (pe_tup (pa_cons pe_int (pa_cons pe_int pa_nil))) (nomark _)) rfl)
 (pss_cons
 (ps_fld (pv 0) (pe_cmpR op_eq (pe_callB call_lenI (by exact rfl) T.zlen PySem.boot_len (pa_cons (pe_lock (pe_scG newI adIB (own := [("letter", 6)]) (g := gName 6) (tt := tYes) sc_Scheme_WinitW.nd (pi_keys (pv 4)) (blkOk_by (own := [("letter", 6)]) (N := N_Scheme_WinitW) (sc := defScope s_Scheme_WinitW) (by decide +kernel)) (fun _ _ _ _ _ => pg_name (i := 6) sc_Scheme_WinitW.nd rfl (Or.inl rfl)) (fun _ _ _ _ _ => pts_nil) (fun _ _ _ _ _ => (pe_callB (call_len_seqK (K0 := K) (by exact rfl)) (by exact rfl) T.zlen PySem.boot_len (pa_cons (pe_fldK (K0 := K) (by exact rfl) (pe_dget (Nat.lt_of_le_of_lt (Nat.add_le_add_left (by decide) _) hu) (pv 4) (pv 6) (fun _ _ => rfl)) (by rfl)) pa_nil))))) pa_nil)) pe_int (nomark _)) rfl)
 (pss_one
 (ps_fld (pv 0) (pe_callH h_letters_met gd (hr.mono (by decide)) pass0 (pa_cons (pv 2) (pa_cons (pv 4) pa_nil))) rfl)))))))))))))), ?_⟩
    dsimp only [cxOf]
    have eg0 := hg
    obtain ⟨dg, eg⟩ := id hg
    refine ⟨_, rfl, _, _, _, _, _, rfl, .own _, i.ty c.cls eg, kit_self, _, rfl, (iteF ?_ : if (!true) = true then _ else _)⟩
    refine ⟨_, rfl, _, rfl, _, rfl, g, t, ax, d, x, o, rfl, hg, ha, mild, rv, fun no H1 s1 => ⟨_, rfl, rfl, _, rfl, ?_⟩, fun r rs e1 e2 ok q kvs ss H1 s1 nq eq pss srt own => ⟨_, rfl, rfl, _, rfl, ?_⟩⟩
    · exact (iteT (k0 no H1 s1) : if decide (V.non = V.non) = true then _ else _)
    rw [decide_eq_false (show ¬ V.ref q = V.non by intro z; cases z)]
    refine iteF ?_
    subst e1 e2
    have hp1 := s1 _ _ hp
    have hg1 := hg.same s1
    have ha1 := dp_same s1 ha
    obtain ⟨dg1, eg1⟩ := id hg1
    have lax := ok.ax.most
    refine ⟨_, rfl, ?_, _, rfl, g, dg1, _, rfl, eg1, g, t, rfl, hg1, _, rfl, _, rfl, ?_, ?_⟩
    · show _ ≤ 16777216
      decide +kernel
    · show _ ≤ 16777216
      cases t <;> decide +kernel
    refine ⟨_, rfl, ?_, _, rfl, ax, r, t, rfl, ha1, ok.ax, fun H2 s2 => .inl ⟨_, rfl, ?_, _, rfl, ?_, ?_⟩⟩
    · show _ ≤ 16777216
      decide +kernel
    · exact rowT_len ok.ax.all ok.ax.most
    · exact heads_len ok.ax.all ok.ax.most
    refine ⟨by show 2 ≤ sizeLine; decide, fun T0 nT0 => ?_⟩
    have s13 := s2.trans (Same.new (o := .tup [.str (Str.empty ++ Str.ofString "grid " ++ nm t), .str (Str.empty ++ Str.ofString "axiom " ++ rowT r)]) nT0)
    have eT0 : upd H2 T0 (.tup [.str (Str.empty ++ Str.ofString "grid " ++ nm t), .str (Str.empty ++ Str.ofString "axiom " ++ rowT r)]) T0 = some (.tup [.str (Str.empty ++ Str.ofString "grid " ++ nm t), .str (Str.empty ++ Str.ofString "axiom " ++ rowT r)]) := upd_same
    generalize upd H2 T0 (.tup [.str (Str.empty ++ Str.ofString "grid " ++ nm t), .str (Str.empty ++ Str.ofString "axiom " ++ rowT r)]) = H3 at *
    have ep := s13 _ _ hp1
    have mD : wo p H3 q = some (.dK kvs) := wo_at (s13 _ _ eq) (fun z => by rw [z, hp] at nq; cases nq)
    have mG := grid_wo ep (hg1.same s13)
    have mA := dp_wo ep (dp_same s13 ha1)
    have mO := own_wo ep (own.dk (.of s13))
    have mT : wo p H3 T0 = some (.tup [.str (Str.empty ++ Str.ofString "grid " ++ nm t), .str (Str.empty ++ Str.ofString "axiom " ++ rowT r)]) := wo_at eT0 (fun z => by rw [z, ep] at eT0; cases eT0)
    have s03 : Same H H3 := s1.trans s13
    have kp : ∀ b o, b ≠ p → H b = some o → wo p H3 b = some o := fun b o n e => wo_at (s03 _ _ e) n
    have sM : Same (wo p H3) H3 := wo_same
    have mp : wo p H3 p = none := wo_D
    generalize wo p H3 = M at *
    clear eT0 s03
    refine ⟨_, rfl, _, rfl, _, _, _, _, rfl, ep, sc.cls, sc.rules, by show 0 < 1000; decide, ?_⟩
    have e1 : upd H3 p (.ins CS dx (putF "_rules" (.ref q) [])) p = some (.ins CS dx (putF "_rules" (.ref q) [])) := upd_same
    have sM1 : Same M (upd H3 p (.ins CS dx (putF "_rules" (.ref q) []))) := Same.over sM mp _
    generalize upd H3 p (.ins CS dx (putF "_rules" (.ref q) [])) = H4 at *
    generalize eF1 : putF "_rules" (V.ref q) [] = F1 at *
    refine ⟨_, rfl, _, rfl, _, _, _, _, rfl, e1, sc.cls, sc.grid, by rw [← eF1]; show 1 < 1000; decide, ?_⟩
    have e2 : upd H4 p (.ins CS dx (putF "grid" (.ref g) F1)) p = some (.ins CS dx (putF "grid" (.ref g) F1)) := upd_same
    have sM2 : Same M (upd H4 p (.ins CS dx (putF "grid" (.ref g) F1))) := Same.over sM1 mp _
    generalize upd H4 p (.ins CS dx (putF "grid" (.ref g) F1)) = H5 at *
    generalize eF2 : putF "grid" (V.ref g) F1 = F2 at *
    refine ⟨_, rfl, _, rfl, _, _, _, _, rfl, e2, sc.cls, sc.axiom_, by rw [← eF2, ← eF1]; show 2 < 1000; decide, ?_⟩
    have e3 : upd H5 p (.ins CS dx (putF "axiom" ax F2)) p = some (.ins CS dx (putF "axiom" ax F2)) := upd_same
    have sM3 : Same M (upd H5 p (.ins CS dx (putF "axiom" ax F2))) := Same.over sM2 mp _
    generalize upd H5 p (.ins CS dx (putF "axiom" ax F2)) = H6 at *
    generalize eF3 : putF "axiom" ax F2 = F3 at *
    refine ⟨_, rfl, q, kvs, rfl, sM3 _ _ mD, fun l nl => ?_⟩
    have nds : (ss.map (·.1)).Nodup := (pss.map (·.1)).nodup_iff.mpr ok.nd
    have ndk : (kvs.map (·.1)).Nodup := by rw [own_keys own]; exact rkeys_nd nds
    have lkv := own_len own
    have lss := pss.length_eq
    have okl := ok.lo
    have okh := ok.hi
    have s7 := Same.new (o := .tup (kvs.map fun kv => kV kv.1)) nl
    have el : upd H6 l (.tup (kvs.map fun kv => kV kv.1)) l = some (.tup (kvs.map fun kv => kV kv.1)) := upd_same
    have e4 := s7 _ _ e3
    have sM4 := sM3.trans s7
    generalize upd H6 l (.tup (kvs.map fun kv => kV kv.1)) = H7 at *
    have gr := wo_of mp sM4
    have ml : wo p H7 l = some (.tup (kvs.map fun kv => kV kv.1)) := wo_at el (fun z => by rw [z, e4] at el; cases el)
    replace mD := gr _ _ mD
    replace mG := mG.same gr
    replace mA := dp_same gr mA
    replace mO := mO.dk (.of gr)
    replace mT := gr _ _ mT
    replace kp := fun b o n e => gr _ _ (kp b o n e)
    have sM5 : Same (wo p H7) H7 := wo_same
    replace mp : wo p H7 p = none := wo_D
    clear gr sM sM1 sM2 sM3 sM4
    generalize wo p H7 = M7 at *
    refine ⟨_, rfl, _, _, _, _, rfl, e4, sc.cls, sc.letters, by rw [← eF3, ← eF2, ← eF1]; show 3 < 1000; decide, ?_⟩
    have e5 : upd H7 p (.ins CS dx (putF "letters" (.ref l) F3)) p = some (.ins CS dx (putF "letters" (.ref l) F3)) := upd_same
    have sM6 : Same M7 (upd H7 p (.ins CS dx (putF "letters" (.ref l) F3))) := Same.over sM5 mp _
    generalize upd H7 p (.ins CS dx (putF "letters" (.ref l) F3)) = H8 at *
    generalize eF4 : putF "letters" (V.ref l) F3 = F4 at *
    obtain ⟨⟨k0', v0⟩, ek0⟩ : ∃ kv, kvs[0]? = some kv := ⟨kvs[0]'(by omega), List.getElem?_eq_getElem _⟩
    obtain ⟨yr0, a0, ey0, rfl, rfl, rule0⟩ := own_at mO ek0
    have get0 : DGet H8 q (.str yr0.1) (valV kvs (.inr yr0.1)) := DGet.k (k := (.inr yr0.1 : Key)) (sM6 _ _ mD)
    rw [valV_at ndk ek0] at get0
    obtain ⟨da, g2, x2, l2, st2, en2, ys2, a1, a2, a3, a4, a5, a6, a7, a8⟩ := rule0
    refine ⟨_, rfl, _, rfl, _, _, _, _, _, rfl, e5, sc.cls, sc.letters, by rw [← eF4, ← eF3, ← eF2, ← eF1]; rfl, l, _, _, _, rfl, rfl, SqT.of (sM6 _ _ ml), atI_nat (j := 0) (by rw [List.getElem?_map, ek0]; rfl), q, _, rfl, get0, _, _, _, _, _, rfl, sM6 _ _ a1, rc.cls, rc.end_, rfl, _, rfl, _, _, _, _, rfl, e5, sc.cls, sc.growth, by rw [← eF4, ← eF3, ← eF2, ← eF1]; show 4 < 1000; decide, ?_⟩
    have e6 : upd H8 p (.ins CS dx (putF "growth" en2 F4)) p = some (.ins CS dx (putF "growth" en2 F4)) := upd_same
    have sM7 : Same M7 (upd H8 p (.ins CS dx (putF "growth" en2 F4))) := Same.over sM6 mp _
    generalize upd H8 p (.ins CS dx (putF "growth" en2 F4)) = H9 at *
    generalize eF5 : putF "growth" en2 F4 = F5 at *
    have qp : q ≠ p := fun z => by rw [z, mp] at mD; cases mD
    have hD9 := sM7 _ _ mD
    refine ⟨_, rfl, q, _, hD9, trivial, fun od => ?_⟩
    have fB : upd H9 q (.frz od (.dK kvs)) q = some (.frz od (.dK kvs)) := upd_same
    have dkB : DK M7 (upd H9 q (.frz od (.dK kvs))) := (DK.of sM7).trans (.put hD9 rfl)
    refine ⟨_, rfl, q, od, rfl, .inl ⟨kvs, fB, fun DL nDL => lcK_vals (te := fun σ H Q => tJs [tC (V.str (Str.ofString "rule ")), tFmt (tVar 6), tC (V.str (Str.ofString " ")), tFmtM CR (spRStr K C U CR) E0 (tDGet (tVar 4) (tVar 6))] Str.empty σ H fun out H1 => Q (V.str out) H1) (ss.map fun yr => V.str (ruleT yr)) (by rw [List.length_map, lkv]) fB nDL (by omega) (fun n k v y H' e ey s Q' q' => ?_) (fun H' s e => ?_)⟩⟩
    · obtain ⟨yr, b, eyr, rfl, rfl, rule⟩ := own_at (mO.dk (dkB.trans (.of s))) e
      have yy : y = V.str (ruleT yr) := by
        rw [List.getElem?_map, eyr] at ey
        exact (Option.some.inj ey).symm
      subst yy
      have myr := pss.mem_iff.mp (List.mem_of_getElem? eyr)
      have l1 := let_len (ok.lets yr myr)
      have rok := ok.rows yr myr
      have lr := rowT_most rok.all rok.most
      have get : DGet H' q (.str yr.1) (valV kvs (.inr yr.1)) := .inl ⟨kvs, .inr yr.1, .inr ⟨od, s _ _ fB⟩, rfl, rfl⟩
      rw [valV_at ndk e] at get
      obtain ⟨db, _, _, _, _, _, _, b1, _⟩ := id rule
      have k1 : (Str.empty ++ Str.ofString "rule ").length = 5 := by decide +kernel
      have k2 : (Str.ofString " ").length = 1 := by decide +kernel
      refine ⟨rfl, ?_⟩
      refine ⟨_, rfl, by rw [k1, sizeLine_eq]; omega, _, rfl, .inl ⟨_, rfl, by rw [l1, sizeLine_eq]; omega, _, rfl, by rw [strLen_append, k1, l1, sizeLine_eq]; omega, _, rfl, by rw [strLen_append, strLen_append, k1, l1, k2, sizeLine_eq]; omega, ?_⟩⟩
      refine ⟨_, rfl, _, rfl, q, _, rfl, get, b, db, _, rfl, b1, b, t, yr.2, rfl, rule, fun H2 s2 => ⟨_, rfl, _, rfl, ?_, q' H2 s2⟩⟩
      rw [strLen_append, strLen_append, strLen_append, k1, l1, k2, sizeLine_eq]
      omega
    have nLq : DL ≠ q := fun z => by rw [z, fB] at nDL; cases nDL
    have s10 : Same H9 (upd H' q (.dK kvs)) := lock_out hD9 s
    have eDL : upd H' q (.dK kvs) DL = some (.lst ((ss.map ruleT).map V.str)) := by rw [upd_ne nLq, e, List.map_map]; rfl
    have frzq := s _ _ fB
    have sM10 := sM7.trans s10
    have e10 := s10 _ _ e6
    refine ⟨frzq, DL, _, rfl, .inl ⟨SqL.of eDL, fun lt nlt => ?_⟩⟩
    generalize upd H' q (.dK kvs) = H10 at *
    refine cat_go (ds := [.str (Str.empty ++ Str.ofString "grid " ++ nm t), .str (Str.empty ++ Str.ofString "axiom " ++ rowT r)]) (es := (ss.map ruleT).map PyData.str) (.tup (SqT.of (Same.new nlt _ _ (sM10 _ _ mT))) (.cons (.str _) (.cons (.str _) .nil))) (.tup (SqT.of upd_same) dStrs) (by rw [List.length_map, List.length_map, sizeLine_eq]; show 2 + _ ≤ _; omega) fun z H11 s11 dz => ?_
    have sA := (Same.new (o := .tup ((ss.map ruleT).map V.str)) nlt).trans s11
    have e11 := sA _ _ e10
    have sM11 := sM10.trans sA
    have gr := wo_of mp sM11
    have mZ := dp_wo e11 dz
    replace mD := gr _ _ mD
    replace mG := mG.same gr
    replace mA := dp_same gr mA
    replace mO := mO.dk (.of gr)
    replace ml := gr _ _ ml
    replace kp := fun b o n e => gr _ _ (kp b o n e)
    replace a8 := dp_same gr a8
    have sM12 : Same (wo p H11) H11 := wo_same
    replace mp : wo p H11 p = none := wo_D
    clear gr sM5 sM6 sM7 sM10 sM11 frzq fB dkB hD9 s e eDL a1 a2 a3 a4 a5 a6 a7
    generalize wo p H11 = M11 at *
    refine ⟨_, rfl, _, _, _, _, rfl, e11, sc.cls, sc.lines, by rw [← eF5, ← eF4, ← eF3, ← eF2, ← eF1]; show 5 < 1000; decide, ?_⟩
    have e12 : upd H11 p (.ins CS dx (putF "lines" z F5)) p = some (.ins CS dx (putF "lines" z F5)) := upd_same
    have sM13 : Same M11 (upd H11 p (.ins CS dx (putF "lines" z F5))) := Same.over sM12 mp _
    generalize upd H11 p (.ins CS dx (putF "lines" z F5)) = H12 at *
    generalize eF6 : putF "lines" z F5 = F6 at *
    obtain ⟨aA, xsA, rfl, hsA, lA⟩ := dTup mA
    have few : r.length ≤ 1000 := Nat.le_trans lax (by decide)
    refine ⟨_, rfl, _, rfl, aA, rfl, ⟨_, sqT_same hsA sM13⟩, fun D1 nD1 => lc_row (fun it => .int it.2) (sqT_same hsA sM13) (dps_same sM13 lA) few nD1 (fun _ _ => rfl) (fun n it H' _ _ _ Q q => ⟨_, rfl, q _ _ same_rfl (.int _)⟩) (fun H13 s13 dp => ?_)⟩
    obtain ⟨_, ysA, e0, hys, lys⟩ := dLst dp
    cases e0
    have eyA : ysA = (r.map (·.2)).map V.int := dInts' (by rw [List.map_map]; exact lys)
    subst eyA
    refine ⟨g, t, D1, r.map (fun it : Str × Int => it.2), rfl, mG.same (sM13.trans s13), hys, ?_, by rw [List.length_map]; exact few, fun LT H14 s14 dL => ?_⟩
    · intro n hn
      obtain ⟨it, hit, rfl⟩ := List.mem_map.mp hn
      exact ⟨(ok.ax.all it hit).a, (ok.ax.all it hit).b⟩
    obtain ⟨_, zs, e2', hz, lz⟩ := dLst dL
    cases e2'
    have lzs : zs.length = r.length + 1 := by rw [dLen lz, List.length_map, path_len, List.length_map]
    obtain ⟨v, hv1, hv2⟩ := path_last t (r.map (fun it : Str × Int => it.2)) (0, 0)
    rw [List.length_map] at hv2
    obtain ⟨y, hy, dy⟩ := dAt' lz (i := r.length) (d := ptD v) (by rw [List.getElem?_map, hv2]; rfl)
    refine ⟨_, rfl, LT, _, _, _, rfl, rfl, hz, atI_m1 lzs hy, ?_⟩
    have e14 := s14 _ _ (s13 _ _ e12)
    have sM14 := (sM13.trans s13).trans s14
    refine ⟨by show 2 ≤ sizeLine; decide, fun T1 nT1 => ⟨ptD v, ptD (0, 0), dp_same (Same.new nT1) dy, .tup (SqT.of upd_same) (.cons (.int _) (.cons (.int _) .nil)), rfl, rfl, ?_⟩⟩
    have sM15 := sM14.trans (Same.new (o := .tup [.int 0, .int 0]) nT1)
    have e15 := Same.new (o := .tup [.int 0, .int 0]) nT1 _ _ e14
    generalize upd H14 T1 (.tup [.int 0, .int 0]) = H15 at *
    refine ⟨_, rfl, _, _, _, _, rfl, e15, sc.cls, sc.closed, by rw [← eF6, ← eF5, ← eF4, ← eF3, ← eF2, ← eF1]; show 6 < 1000; decide, ?_⟩
    have e16 : upd H15 p (.ins CS dx (putF "is_closed" (.bl (PyData.eqv (ptD v) (ptD (0, 0)))) F6)) p = some (.ins CS dx (putF "is_closed" (.bl (PyData.eqv (ptD v) (ptD (0, 0)))) F6)) := upd_same
    have sM16 : Same M11 (upd H15 p (.ins CS dx (putF "is_closed" (.bl (PyData.eqv (ptD v) (ptD (0, 0)))) F6))) := Same.over sM15 mp _
    generalize upd H15 p (.ins CS dx (putF "is_closed" (.bl (PyData.eqv (ptD v) (ptD (0, 0)))) F6)) = H16 at *
    generalize eF7 : putF "is_closed" (V.bl (PyData.eqv (ptD v) (ptD (0, 0)))) F6 = F7 at *
    have hD16 := sM16 _ _ mD
    refine ⟨q, _, hD16, trivial, fun od => ?_⟩
    have fB : upd H16 q (.frz od (.dK kvs)) q = some (.frz od (.dK kvs)) := upd_same
    have dkB : DK M11 (upd H16 q (.frz od (.dK kvs))) := (DK.of sM16).trans (.put hD16 rfl)
    refine ⟨_, rfl, q, od, rfl, .inl ⟨kvs, fB, fun E nE => loop_keys (p := q) (od := od) (kvs := kvs) (fun i H' => ∃ S n, Same (upd H16 q (.frz od (.dK kvs))) H' ∧ H' E = some (SetO w E S n) ∧ n ≤ i) ⟨_, 0, Same.new nE, upd_same, Nat.le_refl _⟩ (fun i H' _ h => let ⟨_, _, h, _⟩ := h; h _ _ fB) ?_ ?_⟩⟩
    · rintro i k' v' H' e ⟨S, n, s', eE, ln⟩
      obtain ⟨yr, b, eyr, rfl, rfl, rule⟩ := own_at (mO.dk (dkB.trans (.of s'))) e
      have get : DGet H' q (.str yr.1) (valV kvs (.inr yr.1)) := .inl ⟨kvs, .inr yr.1, .inr ⟨od, s' _ _ fB⟩, rfl, rfl⟩
      rw [valV_at ndk e] at get
      obtain ⟨db, g3, x3, l3, st3, en3, ys3, b1, b2, b3, b4, b5, b6, b7, b8⟩ := rule
      obtain ⟨ab, xsb, rfl, hsb, lb⟩ := dTup b4
      have few' := (List.getElem?_eq_some_iff.mp e).1
      refine ⟨rfl, ?_⟩
      simp only [tYes, if_true]
      refine ⟨_, rfl, _, rfl, q, _, rfl, get, _, _, _, _, _, rfl, b1, rc.cls, rc.row, rfl, ab, _, rfl, .inr hsb, _, S, n, rfl, eE, by unfold scanBound; omega, _, _, Same.over s' nE _, upd_same, ?_⟩
      split <;> omega
    rintro H' ⟨S, n, s', eE, ln⟩
    have nEq : E ≠ q := fun z => by rw [z, fB] at nE; cases nE
    have s17 : Same H16 (upd H' q (.dK kvs)) := lock_out hD16 s'
    refine ⟨s' _ _ fB, E, S, n, rfl, (upd_ne nEq).trans eE, by omega, ?_⟩
    have sM17 := sM16.trans s17
    have e17 := s17 _ _ e16
    generalize upd H' q (.dK kvs) = H17 at *
    refine ⟨rfl, _, rfl, _, _, _, _, rfl, e17, sc.cls, sc.even, by rw [← eF7, ← eF6, ← eF5, ← eF4, ← eF3, ← eF2, ← eF1]; show 7 < 1000; decide, ?_⟩
    have e18 : upd H17 p (.ins CS dx (putF "is_even" (.bl (decide (V.int (n : Nat) = V.int 1))) F7)) p = some (.ins CS dx (putF "is_even" (.bl (decide (V.int (n : Nat) = V.int 1))) F7)) := upd_same
    have sM18 : Same M11 (upd H17 p (.ins CS dx (putF "is_even" (.bl (decide (V.int (n : Nat) = V.int 1))) F7))) := Same.over sM17 mp _
    generalize upd H17 p (.ins CS dx (putF "is_even" (.bl (decide (V.int (n : Nat) = V.int 1))) F7)) = H18 at *
    generalize eF8 : putF "is_even" (V.bl (decide (V.int (n : Nat) = V.int 1))) F7 = F8 at *
    have cB := complB_perm pss ok.compl
    refine ⟨_, rfl, _, rfl, .ref aA, q, t, r, kvs, ss, rfl, .tup (sqT_same hsA sM18) (dps_same sM18 lA), lax, sM18 _ _ mD, mO.dk (.of sM18), nds, by omega, cB, fun u us H19 s19 du met => ?_⟩
    have e19 := s19 _ _ e18
    have sM19 := sM18.trans s19
    refine ⟨_, rfl, _, _, _, _, rfl, e19, sc.cls, sc.used, by rw [← eF8, ← eF7, ← eF6, ← eF5, ← eF4, ← eF3, ← eF2, ← eF1]; show 8 < 1000; decide, ?_⟩
    have sM20 : Same M11 (upd H19 p (.ins CS dx (putF "used" u F8))) := Same.over sM19 mp _
    refine k1 r rs rfl rfl ok ss _ (fun b o n e => sM20 _ _ (kp b o n e)) pss srt ?_
    have ev : sumOf t r = v := by unfold sumOf; rw [show (List.map (fun x : Str × Int => x.2) r) = r.map (fun it : Str × Int => it.2) from rfl, hv1]; rfl
    have lets : kvs.map (fun kv => kV kv.1) = (ss.map (·.1)).map V.str := by
      have z := congrArg (List.map kV) (own_keys mO)
      rw [List.map_map, List.map_map] at z
      rw [List.map_map]
      exact z
    rw [lets] at ml
    have und : Same (wo p H19) (upd H19 p (.ins CS dx (putF "used" u F8))) := wo_under
    refine ⟨dx, g, q, kvs, .ref aA, .ref l, en2, z, _, decide (V.int (n : Nat) = V.int 1), u, us, ?_, sM20 _ _ mD, mG.same sM20, .tup (sqT_same hsA sM20) (dps_same sM20 lA), mO.dk (.of sM20), .tup (SqT.of (sM20 _ _ ml)) dStrs, fun yr m => ?_, dp_same sM20 mZ, by rw [ev], dp_same und (dp_wo e19 du), met⟩
    · rw [upd_same, ← eF8, ← eF7, ← eF6, ← eF5, ← eF4, ← eF3, ← eF2, ← eF1]
      rfl
    · have z := ok.same _ (pss.mem_iff.mp m) _ (pss.mem_iff.mp (List.mem_of_getElem? ey0))
      rw [z]
      exact dp_same sM20 a8
end
end K13
namespace K13
open PySem PySem.Spec PyProof.Rows L2 GL SkE
noncomputable abbrev s__law_dice : Stmt := topS 52
noncomputable abbrev N__law_dice : List Str := ["_law_script", "_law_spot", "_law_cell", "_law_left"]
theorem sc__law_dice : FnScope N__law_dice ["_law_script", "_law_spot"] (defScope s__law_dice) := ⟨rfl, rfl, rfl, by decide +kernel, rfl, by decide +kernel, by decide +kernel⟩
noncomputable abbrev s__law_roll : Stmt := topS 53
noncomputable abbrev N__law_roll : List Str := ["_law_dice_here", "_law_total", "_law_found", "_law_one", "_law_two"]
theorem sc__law_roll : FnScope N__law_roll ["_law_dice_here", "_law_total"] (defScope s__law_roll) := ⟨rfl, rfl, rfl, by decide +kernel, rfl, by decide +kernel, by decide +kernel⟩
noncomputable abbrev s__law_pick : Stmt := topS 54
noncomputable abbrev N__law_pick : List Str := ["_law_dice_here", "_law_items"]
theorem sc__law_pick : FnScope N__law_pick ["_law_dice_here", "_law_items"] (defScope s__law_pick) := ⟨rfl, rfl, rfl, by decide +kernel, rfl, by decide +kernel, by decide +kernel⟩
noncomputable abbrev s__law_mixed : Stmt := topS 55
noncomputable abbrev N__law_mixed : List Str := ["_law_dice_here", "_law_items", "_law_left", "_law_found", "_law_turn"]
theorem sc__law_mixed : FnScope N__law_mixed ["_law_dice_here", "_law_items"] (defScope s__law_mixed) := ⟨rfl, rfl, rfl, by decide +kernel, rfl, by decide +kernel, by decide +kernel⟩
noncomputable abbrev s__law_around : Stmt := topS 56
noncomputable abbrev N__law_around : List Str := ["_law_plain_here"]
theorem sc__law_around : FnScope N__law_around ["_law_plain_here"] (defScope s__law_around) := ⟨rfl, rfl, rfl, by decide +kernel, rfl, by decide +kernel, by decide +kernel⟩
noncomputable abbrev s__law_unit : Stmt := topS 57
noncomputable abbrev N__law_unit : List Str := ["_law_plain_here", "_law_direction"]
theorem sc__law_unit : FnScope N__law_unit ["_law_plain_here", "_law_direction"] (defScope s__law_unit) := ⟨rfl, rfl, rfl, by decide +kernel, rfl, by decide +kernel, by decide +kernel⟩
noncomputable abbrev s__law_plus : Stmt := topS 58
noncomputable abbrev N__law_plus : List Str := ["_law_one", "_law_other"]
theorem sc__law_plus : FnScope N__law_plus ["_law_one", "_law_other"] (defScope s__law_plus) := ⟨rfl, rfl, rfl, by decide +kernel, rfl, by decide +kernel, by decide +kernel⟩
noncomputable abbrev s__law_norm : Stmt := topS 59
noncomputable abbrev N__law_norm : List Str := ["_law_plain_here", "_law_point", "_law_more"]
theorem sc__law_norm : FnScope N__law_norm ["_law_plain_here", "_law_point"] (defScope s__law_norm) := ⟨rfl, rfl, rfl, by decide +kernel, rfl, by decide +kernel, by decide +kernel⟩
/-- a dict that names its grid -/
structure GrAt (H : Hp) (q : Addr) (t : Bool) : Prop where
  get : DGet H q (.str "grid") (some (.str (nm t)))
noncomputable def spAroundS : Sp := fun vs H Q _ => ∃ q t, vs = [.ref q] ∧ GrAt H q t ∧ Q (.int (num t : Nat)) H
noncomputable def spUnitS (K : PySem.W.Frag) : Sp := fun vs H Q _ => ∃ q t n, vs = [.ref q, .int n] ∧ GrAt H q t ∧ ∀ a H', Same H H' → PAt K H' a (uni t n) → Q (.ref a) H'
noncomputable def spNormS (K : PySem.W.Frag) : Sp := fun vs H Q _ => ∃ q t a u, vs = [.ref q, .ref a] ∧ GrAt H q t ∧ PAt K H a u ∧ Sm u ∧ Q (.int (nrm t u)) H
theorem nm_sq {t : Bool} : decide (V.str (nm t) = V.str "square") = !t := by cases t <;> decide +kernel
theorem nm_tr {t : Bool} : decide (V.str (nm t) = V.str "triangle") = t := by cases t <;> decide +kernel
section
variable {P : Program} {w : World} {K : PySem.W.Frag} {mg : Str → Option Value} {base : Heap}
variable {aG dU C CR : Addr} {U : Bool → Addr} {us : Bool → List Addr}
theorem h_law_roll (T : Txt K mg aG dU C CR) (D : Df K mg "_law_roll" s__law_roll) : Has P w K mg base CX0 "_law_roll" 1 ["_law_dice_here", "_law_total"] spRoll := by
  refine D.has sc__law_roll (fun vs H Q E h => ?_) (fun kV doc pm an cdv ct us hl => match us, hl with | [_, _], _ => rfl) (fun f cdv A outer s H vs Q E gd hr h => ?_)
  · obtain ⟨p, t, rfl, _⟩ := h
    rfl
  · obtain ⟨p, t, rfl, ⟨l, b, c, l0, hp⟩, t0, tl, q⟩ := h
    refine ⟨_, (pss_cons
 (ps_if (pt_cmpR op_gt (pe_ix ix_list (pv 0) pe_int (fun _ _ => rfl)) pe_int (nomark _)) (pss_cons
 (ps_set (i := 2) sc__law_roll.nd rfl (Or.inl rfl) (pe_op op_mod (pe_callTy call_int1 (by exact rfl) T.zint (by decide +kernel) (pa_cons (pe_ix ix_list (pv 0) pe_int (fun _ _ => rfl)) pa_nil)) (pv 1)))
 (pss_cons
 (ps_asg (pe_op op_fdivW (pe_ix ix_list (pv 0) pe_int (fun _ _ => rfl)) (pv 1)) (pg_sub (pv 0) pe_int set_list))
 (pss_one
 (ps_ret (pv 2))))) pss_nil)
 (pss_cons
 (ps_asg (pe_op op_add (pe_ix ix_list (pv 0) pe_int (fun _ _ => rfl)) pe_int) (pg_sub (pv 0) pe_int set_list))
 (pss_cons
 (ps_set (i := 3) sc__law_roll.nd rfl (Or.inl rfl) (pe_op op_mod (pe_callTy call_int1 (by exact rfl) T.zint (by decide +kernel) (pa_cons (pe_op op_add (pe_ix ix_list (pv 0) pe_int (fun _ _ => rfl)) (pe_op op_mul pe_int (pe_ix ix_list (pv 0) pe_int (fun _ _ => rfl)))) pa_nil)) pe_int))
 (pss_cons
 (ps_set (i := 4) sc__law_roll.nd rfl (Or.inl rfl) (pe_op op_add (pe_op op_mul (pe_op op_mod (pe_callTy call_int1 (by exact rfl) T.zint (by decide +kernel) (pa_cons (pe_op op_add (pe_op op_mul (pv 3) (pv 3)) (pe_op op_mul pe_int (pe_ix ix_list (pv 0) pe_int (fun _ _ => rfl)))) pa_nil)) pe_int) pe_int) (pv 3)))
 (pss_one
 (ps_ret (pe_op op_mod (pe_callTy call_int1 (by exact rfl) T.zint (by decide +kernel) (pa_cons (pe_op op_fdiv (pv 4) pe_int) pa_nil)) (pv 1)))))))), ?_⟩
    have hS : ∀ {H : Hp} {xs}, H p = some (.lst xs) → SqL K H p xs := fun h => SqL.of h
    refine ⟨_, rfl, _, _, _, _, rfl, rfl, hS hp, atI_nat (j := 0) rfl, _, _, rfl, rfl, _, rfl, ?_⟩
    refine ite2 (fun c1 => ?_) (fun c1 => ?_)
    · refine ⟨_, rfl, _, _, _, _, rfl, rfl, hS hp, atI_nat (j := 0) rfl, .inl ⟨_, rfl, _, rfl, _, _, rfl, rfl, t0, ?_⟩⟩
      refine ⟨_, rfl, _, _, _, _, rfl, rfl, hS hp, atI_nat (j := 0) rfl, _, rfl, _, _, rfl, rfl, wide_div t0 tl (by decide) (by decide), _, rfl, _, _, _, _, rfl, rfl, hp, rfl, _, rfl, ?_⟩
      exact q _ _ (Int.emod_nonneg _ (Int.ne_of_gt t0)) (Int.emod_lt_of_pos _ t0) (Got.roll (Int.ediv_nonneg l0 (Int.le_of_lt t0)))
    · refine ⟨_, rfl, _, _, _, _, rfl, rfl, hS hp, atI_nat (j := 2) rfl, _, _, rfl, rfl, _, rfl, _, _, _, _, rfl, rfl, hp, rfl, ?_⟩
      have hp2 : (upd H p (.lst [.int l, .int b, .int (c + 1)])) p = some (.lst [.int l, .int b, .int (c + 1)]) := upd_same
      refine ⟨_, rfl, _, _, _, _, rfl, rfl, hS hp2, atI_nat (j := 1) rfl, _, rfl, _, _, _, _, rfl, rfl, hS hp2, atI_nat (j := 2) rfl, _, _, rfl, rfl, .inl ⟨by decide, by decide⟩, _, _, rfl, rfl, .inl ⟨_, rfl, _, _, rfl, rfl, by show (0 : Int) < _; decide, ?_⟩⟩
      generalize hx : (b + 15485863 * (c + 1)) % 2305843009213693693 = x1
      have x0 : 0 ≤ x1 ∧ x1 < 2305843009213693693 := by rw [← hx]; exact ⟨Int.emod_nonneg _ (by decide), Int.emod_lt_of_pos _ (by decide)⟩
      refine ⟨_, rfl, _, rfl, _, _, rfl, rfl, .inl ⟨by omega, by omega⟩, _, rfl, _, _, _, _, rfl, rfl, hS hp2, atI_nat (j := 2) rfl, _, _, rfl, rfl, .inl ⟨by decide, by decide⟩, _, _, rfl, rfl, .inl ⟨_, rfl, _, _, rfl, rfl, by show (0 : Int) < _; decide, _, _, rfl, rfl, .inr ⟨by decide, by decide⟩, _, rfl, _, _, rfl, rfl, ?_⟩⟩
      refine ⟨_, rfl, _, _, rfl, rfl, ⟨by decide, by decide⟩, .inl ⟨_, rfl, _, rfl, _, _, rfl, rfl, t0, ?_⟩⟩
      exact q _ _ (Int.emod_nonneg _ (Int.ne_of_gt t0)) (Int.emod_lt_of_pos _ t0) (Got.roll l0)

theorem h_law_dice (T : Txt K mg aG dU C CR) (D : Df K mg "_law_dice" s__law_dice) : Has P w K mg base CX0 "_law_dice" 1 ["_law_script", "_law_spot"] (spDice K) := by
  refine D.has sc__law_dice (fun vs H Q E h => ?_) (fun kV doc pm an cdv ct us hl => match us, hl with | [_, _], _ => rfl) (fun f cdv A outer s H vs Q E gd hr h => ?_)
  · obtain ⟨a, ns, spot, rfl, _⟩ := h
    rfl
  · obtain ⟨a, ns, spot, rfl, hS, s0, q⟩ := h
    refine ⟨_, (Evl.pss_cut
 (ps_set (i := 2) sc__law_dice.nd rfl (Or.inl rfl) (pe_ifExp (pt_cmpR op_lt (pv 1) (pe_callB call_len_seq (by exact rfl) T.zlen PySem.boot_len (pa_cons (pv 0) pa_nil)) (nomark _)) (pe_callTy call_int1 (by exact rfl) T.zint (by decide +kernel) (pa_cons (pe_ix ix_list (pv 0) (pv 1) (fun _ _ => rfl)) pa_nil)) (pe_op op_add (pe_op op_mul pe_int (pv 1)) pe_int)))
 (pss_cons
 (ps_set (i := 3) sc__law_dice.nd rfl (Or.inl rfl) (pe_op op_mod (pe_callB (call_max2 rfl) (by exact rfl) T.zmax (by decide +kernel) (pa_cons pe_int (pa_cons (pe_op op_sub (pe_callB call_abs (by exact rfl) T.zabs (by decide +kernel) (pa_cons (pv 2) pa_nil)) (pe_op op_pow pe_int pe_int)) pa_nil))) (pe_op op_mulW (pe_op op_pow pe_int pe_int) (pe_op op_pow pe_int pe_int))))
 (pss_one
 (ps_ret (pe_lst (pa_cons (pv 3) (pa_cons (pe_op op_add (pe_op op_add (pe_op op_add (pe_op op_mul (pe_op op_mod (pe_callB call_abs (by exact rfl) T.zabs (by decide +kernel) (pa_cons (pv 2) pa_nil)) pe_int) pe_int) (pe_op op_mul pe_int (pv 1))) (pe_op op_mul pe_int (pe_callTy call_int1 (by exact rfl) T.zint (by decide +kernel) (pa_cons (pe_cmpR op_lt (pv 2) pe_int (nomark _)) pa_nil)))) pe_int) (pa_cons pe_int pa_nil)))))))), ?_⟩
    refine ⟨fun σ' H' => ∃ cell : Int, σ' = [some (.ref a), some (.int spot), some (.int cell), none] ∧ H' = H, ?_, ?_⟩
    · refine ⟨_, rfl, _, rfl, _, _, rfl, .inl hS, _, _, rfl, rfl, _, rfl, ?_⟩
      refine ite2 (fun c1 => ?_) (fun c1 => ?_)
      · have c1' : spot < ((ns.map V.int).length : Int) := of_decide_eq_true c1
        rw [List.length_map] at c1'
        obtain ⟨n, hn⟩ := at_ints s0 c1'
        exact ⟨_, rfl, _, rfl, _, _, _, _, rfl, rfl, hS, hn, .inl ⟨_, rfl, _, rfl, rfl⟩⟩
      · exact ⟨_, rfl, _, _, rfl, rfl, .inl ⟨by decide, by decide⟩, _, _, rfl, rfl, _, rfl, rfl⟩
    rintro _ _ ⟨cell, rfl, rfl⟩
    refine ⟨_, rfl, _, rfl, _, _, rfl, rfl, ⟨by decide, by decide, by decide⟩, _, _, rfl, rfl, _, _, rfl, _, _, rfl, rfl, ⟨by decide, by decide, by decide⟩, _, _, rfl, rfl, ⟨by decide, by decide, by decide⟩, _, _, rfl, rfl, wide_mul (a := 250) (b := 250) (by decide +kernel) (by decide +kernel) (by decide) (by decide) (by decide), _, _, rfl, rfl, by show (0 : Int) < _; decide +kernel, ?_⟩
    refine ⟨_, rfl, _, rfl, _, rfl, _, _, rfl, rfl, by show (0 : Int) < _; decide, _, _, rfl, rfl, .inr ⟨by decide, by decide⟩, _, rfl, _, _, rfl, rfl, .inl ⟨by decide, by decide⟩, _, _, rfl, rfl, _, rfl, _, _, rfl, rfl, .inr ⟨_, rfl, _, _, rfl, rfl, .inl ⟨by decide, by decide⟩, _, _, rfl, rfl, _, _, rfl, rfl, by show 3 ≤ sizeLine; decide, fun p hp => ?_⟩⟩
    exact q p _ hp (fun b o e => by rw [upd_ne (ne_of_none e hp)]; exact e) ⟨_, _, _, Int.emod_nonneg _ (by decide +kernel), upd_same⟩

theorem h_law_pick (T : Txt K mg aG dU C CR) (D : Df K mg "_law_pick" s__law_pick) (h_law_roll : Has P w K mg base CX0 "_law_roll" 1 ["_law_dice_here", "_law_total"] spRoll) : Has P w K mg base CX0 "_law_pick" 2 ["_law_dice_here", "_law_items"] spPick := by
  refine D.has sc__law_pick (fun vs H Q E h => ?_) (fun kV doc pm an cdv ct us hl => match us, hl with | [_, _], _ => rfl) (fun f cdv A outer s H vs Q E gd hr h => ?_)
  · obtain ⟨p, q, xs, rfl, _⟩ := h
    rfl
  · obtain ⟨p, q, xs, rfl, hd, hx, ne, l0, l1, k⟩ := h
    refine ⟨_, (pss_one
 (ps_ret (pe_ix ix_seq (pv 1) (pe_callH h_law_roll gd (hr.mono (by decide)) pass0 (pa_cons (pv 0) (pa_cons (pe_callB call_len_seq (by exact rfl) T.zlen PySem.boot_len (pa_cons (pv 1) pa_nil)) pa_nil))) (fun _ _ => rfl)))), ?_⟩
    have hs : SqL K H q xs ∨ SqT K H q xs := hx.imp SqL.of SqT.of
    refine ⟨_, rfl, _, rfl, _, rfl, _, _, rfl, hs, _, _, rfl, hd, (by omega), Nat.lt_of_le_of_lt (show ((xs.length : Int)).natAbs ≤ 1000 by omega) (by decide), fun r H1 r0 r1 g => ?_⟩
    obtain ⟨j, rfl⟩ : ∃ j : Nat, r = (j : Int) := ⟨r.toNat, by omega⟩
    have hj : j < xs.length := by omega
    have hg : xs[j]? = some xs[j] := List.getElem?_eq_getElem hj
    rcases hx with hx | hx
    · exact .inl ⟨q, xs, _, _, rfl, rfl, SqL.of (g.keep _ _ hx ne), atI_nat hg, k _ _ (List.getElem_mem hj) g⟩
    · exact .inr (.inl ⟨q, xs, _, _, rfl, rfl, SqT.of (g.keep _ _ hx ne), atI_nat hg, k _ _ (List.getElem_mem hj) g⟩)

theorem h_law_around (D : Df K mg "_law_around" s__law_around) : Has P w K mg base CX0 "_law_around" 1 ["_law_plain_here"] spAroundS := by
  refine D.has sc__law_around (fun vs H Q E h => ?_) (fun kV doc pm an cdv ct us hl => match us, hl with | [_], _ => rfl) (fun f cdv A outer s H vs Q E gd hr h => ?_)
  · obtain ⟨q, t, rfl, _⟩ := h
    rfl
  · obtain ⟨q, t, rfl, hq, k⟩ := h
    have hu := hr.units
    refine ⟨_, (pss_one
 (ps_ret (pe_ifExp (pt_cmpR op_eq (pe_dget (Nat.lt_of_le_of_lt (Nat.add_le_add_left (by decide) _) hu) (pv 0) pe_str (fun _ _ => rfl)) pe_str (nomark _)) pe_int pe_int))), ?_⟩
    refine ⟨_, rfl, _, _, rfl, hq.get, rfl, _, rfl, ?_⟩
    rw [nm_sq]
    cases t with
    | false => exact iteT k
    | true => exact iteF k
theorem h_law_unit (D : Df K mg "_law_unit" s__law_unit) : Has P w K mg base CX0 "_law_unit" 1 ["_law_plain_here", "_law_direction"] (spUnitS K) := by
  refine D.has sc__law_unit (fun vs H Q E h => ?_) (fun kV doc pm an cdv ct us hl => match us, hl with | [_, _], _ => rfl) (fun f cdv A outer s H vs Q E gd hr h => ?_)
  · obtain ⟨q, t, n, rfl, _⟩ := h
    rfl
  · obtain ⟨q, t, n, rfl, hq, k⟩ := h
    have hu := hr.units
    refine ⟨_, (pss_cons
 (ps_if (pt_cmpR op_eq (pe_dget (Nat.lt_of_le_of_lt (Nat.add_le_add_left (by decide) _) hu) (pv 0) pe_str (fun _ _ => rfl)) pe_str (nomark _)) (pss_one
 (ps_ret (pe_ix ix_list (pe_lst (pa_cons (pe_tup (pa_cons pe_int (pa_cons pe_int pa_nil))) (pa_cons (pe_tup (pa_cons pe_int (pa_cons pe_int pa_nil))) (pa_cons (pe_tup (pa_cons (pe_op op_sub pe_int pe_int) (pa_cons pe_int pa_nil))) (pa_cons (pe_tup (pa_cons pe_int (pa_cons (pe_op op_sub pe_int pe_int) pa_nil))) pa_nil))))) (pe_op op_mod (pv 1) pe_int) (fun _ _ => rfl)))) pss_nil)
 (pss_one
 (ps_ret (pe_ix ix_list (pe_lst (pa_cons (pe_tup (pa_cons pe_int (pa_cons pe_int pa_nil))) (pa_cons (pe_tup (pa_cons pe_int (pa_cons pe_int pa_nil))) (pa_cons (pe_tup (pa_cons (pe_op op_sub pe_int pe_int) (pa_cons pe_int pa_nil))) (pa_cons (pe_tup (pa_cons (pe_op op_sub pe_int pe_int) (pa_cons pe_int pa_nil))) (pa_cons (pe_tup (pa_cons pe_int (pa_cons (pe_op op_sub pe_int pe_int) pa_nil))) (pa_cons (pe_tup (pa_cons pe_int (pa_cons (pe_op op_sub pe_int pe_int) pa_nil))) pa_nil))))))) (pe_op op_mod (pv 1) pe_int) (fun _ _ => rfl))))), ?_⟩
    refine ⟨_, rfl, _, _, rfl, hq.get, rfl, _, rfl, ?_⟩
    rw [nm_sq]
    cases t with
    | false =>
      refine iteT ?_
      refine ⟨by show 2 ≤ sizeLine; decide, fun t0 h0 => ?_⟩
      refine ⟨by show 2 ≤ sizeLine; decide, fun t1 h1 => ?_⟩
      refine ⟨_, _, rfl, rfl, by show 2 ≤ sizeLine; decide, fun t2 h2 => ?_⟩
      refine ⟨_, _, rfl, rfl, by show 2 ≤ sizeLine; decide, fun t3 h3 => ?_⟩
      refine ⟨by show 4 ≤ sizeLine; decide, fun L hL => ⟨_, rfl, _, _, rfl, rfl, by show (0 : Int) < _; decide, ?_⟩⟩
      have hn : n % 4 = 0 ∨ n % 4 = 1 ∨ n % 4 = 2 ∨ n % 4 = 3 := by omega
      rcases hn with hn | hn | hn | hn
      · refine ⟨L, _, (0 : Int), _, rfl, by show V.int (n % 4) = _; rw [hn], SqL.of upd_same, atI_nat (j := 0) rfl, k t0 _ (((((Same.new h0).trans (Same.new h1)).trans (Same.new h2)).trans (Same.new h3)).trans (Same.new hL)) ?_⟩
        rw [show uni false n = (1, 0) from by unfold uni; show (ux false).getD (n % 4).toNat _ = _; rw [hn]; rfl]
        exact PAt.of (new_keep (new_keep (new_keep (new_keep upd_same h1) h2) h3) hL)
      · refine ⟨L, _, (1 : Int), _, rfl, by show V.int (n % 4) = _; rw [hn], SqL.of upd_same, atI_nat (j := 1) rfl, k t1 _ (((((Same.new h0).trans (Same.new h1)).trans (Same.new h2)).trans (Same.new h3)).trans (Same.new hL)) ?_⟩
        rw [show uni false n = (0, 1) from by unfold uni; show (ux false).getD (n % 4).toNat _ = _; rw [hn]; rfl]
        exact PAt.of (new_keep (new_keep (new_keep upd_same h2) h3) hL)
      · refine ⟨L, _, (2 : Int), _, rfl, by show V.int (n % 4) = _; rw [hn], SqL.of upd_same, atI_nat (j := 2) rfl, k t2 _ (((((Same.new h0).trans (Same.new h1)).trans (Same.new h2)).trans (Same.new h3)).trans (Same.new hL)) ?_⟩
        rw [show uni false n = (-1, 0) from by unfold uni; show (ux false).getD (n % 4).toNat _ = _; rw [hn]; rfl]
        exact PAt.of (new_keep (new_keep upd_same h3) hL)
      · refine ⟨L, _, (3 : Int), _, rfl, by show V.int (n % 4) = _; rw [hn], SqL.of upd_same, atI_nat (j := 3) rfl, k t3 _ (((((Same.new h0).trans (Same.new h1)).trans (Same.new h2)).trans (Same.new h3)).trans (Same.new hL)) ?_⟩
        rw [show uni false n = (0, -1) from by unfold uni; show (ux false).getD (n % 4).toNat _ = _; rw [hn]; rfl]
        exact PAt.of (new_keep upd_same hL)
    | true =>
      refine iteF ?_
      refine ⟨by show 2 ≤ sizeLine; decide, fun t0 h0 => ?_⟩
      refine ⟨by show 2 ≤ sizeLine; decide, fun t1 h1 => ?_⟩
      refine ⟨_, _, rfl, rfl, by show 2 ≤ sizeLine; decide, fun t2 h2 => ?_⟩
      refine ⟨_, _, rfl, rfl, by show 2 ≤ sizeLine; decide, fun t3 h3 => ?_⟩
      refine ⟨_, _, rfl, rfl, by show 2 ≤ sizeLine; decide, fun t4 h4 => ?_⟩
      refine ⟨_, _, rfl, rfl, by show 2 ≤ sizeLine; decide, fun t5 h5 => ?_⟩
      refine ⟨by show 6 ≤ sizeLine; decide, fun L hL => ⟨_, rfl, _, _, rfl, rfl, by show (0 : Int) < _; decide, ?_⟩⟩
      have hn : n % 6 = 0 ∨ n % 6 = 1 ∨ n % 6 = 2 ∨ n % 6 = 3 ∨ n % 6 = 4 ∨ n % 6 = 5 := by omega
      rcases hn with hn | hn | hn | hn | hn | hn
      · refine ⟨L, _, (0 : Int), _, rfl, by show V.int (n % 6) = _; rw [hn], SqL.of upd_same, atI_nat (j := 0) rfl, k t0 _ (((((((Same.new h0).trans (Same.new h1)).trans (Same.new h2)).trans (Same.new h3)).trans (Same.new h4)).trans (Same.new h5)).trans (Same.new hL)) ?_⟩
        rw [show uni true n = (1, 0) from by unfold uni; show (ux true).getD (n % 6).toNat _ = _; rw [hn]; rfl]
        exact PAt.of (new_keep (new_keep (new_keep (new_keep (new_keep (new_keep upd_same h1) h2) h3) h4) h5) hL)
      · refine ⟨L, _, (1 : Int), _, rfl, by show V.int (n % 6) = _; rw [hn], SqL.of upd_same, atI_nat (j := 1) rfl, k t1 _ (((((((Same.new h0).trans (Same.new h1)).trans (Same.new h2)).trans (Same.new h3)).trans (Same.new h4)).trans (Same.new h5)).trans (Same.new hL)) ?_⟩
        rw [show uni true n = (0, 1) from by unfold uni; show (ux true).getD (n % 6).toNat _ = _; rw [hn]; rfl]
        exact PAt.of (new_keep (new_keep (new_keep (new_keep (new_keep upd_same h2) h3) h4) h5) hL)
      · refine ⟨L, _, (2 : Int), _, rfl, by show V.int (n % 6) = _; rw [hn], SqL.of upd_same, atI_nat (j := 2) rfl, k t2 _ (((((((Same.new h0).trans (Same.new h1)).trans (Same.new h2)).trans (Same.new h3)).trans (Same.new h4)).trans (Same.new h5)).trans (Same.new hL)) ?_⟩
        rw [show uni true n = (-1, 1) from by unfold uni; show (ux true).getD (n % 6).toNat _ = _; rw [hn]; rfl]
        exact PAt.of (new_keep (new_keep (new_keep (new_keep upd_same h3) h4) h5) hL)
      · refine ⟨L, _, (3 : Int), _, rfl, by show V.int (n % 6) = _; rw [hn], SqL.of upd_same, atI_nat (j := 3) rfl, k t3 _ (((((((Same.new h0).trans (Same.new h1)).trans (Same.new h2)).trans (Same.new h3)).trans (Same.new h4)).trans (Same.new h5)).trans (Same.new hL)) ?_⟩
        rw [show uni true n = (-1, 0) from by unfold uni; show (ux true).getD (n % 6).toNat _ = _; rw [hn]; rfl]
        exact PAt.of (new_keep (new_keep (new_keep upd_same h4) h5) hL)
      · refine ⟨L, _, (4 : Int), _, rfl, by show V.int (n % 6) = _; rw [hn], SqL.of upd_same, atI_nat (j := 4) rfl, k t4 _ (((((((Same.new h0).trans (Same.new h1)).trans (Same.new h2)).trans (Same.new h3)).trans (Same.new h4)).trans (Same.new h5)).trans (Same.new hL)) ?_⟩
        rw [show uni true n = (0, -1) from by unfold uni; show (ux true).getD (n % 6).toNat _ = _; rw [hn]; rfl]
        exact PAt.of (new_keep (new_keep upd_same h5) hL)
      · refine ⟨L, _, (5 : Int), _, rfl, by show V.int (n % 6) = _; rw [hn], SqL.of upd_same, atI_nat (j := 5) rfl, k t5 _ (((((((Same.new h0).trans (Same.new h1)).trans (Same.new h2)).trans (Same.new h3)).trans (Same.new h4)).trans (Same.new h5)).trans (Same.new hL)) ?_⟩
        rw [show uni true n = (1, -1) from by unfold uni; show (ux true).getD (n % 6).toNat _ = _; rw [hn]; rfl]
        exact PAt.of (new_keep upd_same hL)
theorem h_law_norm (D : Df K mg "_law_norm" s__law_norm) : Has P w K mg base CX0 "_law_norm" 1 ["_law_plain_here", "_law_point"] (spNormS K) := by
  refine D.has sc__law_norm (fun vs H Q E h => ?_) (fun kV doc pm an cdv ct us hl => match us, hl with | [_, _], _ => rfl) (fun f cdv A outer s H vs Q E gd hr h => ?_)
  · obtain ⟨q, t, a, u, rfl, _⟩ := h
    rfl
  · obtain ⟨q, t, a, u, rfl, hq, pu, su, k⟩ := h
    have hu := hr.units
    refine ⟨_, (pss_cons
 (ps_set (i := 2) sc__law_norm.nd rfl (Or.inl rfl) (pe_ifExp (pt_cmpR op_eq (pe_dget (Nat.lt_of_le_of_lt (Nat.add_le_add_left (by decide) _) hu) (pv 0) pe_str (fun _ _ => rfl)) pe_str (nomark _)) (pe_op op_mulW (pe_ix ix_tup (pv 1) pe_int (fun _ _ => rfl)) (pe_ix ix_tup (pv 1) pe_int (fun _ _ => rfl))) pe_int))
 (pss_one
 (ps_ret (pe_op op_add (pe_op op_add (pe_op op_mulW (pe_ix ix_tup (pv 1) pe_int (fun _ _ => rfl)) (pe_ix ix_tup (pv 1) pe_int (fun _ _ => rfl))) (pe_op op_mulW (pe_ix ix_tup (pv 1) pe_int (fun _ _ => rfl)) (pe_ix ix_tup (pv 1) pe_int (fun _ _ => rfl)))) (pv 2))))), ?_⟩
    refine ⟨_, rfl, _, _, rfl, hq.get, rfl, _, rfl, ?_⟩
    rw [nm_tr]
    cases t with
    | true =>
      refine iteT ⟨_, rfl, _, _, _, _, rfl, rfl, pu, atI_nat (j := 0) rfl, _, rfl, _, _, _, _, rfl, rfl, pu, atI_nat (j := 1) rfl, _, _, rfl, rfl, sm_mul su.1 su.2, ?_⟩
      refine ⟨_, rfl, _, _, _, _, rfl, rfl, pu, atI_nat (j := 0) rfl, _, rfl, _, _, _, _, rfl, rfl, pu, atI_nat (j := 0) rfl, _, _, rfl, rfl, sm_mul su.1 su.1, _, rfl, _, _, _, _, rfl, rfl, pu, atI_nat (j := 1) rfl, _, rfl, _, _, _, _, rfl, rfl, pu, atI_nat (j := 1) rfl, _, _, rfl, rfl, sm_mul su.2 su.2, _, _, rfl, rfl, _, rfl, _, _, rfl, rfl, ?_⟩
      have e : u.1 * u.1 + u.2 * u.2 + u.1 * u.2 = nrm true u := by unfold nrm sl; grind
      have k' : Q (.int (u.1 * u.1 + u.2 * u.2 + u.1 * u.2)) H := by rw [e]; exact k
      exact k'
    | false =>
      refine iteF ⟨_, rfl, _, _, _, _, rfl, rfl, pu, atI_nat (j := 0) rfl, _, rfl, _, _, _, _, rfl, rfl, pu, atI_nat (j := 0) rfl, _, _, rfl, rfl, sm_mul su.1 su.1, _, rfl, _, _, _, _, rfl, rfl, pu, atI_nat (j := 1) rfl, _, rfl, _, _, _, _, rfl, rfl, pu, atI_nat (j := 1) rfl, _, _, rfl, rfl, sm_mul su.2 su.2, _, _, rfl, rfl, _, rfl, _, _, rfl, rfl, ?_⟩
      have e : u.1 * u.1 + u.2 * u.2 + 0 = nrm false u := by unfold nrm sl; grind
      have k' : Q (.int (u.1 * u.1 + u.2 * u.2 + 0)) H := by rw [e]; exact k
      exact k'
theorem h_law_plus (D : Df K mg "_law_plus" s__law_plus) : Has P w K mg base CX0 "_law_plus" 1 ["_law_one", "_law_other"] (spPlus K) := by
  refine D.has sc__law_plus (fun vs H Q E h => ?_) (fun kV doc pm an cdv ct us hl => match us, hl with | [_, _], _ => rfl) (fun f cdv A outer s H vs Q E gd hr h => ?_)
  · obtain ⟨a, b, u, v, rfl, _⟩ := h
    rfl
  · obtain ⟨a, b, u, v, rfl, pu, pv', k⟩ := h
    refine ⟨_, (pss_one
 (ps_ret (pe_tup (pa_cons (pe_op op_add (pe_ix ix_tup (pv 0) pe_int (fun _ _ => rfl)) (pe_ix ix_tup (pv 1) pe_int (fun _ _ => rfl))) (pa_cons (pe_op op_add (pe_ix ix_tup (pv 0) pe_int (fun _ _ => rfl)) (pe_ix ix_tup (pv 1) pe_int (fun _ _ => rfl))) pa_nil))))), ?_⟩
    exact ⟨_, rfl, _, _, _, _, rfl, rfl, pu, atI_nat (j := 0) rfl, _, rfl, _, _, _, _, rfl, rfl, pv', atI_nat (j := 0) rfl, _, _, rfl, rfl, _, rfl, _, _, _, _, rfl, rfl, pu, atI_nat (j := 1) rfl, _, rfl, _, _, _, _, rfl, rfl, pv', atI_nat (j := 1) rfl, _, _, rfl, rfl, by show 2 ≤ sizeLine; decide, fun p hp => k p hp⟩
end
end K13
namespace K13
open PySem PySem.Spec PyProof.Rows L2 GL SkE
noncomputable abbrev s__law_row : Stmt := topS 60
noncomputable abbrev N__law_row : List Str := ["_law_text", "_law_word"]
theorem sc__law_row : FnScope N__law_row ["_law_text"] (defScope s__law_row) := ⟨rfl, rfl, rfl, by decide +kernel, rfl, by decide +kernel, by decide +kernel⟩
noncomputable abbrev s__law_row_text : Stmt := topS 61
noncomputable abbrev N__law_row_text : List Str := ["_law_row_here", "_law_letter", "_law_turn"]
theorem sc__law_row_text : FnScope N__law_row_text ["_law_row_here"] (defScope s__law_row_text) := ⟨rfl, rfl, rfl, by decide +kernel, rfl, by decide +kernel, by decide +kernel⟩
noncomputable abbrev s__law_sum : Stmt := topS 64
noncomputable abbrev N__law_sum : List Str := ["_law_plain_here", "_law_row_here", "_law_found", "_law_letter", "_law_turn"]
theorem sc__law_sum : FnScope N__law_sum ["_law_plain_here", "_law_row_here"] (defScope s__law_sum) := ⟨rfl, rfl, rfl, by decide +kernel, rfl, by decide +kernel, by decide +kernel⟩
/-- a sign pair that is the text of an item -/
noncomputable def wordOk (y : Str) : Bool := match y.cps.toList with
  | [c, d] => (decide (97 ≤ c) && decide (c ≤ 122)) && (decide (48 ≤ d) && decide (d ≤ 53))
  | _ => false
noncomputable def wordIt (y : Str) : Str × Int := match y.cps.toList with
  | [c, d] => (⟨#[c]⟩, ((d - 48 : Nat) : Int))
  | _ => (y, 0)
noncomputable def rowIn (a : Str) : Option RowT := if (Txt.split a " ").length ≤ 12 ∧ (Txt.split a " ").all wordOk = true then some ((Txt.split a " ").map wordIt) else none
theorem two_cps {y : Str} (h : y.length = 2) : ∃ c d, y = ⟨#[c, d]⟩ := by
  obtain ⟨⟨l⟩⟩ := y
  match l, h with
  | [c, d], _ => exact ⟨c, d, rfl⟩
theorem not_two {y : Str} (h : y.length ≠ 2) : wordOk y = false := by
  obtain ⟨⟨l⟩⟩ := y
  match l, h with
  | [], _ => rfl
  | [_], _ => rfl
  | [_, _], h => exact absurd rfl h
  | _ :: _ :: _ :: _, _ => rfl
theorem turns_mem (d : Nat) : decide (d ∈ (("012345" : Str)).cps.toList) = (decide (48 ≤ d) && decide (d ≤ 53)) := by
  rw [show (("012345" : Str)).cps.toList = [48, 49, 50, 51, 52, 53] by decide +kernel, Bool.eq_iff_iff, decide_eq_true_eq, Bool.and_eq_true, decide_eq_true_eq, decide_eq_true_eq]
  simp only [List.mem_cons, List.not_mem_nil, or_false]
  omega
theorem turns_at : ∀ i < 6, Builtin.Str.occurrences ("012345" : Str) ⟨#[48 + i]⟩ 0 ("012345" : Str).length 1 = [i] := by decide +kernel
theorem letS_one (c : Nat) : LetS (⟨#[c]⟩ : Str) = (decide (97 ≤ c) && decide (c ≤ 122)) := by
  show (decide ((⟨#[c]⟩ : Str).length = 1) && ([c].all fun c => decide (97 ≤ c) && decide (c ≤ 122))) = _
  rw [decide_eq_true (show (⟨#[c]⟩ : Str).length = 1 from rfl)]
  simp
theorem word_item {y : Str} (h : wordOk y = true) : ItemOk true (wordIt y) ∧ itemT (wordIt y) = y := by
  obtain ⟨⟨l⟩⟩ := y
  match l, h with
  | [c, d], h =>
    have h : ((decide (97 ≤ c) && decide (c ≤ 122)) && (decide (48 ≤ d) && decide (d ≤ 53))) = true := h
    simp only [Bool.and_eq_true, decide_eq_true_eq] at h
    obtain ⟨⟨h1, h2⟩, h3, h4⟩ := h
    refine ⟨⟨?_, ?_, ?_⟩, ?_⟩
    · show LetS (⟨#[c]⟩ : Str) = true
      rw [letS_one]
      simp [h1, h2]
    · show (0 : Int) ≤ ((d - 48 : Nat) : Int)
      omega
    · show ((d - 48 : Nat) : Int) < 6
      omega
    · show (⟨#[c]⟩ : Str) ++ (toString ((d - 48 : Nat) : Int) : Str) = ⟨#[c, d]⟩
      have fin : ∀ k < 6, ((toString ((k : Nat) : Int) : String) : Str) = ⟨#[48 + k]⟩ := by decide +kernel
      rw [fin (d - 48) (by omega), show 48 + (d - 48) = d by omega]
      rfl
  | [], h => cases h
  | [_], h => cases h
  | _ :: _ :: _ :: _, h => cases h
/-! ### what comes of a text -/
theorem join_size {sep : Str} : ∀ {l : List Str}, l ≠ [] → (Str.join sep l).length + sep.length = (l.map fun y => y.length + sep.length).sum
  | [], h => absurd rfl h
  | [y], _ => by
    show y.length + sep.length = _
    simp
  | y :: z :: r, _ => by
    have ih := join_size (sep := sep) (l := z :: r) (fun h => by cases h)
    show ((y ++ sep) ++ Str.join sep (z :: r)).length + sep.length = _
    rw [Str.length_append, Str.length_append, List.map_cons, List.sum_cons, ← ih]
    omega
theorem sum_ge : ∀ {l : List Nat} {n : Nat}, n ∈ l → n ≤ l.sum
  | x :: r, n, h => by
    rw [List.sum_cons]
    rcases List.mem_cons.mp h with e | e
    · omega
    · have := sum_ge e
      omega
theorem sum_many : ∀ {l : List Nat}, (∀ x ∈ l, 1 ≤ x) → l.length ≤ l.sum
  | [], _ => Nat.le_refl _
  | x :: r, h => by
    have a := h x (List.mem_cons_self ..)
    have b := sum_many (l := r) (fun y hy => h y (List.mem_cons_of_mem _ hy))
    rw [List.sum_cons, List.length_cons]
    omega
theorem split_small (a : Str) : (Txt.split a " ").length ≤ a.length + 1 ∧ ∀ y ∈ Txt.split a " ", y.length ≤ a.length + 1 := by
  by_cases e : Txt.split a " " = []
  · rw [e]
    exact ⟨Nat.zero_le _, fun y h => by cases h⟩
  · have j := join_size (sep := (" " : Str)) e
    rw [StrLaws.join_split] at j
    have one : (" " : Str).length = 1 := by decide +kernel
    rw [one] at j
    constructor
    · have z := sum_many (l := (Txt.split a " ").map fun y => y.length + 1) (fun x hx => by
        obtain ⟨y, _, rfl⟩ := List.mem_map.mp hx
        omega)
      rw [List.length_map] at z
      omega
    · intro y hy
      have z := sum_ge (l := (Txt.split a " ").map fun y => y.length + 1) (List.mem_map_of_mem (f := fun y : Str => y.length + 1) hy)
      have z : y.length + 1 ≤ _ := z
      omega
theorem rowIn_some {a : Str} {r : RowT} (h : rowIn a = some r) : RowS true r ∧ rowT r = a ∧ r = (Txt.split a " ").map wordIt := by
  unfold rowIn at h
  split at h
  · rename_i c
    cases h
    have all : ∀ y ∈ Txt.split a " ", wordOk y = true := List.all_eq_true.mp c.2
    refine ⟨⟨by rw [List.length_map]; exact c.1, fun x hx => ?_⟩, ?_, rfl⟩
    · obtain ⟨y, hy, rfl⟩ := List.mem_map.mp hx
      exact (word_item (all y hy)).1
    · unfold rowT
      show Builtin.Str.glued " " _ = a
      rw [StrLaws.glued_eq_join, List.map_map, show (Txt.split a " ").map (itemT ∘ wordIt) = Txt.split a " " from (List.map_congr_left fun y hy => (word_item (all y hy)).2).trans (List.map_id _), StrLaws.join_split]
  · cases h
theorem digit_int : ∀ i < 6, intText? (⟨#[48 + i]⟩ : Str) = some ((i : Nat) : Int) := by decide +kernel
noncomputable def spLRow (K : PySem.W.Frag) : Sp := fun vs H Q _ => ∃ a, vs = [.str a] ∧ a.length ≤ 1000 ∧ (Txt.split a " ").all wordOk = true ∧ ∀ y H', Same H H' → Dp K H' y (rowD ((Txt.split a " ").map wordIt)) → Q y H'
section
variable {P : Program} {w : World} {K : PySem.W.Frag} {mg : Str → Option Value} {base : Heap}
variable {aG dU C CR : Addr} {U : Bool → Addr} {us : Bool → List Addr}
theorem h_law_row (T : TxS K mg aG dU C CR) (D : Df K mg "_law_row" s__law_row) : Has P w K mg base CX0 "_law_row" 1 ["_law_text"] (spLRow K) := by
  refine D.has sc__law_row (fun vs H Q E h => ?_) (fun kV doc pm an cdv ct us hl => match us, hl with | [_], _ => rfl) (fun f cdv A outer s H vs Q E gd hr h => ?_)
  · obtain ⟨a, rfl, _⟩ := h
    rfl
  · obtain ⟨a, rfl, few, all, k⟩ := h
    have hu := hr.units
    refine ⟨_, (pss_one
 (ps_ret (pe_callTy call_tuple_of (by exact rfl) T.ztuple (by decide +kernel) (pa_cons (pe_lc (own := [("_law_word", 1)]) (g := gName 1) (tt := tYes) (by rfl) sc__law_row.nd (pi_list (pe_bm PySem.F.plainAttrs_str PySem.F.slot_str_split PySem.F.type_str_split mt_split (pv 0) (pa_cons pe_str pa_nil))) (blkOk_by (own := [("_law_word", 1)]) (N := N__law_row) (sc := defScope s__law_row) (by decide +kernel)) (fun _ _ _ _ _ => pg_name (i := 1) sc__law_row.nd rfl (Or.inl rfl)) (fun _ _ _ _ _ => pts_nil) (fun _ _ _ _ _ => (pe_tup (pa_cons (pe_ix ix_str (pv 1) pe_int (fun _ _ => rfl)) (pa_cons (pe_callTy call_int_str (by exact rfl) T.zint (by decide +kernel) (pa_cons (pe_slice sl_str (pv 1) (po_some pe_int) po_none) pa_nil)) pa_nil))))) pa_nil)))), ?_⟩
    dsimp only [cxOf, Cx.nox]
    obtain ⟨many, small⟩ := split_small a
    refine ⟨_, rfl, rfl, a, " ", rfl, rfl, by decide +kernel, by rw [sizeLine_eq]; omega, fun p np => ?_⟩
    have s1 := Same.new (o := .lst ((Txt.split a " ").map V.str)) np
    have hp : SqL K (upd H p (.lst ((Txt.split a " ").map V.str))) p ((Txt.split a " ").map V.str) := SqL.of upd_same
    generalize upd H p (.lst ((Txt.split a " ").map V.str)) = H2 at *
    generalize ews : Txt.split a " " = ws at *
    have oks := List.all_eq_true.mp all
    refine ⟨p, rfl, ⟨_, hp⟩, fun D2 hD2 => lc_list (a := p) (xs := ws.map V.str) (fun i' H' => Grow K H2 D2 ((ws.take i').map fun y => itemD (wordIt y)) H') (by rw [List.take_zero]; exact Grow.start hD2) (fun i' H' _ A => sqL_same hp A.same) ?_ ?_⟩
    · rintro i' x H' hx A
      obtain ⟨y, hy, rfl⟩ := str_at' hx
      have oy := oks y (List.mem_of_getElem? hy)
      obtain ⟨c, d, rfl, d0, d1⟩ : ∃ c d, y = ⟨#[c, d]⟩ ∧ 48 ≤ d ∧ d ≤ 53 := by
        have l2 : y.length = 2 := by
          by_cases h : y.length = 2
          · exact h
          · rw [not_two h] at oy; cases oy
        obtain ⟨c, d, rfl⟩ := two_cps l2
        have oy : ((decide (97 ≤ c) && decide (c ≤ 122)) && (decide (48 ≤ d) && decide (d ≤ 53))) = true := oy
        simp only [Bool.and_eq_true, decide_eq_true_eq] at oy
        exact ⟨c, d, rfl, oy.2.1, oy.2.2⟩
      obtain ⟨ys, eD, lD⟩ := A.ex
      refine ⟨rfl, ?_⟩
      simp only [tYes, if_true]
      have num : intText? (cutS ⟨#[c, d]⟩ (some 1) none) = some ((d - 48 : Nat) : Int) := by
        have z := digit_int (d - 48) (by omega)
        rw [show 48 + (d - 48) = d by omega] at z
        exact z
      refine ⟨_, rfl, _, _, _, rfl, rfl, by show 2 ≤ sizeLine; decide, atI_nat (j := 0) rfl, _, rfl, _, rfl, _, rfl, by show 2 ≤ sizeLine; decide, _, _, rfl, num, by show 1 ≤ 640; decide, ?_⟩
      refine ⟨by show 2 ≤ sizeLine; decide, fun q nq => ?_⟩
      have A2 := A.ext (Same.new (o := .tup [.str ⟨#[c]⟩, .int ((d - 48 : Nat) : Int)]) nq)
      have eD2 := Same.new (o := .tup [.str ⟨#[c]⟩, .int ((d - 48 : Nat) : Int)]) nq _ _ eD
      refine ⟨ys, eD2, ?_, ?_⟩
      · rw [A.len eD, List.length_map, List.length_take, sizeLine_eq]
        omega
      · rw [List.take_add_one, hy]
        show Grow K H2 D2 ((ws.take i' ++ [_]).map _) _
        rw [List.map_append]
        exact A2.push eD2 (itemDp (it := (⟨#[c]⟩, ((d - 48 : Nat) : Int))) (SqT.of (wo_at upd_same (fun z => by rw [z, eD] at nq; cases nq))))
    · rintro H3 A
      rw [List.length_map, List.take_length] at A
      obtain ⟨zs, eD, lD⟩ := A.ex
      refine ⟨D2, zs, rfl, .inl ⟨SqL.of eD, fun q nq => k _ _ (s1.trans (A.same.trans (Same.new nq))) ?_⟩⟩
      refine .tup (SqT.of upd_same) ?_
      rw [List.map_map]
      exact dps_same ((wo_same).trans (Same.new nq)) lD
end
end K13
namespace K13
open PySem PySem.Spec PyProof.Rows L2 GL SkE
/-- a row of short texts and small numbers -/
structure RowW (r : RowT) : Prop where
  most : r.length ≤ 100
  let_ : ∀ it ∈ r, it.1.length ≤ 2
  lo : ∀ it ∈ r, 0 ≤ it.2
  hi : ∀ it ∈ r, it.2 ≤ 9
noncomputable def spLRowText (K : PySem.W.Frag) : Sp := fun vs H Q _ => ∃ x r, vs = [x] ∧ Dp K H x (rowD r) ∧ RowW r ∧ ∀ H', Same H H' → Q (.str (rowT r)) H'
noncomputable def spSumS (K : PySem.W.Frag) : Sp := fun vs H Q _ => ∃ q t x r, vs = [.ref q, x] ∧ GrAt H q t ∧ Dp K H x (rowD r) ∧ r.length ≤ 100 ∧ ∀ a H', Same H H' → PAt K H' a (sumOf t r) → Q (.ref a) H'
theorem dget_same {H H' : Hp} {a : Addr} {y : V} {r : Option V} (h : DGet H a y r) (s : Same H H') : DGet H' a y r := by
  rcases h with ⟨kvs, k, rd, e1, e2⟩ | ⟨kvs, k, b, rd, e1, e2, e3⟩
  · exact .inl ⟨kvs, k, rd.imp (fun e => s _ _ e) (fun ⟨o, e⟩ => ⟨o, s _ _ e⟩), e1, e2⟩
  · exact .inr ⟨kvs, k, b, rd.imp (fun e => s _ _ e) (fun ⟨o, e⟩ => ⟨o, s _ _ e⟩), e1, s _ _ e2, e3⟩
theorem GrAt.same {H H' : Hp} {q : Addr} {t : Bool} (h : GrAt H q t) (s : Same H H') : GrAt H' q t := ⟨dget_same h.get s⟩
theorem dec_len9 : ∀ i : Int, 0 ≤ i → i < 10 → (Str.ofString (toString i)).length = 1 := by
  intro i a b
  have h : i = 0 ∨ i = 1 ∨ i = 2 ∨ i = 3 ∨ i = 4 ∨ i = 5 ∨ i = 6 ∨ i = 7 ∨ i = 8 ∨ i = 9 := by omega
  rcases h with h | h | h | h | h | h | h | h | h | h <;> subst h <;> decide +kernel
theorem sum_snoc {t : Bool} {r : RowT} {it : Str × Int} : sumOf t (r ++ [it]) = padd (sumOf t r) (uni t it.2) := by
  unfold sumOf
  rw [List.map_append]
  show (path t (0, 0) (r.map (·.2) ++ [it.2])).getLast?.getD (0, 0) = _
  rw [path_snoc, List.getLast?_append]
  rfl
section
variable {P : Program} {w : World} {K : PySem.W.Frag} {mg : Str → Option Value} {base : Heap}
variable {aG dU C CR : Addr} {U : Bool → Addr} {us : Bool → List Addr}
theorem h_law_row_text (T : TxS K mg aG dU C CR) (D : Df K mg "_law_row_text" s__law_row_text) : Has P w K mg base CX0 "_law_row_text" 1 ["_law_row_here"] (spLRowText K) := by
  refine D.has sc__law_row_text (fun vs H Q E h => ?_) (fun kV doc pm an cdv ct us hl => match us, hl with | [_], _ => rfl) (fun f cdv A outer s H vs Q E gd hr h => ?_)
  · obtain ⟨x, r, rfl, _⟩ := h
    rfl
  · obtain ⟨x, r, rfl, hx, ok, k⟩ := h
    have hu := hr.units
    refine ⟨_, (pss_one
 (ps_ret (pe_bm PySem.F.plainAttrs_str PySem.F.slot_str_join PySem.F.type_str_join mt_join pe_str (pa_cons (pe_lc (own := [("_law_letter", 1), ("_law_turn", 2)]) (g := (gTup K 2 (gCons (gName 1) (gCons (gName 2) gNil)))) (tt := tYes) (by rfl) sc__law_row_text.nd (pi_tup (pv 0)) (blkOk_by (own := [("_law_letter", 1), ("_law_turn", 2)]) (N := N__law_row_text) (sc := defScope s__law_row_text) (by decide +kernel)) (fun _ _ _ _ _ => (pg_tupK (K0 := K) (n := 2) (by exact rfl) (by rfl) (pgs_cons (pg_name (i := 1) sc__law_row_text.nd rfl (Or.inl rfl)) (pgs_cons (pg_name (i := 2) sc__law_row_text.nd rfl (Or.inl rfl)) pgs_nil)))) (fun _ _ _ _ _ => pts_nil) (fun _ _ _ _ _ => (pe_op op_add_str (pv 1) (pe_callTy call_str_int (by exact rfl) T.zstr (by decide +kernel) (pa_cons (pv 2) pa_nil))))) pa_nil)))), ?_⟩
    dsimp only [cxOf, Cx.nox]
    obtain ⟨a, xs, rfl, hs, l⟩ := dTup hx
    have m := ok.most
    refine ⟨rfl, _, rfl, a, rfl, ⟨_, hs⟩, fun D hD => lc_row (fun it => .str (itemT it)) hs l (by omega) hD (fun _ _ => rfl) (fun n it H' hit _ _ Q q => ?_) (fun H2 s2 dp => ?_)⟩
    · have mem := List.mem_of_getElem? hit
      have lo := ok.lo it mem
      have hi := ok.hi it mem
      have l1 := ok.let_ it mem
      have l2 := dec_len9 it.2 lo (by omega)
      refine ⟨_, rfl, _, rfl, _, rfl, Nat.lt_trans (PySem.Flt.log2_lt_of (k := 4) (by decide) (by omega)) (by decide), _, _, rfl, rfl, by rw [l2, sizeLine_eq]; omega, q _ _ same_rfl (.str _)⟩
    · obtain ⟨_, ys, e0, hys, lys⟩ := dLst dp
      cases e0
      have ey : ys = (r.map itemT).map V.str := dStrs' (by rw [List.map_map]; exact lys)
      subst ey
      refine ⟨_, _, _, rfl, rfl, .inl hys, ?_, k _ s2⟩
      have sum : ((r.map itemT).map (fun x => x.length)).sum ≤ 3 * r.length := by
        have each : ∀ it ∈ r, (itemT it).length ≤ 3 := fun it h => by
          unfold itemT
          rw [Str.length_append]
          have l1 := ok.let_ it h
          have l2 := dec_len9 it.2 (ok.lo it h) (by have := ok.hi it h; omega)
          show _ + (Str.ofString (toString it.2)).length ≤ 3
          omega
        clear ok l dp hys lys k m hx
        induction r with
        | nil => simp
        | cons x r ih =>
          have a1 := each x (List.mem_cons_self ..)
          have a2 := ih (fun it h => each it (List.mem_cons_of_mem _ h))
          simp only [List.map_cons, List.sum_cons, List.length_cons] at a2 ⊢
          omega
      rw [List.length_map]
      show _ + r.length * 1 ≤ 16777216
      omega
theorem h_law_sum (T : TxS K mg aG dU C CR) (D : Df K mg "_law_sum" s__law_sum) (h_law_unit : Has P w K mg base CX0 "_law_unit" 1 ["_law_plain_here", "_law_direction"] (spUnitS K)) (h_law_plus : Has P w K mg base CX0 "_law_plus" 1 ["_law_one", "_law_other"] (spPlus K)) : Has P w K mg base CX0 "_law_sum" 2 ["_law_plain_here", "_law_row_here"] (spSumS K) := by
  refine D.has sc__law_sum (fun vs H Q E h => ?_) (fun kV doc pm an cdv ct us hl => match us, hl with | [_, _], _ => rfl) (fun f cdv A outer s H vs Q E gd hr h => ?_)
  · obtain ⟨q, t, x, r, rfl, _⟩ := h
    rfl
  · obtain ⟨q, t, x, r, rfl, hq, hx, few, k⟩ := h
    have hu := hr.units
    refine ⟨_, (pss_cons
 (ps_set (i := 2) sc__law_sum.nd rfl (Or.inl rfl) (pe_tup (pa_cons pe_int (pa_cons pe_int pa_nil))))
 (pss_cons
 (ps_for PassesOwn.never rfl (pi_tup (pv 1)) (pg_tup (by rfl) (pgs_cons (pg_name (i := 3) sc__law_sum.nd rfl (Or.inl rfl)) (pgs_cons (pg_name (i := 4) sc__law_sum.nd rfl (Or.inl rfl)) pgs_nil))) (pss_one
 (ps_set (i := 2) sc__law_sum.nd rfl (Or.inl rfl) (pe_callH h_law_plus gd (hr.mono (by decide)) pass0 (pa_cons (pv 2) (pa_cons (pe_callH h_law_unit gd (hr.mono (by decide)) pass0 (pa_cons (pv 0) (pa_cons (pv 4) pa_nil))) pa_nil))))))
 (pss_one
 (ps_ret (pv 2))))), ?_⟩
    dsimp only [cxOf, Cx.nox]
    obtain ⟨ax, xs, rfl, hs, l⟩ := dTup hx
    refine ⟨by show 2 ≤ sizeLine; decide, fun p0 n0 => ?_⟩
    have s0 := Same.new (o := .tup [.int 0, .int 0]) n0
    have P0 : PAt K (upd H p0 (.tup [.int 0, .int 0])) p0 (0, 0) := PAt.of upd_same
    generalize upd H p0 (.tup [.int 0, .int 0]) = H1 at *
    refine ⟨_, rfl, ax, rfl, ⟨_, sqT_same hs s0⟩, for_tup (a := ax) (xs := xs) (fun i σ' H' => ∃ a u v, σ' = [some (.ref q), some (.ref ax), some (.ref a), u, v] ∧ Same H H' ∧ PAt K H' a (sumOf t (r.take i))) ⟨p0, none, none, rfl, s0, P0⟩ (fun i σ' H' _ h => let ⟨_, _, _, _, h, _⟩ := h; sqT_same hs h) ?_ ?_⟩
    · rintro i x _ H' hx ⟨a, u, v, rfl, s', pa⟩
      obtain ⟨it, b, hit, rfl, hb⟩ := rowAt l hx
      refine ⟨b, _, rfl, sqT_same hb s', rfl, _, _, rfl, _, _, rfl, rfl, ?_⟩
      refine ⟨_, rfl, _, rfl, _, rfl, q, t, it.2, rfl, hq.same s', fun b2 H2 s2 pb => ⟨a, b2, _, _, rfl, sqT_same pa s2, pb, fun p np => ?_⟩⟩
      refine ⟨p, _, _, rfl, (s'.trans s2).trans (Same.new np), ?_⟩
      rw [List.take_add_one, hit]
      show PAt K _ p (sumOf t (r.take i ++ [it]))
      rw [sum_snoc]
      exact PAt.of upd_same
    · rintro _ H' ⟨a, u, v, rfl, s', pa⟩
      rw [rowLen l, List.take_length] at pa
      exact ⟨_, rfl, k a H' s' pa⟩
end
end K13
namespace K13
open PySem PySem.Spec PyProof.Rows L2 GL SkE
noncomputable abbrev s__law_is_row : Stmt := topS 70
noncomputable abbrev N__law_is_row : List Str := ["_law_value", "_law_around_here", "_law_few", "_law_one"]
theorem sc__law_is_row : FnScope N__law_is_row ["_law_value", "_law_around_here", "_law_few"] (defScope s__law_is_row) := ⟨rfl, rfl, rfl, by decide +kernel, rfl, by decide +kernel, by decide +kernel⟩
theorem if_ne {x y : V} {A B : Prop} (h : x = y) (b : B) : if (!decide (x = y)) = true then A else B := by
  rw [if_neg (by rw [decide_eq_true h]; decide)]
  exact b
/-- a value that is judged as a row: no tuple, or a tuple of values that are told -/
noncomputable def RowL (K : PySem.W.Frag) (H : Hp) (x : V) : Option (List PyData) → Prop
  | none => ∃ k : Kd, Of K H x k ∧ k.isT = false
  | some ds => ∃ a xs, x = .ref a ∧ SqT K H a xs ∧ xs.length = ds.length ∧ ds.length ≤ 1000 ∧ ∀ (i : Nat) y, xs[i]? = some y → ∃ d, ds[i]? = some d ∧ Dp K H y d ∧ Mild d
noncomputable def rowB (t : Bool) (n : Int) : Option (List PyData) → Bool
  | none => false
  | some ds => (decide (n ≤ (ds.length : Int)) && decide (ds.length ≤ 12)) && ds.all (isItemD t)
noncomputable def spIsRowL (K : PySem.W.Frag) : Sp := fun vs H Q _ => ∃ x t n o, vs = [x, .int (num t : Nat), .int n] ∧ RowL K H x o ∧ Q (.bl (rowB t n o)) H
section
variable {P : Program} {w : World} {K : PySem.W.Frag} {mg : Str → Option Value} {base : Heap}
variable {aG dU C CR : Addr} {U : Bool → Addr} {us : Bool → List Addr}
theorem h_law_is_row (T : TxS K mg aG dU C CR) (D : Df K mg "_law_is_row" s__law_is_row) : Has P w K mg base CX0 "_law_is_row" 1 ["_law_value", "_law_around_here", "_law_few"] (spIsRowL K) := by
  refine D.has sc__law_is_row (fun vs H Q E h => ?_) (fun kV doc pm an cdv ct us hl => match us, hl with | [_, _, _], _ => rfl) (fun f cdv A outer s H vs Q E gd hr h => ?_)
  · obtain ⟨x, t, n, o, rfl, _⟩ := h
    rfl
  · obtain ⟨x, t, n, o, rfl, hx, k⟩ := h
    refine ⟨_, (pss_cons
 (ps_if (PW.pt (pw_or (pt_not (pt_val (pe_callB call_isi (by exact rfl) T.zisinstance (by decide +kernel) (pa_cons (pv 0) (pa_cons (pe_bltn (v := .ty "tuple") (by exact rfl) T.ztuple (by decide +kernel) rfl) pa_nil))))) (pw_or1 (pt_not (pt_chain op_le op_le (pv 2) (pe_callB call_len_seq (by exact rfl) T.zlen PySem.boot_len (pa_cons (pv 0) pa_nil)) pe_int))))) (pss_one
 (ps_ret pe_bl)) pss_nil)
 (pss_cons
 (ps_for PassesOwn.never rfl (pi_tup (pv 0)) (pg_name (i := 3) sc__law_is_row.nd rfl (Or.inl rfl)) (pss_cons
 (ps_if (PW.pt (pw_or (pt_not (pt_val (pe_callB call_isi (by exact rfl) T.zisinstance (by decide +kernel) (pa_cons (pv 3) (pa_cons (pe_bltn (v := .ty "tuple") (by exact rfl) T.ztuple (by decide +kernel) rfl) pa_nil))))) (pw_or (pt_cmpR op_ne (pe_callB call_len_seq (by exact rfl) T.zlen PySem.boot_len (pa_cons (pv 3) pa_nil)) pe_int (nomark _)) (pw_or (pt_not (pt_val (pe_callB call_isi (by exact rfl) T.zisinstance (by decide +kernel) (pa_cons (pe_ix ix_tup (pv 3) pe_int (fun _ _ => rfl)) (pa_cons (pe_bltn (v := .ty "str") (by exact rfl) T.zstr (by decide +kernel) rfl) pa_nil))))) (pw_or1 (pt_cmpR op_ne (pe_callB call_len_str (by exact rfl) T.zlen PySem.boot_len (pa_cons (pe_ix ix_tup (pv 3) pe_int (fun _ _ => rfl)) pa_nil)) pe_int (nomark _))))))) (pss_one
 (ps_ret pe_bl)) pss_nil)
 (pss_cons
 (ps_if (PW.pt (pw_or (pt_cmpR op_notIn_sign (pe_ix ix_tup (pv 3) pe_int (fun _ _ => rfl)) pe_str (by rfl)) (pw_or (pt_not (pt_val (pe_callB call_isi (by exact rfl) T.zisinstance (by decide +kernel) (pa_cons (pe_ix ix_tup (pv 3) pe_int (fun _ _ => rfl)) (pa_cons (pe_bltn (v := .ty "int") (by exact rfl) T.zint (by decide +kernel) rfl) pa_nil))))) (pw_or1 (pt_val (pe_callB call_isi (by exact rfl) T.zisinstance (by decide +kernel) (pa_cons (pe_ix ix_tup (pv 3) pe_int (fun _ _ => rfl)) (pa_cons (pe_bltn (v := .ty "bool") (by exact rfl) T.zbool (by decide +kernel) rfl) pa_nil)))))))) (pss_one
 (ps_ret pe_bl)) pss_nil)
 (pss_one
 (ps_if (pt_not (pt_chain op_le op_lt pe_int (pe_ix ix_tup (pv 3) pe_int (fun _ _ => rfl)) (pv 1))) (pss_one
 (ps_ret pe_bl)) pss_nil)))))
 (pss_one
 (ps_ret pe_bl)))), ?_⟩
    dsimp only [cxOf, Cx.nox]
    cases o with
    | none =>
      obtain ⟨kd, on, nt⟩ := hx
      refine ⟨_, rfl, _, _, _, _, _, rfl, .ty _, on, GL.kit_tup _, _, rfl, ?_⟩
      rw [nt]
      exact if_nf (iteT k)
    | some ds =>
    obtain ⟨a, xs, rfl, hs, ln, few, each⟩ := hx
    refine ⟨_, rfl, _, _, _, _, _, rfl, .ty _, tup_of hs, GL.kit_tup _, _, rfl, iteF ?_⟩
    refine ⟨_, rfl, _, rfl, a, xs, rfl, .inr hs, _, _, rfl, rfl, _, rfl, ?_⟩
    have eR : rowB t n (some ds) = ((decide (n ≤ (ds.length : Int)) && decide (ds.length ≤ 12)) && ds.all (isItemD t)) := rfl
    rw [eR] at k
    by_cases c1 : n ≤ (ds.length : Int)
    case neg =>
      rw [decide_eq_false c1, Bool.false_and, Bool.false_and] at k
      rw [decide_eq_false (show ¬ n ≤ (xs.length : Int) by omega)]
      exact iteF ⟨_, rfl, iteT k⟩
    rw [decide_eq_true c1, Bool.true_and] at k
    rw [decide_eq_true (show n ≤ (xs.length : Int) by omega)]
    refine iteT ⟨_, _, rfl, rfl, _, rfl, ?_⟩
    by_cases c2 : ds.length ≤ 12
    case neg =>
      rw [decide_eq_false c2, Bool.false_and] at k
      rw [decide_eq_false (show ¬ (xs.length : Int) ≤ 12 by omega)]
      exact if_nf k
    rw [decide_eq_true c2, Bool.true_and] at k
    rw [decide_eq_true (show (xs.length : Int) ≤ 12 by omega)]
    refine iteF ?_
    have no : ∀ (i : Nat) d, ds[i]? = some d → isItemD t d = false → Q (.bl false) H := fun i d e b => by
      have z : ds.all (isItemD t) = false := by
        rw [List.all_eq_false]
        exact ⟨d, List.mem_of_getElem? e, by rw [b]; decide⟩
      rw [z] at k
      exact k
    refine ⟨_, rfl, a, rfl, ⟨_, hs⟩, for_tup (a := a) (xs := xs) (fun i' σ' H' => ∃ v3, σ' = [some (.ref a), some (.int (num t : Nat)), some (.int n), v3] ∧ H' = H ∧ ∀ d ∈ ds.take i', isItemD t d = true) ⟨none, rfl, rfl, fun it h => by simp at h⟩ (fun i' σ' H' _ ⟨_, _, e, _⟩ => by rw [e]; exact hs) ?_ ?_⟩
    · rintro i' x _ _ hx' ⟨v3, rfl, rfl, oks⟩
      obtain ⟨d, hd, vd, mild⟩ := each i' x hx'
      have bad := no i' d hd
      have good : isItemD t d = true → ∀ e ∈ ds.take (i' + 1), isItemD t e = true := fun b e he => by
        rw [List.take_add_one, hd] at he
        rcases List.mem_append.mp he with z | z
        · exact oks e z
        · have z : e = d := by simpa using z
          rw [z]; exact b
      refine ⟨_, rfl, _, _, _, _, _, rfl, .ty _, (dOf vd), GL.kit_tup _, _, rfl, ?_⟩
      by_cases tp : (kdD d).isT = true
      case neg =>
        rw [Bool.not_eq_true] at tp
        rw [tp]
        refine if_nf (iteT (bad ?_))
        cases d <;> first | rfl | cases tp
      cases d with
      | tuple es =>
        obtain ⟨q, ys, rfl, hq, lq⟩ := dTup vd
        have lny := dLen lq
        refine iteF ⟨_, rfl, q, _, rfl, .inr hq, rfl, _, rfl, ?_⟩
        by_cases h2 : es.length = 2
        case neg =>
          have z : (!decide (V.int (ys.length : Int) = V.int 2)) = true := by rw [decide_eq_false (fun z => h2 (by injection z with z; omega))]; rfl
          show if (!decide (V.int (ys.length : Int) = V.int 2)) = true then _ else _
          rw [z]
          exact iteT (iteT (bad (item_not h2)))
        match es, h2, lq with
        | [d1, d2], _, lq =>
          cases lq with
          | cons l1 l2 => cases l2 with
            | cons l3 l4 =>
              cases l4
              rename_i u v
              have eI : isItemD t (.tuple [d1, d2]) = (isLetD d1 && isTurnD t d2) := rfl
              rw [eI] at bad good
              refine if_ne rfl ?_
              refine ⟨_, rfl, _, _, _, _, rfl, rfl, hq, atI_nat (j := 0) rfl, _, _, _, _, _, rfl, .ty _, dOf l1, GL.kit_str _, _, rfl, ?_⟩
              by_cases s1 : (kdD d1).isS = true
              case neg =>
                rw [Bool.not_eq_true] at s1
                rw [s1]
                refine if_nf (iteT (bad ?_))
                cases d1 <;> first | rfl | cases s1
              cases d1 with
              | str y =>
                obtain rfl := dStr l1
                have sy : y.length ≤ 1000 := mild.2 _ (by simp) y rfl
                refine iteF ⟨_, rfl, _, _, _, _, rfl, rfl, hq, atI_nat (j := 0) rfl, y, rfl, Nat.le_trans sy (by rw [sizeLine_eq]; decide), rfl, _, rfl, ?_⟩
                by_cases y1 : y.length = 1
                case neg =>
                  have z : (!decide (V.int (y.length : Int) = V.int 1)) = true := by rw [decide_eq_false (fun z => y1 (by injection z with z; omega))]; rfl
                  show if (!decide (V.int (y.length : Int) = V.int 1)) = true then _ else _
                  rw [z]
                  refine iteT (bad ?_)
                  show ((decide (y.length = 1) && _) && _) = false
                  rw [decide_eq_false y1]
                  rfl
                obtain ⟨c, rfl⟩ := GL.one_sign y1
                refine if_ne rfl ?_
                have eL : isLetD (.str ⟨#[c]⟩) = (decide (97 ≤ c) && decide (c ≤ 122)) := by
                  show (decide (1 = 1) && ([c].all fun c => decide (97 ≤ c) && decide (c ≤ 122))) = _
                  simp
                rw [eL] at bad good
                refine ⟨_, rfl, _, _, _, _, rfl, rfl, hq, atI_nat (j := 0) rfl, c, _, rfl, rfl, _, rfl, ?_⟩
                rw [letters_mem]
                cases lc : (decide (97 ≤ c) && decide (c ≤ 122)) with
                | false =>
                  rw [lc] at bad
                  exact if_nf (iteT (bad rfl))
                | true =>
                rw [lc, Bool.true_and] at bad good
                refine (iteF ?_ : if (!true) = true then _ else _)
                refine ⟨_, rfl, _, _, _, _, rfl, rfl, hq, atI_nat (j := 1) rfl, _, _, _, _, _, rfl, .ty _, dOf l3, GL.kit_int _, _, rfl, ?_⟩
                by_cases i1 : (kdD d2).isI = true
                case neg =>
                  rw [Bool.not_eq_true] at i1
                  rw [i1]
                  refine if_nf (iteT (bad ?_))
                  cases d2 <;> first | rfl | cases i1
                rw [i1]
                refine (iteF ?_ : if (!true) = true then _ else _)
                refine ⟨_, rfl, _, _, _, _, rfl, rfl, hq, atI_nat (j := 1) rfl, _, _, _, _, _, rfl, .ty _, dOf l3, GL.kit_bool _, _, rfl, ?_⟩
                cases d2 with
                | bool b => exact iteT (bad rfl)
                | int i =>
                  obtain rfl := dInt l3
                  refine iteF ?_
                  refine ⟨_, rfl, _, _, _, _, rfl, rfl, hq, atI_nat (j := 1) rfl, _, _, rfl, rfl, _, rfl, ?_⟩
                  have eT : isTurnD t (.int i) = ((isIntV (.int i) && decide ((0 : Int) ≤ i)) && decide (i < (num t : Int))) := rfl
                  rw [eT] at bad good
                  by_cases i0 : (0 : Int) ≤ i
                  case neg =>
                    rw [decide_eq_false i0] at bad ⊢
                    exact iteF ⟨_, rfl, iteT (bad (by rw [Bool.and_false]; rfl))⟩
                  rw [decide_eq_true i0] at bad good ⊢
                  refine iteT ⟨_, rfl, _, _, rfl, rfl, _, rfl, ?_⟩
                  by_cases it : i < (num t : Int)
                  case neg =>
                    rw [decide_eq_false it] at bad ⊢
                    exact iteT (bad (by rw [Bool.and_false]))
                  rw [decide_eq_true it] at good ⊢
                  have n6 : (num t : Int) ≤ 6 := by cases t <;> decide
                  have nB : isIntV (.int i) = true := short_of (by omega)
                  refine iteF ⟨_, rfl, rfl, good (by rw [nB]; rfl)⟩
                | _ => cases i1
              | _ => cases s1
      | _ => cases tp
    · rintro _ _ ⟨v3, rfl, rfl, oks⟩
      rw [ln, List.take_length] at oks
      rw [List.all_eq_true.mpr oks] at k
      exact k
end
end K13
namespace K13
open PySem PySem.Spec PyProof.Rows L2 GL SkE PySem.GLE LamX
/-- a scheme told by a dict: its grid, its axiom, its rules -/
noncomputable def PlnX (K : PySem.W.Frag) (H : Hp) (q : Addr) (t : Bool) (d : PyData) (o : Option (List (Key × PyData))) : Prop := ∃ ax x, H q = some (.dK [(.inr "grid", .str (nm t)), (.inr "axiom", ax), (.inr "rules", x)]) ∧ Dp K H ax d ∧ MildD d ∧ RuV K H x o
noncomputable def spMadeX (K : PySem.W.Frag) (C : Addr) (U : Bool → Addr) (CR CS eS : Addr) : Sp := fun vs H Q E => ∃ q t d o, vs = [.ref q] ∧ PlnX K H q t d o ∧ ((¬ ∃ r rs, d = rowD r ∧ o = some (entsOf rs) ∧ SchOk t r rs) → Raises H eS E) ∧
  (∀ r rs, d = rowD r → o = some (entsOf rs) → SchOk t r rs → ∀ ss p H', Same H H' → ss.Perm rs → sortedS (ss.map (·.1)) = true → SchAt K C U CR CS H' p t r ss → Q (.ref p) H')
section
variable {P : Program} {w : World} {K : PySem.W.Frag} {mg : Str → Option Value} {base : Heap}
variable {aG dU C CR CS eG eS : Addr} {U : Bool → Addr} {us : Bool → List Addr}
theorem RuV.same {H H' : Hp} {x : V} {o : Option (List (Key × PyData))} (h : RuV K H x o) (s : Same H H') : RuV K H' x o := by
  cases o with
  | none =>
    obtain ⟨k, on, n⟩ := h
    exact ⟨k, tyX_same on s, n⟩
  | some ks =>
    obtain ⟨q, kvs, e, hq, en, few, nd⟩ := h
    exact ⟨q, kvs, e, s _ _ hq, _root_.L2.Paired.mapP en fun a b ⟨h1, h2, h3, h4⟩ => ⟨h1, dp_same (wo_same1 s) h2, h3, h4⟩, few, nd⟩
theorem go_scheme {H1 : Hp} {g : Addr} {ax x : V} {t : Bool} {d : PyData} {o : Option (List (Key × PyData))} {Q : Addr → Hp → Prop} {E : XK} (gr : GridAt C U H1 g t) (ha : Dp K H1 ax d) (mild : MildD d) (rv : RuV K H1 x o)
    (bad : (¬ ∃ r rs, d = rowD r ∧ o = some (entsOf rs) ∧ SchOk t r rs) → Raises H1 eS E) (good : ∀ r rs, d = rowD r → o = some (entsOf rs) → SchOk t r rs → ∀ ss p H', H1 p = none → Same H1 H' → ss.Perm rs → sortedS (ss.map (·.1)) = true → SchAt K C U CR CS H' p t r ss → Q p H') :
    ∀ q dq, H1 q = none → H1 dq = none → dq ≠ q → spSInit K C U CR CS eS (.ref q :: ([.ref g, ax, x] ++ [])) (upd (upd H1 dq (.own q)) q (.ins CS dq [])) (fun v H2 => v = .non ∧ Q q H2) E := by
  intro R dR nR nd ne
  have fm := made_same (D := CS) nR nd ne
  exact ⟨R, dR, g, t, ax, d, x, o, rfl, upd_same, gr.same fm, dp_same fm ha, mild, rv.same fm, fun no H' s => bad no H' (fm.trans s), fun r rs e1 e2 ok ss H4 keep pm srt sch => ⟨rfl, good r rs e1 e2 ok ss R H4 nR (made_keep nR fm keep) pm srt sch⟩⟩
end
end K13
namespace K13
open PySem PySem.Spec PyProof.Rows L2 GL SkE
noncomputable abbrev s__law_lines : Stmt := topS 63
noncomputable abbrev N__law_lines : List Str := ["_law_plain_here", "_law_found", "_law_rules", "_law_name"]
theorem sc__law_lines : FnScope N__law_lines ["_law_plain_here"] (defScope s__law_lines) := ⟨rfl, rfl, rfl, by decide +kernel, rfl, by decide +kernel, by decide +kernel⟩
theorem rowW_len {r : RowT} (h : RowW r) : (rowT r).length ≤ 400 := by
  have z := join_max (sep := (" " : Str)) (l := r.map itemT) (n := 3) (fun y hy => by
    obtain ⟨it, hi, rfl⟩ := List.mem_map.mp hy
    unfold itemT
    rw [Str.length_append]
    have l1 := h.let_ it hi
    have l2 := dec_len9 it.2 (h.lo it hi) (by have := h.hi it hi; omega)
    show _ + (Str.ofString (toString it.2)).length ≤ 3
    omega)
  rw [List.length_map, show (" " : Str).length = 1 by decide +kernel] at z
  have m := h.most
  exact Nat.le_trans z (by omega)
noncomputable def spLLines (K : PySem.W.Frag) : Sp := fun vs H Q _ => ∃ q t ax x r rs kvs, vs = [.ref q] ∧ H q = some (.dK [(.inr "grid", .str (nm t)), (.inr "axiom", ax), (.inr "rules", .ref x)]) ∧ Dp K H ax (rowD r) ∧ H x = some (.dK kvs) ∧ RsAt K H kvs rs ∧ (rs.map (·.1)).Nodup ∧ rs.length ≤ 6 ∧ RowW r ∧ (∀ yr ∈ rs, RowW yr.2 ∧ yr.1.length ≤ 2) ∧
  ∀ ss l H', Same H H' → ss.Perm rs → sortedS (ss.map (·.1)) = true → H' l = some (.lst ((linesT t r ss).map V.str)) → Q (.ref l) H'
section
variable {P : Program} {w : World} {K : PySem.W.Frag} {mg : Str → Option Value} {base : Heap}
variable {aG dU C CR CS eG eS : Addr} {U : Bool → Addr} {us : Bool → List Addr}
theorem h_law_lines (T : TxS K mg aG dU C CR) (D : Df K mg "_law_lines" s__law_lines) (h_law_row_text : Has P w K mg base CX0 "_law_row_text" 1 ["_law_row_here"] (spLRowText K)) : Has P w K mg base CX0 "_law_lines" 2 ["_law_plain_here"] (spLLines K) := by
  refine D.has sc__law_lines (fun vs H Q E h => ?_) (fun kV doc pm an cdv ct us hl => match us, hl with | [_], _ => rfl) (fun f cdv A outer s H vs Q E gd hr h => ?_)
  · obtain ⟨q, t, ax, x, r, rs, kvs, rfl, _⟩ := h
    rfl
  · obtain ⟨q, t, ax, x, r, rs, kvs, rfl, hq, ha, hx, rsa, nd, six, rw_, rws, k⟩ := h
    have hu := hr.units
    refine ⟨_, (pss_cons
 (ps_asg (pe_tup (pa_cons (pe_lst (pa_cons (pe_op op_add_str pe_str (pe_dget (Nat.lt_of_le_of_lt (Nat.add_le_add_left (by decide) _) hu) (pv 0) pe_str (fun _ _ => rfl))) (pa_cons (pe_op op_add_str pe_str (pe_callH h_law_row_text gd (hr.mono (by decide)) pass0 (pa_cons (pe_dget (Nat.lt_of_le_of_lt (Nat.add_le_add_left (by decide) _) hu) (pv 0) pe_str (fun _ _ => rfl)) pa_nil))) pa_nil))) (pa_cons (pe_dget (Nat.lt_of_le_of_lt (Nat.add_le_add_left (by decide) _) hu) (pv 0) pe_str (fun _ _ => rfl)) pa_nil))) (pg_tup (by rfl) (pgs_cons (pg_name (i := 1) sc__law_lines.nd rfl (Or.inl rfl)) (pgs_cons (pg_name (i := 2) sc__law_lines.nd rfl (Or.inr rfl)) pgs_nil))))
 (pss_one
 (ps_ret (pe_op op_cat (pv 1) (pe_lc (own := [("_law_name", 3)]) (g := gName 3) (tt := tYes) (by rfl) sc__law_lines.nd (pi_list (pe_callB (call_sortedD (by rfl)) (by exact rfl) T.zsorted (by decide +kernel) (pa_cons (pv 2) pa_nil))) (blkOk_by (own := [("_law_name", 3)]) (N := N__law_lines) (sc := defScope s__law_lines) (by decide +kernel)) (fun _ _ _ _ _ => pg_name (i := 3) sc__law_lines.nd rfl (Or.inl rfl)) (fun _ _ _ _ _ => pts_nil) (fun _ _ _ _ _ => (pe_op op_add_str (pe_op op_add_str (pe_op op_add_str pe_str (pv 3)) pe_str) (pe_callH h_law_row_text gd (hr.mono (by decide)) pass0 (pa_cons (pe_dget (Nat.lt_of_le_of_lt (Nat.add_le_add_left (by decide) _) hu) (pv 2) (pv 3) (fun _ _ => rfl)) pa_nil))))))))), ?_⟩
    try dsimp only [cxOf, Cx.nox]
    have g1 : DGet H q (.str "grid") (some (.str (nm t))) := DGet.k (k := .inr "grid") hq
    have g2 : DGet H q (.str "axiom") (some ax) := DGet.k (k := .inr "axiom") hq
    have g3 : ∀ {H'}, Same H H' → DGet H' q (.str "rules") (some (.ref x)) := fun s => DGet.k (k := .inr "rules") (s _ _ hq)
    have lg : (Str.ofString "grid ").length = 5 := by decide +kernel
    have la : (Str.ofString "axiom ").length = 6 := by decide +kernel
    have lt := rowW_len rw_
    have ln : (nm t).length ≤ 8 := by cases t <;> decide +kernel
    refine ⟨_, rfl, q, _, rfl, g1, _, _, rfl, rfl, by rw [lg, sizeLine_eq]; omega, ?_⟩
    refine ⟨_, rfl, q, _, rfl, g2, ax, r, rfl, ha, rw_, fun H1 s1 => ⟨_, _, rfl, rfl, by rw [la, sizeLine_eq]; omega, ?_⟩⟩
    refine ⟨by show 2 ≤ sizeLine; decide, fun L nL => ⟨_, rfl, q, _, rfl, g3 (s1.trans (Same.new nL)), by show 2 ≤ sizeLine; decide, fun T0 nT => ?_⟩⟩
    have sL := Same.new (o := .lst [.str (Str.ofString "grid " ++ nm t), .str (Str.ofString "axiom " ++ rowT r)]) nL
    have eL := Same.new (o := .tup [.ref L, .ref x]) nT _ _ (upd_same : upd H1 L (.lst [.str (Str.ofString "grid " ++ nm t), .str (Str.ofString "axiom " ++ rowT r)]) L = some _)
    have s2 := (s1.trans sL).trans (Same.new (o := .tup [.ref L, .ref x]) nT)
    refine ⟨T0, _, rfl, SqT.of upd_same, rfl, _, _, rfl, _, _, rfl, rfl, ?_⟩
    generalize upd (upd H1 L (.lst [.str (Str.ofString "grid " ++ nm t), .str (Str.ofString "axiom " ++ rowT r)])) T0 (.tup [.ref L, .ref x]) = H2 at *
    refine ⟨_, rfl, _, rfl, x, kvs, rs.map (·.1), rfl, .inl (s2 _ _ hx), by rw [rs_keys rsa, List.map_map]; rfl, by rw [List.length_map]; omega, fun ys Ly perm srt nLy => ?_⟩
    have eLy : upd H2 Ly (.lst (ys.map V.str)) Ly = some (.lst (ys.map V.str)) := upd_same
    have s3 := s2.trans (Same.new (o := .lst (ys.map V.str)) nLy)
    replace eL := Same.new (o := .lst (ys.map V.str)) nLy _ _ eL
    generalize upd H2 Ly (.lst (ys.map V.str)) = H3 at *
    have lys : ys.length = rs.length := by rw [perm.length_eq, List.length_map]
    have pss := ss_perm nd perm
    refine ⟨Ly, rfl, ⟨_, SqL.of eLy⟩, fun DL nDL => loop_list (a := Ly) (xs := ys.map V.str) (fun i H' => Same H3 H' ∧ H' DL = some (.lst (((ys.take i).map fun y => ruleT (y, rowOf rs y)).map V.str))) ⟨Same.new nDL, upd_same⟩ (fun i H' _ h => SqL.of (h.1 _ _ eLy)) ?_ ?_⟩
    · rintro i z H' hz ⟨s', eD⟩
      obtain ⟨y, hy, rfl⟩ := str_at' hz
      obtain ⟨v, ev, dv, mem⟩ := rs_get rsa nd (perm.mem_iff.mp (List.mem_of_getElem? hy))
      have get : DGet H' x (.str y) (valV kvs (.inr y)) := DGet.k (k := (.inr y : Key)) (s' _ _ (s3 _ _ hx))
      rw [ev] at get
      obtain ⟨rw2, ly2⟩ := rws _ mem
      have lr : (rowT (rowOf rs y)).length ≤ 400 := rowW_len rw2
      have ly2 : y.length ≤ 2 := ly2
      have lt2 := (List.getElem?_eq_some_iff.mp hy).1
      have k1 : (Str.ofString "rule ").length = 5 := by decide +kernel
      have k2 : (Str.ofString " ").length = 1 := by decide +kernel
      refine ⟨rfl, ?_⟩
      simp only [tYes, if_true]
      refine ⟨_, rfl, _, _, rfl, rfl, by rw [k1, sizeLine_eq]; omega, _, _, rfl, rfl, by rw [strLen_append, k1, k2, sizeLine_eq]; omega, _, rfl, _, rfl, x, v, rfl, get, v, rowOf rs y, rfl, dp_same (s3.trans s') dv, rw2, fun H4 s4 => ⟨_, _, rfl, rfl, by rw [strLen_append, strLen_append, k1, k2, sizeLine_eq]; omega, _, s4 _ _ eD, ?_, Same.over (s'.trans s4) nDL _, ?_⟩⟩
      · rw [List.length_map, List.length_map, List.length_take, sizeLine_eq]
        omega
      · rw [upd_same, List.take_add_one, hy, List.map_append, List.map_append]
        show _ = some (HO.lst (_ ++ [V.str (ruleT (y, rowOf rs y))]))
        unfold ruleT
        rw [Str.empty_append]
    · rintro H' ⟨s', eD⟩
      rw [List.length_map, List.take_length] at eD
      refine ⟨L, DL, _, _, rfl, rfl, s' _ _ eL, eD, by rw [List.length_map, List.length_map, sizeLine_eq]; show 2 + _ ≤ _; omega, fun R nR => k (ssOf rs ys) R _ ((s3.trans s').trans (Same.new nR)) pss (by rw [ss_keys]; exact srt) ?_⟩
      rw [upd_same]
      unfold linesT ssOf
      rw [Str.empty_append, Str.empty_append, List.map_append, List.map_map (f := fun y => (y, rowOf rs y))]
      rfl
end
end K13
namespace K13
open PySem PySem.Spec PyProof.Rows L2 GL SkE
noncomputable abbrev s__law_is_scheme : Stmt := topS 73
noncomputable abbrev N__law_is_scheme : List Str := ["_law_own", "_law_around_here", "_law_rules", "_law_name", "_law_row_here", "_law_sums", "_law_turn"]
theorem sc__law_is_scheme : FnScope N__law_is_scheme ["_law_own"] (defScope s__law_is_scheme) := ⟨rfl, rfl, rfl, by decide +kernel, rfl, by decide +kernel, by decide +kernel⟩
theorem one_row {t : Bool} {y : Str} : rowB t 1 (some ([(y, (0 : Int))].map itemD)) = LetS y := by
  show ((decide ((1 : Int) ≤ 1) && decide (1 ≤ 12)) && (isItemD t (itemD (y, 0)) && true)) = LetS y
  rw [Bool.and_true]
  show (true && (LetS y && isTurnD t (.int 0))) = LetS y
  rw [turn_ok (by decide) (by cases t <;> decide), Bool.and_true, Bool.true_and]
theorem strs_shaped {ys : List Str} (h : ∀ y ∈ ys, PyData.strOk y = true) : SeqAt.shaped (.list (ys.map PyData.str)) = true := by
  unfold SeqAt.shaped
  simp [PyData.canLay0, strs_lays h, PyData.depth, strs_deep]
theorem sqT_wo5 {K : PySem.W.Frag} {H : Hp} {D a : Addr} {zs : List V} {u : Int × Int} (e : H D = some (.lst zs)) (h : PAt K H a u) : PAt K (wo D H) a u := by
  rcases h with (z | ⟨o, z⟩) | z
  · exact .inl (.inl (wo_at z (fun q => by rw [q, e] at z; cases z)))
  · exact .inl (.inr ⟨o, wo_at z (fun q => by rw [q, e] at z; cases z)⟩)
  · exact .inr z
theorem flat_one {z : V} : ∀ n : Nat, (List.replicate n [z]).flatten = List.replicate n z
  | 0 => rfl
  | n + 1 => by rw [List.replicate_succ, List.replicate_succ, List.flatten_cons, flat_one n]; rfl
theorem rep_dp {K : PySem.W.Frag} {H : Hp} {z : V} {u : Int × Int} (h : Dp K H z (ptD u)) : ∀ {n : Nat}, DpAll K H (List.replicate n z) ((List.replicate n u).map ptD)
  | 0 => .nil
  | n + 1 => .cons h (rep_dp h)
/-- for k in a locked dict -/
theorem for_keys {p : Addr} {od : Obj} {kvs : List (Key × V)} {g : TG} {tb : TS} {D : Ends} {σ : L2.St} {H : Hp} (Pv : Nat → L2.St → Hp → Prop) (h0 : Pv 0 σ H) (hl : ∀ i σ H, i ≤ kvs.length → Pv i σ H → H p = some (.frz od (.dK kvs)))
    (hs : ∀ i k v σ H, kvs[i]? = some (k, v) → Pv i σ H → g (kV k) σ H fun σ2 H2 => tb { D with nx := Pv (i + 1), ct := Pv (i + 1), bk := D.nx } σ2 H2) (hd : ∀ σ H, Pv kvs.length σ H → D.nx σ H) :
    ∃ W : Nat → Nat → L2.St → Hp → Prop, (∃ m, W 0 m σ H) ∧ ∀ i m σ H, W i m σ H →
      ((Itk p od kvs).stop i H ∧ D.nx σ H) ∨ ((Itk p od kvs).go i H ∧ ∃ N : L2.St → Hp → Prop, (∀ σ' H', N σ' H' → ∃ m', m' < m ∧ W (i + 1) m' σ' H') ∧ ∀ x H', (Itk p od kvs).yld i H x H' → g x σ H' fun σ2 H2 => tb { D with nx := N, ct := N, bk := D.nx } σ2 H2) := by
  refine ⟨fun i m σ H => m = kvs.length - i ∧ i ≤ kvs.length ∧ Pv i σ H, ⟨kvs.length, by simp, Nat.zero_le _, h0⟩, ?_⟩
  rintro i m σ H ⟨rfl, hi, q⟩
  have here := hl i σ H hi q
  by_cases hlt : i < kvs.length
  · refine .inr ⟨⟨here, hlt⟩, Pv (i + 1), fun σ' H' p' => ⟨kvs.length - (i + 1), by omega, rfl, hlt, p'⟩, fun x H' y => ?_⟩
    obtain ⟨rfl, k, v, e, rfl⟩ := y
    exact hs i k v σ _ e q
  · have e : i = kvs.length := by omega
    subst e
    exact .inl ⟨⟨here, Nat.le_refl _⟩, hd σ H q⟩
noncomputable def spIsSch (K : PySem.W.Frag) : Sp := fun vs H Q _ => ∃ q t ax x r rs kvs, vs = [.ref q] ∧ H q = some (.dK [(.inr "grid", .str (nm t)), (.inr "axiom", ax), (.inr "rules", .ref x)]) ∧ Dp K H ax (rowD r) ∧ H x = some (.dK kvs) ∧ RsAt K H kvs rs ∧ (rs.map (·.1)).Nodup ∧ rs.length ≤ 20 ∧ RowW r ∧ (∀ yr ∈ rs, RowW yr.2 ∧ yr.1.length ≤ 2) ∧ (∀ row ∈ r :: rs.map (·.2), ∀ it ∈ row, PyData.strOk it.1 = true) ∧
  (SchOk t r rs → ∀ H', Same H H' → Q (.bl true) H') ∧ (¬ SchOk t r rs → ∀ H', Same H H' → Q (.bl false) H')
theorem rowL_of {K : PySem.W.Frag} {H : Hp} {x : V} {r : RowT} (h : Dp K H x (rowD r)) (w : RowW r) : RowL K H x (some (r.map itemD)) := by
  obtain ⟨a, xs, rfl, hs, l⟩ := dTup h
  have m := w.most
  refine ⟨a, xs, rfl, hs, dLen l, by rw [List.length_map]; omega, fun i y e => ?_⟩
  obtain ⟨d, hd, dy⟩ := dAt l e
  refine ⟨d, hd, dy, ?_⟩
  obtain ⟨it, mi, rfl⟩ := List.mem_map.mp (List.mem_of_getElem? hd)
  refine ⟨by show 2 ≤ 1000; decide, fun d' hd' y' e' => ?_⟩
  simp only [List.mem_cons, List.not_mem_nil, or_false] at hd'
  rcases hd' with rfl | rfl
  · cases e'
    have := w.let_ it mi
    show it.1.length ≤ 1000
    omega
  · cases e'
section
variable {P : Program} {w : World} {K : PySem.W.Frag} {mg : Str → Option Value} {base : Heap}
variable {aG dU C CR CS eG eS : Addr} {U : Bool → Addr} {us : Bool → List Addr}
theorem h_law_is_scheme (T : TxS K mg aG dU C CR) (D : Df K mg "_law_is_scheme" s__law_is_scheme) (h_law_around : Has P w K mg base CX0 "_law_around" 1 ["_law_plain_here"] spAroundS) (h_law_is_row : Has P w K mg base CX0 "_law_is_row" 1 ["_law_value", "_law_around_here", "_law_few"] (spIsRowL K)) (h_law_sum : Has P w K mg base CX0 "_law_sum" 2 ["_law_plain_here", "_law_row_here"] (spSumS K)) (h_law_norm : Has P w K mg base CX0 "_law_norm" 1 ["_law_plain_here", "_law_point"] (spNormS K)) :
    Has P w K mg base CX0 "_law_is_scheme" 3 ["_law_own"] (spIsSch K) := by
  refine D.has sc__law_is_scheme (fun vs H Q E h => ?_) (fun kV doc pm an cdv ct us hl => match us, hl with | [_], _ => rfl) (fun f cdv A outer s H vs Q E gd hr h => ?_)
  · obtain ⟨q, t, ax, x, r, rs, kvs, rfl, _⟩ := h
    rfl
  · obtain ⟨q, t, ax, x, r, rs, kvs, rfl, hq, ha, hx, rsa, nd, few, rw_, rws, sok, k1, k0⟩ := h
    have hu := hr.units
    refine ⟨_, (pss_cons
 (ps_asg (pe_tup (pa_cons (pe_callH h_law_around gd (hr.mono (by decide)) pass0 (pa_cons (pv 0) pa_nil)) (pa_cons (pe_dget (Nat.lt_of_le_of_lt (Nat.add_le_add_left (by decide) _) hu) (pv 0) pe_str (fun _ _ => rfl)) pa_nil))) (pg_tup (by rfl) (pgs_cons (pg_name (i := 1) sc__law_is_scheme.nd rfl (Or.inl rfl)) (pgs_cons (pg_name (i := 2) sc__law_is_scheme.nd rfl (Or.inr rfl)) pgs_nil))))
 (pss_cons
 (ps_if (PW.pt (pw_or (pt_not (pt_val (pe_callH h_law_is_row gd (hr.mono (by decide)) pass0 (pa_cons (pe_dget (Nat.lt_of_le_of_lt (Nat.add_le_add_left (by decide) _) hu) (pv 0) pe_str (fun _ _ => rfl)) (pa_cons (pv 1) (pa_cons pe_int pa_nil)))))) (pw_or1 (pt_not (pt_chain op_le op_le pe_int (pe_callB call_lenD (by exact rfl) T.zlen PySem.boot_len (pa_cons (pv 2) pa_nil)) pe_int))))) (pss_one
 (ps_ret pe_bl)) pss_nil)
 (pss_cons
 (ps_lock (ps_for PassesOwn.never rfl (pi_keys (pv 2)) (pg_name (i := 3) sc__law_is_scheme.nd rfl (Or.inl rfl)) (pss_one
 (ps_if (PW.pt (pw_or (pt_not (pt_val (pe_callH h_law_is_row gd (hr.mono (by decide)) pass0 (pa_cons (pe_tup (pa_cons (pe_tup (pa_cons (pv 3) (pa_cons pe_int pa_nil))) pa_nil)) (pa_cons (pv 1) (pa_cons pe_int pa_nil)))))) (pw_or1 (pt_not (pt_val (pe_callH h_law_is_row gd (hr.mono (by decide)) pass0 (pa_cons (pe_dget (Nat.lt_of_le_of_lt (Nat.add_le_add_left (by decide) _) hu) (pv 2) (pv 3) (fun _ _ => rfl)) (pa_cons (pv 1) (pa_cons pe_int pa_nil))))))))) (pss_one
 (ps_ret pe_bl)) pss_nil))))
 (pss_cons
 (ps_for PassesOwn.never rfl (pi_list (pe_op op_cat (pe_lst (pa_cons (pe_dget (Nat.lt_of_le_of_lt (Nat.add_le_add_left (by decide) _) hu) (pv 0) pe_str (fun _ _ => rfl)) pa_nil)) (pe_listVals (by exact rfl) (pv 2) (by exact rfl) T.zlist (by decide +kernel)))) (pg_name (i := 4) sc__law_is_scheme.nd rfl (Or.inl rfl)) (pss_one
 (ps_if (pt_cmpR (op_neD hu) (pe_lc (own := [("_law_name", 3), ("_law_turn", 6)]) (g := (gTup K 2 (gCons (gName 3) (gCons (gName 6) gNil)))) (tt := _) (by rfl) sc__law_is_scheme.nd (pi_tup (pv 4)) (blkOk_by (own := [("_law_name", 3), ("_law_turn", 6)]) (N := N__law_is_scheme) (sc := defScope s__law_is_scheme) (by decide +kernel)) (fun _ _ _ _ _ => (pg_tupK (K0 := K) (n := 2) (by exact rfl) (by rfl) (pgs_cons (pg_name (i := 3) sc__law_is_scheme.nd rfl (Or.inl rfl)) (pgs_cons (pg_name (i := 6) sc__law_is_scheme.nd rfl (Or.inl rfl)) pgs_nil)))) (fun _ _ _ _ _ => pts_one (pt_cmp (pc_dnotin (Nat.lt_of_le_of_lt (Nat.add_le_add_left (by decide) _) hu) (pv 3) (pv 2)))) (fun _ _ _ _ _ => (pv 3))) (pe_lst pa_nil) (nomark _)) (pss_one
 (ps_ret pe_bl)) pss_nil)))
 (pss_cons
 (ps_lock (ps_setLc (i := 5) (own := [("_law_name", 3)]) (g := gName 3) (tt := tYes) (by rfl) sc__law_is_scheme.nd rfl rfl (sw_true rfl rfl rfl (by decide +kernel)) (pi_keys (pv 2)) (blkOk_by (own := [("_law_name", 3)]) (N := N__law_is_scheme) (sc := defScope s__law_is_scheme) (by decide +kernel)) (fun _ _ _ _ _ => pg_name (i := 3) sc__law_is_scheme.nd rfl (Or.inl rfl)) (fun _ _ _ _ _ => pts_nil) (fun _ _ _ _ _ => (pe_callH h_law_sum gd (hr.mono (by decide)) pass0 (pa_cons (pv 0) (pa_cons (pe_dget (Nat.lt_of_le_of_lt (Nat.add_le_add_left (by decide) _) hu) (pv 2) (pv 3) (fun _ _ => rfl)) pa_nil))))))
 (pss_one
 (ps_ret (pe_and (pe_cmpR (op_eqD hu) (pv 5) (pe_op op_rep (pe_slice sl_list (pv 5) po_none (po_some pe_int)) (pe_callB call_len_seq (by exact rfl) T.zlen PySem.boot_len (pa_cons (pv 5) pa_nil))) (nomark _)) (pe_one (pe_cmpR op_ge (pe_callH h_law_norm gd (hr.mono (by decide)) pass0 (pa_cons (pv 0) (pa_cons (pe_ix ix_list (pv 5) pe_int (fun _ _ => rfl)) pa_nil))) pe_int (nomark _))))))))))), ?_⟩
    try dsimp only [cxOf, Cx.nox]
    have gr : GrAt H q t := ⟨DGet.k (k := .inr "grid") hq⟩
    have g2 : ∀ {H'}, Same H H' → DGet H' q (.str "axiom") (some ax) := fun s => DGet.k (k := .inr "axiom") (s _ _ hq)
    have g3 : DGet H q (.str "rules") (some (.ref x)) := DGet.k (k := .inr "rules") hq
    refine ⟨_, rfl, q, t, rfl, gr, ?_⟩
    refine ⟨_, rfl, q, _, rfl, g3, by show 2 ≤ sizeLine; decide, fun T0 nT => ?_⟩
    have s1 := Same.new (o := .tup [.int (num t : Nat), .ref x]) nT
    refine ⟨T0, _, rfl, SqT.of upd_same, rfl, _, _, rfl, _, _, rfl, rfl, ?_⟩
    generalize upd H T0 (.tup [.int (num t : Nat), .ref x]) = H1 at *
    refine ⟨_, rfl, q, _, rfl, g2 s1, _, rfl, ax, t, 1, _, rfl, rowL_of (dp_same s1 ha) rw_, _, rfl, ?_⟩
    have lk : kvs.length = rs.length := Paired.length rsa
    have ndk : (kvs.map (·.1)).Nodup := by rw [rs_keys rsa]; exact rkeys_nd nd
    have eA : rowB t 1 (some (r.map itemD)) = isRowD t 1 (rowD r) := rfl
    rw [eA]
    cases b1 : isRowD t 1 (rowD r) with
    | false =>
      refine iteT (k0 (fun ok => ?_) _ s1)
      rw [isRow_row.mpr ⟨by have := ok.one; omega, ok.ax⟩] at b1
      cases b1
    | true =>
    obtain ⟨ax1, axs⟩ := isRow_row.mp b1
    refine (iteF ?_ : if (!true) = true then _ else _)
    refine ⟨_, rfl, x, kvs, rfl, s1 _ _ hx, _, _, rfl, rfl, _, rfl, ?_⟩
    by_cases c1 : 1 ≤ rs.length
    case neg =>
      rw [decide_eq_false (show ¬ (1 : Int) ≤ (kvs.length : Int) by omega)]
      exact iteF ⟨_, rfl, iteT (k0 (fun ok => c1 ok.lo) _ s1)⟩
    rw [decide_eq_true (show (1 : Int) ≤ (kvs.length : Int) by omega)]
    refine iteT ⟨_, _, rfl, rfl, _, rfl, ?_⟩
    by_cases c2 : rs.length ≤ 6
    case neg =>
      rw [decide_eq_false (show ¬ (kvs.length : Int) ≤ 6 by omega)]
      exact if_nf (k0 (fun ok => c2 ok.hi) _ s1)
    rw [decide_eq_true (show (kvs.length : Int) ≤ 6 by omega)]
    refine (iteF ?_ : if (!true) = true then _ else _)
    have hx1 := s1 _ _ hx
    refine ⟨x, _, hx1, trivial, fun od => ?_⟩
    have fB : upd H1 x (.frz od (.dK kvs)) x = some (.frz od (.dK kvs)) := upd_same
    have dkB : DK H (upd H1 x (.frz od (.dK kvs))) := (DK.of s1).trans (.put hx1 rfl)
    refine ⟨_, rfl, x, od, rfl, .inl ⟨kvs, fB, for_keys (p := x) (od := od) (kvs := kvs) (fun i σ' H' => ∃ v3, σ' = [some (.ref q), some (.int (num t : Nat)), some (.ref x), v3, none, none, none] ∧ Same (upd H1 x (.frz od (.dK kvs))) H' ∧ ∀ yr ∈ rs.take i, LetS yr.1 = true ∧ RowOk t yr.2) ⟨none, rfl, same_rfl, fun _ h => by simp at h⟩ (fun i σ' H' _ h => let ⟨_, _, h, _⟩ := h; h _ _ fB) ?_ ?_⟩⟩
    · rintro i k v _ H' e ⟨v3, rfl, s', oks⟩
      obtain ⟨yr, eyr, rfl, dv, _⟩ := rs_at rsa e
      have mem := List.mem_of_getElem? eyr
      obtain ⟨rw2, l2⟩ := rws yr mem
      have get : DGet H' x (.str yr.1) (valV kvs (.inr yr.1)) := .inl ⟨kvs, .inr yr.1, .inr ⟨od, s' _ _ fB⟩, rfl, rfl⟩
      rw [valV_at ndk e] at get
      have bad : (¬ (LetS yr.1 = true ∧ RowOk t yr.2)) → ∀ H3, Same (upd H1 x (.frz od (.dK kvs))) H3 → H3 x = some (.frz od (.dK kvs)) ∧ Q (.bl false) (upd H3 x (.dK kvs)) := fun no H3 s3 => ⟨s3 _ _ fB, k0 (fun ok => no ⟨ok.lets yr mem, ok.rows yr mem⟩) _ (s1.trans (lock_out hx1 s3))⟩
      rw [show kV (.inr yr.1) = V.str yr.1 from rfl]
      refine ⟨_, rfl, by show 2 ≤ sizeLine; decide, fun T1 n1 => ⟨by show 1 ≤ sizeLine; decide, fun T2 n2 => ?_⟩⟩
      have e1 := Same.new (o := .tup [.ref T1]) n2 _ _ (upd_same : upd H' T1 (.tup [.str yr.1, .int 0]) T1 = some _)
      have sT := (s'.trans (Same.new (o := .tup [.str yr.1, .int 0]) n1)).trans (Same.new (o := .tup [.ref T1]) n2)
      have d2 : Dp K (upd (upd H' T1 (.tup [.str yr.1, .int 0])) T2 (.tup [.ref T1])) (.ref T2) (rowD [(yr.1, 0)]) := .tup (SqT.of upd_same) (.cons (itemDp (it := (yr.1, 0)) (SqT.of e1)) .nil)
      replace get := dget_same get ((Same.new (o := .tup [.str yr.1, .int 0]) n1).trans (Same.new (o := .tup [.ref T1]) n2))
      generalize upd (upd H' T1 (.tup [.str yr.1, .int 0])) T2 (.tup [.ref T1]) = H4 at *
      refine ⟨_, rfl, _, t, 1, _, rfl, rowL_of (r := [(yr.1, 0)]) d2 ⟨by show 1 ≤ 100; decide, fun it h => by rw [List.mem_singleton.mp h]; exact l2, fun it h => by rw [List.mem_singleton.mp h]; show (0 : Int) ≤ 0; decide, fun it h => by rw [List.mem_singleton.mp h]; show (0 : Int) ≤ 9; decide⟩, _, rfl, ?_⟩
      rw [one_row]
      cases bl : LetS yr.1 with
      | false => exact iteT (bad (fun z => by rw [bl] at z; cases z.1) H4 sT)
      | true =>
      refine (iteF ?_ : if (!true) = true then _ else _)
      refine ⟨_, rfl, _, rfl, x, _, rfl, get, _, rfl, _, t, 2, _, rfl, rowL_of (dp_dk (dkB.trans (.of sT)) dv) rw2, _, rfl, ?_⟩
      have eR : rowB t 2 (some (yr.2.map itemD)) = isRowD t 2 (rowD yr.2) := rfl
      rw [eR]
      cases br : isRowD t 2 (rowD yr.2) with
      | false =>
        refine iteT (bad (fun z => ?_) H4 sT)
        rw [isRow_row.mpr ⟨by have := z.2.two; omega, z.2.most, z.2.all⟩] at br
        cases br
      | true =>
      obtain ⟨r2, rs2⟩ := isRow_row.mp br
      refine (iteF ?_ : if (!true) = true then _ else _)
      refine ⟨_, rfl, sT, fun zr m => ?_⟩
      rw [List.take_add_one, eyr] at m
      rcases List.mem_append.mp m with m | m
      · exact oks zr m
      · have m : zr = yr := by simpa using m
        rw [m]
        exact ⟨bl, by omega, rs2.most, rs2.all⟩
    · rintro _ H' ⟨v3, rfl, s', oks⟩
      rw [lk, List.take_length] at oks
      refine ⟨s' _ _ fB, ?_⟩
      have s2 := s1.trans (lock_out hx1 s')
      have hx2 : upd H' x (.dK kvs) x = some (.dK kvs) := upd_same
      generalize upd H' x (.dK kvs) = H2 at *
      refine ⟨_, rfl, q, _, rfl, g2 s2, by show 1 ≤ sizeLine; decide, fun L nL => ⟨_, rfl, x, kvs, rfl, Same.new nL _ _ hx2, fun L2 nL2 => ?_⟩⟩
      have eL := Same.new (o := .lst (kvs.map (·.2))) nL2 _ _ (upd_same : upd H2 L (.lst [ax]) L = some _)
      have eL2 : upd (upd H2 L (.lst [ax])) L2 (.lst (kvs.map (·.2))) L2 = some (.lst (kvs.map (·.2))) := upd_same
      have s3 := (s2.trans (Same.new (o := .lst [ax]) nL)).trans (Same.new (o := .lst (kvs.map (·.2))) nL2)
      generalize upd (upd H2 L (.lst [ax])) L2 (.lst (kvs.map (·.2))) = H3 at *
      refine ⟨L, L2, _, _, rfl, rfl, eL, eL2, by rw [List.length_map, lk, sizeLine_eq]; show 1 + rs.length ≤ _; omega, fun R nR => ?_⟩
      have eR : upd H3 R (.lst ([ax] ++ kvs.map (·.2))) R = some (.lst ([ax] ++ kvs.map (·.2))) := upd_same
      have s4 := s3.trans (Same.new (o := .lst ([ax] ++ kvs.map (·.2))) nR)
      generalize upd H3 R (.lst ([ax] ++ kvs.map (·.2))) = H4 at *
      have rows : RowsAt K H ([ax] ++ kvs.map (·.2)) (r :: rs.map (·.2)) := .cons ⟨ha, by have := rw_.most; omega⟩ (rows_of rsa)
      have lr := Paired.length rows
      generalize [ax] ++ kvs.map (·.2) = vs at *
      generalize err : r :: rs.map (·.2) = rr at *
      refine ⟨R, rfl, ⟨_, SqL.of eR⟩, for_list (a := R) (xs := vs) (fun i σ' H' => ∃ v3 v4 v6, σ' = [some (.ref q), some (.int (num t : Nat)), some (.ref x), v3, v4, none, v6] ∧ Same H4 H' ∧ ∀ row ∈ rr.take i, row.all (inB rs) = true) ⟨v3, none, none, rfl, same_rfl, fun _ h => by simp at h⟩ (fun i σ' H' _ h => let ⟨_, _, _, _, h, _⟩ := h; SqL.of (h _ _ eR)) ?_ ?_⟩
      · rintro i z _ H' hz ⟨v3, v4, v6, rfl, s', oks2⟩
        obtain ⟨row, hrow, dz, fewr⟩ := rows_at rows hz
        obtain ⟨ar, ys, rfl, hys, lys⟩ := dTup dz
        refine ⟨_, rfl, ar, rfl, ⟨_, sqT_same hys (s4.trans s')⟩, fun D2 nD2 => loop_tup (a := ar) (xs := ys) (fun j H'' => Same H' H'' ∧ H'' D2 = some (.lst ((((row.take j).filter fun it => !inB rs it).map (·.1)).map V.str))) ⟨Same.new nD2, upd_same⟩ (fun j H'' _ h => sqT_same hys ((s4.trans s').trans h.1)) ?_ ?_⟩
        · rintro j z H'' hz2 ⟨s'', eD⟩
          obtain ⟨it, b, hit, rfl, hb⟩ := rowAt lys hz2
          have sA := (s4.trans s').trans s''
          have lt := (List.getElem?_eq_some_iff.mp hit).1
          have get : DGet H'' x (.str it.1) (valV kvs (.inr it.1)) := DGet.k (k := (.inr it.1 : Key)) (sA _ _ hx)
          have len : ((((row.take j).filter fun it => !inB rs it).map (·.1)).map V.str).length < sizeLine := by
            have z := List.length_filter_le (fun it => !inB rs it) (row.take j)
            rw [List.length_map, List.length_map, sizeLine_eq]
            rw [List.length_take] at z
            omega
          refine ⟨b, _, rfl, sqT_same hb sA, rfl, _, _, rfl, _, _, rfl, rfl, rfl, ?_⟩
          refine ⟨_, rfl, _, rfl, x, _, rfl, get, _, rfl, ?_⟩
          rw [rs_in rsa]
          cases bi : inB rs it with
          | true =>
            refine (if_neg (by decide)).mpr ⟨s'', ?_⟩
            rw [eD, List.take_add_one, hit, List.filter_append]
            simp [bi]
          | false =>
            refine (if_pos (by decide)).mpr ⟨_, rfl, _, eD, len, Same.over s'' nD2 _, ?_⟩
            rw [upd_same, List.take_add_one, hit, List.filter_append]
            simp [bi]
        · rintro H'' ⟨s'', eD⟩
          rw [rowLen lys, List.take_length] at eD
          refine ⟨by show 0 ≤ sizeLine; decide, fun L0 nL0 => ⟨.list (((row.filter fun it => !inB rs it).map (·.1)).map PyData.str), .list [], .lst (SqL.of (Same.new nL0 _ _ eD)) dStrs, .lst (SqL.of upd_same) .nil, strs_shaped (fun y hy => ?_), rfl, _, rfl, ?_⟩⟩
          · obtain ⟨it, m, rfl⟩ := List.mem_map.mp hy
            exact sok row (List.mem_of_getElem? hrow) it (List.mem_filter.mp m).1
          have sB := (s'.trans s'').trans (Same.new (o := .lst []) nL0)
          cases ba : row.all (inB rs) with
          | true =>
            have e0 : (row.filter fun it => !inB rs it) = [] := by
              rw [List.filter_eq_nil_iff]
              intro it m
              rw [List.all_eq_true.mp ba it m]
              decide
            rw [e0]
            refine (if_neg (by decide +kernel)).mpr ⟨_, _, _, rfl, sB, fun row' m => ?_⟩
            rw [List.take_add_one, hrow] at m
            rcases List.mem_append.mp m with m | m
            · exact oks2 row' m
            · have m : row' = row := by simpa using m
              rw [m]
              exact ba
          | false =>
            obtain ⟨it, l, el⟩ : ∃ it l, (row.filter fun it => !inB rs it) = it :: l := by
              cases ef : (row.filter fun it => !inB rs it) with
              | nil =>
                rw [List.filter_eq_nil_iff] at ef
                have z : row.all (inB rs) = true := List.all_eq_true.mpr fun it m => by simpa using ef it m
                rw [z] at ba
                cases ba
              | cons it l => exact ⟨it, l, rfl⟩
            rw [el]
            refine (if_pos (by rfl)).mpr (k0 (fun ok => ?_) _ (s4.trans sB))
            have z := ok.compl
            unfold complB at z
            rw [err, List.all_eq_true] at z
            have z := z row (List.mem_of_getElem? hrow)
            rw [z] at ba
            cases ba
      · rintro _ H' ⟨w3, w4, w6, rfl, s', oks2⟩
        rw [lr, List.take_length] at oks2
        have cB : complB r rs = true := by
          unfold complB
          rw [err]
          exact List.all_eq_true.mpr oks2
        have s5 := s4.trans s'
        have hx5 := s5 _ _ hx
        have qx : q ≠ x := fun z => by
          subst z
          rw [hq] at hx
          cases hx
          cases rsa with
          | cons h _ => cases h.2.1
        refine ⟨x, _, hx5, trivial, fun od => ?_⟩
        have fB : upd H' x (.frz od (.dK kvs)) x = some (.frz od (.dK kvs)) := upd_same
        have dkB : DK H (upd H' x (.frz od (.dK kvs))) := (DK.of s5).trans (.put hx5 rfl)
        have gr5 : GrAt (upd H' x (.frz od (.dK kvs))) q t := ⟨DGet.k (k := .inr "grid") ((upd_ne qx).trans (s5 _ _ hq))⟩
        refine ⟨_, rfl, x, od, rfl, .inl ⟨kvs, fB, fun D5 nD5 => loop_keys (p := x) (od := od) (kvs := kvs) (fun i H3 => Grow K (upd H' x (.frz od (.dK kvs))) D5 ((rs.take i).map fun yr => ptD (sumOf t yr.2)) H3) (by rw [List.take_zero]; exact Grow.start nD5) (fun i H3 _ A => A.same _ _ fB) ?_ ?_⟩⟩
        · rintro i k v H3 e A
          obtain ⟨yr, eyr, rfl, dv, _⟩ := rs_at rsa e
          have mem := List.mem_of_getElem? eyr
          obtain ⟨rw2, l2⟩ := rws yr mem
          have get : DGet H3 x (.str yr.1) (valV kvs (.inr yr.1)) := .inl ⟨kvs, .inr yr.1, .inr ⟨od, A.same _ _ fB⟩, rfl, rfl⟩
          rw [valV_at ndk e] at get
          obtain ⟨xs, eD, lD⟩ := A.ex
          have lt := (List.getElem?_eq_some_iff.mp eyr).1
          refine ⟨rfl, ?_⟩
          simp only [tYes, if_true]
          refine ⟨_, rfl, _, rfl, _, rfl, x, _, rfl, get, q, t, _, yr.2, rfl, gr5.same A.same, dp_dk (dkB.trans (.of A.same)) dv, rw2.most, fun a H6 s6 pa => ⟨xs, s6 _ _ eD, ?_, ?_⟩⟩
          · rw [A.len eD, List.length_map, List.length_take, sizeLine_eq]
            omega
          · rw [List.take_add_one, eyr]
            show Grow K _ D5 ((rs.take i ++ [yr]).map _) _
            rw [List.map_append]
            exact (A.ext s6).push (s6 _ _ eD) (ptD_at (sqT_wo5 (s6 _ _ eD) pa))
        · intro H3 A
          rw [lk, List.take_length] at A
          obtain ⟨xs, eD, lD⟩ := A.ex
          refine ⟨A.same _ _ fB, ?_⟩
          have s6 : Same H' (upd H3 x (.dK kvs)) := lock_out hx5 A.same
          have nDx : D5 ≠ x := fun z => by rw [z, fB] at nD5; cases nD5
          have eD6 : upd H3 x (.dK kvs) D5 = some (.lst xs) := (upd_ne nDx).trans eD
          have l6 : DpAll K (upd H3 x (.dK kvs)) xs ((rs.map fun yr => sumOf t yr.2).map ptD) := by
            rw [List.map_map]
            exact dps_dk ((DK.of wo_same).trans (.put (A.same _ _ fB) rfl)) lD
          generalize upd H3 x (.dK kvs) = H6 at *
          have s06 := s5.trans s6
          have lx := dLen l6
          rw [List.length_map, List.length_map] at lx
          refine ⟨_, rfl, _, rfl, _, rfl, D5, xs, rfl, SqL.of eD6, fun S nS => ?_⟩
          have eD7 := Same.new (o := .lst (cutV xs none (some 1))) nS _ _ eD6
          refine ⟨_, rfl, D5, xs, rfl, .inl (SqL.of eD7), ?_⟩
          obtain ⟨y0, rs', ers⟩ : ∃ y0 rs', rs = y0 :: rs' := match rs, c1 with | y :: r, _ => ⟨y, r, rfl⟩
          have m0 : y0 ∈ rs := by rw [ers]; exact List.mem_cons_self
          obtain ⟨a0, xs', exs, pz⟩ : ∃ a0 xs', xs = .ref a0 :: xs' ∧ PAt K H6 a0 (sumOf t y0.2) := by
            rw [ers] at l6
            cases l6 with
            | cons h1 h2 =>
              obtain ⟨a, rfl, pa⟩ := dPt h1
              exact ⟨a, _, rfl, pa⟩
          have cut : cutV xs none (some 1) = [.ref a0] := by rw [exs]; rfl
          rw [cut] at eD7 ⊢
          refine ⟨S, (xs.length : Int), [.ref a0], rfl, rfl, upd_same, by omega, by omega, by rw [sizeLine_eq]; show 1 * _ ≤ _; omega, fun R2 nR2 => ?_⟩
          have rep : (List.replicate ((xs.length : Int)).toNat [V.ref a0]).flatten = List.replicate rs.length (V.ref a0) := by rw [Int.toNat_natCast, lx, flat_one]
          rw [rep]
          have s7 := (Same.new (o := .lst [.ref a0]) nS).trans (Same.new (o := .lst (List.replicate rs.length (.ref a0))) nR2)
          have pz7 := sqT_same pz s7
          have eD8 := s7 _ _ eD6
          have l7 := dps_same s7 l6
          refine ⟨.list ((rs.map fun yr => sumOf t yr.2).map ptD), .list ((List.replicate rs.length (sumOf t y0.2)).map ptD), .lst (SqL.of eD8) l7, .lst (SqL.of upd_same) (rep_dp (ptD_at pz7)), ptDs_shaped _, ptDs_shaped _, _, rfl, ?_⟩
          rw [show PyData.eqv (.list ((rs.map fun yr => sumOf t yr.2).map ptD)) (.list ((List.replicate rs.length (sumOf t y0.2)).map ptD)) = decide ((rs.map fun yr => sumOf t yr.2) = List.replicate rs.length (sumOf t y0.2)) by simp only [PyData.eqv]; exact ptDs_eqv _ _]
          by_cases same : (rs.map fun yr => sumOf t yr.2) = List.replicate rs.length (sumOf t y0.2)
          case neg =>
            rw [decide_eq_false same]
            refine iteF (k0 (fun ok => same ?_) _ (s06.trans s7))
            rw [List.eq_replicate_iff]
            refine ⟨by rw [List.length_map], fun u m => ?_⟩
            obtain ⟨yr, my, rfl⟩ := List.mem_map.mp m
            exact ok.same yr my y0 m0
          rw [decide_eq_true same]
          have eqs : ∀ yr ∈ rs, sumOf t yr.2 = sumOf t y0.2 := fun yr my => (List.eq_replicate_iff.mp same).2 _ (List.mem_map_of_mem my)
          obtain ⟨sm1, sm2⟩ := sum_small (oks y0 m0).2
          refine iteT ⟨_, rfl, _, rfl, D5, xs, 0, .ref a0, rfl, rfl, SqL.of eD8, by rw [exs]; exact atI_nat (j := 0) rfl, q, t, a0, sumOf t y0.2, rfl, (GrAt.mk (DGet.k (k := .inr "grid") (s7 _ _ (s6 _ _ (s5 _ _ hq))))), pz7, ⟨?_, ?_⟩, _, _, rfl, rfl, ?_⟩
          · exact Nat.lt_of_le_of_lt sm1 (Nat.lt_of_lt_of_le (show 12 < 2 ^ 10 by decide) (Nat.pow_le_pow_right (by decide) (by decide)))
          · exact Nat.lt_of_le_of_lt sm2 (Nat.lt_of_lt_of_le (show 12 < 2 ^ 10 by decide) (Nat.pow_le_pow_right (by decide) (by decide)))
          show Q (V.bl (decide ((2 : Int) ≤ nrm t (sumOf t y0.2)))) _
          by_cases wide : 2 ≤ nrm t (sumOf t y0.2)
          · rw [decide_eq_true wide]
            exact k1 ⟨axs, by omega, c1, c2, nd, fun yr m => (oks yr m).1, fun yr m => (oks yr m).2, cB, fun yr m zr m' => by rw [eqs yr m, eqs zr m'], fun yr m => by rw [eqs yr m]; exact wide⟩ _ (s06.trans s7)
          · rw [decide_eq_false wide]
            exact k0 (fun ok => wide (ok.wide y0 m0)) _ (s06.trans s7)
end
end K13
namespace K13
open PySem PySem.Spec PyProof.Rows L2 GL SkE
noncomputable abbrev s__law_plain : Stmt := topS 62
noncomputable abbrev N__law_plain : List Str := ["_law_lines_here", "_law_found", "_law_text", "_law_words"]
theorem sc__law_plain : FnScope N__law_plain ["_law_lines_here"] (defScope s__law_plain) := ⟨rfl, rfl, rfl, by decide +kernel, rfl, by decide +kernel, by decide +kernel⟩
/-! ### lists and dicts may change -/
noncomputable def lstO : HO → Bool
  | .lst _ => true
  | _ => false
noncomputable def LK (H H' : Hp) : Prop := ∀ b o, H b = some o → lstO o = false → H' b = some o
noncomputable def TK (H H' : Hp) : Prop := ∀ b o, H b = some o → lstO o = false → dictO o = false → H' b = some o
section
variable {K : PySem.W.Frag} {H H' H2 : Hp}
theorem LK.of (s : Same H H') : LK H H' := fun b o e _ => s b o e
theorem LK.trans (a : LK H H') (b : LK H' H2) : LK H H2 := fun c o e n => b c o (a c o e n) n
theorem LK.got {p : Addr} (g : Got p H H') (d : Die H p) : LK H H' := fun b o e n => g.keep b o e fun z => by
  obtain ⟨l, x, c, _, hp⟩ := d
  rw [z, hp] at e
  cases e
  cases n
theorem LK.put {D : Addr} {o u : HO} (e : H D = some o) (d : lstO o = true) : LK H (upd H D u) := fun b v h n => by
  by_cases z : b = D
  · rw [z, e] at h; cases h; rw [d] at n; cases n
  · rw [upd_ne z]; exact h
theorem TK.of (s : Same H H') : TK H H' := fun b o e _ _ => s b o e
theorem TK.lk (s : LK H H') : TK H H' := fun b o e n _ => s b o e n
theorem TK.dk (s : DK H H') : TK H H' := fun b o e _ n => s b o e n
theorem TK.trans (a : TK H H') (b : TK H' H2) : TK H H2 := fun c o e n m => b c o (a c o e n m) n m
theorem TK.put {D : Addr} {o u : HO} (e : H D = some o) (d : dictO o = true) : TK H (upd H D u) := TK.dk (DK.put e d)
theorem sqT_tk {a : Addr} {xs : List V} (h : SqT K H a xs) (s : TK H H') : SqT K H' a xs := by
  rcases h with (e | ⟨o, e⟩) | e
  · exact .inl (.inl (s _ _ e rfl rfl))
  · exact .inl (.inr ⟨o, s _ _ e rfl rfl⟩)
  · exact .inr e
theorem items_tk (s : TK H H') : ∀ {xs : List V} {r : RowT}, DpAll K H xs (r.map itemD) → DpAll K H' xs (r.map itemD)
  | [], [], _ => .nil
  | x :: xs, it :: r, h => by
    cases h with
    | cons a b =>
      obtain ⟨q, rfl, hq⟩ := dItem a
      exact .cons (itemDp (sqT_tk hq s)) (items_tk s b)
theorem row_tk {x : V} {r : RowT} (h : Dp K H x (rowD r)) (s : TK H H') : Dp K H' x (rowD r) := by
  obtain ⟨a, xs, rfl, hs, l⟩ := dTup h
  exact .tup (sqT_tk hs s) (items_tk s l)
theorem RsAt.tk {kvs : List (Key × V)} {rs : Rls} (h : RsAt K H kvs rs) (s : TK H H') : RsAt K H' kvs rs := _root_.L2.Paired.mapP h fun a b ⟨h1, h2, h3⟩ => ⟨h1, row_tk h2 s, h3⟩
end
theorem none_back {H H' : Hp} {p : Addr} (s : Same H H') (n : H' p = none) : H p = none := by
  cases z : H p with
  | none => rfl
  | some o => rw [s _ _ z] at n; cases n
/-- a plain scheme: a dict of its grid, its axiom and its rules -/
noncomputable def PlAt (K : PySem.W.Frag) (H : Hp) (q : Addr) (t : Bool) (r : RowT) (rs : Rls) : Prop := ∃ ax x kvs, H q = some (.dK [(.inr "grid", .str (nm t)), (.inr "axiom", ax), (.inr "rules", .ref x)]) ∧ Dp K H ax (rowD r) ∧ H x = some (.dK kvs) ∧ RsAt K H kvs rs
theorem PlAt.lk {K : PySem.W.Frag} {H H' : Hp} {q : Addr} {t : Bool} {r : RowT} {rs : Rls} (h : PlAt K H q t r rs) (s : LK H H') : PlAt K H' q t r rs := by
  obtain ⟨ax, x, kvs, h1, h2, h3, h4⟩ := h
  exact ⟨ax, x, kvs, s _ _ h1 rfl, row_tk h2 (.lk s), s _ _ h3 rfl, h4.tk (.lk s)⟩
/-! ### the texts -/
structure RowG (r : RowT) : Prop where
  s : RowS true r
  one : 1 ≤ r.length
noncomputable def linesP (t : Bool) (r : RowT) (rs : Rls) : List Str := (Str.ofString "grid " ++ nm t) :: (Str.ofString "axiom " ++ rowT r) :: rs.map fun yr => Str.ofString "rule " ++ yr.1 ++ Str.ofString " " ++ rowT yr.2
theorem let_fin {y : Str} (h : LetS y = true) : ∃ c < 26, y = ⟨#[97 + c]⟩ := by
  unfold LetS at h
  obtain ⟨h1, h2⟩ := Bool.and_eq_true_iff.mp h
  have h1 : y.cps.size = 1 := of_decide_eq_true h1
  obtain ⟨a, ha⟩ : ∃ a, y.cps = #[a] := by
    obtain ⟨cps⟩ := y
    obtain ⟨l⟩ := cps
    match l, h1 with
    | [a], _ => exact ⟨a, rfl⟩
  rw [ha] at h2
  simp only [List.all_cons, List.all_nil, Bool.and_true, Bool.and_eq_true, decide_eq_true_eq] at h2
  refine ⟨a - 97, by omega, ?_⟩
  obtain ⟨cps⟩ := y
  have ha : cps = #[a] := ha
  rw [ha, show 97 + (a - 97) = a by omega]
theorem itemT_fin : ∀ c < 26, ∀ n < 6, itemT ((⟨#[97 + c]⟩ : Str), ((n : Nat) : Int)) = ⟨#[97 + c, 48 + n]⟩ := by decide +kernel
theorem item_word {it : Str × Int} (h : ItemOk true it) : wordOk (itemT it) = true ∧ wordIt (itemT it) = it ∧ 32 ∉ (itemT it).cps.toList ∧ (itemT it).length = 2 := by
  obtain ⟨y, n⟩ := it
  obtain ⟨c, hc, e⟩ := let_fin h.l
  have a : 0 ≤ n := h.a
  have b : n < 6 := h.b
  obtain ⟨m, rfl⟩ : ∃ m : Nat, n = (m : Int) := ⟨n.toNat, by omega⟩
  have e : y = ⟨#[97 + c]⟩ := e
  subst e
  rw [itemT_fin c hc m (by omega)]
  refine ⟨?_, ?_, ?_, rfl⟩
  · show ((decide (97 ≤ 97 + c) && decide (97 + c ≤ 122)) && (decide (48 ≤ 48 + m) && decide (48 + m ≤ 53))) = true
    rw [decide_eq_true (by omega), decide_eq_true (by omega), decide_eq_true (by omega), decide_eq_true (by omega)]
    rfl
  · show ((⟨#[97 + c]⟩ : Str), ((48 + m - 48 : Nat) : Int)) = _
    rw [show 48 + m - 48 = m by omega]
  · simp
    omega
theorem words_split {ws : List Str} {r : RowT} (g : ∀ it ∈ r, ItemOk true it) (ne : ws ++ r.map itemT ≠ []) (h : ∀ w ∈ ws, 32 ∉ w.cps.toList) : Txt.split (Txt.join " " (ws ++ r.map itemT)) " " = ws ++ r.map itemT := by
  refine TL.split_join (y := " ") (s := 32) (S := []) (by decide +kernel) (by decide +kernel) ne (fun p hp => ?_)
  rcases List.mem_append.mp hp with z | z
  · exact h p z
  · obtain ⟨it, hi, rfl⟩ := List.mem_map.mp z
    exact (item_word (g it hi)).2.2.1
theorem join_cons {y z : Str} {l : List Str} : Txt.join " " (y :: z :: l) = y ++ Str.ofString " " ++ Txt.join " " (z :: l) := by
  show Builtin.Str.glued " " _ = _ ++ Builtin.Str.glued " " _
  rw [StrLaws.glued_eq_join, StrLaws.glued_eq_join]
  rfl
theorem row_split {r : RowT} (g : RowG r) : Txt.split (rowT r) " " = r.map itemT := words_split (ws := []) g.s.all (fun e => by
  have := congrArg List.length e
  rw [List.nil_append, List.length_map, List.length_nil] at this
  have := g.one
  omega) (fun _ h => by cases h)
theorem row_words {r : RowT} (g : RowG r) : (Txt.split (rowT r) " ").all wordOk = true ∧ (Txt.split (rowT r) " ").map wordIt = r := by
  rw [row_split g]
  refine ⟨List.all_eq_true.mpr fun y hy => ?_, ?_⟩
  · obtain ⟨it, hi, rfl⟩ := List.mem_map.mp hy
    exact (item_word (g.s.all it hi)).1
  · rw [List.map_map]
    exact (List.map_congr_left fun it hi => (item_word (g.s.all it hi)).2.1).trans (List.map_id _)
theorem ax_split {r : RowT} (g : RowG r) : Txt.split (Str.ofString "axiom " ++ rowT r) " " = Str.ofString "axiom" :: r.map itemT := by
  obtain ⟨it, r', rfl⟩ : ∃ it r', r = it :: r' := match r, g.one with
    | it :: r', _ => ⟨it, r', rfl⟩
  have e : Str.ofString "axiom " ++ rowT (it :: r') = Txt.join " " ([Str.ofString "axiom"] ++ (it :: r').map itemT) := by
    show _ = Txt.join " " (Str.ofString "axiom" :: itemT it :: r'.map itemT)
    rw [join_cons, show Str.ofString "axiom" ++ Str.ofString " " = Str.ofString "axiom " by decide +kernel]
    rfl
  rw [e]
  exact words_split g.s.all (by simp) (fun w h => by rw [List.mem_singleton.mp h]; decide +kernel)
theorem rule_split {y : Str} {r : RowT} (ly : LetS y = true) (g : RowG r) : Txt.split (Str.ofString "rule " ++ y ++ Str.ofString " " ++ rowT r) " " = Str.ofString "rule" :: y :: r.map itemT := by
  obtain ⟨it, r', rfl⟩ : ∃ it r', r = it :: r' := match r, g.one with
    | it :: r', _ => ⟨it, r', rfl⟩
  have e : Str.ofString "rule " ++ y ++ Str.ofString " " ++ rowT (it :: r') = Txt.join " " ([Str.ofString "rule", y] ++ (it :: r').map itemT) := by
    show _ = Txt.join " " (Str.ofString "rule" :: y :: itemT it :: r'.map itemT)
    rw [join_cons, join_cons, show Str.ofString "rule" ++ Str.ofString " " = Str.ofString "rule " by decide +kernel, PySem.Str.append_assoc, PySem.Str.append_assoc, PySem.Str.append_assoc]
    rfl
  rw [e]
  refine words_split g.s.all (by simp) (fun w h => ?_)
  simp only [List.mem_cons, List.not_mem_nil, or_false] at h
  rcases h with rfl | rfl
  · decide +kernel
  · obtain ⟨c, hc, e⟩ := let_fin ly
    rw [e]
    simp
    omega
theorem cut_app {a b : Str} {n : Nat} (h : a.length = n) : cutS (a ++ b) (some (n : Int)) none = b := by
  have l : (a ++ b).length = n + b.length := by rw [strLen_append, h]
  unfold cutS
  rw [HT.sIx_nat, HT.sIx_none, l, Nat.min_eq_left (by omega), show n + b.length - n = b.length by omega]
  have e : (a ++ b).cps.toList = a.cps.toList ++ b.cps.toList := by
    rw [PySem.Str.cps_append, Array.toList_append]
  have la : a.cps.toList.length = n := by rw [← h]; exact Array.length_toList
  have lb : b.cps.toList.length = b.length := Array.length_toList
  rw [e, List.drop_left' la, ← lb, List.take_length]
theorem linesP_short {t : Bool} {r : RowT} {rs : Rls} (g : RowG r) (gs : ∀ yr ∈ rs, RowG yr.2 ∧ LetS yr.1 = true) : ∀ y ∈ linesP t r rs, y.length ≤ 100 := by
  intro y hy
  rcases List.mem_cons.mp hy with rfl | hy
  · cases t <;> decide +kernel
  rcases List.mem_cons.mp hy with rfl | hy
  · rw [strLen_append, show (Str.ofString "axiom ").length = 6 by decide +kernel]
    have := rowT_most g.s.all g.s.most
    omega
  · obtain ⟨yr, m, rfl⟩ := List.mem_map.mp hy
    rw [strLen_append, strLen_append, strLen_append, show (Str.ofString "rule ").length = 5 by decide +kernel, show (Str.ofString " ").length = 1 by decide +kernel]
    have := rowT_most (gs yr m).1.s.all (gs yr m).1.s.most
    have l1 : yr.1.length = 1 := by
      have z := (gs yr m).2
      unfold LetS at z
      rw [Bool.and_eq_true, decide_eq_true_eq] at z
      exact z.1
    omega
theorem rs_none {K : PySem.W.Frag} {M : Hp} {y : Str} : ∀ {kvs : List (Key × V)} {rs : Rls}, RsAt K M kvs rs → y ∉ rs.map (·.1) → valV kvs (.inr y) = none
  | _, _, .nil, _ => rfl
  | kv :: kvs, yr :: ss, .cons h r, n => by
    rw [List.map_cons, List.mem_cons, not_or] at n
    rw [valV_neg (by rw [h.1]; exact fun q => n.1 (by injection q with q; exact q.symm))]
    exact rs_none r n.2
theorem rs_snoc {K : PySem.W.Frag} {M : Hp} {v : V} {yr : Str × RowT} : ∀ {kvs : List (Key × V)} {rs : Rls}, RsAt K M kvs rs → Dp K M v (rowD yr.2) → yr.2.length ≤ 1000 → RsAt K M (kvs ++ [(.inr yr.1, v)]) (rs ++ [yr])
  | _, _, .nil, h, l => .cons ⟨rfl, h, l⟩ .nil
  | _, _, .cons x r, h, l => .cons x (rs_snoc r h l)
noncomputable def spLPlain (K : PySem.W.Frag) : Sp := fun vs H Q _ => ∃ a t r rs, vs = [.ref a] ∧ SqL K H a ((linesP t r rs).map V.str) ∧ RowG r ∧ (∀ yr ∈ rs, RowG yr.2 ∧ LetS yr.1 = true) ∧ (rs.map (·.1)).Nodup ∧ rs.length ≤ 6 ∧ ∀ q H', Same H H' → PlAt K H' q t r rs → Q (.ref q) H'
section
variable {P : Program} {w : World} {K : PySem.W.Frag} {mg : Str → Option Value} {base : Heap}
variable {aG dU C CR CS eG eS : Addr} {U : Bool → Addr} {us : Bool → List Addr}
theorem h_law_plain (T : TxS K mg aG dU C CR) (D : Df K mg "_law_plain" s__law_plain) (h_law_row : Has P w K mg base CX0 "_law_row" 1 ["_law_text"] (spLRow K)) : Has P w K mg base CX0 "_law_plain" 2 ["_law_lines_here"] (spLPlain K) := by
  refine D.has sc__law_plain (fun vs H Q E h => ?_) (fun kV doc pm an cdv ct us hl => match us, hl with | [_], _ => rfl) (fun f cdv A outer s H vs Q E gd hr h => ?_)
  · obtain ⟨a, t, r, rs, rfl, _⟩ := h
    rfl
  · obtain ⟨a, t, r, rs, rfl, ha, rg, rgs, nd, few, k⟩ := h
    have hu := hr.units
    refine ⟨_, (pss_cons
 (ps_set (i := 1) sc__law_plain.nd rfl (Or.inl rfl) (pe_disp (pps_cons pe_str pe_str (pps_cons pe_str (pe_tup pa_nil) (pps_cons pe_str pe_dnewK pps_nil))) (by rfl) (by rfl) (fun z => by cases z) (by decide)))
 (pss_cons
 (ps_for PassesOwn.never rfl (pi_list (pv 0)) (pg_name (i := 2) sc__law_plain.nd rfl (Or.inl rfl)) (pss_cons
 (ps_set (i := 3) sc__law_plain.nd rfl (Or.inl rfl) (pe_bm PySem.F.plainAttrs_str PySem.F.slot_str_split PySem.F.type_str_split mt_split (pv 2) (pa_cons pe_str pa_nil)))
 (pss_one
 (ps_if (pt_cmpR op_eq (pe_ix ix_list (pv 3) pe_int (fun _ _ => rfl)) pe_str (nomark _)) (pss_one
 (ps_asg (pe_ix ix_list (pv 3) pe_int (fun _ _ => rfl)) (pg_sub (pv 1) pe_str (set_dict (Nat.lt_of_le_of_lt (Nat.add_le_add_left (by decide) _) hu))))) (pss_one
 (ps_if (pt_cmpR op_eq (pe_ix ix_list (pv 3) pe_int (fun _ _ => rfl)) pe_str (nomark _)) (pss_one
 (ps_asg (pe_callH h_law_row gd (hr.mono (by decide)) pass0 (pa_cons (pe_slice sl_str (pv 2) (po_some pe_int) po_none) pa_nil)) (pg_sub (pv 1) pe_str (set_dict (Nat.lt_of_le_of_lt (Nat.add_le_add_left (by decide) _) hu))))) (pss_one
 (ps_asg (pe_callH h_law_row gd (hr.mono (by decide)) pass0 (pa_cons (pe_slice sl_str (pv 2) (po_some pe_int) po_none) pa_nil)) (pg_sub (pe_dget (Nat.lt_of_le_of_lt (Nat.add_le_add_left (by decide) _) hu) (pv 1) pe_str (fun _ _ => rfl)) (pe_ix ix_list (pv 3) pe_int (fun _ _ => rfl)) (set_dict (Nat.lt_of_le_of_lt (Nat.add_le_add_left (by decide) _) hu)))))))))))
 (pss_one
 (ps_ret (pv 1))))), ?_⟩
    try dsimp only [cxOf, Cx.nox]
    have short := linesP_short (t := t) rg rgs
    have lenP : (linesP t r rs).length = rs.length + 2 := by unfold linesP; rw [List.length_cons, List.length_cons, List.length_map]
    refine fun q nq => ⟨by show 0 ≤ sizeLine; decide, fun e ne x nx => ?_⟩
    have qe : q ≠ e := ne_of_none (show upd H q (.dK []) q = some _ from upd_same) ne
    have qx : q ≠ x := ne_of_none (show upd (upd H q (.dK [])) e (.tup []) q = some _ from (upd_ne qe).trans upd_same) nx
    have s0 : Same H (upd (upd (upd H q (.dK [])) e (.tup [])) x (.dK [])) := ((Same.new nq).trans (Same.new ne)).trans (Same.new nx)
    have nxH : H x = none := none_back ((Same.new nq).trans (Same.new (o := .tup []) ne)) nx
    refine ⟨(upd_ne qx).trans ((upd_ne qe).trans upd_same), [(.inr "grid", .str "square"), (.inr "axiom", .ref e), (.inr "rules", .ref x)], rfl, by show 3 ≤ 15; decide, ?_⟩
    have s1 : Same H (upd (upd (upd (upd H q (.dK [])) e (.tup [])) x (.dK [])) q (.dK [(.inr "grid", .str "square"), (.inr "axiom", .ref e), (.inr "rules", .ref x)])) := Same.over s0 nq _
    have hx0 : upd (upd (upd (upd H q (.dK [])) e (.tup [])) x (.dK [])) q (.dK [(.inr "grid", .str "square"), (.inr "axiom", .ref e), (.inr "rules", .ref x)]) x = some (.dK []) := (upd_ne qx.symm).trans upd_same
    have hq0 : upd (upd (upd (upd H q (.dK [])) e (.tup [])) x (.dK [])) q (.dK [(.inr "grid", .str "square"), (.inr "axiom", .ref e), (.inr "rules", .ref x)]) q = some (.dK [(.inr "grid", .str "square"), (.inr "axiom", .ref e), (.inr "rules", .ref x)]) := upd_same
    refine ⟨_, rfl, a, rfl, ⟨_, sqL_same ha s1⟩, for_list (a := a) (xs := (linesP t r rs).map V.str) (fun i σ' H' => ∃ gv ax kvs u v, σ' = [some (.ref a), some (.ref q), u, v] ∧ Same H H' ∧ H' q = some (.dK [(.inr "grid", .str gv), (.inr "axiom", ax), (.inr "rules", .ref x)]) ∧ H' x = some (.dK kvs) ∧ (1 ≤ i → gv = nm t) ∧ (2 ≤ i → Dp K H' ax (rowD r)) ∧ RsAt K H' kvs (rs.take (i - 2)))
      ⟨"square", .ref e, [], none, none, rfl, s1, hq0, hx0, fun h => by omega, fun h => by omega, .nil⟩ (fun i σ' H' _ h => let ⟨_, _, _, _, _, _, h, _⟩ := h; sqL_same ha h) ?_ ?_⟩
    · rintro i z _ H' hz ⟨gv, ax, kvs, u, v, rfl, s', hq, hx, g1, g2, rsa⟩
      obtain ⟨y, hy, rfl⟩ := str_at' hz
      have ly := short y (List.mem_of_getElem? hy)
      refine ⟨_, rfl, rfl, y, " ", rfl, rfl, by decide +kernel, by rw [sizeLine_eq]; omega, fun p np => ?_⟩
      have s2 := Same.new (o := .lst ((Txt.split y " ").map V.str)) np
      have hp : SqL K (upd H' p (.lst ((Txt.split y " ").map V.str))) p ((Txt.split y " ").map V.str) := SqL.of upd_same
      replace hq := s2 _ _ hq
      replace hx := s2 _ _ hx
      replace rsa := rsa.same s2
      replace g2 := fun h => dp_same s2 (g2 h)
      replace s2 := s'.trans s2
      generalize eW : Txt.split y " " = ws at *
      generalize upd H' p (.lst (ws.map V.str)) = H2 at *
      rcases i with _ | _ | j
      · have e : y = Str.ofString "grid " ++ nm t := by
          have z : (linesP t r rs)[0]? = some (Str.ofString "grid " ++ nm t) := rfl
          rw [z] at hy
          cases hy
          rfl
        obtain rfl : ws = [Str.ofString "grid", nm t] := eW.symm.trans (by rw [e]; cases t <;> decide +kernel)
        refine ⟨_, rfl, _, _, _, _, rfl, rfl, hp, atI_nat (j := 0) rfl, rfl, _, rfl, ?_⟩
        refine iteT ⟨_, rfl, _, _, _, _, rfl, rfl, hp, atI_nat (j := 1) rfl, ?_⟩
        refine ⟨_, rfl, q, _, rfl, DPut.k (k := .inr "grid") hq (by show 3 < sizeLine; decide), ?_⟩
        exact ⟨nm t, ax, kvs, _, _, rfl, Same.over s2 nq _, upd_same, (upd_ne qx.symm).trans hx, fun _ => rfl, fun h => by omega, rsa.tk (TK.put hq rfl)⟩
      · have e : y = Str.ofString "axiom " ++ rowT r := by
          have z : (linesP t r rs)[1]? = some (Str.ofString "axiom " ++ rowT r) := rfl
          rw [z] at hy
          cases hy
          rfl
        obtain rfl : ws = Str.ofString "axiom" :: r.map itemT := eW.symm.trans (by rw [e]; exact ax_split rg)
        refine ⟨_, rfl, _, _, _, _, rfl, rfl, hp, atI_nat (j := 0) rfl, rfl, _, rfl, ?_⟩
        refine iteF ⟨_, rfl, _, _, _, _, rfl, rfl, hp, atI_nat (j := 0) rfl, rfl, _, rfl, iteT ?_⟩
        have cut : cutS y (some 6) none = rowT r := by rw [e]; exact cut_app (n := 6) (by decide +kernel)
        have short2 := rowT_most rg.s.all rg.s.most
        refine ⟨_, rfl, 6, rfl, y, rfl, by rw [sizeLine_eq]; omega, rowT r, congrArg (fun z => [V.str z]) cut, by omega, (row_words rg).1, fun v' H3 s3 dv => ?_⟩
        rw [(row_words rg).2] at dv
        refine ⟨_, rfl, q, _, rfl, DPut.k (k := .inr "axiom") (s3 _ _ hq) (by show 3 < sizeLine; decide), ?_⟩
        exact ⟨gv, v', kvs, _, _, rfl, Same.over (s2.trans s3) nq _, upd_same, (upd_ne qx.symm).trans (s3 _ _ hx), fun _ => g1 (by omega), fun h => row_tk dv (TK.put (s3 _ _ hq) rfl), (rsa.same s3).tk (TK.put (s3 _ _ hq) rfl)⟩
      · obtain ⟨yr, hyr, e⟩ : ∃ yr, rs[j]? = some yr ∧ y = Str.ofString "rule " ++ yr.1 ++ Str.ofString " " ++ rowT yr.2 := by
          have z : (linesP t r rs)[j + 1 + 1]? = (rs.map fun yr => Str.ofString "rule " ++ yr.1 ++ Str.ofString " " ++ rowT yr.2)[j]? := rfl
          rw [z, List.getElem?_map] at hy
          cases c : rs[j]? with
          | none => rw [c] at hy; cases hy
          | some yr => rw [c] at hy; cases hy; exact ⟨yr, rfl, rfl⟩
        have my := List.mem_of_getElem? hyr
        obtain ⟨rg2, l2⟩ := rgs yr my
        obtain rfl : ws = Str.ofString "rule" :: yr.1 :: yr.2.map itemT := eW.symm.trans (by rw [e]; exact rule_split l2 rg2)
        refine ⟨_, rfl, _, _, _, _, rfl, rfl, hp, atI_nat (j := 0) rfl, rfl, _, rfl, ?_⟩
        refine iteF ⟨_, rfl, _, _, _, _, rfl, rfl, hp, atI_nat (j := 0) rfl, rfl, _, rfl, iteF ?_⟩
        have l3 : yr.1.length = 1 := by
          have z := l2
          unfold LetS at z
          rw [Bool.and_eq_true, decide_eq_true_eq] at z
          exact z.1
        have cut : cutS y (some 7) none = rowT yr.2 := by rw [e]; exact cut_app (n := 7) (by rw [strLen_append, strLen_append, l3]; decide +kernel)
        have short2 := rowT_most rg2.s.all rg2.s.most
        refine ⟨_, rfl, 7, rfl, y, rfl, by rw [sizeLine_eq]; omega, rowT yr.2, congrArg (fun z => [V.str z]) cut, by omega, (row_words rg2).1, fun v' H3 s3 dv => ?_⟩
        rw [(row_words rg2).2] at dv
        have lk : kvs.length ≤ 6 := by
          rw [Paired.length rsa, List.length_take]
          omega
        have new : valV kvs (.inr yr.1) = none := by
          rw [show j + 1 + 1 - 2 = j by omega] at rsa
          refine rs_none rsa ?_
          rw [List.map_take]
          exact not_taken nd (by rw [List.getElem?_map, hyr]; rfl)
        refine ⟨_, rfl, q, _, rfl, DGet.k (k := .inr "rules") (s3 _ _ hq), _, rfl, _, _, _, _, rfl, rfl, sqL_same hp s3, atI_nat (j := 1) rfl, x, _, rfl, DPut.k (k := .inr yr.1) (s3 _ _ hx) (by rw [sizeLine_eq]; omega), ?_⟩
        rw [putK_new _ new]
        have tk := TK.put (u := .dK (kvs ++ [(.inr yr.1, v')])) (s3 _ _ hx) rfl
        refine ⟨gv, ax, _, _, _, rfl, Same.over (s2.trans s3) nxH _, (upd_ne qx).trans (s3 _ _ hq), upd_same, fun _ => g1 (by omega), fun h => row_tk (dp_same s3 (g2 (by omega))) tk, ?_⟩
        rw [show j + 1 + 1 + 1 - 2 = j + 1 by omega, List.take_add_one, hyr]
        rw [show j + 1 + 1 - 2 = j by omega] at rsa
        exact rs_snoc ((rsa.same s3).tk tk) (row_tk dv tk) (by have := rg2.s.most; omega)
    · rintro _ H' ⟨gv, ax, kvs, u, v, rfl, s', hq, hx, g1, g2, rsa⟩
      rw [List.length_map, lenP] at g1 g2 rsa
      rw [g1 (by omega)] at hq
      rw [show rs.length + 2 - 2 = rs.length by omega, List.take_length] at rsa
      exact ⟨_, rfl, k q H' s' ⟨ax, x, kvs, hq, g2 (by omega), hx, rsa⟩⟩
end
end K13
namespace K13
open PySem PySem.Spec PyProof.Rows L2 GL SkE
noncomputable abbrev s__law_turns : Stmt := topS 66
noncomputable abbrev N__law_turns : List Str := ["_law_grid"]
theorem sc__law_turns : FnScope N__law_turns ["_law_grid"] (defScope s__law_turns) := ⟨rfl, rfl, rfl, by decide +kernel, rfl, by decide +kernel, by decide +kernel⟩
noncomputable abbrev s__law_written : Stmt := topS 65
noncomputable abbrev N__law_written : List Str := ["_law_way", "_law_rows", "_law_row_here", "_law_text"]
theorem sc__law_written : FnScope N__law_written ["_law_way"] (defScope s__law_written) := ⟨rfl, rfl, rfl, by decide +kernel, rfl, by decide +kernel, by decide +kernel⟩
noncomputable def spMixedB (K : PySem.W.Frag) : Sp := fun vs H Q _ => ∃ (p q : Addr) (xs : List V), vs = [.ref p, .ref q] ∧ Die H p ∧ (SqL K H q xs ∨ SqT K H q xs) ∧ xs.length ≤ 1000 ∧ ∀ l ys H', H l = none → l ≠ p → ys.length = xs.length → ys.Perm xs → H' l = some (.lst ys) → Got p H H' → Q (.ref l) H'
theorem sq_same2 {K : PySem.W.Frag} {H H' : Hp} {q : Addr} {xs : List V} (h : SqL K H q xs ∨ SqT K H q xs) (s : Same H H') : SqL K H' q xs ∨ SqT K H' q xs := h.imp (fun h => sqL_same h s) (fun h => sqT_same h s)
noncomputable def sumT (t : Bool) : List Int → Int × Int
  | [] => (0, 0)
  | n :: r => padd (uni t n) (sumT t r)
theorem padd_assoc {a b c : Int × Int} : padd (padd a b) c = padd a (padd b c) := by
  unfold padd
  rw [Int.add_assoc, Int.add_assoc]
theorem padd_comm {a b : Int × Int} : padd a b = padd b a := by
  unfold padd
  rw [Int.add_comm a.1, Int.add_comm a.2]
theorem padd_zero {a : Int × Int} : padd a (0, 0) = a := by
  unfold padd
  rw [Int.add_zero, Int.add_zero]
theorem sumT_app {t : Bool} : ∀ {a b : List Int}, sumT t (a ++ b) = padd (sumT t a) (sumT t b)
  | [], b => by rw [List.nil_append, padd_comm]; exact padd_zero.symm
  | n :: r, b => by
    show padd (uni t n) (sumT t (r ++ b)) = padd (padd (uni t n) (sumT t r)) (sumT t b)
    rw [sumT_app, padd_assoc]
theorem sumT_perm {t : Bool} {a b : List Int} (h : a.Perm b) : sumT t a = sumT t b := by
  induction h with
  | nil => rfl
  | cons x _ ih => unfold sumT; rw [ih]
  | swap x y l =>
    show padd (uni t y) (padd (uni t x) (sumT t l)) = padd (uni t x) (padd (uni t y) (sumT t l))
    rw [← padd_assoc, ← padd_assoc, padd_comm (a := uni t y)]
  | trans _ _ i1 i2 => exact i1.trans i2
theorem path_T {t : Bool} : ∀ (l : List Int), (path t (0, 0) l.reverse).getLast?.getD (0, 0) = sumT t l.reverse
  | [] => rfl
  | n :: l => by
    rw [List.reverse_cons, path_snoc, List.getLast?_append, path_T l, sumT_app]
    show padd _ (uni t n) = padd _ (padd (uni t n) (0, 0))
    rw [padd_zero]
theorem sumOf_T {t : Bool} {r : RowT} : sumOf t r = sumT t (r.map (·.2)) := by
  have z := path_T (t := t) (r.map (·.2)).reverse
  rw [List.reverse_reverse] at z
  exact z
structure TurnsOk (t : Bool) (ns : List Int) : Prop where
  two : 2 ≤ ns.length
  four : ns.length ≤ 4
  lo : ∀ n ∈ ns, 0 ≤ n
  hi : ∀ n ∈ ns, n < (num t : Int)
  sh : SeqAt.shaped (.list (ns.map PyData.int)) = true
  wide : 2 ≤ nrm t (sumT t ns)
theorem num_six {t : Bool} : (num t : Int) ≤ 6 := by cases t <;> decide
theorem itemOk_true {t : Bool} {it : Str × Int} (h : ItemOk t it) : ItemOk true it := ⟨h.l, h.a, Int.lt_of_lt_of_le h.b (by cases t <;> decide)⟩
theorem rowS_true {t : Bool} {r : RowT} (h : RowS t r) : RowS true r := ⟨h.most, fun x hx => itemOk_true (h.all x hx)⟩
/-- a new list of new lists -/
structure LsAt (H H' : Hp) (L : Addr) (as : List Addr) (vss : List (List V)) : Prop where
  keep : Same H H'
  new : H L = none
  here : H' L = some (.lst (as.map V.ref))
  each : Paired (fun a vs => H a = none ∧ a ≠ L ∧ H' a = some (.lst vs)) as vss
noncomputable def LLs (H H' : Hp) (as : List Addr) (vss : List (List V)) : Prop := Same H H' ∧ Paired (fun a vs => H a = none ∧ H' a = some (.lst vs)) as vss
theorem paired_snoc {α β : Type} {R : α → β → Prop} {a : α} {b : β} (h : R a b) : ∀ {xs : List α} {ys : List β}, Paired R xs ys → Paired R (xs ++ [a]) (ys ++ [b])
  | _, _, .nil => .cons h .nil
  | _, _, .cons x r => .cons x (paired_snoc h r)
theorem LLs.nil {H : Hp} : LLs H H [] [] := ⟨same_rfl, .nil⟩
theorem LLs.push {H H' : Hp} {as : List Addr} {vss : List (List V)} {a : Addr} {vs : List V} (h : LLs H H' as vss) (n : H' a = none) : LLs H (upd H' a (.lst vs)) (as ++ [a]) (vss ++ [vs]) :=
  ⟨h.1.trans (Same.new n), paired_snoc ⟨none_back h.1 n, upd_same⟩ (_root_.L2.Paired.mapP h.2 fun b ws ⟨h1, h2⟩ => ⟨h1, Same.new n _ _ h2⟩)⟩
theorem LLs.done {H H' : Hp} {as : List Addr} {vss : List (List V)} {L : Addr} (h : LLs H H' as vss) (n : H' L = none) : LsAt H (upd H' L (.lst (as.map V.ref))) L as vss :=
  ⟨h.1.trans (Same.new n), none_back h.1 n, upd_same, _root_.L2.Paired.mapP h.2 fun b ws ⟨h1, h2⟩ => ⟨h1, ne_of_none h2 n, Same.new n _ _ h2⟩⟩
theorem LsAt.push {H H' : Hp} {as : List Addr} {vss : List (List V)} {L a : Addr} {vs : List V} (h : LsAt H H' L as vss) (n : H' a = none) : LsAt H (upd (upd H' a (.lst vs)) L (.lst ((as ++ [a]).map V.ref))) L (as ++ [a]) (vss ++ [vs]) := by
  have al : a ≠ L := fun e => by rw [e, h.here] at n; cases n
  refine ⟨Same.over (h.keep.trans (Same.new n)) h.new _, h.new, upd_same, paired_snoc ⟨none_back h.keep n, al, (upd_ne al).trans upd_same⟩ (_root_.L2.Paired.mapP h.each fun b ws ⟨h1, h2, h3⟩ => ⟨h1, h2, (upd_ne h2).trans (Same.new n _ _ h3)⟩)⟩
theorem app_go {H H' : Hp} {as : List Addr} {vss : List (List V)} {L : Addr} {vs : List V} {Q : Hp → Prop} (w : LsAt H H' L as vss) (k : ∀ H2 a, LsAt H H2 L (as ++ [a]) (vss ++ [vs]) → Q H2) : ∀ a, H' a = none → Q (upd (upd H' a (.lst vs)) L (.lst (as.map V.ref ++ [V.ref a]))) := fun a n => by
  have z := w.push (vs := vs) n
  rw [List.map_append] at z
  exact k _ a z
theorem paired_at {α β : Type} {R : α → β → Prop} : ∀ {xs : List α} {ys : List β}, Paired R xs ys → ∀ {i : Nat} {y : β}, ys[i]? = some y → ∃ x, xs[i]? = some x ∧ R x y
  | _, _, .nil, _, _, h => by cases h
  | _, _, .cons a r, 0, y, h => by cases h; exact ⟨_, rfl, a⟩
  | _, _, .cons a r, i + 1, y, h => paired_at r (i := i) h
theorem cutV_from {xs : List V} {k : Nat} (h : k ≤ xs.length) : cutV xs (some (k : Int)) none = xs.drop k := by
  unfold cutV
  rw [HT.sIx_nat, HT.sIx_none, Nat.min_eq_left h, List.take_of_length_le]
  rw [List.length_drop]
  omega
theorem cutV_to {xs : List V} {k : Nat} (h : k ≤ xs.length) : cutV xs none (some (k : Int)) = xs.take k := by
  unfold cutV
  rw [HT.sIx_nat, HT.sIx_none, Nat.min_eq_left h, List.drop_zero]
  rfl
/-- a list of lists of ints, all new -/
noncomputable def TurnL (Pn : List Int → Prop) (H H' : Hp) (L : Addr) : Prop := ∃ (as : List Addr) (nss : List (List Int)), LsAt H H' L as (nss.map fun ns => ns.map V.int) ∧ (∀ ns ∈ nss, Pn ns) ∧ 3 ≤ nss.length ∧ nss.length ≤ 7 ∧ ∀ m ∈ [2, 3], SeqAt.shaped (.list ((nss.take m).map fun ns => .list (ns.map PyData.int))) = true
noncomputable def spTurns : Sp := fun vs H Q _ => ∃ t, vs = [.str (nm t)] ∧ ∀ L H', TurnL (TurnsOk t) H H' L → Q (.ref L) H'
noncomputable instance (t : Bool) (ns : List Int) : Decidable (TurnsOk t ns) := if h : 2 ≤ ns.length ∧ ns.length ≤ 4 ∧ (∀ n ∈ ns, 0 ≤ n) ∧ (∀ n ∈ ns, n < (num t : Int)) ∧ SeqAt.shaped (.list (ns.map PyData.int)) = true ∧ 2 ≤ nrm t (sumT t ns) then .isTrue ⟨h.1, h.2.1, h.2.2.1, h.2.2.2.1, h.2.2.2.2.1, h.2.2.2.2.2⟩ else .isFalse fun k => h ⟨k.two, k.four, k.lo, k.hi, k.sh, k.wide⟩
noncomputable def wrT : List (List Str) := [["square", "a0", "a a0 b1", "b a1 b0"], ["square", "a0", "a a0 a1"], ["triangle", "a0 a4 a2", "a a0 a1 a5 a0"], ["square", "a0", "a a0 a0 a2 a0"], ["square", "a0 a1", "a a0 a0"], ["triangle", "a0", "a a0 a2 a0"], ["square", "a0 a0 a1 a2 a3 a3", "a a0 a0"], ["square", "a0 a1 a2 a3", "a a0 a1 a0 a3 a0"], ["square", "a0 b0", "a a0 b1 a0 a3", "b b0 a3 b1 b0"], ["triangle", "a0", "a b1 a0 b5", "b a5 b0 a1"]]
noncomputable def wrR : List (Bool × RowT × Rls) := [(false, [("a", 0)], [("a", [("a", 0), ("b", 1)]), ("b", [("a", 1), ("b", 0)])]), (false, [("a", 0)], [("a", [("a", 0), ("a", 1)])]), (true, [("a", 0), ("a", 4), ("a", 2)], [("a", [("a", 0), ("a", 1), ("a", 5), ("a", 0)])]), (false, [("a", 0)], [("a", [("a", 0), ("a", 0), ("a", 2), ("a", 0)])]), (false, [("a", 0), ("a", 1)], [("a", [("a", 0), ("a", 0)])]), (true, [("a", 0)], [("a", [("a", 0), ("a", 2), ("a", 0)])]), (false, [("a", 0), ("a", 0), ("a", 1), ("a", 2), ("a", 3), ("a", 3)], [("a", [("a", 0), ("a", 0)])]), (false, [("a", 0), ("a", 1), ("a", 2), ("a", 3)], [("a", [("a", 0), ("a", 1), ("a", 0), ("a", 3), ("a", 0)])]), (false, [("a", 0), ("b", 0)], [("a", [("a", 0), ("b", 1), ("a", 0), ("a", 3)]), ("b", [("b", 0), ("a", 3), ("b", 1), ("b", 0)])]), (true, [("a", 0)], [("a", [("b", 1), ("a", 0), ("b", 5)]), ("b", [("a", 5), ("b", 0), ("a", 1)])])]
/-- a good plain scheme -/
structure GoodL (n : Nat) (r : RowT) (rs : Rls) : Prop where
  g : RowG r
  gs : ∀ yr ∈ rs, RowG yr.2 ∧ LetS yr.1 = true
  nd : (rs.map (·.1)).Nodup
  one : 1 ≤ rs.length
  few : rs.length ≤ n
noncomputable instance (t : Bool) (x : Str × Int) : Decidable (ItemOk t x) := if h : LetS x.1 = true ∧ 0 ≤ x.2 ∧ x.2 < (num t : Int) then .isTrue ⟨h.1, h.2.1, h.2.2⟩ else .isFalse fun k => h ⟨k.l, k.a, k.b⟩
noncomputable instance (r : RowT) : Decidable (RowG r) := if h : r.length ≤ 12 ∧ (∀ x ∈ r, ItemOk true x) ∧ 1 ≤ r.length then .isTrue ⟨⟨h.1, h.2.1⟩, h.2.2⟩ else .isFalse fun k => h ⟨k.s.most, k.s.all, k.one⟩
noncomputable instance (n : Nat) (r : RowT) (rs : Rls) : Decidable (GoodL n r rs) := if h : RowG r ∧ (∀ yr ∈ rs, RowG yr.2 ∧ LetS yr.1 = true) ∧ (rs.map (·.1)).Nodup ∧ 1 ≤ rs.length ∧ rs.length ≤ n then .isTrue ⟨h.1, h.2.1, h.2.2.1, h.2.2.2.1, h.2.2.2.2⟩ else .isFalse fun k => h ⟨k.g, k.gs, k.nd, k.one, k.few⟩
noncomputable instance (t : Bool) (r : RowT) : Decidable (RowS t r) := if h : r.length ≤ 12 ∧ (∀ x ∈ r, ItemOk t x) then .isTrue ⟨h.1, h.2⟩ else .isFalse fun k => h ⟨k.most, k.all⟩
noncomputable instance (t : Bool) (r : RowT) : Decidable (RowOk t r) := if h : 2 ≤ r.length ∧ r.length ≤ 12 ∧ (∀ x ∈ r, ItemOk t x) then .isTrue ⟨h.1, h.2.1, h.2.2⟩ else .isFalse fun k => h ⟨k.two, k.most, k.all⟩
noncomputable instance (t : Bool) (r : RowT) (rs : Rls) : Decidable (SchOk t r rs) := if h : RowS t r ∧ 1 ≤ r.length ∧ 1 ≤ rs.length ∧ rs.length ≤ 6 ∧ (rs.map (·.1)).Nodup ∧ (∀ yr ∈ rs, LetS yr.1 = true) ∧ (∀ yr ∈ rs, RowOk t yr.2) ∧ complB r rs = true ∧ (∀ yr ∈ rs, ∀ zr ∈ rs, sumOf t yr.2 = sumOf t zr.2) ∧ (∀ yr ∈ rs, 2 ≤ nrm t (sumOf t yr.2))
  then .isTrue ⟨h.1, h.2.1, h.2.2.1, h.2.2.2.1, h.2.2.2.2.1, h.2.2.2.2.2.1, h.2.2.2.2.2.2.1, h.2.2.2.2.2.2.2.1, h.2.2.2.2.2.2.2.2.1, h.2.2.2.2.2.2.2.2.2⟩ else .isFalse fun k => h ⟨k.ax, k.one, k.lo, k.hi, k.nd, k.lets, k.rows, k.compl, k.same, k.wide⟩
theorem erase_perm {α : Type} : ∀ {l : List α} {j : Nat} (h : j < l.length), (l[j] :: l.eraseIdx j).Perm l
  | _ :: _, 0, _ => .refl _
  | x :: r, j + 1, h => (List.Perm.swap x _ _).trans (.cons x (erase_perm (Nat.lt_of_succ_lt_succ h)))
noncomputable def abc : List Str := ["a", "b", "c"]
theorem abc_z {rs : Rls} (h : ∀ yr ∈ rs, yr.1 ∈ abc) : ("z" : Str) ∉ rs.map (·.1) := fun m => by
  obtain ⟨yr, my, e⟩ := List.mem_map.mp m
  have z := h yr my
  rw [e] at z
  exact absurd z (by decide +kernel)
theorem wr_ok : ∀ i < 10, ∃ t r rs, wrR[i]? = some (t, r, rs) ∧ GoodL 3 r rs ∧ SchOk t r rs ∧ (∀ yr ∈ rs, yr.1 ∈ abc) ∧ wrT[i]? = some (nm t :: rowT r :: rs.map fun yr => yr.1 ++ Str.ofString " " ++ rowT yr.2) := by
  have h1 : ∀ x ∈ wrR, GoodL 3 x.2.1 x.2.2 ∧ SchOk x.1 x.2.1 x.2.2 ∧ (∀ yr ∈ x.2.2, yr.1 ∈ abc) := by decide +kernel
  have h2 : wrT = wrR.map fun x => nm x.1 :: rowT x.2.1 :: x.2.2.map fun yr => yr.1 ++ Str.ofString " " ++ rowT yr.2 := by decide +kernel
  intro i hi
  have hi' : i < wrR.length := hi
  have e : wrR[i]? = some wrR[i] := List.getElem?_eq_getElem hi'
  have z := h1 _ (List.getElem_mem hi')
  exact ⟨wrR[i].1, wrR[i].2.1, wrR[i].2.2, e, z.1, z.2.1, z.2.2, by rw [h2, List.getElem?_map, e]; rfl⟩
noncomputable def spWritten : Sp := fun vs H Q _ => ∃ i : Int, vs = [.int i] ∧ 0 ≤ i ∧ i < 10 ∧ ∀ L t r rs H', H L = none → Same H H' → H' L = some (.lst ((linesP t r rs).map V.str)) → GoodL 3 r rs → SchOk t r rs → (∀ yr ∈ rs, yr.1 ∈ abc) → Q (.ref L) H'
section
variable {P : Program} {w : World} {K : PySem.W.Frag} {mg : Str → Option Value} {base : Heap}
variable {aG dU C CR CS eG eS : Addr} {U : Bool → Addr} {us : Bool → List Addr}
theorem h_law_mixed (T : TxS K mg aG dU C CR) (D : Df K mg "_law_mixed" s__law_mixed) (h_law_roll : Has P w K mg base CX0 "_law_roll" 1 ["_law_dice_here", "_law_total"] spRoll) : Has P w K mg base CX0 "_law_mixed" 2 ["_law_dice_here", "_law_items"] (spMixedB K) := by
  refine D.has sc__law_mixed (fun vs H Q E h => ?_) (fun kV doc pm an cdv ct us hl => match us, hl with | [_, _], _ => rfl) (fun f cdv A outer s H vs Q E gd hr h => ?_)
  · obtain ⟨p, q, xs, rfl, _⟩ := h
    rfl
  · obtain ⟨p, q, xs, rfl, hd, hq, hl, k⟩ := h
    refine ⟨_, (pss_cons
 (ps_par (i := 2) (j := 3) (by rfl) sc__law_mixed.nd rfl rfl (by decide) rfl rfl (pa_cons (pe_callTy call_list_of (by exact rfl) T.zlist (by decide +kernel) (pa_cons (pv 1) pa_nil)) (pa_cons (pe_lst pa_nil) pa_nil)) (by rfl))
 (pss_cons
 (ps_for PassesOwn.never rfl (pi_range1 (by exact rfl) T.zrange (pa_cons (pe_callB call_len_seq (by exact rfl) T.zlen PySem.boot_len (pa_cons (pv 1) pa_nil)) pa_nil)) (pg_name (i := 4) sc__law_mixed.nd rfl (Or.inl rfl)) (pss_one
 (ps_expr (pe_bm PySem.F.plainAttrs_list PySem.F.slot_list_append PySem.F.type_list_append mt_append (pv 3) (pa_cons (pe_bm PySem.F.plainAttrs_list PySem.F.slot_list_pop PySem.F.type_list_pop mt_popAt (pv 2) (pa_cons (pe_callH h_law_roll gd (hr.mono (by decide)) pass0 (pa_cons (pv 0) (pa_cons (pe_callB call_len_seq (by exact rfl) T.zlen PySem.boot_len (pa_cons (pv 2) pa_nil)) pa_nil))) pa_nil)) pa_nil)))))
 (pss_one
 (ps_ret (pv 3))))), ?_⟩
    refine ⟨_, rfl, q, xs, rfl, hq, fun a ha => ⟨by show 0 ≤ sizeLine; decide, fun b hb => ⟨_, _, rfl, ?_⟩⟩⟩
    have ab : a ≠ b := ne_of_none (show (upd H a _) a = some _ from upd_same) hb
    have nb : H b = none := (upd_ne ab.symm).symm.trans hb
    have ap : a ≠ p := (hd.ne ha).symm
    have bp : b ≠ p := (hd.ne nb).symm
    refine ⟨_, rfl, q, xs, rfl, sq_same2 hq ((Same.new ha).trans (Same.new hb)), _, rfl, by omega, by omega, for_range (lo := 0) (n := xs.length) (fun i σ' H' => ∃ ys zs t, σ' = [some (.ref p), some (.ref q), some (.ref a), some (.ref b), t] ∧ H' a = some (.lst ys) ∧ H' b = some (.lst zs) ∧ ys.length = xs.length - i ∧ zs.length = i ∧ (zs ++ ys).Perm xs ∧ Got p H H')
      ⟨xs, [], none, rfl, new_keep upd_same hb, upd_same, rfl, rfl, .refl _, ((Got.same hd).over hd ha _).over hd nb _⟩ ?_ ?_⟩
    · rintro i _ H1 hi ⟨ys, zs, t, rfl, h1, h2, l1, l2, pm, g⟩
      refine ⟨_, rfl, .inl ⟨rfl, _, SqL.of h2⟩, _, rfl, .inl ⟨rfl, _, SqL.of h1⟩, _, rfl, _, rfl, _, _, rfl, .inl (SqL.of h1), p, _, rfl, g.die, by omega, Nat.lt_of_le_of_lt (show ((ys.length : Int)).natAbs ≤ 1000 by omega) (by decide), fun r H2 r0 r1 g2 => ?_⟩
      obtain ⟨j, rfl⟩ : ∃ j : Nat, r = (j : Int) := ⟨r.toNat, by omega⟩
      have hj : j < ys.length := by omega
      have h1' := g2.keep _ _ h1 ap
      have h2' := g2.keep _ _ h2 bp
      refine ⟨_, _, _, j, ys[j], rfl, rfl, h1', by omega, by omega, PySem.StrLaws.seqIndex_nonneg (by omega) (by omega), List.getElem?_eq_getElem hj, ?_⟩
      refine ⟨_, zs, _, rfl, rfl, by rw [upd_ne ab.symm]; exact h2', Nat.lt_of_lt_of_le (show zs.length < 1000 by omega) (by decide), ?_⟩
      refine ⟨ys.eraseIdx j, zs ++ [ys[j]], _, rfl, by rw [upd_ne ab, upd_same], upd_same, by rw [List.length_eraseIdx_of_lt hj]; omega, by rw [List.length_append, l2]; rfl, ?_, ((g.trans g2).over hd ha _).over hd nb _⟩
      refine List.Perm.trans ?_ pm
      rw [List.append_assoc]
      refine List.Perm.append_left zs ?_
      exact erase_perm hj
    · rintro _ H1 ⟨ys, zs, t, rfl, h1, h2, l1, l2, pm, g⟩
      refine ⟨_, rfl, k b zs H1 nb bp l2 ?_ h2 g⟩
      have y0 : ys = [] := List.eq_nil_of_length_eq_zero (by omega)
      rw [y0, List.append_nil] at pm
      exact pm


theorem h_law_turns (T : TxS K mg aG dU C CR) (D : Df K mg "_law_turns" s__law_turns) : Has P w K mg base CX0 "_law_turns" 1 ["_law_grid"] spTurns := by
  refine D.has sc__law_turns (fun vs H Q E h => ?_) (fun kV doc pm an cdv ct us hl => match us, hl with | [_], _ => rfl) (fun f cdv A outer s H vs Q E gd hr h => ?_)
  · obtain ⟨t, rfl, _⟩ := h
    rfl
  · obtain ⟨t, rfl, k⟩ := h
    have hu := hr.units
    refine ⟨_, (pss_cons
 (ps_if (pt_cmpR op_eq (pv 0) pe_str (nomark _)) (pss_one
 (ps_ret (pe_lst (pa_cons (pe_lst (pa_cons pe_int (pa_cons pe_int pa_nil))) (pa_cons (pe_lst (pa_cons pe_int (pa_cons pe_int pa_nil))) (pa_cons (pe_lst (pa_cons pe_int (pa_cons pe_int pa_nil))) (pa_cons (pe_lst (pa_cons pe_int (pa_cons pe_int (pa_cons pe_int pa_nil)))) (pa_cons (pe_lst (pa_cons pe_int (pa_cons pe_int (pa_cons pe_int (pa_cons pe_int pa_nil))))) (pa_cons (pe_lst (pa_cons pe_int (pa_cons pe_int (pa_cons pe_int pa_nil)))) pa_nil))))))))) pss_nil)
 (pss_one
 (ps_ret (pe_lst (pa_cons (pe_lst (pa_cons pe_int (pa_cons pe_int pa_nil))) (pa_cons (pe_lst (pa_cons pe_int (pa_cons pe_int pa_nil))) (pa_cons (pe_lst (pa_cons pe_int (pa_cons pe_int (pa_cons pe_int pa_nil)))) (pa_cons (pe_lst (pa_cons pe_int (pa_cons pe_int pa_nil))) (pa_cons (pe_lst (pa_cons pe_int (pa_cons pe_int (pa_cons pe_int (pa_cons pe_int pa_nil))))) (pa_cons (pe_lst (pa_cons pe_int (pa_cons pe_int (pa_cons pe_int pa_nil)))) pa_nil)))))))))), ?_⟩
    try dsimp only [cxOf, Cx.nox]
    refine ⟨_, rfl, rfl, _, rfl, ?_⟩
    rw [nm_sq]
    cases t with
    | false =>
      refine iteT ?_
      refine ⟨by show 2 ≤ sizeLine; decide, fun t0 h0 => ⟨by show 2 ≤ sizeLine; decide, fun t1 h1 => ⟨by show 2 ≤ sizeLine; decide, fun t2 h2 => ⟨by show 3 ≤ sizeLine; decide, fun t3 h3 => ⟨by show 4 ≤ sizeLine; decide, fun t4 h4 => ⟨by show 3 ≤ sizeLine; decide, fun t5 h5 => ⟨by show 6 ≤ sizeLine; decide, fun L hL => ?_⟩⟩⟩⟩⟩⟩⟩
      exact k L _ ⟨[t0, t1, t2, t3, t4, t5], [[0, 1], [0, 3], [0, 0], [0, 0, 1], [0, 1, 0, 3], [1, 0, 0]], ((((((LLs.nil.push h0).push h1).push h2).push h3).push h4).push h5).done hL, by decide +kernel, by decide, by decide, by decide +kernel⟩
    | true =>
      refine iteF ?_
      refine ⟨by show 2 ≤ sizeLine; decide, fun t0 h0 => ⟨by show 2 ≤ sizeLine; decide, fun t1 h1 => ⟨by show 3 ≤ sizeLine; decide, fun t2 h2 => ⟨by show 2 ≤ sizeLine; decide, fun t3 h3 => ⟨by show 4 ≤ sizeLine; decide, fun t4 h4 => ⟨by show 3 ≤ sizeLine; decide, fun t5 h5 => ⟨by show 6 ≤ sizeLine; decide, fun L hL => ?_⟩⟩⟩⟩⟩⟩⟩
      exact k L _ ⟨[t0, t1, t2, t3, t4, t5], [[0, 1], [5, 0], [0, 2, 0], [0, 0], [0, 1, 5, 0], [0, 0, 1]], ((((((LLs.nil.push h0).push h1).push h2).push h3).push h4).push h5).done hL, by decide +kernel, by decide, by decide, by decide +kernel⟩
theorem h_law_written (T : TxS K mg aG dU C CR) (D : Df K mg "_law_written" s__law_written) : Has P w K mg base CX0 "_law_written" 1 ["_law_way"] spWritten := by
  refine D.has sc__law_written (fun vs H Q E h => ?_) (fun kV doc pm an cdv ct us hl => match us, hl with | [_], _ => rfl) (fun f cdv A outer s H vs Q E gd hr h => ?_)
  · obtain ⟨i, rfl, _⟩ := h
    rfl
  · obtain ⟨i, rfl, i0, i1, k⟩ := h
    have hu := hr.units
    refine ⟨_, (pss_cons
 (ps_set (i := 1) sc__law_written.nd rfl (Or.inl rfl) (pe_lst (pa_cons (pe_lst (pa_cons pe_str (pa_cons pe_str (pa_cons pe_str (pa_cons pe_str pa_nil))))) (pa_cons (pe_lst (pa_cons pe_str (pa_cons pe_str (pa_cons pe_str pa_nil)))) pa_nil))))
 (pss_cons
 (ps_expr (pe_bm PySem.F.plainAttrs_list PySem.F.slot_list_append PySem.F.type_list_append mt_append (pv 1) (pa_cons (pe_lst (pa_cons pe_str (pa_cons pe_str (pa_cons pe_str pa_nil)))) pa_nil)))
 (pss_cons
 (ps_expr (pe_bm PySem.F.plainAttrs_list PySem.F.slot_list_append PySem.F.type_list_append mt_append (pv 1) (pa_cons (pe_lst (pa_cons pe_str (pa_cons pe_str (pa_cons pe_str pa_nil)))) pa_nil)))
 (pss_cons
 (ps_expr (pe_bm PySem.F.plainAttrs_list PySem.F.slot_list_append PySem.F.type_list_append mt_append (pv 1) (pa_cons (pe_lst (pa_cons pe_str (pa_cons pe_str (pa_cons pe_str pa_nil)))) pa_nil)))
 (pss_cons
 (ps_expr (pe_bm PySem.F.plainAttrs_list PySem.F.slot_list_append PySem.F.type_list_append mt_append (pv 1) (pa_cons (pe_lst (pa_cons pe_str (pa_cons pe_str (pa_cons pe_str pa_nil)))) pa_nil)))
 (pss_cons
 (ps_expr (pe_bm PySem.F.plainAttrs_list PySem.F.slot_list_append PySem.F.type_list_append mt_append (pv 1) (pa_cons (pe_lst (pa_cons pe_str (pa_cons pe_str (pa_cons pe_str pa_nil)))) pa_nil)))
 (pss_cons
 (ps_expr (pe_bm PySem.F.plainAttrs_list PySem.F.slot_list_append PySem.F.type_list_append mt_append (pv 1) (pa_cons (pe_lst (pa_cons pe_str (pa_cons pe_str (pa_cons pe_str pa_nil)))) pa_nil)))
 (pss_cons
 (ps_expr (pe_bm PySem.F.plainAttrs_list PySem.F.slot_list_append PySem.F.type_list_append mt_append (pv 1) (pa_cons (pe_lst (pa_cons pe_str (pa_cons pe_str (pa_cons pe_str (pa_cons pe_str pa_nil))))) pa_nil)))
 (pss_cons
 (ps_expr (pe_bm PySem.F.plainAttrs_list PySem.F.slot_list_append PySem.F.type_list_append mt_append (pv 1) (pa_cons (pe_lst (pa_cons pe_str (pa_cons pe_str (pa_cons pe_str (pa_cons pe_str pa_nil))))) pa_nil)))
 (pss_cons
 (ps_set (i := 2) sc__law_written.nd rfl (Or.inl rfl) (pe_ix ix_list (pv 1) (pv 0) (fun _ _ => rfl)))
 (pss_one
 (ps_ret (pe_op op_cat (pe_lst (pa_cons (pe_op op_add_str pe_str (pe_ix ix_list (pv 2) pe_int (fun _ _ => rfl))) (pa_cons (pe_op op_add_str pe_str (pe_ix ix_list (pv 2) pe_int (fun _ _ => rfl))) pa_nil))) (pe_lc (own := [("_law_text", 3)]) (g := gName 3) (tt := tYes) (by rfl) sc__law_written.nd (pi_list (pe_slice sl_list (pv 2) (po_some pe_int) po_none)) (blkOk_by (own := [("_law_text", 3)]) (N := N__law_written) (sc := defScope s__law_written) (by decide +kernel)) (fun _ _ _ _ _ => pg_name (i := 3) sc__law_written.nd rfl (Or.inl rfl)) (fun _ _ _ _ _ => pts_nil) (fun _ _ _ _ _ => (pe_op op_add_str pe_str (pv 3))))))))))))))))), ?_⟩
    try dsimp only [cxOf, Cx.nox]
    refine ⟨by show 4 ≤ sizeLine; decide, fun t0 h0 => ⟨by show 3 ≤ sizeLine; decide, fun t1 h1 => ⟨by show 2 ≤ sizeLine; decide, fun L hL => ?_⟩⟩⟩
    have w2 := ((LLs.nil.push (vs := [.str "square", .str "a0", .str "a a0 b1", .str "b a1 b0"]) h0).push (vs := [.str "square", .str "a0", .str "a a0 a1"]) h1).done hL
    refine ⟨_, rfl, .inl ⟨rfl, _, SqL.of w2.here⟩, by show 3 ≤ sizeLine; decide, fun t2 h2 => ⟨L, _, _, rfl, rfl, Same.new h2 _ _ w2.here, by show 2 < sizeLine; decide, ?_⟩⟩
    refine app_go (as := [t0, t1]) (vs := [.str "triangle", .str "a0 a4 a2", .str "a a0 a1 a5 a0"]) w2 (fun H3 t2 w3 => ?_) t2 h2
    clear h2
    refine ⟨_, rfl, .inl ⟨rfl, _, SqL.of w3.here⟩, by show 3 ≤ sizeLine; decide, fun t3 h3 => ⟨L, _, _, rfl, rfl, Same.new h3 _ _ w3.here, by show 3 < sizeLine; decide, ?_⟩⟩
    refine app_go (as := [t0, t1, t2]) (vs := [.str "square", .str "a0", .str "a a0 a0 a2 a0"]) w3 (fun H4 t3 w4 => ?_) t3 h3
    clear h3
    refine ⟨_, rfl, .inl ⟨rfl, _, SqL.of w4.here⟩, by show 3 ≤ sizeLine; decide, fun t4 h4 => ⟨L, _, _, rfl, rfl, Same.new h4 _ _ w4.here, by show 4 < sizeLine; decide, ?_⟩⟩
    refine app_go (as := [t0, t1, t2, t3]) (vs := [.str "square", .str "a0 a1", .str "a a0 a0"]) w4 (fun H5 t4 w5 => ?_) t4 h4
    clear h4
    refine ⟨_, rfl, .inl ⟨rfl, _, SqL.of w5.here⟩, by show 3 ≤ sizeLine; decide, fun t5 h5 => ⟨L, _, _, rfl, rfl, Same.new h5 _ _ w5.here, by show 5 < sizeLine; decide, ?_⟩⟩
    refine app_go (as := [t0, t1, t2, t3, t4]) (vs := [.str "triangle", .str "a0", .str "a a0 a2 a0"]) w5 (fun H6 t5 w6 => ?_) t5 h5
    clear h5
    refine ⟨_, rfl, .inl ⟨rfl, _, SqL.of w6.here⟩, by show 3 ≤ sizeLine; decide, fun t6 h6 => ⟨L, _, _, rfl, rfl, Same.new h6 _ _ w6.here, by show 6 < sizeLine; decide, ?_⟩⟩
    refine app_go (as := [t0, t1, t2, t3, t4, t5]) (vs := [.str "square", .str "a0 a0 a1 a2 a3 a3", .str "a a0 a0"]) w6 (fun H7 t6 w7 => ?_) t6 h6
    clear h6
    refine ⟨_, rfl, .inl ⟨rfl, _, SqL.of w7.here⟩, by show 3 ≤ sizeLine; decide, fun t7 h7 => ⟨L, _, _, rfl, rfl, Same.new h7 _ _ w7.here, by show 7 < sizeLine; decide, ?_⟩⟩
    refine app_go (as := [t0, t1, t2, t3, t4, t5, t6]) (vs := [.str "square", .str "a0 a1 a2 a3", .str "a a0 a1 a0 a3 a0"]) w7 (fun H8 t7 w8 => ?_) t7 h7
    clear h7
    refine ⟨_, rfl, .inl ⟨rfl, _, SqL.of w8.here⟩, by show 4 ≤ sizeLine; decide, fun t8 h8 => ⟨L, _, _, rfl, rfl, Same.new h8 _ _ w8.here, by show 8 < sizeLine; decide, ?_⟩⟩
    refine app_go (as := [t0, t1, t2, t3, t4, t5, t6, t7]) (vs := [.str "square", .str "a0 b0", .str "a a0 b1 a0 a3", .str "b b0 a3 b1 b0"]) w8 (fun H9 t8 w9 => ?_) t8 h8
    clear h8
    refine ⟨_, rfl, .inl ⟨rfl, _, SqL.of w9.here⟩, by show 4 ≤ sizeLine; decide, fun t9 h9 => ⟨L, _, _, rfl, rfl, Same.new h9 _ _ w9.here, by show 9 < sizeLine; decide, ?_⟩⟩
    refine app_go (as := [t0, t1, t2, t3, t4, t5, t6, t7, t8]) (vs := [.str "triangle", .str "a0", .str "a b1 a0 b5", .str "b a5 b0 a1"]) w9 (fun H10 t9 w10 => ?_) t9 h9
    clear h9
    have W : LsAt H H10 L [t0, t1, t2, t3, t4, t5, t6, t7, t8, t9] (wrT.map fun ws => ws.map V.str) := w10
    generalize [t0, t1, t2, t3, t4, t5, t6, t7, t8, t9] = as at W
    clear w2 w3 w4 w5 w6 w7 w8 w9 w10
    obtain ⟨j, rfl⟩ : ∃ j : Nat, i = (j : Int) := ⟨i.toNat, by omega⟩
    obtain ⟨t, r, rs, _, good, sok, nz, eT⟩ := wr_ok j (by omega)
    obtain ⟨b, eb, _, _, hb⟩ := paired_at W.each (i := j) (by rw [List.getElem?_map, eT]; rfl)
    refine ⟨_, rfl, _, rfl, _, _, _, _, rfl, rfl, SqL.of W.here, atI_nat (j := j) (by rw [List.getElem?_map, eb]; rfl), ?_⟩
    have lg : (nm t).length ≤ 8 := by cases t <;> decide +kernel
    have la := rowT_most good.g.s.all good.g.s.most
    have k1 : (Str.ofString "grid ").length = 5 := by decide +kernel
    have k2 : (Str.ofString "axiom ").length = 6 := by decide +kernel
    have k3 : (Str.ofString "rule ").length = 5 := by decide +kernel
    have k4 : (Str.ofString " ").length = 1 := by decide +kernel
    refine ⟨_, rfl, _, _, _, _, rfl, rfl, SqL.of hb, atI_nat (j := 0) rfl, _, _, rfl, rfl, by rw [k1, sizeLine_eq]; omega, ?_⟩
    refine ⟨_, rfl, _, _, _, _, rfl, rfl, SqL.of hb, atI_nat (j := 1) rfl, _, _, rfl, rfl, by rw [k2, sizeLine_eq]; omega, ?_⟩
    refine ⟨by show 2 ≤ sizeLine; decide, fun P nP => ⟨_, rfl, 2, rfl, ?_⟩⟩
    have sP := Same.new (o := .lst [V.str (Str.ofString "grid " ++ nm t), V.str (Str.ofString "axiom " ++ rowT r)]) nP
    have hP : upd H10 P (.lst [V.str (Str.ofString "grid " ++ nm t), V.str (Str.ofString "axiom " ++ rowT r)]) P = some _ := upd_same
    have s1 := W.keep.trans sP
    replace hb := sP _ _ hb
    have ecut : cutV ((nm t :: rowT r :: rs.map fun yr => yr.1 ++ Str.ofString " " ++ rowT yr.2).map V.str) (some 2) none = (rs.map fun yr => yr.1 ++ Str.ofString " " ++ rowT yr.2).map V.str := cutV_from (k := 2) (by rw [List.length_map, List.length_cons, List.length_cons]; omega)
    clear W
    refine ⟨b, _, rfl, SqL.of hb, fun S nS => ?_⟩
    rw [ecut]
    have s2 := s1.trans (Same.new (o := .lst ((rs.map fun yr => yr.1 ++ Str.ofString " " ++ rowT yr.2).map V.str)) nS)
    replace hP := Same.new (o := .lst ((rs.map fun yr => yr.1 ++ Str.ofString " " ++ rowT yr.2).map V.str)) nS _ _ hP
    have hS : upd (upd H10 P (.lst [V.str (Str.ofString "grid " ++ nm t), V.str (Str.ofString "axiom " ++ rowT r)])) S (.lst ((rs.map fun yr => yr.1 ++ Str.ofString " " ++ rowT yr.2).map V.str)) S = some _ := upd_same
    generalize upd (upd H10 P (.lst [V.str (Str.ofString "grid " ++ nm t), V.str (Str.ofString "axiom " ++ rowT r)])) S (.lst ((rs.map fun yr => yr.1 ++ Str.ofString " " ++ rowT yr.2).map V.str)) = H12 at *
    have few := good.few
    refine ⟨S, rfl, ⟨_, SqL.of hS⟩, fun DL nDL => loop_list (a := S) (xs := (rs.map fun yr => yr.1 ++ Str.ofString " " ++ rowT yr.2).map V.str) (fun i H' => Same H12 H' ∧ H' DL = some (.lst (((rs.take i).map fun yr => Str.ofString "rule " ++ yr.1 ++ Str.ofString " " ++ rowT yr.2).map V.str))) ⟨Same.new nDL, upd_same⟩ (fun i H' _ h => SqL.of (h.1 _ _ hS)) ?_ ?_⟩
    · rintro i z H' hz ⟨s', eD⟩
      obtain ⟨y, hy, rfl⟩ := str_at' hz
      rw [List.getElem?_map] at hy
      cases c : rs[i]? with
      | none => rw [c] at hy; cases hy
      | some yr =>
      rw [c] at hy
      cases hy
      have my := List.mem_of_getElem? c
      obtain ⟨rg2, l2⟩ := good.gs yr my
      have l3 : yr.1.length = 1 := by
        have z := l2
        unfold LetS at z
        rw [Bool.and_eq_true, decide_eq_true_eq] at z
        exact z.1
      have lb := rowT_most rg2.s.all rg2.s.most
      refine ⟨rfl, ?_⟩
      simp only [tYes, if_true]
      refine ⟨_, rfl, _, _, rfl, rfl, by rw [k3, strLen_append, strLen_append, l3, k4, sizeLine_eq]; omega, _, eD, ?_, Same.over s' nDL _, ?_⟩
      · rw [List.length_map, List.length_map, List.length_take, sizeLine_eq]
        omega
      · rw [upd_same, List.take_add_one, c, List.map_append, List.map_append]
        show _ = some (HO.lst (_ ++ [V.str (Str.ofString "rule " ++ yr.1 ++ Str.ofString " " ++ rowT yr.2)]))
        rw [PySem.Str.append_assoc, PySem.Str.append_assoc, PySem.Str.append_assoc]
    · rintro H' ⟨s', eD⟩
      rw [List.length_map, List.length_map, List.take_length] at eD
      refine ⟨P, DL, _, _, rfl, rfl, s' _ _ hP, eD, by rw [List.length_map, List.length_map, sizeLine_eq]; show 2 + _ ≤ _; omega, fun R nR => k R t r rs _ (none_back (s2.trans s') nR) ((s2.trans s').trans (Same.new nR)) upd_same good sok nz⟩
end
end K13
namespace K13
open PySem PySem.Spec PyProof.Rows L2 GL SkE
noncomputable abbrev s__law_drawn_rule : Stmt := topS 67
noncomputable abbrev N__law_drawn_rule : List Str := ["_law_dice_here", "_law_grid", "_law_letters", "_law_turns_here", "_law_row_here", "_law_around_here", "_law_at", "_law_turn"]
theorem sc__law_drawn_rule : FnScope N__law_drawn_rule ["_law_dice_here", "_law_grid", "_law_letters", "_law_turns_here"] (defScope s__law_drawn_rule) := ⟨rfl, rfl, rfl, by decide +kernel, rfl, by decide +kernel, by decide +kernel⟩
theorem if_two {b : Bool} {x y : V} {R : V → Prop} (h : ∀ z, z = x ∨ z = y → R z) : if b = true then R x else R y := by
  cases b
  · exact h y (.inr rfl)
  · exact h x (.inl rfl)
theorem ints_of {ns : List Int} {zs : List V} (h : zs.Perm (ns.map V.int)) : ∃ zi : List Int, zs = zi.map V.int ∧ zi.Perm ns := by
  have e : zs = (zs.map fun v => match v with | .int i => i | _ => 0).map V.int := by
    rw [List.map_map]
    refine ((List.map_congr_left fun v hv => ?_).trans (List.map_id zs)).symm
    obtain ⟨n, _, rfl⟩ := List.mem_map.mp (h.mem_iff.mp hv)
    rfl
  refine ⟨_, e, ?_⟩
  have z := h.map (fun v => match v with | .int i => i | _ => (0 : Int))
  rw [List.map_map] at z
  exact z.trans (.of_eq ((List.map_congr_left fun n _ => rfl).trans (List.map_id ns)))
theorem if_numV {t : Bool} {R : V → Prop} (h : R (.int (num t : Int))) : if (!t) = true then R (.int 4) else R (.int 6) := by
  cases t
  · exact h
  · exact h
theorem opp4 : ∀ n < 4, padd (uni false ((n : Nat) : Int)) (uni false (((n : Nat) : Int) + 4 / 2)) = (0, 0) := by decide +kernel
theorem opp6 : ∀ n < 6, padd (uni true ((n : Nat) : Int)) (uni true (((n : Nat) : Int) + 6 / 2)) = (0, 0) := by decide +kernel
theorem uni_mod {t : Bool} {n : Int} : uni t (n % (num t : Int)) = uni t n := by
  unfold uni
  rw [Int.emod_emod_of_dvd n (Int.dvd_refl _)]
theorem opp {t : Bool} {n : Int} (a : 0 ≤ n) (b : n < (num t : Int)) : sumT t [n, (n + (num t : Int) / 2) % (num t : Int)] = (0, 0) := by
  show padd (uni t n) (padd (uni t _) (0, 0)) = _
  rw [padd_zero, uni_mod]
  obtain ⟨m, rfl⟩ : ∃ m : Nat, n = (m : Int) := ⟨n.toNat, by omega⟩
  cases t
  · have b : (m : Int) < 4 := b
    exact opp4 m (by omega)
  · have b : (m : Int) < 6 := b
    exact opp6 m (by omega)
theorem sum_cut {t : Bool} {a : Nat} {zi : List Int} {r3 r4 : Int} (o : sumT t [r3, r4] = (0, 0)) : sumT t (zi.take a ++ [r3, r4] ++ zi.drop a) = sumT t zi := by
  rw [sumT_app, sumT_app, o, padd_zero, ← sumT_app, List.take_append_drop]
theorem ints_dp {K : PySem.W.Frag} {H : Hp} : ∀ {ns : List Int}, DpAll K H (ns.map V.int) (ns.map .int)
  | [] => .nil
  | n :: _ => .cons (.int n) ints_dp
theorem turns_dps {K : PySem.W.Frag} {H H' H2 : Hp} {L : Addr} (s : Same H' H2) : ∀ {as : List Addr} {nss : List (List Int)}, Paired (fun a vs => H a = none ∧ a ≠ L ∧ H' a = some (.lst vs)) as (nss.map fun ns => ns.map V.int) → ∀ m, DpAll K H2 ((as.take m).map V.ref) ((nss.take m).map fun ns => .list (ns.map PyData.int))
  | _, [], .nil, m => by rw [List.take_nil, List.take_nil]; exact .nil
  | _, _ :: _, .cons _ _, 0 => .nil
  | _, _ :: _, .cons h r, m + 1 => .cons (.lst (SqL.of (s _ _ h.2.2)) ints_dp) (turns_dps s r m)
theorem Got.free_ne {p q : Addr} {H H' : Hp} (g : Got p H H') (n : H' q = none) : q ≠ p := fun e => by
  obtain ⟨l, b, c, _, h⟩ := g.die
  rw [e, h] at n
  cases n
theorem int_at {x : V} {i : Nat} {ys : List Int} (h : (ys.map V.int)[i]? = some x) : ∃ y, ys[i]? = some y ∧ x = .int y := by
  rw [List.getElem?_map] at h
  cases c : ys[i]? with
  | none => rw [c] at h; cases h
  | some y => rw [c] at h; cases h; exact ⟨y, rfl, rfl⟩
/-- a list of words of a row, under way -/
noncomputable def WordsI (p D : Addr) (t : Bool) (ys : List Str) (ns : List Int) (H : Hp) (n : Nat) (H' : Hp) : Prop := ∃ r : RowT, r.length = n ∧ (∀ it ∈ r, ItemOk t it) ∧ (∀ it ∈ r, it.1 ∈ ys) ∧ r.map (·.2) = ns.take n ∧ H' D = some (.lst ((r.map itemT).map V.str)) ∧ Got p H H' ∧ D ≠ p
theorem words_sum {r : RowT} (h : ∀ it ∈ r, ItemOk true it) (m : r.length ≤ 12) : ((r.map itemT).map (fun x => x.length)).sum + (r.map itemT).length * (" " : Str).length ≤ 16777216 := by
  have sum : ((r.map itemT).map (fun x => x.length)).sum ≤ 2 * r.length := by
    clear m
    induction r with
    | nil => simp
    | cons x r ih =>
      have a1 := (item_word (h x (List.mem_cons_self ..))).2.2.2
      have a2 := ih (fun it hi => h it (List.mem_cons_of_mem _ hi))
      simp only [List.map_cons, List.sum_cons, List.length_cons] at a2 ⊢
      omega
  rw [List.length_map, show (" " : Str).length = 1 by decide +kernel]
  omega
noncomputable def RowI (p : Addr) (t : Bool) (ls ts : Addr) (ar : Int) (ns : List Int) (H : Hp) : L2.St → Hp → Prop := fun σ' H' => ∃ (l' : Addr) (zs' : List Int) (u v : Option V), σ' = [some (.ref p), some (.str (nm t)), some (.ref ls), some (.ref ts), some (.ref l'), some (.int ar), u, v] ∧ l' ≠ p ∧ H' l' = some (.lst (zs'.map V.int)) ∧ 2 ≤ zs'.length ∧ zs'.length ≤ 12 ∧ (∀ n ∈ zs', 0 ≤ n ∧ n < (num t : Int)) ∧ sumT t zs' = sumT t ns ∧ Got p H H'
noncomputable def spDrawnRule : Sp := fun vs H Q _ => ∃ (p : Addr) (t : Bool) (ls ts : Addr) (ys : List Str) (ns : List Int), vs = [.ref p, .str (nm t), .ref ls, .ref ts] ∧ Die H p ∧ H ls = some (.lst (ys.map V.str)) ∧ ls ≠ p ∧ (∀ y ∈ ys, LetS y = true) ∧ 1 ≤ ys.length ∧ ys.length ≤ 10 ∧ H ts = some (.lst (ns.map V.int)) ∧ ts ≠ p ∧ TurnsOk t ns ∧ ∀ r H', RowG r → RowOk t r → (∀ it ∈ r, it.1 ∈ ys) → sumOf t r = sumT t ns → Got p H H' → Q (.str (rowT r)) H'
section
variable {P : Program} {w : World} {K : PySem.W.Frag} {mg : Str → Option Value} {base : Heap}
variable {aG dU C CR CS eG eS : Addr} {U : Bool → Addr} {us : Bool → List Addr}
theorem h_law_drawn_rule (T : TxS K mg aG dU C CR) (D : Df K mg "_law_drawn_rule" s__law_drawn_rule) (h_law_roll : Has P w K mg base CX0 "_law_roll" 1 ["_law_dice_here", "_law_total"] spRoll) (h_law_pick : Has P w K mg base CX0 "_law_pick" 2 ["_law_dice_here", "_law_items"] spPick) (h_law_mixed : Has P w K mg base CX0 "_law_mixed" 2 ["_law_dice_here", "_law_items"] (spMixedB K)) (h_law_turns : Has P w K mg base CX0 "_law_turns" 1 ["_law_grid"] spTurns) : Has P w K mg base CX0 "_law_drawn_rule" 3 ["_law_dice_here", "_law_grid", "_law_letters", "_law_turns_here"] spDrawnRule := by
  refine D.has sc__law_drawn_rule (fun vs H Q E h => ?_) (fun kV doc pm an cdv ct us hl => match us, hl with | [_, _, _, _], _ => rfl) (fun f cdv A outer s H vs Q E gd hr h => ?_)
  · obtain ⟨p, t, ls, ts, ys, ns, rfl, _⟩ := h
    rfl
  · obtain ⟨p, t, ls, ts, ys, ns, rfl, hd, hls, nls, oky, y1, y2, hts, nts, okn, k⟩ := h
    have hu := hr.units
    have hu65 : (A.deeper (envOfC "_law_drawn_rule" (defScope s__law_drawn_rule) s.heap.objs.size f cdv)).units + 65 < cLine := by have := hr.un; omega
    refine ⟨_, (pss_cons
 (ps_par (i := 4) (j := 5) (by rfl) sc__law_drawn_rule.nd rfl rfl (by decide) rfl rfl (pa_cons (pe_callH h_law_mixed gd (hr.mono (by decide)) pass0 (pa_cons (pv 0) (pa_cons (pv 3) pa_nil))) (pa_cons (pe_ifExp (pt_cmpR op_eq (pv 1) pe_str (nomark _)) pe_int pe_int) pa_nil)) (by rfl))
 (Evl.pss_cut
 (ps_if (PW.pt (pw_and (pt_cmpR op_eq (pe_callH h_law_roll gd (hr.mono (by decide)) pass0 (pa_cons (pv 0) (pa_cons pe_int pa_nil))) pe_int (nomark _)) (pw_and (pt_cmpR op_lt (pe_callB call_len_seq (by exact rfl) T.zlen PySem.boot_len (pa_cons (pv 3) pa_nil)) pe_int (nomark _)) (pw_and1 (pt_cmpR (op_notInD hu65) (pv 3) (pe_slice sl_list (pe_callH h_law_turns gd (hr.mono (by decide)) pass0 (pa_cons (pv 1) pa_nil)) po_none (po_some (pe_ifExp (pt_cmpR op_eq (pv 5) pe_int (nomark _)) pe_int pe_int))) (by rfl)))))) (pss_cons
 (ps_par (i := 6) (j := 7) (by rfl) sc__law_drawn_rule.nd rfl rfl (by decide) rfl rfl (pa_cons (pe_callH h_law_roll gd (hr.mono (by decide)) pass0 (pa_cons (pv 0) (pa_cons (pe_op op_add (pe_callB call_len_seq (by exact rfl) T.zlen PySem.boot_len (pa_cons (pv 4) pa_nil)) pe_int) pa_nil))) (pa_cons (pe_callH h_law_roll gd (hr.mono (by decide)) pass0 (pa_cons (pv 0) (pa_cons (pv 5) pa_nil))) pa_nil)) (by rfl))
 (pss_one
 (ps_set (i := 4) sc__law_drawn_rule.nd rfl (Or.inl rfl) (pe_op op_cat (pe_op op_cat (pe_slice sl_list (pv 4) po_none (po_some (pv 6))) (pe_lst (pa_cons (pv 7) (pa_cons (pe_op op_mod (pe_op op_add (pv 7) (pe_op op_fdiv (pv 5) pe_int)) (pv 5)) pa_nil)))) (pe_slice sl_list (pv 4) (po_some (pv 6)) po_none))))) pss_nil)
 (pss_one
 (ps_ret (pe_bm PySem.F.plainAttrs_str PySem.F.slot_str_join PySem.F.type_str_join mt_join pe_str (pa_cons (pe_lc (own := [("_law_turn", 7)]) (g := gName 7) (tt := tYes) (by rfl) sc__law_drawn_rule.nd (pi_list (pv 4)) (blkOk_by (own := [("_law_turn", 7)]) (N := N__law_drawn_rule) (sc := defScope s__law_drawn_rule) (by decide +kernel)) (fun _ _ _ _ _ => pg_name (i := 7) sc__law_drawn_rule.nd rfl (Or.inl rfl)) (fun _ _ _ _ _ => pts_nil) (fun _ _ _ _ _ => (pe_op op_add_str (pe_callH h_law_pick gd (hr.mono (by decide)) pass0 (pa_cons (pv 0) (pa_cons (pv 2) pa_nil))) (pe_callTy call_str_int (by exact rfl) T.zstr (by decide +kernel) (pa_cons (pv 7) pa_nil))))) pa_nil)))))), ?_⟩
    try dsimp only [cxOf, Cx.nox]
    have n2 := okn.two
    have n4 := okn.four
    refine ⟨_, rfl, _, rfl, p, ts, ns.map V.int, rfl, hd, .inl (SqL.of hts), by rw [List.length_map]; omega, fun l zs H1 nl lp lzs mzs hl g1 => ?_⟩
    obtain ⟨zi, rfl, pzi⟩ := ints_of mzs
    have mzi : ∀ n ∈ zi, n ∈ ns := fun n h => pzi.mem_iff.mp h
    have szi := sumT_perm (t := t) pzi
    rw [List.length_map, List.length_map] at lzs
    refine ⟨_, rfl, rfl, _, rfl, ?_⟩
    rw [nm_sq]
    refine if_numV (R := fun z => tC z _ _ _) ?_
    generalize har : (num t : Int) = ar
    have har2 : ar = 4 ∨ ar = 6 := by rw [← har]; cases t <;> decide
    refine ⟨_, _, rfl, ?_⟩
    refine ⟨RowI p t ls ts ar ns H, ?_, ?_⟩
    · refine ⟨_, rfl, p, 6, rfl, g1.die, by decide, by decide, fun r1 H2 r0 r6 g2 => ?_⟩
      have here : ∀ {H'}, Got p H2 H' → RowI p t ls ts ar ns H [some (.ref p), some (.str (nm t)), some (.ref ls), some (.ref ts), some (.ref l), some (.int ar), none, none] H' := fun g => ⟨l, zi, none, none, rfl, lp, (g2.trans g).keep _ _ hl lp, by omega, by omega, fun n hn => ⟨okn.lo n (mzi n hn), okn.hi n (mzi n hn)⟩, szi, (g1.trans g2).trans g⟩
      refine ⟨rfl, _, rfl, ?_⟩
      refine ite2 (fun c => ?_) (fun c => iteF (here (Got.same g2.die)))
      have hts2 := (g1.trans g2).keep _ _ hts nts
      refine ⟨_, rfl, ts, _, rfl, .inl (SqL.of hts2), _, _, rfl, rfl, _, rfl, ?_⟩
      refine ite2 (fun c => ?_) (fun c => iteF (here (Got.same g2.die)))
      refine ⟨_, rfl, _, rfl, t, rfl, fun TL H3 ⟨as, nss, L3, okN, n3, n7, okL⟩ => ?_⟩
      refine ⟨_, rfl, rfl, _, rfl, if_two (R := fun z => tC z _ _ _) (x := .int 3) (y := .int 2) fun z hz => ?_⟩
      obtain ⟨m, rfl, hm⟩ : ∃ m : Nat, z = .int (m : Int) ∧ m ∈ [2, 3] := by
        rcases hz with rfl | rfl
        · exact ⟨3, rfl, by decide⟩
        · exact ⟨2, rfl, by decide⟩
      have las : as.length = nss.length := by
        have z := Paired.length L3.each
        rw [List.length_map] at z
        exact z
      refine ⟨_, rfl, TL, _, rfl, SqL.of L3.here, fun S nS => ?_⟩
      have hm3 : m ≤ 3 := by
        simp only [List.mem_cons, List.not_mem_nil, or_false] at hm
        omega
      rw [cutV_to (by rw [List.length_map]; omega), ← List.map_take]
      have s4 := Same.new (o := .lst ((as.take m).map V.ref)) nS
      refine ⟨.list (ns.map .int), (nss.take m).map fun ns => .list (ns.map .int), .lst (SqL.of (s4 _ _ (L3.keep _ _ hts2))) ints_dp, .lst (SqL.of upd_same) (turns_dps s4 L3.each m), okn.sh, okL m hm, _, rfl, ?_⟩
      have g5 : Got p H2 (upd H3 S (.lst ((as.take m).map V.ref))) := Got.over_same (Got.same g2.die) (L3.keep.trans s4)
      have hl5 := (g2.trans g5).keep _ _ hl lp
      have g15 := (g1.trans g2).trans g5
      refine ite2 (fun c => ?_) (fun c => here g5)
      generalize upd H3 S (.lst ((as.take m).map V.ref)) = H5 at *
      refine ⟨_, rfl, _, rfl, l, _, rfl, .inl (SqL.of hl5), _, _, rfl, rfl, p, _, rfl, g5.die, by omega, Nat.lt_of_le_of_lt (show _ ≤ 1000 by rw [List.length_map]; omega) (by decide), fun r2 H6 r20 r21 g6 => ?_⟩
      refine ⟨_, rfl, _, rfl, p, ar, rfl, g6.die, by omega, Nat.lt_of_le_of_lt (show _ ≤ 1000 by omega) (by decide), fun r3 H7 r30 r31 g7 => ⟨_, _, rfl, ?_⟩⟩
      have hl7 := (g6.trans g7).keep _ _ hl5 lp
      have g17 := (g15.trans g6).trans g7
      obtain ⟨a, rfl⟩ : ∃ a : Nat, r2 = (a : Int) := ⟨r2.toNat, by omega⟩
      rw [List.length_map] at r21
      have e1 : cutV (zi.map V.int) none (some (a : Int)) = (zi.take a).map V.int := by rw [cutV_to (by rw [List.length_map]; omega), List.map_take]
      have e2 : cutV (zi.map V.int) (some (a : Int)) none = (zi.drop a).map V.int := by rw [cutV_from (by rw [List.length_map]; omega), List.map_drop]
      refine ⟨_, rfl, _, rfl, (a : Int), rfl, l, _, rfl, SqL.of hl7, fun S1 n1 => ?_⟩
      rw [e1]
      refine ⟨_, rfl, _, rfl, _, rfl, _, _, rfl, rfl, ⟨by decide, by decide⟩, _, _, rfl, rfl, _, rfl, _, _, rfl, rfl, (show (0 : Int) < ar by omega), by show 2 ≤ sizeLine; decide, fun P1 nP => ?_⟩
      dsimp only at nP ⊢
      generalize er : (r3 + ar / 2) % ar = r4
      have r40 : 0 ≤ r4 := by rw [← er]; exact Int.emod_nonneg _ (by omega)
      have r41 : r4 < ar := by rw [← er]; exact Int.emod_lt_of_pos _ (by omega)
      have s1 := (Same.new (o := .lst ((zi.take a).map V.int)) n1).trans (Same.new (o := .lst [.int r3, .int r4]) nP)
      have hS1 := Same.new (o := .lst [.int r3, .int r4]) nP _ _ (upd_same : upd H7 S1 (.lst ((zi.take a).map V.int)) S1 = some _)
      have hP1 : upd (upd H7 S1 (.lst ((zi.take a).map V.int))) P1 (.lst [.int r3, .int r4]) P1 = some (.lst ([r3, r4].map V.int)) := upd_same
      generalize upd (upd H7 S1 (.lst ((zi.take a).map V.int))) P1 (.lst [.int r3, .int r4]) = H9 at *
      refine ⟨S1, P1, _, _, rfl, rfl, hS1, hP1, by rw [List.length_map, List.length_take, sizeLine_eq]; show _ + 2 ≤ _; omega, fun C1 nC => ?_⟩
      rw [← List.map_append]
      have s2 := s1.trans (Same.new (o := .lst ((zi.take a ++ [r3, r4]).map V.int)) nC)
      have hC1 : upd H9 C1 (.lst ((zi.take a ++ [r3, r4]).map V.int)) C1 = some _ := upd_same
      generalize upd H9 C1 (.lst ((zi.take a ++ [r3, r4]).map V.int)) = H10 at *
      refine ⟨_, rfl, _, rfl, (a : Int), rfl, l, _, rfl, SqL.of (s2 _ _ hl7), fun S2 nS2 => ?_⟩
      rw [e2]
      have s3 := s2.trans (Same.new (o := .lst ((zi.drop a).map V.int)) nS2)
      replace hC1 := Same.new (o := .lst ((zi.drop a).map V.int)) nS2 _ _ hC1
      have hS2 : upd H10 S2 (.lst ((zi.drop a).map V.int)) S2 = some _ := upd_same
      generalize upd H10 S2 (.lst ((zi.drop a).map V.int)) = H11 at *
      refine ⟨C1, S2, _, _, rfl, rfl, hC1, hS2, by rw [List.length_map, List.length_map, List.length_append, List.length_take, List.length_drop, sizeLine_eq]; show _ + 2 + _ ≤ _; omega, fun C2 nC2 => ?_⟩
      rw [← List.map_append]
      refine ⟨C2, _, _, _, rfl, ?_, upd_same, ?_, ?_, ?_, (sum_cut (by rw [← er, ← har]; exact opp r30 (by rw [har]; exact r31))).trans szi, g17.over_same (s3.trans (Same.new nC2))⟩
      · exact (_root_.K13.Got.free_ne (g17.over_same s3) nC2)
      · rw [List.length_append, List.length_append]
        show 2 ≤ _ + 2 + _
        omega
      · rw [List.length_append, List.length_append, List.length_take, List.length_drop]
        show _ + 2 + _ ≤ 12
        omega
      · intro n hn
        have old : ∀ n ∈ zi, 0 ≤ n ∧ n < (num t : Int) := fun n hn => ⟨okn.lo n (mzi n hn), okn.hi n (mzi n hn)⟩
        simp only [List.mem_append, List.mem_cons, List.not_mem_nil, or_false] at hn
        rcases hn with (h | h | h) | h
        · exact old n (List.mem_of_mem_take h)
        · rw [h]; omega
        · rw [h]; omega
        · exact old n (List.mem_of_mem_drop h)
    · rintro _ H2 ⟨l', zs', u, v, rfl, lp', hl', z1, z12, okz, sz, g2⟩
      refine ⟨rfl, _, rfl, l', rfl, ⟨_, SqL.of hl'⟩, fun DL nDL => loop_list (a := l') (xs := zs'.map V.int) (fun i H' => WordsI p DL t ys zs' H2 i H') ⟨[], rfl, fun _ h => by (cases h), fun _ h => by (cases h), rfl, upd_same, Got.new g2.die nDL, Got.free_ne g2 nDL⟩ (fun i H' _ h => let ⟨_, _, _, _, _, _, g, _⟩ := h; SqL.of (g.keep _ _ hl' lp')) ?_ ?_⟩
      · rintro i z H' hz ⟨r, lr, okr, mr, er, eD, g, nD⟩
        obtain ⟨n, hn, rfl⟩ := int_at hz
        obtain ⟨n0, n6'⟩ := okz n (List.mem_of_getElem? hn)
        have n6 : n < 6 := Int.lt_of_lt_of_le n6' num_six
        refine ⟨rfl, ?_⟩
        simp only [tYes, if_true]
        refine ⟨_, rfl, _, rfl, p, ls, ys.map V.str, rfl, g.die, .inl ((g2.trans g).keep _ _ hls nls), nls, by rw [List.length_map]; omega, by rw [List.length_map]; omega, fun v' H4 mv g4 => ?_⟩
        obtain ⟨y, my, rfl⟩ := List.mem_map.mp mv
        have ly := oky y my
        have z1' := Nat.le_of_eq (show y.length = 1 from by
          have z := ly
          unfold LetS at z
          rw [Bool.and_eq_true, decide_eq_true_eq] at z
          exact z.1)
        have l2 := dec_len9 n n0 (by omega)
        have l3 : (toString n : Str).length = 1 := l2
        refine ⟨_, rfl, n, rfl, Nat.lt_trans (PySem.Flt.log2_lt_of (k := 4) (by decide) (by omega)) (by decide), _, _, rfl, rfl, by rw [l2, sizeLine_eq]; omega, _, g4.keep _ _ eD nD, ?_, ?_⟩
        · rw [List.length_map, List.length_map, lr, sizeLine_eq]
          have := (List.getElem?_eq_some_iff.mp hn).1
          omega
        · refine ⟨r ++ [(y, n)], by rw [List.length_append, lr]; rfl, fun it hi => ?_, fun it hi => ?_, ?_, ?_, ?_, nD⟩
          · rcases List.mem_append.mp hi with h | h
            · exact okr it h
            · rw [List.mem_singleton.mp h]
              exact ⟨ly, n0, n6'⟩
          · rcases List.mem_append.mp hi with h | h
            · exact mr it h
            · rw [List.mem_singleton.mp h]
              exact my
          · rw [List.map_append, er, List.take_add_one, hn]
            rfl
          · rw [upd_same, List.map_append, List.map_append]
            rfl
          · exact (g.trans g4).over g2.die nDL _
      · rintro H' ⟨r, lr, okr, mr, er, eD, g, nD⟩
        rw [List.length_map] at lr er
        rw [List.take_length] at er
        refine ⟨_, _, _, rfl, rfl, .inl (SqL.of eD), words_sum (fun it h => itemOk_true (okr it h)) (by omega), k r H' ⟨⟨by omega, fun it h => itemOk_true (okr it h)⟩, by omega⟩ ⟨by omega, by omega, okr⟩ mr (by rw [sumOf_T, er]; exact sz) (g2.trans g)⟩
end
end K13
namespace K13
open PySem PySem.Spec PyProof.Rows L2 GL SkE
noncomputable abbrev s__law_drawn : Stmt := topS 68
noncomputable abbrev N__law_drawn : List Str := ["_law_dice_here", "_law_grid", "_law_many", "_law_turns_here", "_law_letters", "_law_axioms", "_law_axiom", "_law_rules", "_law_name", "_law_turn"]
theorem sc__law_drawn : FnScope N__law_drawn ["_law_dice_here"] (defScope s__law_drawn) := ⟨rfl, rfl, rfl, by decide +kernel, rfl, by decide +kernel, by decide +kernel⟩
theorem paired_mem {α β : Type} {R : α → β → Prop} : ∀ {xs : List α} {ys : List β}, Paired R xs ys → ∀ {x : α}, x ∈ xs → ∃ y, y ∈ ys ∧ R x y
  | _, _, .nil, _, h => by cases h
  | x0 :: _, _, .cons a r, x, h => by
    rcases List.mem_cons.mp h with e | h
    · rw [e]; exact ⟨_, List.mem_cons_self .., a⟩
    · obtain ⟨y, hy, q⟩ := paired_mem r h
      exact ⟨y, List.mem_cons_of_mem _ hy, q⟩
theorem if_min {b : Bool} {mn : Nat} {σ : L2.St} {H : Hp} {Q : VK} (m1 : 1 ≤ mn) (m3 : mn ≤ 3) (e2 : σ[2]? = some (some (.int (mn : Int)))) (h : ∀ m : Nat, 1 ≤ m → m ≤ 3 → Q (.int (m : Int)) H) :
    if b = true then tCB (fun xs H Q => ∃ i j, xs = [V.int i, V.int j] ∧ Q (V.int (if j < i then j else i)) H) (tCons (tVar 2) (tCons (tC (V.int 2)) tNil)) σ H Q else tVar 2 σ H Q := by
  have e : (if (2 : Int) < (mn : Int) then (2 : Int) else (mn : Int)) = ((min mn 2 : Nat) : Int) := by split <;> omega
  cases b
  · exact ⟨_, e2, h mn m1 m3⟩
  · refine ⟨_, e2, _, _, rfl, ?_⟩
    rw [e]
    exact h _ (by omega) (by omega)
/-- the lists of turns of an axiom -/
noncomputable def AxI (t : Bool) (p : Addr) (H : Hp) (X : Addr) (H' : Hp) : Prop := X ≠ p ∧ Got p H H' ∧ ∃ as : List Addr, H' X = some (.lst (as.map V.ref)) ∧ as.length = 7 ∧ ∀ a ∈ as, a ≠ p ∧ ∃ ns : List Int, H' a = some (.lst (ns.map V.int)) ∧ 1 ≤ ns.length ∧ ns.length ≤ 4 ∧ ∀ n ∈ ns, 0 ≤ n ∧ n < (num t : Int)
theorem ax_of {t : Bool} {p X : Addr} {H H1 H' : Hp} {as : List Addr} {nss : List (List Int)} (g : Got p H H1) (h : LsAt H1 H' X as (nss.map fun ns => ns.map V.int)) (l : nss.length = 7) (ok : ∀ ns ∈ nss, 1 ≤ ns.length ∧ ns.length ≤ 4 ∧ ∀ n ∈ ns, 0 ≤ n ∧ n < (num t : Int)) : AxI t p H X H' := by
  refine ⟨(g.die.ne h.new).symm, g.over_same h.keep, as, h.here, ?_, fun a ma => ?_⟩
  · have z := Paired.length h.each
    rw [List.length_map] at z
    omega
  · obtain ⟨vs, mvs, na, _, ha⟩ := paired_mem h.each ma
    obtain ⟨ns, mns, rfl⟩ := List.mem_map.mp mvs
    exact ⟨(g.die.ne na).symm, ns, ha, ok ns mns⟩
theorem ax_go {t : Bool} {p X : Addr} {H H' : Hp} {Q : Hp → Prop} (ax : AxI t p H X H') (k : ∀ H2, AxI t p H X H2 → Q H2) : Q H' := k _ ax
noncomputable def spDrawn : Sp := fun vs H Q _ => ∃ (p : Addr), vs = [.ref p] ∧ Die H p ∧ ∀ L t r rs H', L ≠ p → H' L = some (.lst ((linesP t r rs).map V.str)) → GoodL 3 r rs → SchOk t r rs → (∀ yr ∈ rs, yr.1 ∈ abc) → Got p H H' → Q (.ref L) H'
section
variable {P : Program} {w : World} {K : PySem.W.Frag} {mg : Str → Option Value} {base : Heap}
variable {aG dU C CR CS eG eS : Addr} {U : Bool → Addr} {us : Bool → List Addr}
theorem h_law_drawn (T : TxS K mg aG dU C CR) (D : Df K mg "_law_drawn" s__law_drawn) (h_law_roll : Has P w K mg base CX0 "_law_roll" 1 ["_law_dice_here", "_law_total"] spRoll) (h_law_pick : Has P w K mg base CX0 "_law_pick" 2 ["_law_dice_here", "_law_items"] spPick) (h_law_turns : Has P w K mg base CX0 "_law_turns" 1 ["_law_grid"] spTurns) (h_law_drawn_rule : Has P w K mg base CX0 "_law_drawn_rule" 3 ["_law_dice_here", "_law_grid", "_law_letters", "_law_turns_here"] spDrawnRule) : Has P w K mg base CX0 "_law_drawn" 4 ["_law_dice_here"] spDrawn := by
  refine D.has sc__law_drawn (fun vs H Q E h => ?_) (fun kV doc pm an cdv ct us hl => match us, hl with | [_], _ => rfl) (fun f cdv A outer s H vs Q E gd hr h => ?_)
  · obtain ⟨p, rfl, _⟩ := h
    rfl
  · obtain ⟨p, rfl, hd, k⟩ := h
    have hu := hr.units
    have hu65 : (A.deeper (envOfC "_law_drawn" (defScope s__law_drawn) s.heap.objs.size f cdv)).units + 65 < cLine := by have := hr.un; omega
    refine ⟨_, (pss_cons
 (ps_asg (pe_tup (pa_cons (pe_callH h_law_pick gd (hr.mono (by decide)) pass0 (pa_cons (pv 0) (pa_cons (pe_lst (pa_cons pe_str (pa_cons pe_str pa_nil))) pa_nil))) (pa_cons (pe_callH h_law_pick gd (hr.mono (by decide)) pass0 (pa_cons (pv 0) (pa_cons (pe_lst (pa_cons pe_int (pa_cons pe_int (pa_cons pe_int (pa_cons pe_int (pa_cons pe_int pa_nil)))))) pa_nil))) pa_nil))) (pg_tup (by rfl) (pgs_cons (pg_name (i := 1) sc__law_drawn.nd rfl (Or.inr rfl)) (pgs_cons (pg_name (i := 2) sc__law_drawn.nd rfl (Or.inl rfl)) pgs_nil))))
 (pss_cons
 (ps_set (i := 3) sc__law_drawn.nd rfl (Or.inr rfl) (pe_callH h_law_pick gd (hr.mono (by decide)) pass0 (pa_cons (pv 0) (pa_cons (pe_callH h_law_turns gd (hr.mono (by decide)) pass0 (pa_cons (pv 1) pa_nil)) pa_nil))))
 (pss_cons
 (ps_set (i := 4) sc__law_drawn.nd rfl (Or.inr rfl) (pe_slice sl_list (pe_lst (pa_cons pe_str (pa_cons pe_str (pa_cons pe_str pa_nil)))) po_none (po_some (pe_ifExp (pt_cmpR (op_inD hu65) (pv 3) (pe_slice sl_list (pe_callH h_law_turns gd (hr.mono (by decide)) pass0 (pa_cons (pv 1) pa_nil)) po_none (po_some pe_int)) (by rfl)) (pe_callB (call_min2 rfl) (by exact rfl) T.zmin (by decide +kernel) (pa_cons (pv 2) (pa_cons pe_int pa_nil))) (pv 2)))))
 (pss_cons
 (ps_set (i := 5) sc__law_drawn.nd rfl (Or.inl rfl) (pe_lst (pa_cons (pe_lst (pa_cons pe_int pa_nil)) (pa_cons (pe_lst (pa_cons pe_int (pa_cons pe_int pa_nil))) (pa_cons (pe_lst (pa_cons pe_int (pa_cons pe_int (pa_cons pe_int pa_nil)))) (pa_cons (pe_lst (pa_cons pe_int (pa_cons pe_int (pa_cons pe_int (pa_cons pe_int pa_nil))))) (pa_cons (pe_lst (pa_cons pe_int (pa_cons pe_int pa_nil))) (pa_cons (pe_lst (pa_cons pe_int pa_nil)) (pa_cons (pe_lst (pa_cons pe_int (pa_cons pe_int (pa_cons pe_int (pa_cons pe_int pa_nil))))) pa_nil)))))))))
 (Evl.pss_cut
 (ps_if (pt_cmpR op_eq (pv 1) pe_str (nomark _)) (pss_one
 (ps_set (i := 5) sc__law_drawn.nd rfl (Or.inl rfl) (pe_lst (pa_cons (pe_lst (pa_cons pe_int pa_nil)) (pa_cons (pe_lst (pa_cons pe_int (pa_cons pe_int pa_nil))) (pa_cons (pe_lst (pa_cons pe_int (pa_cons pe_int (pa_cons pe_int pa_nil)))) (pa_cons (pe_lst (pa_cons pe_int (pa_cons pe_int (pa_cons pe_int pa_nil)))) (pa_cons (pe_lst (pa_cons pe_int (pa_cons pe_int pa_nil))) (pa_cons (pe_lst (pa_cons pe_int pa_nil)) (pa_cons (pe_lst (pa_cons pe_int (pa_cons pe_int (pa_cons pe_int pa_nil)))) pa_nil)))))))))) pss_nil)
 (pss_cons
 (ps_set (i := 6) sc__law_drawn.nd rfl (Or.inl rfl) (pe_bm PySem.F.plainAttrs_str PySem.F.slot_str_join PySem.F.type_str_join mt_join pe_str (pa_cons (pe_lc (own := [("_law_turn", 9)]) (g := gName 9) (tt := tYes) (by rfl) sc__law_drawn.nd (pi_list (pe_callH h_law_pick gd (hr.mono (by decide)) pass0 (pa_cons (pv 0) (pa_cons (pv 5) pa_nil)))) (blkOk_by (own := [("_law_turn", 9)]) (N := N__law_drawn) (sc := defScope s__law_drawn) (by decide +kernel)) (fun _ _ _ _ _ => pg_name (i := 9) sc__law_drawn.nd rfl (Or.inl rfl)) (fun _ _ _ _ _ => pts_nil) (fun _ _ _ _ _ => (pe_op op_add_str (pe_callH h_law_pick gd (hr.mono (by decide)) pass0 (pa_cons (pv 0) (pa_cons (pv 4) pa_nil))) (pe_callTy call_str_int (by exact rfl) T.zstr (by decide +kernel) (pa_cons (pv 9) pa_nil))))) pa_nil)))
 (pss_cons
 (ps_setLc (i := 7) (own := [("_law_name", 8)]) (g := gName 8) (tt := tYes) (by rfl) sc__law_drawn.nd rfl rfl (sw_true rfl rfl rfl (by decide +kernel)) (pi_list (pv 4)) (blkOk_by (own := [("_law_name", 8)]) (N := N__law_drawn) (sc := defScope s__law_drawn) (by decide +kernel)) (fun _ _ _ _ _ => pg_name (i := 8) sc__law_drawn.nd rfl (Or.inl rfl)) (fun _ _ _ _ _ => pts_nil) (fun _ _ _ _ _ => (pe_op op_add_str (pe_op op_add_str (pe_op op_add_str pe_str (pv 8)) pe_str) (pe_callH h_law_drawn_rule gd (hr.mono (by decide)) pass0 (pa_cons (pv 0) (pa_cons (pv 1) (pa_cons (pv 4) (pa_cons (pv 3) pa_nil))))))))
 (pss_one
 (ps_ret (pe_op op_cat (pe_lst (pa_cons (pe_op op_add_str pe_str (pv 1)) (pa_cons (pe_op op_add_str pe_str (pv 6)) pa_nil))) (pv 7))))))))))), ?_⟩
    try dsimp only [cxOf, Cx.nox]
    refine ⟨_, rfl, by show 2 ≤ sizeLine; decide, fun La n1 => ⟨p, La, _, rfl, (Got.new hd n1).die, .inl upd_same, Got.free_ne (Got.same hd) n1, by decide, by decide, fun v H1 mv g1 => ?_⟩⟩
    replace g1 := (Got.new hd n1).trans g1
    obtain ⟨t, rfl⟩ : ∃ t : Bool, v = .str (nm t) := by
      simp only [List.mem_cons, List.not_mem_nil, or_false] at mv
      rcases mv with rfl | rfl
      · exact ⟨false, rfl⟩
      · exact ⟨true, rfl⟩
    clear mv
    refine ⟨_, rfl, by show 5 ≤ sizeLine; decide, fun Lb n2 => ⟨p, Lb, _, rfl, (Got.new g1.die n2).die, .inl upd_same, Got.free_ne g1 n2, by decide, by decide, fun v H2 mv g2 => ?_⟩⟩
    replace g2 := g1.trans ((Got.new g1.die n2).trans g2)
    obtain ⟨mn, rfl, m1, m3⟩ : ∃ mn : Nat, v = .int (mn : Int) ∧ 1 ≤ mn ∧ mn ≤ 3 := by
      simp only [List.mem_cons, List.not_mem_nil, or_false] at mv
      rcases mv with rfl | rfl | rfl | rfl | rfl
      · exact ⟨1, rfl, by decide, by decide⟩
      · exact ⟨1, rfl, by decide, by decide⟩
      · exact ⟨2, rfl, by decide, by decide⟩
      · exact ⟨2, rfl, by decide, by decide⟩
      · exact ⟨3, rfl, by decide, by decide⟩
    clear mv
    refine ⟨by show 2 ≤ sizeLine; decide, fun T0 nT => ?_⟩
    have gT := g2.trans (Got.new (o := .tup [.str (nm t), .int (mn : Int)]) g2.die nT)
    have eT : upd H2 T0 (.tup [.str (nm t), .int (mn : Int)]) T0 = some (.tup [.str (nm t), .int (mn : Int)]) := upd_same
    refine ⟨T0, _, rfl, SqT.of eT, rfl, _, _, rfl, _, _, rfl, rfl, ?_⟩
    clear eT g2 n1 n2 nT
    generalize upd H2 T0 (.tup [.str (nm t), .int (mn : Int)]) = H3 at *
    refine ⟨_, rfl, _, rfl, t, rfl, fun TL H4 ⟨as, nss, L4, okN, n3, n7, okL⟩ => ?_⟩
    have las : as.length = nss.length := by
      have z := Paired.length L4.each
      rw [List.length_map] at z
      exact z
    have g4 := gT.over_same L4.keep
    refine ⟨p, TL, _, rfl, g4.die, .inl L4.here, (gT.die.ne L4.new).symm, by rw [List.length_map]; omega, by rw [List.length_map]; omega, fun v H5 mv g5 => ?_⟩
    obtain ⟨ta, ma, rfl⟩ := List.mem_map.mp mv
    obtain ⟨vs, mvs, na, _, hta⟩ := paired_mem L4.each ma
    obtain ⟨ns, mns, rfl⟩ := List.mem_map.mp mvs
    have okn := okN ns mns
    have nta : ta ≠ p := (gT.die.ne na).symm
    replace hta := g5.keep _ _ hta nta
    replace g5 := g4.trans g5
    clear mv ma mvs okN mns L4 okL las g4 n3 n7 na
    refine ⟨by show 3 ≤ sizeLine; decide, fun Lc nc => ?_⟩
    have hta6 := Same.new (o := .lst [.str "a", .str "b", .str "c"]) nc _ _ hta
    have hc : upd H5 Lc (.lst [.str "a", .str "b", .str "c"]) Lc = some _ := upd_same
    have g6 := g5.trans (Got.new (o := .lst [.str "a", .str "b", .str "c"]) g5.die nc)
    have ncp := Got.free_ne g5 nc
    clear nc hta
    generalize upd H5 Lc (.lst [.str "a", .str "b", .str "c"]) = H6 at *
    refine ⟨_, rfl, _, rfl, t, rfl, fun TM H7 ⟨as7, nss7, L7, okN7, n37, n77, okL7⟩ => ?_⟩
    have las7 : as7.length = nss7.length := by
      have z := Paired.length L7.each
      rw [List.length_map] at z
      exact z
    refine ⟨3, rfl, TM, _, rfl, SqL.of L7.here, fun S nS => ?_⟩
    rw [show cutV (as7.map V.ref) none (some 3) = (as7.take 3).map V.ref from (cutV_to (k := 3) (by rw [List.length_map]; omega)).trans (List.map_take ..).symm]
    have s8 := Same.new (o := .lst ((as7.take 3).map V.ref)) nS
    refine ⟨.list (ns.map .int), (nss7.take 3).map fun ns => .list (ns.map .int), .lst (SqL.of (s8 _ _ (L7.keep _ _ hta6))) ints_dp, .lst (SqL.of upd_same) (turns_dps s8 L7.each 3), okn.sh, okL7 3 (by decide), _, rfl, ?_⟩
    have g8 := g6.over_same (L7.keep.trans s8)
    have hta8 := s8 _ _ (L7.keep _ _ hta6)
    have hc8 := s8 _ _ (L7.keep _ _ hc)
    clear L7 okL7 las7 n37 n77 s8
    generalize upd H7 S (.lst ((as7.take 3).map V.ref)) = H8 at *
    refine if_min (mn := mn) m1 m3 rfl fun m m1' m3' => ?_
    refine ⟨_, rfl, Lc, _, rfl, SqL.of hc8, fun Ly nLy => ?_⟩
    rw [show cutV [V.str "a", V.str "b", V.str "c"] none (some (m : Int)) = ((["a", "b", "c"] : List Str).take m).map V.str from (cutV_to (k := m) (by show m ≤ 3; exact m3')).trans (List.map_take (f := V.str) (l := ["a", "b", "c"])).symm]
    generalize ely : (["a", "b", "c"] : List Str).take m = ly
    have oky : ∀ y ∈ ly, LetS y = true := fun y hy => by
      rw [← ely] at hy
      exact (show ∀ y ∈ (["a", "b", "c"] : List Str), LetS y = true by decide +kernel) y (List.mem_of_mem_take hy)
    have ndy : ly.Nodup := by rw [← ely]; exact List.Nodup.sublist (List.take_sublist ..) (by decide +kernel)
    have abcy : ∀ y ∈ ly, y ∈ abc := fun y hy => by
      rw [← ely] at hy
      exact List.mem_of_mem_take hy
    have lenY : ly.length = m := by rw [← ely, List.length_take]; show min m 3 = m; omega
    have nlp := Got.free_ne g8 nLy
    have g9 := g8.trans (Got.new (o := .lst (ly.map V.str)) g8.die nLy)
    have hta9 := Same.new (o := .lst (ly.map V.str)) nLy _ _ hta8
    have hly : upd H8 Ly (.lst (ly.map V.str)) Ly = some (.lst (ly.map V.str)) := upd_same
    clear hta8 hc8 g8 hc hta6 g6 ely nLy
    generalize upd H8 Ly (.lst (ly.map V.str)) = H9 at *
    refine ⟨by show 1 ≤ sizeLine; decide, fun t0 h0 => ⟨by show 2 ≤ sizeLine; decide, fun t1 h1 => ⟨by show 3 ≤ sizeLine; decide, fun t2 h2 => ⟨by show 4 ≤ sizeLine; decide, fun t3 h3 => ⟨by show 2 ≤ sizeLine; decide, fun t4 h4 => ⟨by show 1 ≤ sizeLine; decide, fun t5 h5 => ⟨by show 4 ≤ sizeLine; decide, fun t6 h6 => ⟨by show 7 ≤ sizeLine; decide, fun X nX => ?_⟩⟩⟩⟩⟩⟩⟩⟩
    have ax := ax_of (t := t) (nss := [[0], [0, 1], [0, 0, 1], [0, 1, 2, 3], [0, 2], [3], [0, 3, 2, 1]]) (Got.same g9.die) ((((((((LLs.nil.push h0).push h1).push h2).push h3).push h4).push h5).push h6).done nX) rfl (by cases t <;> decide)
    refine ⟨fun σ' H' => ∃ X', σ' = [some (.ref p), some (.str (nm t)), some (.int (mn : Int)), some (.ref ta), some (.ref Ly), some (.ref X'), none, none, none, none] ∧ AxI t p H9 X' H', ?_, ?_⟩
    · refine ⟨_, rfl, rfl, _, rfl, ?_⟩
      rw [nm_tr]
      cases t with
      | false => exact iteF ⟨X, rfl, ax⟩
      | true =>
      refine iteT ?_
      refine ax_go ax fun H10 ax10 => ?_
      obtain ⟨_, ga, _⟩ := ax10
      clear ax nX h6 h5 h4 h3 h2 h1 h0
      refine ⟨by show 1 ≤ sizeLine; decide, fun t0 h0 => ⟨by show 2 ≤ sizeLine; decide, fun t1 h1 => ⟨by show 3 ≤ sizeLine; decide, fun t2 h2 => ⟨by show 3 ≤ sizeLine; decide, fun t3 h3 => ⟨by show 2 ≤ sizeLine; decide, fun t4 h4 => ⟨by show 1 ≤ sizeLine; decide, fun t5 h5 => ⟨by show 3 ≤ sizeLine; decide, fun t6 h6 => ⟨by show 7 ≤ sizeLine; decide, fun X nX => ?_⟩⟩⟩⟩⟩⟩⟩⟩
      exact ⟨X, rfl, ax_of (nss := [[0], [0, 1], [0, 0, 2], [0, 2, 4], [0, 3], [5], [0, 4, 2]]) ga ((((((((LLs.nil.push h0).push h1).push h2).push h3).push h4).push h5).push h6).done nX) rfl (by decide)⟩
    · rintro _ H10 ⟨X', rfl, nX', ga, as, hX, l7, each⟩
      refine ⟨rfl, _, rfl, _, rfl, p, X', as.map V.ref, rfl, ga.die, .inl hX, nX', by rw [List.length_map]; omega, by rw [List.length_map]; omega, fun v H11 mv g11 => ?_⟩
      obtain ⟨aa, ma, rfl⟩ := List.mem_map.mp mv
      obtain ⟨naa, ns', haa, a1, a4, ok'⟩ := each aa ma
      replace haa := g11.keep _ _ haa naa
      replace g11 := ga.trans g11
      have hly11 := g11.keep _ _ hly nlp
      have hta11 := g11.keep _ _ hta9 nta
      clear mv ma each hX ga l7 nX'
      refine ⟨aa, rfl, ⟨_, SqL.of haa⟩, fun DL nDL => loop_list (a := aa) (xs := ns'.map V.int) (fun i H' => WordsI p DL t ly ns' H11 i H') ⟨[], rfl, fun _ h => by (cases h), fun _ h => by (cases h), rfl, upd_same, Got.new g11.die nDL, Got.free_ne g11 nDL⟩ (fun i H' _ h => let ⟨_, _, _, _, _, _, g, _⟩ := h; SqL.of (g.keep _ _ haa naa)) ?_ ?_⟩
      · rintro i z H' hz ⟨r, lr, okr, mr, er, eD, g, nD⟩
        obtain ⟨n, hn, rfl⟩ := int_at hz
        obtain ⟨n0, n6'⟩ := ok' n (List.mem_of_getElem? hn)
        have n6 : n < 6 := Int.lt_of_lt_of_le n6' num_six
        refine ⟨rfl, ?_⟩
        simp only [tYes, if_true]
        refine ⟨_, rfl, _, rfl, p, Ly, ly.map V.str, rfl, g.die, .inl (g.keep _ _ hly11 nlp), nlp, by rw [List.length_map]; omega, by rw [List.length_map]; omega, fun v' H4 mv g4 => ?_⟩
        obtain ⟨y, my, rfl⟩ := List.mem_map.mp mv
        have l1 := oky y my
        have z1' := Nat.le_of_eq (show y.length = 1 from by
          have z := l1
          unfold LetS at z
          rw [Bool.and_eq_true, decide_eq_true_eq] at z
          exact z.1)
        have l2 := dec_len9 n n0 (by omega)
        refine ⟨_, rfl, n, rfl, Nat.lt_trans (PySem.Flt.log2_lt_of (k := 4) (by decide) (by omega)) (by decide), _, _, rfl, rfl, by rw [l2, sizeLine_eq]; omega, _, g4.keep _ _ eD nD, ?_, ?_⟩
        · rw [List.length_map, List.length_map, lr, sizeLine_eq]
          have := (List.getElem?_eq_some_iff.mp hn).1
          omega
        · refine ⟨r ++ [(y, n)], by rw [List.length_append, lr]; rfl, fun it hi => ?_, fun it hi => ?_, ?_, ?_, (g.trans g4).over g11.die nDL _, nD⟩
          · rcases List.mem_append.mp hi with h | h
            · exact okr it h
            · rw [List.mem_singleton.mp h]
              exact ⟨l1, n0, n6'⟩
          · rcases List.mem_append.mp hi with h | h
            · exact mr it h
            · rw [List.mem_singleton.mp h]
              exact my
          · rw [List.map_append, er, List.take_add_one, hn]
            rfl
          · rw [upd_same, List.map_append, List.map_append]
            rfl
      rintro H12 ⟨r, lr, okr, mr, _, eD, g12, nD⟩
      rw [List.length_map] at lr
      have okT : ∀ it ∈ r, ItemOk true it := fun it h => itemOk_true (okr it h)
      have rg : RowG r := ⟨⟨by omega, okT⟩, by omega⟩
      refine ⟨_, _, _, rfl, rfl, .inl (SqL.of eD), words_sum okT (by omega), ?_⟩
      rw [show Txt.join " " (r.map itemT) = rowT r from rfl]
      have hly12 := g12.keep _ _ hly11 nlp
      have hta12 := g12.keep _ _ hta11 nta
      replace g12 := g9.trans (g11.trans g12)
      clear g9 g11 eD nD hly11 hta11 hly hta9 haa naa ok'
      refine ⟨_, rfl, Ly, rfl, ⟨_, SqL.of hly12⟩, fun D2 nD2 => loop_list (a := Ly) (xs := ly.map V.str) (fun i H' => ∃ rr : Rls, rr.map (·.1) = ly.take i ∧ (∀ yr ∈ rr, RowG yr.2 ∧ RowOk t yr.2 ∧ (∀ it ∈ yr.2, it.1 ∈ ly) ∧ sumOf t yr.2 = sumT t ns) ∧ H' D2 = some (.lst ((rr.map fun yr => Str.ofString "rule " ++ yr.1 ++ Str.ofString " " ++ rowT yr.2).map V.str)) ∧ Got p H12 H') ⟨[], rfl, fun _ h => by (cases h), upd_same, Got.new g12.die nD2⟩ (fun i H' _ h => let ⟨_, _, _, _, g⟩ := h; SqL.of (g.keep _ _ hly12 nlp)) ?_ ?_⟩
      · rintro i z H' hz ⟨rr, lrr, okrr, eD, g⟩
        obtain ⟨y, hy, rfl⟩ := str_at' hz
        refine ⟨rfl, ?_⟩
        simp only [tYes, if_true]
        have mem := List.mem_of_getElem? hy
        have l1 := oky y mem
        have z1 : y.length = 1 := by
          have z := l1
          unfold LetS at z
          rw [Bool.and_eq_true, decide_eq_true_eq] at z
          exact z.1
        have k3 : (Str.ofString "rule ").length = 5 := by decide +kernel
        have k4 : (Str.ofString " ").length = 1 := by decide +kernel
        refine ⟨_, rfl, _, _, rfl, rfl, by rw [k3, z1]; decide, _, _, rfl, rfl, by rw [strLen_append, k3, z1, k4]; decide, ?_⟩
        refine ⟨_, rfl, _, rfl, _, rfl, _, rfl, p, t, Ly, ta, ly, ns, rfl, g.die, g.keep _ _ hly12 nlp, nlp, oky, by omega, by omega, g.keep _ _ hta12 nta, nta, okn, fun r' H4 rg' ro' mr' sr' g4 => ?_⟩
        have sh := rowT_most rg'.s.all rg'.s.most
        refine ⟨_, _, rfl, rfl, by rw [strLen_append, strLen_append, k3, z1, k4, sizeLine_eq]; omega, _, g4.keep _ _ eD (Got.free_ne g12 nD2), ?_, rr ++ [(y, r')], ?_, ?_, ?_, (g.trans g4).over g12.die nD2 _⟩
        · rw [List.length_map, List.length_map, ← List.length_map (f := fun yr : Str × RowT => yr.1), lrr, List.length_take, sizeLine_eq]
          omega
        · rw [List.map_append, lrr, List.take_add_one, hy]
          rfl
        · intro yr hyr
          rcases List.mem_append.mp hyr with h | h
          · exact okrr yr h
          · rw [List.mem_singleton.mp h]
            exact ⟨rg', ro', mr', sr'⟩
        · rw [upd_same, List.map_append, List.map_append]
          rfl
      · rintro H13 ⟨rr, lrr, okrr, eD, g13⟩
        rw [List.length_map, List.take_length] at lrr
        have lr2 : rr.length = m := by rw [← List.length_map (f := fun yr : Str × RowT => yr.1), lrr, lenY]
        have lg : (nm t).length ≤ 8 := by cases t <;> decide +kernel
        have la := rowT_most rg.s.all rg.s.most
        have k1 : (Str.ofString "grid ").length = 5 := by decide +kernel
        have k2 : (Str.ofString "axiom ").length = 6 := by decide +kernel
        refine ⟨_, rfl, _, _, rfl, rfl, by rw [k1, sizeLine_eq]; omega, _, rfl, _, _, rfl, rfl, by rw [k2, sizeLine_eq]; omega, by show 2 ≤ sizeLine; decide, fun L0 n0 => ⟨_, rfl, L0, D2, _, _, rfl, rfl, upd_same, Same.new n0 _ _ eD, by rw [List.length_map, List.length_map, lr2, sizeLine_eq]; show 2 + _ ≤ _; omega, fun R nR => ?_⟩⟩
        have g14 := g13.trans (Got.new (o := .lst [V.str (Str.ofString "grid " ++ nm t), V.str (Str.ofString "axiom " ++ rowT r)]) g13.die n0)
        have my : ∀ yr ∈ rr, yr.1 ∈ ly := fun yr h => by rw [← lrr]; exact List.mem_map_of_mem h
        have inn : ∀ it : Str × Int, it.1 ∈ ly → inB rr it = true := fun it h => decide_eq_true (by rw [lrr]; exact h)
        have sok : SchOk t r rr := ⟨⟨by omega, okr⟩, by omega, by omega, by omega, by rw [lrr]; exact ndy, fun yr h => oky _ (my yr h), fun yr h => (okrr yr h).2.1, ?_, fun yr h zr h' => by rw [(okrr yr h).2.2.2, (okrr zr h').2.2.2], fun yr h => by rw [(okrr yr h).2.2.2]; exact okn.wide⟩
        · exact k R t r rr _ (Got.free_ne g14 nR) upd_same ⟨rg, fun yr h => ⟨(okrr yr h).1, oky yr.1 (my yr h)⟩, by rw [lrr]; exact ndy, by omega, by omega⟩ sok (fun yr h => abcy _ (my yr h)) (g12.trans (g14.trans (Got.new g14.die nR)))
        · refine List.all_eq_true.mpr fun row h => List.all_eq_true.mpr fun it hi => ?_
          rcases List.mem_cons.mp h with h | h
          · rw [h] at hi
            exact inn it (mr it hi)
          · obtain ⟨yr, hy, rfl⟩ := List.mem_map.mp h
            exact inn it ((okrr yr hy).2.2.1 it hi)
end
end K13
namespace K13
open PySem PySem.Spec PyProof.Rows L2 GL SkE
noncomputable abbrev s__law_any : Stmt := topS 69
noncomputable abbrev N__law_any : List Str := ["_law_dice_here"]
theorem sc__law_any : FnScope N__law_any ["_law_dice_here"] (defScope s__law_any) := ⟨rfl, rfl, rfl, by decide +kernel, rfl, by decide +kernel, by decide +kernel⟩
noncomputable abbrev s__law_wild_lines : Stmt := topS 74
noncomputable abbrev N__law_wild_lines : List Str := ["_law_dice_here", "_law_lines_here", "_law_own", "_law_name", "_law_row_here", "_law_extra", "_law_letter", "_law_turn"]
theorem sc__law_wild_lines : FnScope N__law_wild_lines ["_law_dice_here"] (defScope s__law_wild_lines) := ⟨rfl, rfl, rfl, by decide +kernel, rfl, by decide +kernel, by decide +kernel⟩
noncomputable def spLRowTextL (K : PySem.W.Frag) : Sp := fun vs H Q _ => ∃ a zs r, vs = [.ref a] ∧ H a = some (.lst zs) ∧ DpAll K H zs (r.map itemD) ∧ RowW r ∧ ∀ H', Same H H' → Q (.str (rowT r)) H'
theorem lines_snoc {t : Bool} {r : RowT} {rs : Rls} {yr : Str × RowT} : linesP t r (rs ++ [yr]) = linesP t r rs ++ [Str.ofString "rule " ++ yr.1 ++ Str.ofString " " ++ rowT yr.2] := by
  unfold linesP
  rw [List.map_append]
  rfl
noncomputable def abcz : List Str := ["a", "b", "c", "z"]
theorem abc_abcz : ∀ y ∈ abc, y ∈ abcz := by decide +kernel
theorem dps_perm {K : PySem.W.Frag} {H : Hp} {ms zs : List V} (h : ms.Perm zs) : ∀ {r : RowT}, DpAll K H zs (r.map itemD) → ∃ r' : RowT, r'.Perm r ∧ DpAll K H ms (r'.map itemD) := by
  induction h with
  | nil =>
    intro r d
    cases r with
    | nil => exact ⟨[], .refl _, .nil⟩
    | cons x r => cases d
  | cons v _ ih =>
    intro r d
    cases r with
    | nil => cases d
    | cons x r =>
      cases d with
      | cons a b =>
        obtain ⟨r', p, d'⟩ := ih b
        exact ⟨x :: r', p.cons x, .cons a d'⟩
  | swap v w l =>
    intro r d
    cases r with
    | nil => cases d
    | cons x r =>
      cases d with
      | cons a b =>
        cases r with
        | nil => cases b
        | cons y r =>
          cases b with
          | cons b c => exact ⟨y :: x :: r, .swap .., .cons b (.cons a c)⟩
  | trans _ _ i1 i2 =>
    intro r d
    obtain ⟨r1, p1, d1⟩ := i2 d
    obtain ⟨r2, p2, d2⟩ := i1 d1
    exact ⟨r2, p2.trans p1, d2⟩
/-- a rule more, made of the items of a rule -/
theorem sch_more {t : Bool} {r : RowT} {rs : Rls} {y : Str} {row r' its : RowT} (ok : SchOk t r rs) (few : rs.length ≤ 5) (nz : ("z" : Str) ∉ rs.map (·.1)) (mem : (y, row) ∈ rs) (pm : its.Perm row) (e : r'.map (·.2) = its.map (·.2)) (ls : ∀ it ∈ r', it.1 ∈ rs.map (·.1) ++ [("z" : Str)]) (lt : ∀ it ∈ r', LetS it.1 = true) : SchOk t r (rs ++ [(("z" : Str), r')]) := by
  have rok := ok.rows _ mem
  have len : r'.length = row.length := by
    have z := congrArg List.length e
    rw [List.length_map, List.length_map, pm.length_eq] at z
    exact z
  have sum : sumOf t r' = sumOf t row := by
    rw [sumOf_T, sumOf_T, e]
    exact sumT_perm (pm.map _)
  have r'ok : RowOk t r' := ⟨by rw [len]; exact rok.two, by rw [len]; exact rok.most, fun it hi => by
    obtain ⟨i2, h2, e2⟩ := List.mem_map.mp (show it.2 ∈ its.map (·.2) by rw [← e]; exact List.mem_map_of_mem hi)
    have o := rok.all _ (pm.mem_iff.mp h2)
    exact ⟨lt it hi, by rw [← e2]; exact o.a, by rw [← e2]; exact o.b⟩⟩
  have cases2 : ∀ {yr}, yr ∈ rs ++ [(("z" : Str), r')] → yr ∈ rs ∨ yr = (("z" : Str), r') := fun h => (List.mem_append.mp h).imp id List.mem_singleton.mp
  have inn : ∀ {it : Str × Int}, it.1 ∈ rs.map (·.1) ++ [("z" : Str)] → inB (rs ++ [(("z" : Str), r')]) it = true := fun h => decide_eq_true (by rw [List.map_append]; exact h)
  refine ⟨ok.ax, ok.one, by rw [List.length_append]; have := ok.lo; omega, by rw [List.length_append]; show _ + 1 ≤ 6; omega, ?_, fun yr h => ?_, fun yr h => ?_, ?_, fun yr h zr h2 => ?_, fun yr h => ?_⟩
  · rw [List.map_append]
    exact List.nodup_append.mpr ⟨ok.nd, by simp, fun a ha b hb e => by
      have e2 : b = ("z" : Str) := List.mem_singleton.mp hb
      rw [e, e2] at ha
      exact nz ha⟩
  · rcases cases2 h with h | h
    · exact ok.lets yr h
    · rw [h]; exact show LetS ("z" : Str) = true by decide +kernel
  · rcases cases2 h with h | h
    · exact ok.rows yr h
    · rw [h]; exact r'ok
  · refine List.all_eq_true.mpr fun rw_ h => List.all_eq_true.mpr fun it hi => ?_
    have old : ∀ row2 ∈ r :: rs.map (·.2), ∀ it ∈ row2, it.1 ∈ rs.map (·.1) := fun row2 h2 it h3 => of_decide_eq_true (List.all_eq_true.mp (List.all_eq_true.mp ok.compl row2 h2) it h3)
    rcases List.mem_cons.mp h with h | h
    · rw [h] at hi
      exact inn (List.mem_append_left _ (old r (List.mem_cons_self ..) it hi))
    · obtain ⟨yr, hy, e3⟩ := List.mem_map.mp h
      rcases cases2 hy with hy | hy
      · exact inn (List.mem_append_left _ (old rw_ (List.mem_cons_of_mem _ (List.mem_map.mpr ⟨yr, hy, e3⟩)) it hi))
      · rw [hy] at e3
        rw [← e3] at hi
        exact inn (ls it hi)
  · have s1 : ∀ {yr}, yr ∈ rs ++ [(("z" : Str), r')] → sumOf t yr.2 = sumOf t row := fun h => by
      rcases cases2 h with h | h
      · exact ok.same _ h _ mem
      · rw [h]; exact sum
    rw [s1 h, s1 h2]
  · rcases cases2 h with h | h
    · exact ok.wide yr h
    · rw [h, sum]; exact ok.wide _ mem
noncomputable def spWild : Sp := fun vs H Q _ => ∃ (p : Addr), vs = [.ref p] ∧ Die H p ∧ ∀ L t r rs H', L ≠ p → H' L = some (.lst ((linesP t r rs).map V.str)) → GoodL 4 r rs → SchOk t r rs → (∀ yr ∈ rs, yr.1 ∈ abcz) → Got p H H' → Q (.ref L) H'
theorem itemT_small {r : RowT} (ok : RowW r) : ((r.map itemT).map (fun x => x.length)).sum ≤ 3 * r.length := by
  have each : ∀ it ∈ r, (itemT it).length ≤ 3 := fun it h => by
    unfold itemT
    rw [Str.length_append]
    have l1 := ok.let_ it h
    have l2 := dec_len9 it.2 (ok.lo it h) (by have := ok.hi it h; omega)
    show _ + (Str.ofString (toString it.2)).length ≤ 3
    omega
  clear ok
  induction r with
  | nil => simp
  | cons x r ih =>
    have a1 := each x (List.mem_cons_self ..)
    have a2 := ih (fun it h => each it (List.mem_cons_of_mem _ h))
    simp only [List.map_cons, List.sum_cons, List.length_cons] at a2 ⊢
    omega
section
variable {P : Program} {w : World} {K : PySem.W.Frag} {mg : Str → Option Value} {base : Heap}
variable {aG dU C CR CS eG eS : Addr} {U : Bool → Addr} {us : Bool → List Addr}
theorem h_law_row_textL (T : TxS K mg aG dU C CR) (D : Df K mg "_law_row_text" s__law_row_text) : Has P w K mg base CX0 "_law_row_text" 1 ["_law_row_here"] (spLRowTextL K) := by
  refine D.has sc__law_row_text (fun vs H Q E h => ?_) (fun kV doc pm an cdv ct us hl => match us, hl with | [_], _ => rfl) (fun f cdv A outer s H vs Q E gd hr h => ?_)
  · obtain ⟨x, zs, r, rfl, _⟩ := h
    rfl
  · obtain ⟨a, zs, r, rfl, ha, dp, ok, k⟩ := h
    have hu := hr.units
    refine ⟨_, (pss_one
 (ps_ret (pe_bm PySem.F.plainAttrs_str PySem.F.slot_str_join PySem.F.type_str_join mt_join pe_str (pa_cons (pe_lc (own := [("_law_letter", 1), ("_law_turn", 2)]) (g := (gTup K 2 (gCons (gName 1) (gCons (gName 2) gNil)))) (tt := tYes) (by rfl) sc__law_row_text.nd (pi_list (pv 0)) (blkOk_by (own := [("_law_letter", 1), ("_law_turn", 2)]) (N := N__law_row_text) (sc := defScope s__law_row_text) (by decide +kernel)) (fun _ _ _ _ _ => (pg_tupK (K0 := K) (n := 2) (by exact rfl) (by rfl) (pgs_cons (pg_name (i := 1) sc__law_row_text.nd rfl (Or.inl rfl)) (pgs_cons (pg_name (i := 2) sc__law_row_text.nd rfl (Or.inl rfl)) pgs_nil)))) (fun _ _ _ _ _ => pts_nil) (fun _ _ _ _ _ => (pe_op op_add_str (pv 1) (pe_callTy call_str_int (by exact rfl) T.zstr (by decide +kernel) (pa_cons (pv 2) pa_nil))))) pa_nil)))), ?_⟩
    dsimp only [cxOf, Cx.nox]
    have m := ok.most
    refine ⟨rfl, _, rfl, a, rfl, ⟨_, SqL.of ha⟩, fun D nD => loop_list (a := a) (xs := zs) (fun i H' => Same H H' ∧ H' D = some (.lst (((r.take i).map itemT).map V.str))) ⟨Same.new nD, upd_same⟩ (fun i H' _ h => SqL.of (h.1 _ _ ha)) ?_ ?_⟩
    · rintro i z H' hz ⟨s', eD⟩
      obtain ⟨d, hd, dz⟩ := dAt dp hz
      rw [List.getElem?_map] at hd
      cases c : r[i]? with
      | none => rw [c] at hd; cases hd
      | some it =>
      rw [c] at hd
      cases hd
      have mem := List.mem_of_getElem? c
      obtain ⟨q, rfl, hq⟩ := dItem dz
      have lo := ok.lo it mem
      have hi := ok.hi it mem
      have l1 := ok.let_ it mem
      have l2 := dec_len9 it.2 lo (by omega)
      have li := (List.getElem?_eq_some_iff.mp c).1
      refine ⟨q, _, rfl, sqT_same hq s', rfl, _, _, rfl, _, _, rfl, rfl, rfl, ?_⟩
      simp only [tYes, if_true]
      refine ⟨_, rfl, _, rfl, _, rfl, Nat.lt_trans (PySem.Flt.log2_lt_of (k := 4) (by decide) (by omega)) (by decide), _, _, rfl, rfl, by rw [l2, sizeLine_eq]; omega, _, eD, ?_, Same.over s' nD _, ?_⟩
      · rw [List.length_map, List.length_map, List.length_take, sizeLine_eq]
        omega
      · rw [upd_same, List.take_add_one, c, List.map_append, List.map_append]
        rfl
    · rintro H' ⟨s', eD⟩
      rw [show zs.length = r.length from (dLen dp).trans (List.length_map ..), List.take_length] at eD
      refine ⟨_, _, _, rfl, rfl, .inl (SqL.of eD), ?_, k _ s'⟩
      have := itemT_small ok
      rw [List.length_map]
      show _ + r.length * 1 ≤ 16777216
      omega
theorem h_law_any (T : TxS K mg aG dU C CR) (D : Df K mg "_law_any" s__law_any) (h_law_roll : Has P w K mg base CX0 "_law_roll" 1 ["_law_dice_here", "_law_total"] spRoll) (h_law_written : Has P w K mg base CX0 "_law_written" 1 ["_law_way"] spWritten) (h_law_drawn : Has P w K mg base CX0 "_law_drawn" 4 ["_law_dice_here"] spDrawn) : Has P w K mg base CX0 "_law_any" 5 ["_law_dice_here"] spDrawn := by
  refine D.has sc__law_any (fun vs H Q E h => ?_) (fun kV doc pm an cdv ct us hl => match us, hl with | [_], _ => rfl) (fun f cdv A outer s H vs Q E gd hr h => ?_)
  · obtain ⟨p, rfl, _⟩ := h
    rfl
  · obtain ⟨p, rfl, hd, k⟩ := h
    have hu := hr.units
    refine ⟨_, (pss_one
 (ps_ret (pe_ifExp (pt_cmpR op_eq (pe_callH h_law_roll gd (hr.mono (by decide)) pass0 (pa_cons (pv 0) (pa_cons pe_int pa_nil))) pe_int (nomark _)) (pe_callH h_law_written gd (hr.mono (by decide)) pass0 (pa_cons (pe_callH h_law_roll gd (hr.mono (by decide)) pass0 (pa_cons (pv 0) (pa_cons pe_int pa_nil))) pa_nil)) (pe_callH h_law_drawn gd (hr.mono (by decide)) pass0 (pa_cons (pv 0) pa_nil))))), ?_⟩
    try dsimp only [cxOf, Cx.nox]
    refine ⟨_, rfl, p, 3, rfl, hd, by decide, by decide, fun r1 H1 r0 r3 g1 => ⟨rfl, _, rfl, ?_⟩⟩
    refine ite2 (fun c => ?_) (fun c => ?_)
    · refine ⟨_, rfl, p, 10, rfl, g1.die, by decide, by decide, fun r2 H2 r20 r21 g2 => ⟨r2, rfl, r20, r21, fun L t r rs H3 nL s3 hL good sok nz => ?_⟩⟩
      exact k L t r rs H3 (g2.die.ne nL).symm hL good sok nz ((g1.trans g2).over_same s3)
    · exact ⟨_, rfl, p, rfl, g1.die, fun L t r rs H3 nL hL good sok nz g3 => k L t r rs H3 nL hL good sok nz (g1.trans g3)⟩
theorem h_law_wild_lines (T : TxS K mg aG dU C CR) (D : Df K mg "_law_wild_lines" s__law_wild_lines) (h_law_roll : Has P w K mg base CX0 "_law_roll" 1 ["_law_dice_here", "_law_total"] spRoll) (h_law_pick : Has P w K mg base CX0 "_law_pick" 2 ["_law_dice_here", "_law_items"] spPick) (h_law_mixed : Has P w K mg base CX0 "_law_mixed" 2 ["_law_dice_here", "_law_items"] (spMixedB K)) (h_law_any : Has P w K mg base CX0 "_law_any" 5 ["_law_dice_here"] spDrawn) (h_law_plain : Has P w K mg base CX0 "_law_plain" 2 ["_law_lines_here"] (spLPlain K)) (h_law_row_text : Has P w K mg base CX0 "_law_row_text" 1 ["_law_row_here"] (spLRowTextL K)) : Has P w K mg base CX0 "_law_wild_lines" 6 ["_law_dice_here"] spWild := by
  refine D.has sc__law_wild_lines (fun vs H Q E h => ?_) (fun kV doc pm an cdv ct us hl => match us, hl with | [_], _ => rfl) (fun f cdv A outer s H vs Q E gd hr h => ?_)
  · obtain ⟨p, rfl, _⟩ := h
    rfl
  · obtain ⟨p, rfl, hd, k⟩ := h
    have hu := hr.units
    refine ⟨_, (pss_cons
 (ps_set (i := 1) sc__law_wild_lines.nd rfl (Or.inl rfl) (pe_callH h_law_any gd (hr.mono (by decide)) pass0 (pa_cons (pv 0) pa_nil)))
 (pss_cons
 (ps_set (i := 2) sc__law_wild_lines.nd rfl (Or.inr rfl) (pe_callH h_law_plain gd (hr.mono (by decide)) pass0 (pa_cons (pv 1) pa_nil)))
 (Evl.pss_cut
 (ps_if (pt_cmpR op_eq (pe_callH h_law_roll gd (hr.mono (by decide)) pass0 (pa_cons (pv 0) (pa_cons pe_int pa_nil))) pe_int (nomark _)) (pss_cons
 (ps_set (i := 3) sc__law_wild_lines.nd rfl (Or.inl rfl) (pe_callH h_law_pick gd (hr.mono (by decide)) pass0 (pa_cons (pv 0) (pa_cons (pe_callB (call_sortedD (by rfl)) (by exact rfl) T.zsorted (by decide +kernel) (pa_cons (pe_dget (Nat.lt_of_le_of_lt (Nat.add_le_add_left (by decide) _) hu) (pv 2) pe_str (fun _ _ => rfl)) pa_nil)) pa_nil))))
 (pss_cons
 (ps_set (i := 4) sc__law_wild_lines.nd rfl (Or.inl rfl) (pe_callH h_law_mixed gd (hr.mono (by decide)) pass0 (pa_cons (pv 0) (pa_cons (pe_dget (Nat.lt_of_le_of_lt (Nat.add_le_add_left (by decide) _) hu) (pe_dget (Nat.lt_of_le_of_lt (Nat.add_le_add_left (by decide) _) hu) (pv 2) pe_str (fun _ _ => rfl)) (pv 3) (fun _ _ => rfl)) pa_nil))))
 (pss_cons
 (ps_setLc (i := 5) (own := [("_law_letter", 6), ("_law_turn", 7)]) (g := (gTup K 2 (gCons (gName 6) (gCons (gName 7) gNil)))) (tt := tYes) (by rfl) sc__law_wild_lines.nd rfl rfl (sw_true rfl rfl rfl (by decide +kernel)) (pi_list (pv 4)) (blkOk_by (own := [("_law_letter", 6), ("_law_turn", 7)]) (N := N__law_wild_lines) (sc := defScope s__law_wild_lines) (by decide +kernel)) (fun _ _ _ _ _ => (pg_tupK (K0 := K) (n := 2) (by exact rfl) (by rfl) (pgs_cons (pg_name (i := 6) sc__law_wild_lines.nd rfl (Or.inl rfl)) (pgs_cons (pg_name (i := 7) sc__law_wild_lines.nd rfl (Or.inl rfl)) pgs_nil)))) (fun _ _ _ _ _ => pts_nil) (fun _ _ _ _ _ => (pe_tup (pa_cons (pe_callH h_law_pick gd (hr.mono (by decide)) pass0 (pa_cons (pv 0) (pa_cons (pe_op op_cat (pe_callB (call_sortedD (by rfl)) (by exact rfl) T.zsorted (by decide +kernel) (pa_cons (pe_dget (Nat.lt_of_le_of_lt (Nat.add_le_add_left (by decide) _) hu) (pv 2) pe_str (fun _ _ => rfl)) pa_nil)) (pe_lst (pa_cons pe_str pa_nil))) pa_nil))) (pa_cons (pv 7) pa_nil)))))
 (pss_one
 (ps_set (i := 1) sc__law_wild_lines.nd rfl (Or.inl rfl) (pe_op op_cat (pv 1) (pe_lst (pa_cons (pe_op op_add_str pe_str (pe_callH h_law_row_text gd (hr.mono (by decide)) pass0 (pa_cons (pv 5) pa_nil))) pa_nil)))))))) pss_nil)
 (pss_one
 (ps_ret (pv 1)))))), ?_⟩
    try dsimp only [cxOf, Cx.nox]
    refine ⟨_, rfl, p, rfl, hd, fun L t r rs H1 nL hL good sok abcs g1 => ?_⟩
    have nz := abc_z abcs
    refine ⟨_, rfl, L, t, r, rs, rfl, SqL.of hL, good.g, good.gs, good.nd, by have := good.few; omega, fun q H2 s2 pl => ?_⟩
    have nqp : q ≠ p := by
      intro e
      obtain ⟨ax, x, kvs, hq, _⟩ := pl
      obtain ⟨l, b, c, _, hp⟩ := g1.die
      rw [e, s2 _ _ hp] at hq
      cases hq
    have g2 := g1.over_same s2
    replace hL := s2 _ _ hL
    refine ⟨fun σ' H' => ∃ L' rs', σ'[1]? = some (some (.ref L')) ∧ L' ≠ p ∧ H' L' = some (.lst ((linesP t r rs').map V.str)) ∧ GoodL 4 r rs' ∧ SchOk t r rs' ∧ (∀ yr ∈ rs', yr.1 ∈ abcz) ∧ Got p H H', ?_, ?_⟩
    · refine ⟨_, rfl, p, 3, rfl, g2.die, by decide, by decide, fun r1 H3 r10 r11 g3 => ⟨rfl, _, rfl, ?_⟩⟩
      have good4 : GoodL 4 r rs := ⟨good.g, good.gs, good.nd, good.one, by have := good.few; omega⟩
      replace pl := pl.lk (LK.got g3 g2.die)
      replace hL := g3.keep _ _ hL nL
      replace g3 := g2.trans g3
      refine ite2 (fun c => ?_) (fun c => ⟨L, rs, rfl, nL, hL, good4, sok, fun yr h => abc_abcz _ (abcs yr h), g3⟩)
      clear g2 g1 s2
      obtain ⟨ax, x, kvs, hq, hax, hx, rsa⟩ := pl
      have few := good.few
      refine ⟨_, rfl, _, rfl, q, _, rfl, DGet.k (k := .inr "rules") hq, x, kvs, rs.map (·.1), rfl, .inl hx, by rw [rs_keys rsa, List.map_map]; rfl, by rw [List.length_map]; omega, fun ys Ly perm srt nLy => ?_⟩
      have lys : ys.length = rs.length := by rw [perm.length_eq, List.length_map]
      have one := good.one
      refine ⟨p, Ly, _, rfl, (Got.new g3.die nLy).die, .inl upd_same, Got.free_ne g3 nLy, by rw [List.length_map]; omega, by rw [List.length_map]; omega, fun v H4 mv g4 => ?_⟩
      obtain ⟨y, my, rfl⟩ := List.mem_map.mp mv
      have lk4 : LK H3 H4 := (LK.of (Same.new nLy)).trans (LK.got g4 (Got.new g3.die nLy).die)
      replace hL := g4.keep _ _ (Same.new nLy _ _ hL) nL
      have hq4 := lk4 _ _ hq rfl
      have hx4 := lk4 _ _ hx rfl
      replace rsa := rsa.tk (.lk lk4)
      replace g4 := g3.trans ((Got.new g3.die nLy).trans g4)
      obtain ⟨v, ev, dv, mem⟩ := rs_get rsa good.nd (perm.mem_iff.mp my)
      obtain ⟨rg2, l2⟩ := good.gs _ mem
      obtain ⟨b, zs, rfl, hb, dz⟩ := dTup dv
      have lz : zs.length ≤ 12 := by
        rw [dLen dz, List.length_map]
        exact rg2.s.most
      refine ⟨_, rfl, _, rfl, q, _, rfl, DGet.k (k := .inr "rules") hq4, _, rfl, x, .ref b, rfl, by rw [← ev]; exact DGet.k (k := .inr y) hx4, ?_⟩
      refine ⟨p, b, zs, rfl, g4.die, .inr hb, by omega, fun M ms H5 nM Mp lms pms hM g5 => ?_⟩
      obtain ⟨iz, piz, diz⟩ := dps_perm pms dz
      have lk5 := LK.got g5 g4.die
      replace hL := g5.keep _ _ hL nL
      have hq5 := lk5 _ _ hq4 rfl
      have hx5 := lk5 _ _ hx4 rfl
      replace rsa := rsa.tk (.lk lk5)
      have its : ∀ {i : Nat} {v : V}, ms[i]? = some v → ∃ it c, v = .ref c ∧ SqT K H5 c [.str it.1, .int it.2] ∧ ItemOk true it ∧ iz[i]? = some it := fun {i v} hi => by
        obtain ⟨d, hd, dv⟩ := dAt diz hi
        rw [List.getElem?_map] at hd
        cases c : iz[i]? with
        | none => rw [c] at hd; cases hd
        | some it =>
        rw [c] at hd
        cases hd
        obtain ⟨e, rfl, he⟩ := dItem dv
        exact ⟨it, e, rfl, sqT_tk he (.lk lk5), rg2.s.all it (piz.mem_iff.mp (List.mem_of_getElem? c)), rfl⟩
      replace g5 := g4.trans g5
      have dz0 := dz
      clear lk4 lk5 hq hx hq4 hx4 g3 g4 dz hb dv ev
      refine ⟨_, rfl, M, rfl, ⟨_, SqL.of hM⟩, fun DL nDL => loop_list (a := M) (xs := ms) (fun i H' => ∃ r' ws, r'.length = i ∧ (∀ it ∈ r', ItemOk true it) ∧ (∀ it ∈ r', it.1 ∈ rs.map (·.1) ++ [("z" : Str)]) ∧ r'.map (·.2) = (iz.take i).map (·.2) ∧ H' DL = some (.lst ws) ∧ DpAll K H' ws (r'.map itemD) ∧ Got p H5 H') ⟨[], [], rfl, fun _ h => by (cases h), fun _ h => by (cases h), rfl, upd_same, .nil, Got.new g5.die nDL⟩ (fun i H' _ h => let ⟨_, _, _, _, _, _, _, _, g⟩ := h; SqL.of (g.keep _ _ hM Mp)) ?_ ?_⟩
      · rintro i z H' hz ⟨r', ws, lr', okr', mr', er', eD, dws, g⟩
        obtain ⟨it, c, rfl, hc, oki, eiz⟩ := its hz
        have lk := LK.got g g5.die
        refine ⟨c, _, rfl, sqT_tk hc (.lk lk), rfl, _, _, rfl, _, _, rfl, rfl, rfl, ?_⟩
        simp only [tYes, if_true]
        have hq' := lk _ _ hq5 rfl
        have hx' := lk _ _ hx5 rfl
        have keys : kvs.map (·.1) = (rs.map (·.1)).map Sum.inr := by rw [rs_keys rsa, List.map_map]; rfl
        refine ⟨_, rfl, _, rfl, q, _, rfl, DGet.k (k := .inr "rules") hq', x, kvs, rs.map (·.1), rfl, .inl hx', keys, by rw [List.length_map]; omega, fun ys2 L2 perm2 srt2 n2 => ?_⟩
        have lys2 : ys2.length = rs.length := by rw [perm2.length_eq, List.length_map]
        refine ⟨by show 1 ≤ sizeLine; decide, fun Z nZ => ⟨L2, Z, _, _, rfl, rfl, Same.new nZ _ _ upd_same, upd_same, by rw [List.length_map, sizeLine_eq]; show _ + 1 ≤ _; omega, fun R nR => ?_⟩⟩
        have s3 : Same H' (upd (upd (upd H' L2 (.lst (ys2.map V.str))) Z (.lst [.str "z"])) R (.lst (ys2.map V.str ++ [.str "z"]))) := ((Same.new n2).trans (Same.new nZ)).trans (Same.new nR)
        have hR : upd (upd (upd H' L2 (.lst (ys2.map V.str))) Z (.lst [.str "z"])) R (.lst (ys2.map V.str ++ [.str "z"])) R = some (.lst (ys2.map V.str ++ [.str "z"])) := upd_same
        have nRp : R ≠ p := Got.free_ne (g.over_same ((Same.new n2).trans (Same.new nZ))) nR
        generalize upd (upd (upd H' L2 (.lst (ys2.map V.str))) Z (.lst [.str "z"])) R (.lst (ys2.map V.str ++ [.str "z"])) = H7 at *
        have gs := g.over_same s3
        refine ⟨p, R, _, rfl, gs.die, .inl hR, nRp, by rw [List.length_append]; show 0 < _ + 1; omega, by rw [List.length_append, List.length_map]; show _ + 1 ≤ 1000; omega, fun v H8 mv g8 => ?_⟩
        obtain ⟨y2, rfl, ly2, my2⟩ : ∃ y2, v = .str y2 ∧ LetS y2 = true ∧ y2 ∈ rs.map (·.1) ++ [("z" : Str)] := by
          rcases List.mem_append.mp mv with h | h
          · obtain ⟨y2, m2, rfl⟩ := List.mem_map.mp h
            obtain ⟨yr, mr, rfl⟩ := List.mem_map.mp (perm2.mem_iff.mp m2)
            exact ⟨_, rfl, (good.gs yr mr).2, List.mem_append_left _ (List.mem_map_of_mem mr)⟩
          · exact ⟨"z", List.mem_singleton.mp h, by decide +kernel, List.mem_append_right _ (List.mem_singleton.mpr rfl)⟩
        have lk8 : LK H' H8 := (LK.of s3).trans (LK.got g8 gs.die)
        have eD8 := g8.keep _ _ (s3 _ _ eD) (Got.free_ne g5 nDL)
        replace gs := gs.trans g8
        refine ⟨_, rfl, by show 2 ≤ sizeLine; decide, fun Tn nTn => ?_⟩
        have lw : ws.length = i := by rw [dLen dws, List.length_map, lr']
        have li : i < ms.length := (List.getElem?_eq_some_iff.mp hz).1
        have eD9 := Same.new (o := .tup [.str y2, .int it.2]) nTn _ _ eD8
        have lk9 : LK H' (upd (upd H8 Tn (.tup [.str y2, .int it.2])) DL (.lst (ws ++ [.ref Tn]))) := (lk8.trans (LK.of (Same.new nTn))).trans (LK.put eD9 rfl)
        have nTD : Tn ≠ DL := fun e => by rw [e, eD8] at nTn; cases nTn
        refine ⟨ws, eD9, by rw [lw, sizeLine_eq]; omega, r' ++ [(y2, it.2)], ws ++ [.ref Tn], by rw [List.length_append, lr']; rfl, fun z hz => ?_, fun z hz => ?_, ?_, upd_same, ?_, (gs.trans (Got.new gs.die nTn)).over g5.die nDL _⟩
        · rcases List.mem_append.mp hz with h | h
          · exact okr' z h
          · rw [List.mem_singleton.mp h]
            exact ⟨ly2, oki.a, oki.b⟩
        · rcases List.mem_append.mp hz with h | h
          · exact mr' z h
          · rw [List.mem_singleton.mp h]
            exact my2
        · rw [List.map_append, er', List.take_add_one, eiz, List.map_append]
          rfl
        · rw [List.map_append]
          exact dSnoc (items_tk (.lk lk9) dws) (itemDp (it := (y2, it.2)) (SqT.of ((upd_ne nTD).trans upd_same)))
      · rintro H6 ⟨r', ws, lr', okr', mr', er', eD, dws, g6⟩
        rw [show ms.length = iz.length from by rw [dLen diz, List.length_map], List.take_length] at er'
        have lm : ms.length ≤ 12 := by omega
        have rg' : RowG r' := ⟨⟨by omega, okr'⟩, by rw [lr', lms, dLen dz0, List.length_map]; exact rg2.one⟩
        have sh := rowT_most rg'.s.all rg'.s.most
        have k1 : (Str.ofString "rule z ").length = 7 := by decide +kernel
        have hL6 := g6.keep _ _ hL nL
        replace g6 := g5.trans g6
        refine ⟨_, rfl, _, rfl, DL, ws, r', rfl, eD, dws, ⟨by omega, fun it h => ?_, fun it h => (okr' it h).a, fun it h => ?_⟩, fun H7 s7 => ⟨_, _, rfl, rfl, by rw [k1, sizeLine_eq]; omega, by show 1 ≤ sizeLine; decide, fun Z nZ => ⟨L, Z, _, _, rfl, rfl, Same.new nZ _ _ (s7 _ _ hL6), upd_same, ?_, fun R nR => ?_⟩⟩⟩
        · have z := (okr' it h).l
          unfold LetS at z
          rw [Bool.and_eq_true, decide_eq_true_eq] at z
          omega
        · have : it.2 < 6 := (okr' it h).b
          omega
        · unfold linesP
          rw [List.length_map, List.length_cons, List.length_cons, List.length_map, sizeLine_eq]
          show _ + 1 ≤ _
          omega
        · have few3 := good.few
          refine ⟨R, rs ++ [(("z" : Str), r')], rfl, Got.free_ne (g6.over_same (s7.trans (Same.new nZ))) nR, ?_, ⟨good.g, fun yr h => ?_, ?_, ?_, ?_⟩, sch_more sok (by omega) nz mem piz er' mr' (fun it h => (okr' it h).l), fun yr h => ?_, g6.over_same (s7.trans ((Same.new nZ).trans (Same.new nR)))⟩
          · rw [upd_same, lines_snoc, List.map_append]
            have ez : (Str.ofString "rule " ++ ("z" : Str) ++ Str.ofString " ") = Str.ofString "rule z " := by decide +kernel
            rw [ez]
            rfl
          · rcases List.mem_append.mp h with h | h
            · exact good.gs yr h
            · rw [List.mem_singleton.mp h]
              exact ⟨rg', show LetS ("z" : Str) = true by decide +kernel⟩
          · rw [List.map_append]
            exact List.nodup_append.mpr ⟨good.nd, by simp, fun a ha b hb e => by
              have e2 : b = ("z" : Str) := List.mem_singleton.mp hb
              rw [e, e2] at ha
              exact nz ha⟩
          · rw [List.length_append]; omega
          · rw [List.length_append]; show _ + 1 ≤ 4; omega
          · rcases List.mem_append.mp h with h | h
            · exact abc_abcz _ (abcs yr h)
            · rw [List.mem_singleton.mp h]
              exact show ("z" : Str) ∈ abcz by decide +kernel
    · rintro σ' H' ⟨L', rs', e1, nL', hL', good', sok', abcs', g'⟩
      exact ⟨_, e1, k L' t r rs' H' nL' hL' good' sok' abcs' g'⟩
end
end K13
namespace K13
open PySem PySem.Spec PyProof.Rows L2 GL SkE PySem.GLE LamX
noncomputable abbrev s_row_in : Stmt := topS 37
noncomputable abbrev N_row_in : List Str := ["text", "words", "word"]
theorem sc_row_in : FnScope N_row_in ["text"] (defScope s_row_in) := ⟨rfl, rfl, rfl, by decide +kernel, rfl, by decide +kernel, by decide +kernel⟩
noncomputable abbrev s__is_item_text : Stmt := topS 38
noncomputable abbrev N__is_item_text : List Str := ["word"]
theorem sc__is_item_text : FnScope N__is_item_text ["word"] (defScope s__is_item_text) := ⟨rfl, rfl, rfl, by decide +kernel, rfl, by decide +kernel, by decide +kernel⟩
noncomputable abbrev s__with_row : Stmt := topS 45
noncomputable abbrev N__with_row : List Str := ["key", "text", "least", "row"]
theorem sc__with_row : FnScope N__with_row ["key", "text", "least"] (defScope s__with_row) := ⟨rfl, rfl, rfl, by decide +kernel, rfl, by decide +kernel, by decide +kernel⟩
noncomputable abbrev s_read_line : Stmt := topS 44
noncomputable abbrev N_read_line : List Str := ["text", "word", "_", "rest", "letter", "items"]
theorem sc_read_line : FnScope N_read_line ["text"] (defScope s_read_line) := ⟨rfl, rfl, rfl, by decide +kernel, rfl, by decide +kernel, by decide +kernel⟩
/-- the errors with a field -/
structure Es where
  (P iP U iU : Addr)
structure TxR (K : PySem.W.Frag) (mg : Str → Option Value) (aG dU C CR CS eG eS : Addr) (es : Es) : Prop extends TxM K mg aG dU C CR eG eS where
  zenumerate : mg "enumerate" = none
  g_TURNS : MgV mg "_TURNS" (.str "012345")
  gScheme : MgV mg "Scheme" (.ref CS)
  eParseError : ErrTxt K mg "ParseError" "number" es.P es.iP
  eUnknownLetter : ErrTxt K mg "UnknownLetter" "word" es.U es.iU
noncomputable def spWord : Sp := fun vs H Q _ => ∃ y, vs = [.str y] ∧ y.length ≤ 2000 ∧ Q (.bl (wordOk y)) H
noncomputable def spRowIn (K : PySem.W.Frag) : Sp := fun vs H Q _ => ∃ a, vs = [.str a] ∧ a.length ≤ 1000 ∧ (rowIn a = none → ∀ H', Same H H' → Q .non H') ∧ (∀ r, rowIn a = some r → ∀ x H', Same H H' → Dp K H' x (rowD r) → Q x H')
/-- what a line is read as -/
noncomputable def readT (y : Str) : Option (Str × (Bool ⊕ RowT)) :=
  let w := (Txt.partition y " ").1
  let rest := (Txt.partition y " ").2.2
  if w = "grid" then (if rest = "square" then some ("grid", .inl false) else if rest = "triangle" then some ("grid", .inl true) else none)
  else if w = "axiom" then (match rowIn rest with | some r => if 1 ≤ r.length then some ("axiom", .inr r) else none | none => none)
  else if w = "rule" ∧ LetS (Txt.partition rest " ").1 = true then (match rowIn (Txt.partition rest " ").2.2 with | some r => if 2 ≤ r.length then some ((Txt.partition rest " ").1, .inr r) else none | none => none)
  else none
noncomputable def partD : Bool ⊕ RowT → PyData
  | .inl t => .str (nm t)
  | .inr r => rowD r
/-- a value that is read as a line -/
noncomputable def RdV (K : PySem.W.Frag) (H : Hp) (v : V) : Option Str → Prop
  | none => ∃ k : Kd, Of K H v k ∧ k.isS = false
  | some y => v = .str y ∧ y.length ≤ 900
noncomputable def readO : Option Str → Option (Str × (Bool ⊕ RowT))
  | none => none
  | some y => readT y
theorem part_len (a y : Str) : (Txt.partition a y).1.length ≤ a.length ∧ (Txt.partition a y).2.2.length ≤ a.length := by
  unfold Txt.partition
  split
  · constructor <;>
    · simp only [Builtin.Str.strSub, Str.length, Array.size_extract]
      omega
  · exact ⟨Nat.le_refl _, Nat.zero_le _⟩
theorem RdV.kit {K : PySem.W.Frag} {H : Hp} {v : V} {o : Option Str} (h : RdV K H v o) : ∃ k : Kd, Of K H v k ∧ k.isS = o.isSome := by
  cases o with
  | none => exact h
  | some y => obtain ⟨rfl, _⟩ := h; exact ⟨.str, .base (.str y), rfl⟩
theorem in_grids {y : Str} : (if false = true then !inV (V.str y) [.str "square", .str "triangle"] else inV (V.str y) [.str "square", .str "triangle"]) = (decide (y = "square") || decide (y = "triangle")) := by
  rw [if_neg (by decide)]
  unfold inV
  rw [List.any_cons, List.any_cons, List.any_nil, Bool.or_false]
  congr 1
  · exact decide_eq_decide.mpr ⟨fun h => h.symm, fun h => h.symm⟩
  · exact decide_eq_decide.mpr ⟨fun h => h.symm, fun h => h.symm⟩
noncomputable def spWithR (K : PySem.W.Frag) : Sp := fun vs H Q _ => ∃ k a n, vs = [.str k, .str a, .int n] ∧ a.length ≤ 1000 ∧ ((∀ r, rowIn a = some r → ¬ n ≤ (r.length : Int)) → ∀ H', Same H H' → Q .non H') ∧ (∀ r, rowIn a = some r → n ≤ (r.length : Int) → ∀ z H', Same H H' → Dp K H' z (.tuple [.str k, rowD r]) → Q z H')
noncomputable def spRead (K : PySem.W.Frag) : Sp := fun vs H Q _ => ∃ v o, vs = [v] ∧ RdV K H v o ∧ (readO o = none → ∀ H', Same H H' → Q .non H') ∧ (∀ k p, readO o = some (k, p) → ∀ z H', Same H H' → Dp K H' z (.tuple [.str k, partD p]) → Q z H')
section
variable {P : Program} {w : World} {K : PySem.W.Frag} {mg : Str → Option Value} {base : Heap}
variable {aG dU C CR CS eG eS : Addr} {es : Es} {U : Bool → Addr} {us : Bool → List Addr}
theorem h_is_item_text (T : TxR K mg aG dU C CR CS eG eS es) (D : Df K mg "_is_item_text" s__is_item_text) (his_letter : Has P w K mg base CX0 "is_letter" 1 ["value"] (spLet K)) : Has P w K mg base CX0 "_is_item_text" 2 ["word"] spWord := by
  refine D.has sc__is_item_text (fun vs H Q E h => ?_) (fun kV doc pm an cdv ct us hl => match us, hl with | [_], _ => rfl) (fun f cdv A outer s H vs Q E gd hr h => ?_)
  · obtain ⟨y, rfl, _⟩ := h
    rfl
  · obtain ⟨y, rfl, few, k⟩ := h
    refine ⟨_, (pss_one
 (ps_ret (pe_and (pe_cmpR op_eq (pe_callB call_len_str (by exact rfl) T.zlen PySem.boot_len (pa_cons (pv 0) pa_nil)) pe_int (nomark _)) (pe_and (pe_callH his_letter gd (hr.mono (by decide)) pass0 (pa_cons (pe_ix ix_str (pv 0) pe_int (fun _ _ => rfl)) pa_nil)) (pe_one (pe_cmpR op_in_sign (pe_ix ix_str (pv 0) pe_int (fun _ _ => rfl)) (pe_globV T.g_TURNS) (by rfl))))))), ?_⟩
    refine ⟨_, rfl, _, rfl, Nat.le_trans few (by rw [sizeLine_eq]; decide), rfl, _, rfl, ?_⟩
    by_cases h2 : y.length = 2
    · obtain ⟨c, d, rfl⟩ := two_cps h2
      rw [show decide (V.int (((⟨#[c, d]⟩ : Str).length : Nat) : Int) = V.int 2) = true from decide_eq_true rfl]
      refine iteT ?_
      refine ⟨_, rfl, _, _, _, rfl, rfl, by show 2 ≤ sizeLine; decide, atI_nat (j := 0) rfl, _, .str ⟨#[c]⟩, rfl, .str _, (fun z e => by cases e; show 1 ≤ 1000; decide), _, rfl, ?_⟩
      rw [show isLetD (.str ⟨#[c]⟩) = (decide (97 ≤ c) && decide (c ≤ 122)) from letS_one c]
      have ew : wordOk (⟨#[c, d]⟩ : Str) = ((decide (97 ≤ c) && decide (c ≤ 122)) && (decide (48 ≤ d) && decide (d ≤ 53))) := rfl
      rw [ew] at k
      cases b : (decide (97 ≤ c) && decide (c ≤ 122)) with
      | false =>
        rw [b, Bool.false_and] at k
        exact iteF k
      | true =>
        rw [b, Bool.true_and] at k
        refine iteT ⟨_, rfl, _, _, _, rfl, rfl, by show 2 ≤ sizeLine; decide, atI_nat (j := 1) rfl, _, _, rfl, rfl, ?_⟩
        rw [turns_mem]
        exact k
    · rw [show decide (V.int ((y.length : Nat) : Int) = V.int 2) = false from decide_eq_false (fun z => h2 (by injection z with z; omega))]
      rw [not_two h2] at k
      exact iteF k
theorem h_row_in (T : TxR K mg aG dU C CR CS eG eS es) (D : Df K mg "row_in" s_row_in) (h_is_item_text : Has P w K mg base CX0 "_is_item_text" 2 ["word"] spWord) : Has P w K mg base CX0 "row_in" 3 ["text"] (spRowIn K) := by
  refine D.has sc_row_in (fun vs H Q E h => ?_) (fun kV doc pm an cdv ct us hl => match us, hl with | [_], _ => rfl) (fun f cdv A outer s H vs Q E gd hr h => ?_)
  · obtain ⟨a, rfl, _⟩ := h
    rfl
  · obtain ⟨a, rfl, few, k0, k1⟩ := h
    refine ⟨_, (pss_cons
 (ps_set (i := 1) sc_row_in.nd rfl (Or.inl rfl) (pe_bm PySem.F.plainAttrs_str PySem.F.slot_str_split PySem.F.type_str_split mt_split (pv 0) (pa_cons pe_str pa_nil)))
 (pss_cons
 (ps_if (PW.pt (pw_or (pt_cmpR op_gt (pe_callB call_len_seq (by exact rfl) T.zlen PySem.boot_len (pa_cons (pv 1) pa_nil)) (pe_globV T.gMAX_ITEMS) (nomark _)) (pw_or1 (pt_not (pt_val (pe_callB (cr_all rfl) (by exact rfl) T.zall (by decide +kernel) (pa_cons (pe_lc (own := [("word", 2)]) (g := gName 2) (tt := tYes) (by rfl) sc_row_in.nd (pi_list (pv 1)) (blkOk_by (own := [("word", 2)]) (N := N_row_in) (sc := defScope s_row_in) (by decide +kernel)) (fun _ _ _ _ _ => pg_name (i := 2) sc_row_in.nd rfl (Or.inl rfl)) (fun _ _ _ _ _ => pts_nil) (fun _ _ _ _ _ => (pe_callH h_is_item_text gd (hr.mono (by decide)) pass0 (pa_cons (pv 2) pa_nil)))) pa_nil))))))) (pss_one
 (ps_ret pe_non)) pss_nil)
 (pss_one
 (ps_ret (pe_callTy call_tuple_of (by exact rfl) T.ztuple (by decide +kernel) (pa_cons (pe_lc (own := [("word", 2)]) (g := gName 2) (tt := tYes) (by rfl) sc_row_in.nd (pi_list (pv 1)) (blkOk_by (own := [("word", 2)]) (N := N_row_in) (sc := defScope s_row_in) (by decide +kernel)) (fun _ _ _ _ _ => pg_name (i := 2) sc_row_in.nd rfl (Or.inl rfl)) (fun _ _ _ _ _ => pts_nil) (fun _ _ _ _ _ => (pe_tup (pa_cons (pe_ix ix_str (pv 2) pe_int (fun _ _ => rfl)) (pa_cons (pe_bmK (K0 := K) (by exact rfl) PySem.F.plainAttrs_str PySem.F.slot_str_index PySem.F.type_str_index mt_sindex (pe_globV T.g_TURNS) (pa_cons (pe_ix ix_str (pv 2) pe_int (fun _ _ => rfl)) pa_nil)) pa_nil))))) pa_nil)))))), ?_⟩
    dsimp only [cxOf, Cx.nox]
    obtain ⟨many, small⟩ := split_small a
    refine ⟨_, rfl, rfl, a, " ", rfl, rfl, by decide +kernel, by rw [sizeLine_eq]; omega, fun p np => ?_⟩
    have s1 := Same.new (o := .lst ((Txt.split a " ").map V.str)) np
    have hp : SqL K (upd H p (.lst ((Txt.split a " ").map V.str))) p ((Txt.split a " ").map V.str) := SqL.of upd_same
    generalize upd H p (.lst ((Txt.split a " ").map V.str)) = H1 at *
    generalize ews : Txt.split a " " = ws at *
    refine ⟨_, rfl, p, _, rfl, .inl hp, _, _, rfl, rfl, _, rfl, ?_⟩
    rw [List.length_map]
    by_cases few12 : ws.length ≤ 12
    · rw [decide_eq_false (show ¬ (12 : Int) < (ws.length : Int) by omega)]
      refine iteF ?_
      refine ⟨_, rfl, p, rfl, ⟨_, hp⟩, fun D hD => lc_list (a := p) (xs := ws.map V.str) (fun i' H' => Same H1 H' ∧ H' D = some (.lst (((ws.take i').map wordOk).map V.bl))) ⟨Same.new hD, upd_same⟩ (fun i' H' _ h => sqL_same hp h.1) ?_ ?_⟩
      · rintro i' x H' hx ⟨s', hacc⟩
        obtain ⟨y, hy, rfl⟩ : ∃ y, ws[i']? = some y ∧ x = .str y := by
          rw [List.getElem?_map] at hx
          cases e : ws[i']? with
          | none => rw [e] at hx; cases hx
          | some y => rw [e] at hx; cases hx; exact ⟨y, rfl, rfl⟩
        have sy := small y (List.mem_of_getElem? hy)
        refine ⟨rfl, ?_⟩
        simp only [tYes, if_true]
        refine ⟨_, rfl, y, rfl, by omega, _, hacc, ?_, Same.over s' hD _, ?_⟩
        · rw [List.length_map, List.length_map, List.length_take, sizeLine_eq]
          omega
        · rw [upd_same, List.take_add_one, hy, List.map_append, List.map_append]
          rfl
      rintro H2 ⟨s2, hacc⟩
      rw [List.length_map, List.take_length] at hacc
      refine ⟨D, _, rfl, SqL.of hacc, _, rfl, ?_⟩
      have eall : (ws.map wordOk).all id = ws.all wordOk := by rw [List.all_map]; rfl
      rw [eall]
      cases b : ws.all wordOk with
      | false => exact iteT (k0 (by unfold rowIn; rw [ews, b, if_neg (fun z => by cases z.2)]) _ (s1.trans s2))
      | true =>
        refine iteF ?_
        have er : rowIn a = some (ws.map wordIt) := by unfold rowIn; rw [ews, b, if_pos ⟨few12, rfl⟩]
        have oks := List.all_eq_true.mp b
        have hp2 := sqL_same hp s2
        refine ⟨_, rfl, p, rfl, ⟨_, hp2⟩, fun D2 hD2 => lc_list (a := p) (xs := ws.map V.str) (fun i' H' => Grow K H2 D2 ((ws.take i').map fun y => itemD (wordIt y)) H') (by rw [List.take_zero]; exact Grow.start hD2) (fun i' H' _ A => sqL_same hp2 A.same) ?_ ?_⟩
        · rintro i' x H' hx A
          obtain ⟨y, hy, rfl⟩ : ∃ y, ws[i']? = some y ∧ x = .str y := by
            rw [List.getElem?_map] at hx
            cases e : ws[i']? with
            | none => rw [e] at hx; cases hx
            | some y => rw [e] at hx; cases hx; exact ⟨y, rfl, rfl⟩
          have oy := oks y (List.mem_of_getElem? hy)
          obtain ⟨c, d, rfl, d0, d1⟩ : ∃ c d, y = ⟨#[c, d]⟩ ∧ 48 ≤ d ∧ d ≤ 53 := by
            have l2 : y.length = 2 := by
              by_cases h : y.length = 2
              · exact h
              · rw [not_two h] at oy; cases oy
            obtain ⟨c, d, rfl⟩ := two_cps l2
            have oy : ((decide (97 ≤ c) && decide (c ≤ 122)) && (decide (48 ≤ d) && decide (d ≤ 53))) = true := oy
            simp only [Bool.and_eq_true, decide_eq_true_eq] at oy
            exact ⟨c, d, rfl, oy.2.1, oy.2.2⟩
          obtain ⟨ys, eD, lD⟩ := A.ex
          refine ⟨rfl, ?_⟩
          simp only [tYes, if_true]
          have occ := turns_at (d - 48) (by omega)
          rw [show 48 + (d - 48) = d by omega] at occ
          refine ⟨_, rfl, _, _, _, rfl, rfl, by show 2 ≤ sizeLine; decide, atI_nat (j := 0) rfl, rfl, _, rfl, _, _, _, rfl, rfl, by show 2 ≤ sizeLine; decide, atI_nat (j := 1) rfl, _, _, _, _, rfl, rfl, occ, by show 2 ≤ sizeLine; decide, fun q nq => ?_⟩
          have A2 := A.ext (Same.new (o := .tup [.str ⟨#[c]⟩, .int ((d - 48 : Nat) : Int)]) nq)
          have eD2 := Same.new (o := .tup [.str ⟨#[c]⟩, .int ((d - 48 : Nat) : Int)]) nq _ _ eD
          refine ⟨ys, eD2, ?_, ?_⟩
          · rw [A.len eD, List.length_map, List.length_take, sizeLine_eq]
            omega
          · rw [List.take_add_one, hy]
            show Grow K H2 D2 ((ws.take i' ++ [_]).map _) _
            rw [List.map_append]
            exact A2.push eD2 (itemDp (it := (⟨#[c]⟩, ((d - 48 : Nat) : Int))) (SqT.of (wo_at upd_same (fun z => by rw [z, eD] at nq; cases nq))))
        · rintro H3 A
          rw [List.length_map, List.take_length] at A
          obtain ⟨zs, eD, lD⟩ := A.ex
          refine ⟨D2, zs, rfl, .inl ⟨SqL.of eD, fun q nq => k1 _ er _ _ ((s1.trans s2).trans (A.same.trans (Same.new nq))) ?_⟩⟩
          refine .tup (SqT.of upd_same) ?_
          rw [List.map_map]
          exact dps_same ((wo_same).trans (Same.new nq)) lD
    · rw [decide_eq_true (show (12 : Int) < (ws.length : Int) by omega)]
      exact iteT (iteT (k0 (by unfold rowIn; rw [ews, if_neg (fun z => few12 z.1)]) _ s1))
theorem h_with_row (T : TxR K mg aG dU C CR CS eG eS es) (D : Df K mg "_with_row" s__with_row) (hrow_in : Has P w K mg base CX0 "row_in" 3 ["text"] (spRowIn K)) : Has P w K mg base CX0 "_with_row" 4 ["key", "text", "least"] (spWithR K) := by
  refine D.has sc__with_row (fun vs H Q E h => ?_) (fun kV doc pm an cdv ct us hl => match us, hl with | [_, _, _], _ => rfl) (fun f cdv A outer s H vs Q E gd hr h => ?_)
  · obtain ⟨k, a, n, rfl, _⟩ := h
    rfl
  · obtain ⟨k, a, n, rfl, few, k0, k1⟩ := h
    have hu := hr.units
    refine ⟨_, (pss_cons
 (ps_set (i := 3) sc__with_row.nd rfl (Or.inl rfl) (pe_callH hrow_in gd (hr.mono (by decide)) pass0 (pa_cons (pv 1) pa_nil)))
 (pss_cons
 (ps_if (PW.pt (pw_or (pt_cmpR op_isN (pv 3) pe_non (nomark _)) (pw_or1 (pt_cmpR op_lt (pe_callB call_len_seq (by exact rfl) T.zlen PySem.boot_len (pa_cons (pv 3) pa_nil)) (pv 2) (nomark _))))) (pss_one
 (ps_ret pe_non)) pss_nil)
 (pss_one
 (ps_ret (pe_tup (pa_cons (pv 0) (pa_cons (pv 3) pa_nil))))))), ?_⟩
    dsimp only [cxOf, Cx.nox]
    refine ⟨_, rfl, a, rfl, few, fun e H1 s1 => ?_, fun r e x H1 s1 dx => ?_⟩
    · refine ⟨_, rfl, rfl, _, rfl, iteT (iteT (k0 (fun r e' => by rw [e] at e'; cases e') H1 s1))⟩
    · obtain ⟨b, zs, rfl, hb, dz⟩ := dTup dx
      have lz : zs.length = r.length := by rw [dLen dz, List.length_map]
      refine ⟨_, rfl, rfl, _, rfl, iteF ⟨_, rfl, b, zs, rfl, .inr hb, _, rfl, _, _, rfl, rfl, _, rfl, ?_⟩⟩
      refine ite2 (fun c => k0 (fun r' e' => ?_) H1 s1) (fun c => ?_)
      · rw [e] at e'
        cases e'
        have c : decide ((zs.length : Int) < n) = true := c
        rw [decide_eq_true_eq] at c
        omega
      · refine ⟨_, rfl, _, rfl, by show 2 ≤ sizeLine; decide, fun p np => ?_⟩
        refine k1 r e ?_ _ _ (s1.trans (Same.new np)) (.tup (SqT.of upd_same) (.cons (.str k) (.cons (dp_same (Same.new np) dx) .nil)))
        have c : ¬ decide ((zs.length : Int) < n) = true := c
        rw [decide_eq_true_eq] at c
        omega
theorem h_read_line (T : TxR K mg aG dU C CR CS eG eS es) (hU : Uni K w aG dU U us) (D : Df K mg "read_line" s_read_line) (h_with_row : Has P w K mg base CX0 "_with_row" 4 ["key", "text", "least"] (spWithR K)) (his_letter : Has P w K mg base CX0 "is_letter" 1 ["value"] (spLet K)) : Has P w K mg base CX0 "read_line" 5 ["text"] (spRead K) := by
  refine D.has sc_read_line (fun vs H Q E h => ?_) (fun kV doc pm an cdv ct us hl => match us, hl with | [_], _ => rfl) (fun f cdv A outer s H vs Q E gd hr h => ?_)
  · obtain ⟨v, o, rfl, _⟩ := h
    rfl
  · obtain ⟨v, o, rfl, hv, k0, k1⟩ := h
    have hu := hr.units
    refine ⟨_, (pss_cons
 (ps_if (pt_not (pt_val (pe_callB call_isi (by exact rfl) T.zisinstance (by decide +kernel) (pa_cons (pv 0) (pa_cons (pe_bltn (v := .ty "str") (by exact rfl) T.zstr (by decide +kernel) rfl) pa_nil))))) (pss_one
 (ps_ret pe_non)) pss_nil)
 (pss_cons
 (ps_asg (pe_bm PySem.F.plainAttrs_str PySem.F.slot_str_partition PySem.F.type_str_partition mt_partition (pv 0) (pa_cons pe_str pa_nil)) (pg_tup (by rfl) (pgs_cons (pg_name (i := 1) sc_read_line.nd rfl (Or.inl rfl)) (pgs_cons (pg_name (i := 2) sc_read_line.nd rfl (Or.inl rfl)) (pgs_cons (pg_name (i := 3) sc_read_line.nd rfl (Or.inl rfl)) pgs_nil)))))
 (pss_cons
 (ps_if (pt_cmpR op_eq (pv 1) pe_str (nomark _)) (pss_one
 (ps_ret (pe_ifExp (pt_cmpR op_in_seq (pv 3) (pe_globV T.gGRIDS) (by rfl)) (pe_tup (pa_cons (pv 1) (pa_cons (pv 3) pa_nil))) pe_non))) pss_nil)
 (pss_cons
 (ps_if (pt_cmpR op_eq (pv 1) pe_str (nomark _)) (pss_one
 (ps_ret (pe_callH h_with_row gd (hr.mono (by decide)) pass0 (pa_cons (pv 1) (pa_cons (pv 3) (pa_cons pe_int pa_nil)))))) pss_nil)
 (pss_cons
 (ps_asg (pe_bm PySem.F.plainAttrs_str PySem.F.slot_str_partition PySem.F.type_str_partition mt_partition (pv 3) (pa_cons pe_str pa_nil)) (pg_tup (by rfl) (pgs_cons (pg_name (i := 4) sc_read_line.nd rfl (Or.inl rfl)) (pgs_cons (pg_name (i := 2) sc_read_line.nd rfl (Or.inl rfl)) (pgs_cons (pg_name (i := 5) sc_read_line.nd rfl (Or.inl rfl)) pgs_nil)))))
 (pss_cons
 (ps_if (PW.pt (pw_and (pt_cmpR op_eq (pv 1) pe_str (nomark _)) (pw_and1 (pt_val (pe_callH his_letter gd (hr.mono (by decide)) pass0 (pa_cons (pv 4) pa_nil)))))) (pss_one
 (ps_ret (pe_callH h_with_row gd (hr.mono (by decide)) pass0 (pa_cons (pv 4) (pa_cons (pv 5) (pa_cons (pe_globV T.gMIN_ITEMS) pa_nil)))))) pss_nil)
 (pss_one
 (ps_ret pe_non)))))))), ?_⟩
    dsimp only [cxOf, Cx.nox]
    obtain ⟨kd, ok, es⟩ := hv.kit
    refine ⟨_, rfl, _, _, _, _, _, rfl, .ty _, ok, kit_str kd, _, rfl, ?_⟩
    rw [es]
    cases o with
    | none => exact if_nf (k0 rfl H same_rfl)
    | some y =>
    obtain ⟨rfl, ly⟩ := hv
    refine (iteF ?_ : if (!true) = true then _ else _)
    obtain ⟨l1, l2⟩ := part_len y " "
    refine ⟨_, rfl, rfl, y, " ", rfl, rfl, by decide +kernel, by rw [sizeLine_eq]; omega, fun p np => ⟨p, _, rfl, SqT.of upd_same, rfl, _, _, rfl, _, _, rfl, _, _, rfl, rfl, ?_⟩⟩
    have s1 := Same.new (o := .tup [.str (Txt.partition y " ").1, .str (Txt.partition y " ").2.1, .str (Txt.partition y " ").2.2]) np
    generalize upd H p (.tup [.str (Txt.partition y " ").1, .str (Txt.partition y " ").2.1, .str (Txt.partition y " ").2.2]) = H1 at *
    have er : readO (some y) = readT y := rfl
    rw [er] at k0 k1
    unfold readT at k0 k1
    dsimp only at k0 k1
    generalize (Txt.partition y " ").1 = wd at *
    generalize (Txt.partition y " ").2.2 = rest at *
    refine ⟨_, rfl, rfl, _, rfl, ?_⟩
    by_cases c1 : wd = "grid"
    · subst c1
      rw [if_pos rfl] at k0 k1
      refine iteT ⟨_, rfl, aG, _, rfl, .inr (hU.grids H1), rfl, rfl, _, rfl, ?_⟩
      rw [in_grids]
      by_cases g1 : rest = "square"
      · rw [decide_eq_true g1, Bool.true_or]
        rw [if_pos g1] at k1
        refine iteT ⟨_, rfl, _, rfl, by show 2 ≤ sizeLine; decide, fun p2 np2 => k1 "grid" (.inl false) rfl _ _ (s1.trans (Same.new np2)) ?_⟩
        rw [g1]
        exact .tup (SqT.of upd_same) (.cons (.str _) (.cons (.str _) .nil))
      rw [decide_eq_false g1, Bool.false_or]
      rw [if_neg g1] at k0 k1
      by_cases g2 : rest = "triangle"
      · rw [decide_eq_true g2]
        rw [if_pos g2] at k1
        refine iteT ⟨_, rfl, _, rfl, by show 2 ≤ sizeLine; decide, fun p2 np2 => k1 "grid" (.inl true) rfl _ _ (s1.trans (Same.new np2)) ?_⟩
        rw [g2]
        exact .tup (SqT.of upd_same) (.cons (.str _) (.cons (.str _) .nil))
      · rw [decide_eq_false g2]
        rw [if_neg g2] at k0
        exact iteF (k0 rfl H1 s1)
    rw [decide_eq_false (fun z => c1 (by injection z))]
    rw [if_neg c1] at k0 k1
    refine iteF ⟨_, rfl, rfl, _, rfl, ?_⟩
    by_cases c2 : wd = "axiom"
    · subst c2
      rw [if_pos rfl] at k0 k1
      refine iteT ⟨_, rfl, _, rfl, "axiom", rest, 1, rfl, by omega, fun no H2 s2 => k0 ?_ H2 (s1.trans s2), fun r e l z H2 s2 dz => k1 "axiom" (.inr r) ?_ z H2 (s1.trans s2) dz⟩
      · cases e : rowIn rest with
        | none => rfl
        | some r => show (if 1 ≤ r.length then _ else none) = none; rw [if_neg (fun h => no r e (by omega))]
      · rw [e]
        show (if 1 ≤ r.length then _ else none) = _
        rw [if_pos (by omega)]
    rw [decide_eq_false (fun z => c2 (by injection z))]
    rw [if_neg c2] at k0 k1
    obtain ⟨l3, l4⟩ := part_len rest " "
    refine iteF ⟨_, rfl, rfl, rest, " ", rfl, rfl, by decide +kernel, by rw [sizeLine_eq]; omega, fun p2 np2 => ⟨p2, _, rfl, SqT.of upd_same, rfl, _, _, rfl, _, _, rfl, _, _, rfl, rfl, ?_⟩⟩
    have s2 := s1.trans (Same.new (o := .tup [.str (Txt.partition rest " ").1, .str (Txt.partition rest " ").2.1, .str (Txt.partition rest " ").2.2]) np2)
    generalize upd H1 p2 (.tup [.str (Txt.partition rest " ").1, .str (Txt.partition rest " ").2.1, .str (Txt.partition rest " ").2.2]) = H2 at *
    generalize (Txt.partition rest " ").1 = lt at *
    generalize (Txt.partition rest " ").2.2 = its at *
    refine ⟨_, rfl, rfl, _, rfl, ?_⟩
    by_cases c3 : wd = "rule"
    case neg =>
      rw [decide_eq_false (fun z => c3 (by injection z))]
      rw [if_neg (fun h => c3 h.1)] at k0
      exact iteF (iteF (k0 rfl H2 s2))
    subst c3
    refine iteT ⟨_, rfl, _, .str lt, rfl, .str _, (fun z e => by cases e; omega), _, rfl, ?_⟩
    rw [show isLetD (.str lt) = LetS lt from rfl]
    cases c4 : LetS lt with
    | false =>
      rw [if_neg (fun h => by rw [c4] at h; cases h.2)] at k0
      exact iteF (k0 rfl H2 s2)
    | true =>
      rw [if_pos ⟨rfl, c4⟩] at k0 k1
      refine iteT ⟨_, rfl, _, rfl, lt, its, 2, rfl, by omega, fun no H3 s3 => k0 ?_ H3 (s2.trans s3), fun r e l z H3 s3 dz => k1 lt (.inr r) ?_ z H3 (s2.trans s3) dz⟩
      · cases e : rowIn its with
        | none => rfl
        | some r => show (if 2 ≤ r.length then _ else none) = none; rw [if_neg (fun h => no r e (by omega))]
      · rw [e]
        show (if 2 ≤ r.length then _ else none) = _
        rw [if_pos (by omega)]
end
end K13
namespace K13
open PySem PySem.Spec PyProof.Rows L2 GL SkE PySem.GLE LamX
noncomputable abbrev s_Scheme_from_lines : Stmt := inClass (topS 50) 1
noncomputable abbrev N_Scheme_from_lines : List Str := ["cls", "lines", "parts", "index", "line", "part", "rules", "key"]
theorem sc_Scheme_from_lines : FnScope N_Scheme_from_lines ["cls", "lines"] (defScope s_Scheme_from_lines) := ⟨rfl, rfl, rfl, by decide +kernel, rfl, by decide +kernel, by decide +kernel⟩
/-- what lines are read as together: the first that can't come there, or the parts in their order -/
noncomputable def scanL : List (Option Str) → List (Str × (Bool ⊕ RowT)) → Nat → Nat ⊕ List (Str × (Bool ⊕ RowT))
  | [], acc, _ => .inr acc
  | o :: os, acc, i => match readO o with
    | none => .inl i
    | some kp => if kp.1 ∈ acc.map (·.1) then .inl i else scanL os (acc ++ [kp]) (i + 1)
/-- the parts' dict -/
noncomputable def PartsAt (K : PySem.W.Frag) (M : Hp) (kvs : List (Key × V)) (acc : List (Str × (Bool ⊕ RowT))) : Prop := Paired (fun kv kp => kv.1 = .inr kp.1 ∧ Dp K M kv.2 (partD kp.2)) kvs acc
noncomputable def rulesOf (acc : List (Str × (Bool ⊕ RowT))) : Rls := acc.filterMap fun kp => match kp.2 with | .inr r => if LetS kp.1 = true then some (kp.1, r) else none | .inl _ => none
theorem rulesOf_snoc {acc : List (Str × (Bool ⊕ RowT))} {kp : Str × (Bool ⊕ RowT)} : rulesOf (acc ++ [kp]) = rulesOf acc ++ rulesOf [kp] := by unfold rulesOf; exact List.filterMap_append ..
/-- what a part may be -/
noncomputable def PartOk (kp : Str × (Bool ⊕ RowT)) : Prop := (kp.1 = "grid" ∧ ∃ t, kp.2 = .inl t) ∨ (kp.1 = "axiom" ∧ ∃ r, kp.2 = .inr r ∧ RowS true r) ∨ (LetS kp.1 = true ∧ ∃ r, kp.2 = .inr r ∧ RowS true r)
theorem readT_ok {y : Str} {kp : Str × (Bool ⊕ RowT)} (h : readT y = some kp) : PartOk kp := by
  unfold readT at h
  dsimp only at h
  split at h
  · split at h
    · cases h; exact .inl ⟨rfl, _, rfl⟩
    · split at h
      · cases h; exact .inl ⟨rfl, _, rfl⟩
      · cases h
  · split at h
    · split at h
      · rename_i r e
        split at h
        · cases h; exact .inr (.inl ⟨rfl, r, rfl, (rowIn_some e).1⟩)
        · cases h
      · cases h
    · split at h
      · rename_i c
        split at h
        · rename_i r e
          split at h
          · cases h; exact .inr (.inr ⟨c.2, r, rfl, (rowIn_some e).1⟩)
          · cases h
        · cases h
      · cases h
theorem parts_at {K : PySem.W.Frag} {M : Hp} {kvs : List (Key × V)} {acc : List (Str × (Bool ⊕ RowT))} (h : PartsAt K M kvs acc) : ∀ {i : Nat} {k : Key} {v : V}, kvs[i]? = some (k, v) → ∃ kp, acc[i]? = some kp ∧ k = .inr kp.1 ∧ Dp K M v (partD kp.2) := by
  unfold PartsAt at h
  induction h with
  | nil => intro i k v e; cases e
  | @cons p q ps qs h t ih =>
    intro i k v e
    cases i with
    | zero => cases e; exact ⟨q, rfl, h⟩
    | succ i => exact ih (i := i) e
theorem parts_keys {K : PySem.W.Frag} {M : Hp} {kvs : List (Key × V)} {acc : List (Str × (Bool ⊕ RowT))} (h : PartsAt K M kvs acc) : kvs.map (·.1) = acc.map fun kp => .inr kp.1 := by
  unfold PartsAt at h
  induction h with
  | nil => rfl
  | cons h t ih => rw [List.map_cons, List.map_cons, ih, h.1]
theorem parts_snoc {K : PySem.W.Frag} {M : Hp} {v : V} {kp : Str × (Bool ⊕ RowT)} : ∀ {kvs : List (Key × V)} {acc : List (Str × (Bool ⊕ RowT))}, PartsAt K M kvs acc → Dp K M v (partD kp.2) → PartsAt K M (kvs ++ [(.inr kp.1, v)]) (acc ++ [kp])
  | _, _, .nil, h => .cons ⟨rfl, h⟩ .nil
  | _, _, .cons x r, h => .cons x (parts_snoc r h)
theorem parts_none {K : PySem.W.Frag} {M : Hp} {y : Str} : ∀ {kvs : List (Key × V)} {acc : List (Str × (Bool ⊕ RowT))}, PartsAt K M kvs acc → y ∉ acc.map (·.1) → valV kvs (.inr y) = none
  | _, _, .nil, _ => rfl
  | kv :: kvs, yr :: ss, .cons h r, n => by
    rw [List.map_cons, List.mem_cons, not_or] at n
    rw [valV_neg (by rw [h.1]; exact fun q => n.1 (by injection q with q; exact q.symm))]
    exact parts_none r n.2
theorem parts_some {K : PySem.W.Frag} {M : Hp} {y : Str} : ∀ {kvs : List (Key × V)} {acc : List (Str × (Bool ⊕ RowT))}, PartsAt K M kvs acc → y ∈ acc.map (·.1) → ∃ v p, valV kvs (.inr y) = some v ∧ (y, p) ∈ acc ∧ Dp K M v (partD p)
  | _, _, .nil, h => by cases h
  | (k, v) :: kvs, yr :: ss, .cons h r, n => by
    by_cases e : yr.1 = y
    · subst e
      exact ⟨v, yr.2, by rw [valV_pos h.1], List.mem_cons_self .., h.2⟩
    · rw [List.map_cons, List.mem_cons] at n
      obtain ⟨v', p, e1, m, d⟩ := parts_some r (n.resolve_left fun z => e z.symm)
      exact ⟨v', p, by rw [valV_neg (by rw [h.1]; exact fun q => e (by injection q))]; exact e1, List.mem_cons_of_mem _ m, d⟩
theorem part_tk {K : PySem.W.Frag} {H H' : Hp} {x : V} {p : Bool ⊕ RowT} (h : Dp K H x (partD p)) (s : TK H H') : Dp K H' x (partD p) := by
  cases p with
  | inl t => cases h; exact .str _
  | inr r => exact row_tk h s
theorem PartsAt.tk {K : PySem.W.Frag} {H H' : Hp} {kvs : List (Key × V)} {acc : List (Str × (Bool ⊕ RowT))} (h : PartsAt K H kvs acc) (s : TK H H') : PartsAt K H' kvs acc := _root_.L2.Paired.mapP h fun a b ⟨h1, h2⟩ => ⟨h1, part_tk h2 s⟩
theorem RdV.same {K : PySem.W.Frag} {H H' : Hp} {v : V} {o : Option Str} (h : RdV K H v o) (s : Same H H') : RdV K H' v o := by
  cases o with
  | none => obtain ⟨k, a, b⟩ := h; exact ⟨k, a.same s, b⟩
  | some y => exact h
theorem rd_at {K : PySem.W.Frag} {H : Hp} : ∀ {xs : List V} {os : List (Option Str)}, Paired (RdV K H) xs os → ∀ {i : Nat} {x : V}, xs[i]? = some x → ∃ o, os[i]? = some o ∧ RdV K H x o
  | _, _, .nil, _, _, h => by cases h
  | _, _, .cons a r, 0, x, h => by cases h; exact ⟨_, rfl, a⟩
  | _, _, .cons a r, i + 1, x, h => rd_at r (i := i) h
theorem readT_let {y : Str} (h : LetS y = true) : y ≠ "grid" ∧ y ≠ "axiom" := by
  have l := let_len h
  constructor
  · intro e; subst e; exact absurd l (by decide +kernel)
  · intro e; subst e; exact absurd l (by decide +kernel)
noncomputable def RsP (K : PySem.W.Frag) (M : Hp) (kvs : List (Key × V)) (rs : Rls) : Prop := Paired (fun kv yr => kv.1 = .inr yr.1 ∧ Dp K M kv.2 (rowD yr.2)) kvs rs
theorem RsP.tk {K : PySem.W.Frag} {H H' : Hp} {kvs : List (Key × V)} {rs : Rls} (h : RsP K H kvs rs) (s : TK H H') : RsP K H' kvs rs := _root_.L2.Paired.mapP h fun a b ⟨h1, h2⟩ => ⟨h1, row_tk h2 s⟩
theorem rsP_snoc {K : PySem.W.Frag} {M : Hp} {v : V} {yr : Str × RowT} : ∀ {kvs : List (Key × V)} {acc : Rls}, RsP K M kvs acc → Dp K M v (rowD yr.2) → RsP K M (kvs ++ [(.inr yr.1, v)]) (acc ++ [yr])
  | _, _, .nil, h => .cons ⟨rfl, h⟩ .nil
  | _, _, .cons x r, h => .cons x (rsP_snoc r h)
theorem rsP_none {K : PySem.W.Frag} {M : Hp} {y : Str} : ∀ {kvs : List (Key × V)} {acc : Rls}, RsP K M kvs acc → y ∉ acc.map (·.1) → valV kvs (.inr y) = none
  | _, _, .nil, _ => rfl
  | kv :: kvs, yr :: ss, .cons h r, n => by
    rw [List.map_cons, List.mem_cons, not_or] at n
    rw [valV_neg (by rw [h.1]; exact fun q => n.1 (by injection q with q; exact q.symm))]
    exact rsP_none r n.2
theorem rsP_ents {K : PySem.W.Frag} {M : Hp} : ∀ {kvs : List (Key × V)} {rs : Rls}, RsP K M kvs rs → (∀ yr ∈ rs, MildD (rowD yr.2) ∧ yr.1.length ≤ 1000) → Ents K M kvs (entsOf rs)
  | _, _, .nil, _ => .nil
  | kv :: kvs, yr :: rs, .cons h r, m => .cons ⟨h.1, h.2, (m yr (List.mem_cons_self ..)).1, fun y e => by
      obtain rfl : yr.1 = y := Sum.inr.inj e
      exact (m yr (List.mem_cons_self ..)).2⟩ (rsP_ents r fun yr hy => m yr (List.mem_cons_of_mem _ hy))
theorem rules_sub : ∀ {acc : List (Str × (Bool ⊕ RowT))}, List.Sublist ((rulesOf acc).map (·.1)) (acc.map (·.1))
  | [] => .slnil
  | (y, .inl t) :: r => by
    show List.Sublist ((rulesOf r).map (·.1)) _
    exact .cons _ (rules_sub)
  | (y, .inr w) :: r => by
    unfold rulesOf
    rw [List.filterMap_cons]
    dsimp only
    by_cases l : LetS y = true
    · rw [if_pos l]
      exact .cons₂ _ (rules_sub)
    · rw [if_neg l]
      exact .cons _ (rules_sub)
theorem rules_mem {acc : List (Str × (Bool ⊕ RowT))} {yr : Str × RowT} (h : yr ∈ rulesOf acc) : (yr.1, (Sum.inr yr.2 : Bool ⊕ RowT)) ∈ acc ∧ LetS yr.1 = true := by
  unfold rulesOf at h
  obtain ⟨kp, m, e⟩ := List.mem_filterMap.mp h
  obtain ⟨y, p⟩ := kp
  cases p with
  | inl t => cases e
  | inr r =>
    dsimp only at e
    by_cases l : LetS y = true
    · rw [if_pos l] at e; cases e; exact ⟨m, l⟩
    · rw [if_neg l] at e; cases e
theorem rules_row {acc : List (Str × (Bool ⊕ RowT))} {yr : Str × RowT} (ok : ∀ kp ∈ acc, PartOk kp) (h : yr ∈ rulesOf acc) : RowS true yr.2 := by
  obtain ⟨m, l⟩ := rules_mem h
  have n := readT_let l
  rcases ok _ m with ⟨e, _⟩ | ⟨e, _⟩ | ⟨_, r, e, s⟩
  · exact absurd e n.1
  · exact absurd e n.2
  · cases e; exact s
theorem nd_uniq {α β : Type} {acc : List (α × β)} (nd : (acc.map (·.1)).Nodup) {k : α} {a b : β} (ha : (k, a) ∈ acc) (hb : (k, b) ∈ acc) : a = b := by
  induction acc with
  | nil => cases ha
  | cons x r ih =>
    rw [List.map_cons, List.nodup_cons] at nd
    rcases List.mem_cons.mp ha with ea | ma
    · rcases List.mem_cons.mp hb with eb | mb
      · exact congrArg Prod.snd (ea.trans eb.symm)
      · exact absurd (List.mem_map.mpr ⟨_, mb, by rw [← ea]⟩) nd.1
    · rcases List.mem_cons.mp hb with eb | mb
      · exact absurd (List.mem_map.mpr ⟨_, ma, by rw [← eb]⟩) nd.1
      · exact ih nd.2 ma mb
noncomputable def numX (es : Es) (H : Hp) (i : Nat) (E : XK) : Prop := ∀ d H', Same H H' → H' d = some (.xd [("number", .int (i : Int))]) → E (.ref es.P) (some d) H'
noncomputable def spFromIn (K : PySem.W.Frag) (C : Addr) (U : Bool → Addr) (CR CS eS : Addr) (es : Es) : Sp := fun vs H Q E => ∃ p items os, vs = [.ref CS, .ref p] ∧ H p = some (.tup items) ∧ Paired (RdV K H) items os ∧ items.length ≤ 100 ∧
  (∀ i, scanL os [] 0 = .inl i → numX es H i E) ∧
  (∀ acc, scanL os [] 0 = .inr acc → (∀ t r, (("grid" : Str), (Sum.inl t : Bool ⊕ RowT)) ∈ acc → (("axiom" : Str), (Sum.inr r : Bool ⊕ RowT)) ∈ acc → ¬ SchOk t r (rulesOf acc)) → Raises H eS E) ∧
  (∀ acc t r, scanL os [] 0 = .inr acc → (("grid" : Str), (Sum.inl t : Bool ⊕ RowT)) ∈ acc → (("axiom" : Str), (Sum.inr r : Bool ⊕ RowT)) ∈ acc → SchOk t r (rulesOf acc) → ∀ ss p' H', Same H H' → ss.Perm (rulesOf acc) → sortedS (ss.map (·.1)) = true → SchAt K C U CR CS H' p' t r ss → Q (.ref p') H')
section
variable {P : Program} {w : World} {K : PySem.W.Frag} {mg : Str → Option Value} {base : Heap}
variable {aG dU C CR CS eG eS : Addr} {es : Es} {U : Bool → Addr} {us : Bool → List Addr}
theorem h_from_lines (T : TxR K mg aG dU C CR CS eG eS es) (D : Dcm K CS "from_lines" "Scheme.from_lines" s_Scheme_from_lines) (hread_line : Has P w K mg base CX0 "read_line" 5 ["text"] (spRead K)) (his_letter : Has P w K mg base CX0 "is_letter" 1 ["value"] (spLet K)) (hGrid : HasC P w K mg base "Grid" C 1 ["self", "name"] (spInit C U)) (hScheme : HasGX P w K mg base (L2.CX P w) "Scheme" CS 9 ["self", "grid", "axiom", "rules"] (spSInit K C U CR CS eS)) :
    HasCMv P w K mg base (L2.CX P w) CS "from_lines" 12 (StarP ["cls"] (spFromIn K C U CR CS eS es)) := by
  refine D.hasV (ps := ["cls"]) (pv := "lines") sc_Scheme_from_lines (fun kV doc pm an cdv ct us rest hl => ?_) (fun f cdv A outer s H vs Q E gd hr h => ?_)
  · refine StX.bind_star1 (B := fun xs => bindArgs (PySem.W.fnOf "from_lines" "Scheme.from_lines" (defArgs s_Scheme_from_lines) (defBody s_Scheme_from_lines) (defScope s_Scheme_from_lines) .none kV doc pm an cdv ct) ⟨xs, []⟩) (fun a => rfl) (fun a r rs => rfl) us rest hl
  · obtain ⟨p, items, os, rfl, hp, rd, few, bad, none_, good⟩ := h
    have hu := hr.units
    refine ⟨_, (pss_cons
 (ps_set (i := 2) sc_Scheme_from_lines.nd rfl (Or.inr rfl) pe_dnewK)
 (pss_cons
 (ps_for (passes_of rfl) rfl (pi_enumT (by rfl) T.zenumerate (pa_cons (pv 1) pa_nil)) (pg_tup (by rfl) (pgs_cons (pg_name (i := 3) sc_Scheme_from_lines.nd rfl (Or.inl rfl)) (pgs_cons (pg_name (i := 4) sc_Scheme_from_lines.nd rfl (Or.inl rfl)) pgs_nil))) (pss_cons
 (ps_set (i := 5) sc_Scheme_from_lines.nd rfl (Or.inl rfl) (pe_callH hread_line gd (hr.mono (by decide)) pass0 (pa_cons (pv 4) pa_nil)))
 (pss_cons
 (ps_if (PW.pt (pw_or (pt_cmpR op_isN (pv 5) pe_non (nomark _)) (pw_or1 (pt_cmp (pc_din (Nat.lt_of_le_of_lt (Nat.add_le_add_left (by decide) _) hu) (pe_ix ix_tup (pv 5) pe_int (fun _ _ => rfl)) (pv 2)))))) (pss_one
 (ps_raise rfl (takes_of rfl rfl rfl rfl) (pmk_err T.eParseError hr (pa_cons (pv 3) pa_nil)))) pss_nil)
 (pss_one
 (ps_asg (pe_ix ix_tup (pv 5) pe_int (fun _ _ => rfl)) (pg_sub (pv 2) (pe_ix ix_tup (pv 5) pe_int (fun _ _ => rfl)) (set_dict (Nat.lt_of_le_of_lt (Nat.add_le_add_left (by decide) _) hu))))))))
 (pss_cons
 (ps_if (PW.pt (pw_or (pt_cmp (pc_dnotin (Nat.lt_of_le_of_lt (Nat.add_le_add_left (by decide) _) hu) pe_str (pv 2))) (pw_or1 (pt_cmp (pc_dnotin (Nat.lt_of_le_of_lt (Nat.add_le_add_left (by decide) _) hu) pe_str (pv 2)))))) (pss_one
 (ps_raise rfl (takes_of rfl rfl rfl rfl) (pmk_own PySem.F.excBase_ValueError T.mInvalidScheme.q T.mInvalidScheme.g T.mInvalidScheme.k (raises_own T.mInvalidScheme.b T.mInvalidScheme.t) rfl))) pss_nil)
 (pss_cons
 (ps_lock (ps_setDc (i := 6) (own := [("key", 7)]) (g := gName 7) (tt := _) (by rfl) sc_Scheme_from_lines.nd rfl rfl (sw_trueD rfl rfl rfl (by decide +kernel)) (pi_keys (pv 2)) (blkOk_by (own := [("key", 7)]) (N := N_Scheme_from_lines) (sc := defScope s_Scheme_from_lines) (by decide +kernel)) (fun _ _ _ _ _ => pg_name (i := 7) sc_Scheme_from_lines.nd rfl (Or.inl rfl)) (fun _ _ _ _ _ => pts_one (pt_val (pe_callH his_letter gd (hr.mono (by decide)) pass0 (pa_cons (pv 7) pa_nil)))) (fun _ _ _ _ _ => (pv 7)) (fun _ _ _ _ _ => (pe_dget (Nat.lt_of_le_of_lt (Nat.add_le_add_left (by decide) _) hu) (pv 2) (pv 7) (fun _ _ => rfl)))))
 (pss_one
 (ps_ret (pe_makeVX (i := 0) hScheme gd (hr.mono (by decide)) (passes_call (takes_of rfl rfl rfl rfl) (fun _ _ _ _ e => e)) (pa_cons (pe_makeH hGrid (hr.mono (by decide)) pass0 (pa_cons (pe_dget (Nat.lt_of_le_of_lt (Nat.add_le_add_left (by decide) _) hu) (pv 2) pe_str (fun _ _ => rfl)) pa_nil)) (pa_cons (pe_dget (Nat.lt_of_le_of_lt (Nat.add_le_add_left (by decide) _) hu) (pv 2) pe_str (fun _ _ => rfl)) (pa_cons (pv 6) pa_nil)))))))))), ?_⟩
    dsimp only [cxOf]
    refine fun D0 nD => ?_
    have sD := Same.new (o := .dK []) nD
    have nDp : D0 ≠ p := (ne_of_none hp nD).symm
    refine ⟨_, rfl, p, items, rfl, SqT.of (sD _ _ hp), for_enumT (a := p) (xs := items) (fun i σ' H' => ∃ u3 u4 u5 kvs acc, σ' = [some (.ref CS), some (.ref p), some (.ref D0), u3, u4, u5, none, none] ∧ Same H H' ∧ H' D0 = some (.dK kvs) ∧ PartsAt K H' kvs acc ∧ scanL os [] 0 = scanL (os.drop i) acc i ∧ (acc.map (·.1)).Nodup ∧ acc.length ≤ i ∧ ∀ kp ∈ acc, PartOk kp)
      ⟨none, none, none, [], [], rfl, sD, upd_same, .nil, rfl, .nil, Nat.le_refl _, fun _ h => by (cases h)⟩ (fun i σ' H' _ h => let ⟨_, _, _, _, _, _, s', _⟩ := h; SqT.of (s' _ _ hp)) ?_ ?_⟩
    · rintro i x _ H1 T1 hx ⟨u3, u4, u5, kvs, acc, rfl, s1, eD, pa, sc, nd, la, oka⟩ nT
      obtain ⟨o, ho, hrd⟩ := rd_at rd hx
      have li := (List.getElem?_eq_some_iff.mp hx).1
      have ed : os.drop i = o :: os.drop (i + 1) := by
        obtain ⟨h1, h2⟩ := List.getElem?_eq_some_iff.mp ho
        rw [← h2, List.drop_eq_getElem_cons h1]
      rw [ed] at sc
      have s2 := Same.new (o := .tup [.int (i : Nat), x]) nT
      refine ⟨T1, _, rfl, SqT.of upd_same, rfl, _, _, rfl, _, _, rfl, rfl, ?_⟩
      generalize upd H1 T1 (.tup [.int (i : Nat), x]) = H2 at *
      refine ⟨_, rfl, x, o, rfl, hrd.same (s1.trans s2), fun no H3 s3 => ?_, fun k pt e z H3 s3 dz => ?_⟩
      · have isb : scanL os [] 0 = .inl i := by rw [sc]; unfold scanL; rw [no]
        refine ⟨_, rfl, rfl, _, rfl, iteT (iteT ⟨_, rfl, _, rfl, fun d nd' => bad i isb d _ (((s1.trans s2).trans s3).trans (Same.new nd')) upd_same⟩)⟩
      · obtain ⟨b, zs, rfl, hb, dzs⟩ := dTup dz
        cases dzs with
        | cons d0 r0 =>
        cases r0 with
        | cons d1 r1 =>
        cases r1
        cases d0
        rename_i z1
        have s13 := s2.trans s3
        have eD3 := s13 _ _ eD
        have pa3 := pa.tk (TK.of s13)
        refine ⟨_, rfl, rfl, _, rfl, iteF ?_⟩
        by_cases m : k ∈ acc.map (·.1)
        · have isb : scanL os [] 0 = .inl i := by rw [sc]; unfold scanL; rw [e]; exact if_pos m
          obtain ⟨v, p', ev, _, _⟩ := parts_some pa3 m
          have get : DGet H3 D0 (.str k) (valV kvs (.inr k)) := DGet.k (k := (.inr k : Key)) eD3
          rw [ev] at get
          refine ⟨_, rfl, _, _, _, _, rfl, rfl, hb, atI_nat (j := 0) rfl, _, rfl, _, _, rfl, get, _, rfl, iteT ⟨_, rfl, _, rfl, fun d nd' => bad i isb d _ (((s1.trans s2).trans s3).trans (Same.new nd')) upd_same⟩⟩
        · have get : DGet H3 D0 (.str k) (valV kvs (.inr k)) := DGet.k (k := (.inr k : Key)) eD3
          have ev := parts_none pa3 m
          rw [ev] at get
          have lk : kvs.length = acc.length := Paired.length pa
          have li2 : items.length ≤ 100 := few
          refine ⟨_, rfl, _, _, _, _, rfl, rfl, hb, atI_nat (j := 0) rfl, _, rfl, _, _, rfl, get, _, rfl, iteF ?_⟩
          refine ⟨_, rfl, _, _, _, _, rfl, rfl, hb, atI_nat (j := 1) rfl, _, rfl, _, rfl, _, _, _, _, rfl, rfl, hb, atI_nat (j := 0) rfl, D0, _, rfl, DPut.k (k := .inr k) eD3 (by rw [sizeLine_eq]; omega), ?_⟩
          refine ⟨_, _, _, kvs ++ [(.inr k, z1)], acc ++ [(k, pt)], rfl, Same.over ((s1.trans s2).trans s3) nD _, by rw [upd_same, putK_new _ ev], ?_, ?_, ?_, ?_, ?_⟩
          · exact parts_snoc (kp := (k, pt)) (pa3.tk (TK.put eD3 rfl)) (part_tk d1 (TK.put eD3 rfl))
          · rw [sc]
            conv => lhs; unfold scanL
            rw [e]
            exact if_neg m
          · rw [List.map_append]
            exact List.nodup_append.mpr ⟨nd, by simp, fun a ha b hb => by rw [List.mem_singleton.mp hb]; exact fun q => m (by rw [q] at ha; exact ha)⟩
          · rw [List.length_append]; exact Nat.succ_le_succ la
          · intro kp hk
            rcases List.mem_append.mp hk with hk | hk
            · exact oka kp hk
            · rw [List.mem_singleton.mp hk]
              unfold readO at e
              cases o with
              | none => cases e
              | some y => exact readT_ok e
    · rintro _ H1 ⟨u3, u4, u5, kvs, acc, rfl, s1, eD, pa, sc, nd, la, oka⟩
      have esc : scanL os [] 0 = .inr acc := by
        rw [sc, List.drop_eq_nil_of_le (Nat.le_of_eq (Paired.length rd).symm)]
        rfl
      clear sc
      have gets : ∀ y : Str, DGet H1 D0 (.str y) (valV kvs (.inr y)) := fun y => DGet.k (k := (.inr y : Key)) eD
      refine ⟨_, rfl, D0, _, rfl, gets "grid", _, rfl, ?_⟩
      by_cases m1 : ("grid" : Str) ∈ acc.map (·.1)
      case neg =>
        rw [parts_none pa m1]
        exact iteT (iteT (none_ acc esc (fun t r h _ => absurd (List.mem_map.mpr ⟨_, h, rfl⟩) m1) _ s1))
      obtain ⟨gv, gp, eg, mg1, dg⟩ := parts_some pa m1
      rw [eg]
      refine iteF ⟨_, rfl, D0, _, rfl, gets "axiom", _, rfl, ?_⟩
      by_cases m2 : ("axiom" : Str) ∈ acc.map (·.1)
      case neg =>
        rw [parts_none pa m2]
        exact iteT (none_ acc esc (fun t r _ h => absurd (List.mem_map.mpr ⟨_, h, rfl⟩) m2) _ s1)
      obtain ⟨av, ap, ea, ma1, da⟩ := parts_some pa m2
      rw [ea]
      refine iteF ?_
      obtain ⟨t, rfl⟩ : ∃ t, gp = .inl t := by
        rcases oka _ mg1 with ⟨_, h⟩ | ⟨h, _⟩ | ⟨h, _⟩
        · exact h
        · exact absurd h (show ¬ (("grid" : Str) = "axiom") by decide +kernel)
        · exact absurd rfl (readT_let h).1
      obtain ⟨r, rfl, hrs⟩ : ∃ r, ap = .inr r ∧ RowS true r := by
        rcases oka _ ma1 with ⟨h, _⟩ | ⟨_, h⟩ | ⟨h, _⟩
        · exact absurd h (show ¬ (("axiom" : Str) = "grid") by decide +kernel)
        · exact h
        · exact absurd rfl (readT_let h).2
      cases dg
      have lk : kvs.length = acc.length := Paired.length pa
      have li2 : items.length ≤ 100 := few
      have ndk : (kvs.map (·.1)).Nodup := by rw [parts_keys pa]; exact List.pairwise_map.mpr ((List.pairwise_map.mp nd).imp fun h e => h (Sum.inr.inj e))
      refine ⟨D0, _, eD, trivial, fun od => ?_⟩
      have fB : upd H1 D0 (.frz od (.dK kvs)) D0 = some (.frz od (.dK kvs)) := upd_same
      have pa5 : PartsAt K (upd H1 D0 (.frz od (.dK kvs))) kvs acc := pa.tk (TK.put eD rfl)
      generalize e5 : upd H1 D0 (.frz od (.dK kvs)) = H5 at fB pa5
      refine ⟨_, rfl, D0, od, rfl, .inl ⟨kvs, fB, fun N nN => loop_keys (p := D0) (od := od) (kvs := kvs) (fun i H' => ∃ kv', Same H5 H' ∧ H' N = some (.dK kv') ∧ RsP K H' kv' (rulesOf (acc.take i)) ∧ kv'.length ≤ i) ⟨[], Same.new nN, upd_same, .nil, Nat.le_refl _⟩ (fun i H' _ h => let ⟨_, h, _⟩ := h; h _ _ fB) ?_ ?_⟩⟩
      · rintro i k v H' e ⟨kv', s', eN, rsp, lkv⟩
        obtain ⟨kp, ekp, rfl, dv⟩ := parts_at pa5 e
        have li3 := (List.getElem?_eq_some_iff.mp e).1
        have mk := List.mem_of_getElem? ekp
        have et : acc.take (i + 1) = acc.take i ++ [kp] := by rw [List.take_add_one, ekp]; rfl
        refine ⟨rfl, _, rfl, _, .str kp.1, rfl, .str _, ?_, _, rfl, ?_⟩
        · intro y e
          cases e
          rcases oka _ mk with ⟨h, _⟩ | ⟨h, _⟩ | ⟨h, _⟩
          · rw [h]; exact show (Str.ofString "grid").length ≤ 1000 by decide +kernel
          · rw [h]; exact show (Str.ofString "axiom").length ≤ 1000 by decide +kernel
          · rw [let_len h]; decide
        · show (if LetS kp.1 = true then _ else _)
          refine ite2 (fun l => ?_) (fun l => ?_)
          · obtain ⟨r', er, _⟩ : ∃ r, kp.2 = .inr r ∧ RowS true r := by
              rcases oka _ mk with ⟨h, _⟩ | ⟨h, _⟩ | ⟨_, h⟩
              · exact absurd h (readT_let l).1
              · exact absurd h (readT_let l).2
              · exact h
            have get : DGet H' D0 (.str kp.1) (valV kvs (.inr kp.1)) := .inl ⟨kvs, .inr kp.1, .inr ⟨od, s' _ _ fB⟩, rfl, rfl⟩
            rw [valV_at ndk e] at get
            have er2 : rulesOf [kp] = [(kp.1, r')] := by
              obtain ⟨y, p⟩ := kp
              cases er
              unfold rulesOf
              rw [List.filterMap_cons]
              dsimp only
              rw [if_pos l]
              rfl
            have nn : kp.1 ∉ (rulesOf (acc.take i)).map (·.1) := fun h => by
              have h := rules_sub.subset h
              have nd2 := nd.sublist ((List.take_sublist (i + 1) acc).map (·.1))
              rw [et, List.map_append, List.nodup_append] at nd2
              exact nd2.2.2 _ h _ (List.mem_singleton.mpr rfl) rfl
            rw [er] at dv
            refine ⟨_, rfl, _, rfl, _, rfl, D0, v, rfl, get, kv', .inr kp.1, rfl, eN, by rw [sizeLine_eq]; omega, kv' ++ [(.inr kp.1, v)], Same.over s' nN _, by rw [upd_same, putK_new _ (rsP_none rsp nn)], ?_, by rw [List.length_append]; exact Nat.succ_le_succ lkv⟩
            rw [et, rulesOf_snoc, er2]
            exact rsP_snoc (yr := (kp.1, r')) (rsp.tk (TK.put eN rfl)) (row_tk dv ((TK.of s').trans (TK.put eN rfl)))
          · have er2 : rulesOf [kp] = [] := by
              obtain ⟨y, p⟩ := kp
              cases p with
              | inl t => rfl
              | inr r =>
                unfold rulesOf
                rw [List.filterMap_cons]
                dsimp only
                rw [if_neg l]
                rfl
            refine ⟨kv', s', eN, ?_, Nat.le_succ_of_le lkv⟩
            rw [et, rulesOf_snoc, er2, List.append_nil]
            exact rsp
      rintro H' ⟨kv', s', eN, rsp, lkv⟩
      rw [lk, List.take_length] at rsp
      have nNH : H5 N = none := nN
      have nND : N ≠ D0 := fun z => by rw [z, fB] at nN; cases nN
      have s6 : Same H1 (upd H' D0 (.dK kvs)) := lock_out eD (by rw [e5]; exact s')
      have eD6 : upd H' D0 (.dK kvs) D0 = some (.dK kvs) := upd_same
      have eN6 : upd H' D0 (.dK kvs) N = some (.dK kv') := (upd_ne nND).trans eN
      have rsp6 : RsP K (upd H' D0 (.dK kvs)) kv' (rulesOf acc) := rsp.tk (TK.put (s' _ _ fB) rfl)
      have da6 := row_tk da (TK.of s6)
      refine ⟨s' _ _ fB, ?_⟩
      generalize upd H' D0 (.dK kvs) = H6 at *
      have ndr : ((rulesOf acc).map (·.1)).Nodup := nd.sublist rules_sub
      have mild : ∀ yr ∈ rulesOf acc, MildD (rowD yr.2) ∧ yr.1.length ≤ 1000 := fun yr hy => ⟨row_mild (rules_row oka hy), by have := let_len (rules_mem hy).2; omega⟩
      have rl : (rulesOf acc).length = kv'.length := (Paired.length rsp6).symm
      have ruv : RuV K H6 (.ref N) (some (entsOf (rulesOf acc))) := ⟨N, kv', rfl, eN6, rsP_ents (rsp6.tk (TK.dk (DK.wo eN6 rfl))) mild, by unfold entsOf; rw [List.length_map]; omega, by
        unfold entsOf
        rw [List.map_map]
        exact rkeys_nd ndr⟩
      have g1 : ∀ {H2}, Same H6 H2 → ∀ y : Str, DGet H2 D0 (.str y) (valV kvs (.inr y)) := fun s y => DGet.k (k := (.inr y : Key)) (s _ _ eD6)
      refine ⟨rfl, _, rfl, D0, _, rfl, by have z := g1 (Same.refl _) "grid"; rw [eg] at z; exact z, nil_intro ?_⟩
      refine go_grid fun g H2 s2 gr => ⟨_, rfl, D0, _, rfl, by have z := g1 s2 "axiom"; rw [ea] at z; exact z, _, rfl, nil_intro ?_⟩
      refine go_scheme gr (dp_same s2 da6) (row_mild hrs) (ruv.same s2) (fun no H3 s3 => none_ acc esc (fun t' r' h1 h2 ok => ?_) H3 ((s1.trans s6).trans (s2.trans s3))) fun r' rs' e1 e2 ok ss p' H3 n3 s3 pm srt sch => ?_
      · obtain rfl := Sum.inl.inj (nd_uniq nd h1 mg1)
        obtain rfl := Sum.inr.inj (nd_uniq nd h2 ma1)
        exact no ⟨_, _, rfl, rfl, ok⟩
      · obtain rfl := rowD_inj e1
        obtain rfl := ents_inj (Option.some.inj e2)
        exact good acc t r esc mg1 ma1 ok ss p' H3 ((s1.trans s6).trans (s2.trans s3)) pm srt sch
end
end K13
namespace K13
open PySem PySem.Spec PyProof.Rows L2 GL SkE PySem.GLE LamX
noncomputable abbrev s__law_row_read : Stmt := topS 71
noncomputable abbrev N__law_row_read : List Str := ["_law_text", "_law_found", "_law_word"]
theorem sc__law_row_read : FnScope N__law_row_read ["_law_text"] (defScope s__law_row_read) := ⟨rfl, rfl, rfl, by decide +kernel, rfl, by decide +kernel, by decide +kernel⟩
noncomputable abbrev s__law_spoilt_text : Stmt := topS 72
noncomputable abbrev N__law_spoilt_text : List Str := ["_law_dice_here", "_law_text", "_law_signs", "_law_at", "_law_sign", "_law_way"]
theorem sc__law_spoilt_text : FnScope N__law_spoilt_text ["_law_dice_here", "_law_text", "_law_signs"] (defScope s__law_spoilt_text) := ⟨rfl, rfl, rfl, by decide +kernel, rfl, by decide +kernel, by decide +kernel⟩
noncomputable def rowS : Option Str → Option RowT
  | none => none
  | some a => rowIn a
noncomputable def spReadL (K : PySem.W.Frag) : Sp := fun vs H Q _ => ∃ x o, vs = [x] ∧ RdV K H x o ∧ (rowS o = none → ∀ H', Same H H' → Q .non H') ∧ ∀ r, rowS o = some r → ∀ y H', Same H H' → Dp K H' y (rowD r) → Q y H'
theorem int_turn : ∀ i < 6, PySem.intText? (⟨#[48 + i]⟩ : Str) = some ((i : Nat) : Int) := by decide +kernel
noncomputable def spSpoil : Sp := fun vs H Q _ => ∃ (p : Addr) (a : Str) (L : Addr) (ss : List Str), vs = [.ref p, .str a, .ref L] ∧ Die H p ∧ H L = some (.lst (ss.map V.str)) ∧ L ≠ p ∧ 0 < ss.length ∧ ss.length ≤ 1000 ∧ (∀ y ∈ ss, y.length ≤ 3) ∧ a.length ≤ 900 ∧ PyData.strOk a = true ∧ (∀ y ∈ ss, PyData.strOk y = true) ∧ ∀ b H', b.length ≤ 2 * a.length + 3 → PyData.strOk b = true → Got p H H' → Q (.str b) H'
theorem cut_ok {a : Str} (h : PyData.strOk a = true) (lo hi : Option Int) : PyData.strOk (cutS a lo hi) = true := by
  unfold PyData.strOk at h ⊢
  rw [Array.all_eq_true_iff_forall_mem] at h ⊢
  intro x hx
  refine h x ?_
  unfold cutS at hx
  exact Array.mem_toList_iff.mp (List.mem_of_mem_drop (List.mem_of_mem_take (List.mem_toArray.mp hx)))
section
variable {P : Program} {w : World} {K : PySem.W.Frag} {mg : Str → Option Value} {base : Heap}
variable {aG dU C CR CS eG eS : Addr} {U : Bool → Addr} {us : Bool → List Addr}
theorem h_law_row_read (T : TxM K mg aG dU C CR eG eS) (D : Df K mg "_law_row_read" s__law_row_read) : Has P w K mg base CX0 "_law_row_read" 1 ["_law_text"] (spReadL K) := by
  refine D.has sc__law_row_read (fun vs H Q E h => ?_) (fun kV doc pm an cdv ct us hl => match us, hl with | [_], _ => rfl) (fun f cdv A outer s H vs Q E gd hr h => ?_)
  · obtain ⟨x, o, rfl, _⟩ := h
    rfl
  · obtain ⟨x, o, rfl, hx, k0, k1⟩ := h
    refine ⟨_, (pss_cons
 (ps_if (pt_not (pt_val (pe_callB call_isi (by exact rfl) T.zisinstance (by decide +kernel) (pa_cons (pv 0) (pa_cons (pe_bltn (v := .ty "str") (by exact rfl) T.zstr (by decide +kernel) rfl) pa_nil))))) (pss_one
 (ps_ret pe_non)) pss_nil)
 (pss_cons
 (ps_set (i := 1) sc__law_row_read.nd rfl (Or.inl rfl) (pe_lst pa_nil))
 (pss_cons
 (ps_for PassesOwn.never rfl (pi_list (pe_bm PySem.F.plainAttrs_str PySem.F.slot_str_split PySem.F.type_str_split mt_split (pv 0) (pa_cons pe_str pa_nil))) (pg_name (i := 2) sc__law_row_read.nd rfl (Or.inl rfl)) (pss_cons
 (ps_if (PW.pt (pw_or (pt_cmpR op_ne (pe_callB call_len_str (by exact rfl) T.zlen PySem.boot_len (pa_cons (pv 2) pa_nil)) pe_int (nomark _)) (pw_or (pt_cmpR op_notIn_sign (pe_ix ix_str (pv 2) pe_int (fun _ _ => rfl)) pe_str (by rfl)) (pw_or1 (pt_cmpR op_notIn_sign (pe_ix ix_str (pv 2) pe_int (fun _ _ => rfl)) pe_str (by rfl)))))) (pss_one
 (ps_ret pe_non)) pss_nil)
 (pss_one
 (ps_expr (pe_bm PySem.F.plainAttrs_list PySem.F.slot_list_append PySem.F.type_list_append mt_append (pv 1) (pa_cons (pe_tup (pa_cons (pe_ix ix_str (pv 2) pe_int (fun _ _ => rfl)) (pa_cons (pe_callTy call_int_str (by exact rfl) T.zint (by decide +kernel) (pa_cons (pe_ix ix_str (pv 2) pe_int (fun _ _ => rfl)) pa_nil)) pa_nil))) pa_nil))))))
 (pss_one
 (ps_ret (pe_ifExp (pt_cmpR op_le (pe_callB call_len_seq (by exact rfl) T.zlen PySem.boot_len (pa_cons (pv 1) pa_nil)) pe_int (nomark _)) (pe_callTy call_tuple_of (by exact rfl) T.ztuple (by decide +kernel) (pa_cons (pv 1) pa_nil)) pe_non)))))), ?_⟩
    dsimp only [cxOf, Cx.nox]
    obtain ⟨tx, ty, kt⟩ := hx.kit
    refine ⟨_, rfl, _, _, _, _, _, rfl, .ty _, ty, GL.kit_str tx, _, rfl, ?_⟩
    rw [kt]
    cases o with
    | none => exact if_nf (k0 rfl H same_rfl)
    | some a =>
      obtain ⟨rfl, few⟩ := hx
      obtain ⟨many, small⟩ := split_small a
      have eR : rowS (some a) = rowIn a := rfl
      rw [eR] at k0 k1
      refine iteF ⟨by show 0 ≤ sizeLine; decide, fun L nL => ?_⟩
      have A0 : Grow K H L [] (upd H L (.lst [])) := Grow.start nL
      refine ⟨_, rfl, rfl, a, " ", rfl, rfl, by decide +kernel, by rw [sizeLine_eq]; omega, fun p np => ?_⟩
      have A1 := A0.ext (Same.new (o := .lst ((Txt.split a " ").map V.str)) np)
      have ep : upd (upd H L (.lst [])) p (.lst ((Txt.split a " ").map V.str)) p = some (.lst ((Txt.split a " ").map V.str)) := upd_same
      have npL : p ≠ L := fun z => by rw [z, upd_same] at np; cases np
      generalize upd (upd H L (.lst [])) p (.lst ((Txt.split a " ").map V.str)) = H1 at *
      generalize ews : Txt.split a " " = ws at *
      refine ⟨p, rfl, ⟨_, SqL.of ep⟩, for_list (a := p) (xs := ws.map V.str) (fun i' σ' H' => ∃ v2, σ' = [some (.str a), some (.ref L), v2] ∧ Grow K H L ((ws.take i').map fun y => itemD (wordIt y)) H' ∧ H' p = some (.lst (ws.map V.str)) ∧ ∀ y ∈ ws.take i', wordOk y = true)
        ⟨none, rfl, A1, ep, fun y h => by simp at h⟩ (fun i' σ' H' _ ⟨_, _, _, e, _⟩ => SqL.of e) ?_ ?_⟩
      · rintro i' x _ H' hx' ⟨v2, rfl, A, e', oks⟩
        obtain ⟨y, hy, rfl⟩ : ∃ y, ws[i']? = some y ∧ x = .str y := by
          rw [List.getElem?_map] at hx'
          cases e : ws[i']? with
          | none => rw [e] at hx'; cases hx'
          | some y => rw [e] at hx'; cases hx'; exact ⟨y, rfl, rfl⟩
        have my := List.mem_of_getElem? hy
        have sy := small y my
        have bad : wordOk y = false → rowIn a = none := fun e => by
          unfold rowIn
          rw [ews, if_neg (fun z => by rw [List.all_eq_true.mp z.2 y my] at e; cases e)]
        refine ⟨_, rfl, y, rfl, Nat.le_trans sy (by rw [sizeLine_eq]; omega), rfl, _, rfl, ?_⟩
        by_cases h2 : y.length = 2
        · obtain ⟨c, d, rfl⟩ := two_cps h2
          have ew : wordOk (⟨#[c, d]⟩ : Str) = ((decide (97 ≤ c) && decide (c ≤ 122)) && (decide (48 ≤ d) && decide (d ≤ 53))) := rfl
          rw [ew] at bad
          refine if_ne rfl ?_
          refine ⟨_, rfl, _, _, _, rfl, rfl, by show 2 ≤ sizeLine; decide, atI_nat (j := 0) rfl, c, _, rfl, rfl, _, rfl, ?_⟩
          rw [letters_mem]
          cases b1 : (decide (97 ≤ c) && decide (c ≤ 122)) with
          | false => exact iteT (iteT (k0 (bad (by rw [b1]; rfl)) _ A.same))
          | true =>
            refine iteF ?_
            refine ⟨_, rfl, _, _, _, rfl, rfl, by show 2 ≤ sizeLine; decide, atI_nat (j := 1) rfl, d, _, rfl, rfl, _, rfl, ?_⟩
            rw [turns_mem]
            cases b2 : (decide (48 ≤ d) && decide (d ≤ 53)) with
            | false => exact iteT (k0 (bad (by rw [b1, b2]; rfl)) _ A.same)
            | true =>
              refine iteF ?_
              rw [Bool.and_eq_true, decide_eq_true_eq, decide_eq_true_eq] at b2
              obtain ⟨ys, eD, lD⟩ := A.ex
              have it := int_turn (d - 48) (by omega)
              rw [show 48 + (d - 48) = d by omega] at it
              refine ⟨_, rfl, .inl ⟨rfl, _, SqL.of eD⟩, ?_⟩
              refine ⟨_, rfl, _, _, _, rfl, rfl, by show 2 ≤ sizeLine; decide, atI_nat (j := 0) rfl, _, rfl, _, _, _, rfl, rfl, by show 2 ≤ sizeLine; decide, atI_nat (j := 1) rfl, _, _, rfl, it, by show 1 ≤ 640; decide, by show 2 ≤ sizeLine; decide, fun q nq => ?_⟩
              have A2 := A.ext (Same.new (o := .tup [.str ⟨#[c]⟩, .int ((d - 48 : Nat) : Int)]) nq)
              have eD2 := Same.new (o := .tup [.str ⟨#[c]⟩, .int ((d - 48 : Nat) : Int)]) nq _ _ eD
              refine ⟨L, _, _, rfl, rfl, eD2, ?_, _, rfl, ?_, ?_, ?_⟩
              · rw [A.len eD, List.length_map, List.length_take, sizeLine_eq]
                omega
              · rw [List.take_add_one, hy]
                show Grow K H L ((ws.take i' ++ [_]).map _) _
                rw [List.map_append]
                exact A2.push eD2 (itemDp (it := (⟨#[c]⟩, ((d - 48 : Nat) : Int))) (SqT.of (wo_at upd_same (fun z => by rw [z, eD] at nq; cases nq))))
              · rw [upd_ne npL]
                exact Same.new nq _ _ e'
              · intro z hz
                rw [List.take_add_one, hy] at hz
                rcases List.mem_append.mp hz with m | m
                · exact oks z m
                · have m : z = ⟨#[c, d]⟩ := by simpa using m
                  rw [m, ew, b1, decide_eq_true b2.1, decide_eq_true b2.2]
                  rfl
        · rw [show (!decide (V.int ((y.length : Nat) : Int) = V.int 2)) = true by rw [decide_eq_false (fun z => h2 (by injection z with z; omega))]; rfl]
          exact iteT (iteT (k0 (bad (not_two h2)) _ A.same))
      · rintro _ H2 ⟨v2, rfl, A, e', oks⟩
        rw [List.length_map, List.take_length] at A oks
        obtain ⟨zs, eD, lD⟩ := A.ex
        have lz : zs.length = ws.length := by rw [A.len eD, List.length_map]
        refine ⟨_, rfl, L, _, rfl, .inl (SqL.of eD), _, _, rfl, rfl, _, rfl, ?_⟩
        by_cases c12 : ws.length ≤ 12
        · rw [decide_eq_true (show (zs.length : Int) ≤ 12 by omega)]
          have er : rowIn a = some (ws.map wordIt) := by unfold rowIn; rw [ews, if_pos ⟨c12, List.all_eq_true.mpr oks⟩]
          refine iteT ⟨_, rfl, L, zs, rfl, .inl ⟨SqL.of eD, fun q nq => k1 _ er _ _ (A.same.trans (Same.new nq)) ?_⟩⟩
          refine .tup (SqT.of upd_same) ?_
          rw [List.map_map]
          exact dps_same ((wo_same).trans (Same.new nq)) lD
        · rw [decide_eq_false (show ¬ (zs.length : Int) ≤ 12 by omega)]
          exact iteF (k0 (by unfold rowIn; rw [ews, if_neg (fun z => c12 z.1)]) _ A.same)
theorem h_law_spoilt_text (T : TxM K mg aG dU C CR eG eS) (D : Df K mg "_law_spoilt_text" s__law_spoilt_text) (h_law_roll : Has P w K mg base CX0 "_law_roll" 1 ["_law_dice_here", "_law_total"] spRoll) (h_law_pick : Has P w K mg base CX0 "_law_pick" 2 ["_law_dice_here", "_law_items"] spPick) : Has P w K mg base CX0 "_law_spoilt_text" 3 ["_law_dice_here", "_law_text", "_law_signs"] (spSpoil) := by
  refine D.has sc__law_spoilt_text (fun vs H Q E h => ?_) (fun kV doc pm an cdv ct us hl => match us, hl with | [_, _, _], _ => rfl) (fun f cdv A outer s H vs Q E gd hr h => ?_)
  · obtain ⟨p, a, L, ss, rfl, _⟩ := h
    rfl
  · obtain ⟨p, a, L, ss, rfl, die, hL, ne, s0, s1, short, few, oka, oks, k⟩ := h
    refine ⟨_, (pss_cons
 (ps_par (i := 3) (j := 4) (by rfl) sc__law_spoilt_text.nd rfl rfl (by decide) rfl rfl (pa_cons (pe_callH h_law_roll gd (hr.mono (by decide)) pass0 (pa_cons (pv 0) (pa_cons (pe_op op_add (pe_callB call_len_str (by exact rfl) T.zlen PySem.boot_len (pa_cons (pv 1) pa_nil)) pe_int) pa_nil))) (pa_cons (pe_callH h_law_pick gd (hr.mono (by decide)) pass0 (pa_cons (pv 0) (pa_cons (pv 2) pa_nil))) pa_nil)) (by rfl))
 (pss_cons
 (ps_set (i := 5) sc__law_spoilt_text.nd rfl (Or.inl rfl) (pe_callH h_law_roll gd (hr.mono (by decide)) pass0 (pa_cons (pv 0) (pa_cons pe_int pa_nil))))
 (pss_cons
 (ps_if (pt_cmpR op_eq (pv 5) pe_int (nomark _)) (pss_one
 (ps_ret (pe_op op_add_str (pe_op op_add_str (pe_slice sl_str (pv 1) po_none (po_some (pv 3))) (pv 4)) (pe_slice sl_str (pv 1) (po_some (pv 3)) po_none)))) pss_nil)
 (pss_cons
 (ps_if (pt_cmpR op_eq (pv 5) pe_int (nomark _)) (pss_one
 (ps_ret (pe_op op_add_str (pe_slice sl_str (pv 1) po_none (po_some (pv 3))) (pe_slice sl_str (pv 1) (po_some (pe_op op_add (pv 3) pe_int)) po_none)))) pss_nil)
 (pss_one
 (ps_ret (pe_op op_add_str (pe_op op_add_str (pe_slice sl_str (pv 1) po_none (po_some (pv 3))) (pv 4)) (pe_slice sl_str (pv 1) (po_some (pe_op op_add (pv 3) pe_int)) po_none)))))))), ?_⟩
    have big : (2 : Nat) ^ 10 ≤ 2 ^ 2000 := Nat.pow_le_pow_right (by decide) (by decide)
    have sl : 2000 ≤ sizeLine := by rw [sizeLine_eq]; decide
    refine ⟨_, rfl, _, rfl, a, rfl, by omega, _, _, rfl, rfl, p, _, rfl, die, by omega, Nat.lt_of_lt_of_le (show _ < 2 ^ 10 by omega) big, fun n H1 n0 n1 g1 => ?_⟩
    refine ⟨_, rfl, _, rfl, p, L, _, rfl, g1.die, .inl (g1.keep _ _ hL ne), ne, by rw [List.length_map]; exact s0, by rw [List.length_map]; exact s1, fun v H2 hv g2 => ?_⟩
    obtain ⟨y, hy, rfl⟩ := List.mem_map.mp hv
    have ly := short y hy
    have oy := oks y hy
    refine ⟨_, _, rfl, ?_⟩
    refine ⟨_, rfl, p, _, rfl, g2.die, by decide, Nat.lt_of_lt_of_le (show _ < 2 ^ 10 by decide) big, fun w H3 w0 w1 g3 => ?_⟩
    have g := (g1.trans g2).trans g3
    have cl : ∀ lo hi, (cutS a lo hi).length ≤ a.length := fun lo hi => cutS_length a lo hi
    refine ⟨_, rfl, rfl, _, rfl, ?_⟩
    refine ite2 (fun c1 => ?_) (fun c1 => ?_)
    · have z1 := cl none (some n)
      have z2 := cl (some n) none
      refine ⟨_, rfl, _, rfl, _, rfl, a, rfl, by omega, _, rfl, _, _, rfl, rfl, by omega, _, rfl, _, rfl, _, rfl, a, rfl, by omega, _, _, rfl, rfl, by rw [Str.length_append]; omega, ?_⟩
      exact k _ _ (by rw [Str.length_append, Str.length_append]; omega) (app_ok (app_ok (cut_ok oka _ _) oy) (cut_ok oka _ _)) g
    refine ⟨_, rfl, rfl, _, rfl, ?_⟩
    refine ite2 (fun c2 => ?_) (fun c2 => ?_)
    · have z1 := cl none (some n)
      have z2 := cl (some (n + 1)) none
      refine ⟨_, rfl, _, rfl, _, rfl, a, rfl, by omega, _, rfl, _, rfl, _, _, rfl, rfl, _, rfl, a, rfl, by omega, _, _, rfl, rfl, by omega, ?_⟩
      exact k _ _ (by rw [Str.length_append]; omega) (app_ok (cut_ok oka _ _) (cut_ok oka _ _)) g
    · have z1 := cl none (some n)
      have z2 := cl (some (n + 1)) none
      refine ⟨_, rfl, _, rfl, _, rfl, a, rfl, by omega, _, rfl, _, _, rfl, rfl, by omega, _, rfl, _, rfl, _, _, rfl, rfl, _, rfl, a, rfl, by omega, _, _, rfl, rfl, by rw [Str.length_append]; omega, ?_⟩
      exact k _ _ (by rw [Str.length_append, Str.length_append]; omega) (app_ok (app_ok (cut_ok oka _ _) oy) (cut_ok oka _ _)) g
end
end K13
namespace K13
open PySem PySem.Spec PyProof.Rows L2 GL SkE PySem.GLE LamX
noncomputable abbrev s__law_line_read : Stmt := topS 75
noncomputable abbrev N__law_line_read : List Str := ["_law_value", "_law_words", "_law_row_here"]
theorem sc__law_line_read : FnScope N__law_line_read ["_law_value"] (defScope s__law_line_read) := ⟨rfl, rfl, rfl, by decide +kernel, rfl, by decide +kernel, by decide +kernel⟩
theorem first32 : ∀ (l : List Nat), 32 ∉ l ∨ ∃ p r, l = p ++ 32 :: r ∧ 32 ∉ p
  | [] => .inl (by simp)
  | c :: l => by
    by_cases e : c = 32
    · subst e
      exact .inr ⟨[], l, rfl, by simp⟩
    · rcases first32 l with h | ⟨p, r, h, n⟩
      · exact .inl (fun m => by rcases List.mem_cons.mp m with z | z; exact e z.symm; exact h z)
      · exact .inr ⟨c :: p, r, by rw [h]; rfl, fun m => by rcases List.mem_cons.mp m with z | z; exact e z.symm; exact n z⟩
theorem tl_sp : TL.tl (" " : Str) = [32] := by decide +kernel
theorem cut_first (a : Str) : 32 ∉ TL.tl a ∨ ∃ u v : Str, a = u ++ " " ++ v ∧ 32 ∉ TL.tl u := by
  rcases first32 (TL.tl a) with h | ⟨p, r, h, n⟩
  · exact .inl h
  · refine .inr ⟨⟨p.toArray⟩, ⟨r.toArray⟩, TL.ext_tl ?_, n⟩
    show TL.tl a = TL.tl _
    rw [h, TL.tl_append, TL.tl_append, tl_sp, TL.tl_mk, TL.tl_mk]
    simp
theorem split_app {u v : Str} (h : 32 ∉ TL.tl u) : Txt.split (u ++ " " ++ v) " " = u :: Txt.split v " " := by
  refine TL.map_tl_inj ?_
  rw [List.map_cons, TL.split_spl _ _ (by rw [tl_sp]; simp) (TL.kind_ok (by decide +kernel)), TL.split_spl _ _ (by rw [tl_sp]; simp) (TL.kind_ok (by decide +kernel)), TL.tl_append, TL.tl_append, tl_sp, List.append_assoc]
  exact TL.spl_part1 h
theorem split_none {u : Str} (h : 32 ∉ TL.tl u) : Txt.split u " " = [u] := by
  refine TL.map_tl_inj ?_
  rw [TL.split_spl _ _ (by rw [tl_sp]; simp) (TL.kind_ok (by decide +kernel)), tl_sp]
  exact TL.spl_last1 h
theorem part_none {u : Str} (h : 32 ∉ TL.tl u) : Txt.partition u " " = (u, Str.empty, Str.empty) := TL.partition_none (y := " ") (s := 32) (S := []) (by decide +kernel) h
theorem part_app {u v : Str} (h : 32 ∉ TL.tl u) : Txt.partition (u ++ " " ++ v) " " = (u, (" " : Str), v) := TL.partition_app (y := " ") (s := 32) (S := []) (by decide +kernel) h
/-- the words of a text beside its first word and the rest -/
theorem words_of (y : Str) : ∃ w0 ws, Txt.split y " " = w0 :: ws ∧ ((ws = [] ∧ Txt.partition y " " = (w0, Str.empty, Str.empty) ∧ y = w0) ∨ ∃ v, ws = Txt.split v " " ∧ Txt.partition y " " = (w0, (" " : Str), v) ∧ y = w0 ++ " " ++ v) := by
  rcases cut_first y with h | ⟨u, v, rfl, h⟩
  · exact ⟨y, [], split_none h, .inl ⟨rfl, part_none h, rfl⟩⟩
  · exact ⟨u, _, split_app h, .inr ⟨v, rfl, part_app h, rfl⟩⟩
theorem ok_app {u v : Str} (h : PyData.strOk (u ++ " " ++ v) = true) : PyData.strOk u = true ∧ PyData.strOk v = true := by
  have z : ((u.cps ++ (" " : Str).cps) ++ v.cps).all (· < 0x110000) = true := h
  rw [Array.all_append, Array.all_append, Bool.and_eq_true, Bool.and_eq_true] at z
  exact ⟨z.1.1, z.2⟩
theorem len_sp {u v : Str} : (u ++ " " ++ v).length = u.length + 1 + v.length := by
  rw [PySem.Str.length_append, PySem.Str.length_append, show (" " : Str).length = 1 by decide +kernel]
theorem ok_words : ∀ (n : Nat) (y : Str), y.length ≤ n → PyData.strOk y = true → ∀ w ∈ Txt.split y " ", PyData.strOk w = true := by
  intro n
  induction n with
  | zero =>
    intro y l ok w hw
    rcases cut_first y with h | ⟨u, v, rfl, h⟩
    · rw [split_none h] at hw
      rw [List.mem_singleton.mp hw]; exact ok
    · rw [len_sp] at l; omega
  | succ n ih =>
    intro y l ok w hw
    rcases cut_first y with h | ⟨u, v, rfl, h⟩
    · rw [split_none h] at hw
      rw [List.mem_singleton.mp hw]; exact ok
    · rw [split_app h] at hw
      rw [len_sp] at l
      rcases List.mem_cons.mp hw with e | hw
      · rw [e]; exact (ok_app ok).1
      · exact ih v (by omega) (ok_app ok).2 w hw
theorem split_one {v x : Str} (hx : 32 ∉ TL.tl x) : Txt.split v " " = [x] ↔ v = x := by
  constructor
  · intro e
    rcases cut_first v with h | ⟨u, v', rfl, h⟩
    · rw [split_none h] at e
      exact (List.cons.inj e).1
    · rw [split_app h] at e
      have z := (List.cons.inj e).2
      obtain ⟨w0, ws, ew, _⟩ := words_of v'
      rw [ew] at z
      cases z
  · intro e
    rw [e, split_none hx]
theorem strs_eqv : ∀ (a b : List Str), PyData.eqvAll (a.map PyData.str) (b.map PyData.str) = decide (a = b)
  | [], [] => rfl
  | [], _ :: _ => rfl
  | _ :: _, [] => rfl
  | x :: a, y :: b => by
    show (PyData.eqv (.str x) (.str y) && PyData.eqvAll (a.map PyData.str) (b.map PyData.str)) = _
    rw [show PyData.eqv (.str x) (.str y) = (x == y) from rfl, strs_eqv a b, show (x == y) = decide (x = y) by rw [Bool.eq_iff_iff, beq_iff_eq, decide_eq_true_eq]]
    by_cases h1 : x = y <;> by_cases h2 : a = b <;> simp [h1, h2]
theorem rowIn_one {a : Str} {r : RowT} (h : rowIn a = some r) : 1 ≤ r.length := by
  obtain ⟨_, _, e⟩ := rowIn_some h
  obtain ⟨w0, ws, ew, _⟩ := words_of a
  rw [e, ew, List.map_cons, List.length_cons]
  omega
theorem sum_le {n : Nat} : ∀ {l : List Str}, (∀ y ∈ l, y.length ≤ n) → (l.map (fun x => x.length)).sum ≤ l.length * n
  | [], _ => by simp
  | x :: r, h => by
    have a := h x (List.mem_cons_self ..)
    have b := sum_le (l := r) (fun y hy => h y (List.mem_cons_of_mem _ hy))
    rw [List.map_cons, List.sum_cons, List.length_cons, Nat.succ_mul]
    omega
noncomputable def spLineR (K : PySem.W.Frag) : Sp := fun vs H Q _ => ∃ x o, vs = [x] ∧ RdV K H x o ∧ (∀ y, o = some y → PyData.strOk y = true) ∧ (readO o = none → ∀ H', Same H H' → Q .non H') ∧ (∀ k p, readO o = some (k, p) → ∀ z H', Same H H' → Dp K H' z (.tuple [.str k, partD p]) → Q z H')
section
variable {P : Program} {w : World} {K : PySem.W.Frag} {mg : Str → Option Value} {base : Heap}
variable {aG dU C CR CS eG eS : Addr} {U : Bool → Addr} {us : Bool → List Addr}
theorem h_law_line_read (T : TxM K mg aG dU C CR eG eS) (D : Df K mg "_law_line_read" s__law_line_read) (h_law_row_read : Has P w K mg base CX0 "_law_row_read" 1 ["_law_text"] (spReadL K)) (h_law_is_row : Has P w K mg base CX0 "_law_is_row" 1 ["_law_value", "_law_around_here", "_law_few"] (spIsRowL K)) : Has P w K mg base CX0 "_law_line_read" 2 ["_law_value"] (spLineR K) := by
  refine D.has sc__law_line_read (fun vs H Q E h => ?_) (fun kV doc pm an cdv ct us hl => match us, hl with | [_], _ => rfl) (fun f cdv A outer s H vs Q E gd hr h => ?_)
  · obtain ⟨x, o, rfl, _⟩ := h
    rfl
  · obtain ⟨x, o, rfl, hx, oks, k0, k1⟩ := h
    have hu := hr.units
    have hu65 : (A.deeper (envOfC "_law_line_read" (defScope s__law_line_read) s.heap.objs.size f cdv)).units + 65 < cLine := by have := hr.un; omega
    refine ⟨_, (pss_cons
 (ps_if (pt_not (pt_val (pe_callB call_isi (by exact rfl) T.zisinstance (by decide +kernel) (pa_cons (pv 0) (pa_cons (pe_bltn (v := .ty "str") (by exact rfl) T.zstr (by decide +kernel) rfl) pa_nil))))) (pss_one
 (ps_ret pe_non)) pss_nil)
 (pss_cons
 (ps_set (i := 1) sc__law_line_read.nd rfl (Or.inl rfl) (pe_bm PySem.F.plainAttrs_str PySem.F.slot_str_split PySem.F.type_str_split mt_split (pv 0) (pa_cons pe_str pa_nil)))
 (pss_cons
 (ps_if (PW.pt (pw_and (pt_cmpR op_eq (pe_ix ix_list (pv 1) pe_int (fun _ _ => rfl)) pe_str (nomark _)) (pw_and1 (pt_cmpR (op_inDT hu65) (pe_slice sl_list (pv 1) (po_some pe_int) po_none) (pe_tup (pa_cons (pe_lst (pa_cons pe_str pa_nil)) (pa_cons (pe_lst (pa_cons pe_str pa_nil)) pa_nil))) (by rfl))))) (pss_one
 (ps_ret (pe_tup (pa_cons pe_str (pa_cons (pe_ix ix_list (pv 1) pe_int (fun _ _ => rfl)) pa_nil))))) pss_nil)
 (pss_cons
 (ps_if (PW.pt (pw_and (pt_cmpR op_eq (pe_ix ix_list (pv 1) pe_int (fun _ _ => rfl)) pe_str (nomark _)) (pw_and1 (pt_cmpR op_notN (pe_callH h_law_row_read gd (hr.mono (by decide)) pass0 (pa_cons (pe_slice sl_str (pv 0) (po_some pe_int) po_none) pa_nil)) pe_non (nomark _))))) (pss_one
 (ps_ret (pe_tup (pa_cons pe_str (pa_cons (pe_callH h_law_row_read gd (hr.mono (by decide)) pass0 (pa_cons (pe_slice sl_str (pv 0) (po_some pe_int) po_none) pa_nil)) pa_nil))))) pss_nil)
 (pss_cons
 (ps_if (PW.pt (pw_and (pt_cmpR op_eq (pe_ix ix_list (pv 1) pe_int (fun _ _ => rfl)) pe_str (nomark _)) (pw_and (pt_cmpR op_gt (pe_callB call_len_seq (by exact rfl) T.zlen PySem.boot_len (pa_cons (pv 1) pa_nil)) pe_int (nomark _)) (pw_and1 (pt_val (pe_callH h_law_is_row gd (hr.mono (by decide)) pass0 (pa_cons (pe_tup (pa_cons (pe_tup (pa_cons (pe_ix ix_list (pv 1) pe_int (fun _ _ => rfl)) (pa_cons pe_int pa_nil))) pa_nil)) (pa_cons pe_int (pa_cons pe_int pa_nil))))))))) (pss_cons
 (ps_set (i := 2) sc__law_line_read.nd rfl (Or.inl rfl) (pe_callH h_law_row_read gd (hr.mono (by decide)) pass0 (pa_cons (pe_bm PySem.F.plainAttrs_str PySem.F.slot_str_join PySem.F.type_str_join mt_join pe_str (pa_cons (pe_slice sl_list (pv 1) (po_some pe_int) po_none) pa_nil)) pa_nil)))
 (pss_one
 (ps_ret (pe_ifExp (PW.pt (pw_and (pt_cmpR op_notN (pv 2) pe_non (nomark _)) (pw_and1 (pt_cmpR op_gt (pe_callB call_len_seq (by exact rfl) T.zlen PySem.boot_len (pa_cons (pv 2) pa_nil)) pe_int (nomark _))))) (pe_tup (pa_cons (pe_ix ix_list (pv 1) pe_int (fun _ _ => rfl)) (pa_cons (pv 2) pa_nil))) pe_non)))) pss_nil)
 (pss_one
 (ps_ret pe_non))))))), ?_⟩
    dsimp only [cxOf, Cx.nox]
    obtain ⟨tx, ty, kt⟩ := hx.kit
    refine ⟨_, rfl, _, _, _, _, _, rfl, .ty _, ty, GL.kit_str tx, _, rfl, ?_⟩
    rw [kt]
    cases o with
    | none => exact if_nf (k0 rfl H same_rfl)
    | some y =>
    obtain ⟨rfl, few⟩ := hx
    have oy := oks y rfl
    obtain ⟨many, small⟩ := split_small y
    have okw := ok_words _ y (Nat.le_refl _) oy
    obtain ⟨w0, ws, ew, part⟩ := words_of y
    refine iteF ⟨_, rfl, rfl, y, " ", rfl, rfl, by decide +kernel, by rw [sizeLine_eq]; omega, fun p np => ?_⟩
    rw [ew] at many small okw ⊢
    have s1 := Same.new (o := .lst ((w0 :: ws).map V.str)) np
    have hp : SqL K (upd H p (.lst ((w0 :: ws).map V.str))) p ((w0 :: ws).map V.str) := SqL.of upd_same
    generalize upd H p (.lst ((w0 :: ws).map V.str)) = H1 at *
    refine ⟨_, rfl, p, _, _, _, rfl, rfl, hp, atI_nat (j := 0) rfl, rfl, _, rfl, ?_⟩
    have shw : SeqAt.shaped (.list (ws.map PyData.str)) = true := strs_shaped fun w hw => okw w (List.mem_cons_of_mem _ hw)
    by_cases g : w0 = "grid"
    · rw [show decide (V.str w0 = V.str (Str.ofString "grid")) = true from decide_eq_true (by rw [g])]
      refine iteT ⟨_, rfl, 1, rfl, p, _, rfl, hp, fun S nS => ?_⟩
      rw [show cutV ((w0 :: ws).map V.str) (some 1) none = ws.map V.str from cutV_from (k := 1) (by rw [List.length_map, List.length_cons]; omega)]
      have s2 := Same.new (o := .lst (ws.map V.str)) nS
      have hS : upd H1 S (.lst (ws.map V.str)) S = some _ := upd_same
      generalize upd H1 S (.lst (ws.map V.str)) = H2 at *
      refine ⟨by show 1 ≤ sizeLine; decide, fun A1 a1 => ⟨by show 1 ≤ sizeLine; decide, fun B1 b1 => ⟨by show 2 ≤ sizeLine; decide, fun C1 c1 => ?_⟩⟩⟩
      have sABC := ((Same.new (o := .lst [.str (Str.ofString "square")]) a1).trans (Same.new (o := .lst [.str (Str.ofString "triangle")]) b1)).trans (Same.new (o := .tup [.ref A1, .ref B1]) c1)
      refine ⟨.list (ws.map .str), [.list [.str "square"], .list [.str "triangle"]], .lst (SqL.of (sABC _ _ hS)) dp_strs, .tup (SqT.of upd_same) (.cons (.lst (SqL.of (((Same.new b1).trans (Same.new c1)) _ _ upd_same)) (.cons (.str _) .nil)) (.cons (.lst (SqL.of (Same.new c1 _ _ upd_same)) (.cons (.str _) .nil)) .nil)), shw, by decide +kernel, _, rfl, ?_⟩
      have ea : ([PyData.list [.str "square"], .list [.str "triangle"]].any fun z => PyData.eqv z (.list (ws.map PyData.str))) = (decide ((["square"] : List Str) = ws) || decide ((["triangle"] : List Str) = ws)) := by
        rw [List.any_cons, List.any_cons, List.any_nil, Bool.or_false, ← strs_eqv, ← strs_eqv]
        rfl
      rw [ea]
      have s3 : Same H1 _ := s2.trans sABC
      have hp3 := sqL_same hp s3
      generalize upd (upd (upd H2 A1 _) B1 _) C1 _ = H3 at *
      have s13 := s1.trans s3
      subst g
      rcases part with ⟨rfl, pe, ey⟩ | ⟨v, ev, pe, ey⟩
      · rw [show (decide ((["square"] : List Str) = []) || decide ((["triangle"] : List Str) = [])) = false by decide]
        refine iteF ⟨_, rfl, p, _, _, _, rfl, rfl, hp3, atI_nat (j := 0) rfl, rfl, _, rfl, ?_⟩
        rw [show decide (V.str (Str.ofString "grid") = V.str (Str.ofString "axiom")) = false by decide]
        refine iteF (iteF ⟨_, rfl, p, _, _, _, rfl, rfl, hp3, atI_nat (j := 0) rfl, rfl, _, rfl, ?_⟩)
        rw [show decide (V.str (Str.ofString "grid") = V.str (Str.ofString "rule")) = false by decide]
        refine iteF (iteF (k0 ?_ _ s13))
        show readT y = none
        unfold readT
        rw [pe]
        decide +kernel
      · have ret : ∀ t : Bool, ws = [nm t] → v = nm t → tRet (tTup (tCons (tC (V.str (Str.ofString "grid"))) (tCons (tOp (rIxL K) (tVar 1) (tC (V.int 1))) tNil))) { nx := fun x H' => Q V.non H', rt := Q } [some (.str y), some (.ref p), none] H3 := fun t e1 e2 => by
          rw [e1] at hp3
          refine ⟨_, rfl, p, _, _, _, rfl, rfl, hp3, atI_nat (j := 1) rfl, by show 2 ≤ sizeLine; decide, fun T1 nT => ?_⟩
          refine k1 "grid" (.inl t) ?_ _ _ (s13.trans (Same.new nT)) (.tup (SqT.of upd_same) (.cons (.str _) (.cons (.str _) .nil)))
          show readT y = _
          unfold readT
          rw [pe, e2]
          cases t <;> decide +kernel
        by_cases c1 : v = "square"
        · have ew1 : ws = ([("square" : Str)] : List Str) := by rw [ev]; exact (split_one (by decide +kernel)).mpr c1
          rw [show (decide ((["square"] : List Str) = ws) || decide ((["triangle"] : List Str) = ws)) = true by rw [ew1]; decide]
          exact iteT (ret false ew1 c1)
        by_cases c2 : v = "triangle"
        · have ew1 : ws = ([("triangle" : Str)] : List Str) := by rw [ev]; exact (split_one (by decide +kernel)).mpr c2
          rw [show (decide ((["square"] : List Str) = ws) || decide ((["triangle"] : List Str) = ws)) = true by rw [ew1]; decide]
          exact iteT (ret true ew1 c2)
        have n1 : (["square"] : List Str) ≠ ws := fun z => c1 ((split_one (by decide +kernel)).mp (ev.symm.trans z.symm))
        have n2 : (["triangle"] : List Str) ≠ ws := fun z => c2 ((split_one (by decide +kernel)).mp (ev.symm.trans z.symm))
        rw [decide_eq_false n1, decide_eq_false n2]
        refine iteF ⟨_, rfl, p, _, _, _, rfl, rfl, hp3, atI_nat (j := 0) rfl, rfl, _, rfl, ?_⟩
        rw [show decide (V.str (Str.ofString "grid") = V.str (Str.ofString "axiom")) = false by decide]
        refine iteF (iteF ⟨_, rfl, p, _, _, _, rfl, rfl, hp3, atI_nat (j := 0) rfl, rfl, _, rfl, ?_⟩)
        rw [show decide (V.str (Str.ofString "grid") = V.str (Str.ofString "rule")) = false by decide]
        refine iteF (iteF (k0 ?_ _ s13))
        show readT y = none
        unfold readT
        rw [pe]
        dsimp only
        rw [if_pos rfl, if_neg c1, if_neg c2]
    · rw [show decide (V.str w0 = V.str (Str.ofString "grid")) = false from decide_eq_false (fun z => g (by injection z))]
      refine iteF (iteF ⟨_, rfl, p, _, _, _, rfl, rfl, hp, atI_nat (j := 0) rfl, rfl, _, rfl, ?_⟩)
      by_cases g2 : w0 = "axiom"
      · subst g2
        rw [show decide (V.str (Str.ofString "axiom") = V.str (Str.ofString "axiom")) = true by decide]
        obtain ⟨v, cut, rr, lv⟩ : ∃ v, cutS y (some 6) none = v ∧ readT y = (match rowIn v with | some r => if 1 ≤ r.length then some ((("axiom" : Str), .inr r) : Str × (Bool ⊕ RowT)) else none | none => none) ∧ v.length ≤ 900 := by
          rcases part with ⟨_, pe, ey⟩ | ⟨v, _, pe, ey⟩
          · refine ⟨Str.empty, by rw [ey]; decide +kernel, ?_, by decide⟩
            unfold readT
            rw [pe]
            rfl
          · refine ⟨v, ?_, ?_, ?_⟩
            · rw [ey]
              exact cut_app (n := 6) (by decide +kernel)
            · unfold readT
              rw [pe]
              rfl
            · rw [ey, len_sp] at few
              omega
        have lc : y.length ≤ sizeLine := by rw [sizeLine_eq]; omega
        have nr : decide (V.str (Str.ofString "axiom") = V.str (Str.ofString "rule")) = false := by decide
        refine iteT ⟨_, rfl, 6, rfl, y, rfl, lc, ?_⟩
        rw [cut]
        refine ⟨_, some v, rfl, ⟨rfl, lv⟩, fun no H2 s2 => ?_, fun r er z H2 s2 dz => ?_⟩
        · refine ⟨rfl, _, rfl, ?_⟩
          rw [show (!decide (V.non = V.non)) = false by decide]
          refine iteF ⟨_, rfl, p, _, _, _, rfl, rfl, sqL_same hp s2, atI_nat (j := 0) rfl, rfl, _, rfl, ?_⟩
          rw [nr]
          refine iteF (iteF (k0 ?_ _ (s1.trans s2)))
          show readT y = none
          rw [rr, show rowIn v = none from no]
        · obtain ⟨b, zs, rfl, hb, _⟩ := dTup dz
          refine ⟨rfl, _, rfl, ?_⟩
          rw [show (!decide (V.ref b = V.non)) = true by rw [decide_eq_false (by intro z; cases z)]; rfl]
          refine iteT ⟨_, rfl, 6, rfl, y, rfl, lc, ?_⟩
          rw [cut]
          refine ⟨_, some v, rfl, ⟨rfl, lv⟩, (fun no => by rw [er] at no; cases no), fun r2 er2 z2 H3 s3 dz2 => ⟨by show 2 ≤ sizeLine; decide, fun T1 nT => ?_⟩⟩
          rw [er] at er2
          cases er2
          refine k1 "axiom" (.inr r) ?_ _ _ ((s1.trans (s2.trans s3)).trans (Same.new nT)) (.tup (SqT.of upd_same) (.cons (.str _) (.cons (dp_same (Same.new nT) dz2) .nil)))
          show readT y = _
          rw [rr, show rowIn v = some r from er]
          exact if_pos (rowIn_one er)
      · rw [show decide (V.str w0 = V.str (Str.ofString "axiom")) = false from decide_eq_false (fun z => g2 (by injection z))]
        refine iteF (iteF ⟨_, rfl, p, _, _, _, rfl, rfl, hp, atI_nat (j := 0) rfl, rfl, _, rfl, ?_⟩)
        by_cases g3 : w0 = "rule"
        · subst g3
          rw [show decide (V.str (Str.ofString "rule") = V.str (Str.ofString "rule")) = true by decide]
          refine iteT ⟨_, rfl, p, _, rfl, .inl hp, _, _, rfl, rfl, _, rfl, ?_⟩
          rcases part with ⟨rfl, pe, ey⟩ | ⟨v, ev, pe, ey⟩
          · rw [decide_eq_false (show ¬ (2 : Int) < ((([(Str.ofString "rule")] : List Str).map V.str).length : Int) by decide)]
            refine iteF (iteF (k0 ?_ _ s1))
            show readT y = none
            unfold readT
            rw [pe]
            decide +kernel
          obtain ⟨w1, ws2, ew2, part2⟩ := words_of v
          obtain rfl : ws = w1 :: ws2 := ev.trans ew2
          rcases part2 with ⟨rfl, pe2, ey2⟩ | ⟨v2, ev2, pe2, ey2⟩
          · rw [decide_eq_false (show ¬ (2 : Int) < ((([(Str.ofString "rule"), w1] : List Str).map V.str).length : Int) by simp)]
            refine iteF (iteF (k0 ?_ _ s1))
            show readT y = none
            unfold readT
            rw [pe]
            dsimp only
            rw [if_neg (by decide +kernel), if_neg (by decide +kernel), pe2]
            dsimp only
            by_cases l : LetS w1 = true
            · rw [if_pos ⟨rfl, l⟩]
              rfl
            · rw [if_neg (fun z => l z.2)]
          obtain ⟨w2, ws3, ew3, _⟩ := words_of v2
          have e23 : ws2 = w2 :: ws3 := ev2.trans ew3
          have len3 : (2 : Int) < (((Str.ofString "rule" :: w1 :: ws2).map V.str).length : Int) := by rw [e23]; simp; omega
          rw [decide_eq_true len3]
          have lw1 := small w1 (by simp)
          refine iteT ⟨_, rfl, p, _, _, _, rfl, rfl, hp, atI_nat (j := 1) rfl, by show 2 ≤ sizeLine; decide, fun A a => ⟨by show 1 ≤ sizeLine; decide, fun B b => ?_⟩⟩
          have sAB := (Same.new (o := .tup [.str w1, .int 0]) a).trans (Same.new (o := .tup [.ref A]) b)
          refine ⟨.ref B, false, 1, some ([(w1, (0 : Int))].map itemD), rfl, ⟨B, [.ref A], rfl, SqT.of upd_same, rfl, by show 1 ≤ 1000; decide, fun i y' hy => ?_⟩, _, rfl, ?_⟩
          · cases i with
            | zero =>
              cases hy
              refine ⟨_, rfl, itemDp (it := (w1, 0)) (SqT.of (Same.new b _ _ upd_same)), ?_⟩
              refine ⟨by show 2 ≤ 1000; decide, fun d hd y'' e => ?_⟩
              simp only [List.mem_cons, List.not_mem_nil, or_false] at hd
              rcases hd with rfl | rfl
              · cases e
                omega
              · cases e
            | succ i => cases hy
          rw [one_row]
          have hp2 := sqL_same hp sAB
          generalize upd (upd H1 A _) B _ = H2 at *
          have rr : LetS w1 = true → readT y = (match rowIn v2 with | some r => if 2 ≤ r.length then some ((w1, .inr r) : Str × (Bool ⊕ RowT)) else none | none => none) := fun l => by
            unfold readT
            rw [pe]
            dsimp only
            rw [if_neg (by decide +kernel), if_neg (by decide +kernel), pe2]
            dsimp only
            rw [if_pos ⟨rfl, l⟩]
            try rfl
          by_cases l : LetS w1 = true
          · rw [l]
            refine iteT ?_
            refine ⟨rfl, _, rfl, 2, rfl, p, _, rfl, hp2, fun S nS => ?_⟩
            rw [show cutV ((Str.ofString "rule" :: w1 :: ws2).map V.str) (some 2) none = ws2.map V.str from cutV_from (k := 2) (by rw [List.length_map, List.length_cons, List.length_cons]; omega)]
            have s3 := Same.new (o := .lst (ws2.map V.str)) nS
            refine ⟨" ", S, ws2, rfl, rfl, .inl (SqL.of upd_same), ?_, ?_⟩
            · have z := sum_le (n := 901) (l := ws2) (fun w hw => Nat.le_trans (small w (List.mem_cons_of_mem _ (List.mem_cons_of_mem _ hw))) (by omega))
              have m2 : ws2.length ≤ 901 := by simp only [List.length_cons] at many; omega
              rw [show (" " : Str).length = 1 by decide +kernel]
              have z2 : ws2.length * 901 ≤ 901 * 901 := Nat.mul_le_mul_right _ m2
              omega
            rw [show Txt.join " " ws2 = v2 by rw [ev2]; exact (StrLaws.glued_eq_join _ _).trans (StrLaws.join_split _ _)]
            have lv2 : v2.length ≤ 900 := by
              rw [ey, ey2, len_sp, len_sp] at few
              omega
            have rr := rr l
            have hp3 := sqL_same hp2 s3
            have s13 := (s1.trans sAB).trans s3
            generalize upd H2 S (.lst (ws2.map V.str)) = H3 at *
            refine ⟨_, some v2, rfl, ⟨rfl, lv2⟩, fun no H4 s4 => ?_, fun r er z H4 s4 dz => ?_⟩
            · refine ⟨_, rfl, rfl, _, rfl, ?_⟩
              rw [show (!decide (V.non = V.non)) = false by decide]
              refine iteF (iteF (k0 ?_ _ (s13.trans s4)))
              show readT y = none
              rw [rr, show rowIn v2 = none from no]
            · obtain ⟨b, zs, rfl, hb, dzs⟩ := dTup dz
              have lz : zs.length = r.length := by rw [dLen dzs, List.length_map]
              refine ⟨_, rfl, rfl, _, rfl, ?_⟩
              rw [show (!decide (V.ref b = V.non)) = true by rw [decide_eq_false (by intro z; cases z)]; rfl]
              refine iteT ⟨_, rfl, b, zs, rfl, .inr hb, _, _, rfl, rfl, _, rfl, ?_⟩
              by_cases c2 : 2 ≤ r.length
              · rw [decide_eq_true (show (1 : Int) < (zs.length : Int) by omega)]
                refine iteT ⟨_, rfl, p, _, _, _, rfl, rfl, sqL_same hp3 s4, atI_nat (j := 1) rfl, _, rfl, by show 2 ≤ sizeLine; decide, fun T1 nT => ?_⟩
                refine k1 w1 (.inr r) ?_ _ _ ((s13.trans s4).trans (Same.new nT)) (.tup (SqT.of upd_same) (.cons (.str _) (.cons (dp_same (Same.new nT) dz) .nil)))
                show readT y = _
                rw [rr, show rowIn v2 = some r from er]
                exact if_pos c2
              · rw [decide_eq_false (show ¬ (1 : Int) < (zs.length : Int) by omega)]
                refine iteF (k0 ?_ _ (s13.trans s4))
                show readT y = none
                rw [rr, show rowIn v2 = some r from er]
                exact if_neg c2
          · rw [show LetS w1 = false by simpa using l]
            refine iteF (k0 ?_ _ (s1.trans sAB))
            show readT y = none
            unfold readT
            rw [pe]
            dsimp only
            rw [if_neg (by decide +kernel), if_neg (by decide +kernel), pe2]
            dsimp only
            rw [if_neg (fun z => l z.2)]
        · rw [show decide (V.str w0 = V.str (Str.ofString "rule")) = false from decide_eq_false (fun z => g3 (by injection z))]
          refine iteF (iteF (k0 ?_ _ s1))
          show readT y = none
          unfold readT
          rcases part with ⟨_, pe, _⟩ | ⟨v, _, pe, _⟩
          · rw [pe]
            dsimp only
            rw [if_neg g, if_neg g2, if_neg (fun z => g3 z.1)]
          · rw [pe]
            dsimp only
            rw [if_neg g, if_neg g2, if_neg (fun z => g3 z.1)]
end
end K13
namespace K13
open PySem PySem.Spec PyProof.Rows L2 GL SkE PySem.GLE LamX
noncomputable abbrev s__law_due : Stmt := topS 76
noncomputable abbrev N__law_due : List Str := ["_law_values", "_law_found", "_law_at", "_law_value", "_law_told_here", "_law_rules", "_law_own", "_law_name"]
theorem sc__law_due : FnScope N__law_due ["_law_values"] (defScope s__law_due) := ⟨rfl, rfl, rfl, by decide +kernel, rfl, by decide +kernel, by decide +kernel⟩
/-- for i, x in enumerate(a list that stays) -/
theorem for_enumL {K : PySem.W.Frag} {a : Addr} {xs : List V} {g : TG} {tb : TS} {D : Ends} {σ : L2.St} {H : Hp} (Pv : Nat → L2.St → Hp → Prop) (h0 : Pv 0 σ H) (hl : ∀ i σ H, i ≤ xs.length → Pv i σ H → SqL K H a xs)
    (hs : ∀ i x σ H T, xs[i]? = some x → Pv i σ H → H T = none → g (.ref T) σ (upd H T (.tup [.int (i : Nat), x])) fun σ2 H2 => tb { D with nx := Pv (i + 1), ct := Pv (i + 1), bk := D.nx } σ2 H2) (hd : ∀ σ H, Pv xs.length σ H → D.nx σ H) :
    ∃ W : Nat → Nat → L2.St → Hp → Prop, (∃ m, W 0 m σ H) ∧ ∀ i m σ H, W i m σ H →
      ((Ite K a).stop i H ∧ D.nx σ H) ∨ ((Ite K a).go i H ∧ ∃ N : L2.St → Hp → Prop, (∀ σ' H', N σ' H' → ∃ m', m' < m ∧ W (i + 1) m' σ' H') ∧ ∀ x H', (Ite K a).yld i H x H' → g x σ H' fun σ2 H2 => tb { D with nx := N, ct := N, bk := D.nx } σ2 H2) := by
  refine ⟨fun i m σ H => m = xs.length - i ∧ i ≤ xs.length ∧ Pv i σ H, ⟨xs.length, by simp, Nat.zero_le _, h0⟩, ?_⟩
  rintro i m σ H ⟨rfl, hi, q⟩
  have here := hl i σ H hi q
  by_cases hlt : i < xs.length
  · refine .inr ⟨⟨xs, xs[i], here, List.getElem?_eq_getElem hlt⟩, Pv (i + 1), fun σ' H' p' => ⟨xs.length - (i + 1), by omega, rfl, hlt, p'⟩, fun x H' y => ?_⟩
    obtain ⟨T, x', rfl, nT, rfl, ex⟩ := y
    exact hs i x' σ H T (ex xs here) q nT
  · have e : i = xs.length := by omega
    subst e
    exact .inl ⟨⟨xs, here, Nat.le_refl _⟩, hd σ H q⟩
theorem merge_new : ∀ {more kvs : List (Key × V)}, ((kvs ++ more).map (·.1)).Nodup → mergeK kvs more = kvs ++ more
  | [], kvs, _ => (List.append_nil _).symm
  | kv :: r, kvs, h => by
    have e : putK kvs kv.1 kv.2 = kvs ++ [kv] := by
      unfold putK
      rw [if_neg]
      rw [List.any_eq_true]
      rintro ⟨z, hz, he⟩
      have he := of_decide_eq_true he
      rw [List.map_append, List.nodup_append] at h
      exact h.2.2 z.1 (List.mem_map_of_mem hz) kv.1 (by simp) he
    show mergeK (putK kvs kv.1 kv.2) r = _
    rw [e, merge_new (by rw [List.append_assoc]; exact h), List.append_assoc]
    rfl
theorem rsP_keys {K : PySem.W.Frag} {M : Hp} : ∀ {kvs : List (Key × V)} {rs : Rls}, RsP K M kvs rs → kvs.map (·.1) = rs.map fun yr => .inr yr.1
  | _, _, .nil => rfl
  | _, _, .cons h r => by rw [List.map_cons, List.map_cons, rsP_keys r, h.1]
theorem rsAt_of {K : PySem.W.Frag} {M : Hp} : ∀ {kvs : List (Key × V)} {rs : Rls}, RsP K M kvs rs → (∀ yr ∈ rs, yr.2.length ≤ 1000) → RsAt K M kvs rs
  | _, _, .nil, _ => .nil
  | _, _, .cons h r, m => .cons ⟨h.1, h.2, m _ (List.mem_cons_self ..)⟩ (rsAt_of r fun yr hy => m yr (List.mem_cons_of_mem _ hy))
theorem rowS_W {t : Bool} {r : RowT} (h : RowS t r) : RowW r := ⟨Nat.le_trans h.most (by decide), fun it hi => Nat.le_trans (Nat.le_of_eq (let_len (h.all it hi).l)) (by decide), fun it hi => (h.all it hi).a, fun it hi => by have := (h.all it hi).b; have := num_six (t := t); omega⟩
/-- lists of values that are read as lines -/
noncomputable def RdsV (K : PySem.W.Frag) (H : Hp) (xs : List V) (os : List (Option Str)) : Prop := Paired (RdV K H) xs os ∧ xs.length ≤ 20 ∧ ∀ o ∈ os, ∀ y, o = some y → PyData.strOk y = true
noncomputable def spDue (K : PySem.W.Frag) : Sp := fun vs H Q _ => ∃ a xs os, vs = [.ref a] ∧ SqL K H a xs ∧ RdsV K H xs os ∧
  (∀ i, scanL os [] 0 = .inl i → ∀ H', Same H H' → Q (.int (i : Nat)) H') ∧
  (∀ acc, scanL os [] 0 = .inr acc → (∀ t r, (("grid" : Str), (Sum.inl t : Bool ⊕ RowT)) ∈ acc → (("axiom" : Str), (Sum.inr r : Bool ⊕ RowT)) ∈ acc → ¬ SchOk t r (rulesOf acc)) → ∀ H', Same H H' → Q .non H') ∧
  (∀ acc t r, scanL os [] 0 = .inr acc → (("grid" : Str), (Sum.inl t : Bool ⊕ RowT)) ∈ acc → (("axiom" : Str), (Sum.inr r : Bool ⊕ RowT)) ∈ acc → SchOk t r (rulesOf acc) → ∀ q H', Same H H' → PlAt K H' q t r (rulesOf acc) → Q (.ref q) H')
section
variable {P : Program} {w : World} {K : PySem.W.Frag} {mg : Str → Option Value} {base : Heap}
variable {aG dU C CR CS eG eS : Addr} {es : Es} {U : Bool → Addr} {us : Bool → List Addr}
theorem h_law_due (T : TxR K mg aG dU C CR CS eG eS es) (D : Df K mg "_law_due" s__law_due) (h_law_line_read : Has P w K mg base CX0 "_law_line_read" 2 ["_law_value"] (spLineR K)) (h_law_is_scheme : Has P w K mg base CX0 "_law_is_scheme" 3 ["_law_own"] (spIsSch K)) : Has P w K mg base CX0 "_law_due" 4 ["_law_values"] (spDue K) := by
  refine D.has sc__law_due (fun vs H Q E h => ?_) (fun kV doc pm an cdv ct us hl => match us, hl with | [_], _ => rfl) (fun f cdv A outer s H vs Q E gd hr h => ?_)
  · obtain ⟨a, xs, os, rfl, _⟩ := h
    rfl
  · obtain ⟨a, xs, os, rfl, ha, ⟨rd, few, oks⟩, bad, none_, good⟩ := h
    have hu := hr.units
    refine ⟨_, (pss_cons
 (ps_set (i := 1) sc__law_due.nd rfl (Or.inr rfl) pe_dnewK)
 (pss_cons
 (ps_for PassesOwn.never rfl (pi_enum (by rfl) T.zenumerate (pa_cons (pv 0) pa_nil)) (pg_tup (by rfl) (pgs_cons (pg_name (i := 2) sc__law_due.nd rfl (Or.inl rfl)) (pgs_cons (pg_name (i := 3) sc__law_due.nd rfl (Or.inl rfl)) pgs_nil))) (pss_cons
 (ps_set (i := 4) sc__law_due.nd rfl (Or.inl rfl) (pe_callH h_law_line_read gd (hr.mono (by decide)) pass0 (pa_cons (pv 3) pa_nil)))
 (pss_cons
 (ps_if (PW.pt (pw_or (pt_cmpR op_isN (pv 4) pe_non (nomark _)) (pw_or1 (pt_cmp (pc_din (Nat.lt_of_le_of_lt (Nat.add_le_add_left (by decide) _) hu) (pe_ix ix_tup (pv 4) pe_int (fun _ _ => rfl)) (pv 1)))))) (pss_one
 (ps_ret (pv 2))) pss_nil)
 (pss_one
 (ps_asg (pe_ix ix_tup (pv 4) pe_int (fun _ _ => rfl)) (pg_sub (pv 1) (pe_ix ix_tup (pv 4) pe_int (fun _ _ => rfl)) (set_dict (Nat.lt_of_le_of_lt (Nat.add_le_add_left (by decide) _) hu))))))))
 (pss_cons
 (ps_if (PW.pt (pw_or (pt_cmp (pc_dnotin (Nat.lt_of_le_of_lt (Nat.add_le_add_left (by decide) _) hu) pe_str (pv 1))) (pw_or1 (pt_cmp (pc_dnotin (Nat.lt_of_le_of_lt (Nat.add_le_add_left (by decide) _) hu) pe_str (pv 1)))))) (pss_one
 (ps_ret pe_non)) pss_nil)
 (pss_cons
 (ps_set (i := 5) sc__law_due.nd rfl (Or.inl rfl) (pe_callTy (call_dictP rfl) (by exact rfl) T.zdict (by decide +kernel) (pa_cons (pe_lock (pe_lc (own := [("_law_name", 7)]) (g := gName 7) (tt := _) (by rfl) sc__law_due.nd (pi_keys (pv 1)) (blkOk_by (own := [("_law_name", 7)]) (N := N__law_due) (sc := defScope s__law_due) (by decide +kernel)) (fun _ _ _ _ _ => pg_name (i := 7) sc__law_due.nd rfl (Or.inl rfl)) (fun _ _ _ _ _ => pts_one (pt_cmpR op_eq (pe_callB call_len_str (by exact rfl) T.zlen PySem.boot_len (pa_cons (pv 7) pa_nil)) pe_int (nomark _))) (fun _ _ _ _ _ => (pe_tup (pa_cons (pv 7) (pa_cons (pe_dget (Nat.lt_of_le_of_lt (Nat.add_le_add_left (by decide) _) hu) (pv 1) (pv 7) (fun _ _ => rfl)) pa_nil)))))) pa_nil)))
 (pss_cons
 (ps_set (i := 6) sc__law_due.nd rfl (Or.inl rfl) (pe_disp (pps_cons pe_str (pe_dget (Nat.lt_of_le_of_lt (Nat.add_le_add_left (by decide) _) hu) (pv 1) pe_str (fun _ _ => rfl)) (pps_cons pe_str (pe_dget (Nat.lt_of_le_of_lt (Nat.add_le_add_left (by decide) _) hu) (pv 1) pe_str (fun _ _ => rfl)) (pps_cons pe_str (pv 5) pps_nil))) (by rfl) (by rfl) (fun z => by cases z) (by decide)))
 (pss_one
 (ps_ret (pe_ifExp (pt_val (pe_callH h_law_is_scheme gd (hr.mono (by decide)) pass0 (pa_cons (pv 6) pa_nil))) (pv 6) pe_non)))))))), ?_⟩
    dsimp only [cxOf, Cx.nox]
    refine fun D0 nD => ?_
    have sD := Same.new (o := .dK []) nD
    have ha' : ∀ {H'}, Same H H' → SqL K H' a xs := fun s => sqL_same ha s
    refine ⟨_, rfl, a, xs, rfl, ha' sD, for_enumL (a := a) (xs := xs) (fun i σ' H' => ∃ u2 u3 u4 kvs acc, σ' = [some (.ref a), some (.ref D0), u2, u3, u4, none, none, none] ∧ Same H H' ∧ H' D0 = some (.dK kvs) ∧ PartsAt K H' kvs acc ∧ scanL os [] 0 = scanL (os.drop i) acc i ∧ (acc.map (·.1)).Nodup ∧ acc.length ≤ i ∧ ∀ kp ∈ acc, PartOk kp)
      ⟨none, none, none, [], [], rfl, sD, upd_same, .nil, rfl, .nil, Nat.le_refl _, fun _ h => by (cases h)⟩ (fun i σ' H' _ h => let ⟨_, _, _, _, _, _, s', _⟩ := h; ha' s') ?_ ?_⟩
    · rintro i x _ H1 T1 hx ⟨u2, u3, u4, kvs, acc, rfl, s1, eD, pa, sc, nd, la, oka⟩ nT
      obtain ⟨o, ho, hrd⟩ := rd_at rd hx
      have li := (List.getElem?_eq_some_iff.mp hx).1
      have ed : os.drop i = o :: os.drop (i + 1) := by
        obtain ⟨h1, h2⟩ := List.getElem?_eq_some_iff.mp ho
        rw [← h2, List.drop_eq_getElem_cons h1]
      rw [ed] at sc
      have s2 := Same.new (o := .tup [.int (i : Nat), x]) nT
      refine ⟨T1, _, rfl, SqT.of upd_same, rfl, _, _, rfl, _, _, rfl, rfl, ?_⟩
      generalize upd H1 T1 (.tup [.int (i : Nat), x]) = H2 at *
      refine ⟨_, rfl, x, o, rfl, hrd.same (s1.trans s2), oks o (List.mem_of_getElem? ho), fun no H3 s3 => ?_, fun k pt e z H3 s3 dz => ?_⟩
      · have isb : scanL os [] 0 = .inl i := by rw [sc]; unfold scanL; rw [no]
        refine ⟨_, rfl, rfl, _, rfl, iteT (iteT ⟨_, rfl, bad i isb _ ((s1.trans s2).trans s3)⟩)⟩
      · obtain ⟨b, zs, rfl, hb, dzs⟩ := dTup dz
        cases dzs with
        | cons d0 r0 =>
        cases r0 with
        | cons d1 r1 =>
        cases r1
        cases d0
        rename_i z1
        have s13 := s2.trans s3
        have eD3 := s13 _ _ eD
        have pa3 := pa.tk (TK.of s13)
        refine ⟨_, rfl, rfl, _, rfl, iteF ?_⟩
        have get : DGet H3 D0 (.str k) (valV kvs (.inr k)) := DGet.k (k := (.inr k : Key)) eD3
        by_cases m : k ∈ acc.map (·.1)
        · have isb : scanL os [] 0 = .inl i := by rw [sc]; unfold scanL; rw [e]; exact if_pos m
          obtain ⟨v, p', ev, _, _⟩ := parts_some pa3 m
          rw [ev] at get
          exact ⟨_, rfl, _, _, _, _, rfl, rfl, hb, atI_nat (j := 0) rfl, _, rfl, _, _, rfl, get, _, rfl, iteT ⟨_, rfl, bad i isb _ ((s1.trans s2).trans s3)⟩⟩
        · have ev := parts_none pa3 m
          rw [ev] at get
          have lk : kvs.length = acc.length := Paired.length pa
          refine ⟨_, rfl, _, _, _, _, rfl, rfl, hb, atI_nat (j := 0) rfl, _, rfl, _, _, rfl, get, _, rfl, iteF ?_⟩
          refine ⟨_, rfl, _, _, _, _, rfl, rfl, hb, atI_nat (j := 1) rfl, _, rfl, _, rfl, _, _, _, _, rfl, rfl, hb, atI_nat (j := 0) rfl, D0, _, rfl, DPut.k (k := .inr k) eD3 (by rw [sizeLine_eq]; omega), ?_⟩
          refine ⟨_, _, _, kvs ++ [(.inr k, z1)], acc ++ [(k, pt)], rfl, Same.over ((s1.trans s2).trans s3) nD _, by rw [upd_same, putK_new _ ev], ?_, ?_, ?_, ?_, ?_⟩
          · exact parts_snoc (kp := (k, pt)) (pa3.tk (TK.put eD3 rfl)) (part_tk d1 (TK.put eD3 rfl))
          · rw [sc]
            conv => lhs; unfold scanL
            rw [e]
            exact if_neg m
          · rw [List.map_append]
            exact List.nodup_append.mpr ⟨nd, by simp, fun a ha b hb => by rw [List.mem_singleton.mp hb]; exact fun q => m (by rw [q] at ha; exact ha)⟩
          · rw [List.length_append]; exact Nat.succ_le_succ la
          · intro kp hk
            rcases List.mem_append.mp hk with hk | hk
            · exact oka kp hk
            · rw [List.mem_singleton.mp hk]
              unfold readO at e
              cases o with
              | none => cases e
              | some y => exact readT_ok e
    · rintro _ H1 ⟨u2, u3, u4, kvs, acc, rfl, s1, eD, pa, sc, nd, la, oka⟩
      have esc : scanL os [] 0 = .inr acc := by
        rw [sc, List.drop_eq_nil_of_le (Nat.le_of_eq (Paired.length rd).symm)]
        rfl
      clear sc
      have gets : ∀ y : Str, DGet H1 D0 (.str y) (valV kvs (.inr y)) := fun y => DGet.k (k := (.inr y : Key)) eD
      refine ⟨_, rfl, D0, _, rfl, gets "grid", _, rfl, ?_⟩
      by_cases m1 : ("grid" : Str) ∈ acc.map (·.1)
      case neg =>
        rw [parts_none pa m1]
        exact iteT (iteT (none_ acc esc (fun t r h _ => absurd (List.mem_map.mpr ⟨_, h, rfl⟩) m1) _ s1))
      obtain ⟨gv, gp, eg, mg1, dg⟩ := parts_some pa m1
      rw [eg]
      refine iteF ⟨_, rfl, D0, _, rfl, gets "axiom", _, rfl, ?_⟩
      by_cases m2 : ("axiom" : Str) ∈ acc.map (·.1)
      case neg =>
        rw [parts_none pa m2]
        exact iteT (none_ acc esc (fun t r _ h => absurd (List.mem_map.mpr ⟨_, h, rfl⟩) m2) _ s1)
      obtain ⟨av, ap, ea, ma1, da⟩ := parts_some pa m2
      rw [ea]
      refine iteF ?_
      obtain ⟨t, rfl⟩ : ∃ t, gp = .inl t := by
        rcases oka _ mg1 with ⟨_, h⟩ | ⟨h, _⟩ | ⟨h, _⟩
        · exact h
        · exact absurd h (show ¬ (("grid" : Str) = "axiom") by decide +kernel)
        · exact absurd rfl (readT_let h).1
      obtain ⟨r, rfl, hrs⟩ : ∃ r, ap = .inr r ∧ RowS true r := by
        rcases oka _ ma1 with ⟨h, _⟩ | ⟨_, h⟩ | ⟨h, _⟩
        · exact absurd h (show ¬ (("axiom" : Str) = "grid") by decide +kernel)
        · exact h
        · exact absurd rfl (readT_let h).2
      cases dg
      have lk : kvs.length = acc.length := Paired.length pa
      have ndk : (kvs.map (·.1)).Nodup := by rw [parts_keys pa]; exact List.pairwise_map.mpr ((List.pairwise_map.mp nd).imp fun h e => h (Sum.inr.inj e))
      have one : ∀ kp ∈ acc, (kp.1.length = 1 ↔ LetS kp.1 = true) ∧ kp.1.length ≤ 10 := fun kp hk => by
        rcases oka kp hk with ⟨h, _⟩ | ⟨h, _⟩ | ⟨h, _⟩
        · rw [h]; exact ⟨by decide +kernel, by decide +kernel⟩
        · rw [h]; exact ⟨by decide +kernel, by decide +kernel⟩
        · exact ⟨⟨fun _ => h, fun _ => let_len h⟩, by rw [let_len h]; decide⟩
      refine ⟨D0, _, eD, trivial, fun od => ?_⟩
      have fB : upd H1 D0 (.frz od (.dK kvs)) D0 = some (.frz od (.dK kvs)) := upd_same
      have pa5 : PartsAt K (upd H1 D0 (.frz od (.dK kvs))) kvs acc := pa.tk (TK.put eD rfl)
      generalize e5 : upd H1 D0 (.frz od (.dK kvs)) = H5 at fB pa5
      refine ⟨_, rfl, D0, od, rfl, .inl ⟨kvs, fB, fun N nN => loop_keys (p := D0) (od := od) (kvs := kvs) (fun i H' => ∃ ps kv2, Same H5 H' ∧ H' N = some (.lst (ps.map V.ref)) ∧ Paired (fun a (kv : Key × V) => SqT K H' a [kV kv.1, kv.2]) ps kv2 ∧ RsP K H' kv2 (rulesOf (acc.take i)) ∧ ps.length ≤ i) ⟨[], [], Same.new nN, upd_same, .nil, .nil, Nat.le_refl _⟩ (fun i H' _ h => let ⟨_, _, h, _⟩ := h; h _ _ fB) ?_ ?_⟩⟩
      · rintro i k v H' e ⟨ps, kv2, s', eN, pr, rsp, lp⟩
        obtain ⟨kp, ekp, rfl, dv⟩ := parts_at pa5 e
        have li3 := (List.getElem?_eq_some_iff.mp e).1
        have mk := List.mem_of_getElem? ekp
        obtain ⟨o1, o2⟩ := one kp mk
        have et : acc.take (i + 1) = acc.take i ++ [kp] := by rw [List.take_add_one, ekp]; rfl
        refine ⟨rfl, _, rfl, kp.1, rfl, Nat.le_trans o2 (by rw [sizeLine_eq]; decide), rfl, _, rfl, ?_⟩
        by_cases l : LetS kp.1 = true
        · rw [show decide (V.int ((kp.1.length : Nat) : Int) = V.int 1) = true from decide_eq_true (by rw [o1.mpr l]; rfl)]
          obtain ⟨r', er, _⟩ : ∃ r, kp.2 = .inr r ∧ RowS true r := by
            rcases oka _ mk with ⟨h, _⟩ | ⟨h, _⟩ | ⟨_, h⟩
            · exact absurd h (readT_let l).1
            · exact absurd h (readT_let l).2
            · exact h
          have get : DGet H' D0 (.str kp.1) (valV kvs (.inr kp.1)) := .inl ⟨kvs, .inr kp.1, .inr ⟨od, s' _ _ fB⟩, rfl, rfl⟩
          rw [valV_at ndk e] at get
          have er2 : rulesOf [kp] = [(kp.1, r')] := by
            obtain ⟨y, p⟩ := kp
            cases er
            unfold rulesOf
            rw [List.filterMap_cons]
            dsimp only
            rw [if_pos l]
            rfl
          rw [er] at dv
          refine iteT ⟨_, rfl, _, rfl, _, rfl, D0, v, rfl, get, by show 2 ≤ sizeLine; decide, fun Tn nT => ?_⟩
          have sT := Same.new (o := .tup [.str kp.1, v]) nT
          have eN2 := sT _ _ eN
          have nTN : Tn ≠ N := fun z => by rw [z, eN] at nT; cases nT
          have tk : TK H' (upd (upd H' Tn (.tup [.str kp.1, v])) N (.lst (ps.map V.ref ++ [.ref Tn]))) := (TK.of sT).trans (TK.lk (LK.put eN2 rfl))
          refine ⟨_, eN2, by rw [List.length_map, sizeLine_eq]; omega, ps ++ [Tn], kv2 ++ [(.inr kp.1, v)], Same.over (s'.trans sT) nN _, by rw [upd_same, List.map_append]; rfl, ?_, ?_, by rw [List.length_append]; exact Nat.succ_le_succ lp⟩
          · exact paired_snoc (R := fun a (kv : Key × V) => SqT K _ a [kV kv.1, kv.2]) (b := (.inr kp.1, v)) (SqT.of ((upd_ne nTN).trans upd_same)) (_root_.L2.Paired.mapP (F := fun a (kv : Key × V) => SqT K H' a [kV kv.1, kv.2]) pr fun _ _ h => sqT_tk h tk)
          · rw [et, rulesOf_snoc, er2]
            exact rsP_snoc (yr := (kp.1, r')) (rsp.tk tk) (row_tk dv ((TK.of s').trans tk))
        · rw [show decide (V.int ((kp.1.length : Nat) : Int) = V.int 1) = false from decide_eq_false (fun z => l (o1.mp (by injection z with z; omega)))]
          have er2 : rulesOf [kp] = [] := by
            obtain ⟨y, p⟩ := kp
            cases p with
            | inl t => rfl
            | inr r =>
              unfold rulesOf
              rw [List.filterMap_cons]
              dsimp only
              rw [if_neg l]
              rfl
          refine iteF ⟨ps, kv2, s', eN, pr, ?_, Nat.le_succ_of_le lp⟩
          rw [et, rulesOf_snoc, er2, List.append_nil]
          exact rsp
      rintro H' ⟨ps, kv2, s', eN, pr, rsp, lp⟩
      rw [lk, List.take_length] at rsp
      have nND : N ≠ D0 := fun z => by rw [z, fB] at nN; cases nN
      have s6 : Same H1 (upd H' D0 (.dK kvs)) := lock_out eD (by rw [e5]; exact s')
      have eD6 : upd H' D0 (.dK kvs) D0 = some (.dK kvs) := upd_same
      have eN6 : upd H' D0 (.dK kvs) N = some (.lst (ps.map V.ref)) := (upd_ne nND).trans eN
      have tkD : TK H' (upd H' D0 (.dK kvs)) := TK.put (s' _ _ fB) rfl
      have ndr : ((rulesOf acc).map (·.1)).Nodup := nd.sublist rules_sub
      have rsp6 := rsp.tk tkD
      have da6 := row_tk da (TK.of s6)
      have pr6 : Paired (fun a (kv : Key × V) => SqT K (upd H' D0 (.dK kvs)) a [kV kv.1, kv.2]) ps kv2 := _root_.L2.Paired.mapP (F := fun a (kv : Key × V) => SqT K H' a [kV kv.1, kv.2]) pr fun _ _ h => sqT_tk h tkD
      refine ⟨s' _ _ fB, ?_⟩
      generalize upd H' D0 (.dK kvs) = H6 at *
      refine ⟨N, ps, kv2, rfl, SqL.of eN6, pr6, fun X nX => ?_⟩
      rw [show mergeK [] kv2 = kv2 from merge_new (by rw [List.nil_append, rsP_keys rsp6]; exact rkeys_nd ndr)]
      have sX := Same.new (o := .dK kv2) nX
      have hX : upd H6 X (.dK kv2) X = some (.dK kv2) := upd_same
      have rspX := rsp6.tk (TK.of sX)
      have daX := dp_same sX da6
      have eDX := sX _ _ eD6
      have s1X := s6.trans sX
      generalize upd H6 X (.dK kv2) = H7 at *
      refine fun D3 n3 => ?_
      have s3 := Same.new (o := .dK []) n3
      have gets7 : ∀ y : Str, DGet (upd H7 D3 (.dK [])) D0 (.str y) (valV kvs (.inr y)) := fun y => DGet.k (k := (.inr y : Key)) (s3 _ _ eDX)
      refine ⟨_, rfl, D0, _, rfl, by have z := gets7 "grid"; rw [eg] at z; exact z, _, rfl, D0, _, rfl, by have z := gets7 "axiom"; rw [ea] at z; exact z, _, rfl, upd_same, [((.inr "grid" : Key), .str (nm t)), (.inr "axiom", av), (.inr "rules", .ref X)], rfl, by show 3 ≤ 15; decide, ?_⟩
      have sD3 : Same H7 (upd (upd H7 D3 (.dK [])) D3 (.dK (mergeK [] [((.inr "grid" : Key), .str (nm t)), (.inr "axiom", av), (.inr "rules", .ref X)]))) := Same.over s3 n3 _
      have hD3 : upd (upd H7 D3 (.dK [])) D3 (.dK (mergeK [] [((.inr "grid" : Key), .str (nm t)), (.inr "axiom", av), (.inr "rules", .ref X)])) D3 = some (.dK [((.inr "grid" : Key), .str (nm t)), (.inr "axiom", av), (.inr "rules", .ref X)]) := upd_same
      generalize upd (upd H7 D3 (.dK [])) D3 (.dK (mergeK [] [((.inr "grid" : Key), .str (nm t)), (.inr "axiom", av), (.inr "rules", .ref X)])) = HD at *
      have s1D := (s1.trans s1X).trans sD3
      have rows : ∀ yr ∈ rulesOf acc, RowS true yr.2 ∧ LetS yr.1 = true := fun yr hy => ⟨rules_row oka hy, (rules_mem hy).2⟩
      have rsA : RsAt K HD kv2 (rulesOf acc) := rsAt_of (rspX.tk (TK.of sD3)) (fun yr hy => Nat.le_trans (rows yr hy).1.most (by decide))
      have lrs : (rulesOf acc).length ≤ 20 := by
        have z := rules_sub (acc := acc)
        have z := z.length_le
        rw [List.length_map, List.length_map] at z
        omega
      have lok : ∀ row ∈ r :: (rulesOf acc).map (·.2), ∀ it ∈ row, PyData.strOk it.1 = true := fun row hr it hi => by
        rcases List.mem_cons.mp hr with e | hr
        · rw [e] at hi; exact let_ok (hrs.all it hi).l
        · obtain ⟨yr, m, rfl⟩ := List.mem_map.mp hr
          exact let_ok ((rows yr m).1.all it hi).l
      refine ⟨_, rfl, D3, t, av, X, r, rulesOf acc, kv2, rfl, hD3, dp_same sD3 daX, sD3 _ _ hX, rsA, ndr, lrs, rowS_W hrs, fun yr hy => ⟨rowS_W (rows yr hy).1, by rw [let_len (rows yr hy).2]; decide⟩, lok, fun okk H4 s4 => ⟨_, rfl, iteT ⟨_, rfl, ?_⟩⟩, fun no H4 s4 => ⟨_, rfl, iteF ?_⟩⟩
      · exact good acc t r esc mg1 ma1 okk D3 H4 (s1D.trans s4) ⟨av, X, kv2, s4 _ _ hD3, dp_same (sD3.trans s4) daX, s4 _ _ (sD3 _ _ hX), rsA.same s4⟩
      · refine none_ acc esc (fun t' r' h1 h2 ok => ?_) H4 (s1D.trans s4)
        obtain rfl := Sum.inl.inj (nd_uniq nd h1 mg1)
        obtain rfl := Sum.inr.inj (nd_uniq nd h2 ma1)
        exact no ok
end
end K13
namespace K13
open PySem PySem.Spec PyProof.Rows L2 GL SkE PySem.GLE LamX
noncomputable abbrev s__law_told : Stmt := topS 77
noncomputable abbrev N__law_told : List Str := ["_law_call", "e"]
theorem sc__law_told : FnScope N__law_told ["_law_call"] (defScope s__law_told) := ⟨rfl, rfl, rfl, by decide +kernel, rfl, by decide +kernel, by decide +kernel⟩
theorem takes_len {X : Cx} {W : WX} (tk : Takes X W) : Takes X (fun cls d σ H => σ.length = X.N.length → W cls d σ H) := fun u s' ⟨a, B, sI, pins, σ, H, cls, d, e, I, nb, up, sky, na, os, ag, w⟩ =>
  tk u s' ⟨a, B, sI, pins, σ, H, cls, d, e, I, nb, up, sky, na, os, ag, w I.len⟩
/-- what an error that leaves the call is told as -/
inductive ToldW (eS : Addr) (es : Es) (H : Hp) : Value → Option Addr → V → Prop
  | scheme (d : Option Addr) : ToldW eS es H (.ref eS) d .non
  | parse {d : Addr} {v : V} : H d = some (.xd [("number", v)]) → ToldW eS es H (.ref es.P) (some d) v
/-- what is told of a call that may raise -/
noncomputable def TTold (K : PySem.W.Frag) (eS : Addr) (es : Es) : (XK → Hp → VK → Prop) → Hp → VK → Prop := fun tl H Q =>
  tl (fun cls d H' => ∃ w, ToldW eS es H' cls d w ∧ Q w H') H (fun x H1 => ∃ a C dx fs v, x = .ref a ∧ H1 a = some (.ins C dx fs) ∧ Cls K C ∧ NoAttr K C "lines" ∧ fs.lookup ("lines" : Str) = some v ∧ Q v H1)
structure ToldT (K : PySem.W.Frag) (mg : Str → Option Value) (eS : Addr) (es : Es) : Prop where
  gS : mg "InvalidScheme" = some (.ref eS)
  eP : ErrTxt K mg "ParseError" "number" es.P es.iP
  ss : PySem.W.exmOne K (.ref eS) (.ref eS) = some true
  sp : PySem.W.exmOne K (.ref eS) (.ref es.P) = some false
  pp : PySem.W.exmOne K (.ref es.P) (.ref es.P) = some true
noncomputable def tsP (C : Addr) : Addr → Value → Option Addr → TS := fun a cls d => tRet (tXf a cls d C "number" (tVar 1))
noncomputable def clausesT (eS : Addr) (es : Es) : List Cls1 := [⟨.ref es.P, some 1, tsP es.P⟩, ⟨.ref eS, none, fun _ _ _ => tRet (tC .non)⟩]
section
variable {K : PySem.W.Frag} {mg : Str → Option Value} {eS : Addr} {es : Es}
theorem told_wish (T : ToldT K mg eS es) {cls : Value} {d : Option Addr} {w : V} {H : Hp} {σ : L2.St} {D : Ends} (m : ToldW eS es H cls d w) (l : σ.length = 2) (q : D.rt w H) : wCls K (fun _ _ _ _ => False) D (clausesT eS es) cls d σ H := by
  have set1 : ∀ a : Addr, (σ.set 1 (some (V.ref a)))[1]? = some (some (.ref a)) := fun a => by
    rw [List.getElem?_set_self (by omega)]
  cases m with
  | scheme d => exact ⟨false, T.sp, (fun z => nomatch z), fun _ => ⟨true, T.ss, fun _ a _ => q, fun z => nomatch z⟩⟩
  | parse e => exact ⟨true, T.pp, fun _ a _ => ⟨_, set1 a, rfl, rfl, _, _, _, rfl, e, by simp [List.lookup], q⟩, fun z => nomatch z⟩
theorem told_gives {X : Cx} (T : ToldT X.K X.mg eS es) {g : Addr} {cdg : Value} {q : Str} :
    GivesTo X N__law_told "_law_told" (defScope s__law_told) g cdg (defBody s__law_told) "_law_call" q (TTold X.K eS es) := by
  intro f c' s H Q tl act hc h
  refine ⟨_, pss_one (ps_clauses (X := (cxOf C8.CX0 X.prog X.w X.K X.mg X.base N__law_told "_law_told" (defScope s__law_told) g cdg X.A X.stack s H C8.E0).nox) (W0 := fun _ _ _ _ => False) (l := clausesT eS es)
      (tb := fun W D σ H => ∃ Ech : XK, (∀ cls d σ' H', σ'.length = 2 → Ech cls d H' → W cls d σ' H') ∧ tRet (tFld X.K (fun σ H Q => σ[0]? = some (some (.ref f)) ∧ H c' = some (CodeO c' q) ∧ tl Ech H Q) "lines") D σ H)
      rfl rfl takes_none5 (fun W pn xe tk _ => ?_)
      (.named ⟨rfl, by decide, .inl T.eP.gC⟩ sc__law_told.nd rfl rfl (fun a oe cls d pn hz hf => pss_one (ps_ret (pe_xf ⟨T.eP.ga, T.eP.gg, T.eP.exC, T.eP.hdC⟩ T.eP.noN hz hf (pv 1))))
      (.bare ⟨rfl, by decide, .inl T.gS⟩ (fun a oe cls d pn hz hf => pss_one (ps_ret pe_non))
      .nil))), ?_⟩
  · refine ⟨fun pins s' σ H' D I h' => ?_⟩
    obtain ⟨Ech, toW, h1⟩ := h'
    have tk2 := takes_len tk
    have hp := fun p1 p2 => act _ pn xe Ech p1 p2 tk2 (fun cls d σ' H' e l => toW cls d σ' H' l e)
    exact (pss_one (ps_ret (pe_fld (hp _ _) rfl))).run pins s' σ H' D I h1
  · exact ⟨fun cls d H' => ∃ w, ToldW eS es H' cls d w ∧ Q w H', fun cls d σ' H' l ⟨w, m, qw⟩ => told_wish T m l qw, rfl, hc, h⟩
end
/-- _law_told(lambda: body) -/
theorem pe_told {X : Cx} {cT : List (Addr × Str)} {c P eS : Addr} {es : Es} {k : Nat} {params : Arguments} {body : Expr} {scope : Scope} {t : XK → TE} {p lpos pos : Pos} (D : Df X.K X.mg "_law_told" s__law_told) (TT : ToldT X.K X.mg eS es)
    (glX : Gl X "_law_told") (TB : TabB X.base X.mg c P) (codeX : X.env.code = .ref c) (inT : (P, X.env.qual ++ "<lambda>") ∈ cT) (oneT : ∀ p ∈ cT, p.1 = P → p.2 = X.env.qual ++ "<lambda>") (gd : Gd X.A) (hr : Room (k + 2) X.A) (L : LamS X.env.scope scope) (noDef : defaultsOf params X.env = ([], []))
    (bindN : ∀ (q : Str) (cl : List (Str × Addr)) (pm cv ctv : Value), bindArgs (PySem.W.kla_fn "<lambda>" q params body scope cl pm cv ctv) ⟨[], []⟩ = pure [])
    (inBody : ∀ (A : Around) (outer : List Env) (s : Shared) (H : Hp) (E : XK) (f c' : Addr), Gd (A.deeper (lamEnv X scope s.heap.objs.size f c')) → Room k (A.deeper (lamEnv X scope s.heap.objs.size f c')) → PE (lamCx X A outer s H E scope f c') body (t E)) :
    PE X (.Call (.Name "_law_told" p) [.Lambda params body scope lpos] [] pos) (tLam cT (TTold X.K eS es) t) := by
  obtain ⟨g, fd, F, m⟩ := D.ex
  obtain ⟨oc, od, kV, doc, pm, an, cdv, ct, osl, rfl, lk, hcd⟩ := F.ex
  exact pe_lam glX m F.kp lk hcd (F.binds (ps := ["_law_call"]) (fun kV doc pm an cdv ct us hl => match us, hl with | [_], _ => rfl)) sc__law_told rfl (.inl rfl) (told_gives TT) TB codeX inT oneT hr L noDef bindN gd inBody
/-- what is told of values that are read as lines -/
noncomputable def ToldG (K : PySem.W.Frag) (H : Hp) (os : List (Option Str)) (v : V) : Prop :=
  (∃ i, scanL os [] 0 = .inl i ∧ v = .int (i : Nat)) ∨
  (∃ acc, scanL os [] 0 = .inr acc ∧ (∀ t r, (("grid" : Str), (Sum.inl t : Bool ⊕ RowT)) ∈ acc → (("axiom" : Str), (Sum.inr r : Bool ⊕ RowT)) ∈ acc → ¬ SchOk t r (rulesOf acc)) ∧ v = .non) ∨
  (∃ acc t r ss, scanL os [] 0 = .inr acc ∧ (("grid" : Str), (Sum.inl t : Bool ⊕ RowT)) ∈ acc ∧ (("axiom" : Str), (Sum.inr r : Bool ⊕ RowT)) ∈ acc ∧ SchOk t r (rulesOf acc) ∧ ss.Perm (rulesOf acc) ∧ sortedS (ss.map (·.1)) = true ∧ Dp K H v (.tuple ((linesT t r ss).map PyData.str)))
/-- .. and what is due -/
noncomputable def DueG (K : PySem.W.Frag) (H : Hp) (os : List (Option Str)) (v : V) : Prop :=
  (∃ i, scanL os [] 0 = .inl i ∧ v = .int (i : Nat)) ∨
  (∃ acc, scanL os [] 0 = .inr acc ∧ (∀ t r, (("grid" : Str), (Sum.inl t : Bool ⊕ RowT)) ∈ acc → (("axiom" : Str), (Sum.inr r : Bool ⊕ RowT)) ∈ acc → ¬ SchOk t r (rulesOf acc)) ∧ v = .non) ∨
  (∃ acc t r q, scanL os [] 0 = .inr acc ∧ (("grid" : Str), (Sum.inl t : Bool ⊕ RowT)) ∈ acc ∧ (("axiom" : Str), (Sum.inr r : Bool ⊕ RowT)) ∈ acc ∧ SchOk t r (rulesOf acc) ∧ v = .ref q ∧ PlAt K H q t r (rulesOf acc))
theorem due_all {K : PySem.W.Frag} {a : Addr} {xs : List V} {os : List (Option Str)} {H : Hp} {Q : VK} {E : XK} (ha : SqL K H a xs) (rd : RdsV K H xs os) (h : ∀ v H', Same H H' → DueG K H' os v → Q v H') : spDue K [.ref a] H Q E :=
  ⟨a, xs, os, rfl, ha, rd, fun i e H' s => h _ _ s (.inl ⟨i, e, rfl⟩), fun acc e no H' s => h _ _ s (.inr (.inl ⟨acc, e, no, rfl⟩)), fun acc t r e m1 m2 ok q H' s pl => h _ _ s (.inr (.inr ⟨acc, t, r, q, e, m1, m2, ok, rfl, pl⟩))⟩
theorem rdsV_same {K : PySem.W.Frag} {M M' : Hp} {xs : List V} {os : List (Option Str)} (h : Paired (RdV K M) xs os) (s : Same M M') : Paired (RdV K M') xs os := _root_.L2.Paired.mapP h fun _ _ h => h.same s
/-- a told call of from_lines -/
theorem told_go {K : PySem.W.Frag} {C CR CS eS : Addr} {U : Bool → Addr} {es : Es} {cT : List (Addr × Str)} {M H : Hp} {xs : List V} {os : List (Option Str)} {ts : TA} {σ : L2.St} {Q : VK} (sc : SCls K CS) (tabs : Tabs cT H) (hM : ∀ H1, ExtN H H1 → Same M H1) (rd : Paired (RdV K M) xs os) (few : xs.length ≤ 100)
    (args : ∀ H1 (Q1 : List V → Hp → Prop), Q1 xs H1 → ts σ H1 Q1) (next : ∀ v H', ExtN H H' → Tabs cT H' → ToldG K H' os v → Q v H') :
    tLam cT (TTold K eS es) (fun E => ClX.tCMeth CS (StarP ["cls"] (spFromIn K C U CR CS eS es)) E (tC (V.ref CS)) ts) σ H Q := by
  refine ⟨tabs, fun H1 ex tb => ?_⟩
  refine ⟨rfl, args _ _ ⟨[.ref CS], xs, rfl, rfl, Nat.le_trans few (by decide), fun p np => ?_⟩⟩
  have sp := Same.new (o := .tup xs) np
  have go : ∀ {H'}, Same (upd H1 p (.tup xs)) H' → ExtN H H' ∧ Tabs cT H' := fun s => ⟨ex.trans (ExtN.of (sp.trans s)), tb.ext (sp.trans s)⟩
  refine ⟨p, xs, os, rfl, upd_same, rdsV_same rd ((hM H1 ex).trans sp), few, fun i e d H' s' ed => ⟨_, .parse ed, next _ _ (go s').1 (go s').2 (.inl ⟨i, e, rfl⟩)⟩, fun acc e no H' s' => ⟨_, .scheme none, next _ _ (go s').1 (go s').2 (.inr (.inl ⟨acc, e, no, rfl⟩))⟩, fun acc t r e m1 m2 ok ss p' H' s' pm srt sch => ?_⟩
  obtain ⟨dx, _, _, _, _, _, _, ln, _, _, _, _, eP, _, _, _, _, _, _, dln, _⟩ := sch
  exact ⟨_, _, _, _, _, rfl, eP, sc.cls, sc.lines, rfl, next _ _ (go s').1 (go s').2 (.inr (.inr ⟨acc, t, r, ss, e, m1, m2, ok, pm, srt, dln⟩))⟩
end K13
namespace K13
open PySem PySem.Spec PyProof.Rows L2 GL SkE PySem.GLE LamX
theorem nx_go {D : Ends} {σ : L2.St} {H : Hp} (h : D.nx σ H) : tNext D σ H := h
theorem seq_go {t u : TS} {D : Ends} {σ : L2.St} {H : Hp} (h : t { D with nx := u D } σ H) : tSeq t u D σ H := h
theorem asg_go {t : TE} {g : TG} {D : Ends} {σ : L2.St} {H : Hp} (h : t σ H fun v H1 => g v σ H1 D.nx) : tAsg t g D σ H := h
theorem name_go {i : Nat} {v : V} {σ : L2.St} {H : Hp} {Q : L2.St → Hp → Prop} (h : Q (σ.set i (some v)) H) : gName i v σ H Q := h
/-- all but tables stay -/
noncomputable def NT (M M' : Hp) : Prop := ∀ b o, M b = some o → (∀ ps, o ≠ .tbl ps) → M' b = some o
section
variable {K : PySem.W.Frag} {M M' : Hp} {p : Addr} {H H' : Hp}
theorem sqL_nt {a : Addr} {xs : List V} (h : SqL K M a xs) (s : NT M M') : SqL K M' a xs := by
  rcases h with (z | ⟨o, z⟩) | z
  · exact .inl (.inl (s _ _ z (fun _ z => by cases z)))
  · exact .inl (.inr ⟨o, s _ _ z (fun _ z => by cases z)⟩)
  · exact .inr z
theorem sqT_nt {a : Addr} {xs : List V} (h : SqT K M a xs) (s : NT M M') : SqT K M' a xs := by
  rcases h with (z | ⟨o, z⟩) | z
  · exact .inl (.inl (s _ _ z (fun _ z => by cases z)))
  · exact .inl (.inr ⟨o, s _ _ z (fun _ z => by cases z)⟩)
  · exact .inr z
mutual
theorem dp_nt (s : NT M M') : ∀ {v : V} {d : PyData}, Dp K M v d → Dp K M' v d
  | _, _, .non => .non
  | _, _, .bl b => .bl b
  | _, _, .int i => .int i
  | _, _, .str x => .str x
  | _, _, .lst h a => .lst (sqL_nt h s) (dps_nt s a)
  | _, _, .tup h a => .tup (sqT_nt h s) (dps_nt s a)
theorem dps_nt (s : NT M M') : ∀ {vs : List V} {ds : List PyData}, DpAll K M vs ds → DpAll K M' vs ds
  | _, _, .nil => .nil
  | _, _, .cons h a => .cons (dp_nt s h) (dps_nt s a)
end
theorem wo_mask : NT (wo p H) (mask p H) := fun b o e n => mask_at (wo_same _ _ e) (fun z => by rw [z, wo_D] at e; cases e) n
theorem mask_mono (s : Same H H') : Same (mask p H) (mask p H') := fun b o e => let ⟨a, n, t⟩ := mask_of e; mask_at (s _ _ a) n t
theorem mask_got (g : Got p H H') : Same (mask p H) (mask p H') := fun b o e => let ⟨a, n, t⟩ := mask_of e; mask_at (g.keep _ _ a n) n t
theorem mask_ext (g : ExtN H H') : Same (mask p H) (mask p H') := fun b o e => let ⟨a, n, t⟩ := mask_of e; mask_at (g _ _ a t) n t
theorem die_ext (d : Die H p) (g : ExtN H H') : Die H' p := let ⟨l, b, c, h0, e⟩ := d; ⟨l, b, c, h0, g _ _ e (fun _ z => by cases z)⟩
theorem die_no (d : Die H p) : H p ≠ none := by obtain ⟨_, _, _, _, e⟩ := d; rw [e]; simp
theorem tabs_got {cT : List (Addr × Str)} (t : Tabs cT H) (d : Die H p) (g : Got p H H') : Tabs cT H' := by
  obtain ⟨xs, e0⟩ := die_lst d
  exact tabs_keep t (fun b o e n => g.keep b o e (fun z => by rw [z, e0] at e; cases e; exact n _ rfl))
end
section
variable {K : PySem.W.Frag} {H H' : Hp} {x : V} {σ : L2.St} {t : TE} {ts : TA} {d : PyData} {ds : List PyData} {n : Nat} {p : Addr}
theorem hpk {p : Addr} (s : Same H H') (h : H p ≠ none) : H' p ≠ none := by
  cases e : H p with
  | none => exact absurd e h
  | some o => rw [s _ _ e]; simp
theorem np_ne {p q : Addr} (h : H p ≠ none) (n : H q = none) : q ≠ p := fun z => h (by rw [← z]; exact n)
/-- what is made beside p: data that p is no part of -/
noncomputable def MkV (K : PySem.W.Frag) (p : Addr) (σ : L2.St) (t : TE) (d : PyData) : Prop := ∀ H Q, H p ≠ none → (∀ v H', Same H H' → Dp K (wo p H') v d → Q v H') → t σ H Q
noncomputable def MkA (K : PySem.W.Frag) (p : Addr) (σ : L2.St) (ts : TA) (ds : List PyData) : Prop := ∀ H Q, H p ≠ none → (∀ vs H', Same H H' → DpAll K (wo p H') vs ds → Q vs H') → ts σ H Q
variable {p : Addr}
theorem mv_str {y : Str} : MkV K p σ (tC (.str y)) (.str y) := fun H Q _ k => k _ H same_rfl (.str y)
theorem ma_nil : MkA K p σ tNil [] := fun H Q _ k => k [] H same_rfl .nil
theorem ma_cons (a : MkV K p σ t d) (b : MkA K p σ ts ds) : MkA K p σ (tCons t ts) (d :: ds) := fun H Q hp k => a H _ hp fun v H1 s1 dv => b H1 _ (hpk s1 hp) fun vs H2 s2 dvs => k _ H2 (s1.trans s2) (.cons (dp_same (wo_mono s2) dv) dvs)
theorem mv_tup (a : MkA K p σ ts ds) (few : ds.length ≤ 1000 := by simp) : MkV K p σ (tTup ts) (.tuple ds) := fun H Q hp k => a H _ hp fun vs H1 s1 dv => ⟨by rw [dLen dv, sizeLine_eq]; omega, fun q nq => k _ _ (s1.trans (Same.new nq)) (.tup (SqT.of (wo_at upd_same (np_ne (hpk s1 hp) nq))) (dps_same (wo_mono (Same.new nq)) dv))⟩
theorem mv_lst (a : MkA K p σ ts ds) (few : ds.length ≤ 1000 := by simp) : MkV K p σ (tLst ts) (.list ds) := fun H Q hp k => a H _ hp fun vs H1 s1 dv => ⟨by rw [dLen dv, sizeLine_eq]; omega, fun q nq => k _ _ (s1.trans (Same.new nq)) (.lst (SqL.of (wo_at upd_same (np_ne (hpk s1 hp) nq))) (dps_same (wo_mono (Same.new nq)) dv))⟩
theorem sqT_wo {q : Addr} {xs : List V} (h : SqT K (wo p H) q xs) : SqT K H q xs := sqT_same h wo_same
end
/-! ### lists of values of which G holds, beside the dice p -/
noncomputable def MonoG (G : Hp → V → Prop) : Prop := ∀ M M' x, Same M M' → G M x → G M' x
noncomputable def T1 (p : Addr) (H0 : Hp) (σ : L2.St) (t : TE) (G : Hp → V → Prop) : Prop := ∀ H Q, Same H0 H → (∀ v H', Same H H' → G (mask p H') v → Q v H') → t σ H Q
noncomputable def TN (p : Addr) (H0 : Hp) (σ : L2.St) (ts : TA) (n : Nat) (G : Hp → V → Prop) : Prop := ∀ H Q, Same H0 H → (∀ vs H', Same H H' → (∀ v ∈ vs, G (mask p H') v) → vs.length = n → Q vs H') → ts σ H Q
noncomputable def TL (p : Addr) (H0 : Hp) (σ : L2.St) (t : TE) (n : Nat) (G : Hp → V → Prop) : Prop := ∀ H Q, Same H0 H → (∀ l vs H', Same H H' → H l = none → H' l = some (.lst vs) → (∀ v ∈ vs, G (mask p H') v) → vs.length = n → Q (.ref l) H') → t σ H Q
section
variable {K : PySem.W.Frag} {p : Addr} {H0 : Hp} {σ : L2.St} {t t2 : TE} {ts : TA} {n m : Nat} {G : Hp → V → Prop} {d : PyData}
theorem t1_str {y : Str} (g : ∀ H, G H (.str y)) : T1 p H0 σ (tC (.str y)) G := fun H Q _ k => k _ H same_rfl (g _)
theorem t1_int {i : Int} (g : ∀ H, G H (.int i)) : T1 p H0 σ (tC (.int i)) G := fun H Q _ k => k _ H same_rfl (g _)
theorem t1_non (g : ∀ H, G H .non) : T1 p H0 σ (tC .non) G := fun H Q _ k => k _ H same_rfl (g _)
theorem t1_data (hp : H0 p ≠ none) (a : MkV K p σ t d) (g : ∀ H v, Dp K H v d → G H v) : T1 p H0 σ t G := fun H Q s k => a H Q (hpk s hp) fun v H' s' dv => k v H' s' (g _ _ (dp_nt wo_mask dv))
theorem tn_nil : TN p H0 σ tNil 0 G := fun H Q _ k => k [] H same_rfl (fun v h => by cases h) rfl
theorem tn_cons (mo : MonoG G) (a : T1 p H0 σ t G) (b : TN p H0 σ ts n G) : TN p H0 σ (tCons t ts) (n + 1) G := fun H Q s k => a H _ s fun v H1 s1 g1 => b H1 _ (s.trans s1) fun vs H2 s2 g l => k _ H2 (s1.trans s2) (fun y hy => by
  rcases List.mem_cons.mp hy with rfl | z
  · exact mo _ _ _ (mask_mono s2) g1
  · exact g y z) (by rw [List.length_cons, l])
theorem none_of {H H' : Hp} {a : Addr} (s : Same H H') (n : H' a = none) : H a = none := by
  cases e : H a with
  | none => rfl
  | some o => rw [s _ _ e] at n; cases n
theorem tl_lst (mo : MonoG G) (b : TN p H0 σ ts n G) (few : n ≤ 1000 := by decide) : TL p H0 σ (tLst ts) n G := fun H Q s k => b H _ s fun vs H1 s1 g l => ⟨by rw [l, sizeLine_eq]; omega, fun q nq => k q vs _ (s1.trans (Same.new nq)) (none_of s1 nq) upd_same (fun v hv => mo _ _ _ (mask_mono (Same.new nq)) (g v hv)) l⟩
end
theorem sch_perm {t : Bool} {r : RowT} {rs ss : Rls} (pm : ss.Perm rs) (ok : SchOk t r rs) : SchOk t r ss := ⟨ok.ax, ok.one, by rw [pm.length_eq]; exact ok.lo, by rw [pm.length_eq]; exact ok.hi, (pm.map _).nodup_iff.mpr ok.nd, fun yr h => ok.lets yr (pm.mem_iff.mp h), fun yr h => ok.rows yr (pm.mem_iff.mp h), complB_perm pm ok.compl, fun yr h zr h2 => ok.same yr (pm.mem_iff.mp h) zr (pm.mem_iff.mp h2), fun yr h => ok.wide yr (pm.mem_iff.mp h)⟩
theorem join_ok {sep : Str} (o : PyData.strOk sep = true) : ∀ {ys : List Str}, (∀ y ∈ ys, PyData.strOk y = true) → PyData.strOk (Txt.join sep ys) = true := by
  intro ys
  show _ → PyData.strOk (Builtin.Str.glued sep ys) = true
  rw [StrLaws.glued_eq_join]
  induction ys with
  | nil => intro _; show PyData.strOk Str.empty = true; decide +kernel
  | cons y r ih =>
    intro h
    cases r with
    | nil => exact h y (List.mem_cons_self ..)
    | cons z r => exact app_ok (app_ok (h y (List.mem_cons_self ..)) o) (ih (fun v hv => h v (List.mem_cons_of_mem _ hv)))
theorem lines_ok {t : Bool} {r : RowT} {ss : Rls} (ok : SchOk t r ss) : ∀ y ∈ linesT t r ss, PyData.strOk y = true := by
  have rok : ∀ {r : RowT}, (∀ it ∈ r, ItemOk t it) → PyData.strOk (rowT r) = true := fun h => join_ok (by decide +kernel) (fun y hy => by obtain ⟨it, m, rfl⟩ := List.mem_map.mp hy; exact app_ok (let_ok (h it m).l) (ofS_ok _))
  have k0 : PyData.strOk Str.empty = true := by decide +kernel
  intro y hy
  unfold linesT at hy
  rcases List.mem_append.mp hy with hy | hy
  · simp only [List.mem_cons, List.not_mem_nil, or_false] at hy
    rcases hy with rfl | rfl
    · cases t <;> decide +kernel
    · exact app_ok (app_ok k0 (ofS_ok _)) (rok ok.ax.all)
  · obtain ⟨yr, m, rfl⟩ := List.mem_map.mp hy
    unfold ruleT
    exact app_ok (app_ok (app_ok (app_ok k0 (ofS_ok _)) (let_ok (ok.lets yr m))) (ofS_ok _)) (rok (ok.rows yr m).all)
theorem strs_self : ∀ (ys : List Str), PyData.eqvAll (ys.map PyData.str) (ys.map PyData.str) = true
  | [] => rfl
  | y :: r => by
    rw [List.map_cons]
    show (PyData.eqv (.str y) (.str y) && PyData.eqvAll (r.map PyData.str) (r.map PyData.str)) = true
    rw [strs_self r, Bool.and_true]
    show (y == y) = true
    exact beq_self_eq_true y
theorem ssof_of {rs ss : Rls} (nd : (rs.map (·.1)).Nodup) (pm : ss.Perm rs) : ssOf rs (ss.map (·.1)) = ss := by
  unfold ssOf
  rw [List.map_map]
  refine (List.map_congr_left fun yr hy => ?_).trans (List.map_id _)
  show (yr.1, rowOf rs yr.1) = yr
  rw [rowOf_mem nd (pm.mem_iff.mp hy)]
theorem ss_uniq {rs a b : Rls} (nd : (rs.map (·.1)).Nodup) (pa : a.Perm rs) (pb : b.Perm rs) (sa : sortedS (a.map (·.1)) = true) (sb : sortedS (b.map (·.1)) = true) : a = b := by
  have e := sorted_uniq sa sb ((pa.trans pb.symm).map (·.1))
  rw [← ssof_of nd pa, ← ssof_of nd pb, e]
theorem rsAt_nt {K : PySem.W.Frag} {M M' : Hp} {kvs : List (Key × V)} {rs : Rls} (h : RsAt K M kvs rs) (s : NT M M') : RsAt K M' kvs rs := _root_.L2.Paired.mapP h fun a b ⟨h1, h2, h3⟩ => ⟨h1, dp_nt s h2, h3⟩
theorem DueG.nt {K : PySem.W.Frag} {H H' : Hp} {os : List (Option Str)} {v : V} (h : DueG K H os v) (s : NT H H') : DueG K H' os v := h.imp id (fun h => h.imp id fun ⟨acc, t, r, q, a, b, c, d, e, ax, x, kvs, h1, h2, h3, h4⟩ => ⟨acc, t, r, q, a, b, c, d, e, ax, x, kvs, s _ _ h1 (fun _ z => by cases z), dp_nt s h2, s _ _ h3 (fun _ z => by cases z), rsAt_nt h4 s⟩)
theorem DueG.same {K : PySem.W.Frag} {H H' : Hp} {os : List (Option Str)} {v : V} (h : DueG K H os v) (s : Same H H') : DueG K H' os v := h.nt fun b o e _ => s b o e
theorem scan_small : ∀ {os : List (Option Str)} {acc : List (Str × (Bool ⊕ RowT))} {n i : Nat}, scanL os acc n = .inl i → i < n + os.length
  | [], _, _, _, h => nomatch h
  | o :: os, acc, n, i, h => by
    unfold scanL at h
    rw [List.length_cons]
    split at h
    · cases h; omega
    · split at h
      · cases h; omega
      · have z := scan_small h
        omega
theorem scan_ok : ∀ {os : List (Option Str)} {acc a : List (Str × (Bool ⊕ RowT))} {n : Nat}, scanL os acc n = .inr a → (∀ kp ∈ acc, PartOk kp) → (acc.map (·.1)).Nodup → (∀ kp ∈ a, PartOk kp) ∧ (a.map (·.1)).Nodup
  | [], acc, a, n, h, ok, nd => by cases h; exact ⟨ok, nd⟩
  | o :: os, acc, a, n, h, ok, nd => by
    unfold scanL at h
    split at h
    · cases h
    · rename_i kp e
      split at h
      · cases h
      · rename_i nm
        refine scan_ok h (fun z hz => ?_) ?_
        · rcases List.mem_append.mp hz with hz | hz
          · exact ok z hz
          · rw [List.mem_singleton.mp hz]
            cases o with
            | none => cases e
            | some y => exact readT_ok e
        · rw [List.map_append]
          exact List.nodup_append.mpr ⟨nd, by simp, fun a ha b hb => by rw [List.mem_singleton.mp hb]; exact fun q => nm (by rw [q] at ha; exact ha)⟩
theorem nine_of {α : Type} : ∀ {l : List α}, l.length = 9 → ∃ y0 y1 y2 y3 y4 y5 y6 y7 y8, l = [y0, y1, y2, y3, y4, y5, y6, y7, y8]
  | [y0, y1, y2, y3, y4, y5, y6, y7, y8], _ => ⟨y0, y1, y2, y3, y4, y5, y6, y7, y8, rfl⟩
theorem pre_of {xs r ys : List V} {n : Nat} (ey : (xs ++ r).take 9 = ys) (l : xs.length = n) (h : n ≤ 9) : xs = ys.take n := by
  rw [← ey, List.take_take, Nat.min_eq_left h, List.take_append_of_le_length (by omega), List.take_of_length_le (by omega)]
end K13
namespace K13
open PySem PySem.Spec PyProof.Rows L2 GL SkE PySem.GLE LamX
noncomputable abbrev s__law_values_right : Stmt := topS 79
noncomputable abbrev N__law_values_right : List Str := ["_law_values", "_law_due_here", "_law_rest", "_law_nine", "_law_told_here", "_law_eight", "_law_five", "_law_four", "_law_one", "_law_seven", "_law_six", "_law_three", "_law_two"]
theorem sc__law_values_right : FnScope N__law_values_right ["_law_values"] (defScope s__law_values_right) := ⟨rfl, rfl, rfl, by decide +kernel, rfl, by decide +kernel, by decide +kernel⟩
noncomputable def spVals (K : PySem.W.Frag) (cT : List (Addr × Str)) : Sp := fun vs H Q _ => ∃ a M xs os, vs = [.ref a] ∧ (∀ H1, ExtN H H1 → Same M H1) ∧ M a = some (.lst xs) ∧ RdsV K M xs os ∧ Tabs cT H ∧ (∀ H', ExtN H H' → Tabs cT H' → Q (.bl true) H')
section
variable {P : Program} {w : World} {K : PySem.W.Frag} {mg : Str → Option Value} {base : Heap}
variable {aG dU C CR CS eG eS : Addr} {es : Es} {U : Bool → Addr} {us : Bool → List Addr}
variable {cT : List (Addr × Str)} {cA PA : Addr}
theorem h_values_right (T : TxR K mg aG dU C CR CS eG eS es) (sc : SCls K CS) (MD : Df K mg "_law_told" s__law_told) (TT : ToldT K mg eS es)
    (TB : TabB base mg cA PA) (inT : (PA, (("_law_values_right" : Str) ++ ".<locals>.") ++ "<lambda>") ∈ cT) (oneT : ∀ p ∈ cT, p.1 = PA → p.2 = (("_law_values_right" : Str) ++ ".<locals>.") ++ "<lambda>")
    (h_law_due : Has P w K mg base CX0 "_law_due" 4 ["_law_values"] (spDue K))
    (h_law_lines : Has P w K mg base CX0 "_law_lines" 2 ["_law_plain_here"] (spLLines K))
    (hm_from_lines : HasCMv P w K mg base (L2.CX P w) CS "from_lines" 12 (StarP ["cls"] (spFromIn K C U CR CS eS es)))
    (D : Dl K mg "_law_values_right" s__law_values_right cA) :
    Has P w K mg base CX0 "_law_values_right" 16 ["_law_values"] (spVals K cT) := by
  refine D.hasL sc__law_values_right (fun vs H Q E h => ?_) (fun kV doc pm an cdv ct us hl => match us, hl with | [_], _ => rfl) (fun f A outer s H vs Q E gd hr h => ?_)
  · obtain ⟨a, M, xs, os, rfl, _⟩ := h
    rfl
  · obtain ⟨a, M, xs, os, rfl, hM, ha, ⟨rd, few, oks⟩, tabs, k⟩ := h
    have hu := hr.units
    refine ⟨_, (pss_cons
 (ps_par (i := 1) (j := 2) (by rfl) sc__law_values_right.nd rfl rfl (by decide) rfl rfl (pa_cons (pe_callH h_law_due gd (hr.mono (by decide)) pass0 (pa_cons (pv 0) pa_nil)) (pa_cons (pe_op op_cat (pv 0) (pe_op op_rep (pe_lst (pa_cons pe_str pa_nil)) pe_int)) pa_nil)) (by rfl))
 (pss_cons
 (ps_asg (pe_slice sl_list (pv 2) po_none (po_some pe_int)) (pg_lst (by rfl) (pgs_cons (pg_name (i := 8) sc__law_values_right.nd rfl (Or.inr rfl)) (pgs_cons (pg_name (i := 12) sc__law_values_right.nd rfl (Or.inr rfl)) (pgs_cons (pg_name (i := 11) sc__law_values_right.nd rfl (Or.inr rfl)) (pgs_cons (pg_name (i := 7) sc__law_values_right.nd rfl (Or.inr rfl)) (pgs_cons (pg_name (i := 6) sc__law_values_right.nd rfl (Or.inr rfl)) (pgs_cons (pg_name (i := 10) sc__law_values_right.nd rfl (Or.inr rfl)) (pgs_cons (pg_name (i := 9) sc__law_values_right.nd rfl (Or.inr rfl)) (pgs_cons (pg_name (i := 5) sc__law_values_right.nd rfl (Or.inr rfl)) (pgs_cons (pg_name (i := 3) sc__law_values_right.nd rfl (Or.inl rfl)) pgs_nil)))))))))))
 (Evl.pss_cut
 (ps_if (pt_cmpR op_eq (pe_callB call_len_seq (by exact rfl) T.zlen PySem.boot_len (pa_cons (pv 0) pa_nil)) pe_int (nomark _)) (pss_one
 (ps_set (i := 4) sc__law_values_right.nd rfl (Or.inl rfl) (pe_told (k := 13) MD TT (by exact rfl) TB rfl inT oneT gd (hr.mono (by decide)) (show LamS (defScope s__law_values_right) _ from lamS_by (by decide +kernel)) rfl (fun _ _ _ _ _ => rfl) (fun A outer s H E f c' gd hr => (pe_cmethGv (pe_globV T.gScheme) hm_from_lines gd (hr.mono (by decide)) (passes_call (takes_of rfl rfl rfl rfl) (fun _ _ _ _ e => e)) (pa_cons (pv 8) (pa_cons (pv 12) (pa_cons (pv 11) pa_nil)))))))) (pss_one
 (ps_if (pt_cmpR op_eq (pe_callB call_len_seq (by exact rfl) T.zlen PySem.boot_len (pa_cons (pv 0) pa_nil)) pe_int (nomark _)) (pss_one
 (ps_set (i := 4) sc__law_values_right.nd rfl (Or.inl rfl) (pe_told (k := 13) MD TT (by exact rfl) TB rfl inT oneT gd (hr.mono (by decide)) (show LamS (defScope s__law_values_right) _ from lamS_by (by decide +kernel)) rfl (fun _ _ _ _ _ => rfl) (fun A outer s H E f c' gd hr => (pe_cmethGv (pe_globV T.gScheme) hm_from_lines gd (hr.mono (by decide)) (passes_call (takes_of rfl rfl rfl rfl) (fun _ _ _ _ e => e)) (pa_cons (pv 8) (pa_cons (pv 12) (pa_cons (pv 11) (pa_cons (pv 7) pa_nil))))))))) (pss_one
 (ps_if (pt_cmpR op_eq (pe_callB call_len_seq (by exact rfl) T.zlen PySem.boot_len (pa_cons (pv 0) pa_nil)) pe_int (nomark _)) (pss_one
 (ps_set (i := 4) sc__law_values_right.nd rfl (Or.inl rfl) (pe_told (k := 13) MD TT (by exact rfl) TB rfl inT oneT gd (hr.mono (by decide)) (show LamS (defScope s__law_values_right) _ from lamS_by (by decide +kernel)) rfl (fun _ _ _ _ _ => rfl) (fun A outer s H E f c' gd hr => (pe_cmethGv (pe_globV T.gScheme) hm_from_lines gd (hr.mono (by decide)) (passes_call (takes_of rfl rfl rfl rfl) (fun _ _ _ _ e => e)) (pa_cons (pv 8) (pa_cons (pv 12) (pa_cons (pv 11) (pa_cons (pv 7) (pa_cons (pv 6) pa_nil)))))))))) (pss_one
 (ps_if (pt_cmpR op_eq (pe_callB call_len_seq (by exact rfl) T.zlen PySem.boot_len (pa_cons (pv 0) pa_nil)) pe_int (nomark _)) (pss_one
 (ps_set (i := 4) sc__law_values_right.nd rfl (Or.inl rfl) (pe_told (k := 13) MD TT (by exact rfl) TB rfl inT oneT gd (hr.mono (by decide)) (show LamS (defScope s__law_values_right) _ from lamS_by (by decide +kernel)) rfl (fun _ _ _ _ _ => rfl) (fun A outer s H E f c' gd hr => (pe_cmethGv (pe_globV T.gScheme) hm_from_lines gd (hr.mono (by decide)) (passes_call (takes_of rfl rfl rfl rfl) (fun _ _ _ _ e => e)) (pa_cons (pv 8) (pa_cons (pv 12) (pa_cons (pv 11) (pa_cons (pv 7) (pa_cons (pv 6) (pa_cons (pv 10) pa_nil))))))))))) (pss_one
 (ps_if (pt_cmpR op_eq (pe_callB call_len_seq (by exact rfl) T.zlen PySem.boot_len (pa_cons (pv 0) pa_nil)) pe_int (nomark _)) (pss_one
 (ps_set (i := 4) sc__law_values_right.nd rfl (Or.inl rfl) (pe_told (k := 13) MD TT (by exact rfl) TB rfl inT oneT gd (hr.mono (by decide)) (show LamS (defScope s__law_values_right) _ from lamS_by (by decide +kernel)) rfl (fun _ _ _ _ _ => rfl) (fun A outer s H E f c' gd hr => (pe_cmethGv (pe_globV T.gScheme) hm_from_lines gd (hr.mono (by decide)) (passes_call (takes_of rfl rfl rfl rfl) (fun _ _ _ _ e => e)) (pa_cons (pv 8) (pa_cons (pv 12) (pa_cons (pv 11) (pa_cons (pv 7) (pa_cons (pv 6) (pa_cons (pv 10) (pa_cons (pv 9) pa_nil)))))))))))) (pss_one
 (ps_if (pt_cmpR op_eq (pe_callB call_len_seq (by exact rfl) T.zlen PySem.boot_len (pa_cons (pv 0) pa_nil)) pe_int (nomark _)) (pss_one
 (ps_set (i := 4) sc__law_values_right.nd rfl (Or.inl rfl) (pe_told (k := 13) MD TT (by exact rfl) TB rfl inT oneT gd (hr.mono (by decide)) (show LamS (defScope s__law_values_right) _ from lamS_by (by decide +kernel)) rfl (fun _ _ _ _ _ => rfl) (fun A outer s H E f c' gd hr => (pe_cmethGv (pe_globV T.gScheme) hm_from_lines gd (hr.mono (by decide)) (passes_call (takes_of rfl rfl rfl rfl) (fun _ _ _ _ e => e)) (pa_cons (pv 8) (pa_cons (pv 12) (pa_cons (pv 11) (pa_cons (pv 7) (pa_cons (pv 6) (pa_cons (pv 10) (pa_cons (pv 9) (pa_cons (pv 5) pa_nil))))))))))))) (pss_one
 (ps_if (pt_cmpR op_eq (pe_callB call_len_seq (by exact rfl) T.zlen PySem.boot_len (pa_cons (pv 0) pa_nil)) pe_int (nomark _)) (pss_one
 (ps_set (i := 4) sc__law_values_right.nd rfl (Or.inl rfl) (pe_told (k := 13) MD TT (by exact rfl) TB rfl inT oneT gd (hr.mono (by decide)) (show LamS (defScope s__law_values_right) _ from lamS_by (by decide +kernel)) rfl (fun _ _ _ _ _ => rfl) (fun A outer s H E f c' gd hr => (pe_cmethGv (pe_globV T.gScheme) hm_from_lines gd (hr.mono (by decide)) (passes_call (takes_of rfl rfl rfl rfl) (fun _ _ _ _ e => e)) (pa_cons (pv 8) (pa_cons (pv 12) pa_nil))))))) (pss_one
 (ps_ret pe_bl)))))))))))))))
 (pss_cons
 (ps_if (pt_val (pe_callB call_isi (by exact rfl) T.zisinstance (by decide +kernel) (pa_cons (pv 1) (pa_cons (pe_bltn (v := .ty "dict") (by exact rfl) T.zdict (by decide +kernel) rfl) pa_nil)))) (pss_one
 (ps_ret (pe_cmpR (op_eqD hu) (pv 4) (pe_callTy call_tuple_of (by exact rfl) T.ztuple (by decide +kernel) (pa_cons (pe_callH h_law_lines gd (hr.mono (by decide)) pass0 (pa_cons (pv 1) pa_nil)) pa_nil)) (nomark _)))) pss_nil)
 (pss_one
 (ps_ret (pe_cmpR op_eq (pe_callB (call_repr gd hu) (by exact rfl) T.zrepr (by decide +kernel) (pa_cons (pv 4) pa_nil)) (pe_callB (call_repr gd hu) (by exact rfl) T.zrepr (by decide +kernel) (pa_cons (pv 1) pa_nil)) (nomark _)))))))), ?_⟩
    dsimp only [cxOf, Cx.nox]
    have hH := hM H (ExtN.refl H)
    refine ⟨_, rfl, nil_intro (due_all (sqL_same (SqL.of ha) hH) ⟨rdsV_same rd hH, few, oks⟩ fun dv H1 s1 dg => ⟨_, rfl, by show 1 ≤ sizeLine; decide, fun A1 n1 => ⟨A1, 12, _, rfl, rfl, upd_same, by decide, by decide, by show 12 ≤ sizeLine; decide, fun A2 n2 => ?_⟩⟩)⟩
    refine ⟨a, A2, xs, _, rfl, rfl, ((s1.trans (Same.new n1)).trans (Same.new n2)) _ _ (hH _ _ ha), upd_same, ?_, fun A3 n3 => ?_⟩
    · rw [sizeLine_eq]
      show xs.length + 12 ≤ _
      omega
    have er : (List.replicate (Int.toNat 12) [V.str (Str.ofString "grid none")]).flatten = List.replicate 12 (V.str (Str.ofString "grid none")) := rfl
    rw [er]
    have s4 : Same H1 (upd (upd (upd H1 A1 (.lst [V.str (Str.ofString "grid none")])) A2 (.lst (List.replicate 12 (V.str (Str.ofString "grid none"))))) A3 (.lst (xs ++ List.replicate 12 (V.str (Str.ofString "grid none"))))) := ((Same.new n1).trans (Same.new n2)).trans (Same.new n3)
    have hL3 : upd (upd (upd H1 A1 (.lst [V.str (Str.ofString "grid none")])) A2 (.lst (List.replicate 12 (V.str (Str.ofString "grid none"))))) A3 (.lst (xs ++ List.replicate 12 (V.str (Str.ofString "grid none")))) A3 = some (.lst (xs ++ List.replicate 12 (V.str (Str.ofString "grid none")))) := upd_same
    generalize upd (upd (upd H1 A1 (.lst [V.str (Str.ofString "grid none")])) A2 (.lst (List.replicate 12 (V.str (Str.ofString "grid none"))))) A3 (.lst (xs ++ List.replicate 12 (V.str (Str.ofString "grid none")))) = H4 at *
    replace dg : DueG K H4 os dv := dg.same s4
    have sA := s1.trans s4
    clear s1 s4 n1 n2 n3
    obtain ⟨y0, y1, y2, y3, y4, y5, y6, y7, y8, ey⟩ := nine_of (l := (xs ++ List.replicate 12 (V.str (Str.ofString "grid none"))).take 9) (by rw [List.length_take, List.length_append, List.length_replicate]; omega)
    refine ⟨_, _, rfl, ?_⟩
    try dsimp only
    refine seq_go (asg_go ⟨_, rfl, 9, rfl, A3, _, rfl, SqL.of hL3, fun S nS => ?_⟩)
    rw [show cutV (xs ++ List.replicate 12 (V.str (Str.ofString "grid none"))) none (some 9) = [y0, y1, y2, y3, y4, y5, y6, y7, y8] from (cutV_to (k := 9) (by rw [List.length_append, List.length_replicate]; omega)).trans ey]
    have sS := Same.new (o := .lst [y0, y1, y2, y3, y4, y5, y6, y7, y8]) nS
    replace dg := dg.same sS
    replace sA := sA.trans sS
    refine ⟨S, _, rfl, SqL.of upd_same, rfl, _, _, rfl, _, _, rfl, _, _, rfl, _, _, rfl, _, _, rfl, _, _, rfl, _, _, rfl, _, _, rfl, _, _, rfl, rfl, ?_⟩
    generalize upd H4 S (.lst [y0, y1, y2, y3, y4, y5, y6, y7, y8]) = H5 at *
    try dsimp only
    have hM5 : ∀ H1, ExtN H5 H1 → Same M H1 := fun H1 e => hM H1 ((ExtN.of sA).trans e)
    have tabs5 := tabs.ext sA
    have ha5 := hM5 H5 (ExtN.refl H5) _ _ ha
    have lenif : ∀ {n : Int} {ta tb : TS} {D : Ends} {σ : L2.St}, σ[0]? = some (some (V.ref a)) → ((xs.length : Int) = n → ta D σ H5) → ((xs.length : Int) ≠ n → tb D σ H5) → tIfS (tTest (tOp rEq (tCB (fun xs H Q => ∃ p ys, xs = [V.ref p] ∧ (SqL K H p ys ∨ SqT K H p ys) ∧ Q (V.int ys.length) H) (tCons (tVar 0) tNil)) (tC (.int n)))) ta tb D σ H5 := fun {n ta tb D σ} e0 yes no => by
      refine ⟨_, e0, a, xs, rfl, .inl (SqL.of ha5), rfl, _, rfl, ?_⟩
      by_cases c : (xs.length : Int) = n
      · rw [show decide (V.int (xs.length : Int) = V.int n) = true from decide_eq_true (by rw [c])]
        exact iteT (yes c)
      · rw [show decide (V.int (xs.length : Int) = V.int n) = false from decide_eq_false (fun z => c (by injection z))]
        exact iteF (no c)
    refine ⟨fun σ' H' => ∃ v, σ' = [some (.ref a), some dv, some (.ref A3), some y8, some v, some y7, some y4, some y3, some y0, some y6, some y5, some y2, some y1] ∧ ExtN H5 H' ∧ Tabs cT H' ∧ ToldG K H' os v, ?_, ?_⟩
    · have fin : ∀ {v : V} {H' : Hp}, ExtN H5 H' → Tabs cT H' → ToldG K H' os v → ∃ w, ([some (.ref a), some dv, some (.ref A3), some y8, some v, some y7, some y4, some y3, some y0, some y6, some y5, some y2, some y1] : L2.St) = [some (.ref a), some dv, some (.ref A3), some y8, some w, some y7, some y4, some y3, some y0, some y6, some y5, some y2, some y1] ∧ ExtN H5 H' ∧ Tabs cT H' ∧ ToldG K H' os w := fun e t g => ⟨_, rfl, e, t, g⟩
      refine lenif rfl (fun c => asg_go (told_go sc tabs5 hM5 rd (by omega) (fun H1 Q1 q => ⟨_, rfl, _, rfl, _, rfl, by rw [pre_of ey (n := 3) (by omega) (by decide)] at q; exact q⟩) fun v H' ex tb tg => name_go (fin ex tb tg))) (fun _ => ?_)
      refine lenif rfl (fun c => asg_go (told_go sc tabs5 hM5 rd (by omega) (fun H1 Q1 q => ⟨_, rfl, _, rfl, _, rfl, _, rfl, by rw [pre_of ey (n := 4) (by omega) (by decide)] at q; exact q⟩) fun v H' ex tb tg => name_go (fin ex tb tg))) (fun _ => ?_)
      refine lenif rfl (fun c => asg_go (told_go sc tabs5 hM5 rd (by omega) (fun H1 Q1 q => ⟨_, rfl, _, rfl, _, rfl, _, rfl, _, rfl, by rw [pre_of ey (n := 5) (by omega) (by decide)] at q; exact q⟩) fun v H' ex tb tg => name_go (fin ex tb tg))) (fun _ => ?_)
      refine lenif rfl (fun c => asg_go (told_go sc tabs5 hM5 rd (by omega) (fun H1 Q1 q => ⟨_, rfl, _, rfl, _, rfl, _, rfl, _, rfl, _, rfl, by rw [pre_of ey (n := 6) (by omega) (by decide)] at q; exact q⟩) fun v H' ex tb tg => name_go (fin ex tb tg))) (fun _ => ?_)
      refine lenif rfl (fun c => asg_go (told_go sc tabs5 hM5 rd (by omega) (fun H1 Q1 q => ⟨_, rfl, _, rfl, _, rfl, _, rfl, _, rfl, _, rfl, _, rfl, by rw [pre_of ey (n := 7) (by omega) (by decide)] at q; exact q⟩) fun v H' ex tb tg => name_go (fin ex tb tg))) (fun _ => ?_)
      refine lenif rfl (fun c => asg_go (told_go sc tabs5 hM5 rd (by omega) (fun H1 Q1 q => ⟨_, rfl, _, rfl, _, rfl, _, rfl, _, rfl, _, rfl, _, rfl, _, rfl, by rw [pre_of ey (n := 8) (by omega) (by decide)] at q; exact q⟩) fun v H' ex tb tg => name_go (fin ex tb tg))) (fun _ => ?_)
      refine lenif rfl (fun c => asg_go (told_go sc tabs5 hM5 rd (by omega) (fun H1 Q1 q => ⟨_, rfl, _, rfl, by rw [pre_of ey (n := 2) (by omega) (by decide)] at q; exact q⟩) fun v H' ex tb tg => name_go (fin ex tb tg))) (fun _ => ?_)
      exact k _ (ExtN.of sA) tabs5
    · rintro _ H6 ⟨v, rfl, ex, tb6, tg⟩
      replace dg := dg.nt ex
      have k6 : ∀ H', Same H6 H' → Q (.bl true) H' := fun H' s => k H' ((ExtN.of sA).trans (ex.trans (ExtN.of s))) (tb6.ext s)
      rcases dg with ⟨i, e, rfl⟩ | ⟨acc, e, no, rfl⟩ | ⟨acc, t, r, q, e, m1, m2, ok, rfl, ax, x, kvs, h1, h2, h3, h4⟩
      · obtain rfl : v = .int (i : Nat) := by
          rcases tg with ⟨i2, e2, rfl⟩ | ⟨_, e2, _⟩ | ⟨_, _, _, _, e2, _⟩
          · rw [e] at e2; cases e2; rfl
          · rw [e] at e2; cases e2
          · rw [e] at e2; cases e2
        have li := scan_small e
        have lo := Paired.length rd
        have m : Mini 0 0 (.int (i : Nat)) := Mini.int (by omega)
        refine seq_go ⟨_, rfl, _, _, _, _, _, rfl, .ty _, Of.int, kit_ty (by decide +kernel), _, rfl, iteF (nx_go ?_)⟩
        refine ⟨_, rfl, _, _, rfl, .int _, m.s, m.h, Nat.le_trans m.dep (by decide), m.len (by decide), _, rfl, _, _, rfl, .int _, m.s, m.h, Nat.le_trans m.dep (by decide), m.len (by decide), rfl, ?_⟩
        rw [decide_eq_true rfl]
        exact k6 _ same_rfl
      · obtain rfl : v = .non := by
          rcases tg with ⟨i2, e2, _⟩ | ⟨_, e2, _, rfl⟩ | ⟨acc2, t2, r2, ss2, e2, m1, m2, ok, _⟩
          · rw [e] at e2; cases e2
          · rfl
          · rw [e] at e2; cases e2; exact absurd ok (no _ _ m1 m2)
        have m := Mini.non
        refine seq_go ⟨_, rfl, _, _, _, _, _, rfl, .ty _, Of.non, kit_ty (by decide +kernel), _, rfl, iteF (nx_go ?_)⟩
        refine ⟨_, rfl, _, _, rfl, .non, m.s, m.h, Nat.le_trans m.dep (by decide), m.len (by decide), _, rfl, _, _, rfl, .non, m.s, m.h, Nat.le_trans m.dep (by decide), m.len (by decide), rfl, ?_⟩
        rw [decide_eq_true rfl]
        exact k6 _ same_rfl
      · obtain ⟨ss, pm, srt, dv⟩ : ∃ ss : Rls, ss.Perm (rulesOf acc) ∧ sortedS (ss.map (·.1)) = true ∧ Dp K H6 v (.tuple ((linesT t r ss).map PyData.str)) := by
          rcases tg with ⟨i2, e2, _⟩ | ⟨_, e2, no, _⟩ | ⟨acc2, t2, r2, ss2, e2, n1, n2, ok2, pm, srt, dv⟩
          · rw [e] at e2; cases e2
          · rw [e] at e2; cases e2; exact absurd ok (no _ _ m1 m2)
          · rw [e] at e2
            cases e2
            obtain ⟨_, nd⟩ := scan_ok e (fun _ h => nomatch h) .nil
            obtain rfl := Sum.inl.inj (nd_uniq nd n1 m1)
            obtain rfl := Sum.inr.inj (nd_uniq nd n2 m2)
            exact ⟨ss2, pm, srt, dv⟩
        have sokS := sch_perm pm ok
        refine seq_go ⟨_, rfl, _, _, _, _, _, rfl, .ty _, Of.dct h1, kit_dct, _, rfl, iteT ?_⟩
        refine ⟨_, rfl, _, rfl, q, t, _, x, r, _, kvs, rfl, h1, h2, h3, h4, ok.nd, ok.hi, rowS_W (rowS_true ok.ax), fun yr hy => ⟨rowS_W (rowS_true (ok.rows yr hy).s), by rw [let_len (ok.lets yr hy)]; decide⟩, fun ss2 l H' s' pm2 srt2 hl => ?_⟩
        obtain rfl := ss_uniq ok.nd pm pm2 srt srt2
        refine ⟨l, _, rfl, .inl ⟨SqL.of hl, fun Tn nT => ?_⟩⟩
        have sT := s'.trans (Same.new (o := .tup ((linesT t r ss).map V.str)) nT)
        refine ⟨_, _, dp_same sT dv, .tup (SqT.of upd_same) dp_strs, strs_shapedT (lines_ok sokS), strs_shapedT (lines_ok sokS), ?_⟩
        rw [show PyData.eqv (.tuple ((linesT t r ss).map PyData.str)) (.tuple ((linesT t r ss).map PyData.str)) = true from strs_self _]
        exact k6 _ sT
end
end K13
namespace K13
open PySem PySem.Spec PyProof.Rows L2 GL SkE PySem.GLE LamX
noncomputable abbrev s__law_changed_lines : Stmt := topS 78
noncomputable abbrev N__law_changed_lines : List Str := ["_law_dice_here", "_law_lines_here", "_law_way", "_law_at", "_law_odd"]
theorem sc__law_changed_lines : FnScope N__law_changed_lines ["_law_dice_here", "_law_lines_here"] (defScope s__law_changed_lines) := ⟨rfl, rfl, rfl, by decide +kernel, rfl, by decide +kernel, by decide +kernel⟩
/-- a value of a list of lines -/
noncomputable def LV (K : PySem.W.Frag) (n : Nat) (M : Hp) (v : V) : Prop := ∃ d, Dp K M v d ∧ d.canLay0 = true ∧ d.depth ≤ 2 ∧ ∀ y, d = .str y → y.length ≤ n
theorem LV.mono {K : PySem.W.Frag} {n : Nat} : MonoG (LV K n) := fun _ _ _ s ⟨d, a, b⟩ => ⟨d, dp_same s a, b⟩
theorem LV.more {K : PySem.W.Frag} {n m : Nat} {M : Hp} {v : V} (h : LV K n M v) (l : n ≤ m) : LV K m M v := let ⟨d, a, b, c, e⟩ := h; ⟨d, a, b, c, fun y z => Nat.le_trans (e y z) l⟩
theorem LV.rd {K : PySem.W.Frag} {n : Nat} {M : Hp} {v : V} (h : LV K n M v) (l : n ≤ 900) : ∃ o, RdV K M v o ∧ ∀ y, o = some y → PyData.strOk y = true := by
  obtain ⟨d, a, b, c, e⟩ := h
  by_cases s : ∃ y, d = .str y
  · obtain ⟨y, rfl⟩ := s
    cases a
    exact ⟨some y, ⟨rfl, Nat.le_trans (e y rfl) l⟩, fun z h => by cases h; exact b⟩
  · refine ⟨none, ⟨_, dOf a, ?_⟩, fun z h => by cases h⟩
    cases d with
    | str y => exact absurd ⟨y, rfl⟩ s
    | _ => rfl
theorem str_dp {K : PySem.W.Frag} {M : Hp} {v : V} {y : Str} (h : Dp K M v (.str y)) : v = .str y := by cases h; rfl
theorem lv_str {K : PySem.W.Frag} {n : Nat} {M : Hp} {y : Str} (a : PyData.strOk y = true) (l : y.length ≤ n) : LV K n M (.str y) := ⟨.str y, .str y, a, by simp [PyData.depth], fun z e => by cases e; exact l⟩
noncomputable def spChg (K : PySem.W.Frag) : Sp := fun vs H Q _ => ∃ p a xs n, vs = [.ref p, .ref a] ∧ Die H p ∧ mask p H a = some (.lst xs) ∧ (∀ x ∈ xs, LV K n (mask p H) x) ∧ 1 ≤ xs.length ∧ xs.length ≤ 12 ∧ 20 ≤ n ∧ n ≤ 400 ∧
  ∀ l ys H', mask p H' l = some (.lst ys) → (∀ y ∈ ys, LV K (2 * n + 3) (mask p H') y) → ys.length ≤ xs.length + 1 → Got p H H' → Q (.ref l) H'
section
variable {p : Addr} {H0 : Hp} {σ : L2.St} {t t2 : TE} {n m : Nat} {G : Hp → V → Prop} {l : Addr} {vs : List V} {j : Nat}
theorem tl_catL (mo : MonoG G) (e : σ[j]? = some (some (.ref l))) (el : H0 l = some (.lst vs)) (g : ∀ v ∈ vs, G (mask p H0) v) (c : vs.length = n) (b : TL p H0 σ t2 m G) (few : n + m ≤ 1000 := by decide) : TL p H0 σ (tOp rCat (tVar j) t2) (n + m) G := fun H Q s k => ⟨_, e, b H _ s fun l2 vs2 H2 s2 n2 e2 g2 c2 => by
  refine ⟨l, l2, vs, vs2, rfl, rfl, s2 _ _ (s _ _ el), e2, by rw [c, c2, sizeLine_eq]; omega, fun q nq => k q _ _ (s2.trans (Same.new nq)) (none_of s2 nq) upd_same (fun v hv => ?_) (by rw [List.length_append, c, c2])⟩
  rcases List.mem_append.mp hv with z | z
  · exact mo _ _ _ (mask_mono ((s.trans s2).trans (Same.new nq))) (g v z)
  · exact mo _ _ _ (mask_mono (Same.new nq)) (g2 v z)⟩
end
/-- the first c items | those from c on -/
theorem take_go {K : PySem.W.Frag} {p a : Addr} {xs : List V} {σ : L2.St} {H : Hp} {Q : VK} {c : Nat} {to : TO} (e1 : σ[1]? = some (some (V.ref a))) (to_ : ∀ Q1 : Option Int → Hp → Prop, Q1 (some (c : Int)) H → to σ H Q1) (die : Die H p) (ha : mask p H a = some (.lst xs)) (l : c ≤ xs.length)
    (k : ∀ S H', Same H H' → Die H' p → H' S = some (.lst (xs.take c)) → S ≠ p → H S = none → Q (.ref S) H') : tSl (rSlL K) (tVar 1) tNoPart to σ H Q :=
  ⟨_, e1, to_ _ ⟨a, xs, rfl, SqL.of (mask_same _ _ ha), fun S nS => by
    rw [cutV_to l]
    exact k S _ (Same.new nS) (die_same die (Same.new nS)) upd_same (die_free die nS) nS⟩⟩
theorem drop_go {K : PySem.W.Frag} {p a : Addr} {xs : List V} {σ : L2.St} {H : Hp} {Q : VK} {c : Nat} {to : TO} (e1 : σ[1]? = some (some (V.ref a))) (to_ : ∀ Q1 : Option Int → Hp → Prop, Q1 (some (c : Int)) H → to σ H Q1) (die : Die H p) (ha : mask p H a = some (.lst xs)) (l : c ≤ xs.length)
    (k : ∀ S H', Same H H' → Die H' p → H' S = some (.lst (xs.drop c)) → S ≠ p → H S = none → Q (.ref S) H') : tSl (rSlL K) (tVar 1) to tNoPart σ H Q :=
  ⟨_, e1, to_ _ ⟨a, xs, rfl, SqL.of (mask_same _ _ ha), fun S nS => by
    rw [cutV_from l]
    exact k S _ (Same.new nS) (die_same die (Same.new nS)) upd_same (die_free die nS) nS⟩⟩
theorem splice_go {K : PySem.W.Frag} {p a : Addr} {xs : List V} {σ : L2.St} {H : Hp} {Q : VK} {te : TE} {t1 t2 : TO} {c1 c2 n : Nat} (e1 : σ[1]? = some (some (V.ref a))) (to1 : ∀ (H : Hp) (Q1 : Option Int → Hp → Prop), Q1 (some (c1 : Int)) H → t1 σ H Q1) (to2 : ∀ (H : Hp) (Q1 : Option Int → Hp → Prop), Q1 (some (c2 : Int)) H → t2 σ H Q1)
    (l1 : c1 ≤ xs.length) (l2 : c2 ≤ xs.length) (l12 : c1 ≤ c2) (few : xs.length ≤ 12) (die : Die H p) (ha : mask p H a = some (.lst xs)) (lv : ∀ x ∈ xs, LV K n (mask p H) x)
    (mid : ∀ H1 (Q1 : VK), Same H H1 → Die H1 p → (∀ v H2, Got p H1 H2 → LV K n (mask p H2) v → Q1 v H2) → te σ H1 Q1)
    (k : ∀ l ys H', mask p H' l = some (.lst ys) → (∀ y ∈ ys, LV K n (mask p H') y) → ys.length ≤ xs.length + 1 → Got p H H' → Q (.ref l) H') :
    tOp rCat (tOp rCat (tSl (rSlL K) (tVar 1) tNoPart t1) (tLst (tCons te tNil))) (tSl (rSlL K) (tVar 1) t2 tNoPart) σ H Q := by
  refine take_go e1 (to1 H) die ha l1 fun S H1 s1 die1 eS nSp _ => ?_
  refine mid H1 _ s1 die1 fun v H2 g2 gv => ⟨by show 1 ≤ sizeLine; decide, fun B nB => ?_⟩
  have sB := Same.new (o := .lst [v]) nB
  have g3 := g2.over_same sB
  have eS3 := g3.keep _ _ eS nSp
  have eB3 : upd H2 B (.lst [v]) B = some (.lst [v]) := upd_same
  replace gv := LV.mono _ _ _ (mask_mono (p := p) sB) gv
  generalize upd H2 B (.lst [v]) = H3 at *
  refine ⟨S, B, _, _, rfl, rfl, eS3, eB3, ?_, fun L nL => ?_⟩
  · rw [List.length_take, sizeLine_eq]
    show min c1 xs.length + 1 ≤ _
    omega
  have sL := Same.new (o := .lst (xs.take c1 ++ [v])) nL
  have eL : upd H3 L (.lst (xs.take c1 ++ [v])) L = some (.lst (xs.take c1 ++ [v])) := upd_same
  have g4 := (got_same s1 g3).over_same sL
  replace gv := LV.mono _ _ _ (mask_mono (p := p) sL) gv
  generalize upd H3 L (.lst (xs.take c1 ++ [v])) = H4 at *
  refine drop_go e1 (to2 H4) g4.die (mask_got g4 _ _ ha) l2 fun S2 H5 s5 die5 eS2 nS2p _ => ?_
  have g5 := g4.over_same s5
  refine ⟨L, S2, _, _, rfl, rfl, s5 _ _ eL, eS2, ?_, fun R nR => ?_⟩
  · rw [List.length_append, List.length_take, List.length_drop, sizeLine_eq]
    show min c1 xs.length + 1 + (xs.length - c2) ≤ _
    omega
  have sR := Same.new (o := .lst (xs.take c1 ++ [v] ++ xs.drop c2)) nR
  have g6 := g5.over_same sR
  have m6 := mask_got g6
  refine k R _ _ (mask_at upd_same (die_free die5 nR) (fun _ z => by cases z)) (fun y hy => ?_) ?_ g6
  · rcases List.mem_append.mp hy with hy | hy
    · rcases List.mem_append.mp hy with hy | hy
      · exact LV.mono _ _ _ m6 (lv y (List.mem_of_mem_take hy))
      · rw [List.mem_singleton.mp hy]
        exact LV.mono _ _ _ (mask_mono (p := p) (s5.trans sR)) gv
    · exact LV.mono _ _ _ m6 (lv y (List.mem_of_mem_drop hy))
  · rw [List.length_append, List.length_append, List.length_take, List.length_drop]
    show min c1 xs.length + 1 + (xs.length - c2) ≤ _
    omega
section
variable {P : Program} {w : World} {K : PySem.W.Frag} {mg : Str → Option Value} {base : Heap}
variable {aG dU C CR CS eG eS : Addr} {es : Es} {U : Bool → Addr} {us : Bool → List Addr}
theorem h_changed_lines (T : TxR K mg aG dU C CR CS eG eS es) (h_law_roll : Has P w K mg base CX0 "_law_roll" 1 ["_law_dice_here", "_law_total"] spRoll) (h_law_pick : Has P w K mg base CX0 "_law_pick" 2 ["_law_dice_here", "_law_items"] spPick)
    (h_law_spoilt_text : Has P w K mg base CX0 "_law_spoilt_text" 3 ["_law_dice_here", "_law_text", "_law_signs"] spSpoil)
    (D : Df K mg "_law_changed_lines" s__law_changed_lines) : Has P w K mg base CX0 "_law_changed_lines" 4 ["_law_dice_here", "_law_lines_here"] (spChg K) := by
  refine D.has sc__law_changed_lines (fun vs H Q E h => ?_) (fun kV doc pm an cdv ct us hl => match us, hl with | [_, _], _ => rfl) (fun f cdv A outer s H vs Q E gd hr h => ?_)
  · obtain ⟨p, a, xs, n, rfl, _⟩ := h
    rfl
  · obtain ⟨p, a, xs, n, rfl, die, ha, lv, one, few, n0, n1, k⟩ := h
    have hu := hr.units
    refine ⟨_, (pss_cons
 (ps_par (i := 2) (j := 3) (by rfl) sc__law_changed_lines.nd rfl rfl (by decide) rfl rfl (pa_cons (pe_callH h_law_roll gd (hr.mono (by decide)) pass0 (pa_cons (pv 0) (pa_cons pe_int pa_nil))) (pa_cons (pe_callH h_law_roll gd (hr.mono (by decide)) pass0 (pa_cons (pv 0) (pa_cons (pe_callB call_len_seq (by exact rfl) T.zlen PySem.boot_len (pa_cons (pv 1) pa_nil)) pa_nil))) pa_nil)) (by rfl))
 (pss_cons
 (ps_if (pt_cmpR op_eq (pv 2) pe_int (nomark _)) (pss_one
 (ps_ret (pe_op op_cat (pe_slice sl_list (pv 1) po_none (po_some (pv 3))) (pe_slice sl_list (pv 1) (po_some (pe_op op_add (pv 3) pe_int)) po_none)))) pss_nil)
 (pss_cons
 (ps_if (pt_cmpR op_eq (pv 2) pe_int (nomark _)) (pss_one
 (ps_ret (pe_op op_cat (pe_op op_cat (pe_slice sl_list (pv 1) po_none (po_some (pv 3))) (pe_lst (pa_cons (pe_ix ix_list (pv 1) (pe_callH h_law_roll gd (hr.mono (by decide)) pass0 (pa_cons (pv 0) (pa_cons (pe_callB call_len_seq (by exact rfl) T.zlen PySem.boot_len (pa_cons (pv 1) pa_nil)) pa_nil))) (fun _ _ => rfl)) pa_nil))) (pe_slice sl_list (pv 1) (po_some (pv 3)) po_none)))) pss_nil)
 (Evl.pss_cut
 (ps_if (PW.pt (pw_and (pt_cmpR op_eq (pv 2) pe_int (nomark _)) (pw_and1 (pt_val (pe_callB call_isi (by exact rfl) T.zisinstance (by decide +kernel) (pa_cons (pe_ix ix_list (pv 1) (pv 3) (fun _ _ => rfl)) (pa_cons (pe_bltn (v := .ty "str") (by exact rfl) T.zstr (by decide +kernel) rfl) pa_nil))))))) (pss_one
 (ps_ret (pe_op op_cat (pe_op op_cat (pe_slice sl_list (pv 1) po_none (po_some (pv 3))) (pe_lst (pa_cons (pe_callH h_law_spoilt_text gd (hr.mono (by decide)) pass0 (pa_cons (pv 0) (pa_cons (pe_ix ix_list (pv 1) (pv 3) (fun _ _ => rfl)) (pa_cons (pe_lst (pa_cons pe_str (pa_cons pe_str (pa_cons pe_str (pa_cons pe_str (pa_cons pe_str (pa_cons pe_str (pa_cons pe_str (pa_cons pe_str pa_nil))))))))) pa_nil)))) pa_nil))) (pe_slice sl_list (pv 1) (po_some (pe_op op_add (pv 3) pe_int)) po_none)))) pss_nil)
 (pss_cons
 (ps_if (pt_cmpR op_eq (pv 2) pe_int (nomark _)) (pss_cons
 (ps_set (i := 4) sc__law_changed_lines.nd rfl (Or.inl rfl) (pe_lst (pa_cons pe_str (pa_cons pe_str (pa_cons pe_str (pa_cons pe_str (pa_cons pe_str (pa_cons pe_str (pa_cons pe_str (pa_cons pe_str pa_nil))))))))))
 (pss_cons
 (ps_set (i := 4) sc__law_changed_lines.nd rfl (Or.inl rfl) (pe_op op_cat (pv 4) (pe_lst (pa_cons pe_non (pa_cons pe_int (pa_cons pe_str (pa_cons (pe_tup (pa_cons pe_str pa_nil)) (pa_cons (pe_lst (pa_cons pe_str pa_nil)) (pa_cons pe_str (pa_cons pe_str (pa_cons pe_str pa_nil)))))))))))
 (pss_one
 (ps_ret (pe_op op_cat (pe_op op_cat (pe_slice sl_list (pv 1) po_none (po_some (pv 3))) (pe_lst (pa_cons (pe_callH h_law_pick gd (hr.mono (by decide)) pass0 (pa_cons (pv 0) (pa_cons (pv 4) pa_nil))) pa_nil))) (pe_slice sl_list (pv 1) (po_some (pv 3)) po_none)))))) pss_nil)
 (pss_one
 (ps_ret (pv 1)))))))), ?_⟩
    dsimp only [cxOf, Cx.nox]
    have hH := mask_same _ _ ha
    have small : ∀ m : Nat, m ≤ 1000 → ((m : Nat) : Int).natAbs < 2 ^ 2000 := fun m h => Nat.lt_of_le_of_lt (show ((m : Nat) : Int).natAbs ≤ 1000 by omega) (by decide)
    refine ⟨_, rfl, p, 6, rfl, die, by decide, by decide, fun way H1 w0 w1 g1 => ⟨_, rfl, _, rfl, a, xs, rfl, .inl (SqL.of (mask_same _ _ (mask_got g1 _ _ ha))), p, _, rfl, g1.die, by omega, small _ (by omega), fun at' H2 a0 a1 g2 => ?_⟩⟩
    obtain ⟨c, rfl⟩ : ∃ c : Nat, at' = (c : Int) := ⟨at'.toNat, by omega⟩
    have g := g1.trans g2
    clear g1 g2 hH
    have cl : c < xs.length := by omega
    have m := mask_got g
    replace ha := m _ _ ha
    have lv0 := fun x hx => LV.mono _ _ _ m (lv x hx)
    replace lv := fun x hx => (lv0 x hx).more (show n ≤ 2 * n + 3 by omega)
    have moV := LV.mono (K := K) (n := 2 * n + 3)
    have pick0 : ∀ (H : Hp) (Q1 : Option Int → Hp → Prop), Q1 (some (c : Int)) H → tPart (tVar 3) [some (V.ref p), some (V.ref a), some (V.int way), some (V.int c), none] H Q1 := fun H Q1 q => ⟨_, rfl, c, rfl, q⟩
    have pick0' : ∀ (v : V) (H : Hp) (Q1 : Option Int → Hp → Prop), Q1 (some (c : Int)) H → tPart (tVar 3) [some (V.ref p), some (V.ref a), some (V.int way), some (V.int c), some v] H Q1 := fun v H Q1 q => ⟨_, rfl, c, rfl, q⟩
    have pick1 : ∀ (H : Hp) (Q1 : Option Int → Hp → Prop), Q1 (some ((c + 1 : Nat) : Int)) H → tPart (tOp (rI0 fun i j => V.int (i + j)) (tVar 3) (tC (.int 1))) [some (V.ref p), some (V.ref a), some (V.int way), some (V.int c), none] H Q1 := fun H Q1 q => ⟨_, rfl, _, _, rfl, rfl, _, rfl, q⟩
    have fin : ∀ l ys H', mask p H' l = some (.lst ys) → (∀ y ∈ ys, LV K (2 * n + 3) (mask p H') y) → ys.length ≤ xs.length + 1 → Got p H2 H' → Q (.ref l) H' := fun l ys H' e v y g3 => k l ys H' e v y (g.trans g3)
    refine ⟨_, _, rfl, ?_⟩
    try dsimp only
    refine seq_go ⟨_, rfl, rfl, _, rfl, ite2 (fun c1 => ?_) (fun c1 => nx_go ?_)⟩
    · refine take_go rfl (pick0 _) g.die ha (by omega) fun S H3 s3 die3 eS nSp _ => drop_go rfl (pick1 _) die3 (mask_mono s3 _ _ ha) (by omega) fun S2 H4 s4 die4 eS2 nS2p _ => ?_
      refine ⟨S, S2, _, _, rfl, rfl, s4 _ _ eS, eS2, ?_, fun R nR => ?_⟩
      · rw [List.length_take, List.length_drop, sizeLine_eq]
        omega
      have sR := (s3.trans s4).trans (Same.new (o := .lst (xs.take c ++ xs.drop (c + 1))) nR)
      refine fin R _ _ (mask_at upd_same (die_free die4 nR) (fun _ z => by cases z)) (fun y hy => LV.mono _ _ _ (mask_mono sR) (lv y ?_)) ?_ ((Got.same g.die).over_same sR)
      · rcases List.mem_append.mp hy with hy | hy
        · exact List.mem_of_mem_take hy
        · exact List.mem_of_mem_drop hy
      · rw [List.length_append, List.length_take, List.length_drop]
        omega
    refine seq_go ⟨_, rfl, rfl, _, rfl, ite2 (fun c2 => ?_) (fun c2 => nx_go ?_)⟩
    · refine splice_go rfl pick0 pick0 (by omega) (by omega) (Nat.le_refl _) few g.die ha lv (fun H3 Q1 s3 die3 q => ?_) fin
      have ha3 := mask_mono (p := p) s3 _ _ ha
      refine ⟨_, rfl, _, rfl, _, rfl, a, xs, rfl, .inl (SqL.of (mask_same _ _ ha3)), p, _, rfl, die3, by omega, small _ (by omega), fun r H4 r0 r1 g4 => ?_⟩
      obtain ⟨j, rfl⟩ : ∃ j : Nat, r = (j : Int) := ⟨r.toNat, by omega⟩
      have jl : j < xs.length := by omega
      exact ⟨a, _, _, _, rfl, rfl, SqL.of (mask_same _ _ (mask_got g4 _ _ ha3)), atI_nat (List.getElem?_eq_getElem jl), q _ _ g4 (LV.mono _ _ _ (mask_got g4) (LV.mono _ _ _ (mask_mono s3) (lv _ (List.getElem_mem jl))))⟩
    obtain ⟨d, dv, dl, dd, dn⟩ := lv0 _ (List.getElem_mem cl)
    have atc : atI xs (c : Int) = some xs[c] := atI_nat (List.getElem?_eq_getElem cl)
    refine ⟨fun σ' H' => σ' = [some (.ref p), some (.ref a), some (.int way), some (.int c), none] ∧ H' = H2, ?_, ?_⟩
    · refine ⟨_, rfl, rfl, _, rfl, ite2 (fun c3 => ?_) (fun c3 => iteF ⟨rfl, rfl⟩)⟩
      refine ⟨_, rfl, _, rfl, a, _, _, _, rfl, rfl, SqL.of (mask_same _ _ ha), atc, _, _, _, _, _, rfl, .ty _, tyX_same (dOf dv) mask_same, GL.kit_str _, _, rfl, ?_⟩
      by_cases s : ∃ y, d = .str y
      case neg =>
        rw [show (kdD d).isS = false by
          cases d with
          | str y => exact absurd ⟨y, rfl⟩ s
          | _ => rfl]
        exact iteF ⟨rfl, rfl⟩
      obtain ⟨y, rfl⟩ := s
      have ly := dn y rfl
      refine iteT ?_
      refine splice_go rfl pick0 pick1 (by omega) (by omega) (Nat.le_succ c) few g.die ha lv (fun H3 Q1 s3 die3 q => ?_) fin
      have ev := str_dp dv
      rw [ev] at atc
      refine ⟨_, rfl, _, rfl, _, rfl, a, _, _, _, rfl, rfl, SqL.of (mask_same _ _ (mask_mono (p := p) s3 _ _ ha)), atc, by show 8 ≤ sizeLine; decide, fun L nL => ?_⟩
      have sL := Same.new (o := .lst ((([" ", "a", "b", "0", "3", "5", "6", "-"] : List Str)).map V.str)) nL
      exact ⟨p, y, L, ([" ", "a", "b", "0", "3", "5", "6", "-"] : List Str), rfl, die_same die3 sL, upd_same, die_free die3 nL, by decide, by decide, by decide +kernel, by omega, dl, by decide +kernel, fun b H4 lb okb g4 => q _ _ (got_same sL g4) (lv_str okb (by omega))⟩
    · rintro _ Hx ⟨rfl, eH⟩
      rw [eH]
      clear eH
      refine seq_go ⟨_, rfl, rfl, _, rfl, ite2 (fun c4 => ?_) (fun c4 => nx_go ⟨_, rfl, fin a xs _ ha lv (by omega) (Got.same g.die)⟩)⟩
      have hp3 := die_no g.die
      refine seq_go (asg_go (tl_lst (p := p) moV (tn_cons moV (t1_str fun _ => lv_str (by decide +kernel) (Nat.le_trans (by decide +kernel : _ ≤ 23) (by omega))) (tn_cons moV (t1_str fun _ => lv_str (by decide +kernel) (Nat.le_trans (by decide +kernel : _ ≤ 23) (by omega))) (tn_cons moV (t1_str fun _ => lv_str (by decide +kernel) (Nat.le_trans (by decide +kernel : _ ≤ 23) (by omega))) (tn_cons moV (t1_str fun _ => lv_str (by decide +kernel) (Nat.le_trans (by decide +kernel : _ ≤ 23) (by omega))) (tn_cons moV (t1_str fun _ => lv_str (by decide +kernel) (Nat.le_trans (by decide +kernel : _ ≤ 23) (by omega))) (tn_cons moV (t1_str fun _ => lv_str (by decide +kernel) (Nat.le_trans (by decide +kernel : _ ≤ 23) (by omega))) (tn_cons moV (t1_str fun _ => lv_str (by decide +kernel) (Nat.le_trans (by decide +kernel : _ ≤ 23) (by omega))) (tn_cons moV (t1_str fun _ => lv_str (by decide +kernel) (Nat.le_trans (by decide +kernel : _ ≤ 23) (by omega))) tn_nil)))))))) (by decide) H2 _ same_rfl fun L vs H3 s3 n3 e3 g3 l3 => name_go ?_))
      try dsimp only
      refine seq_go (asg_go ?_)
      have die3 := die_same g.die s3
      have hp3 := die_no die3
      refine tl_catL moV rfl e3 g3 l3 (tl_lst moV (tn_cons moV (t1_non fun _ => ⟨_, .non, by decide +kernel, by decide +kernel, nofun⟩) (tn_cons moV (t1_int fun _ => ⟨_, .int _, by decide +kernel, by decide +kernel, nofun⟩) (tn_cons moV (t1_str fun _ => lv_str (by decide +kernel) (Nat.le_trans (by decide +kernel : _ ≤ 23) (by omega))) (tn_cons moV (t1_data hp3 (mv_tup (ma_cons mv_str ma_nil)) fun _ _ h => ⟨_, h, by decide +kernel, by decide +kernel, nofun⟩) (tn_cons moV (t1_data hp3 (mv_lst (ma_cons mv_str ma_nil)) fun _ _ h => ⟨_, h, by decide +kernel, by decide +kernel, nofun⟩) (tn_cons moV (t1_str fun _ => lv_str (by decide +kernel) (Nat.le_trans (by decide +kernel : _ ≤ 23) (by omega))) (tn_cons moV (t1_str fun _ => lv_str (by decide +kernel) (Nat.le_trans (by decide +kernel : _ ≤ 23) (by omega))) (tn_cons moV (t1_str fun _ => lv_str (by decide +kernel) (Nat.le_trans (by decide +kernel : _ ≤ 23) (by omega))) tn_nil))))))))) (by decide) H3 _ same_rfl fun L2' vs2 H4 s4 n4 e4 g4 l4 => name_go ?_
      try dsimp only
      have s24 := s3.trans s4
      have m4 := mask_mono (p := p) s24
      refine splice_go (n := 2 * n + 3) rfl (pick0' _) (pick0' _) (by omega) (by omega) (Nat.le_refl _) few (die_same g.die s24) (m4 _ _ ha) (fun x hx => LV.mono _ _ _ m4 (lv x hx)) (fun H5 Q1 s5 die5 q => ?_) (fun l ys H' e v y g5 => fin l ys H' e v y (got_same s24 g5))
      exact ⟨_, rfl, _, rfl, p, L2', vs2, rfl, die5, .inl (s5 _ _ e4), die_free die3 n4, by omega, by omega, fun v H6 hv g6 => q v H6 g6 (LV.mono _ _ _ (mask_got (got_same s5 g6)) (g4 v hv))⟩
end
end K13
namespace K13
open PySem PySem.Spec PyProof.Rows L2 GL SkE PySem.GLE LamX
noncomputable abbrev s_law : Stmt := topS 80
noncomputable abbrev N_law : List Str := ["_law_script", "_law_spot", "_law_dice_here", "_law_lines_here", "_law_turn", "_law_some"]
theorem sc_law : FnScope N_law ["_law_script"] (defScope s_law) := ⟨rfl, rfl, rfl, by decide +kernel, rfl, by decide +kernel, by decide +kernel⟩
noncomputable def spLaw (K : PySem.W.Frag) (cT : List (Addr × Str)) : Sp := fun vs H Q _ => ∃ (a : Addr) (ns : List Int), vs = [.ref a] ∧ SqL K H a (ns.map V.int) ∧ ns.length ≤ 63 ∧ Tabs cT H ∧ ∀ H', Q (.bl true) H'
/-- the heap without its tables -/
noncomputable def noT (H : Hp) : Hp := fun b => match H b with | some (.tbl _) => none | x => x
theorem noT_of {b : Addr} {H : Hp} {o : HO} (e : noT H b = some o) : H b = some o ∧ ∀ ps, o ≠ .tbl ps := by
  unfold noT at e
  split at e
  · cases e
  · rename_i nt
    refine ⟨e, fun ps z => ?_⟩
    subst z
    exact nt _ e
theorem noT_at {b : Addr} {H : Hp} {o : HO} (e : H b = some o) (nt : ∀ ps, o ≠ .tbl ps) : noT H b = some o := by
  unfold noT
  rw [e]
  cases o <;> first | rfl | exact absurd rfl (nt _)
theorem sqL_noT {K : PySem.W.Frag} {H : Hp} {a : Addr} {xs : List V} (h : SqL K H a xs) : SqL K (noT H) a xs := by
  rcases h with (z | ⟨o, z⟩) | z
  · exact .inl (.inl (noT_at z (fun _ z => by cases z)))
  · exact .inl (.inr ⟨o, noT_at z (fun _ z => by cases z)⟩)
  · exact .inr z
theorem paired_of {K : PySem.W.Frag} {M : Hp} {n : Nat} (l : n ≤ 900) : ∀ {xs : List V}, (∀ x ∈ xs, LV K n M x) → ∃ os, Paired (RdV K M) xs os ∧ ∀ o ∈ os, ∀ y, o = some y → PyData.strOk y = true
  | [], _ => ⟨[], .nil, fun _ h => nomatch h⟩
  | x :: xs, h => by
    obtain ⟨o, rd, ok⟩ := (h x (List.mem_cons_self ..)).rd l
    obtain ⟨os, rds, oks⟩ := paired_of l (xs := xs) (fun z hz => h z (List.mem_cons_of_mem _ hz))
    exact ⟨o :: os, .cons rd rds, fun z hz => by
      rcases List.mem_cons.mp hz with e | hz
      · rw [e]; exact ok
      · exact oks z hz⟩
theorem linesP_ok {t : Bool} {r : RowT} {rs : Rls} (ok : SchOk t r rs) : ∀ y ∈ linesP t r rs, PyData.strOk y = true ∧ y.length ≤ 60 := by
  have rok : ∀ {r : RowT}, (∀ it ∈ r, ItemOk t it) → PyData.strOk (rowT r) = true := fun h => join_ok (by decide +kernel) (fun y hy => by obtain ⟨it, m, rfl⟩ := List.mem_map.mp hy; exact app_ok (let_ok (h it m).l) (ofS_ok _))
  intro y hy
  unfold linesP at hy
  rcases List.mem_cons.mp hy with rfl | hy
  · cases t <;> exact ⟨by decide +kernel, by decide +kernel⟩
  rcases List.mem_cons.mp hy with rfl | hy
  · refine ⟨app_ok (ofS_ok _) (rok ok.ax.all), ?_⟩
    have z := rowT_most ok.ax.all ok.ax.most
    rw [PySem.Str.length_append, show (Str.ofString "axiom ").length = 6 by decide +kernel]
    omega
  · obtain ⟨yr, m, rfl⟩ := List.mem_map.mp hy
    have l1 := ok.lets yr m
    refine ⟨app_ok (app_ok (app_ok (ofS_ok _) (let_ok l1)) (ofS_ok _)) (rok (ok.rows yr m).all), ?_⟩
    have z := rowT_most (ok.rows yr m).all (ok.rows yr m).most
    rw [PySem.Str.length_append, PySem.Str.length_append, PySem.Str.length_append, let_len l1, show (Str.ofString "rule ").length = 5 by decide +kernel, show (Str.ofString " ").length = 1 by decide +kernel]
    omega
theorem lv_list {K : PySem.W.Frag} {M : Hp} {n : Nat} : ∀ {xs : List V}, (∀ x ∈ xs, LV K n M x) → ∃ ds, DpAll K M xs ds ∧ PyData.canLayAll0 ds = true ∧ PyData.depthAll ds ≤ 2
  | [], _ => ⟨[], .nil, rfl, by simp [PyData.depthAll]⟩
  | x :: xs, h => by
    obtain ⟨d, a, b, c, _⟩ := h x (List.mem_cons_self ..)
    obtain ⟨ds, a2, b2, c2⟩ := lv_list (xs := xs) (fun z hz => h z (List.mem_cons_of_mem _ hz))
    exact ⟨d :: ds, .cons a a2, by simp [PyData.canLayAll0, b, b2], by simp [PyData.depthAll]; omega⟩
theorem list_shapedL {ds : List PyData} (a : PyData.canLayAll0 ds = true) (b : PyData.depthAll ds ≤ 2) : SeqAt.shaped (.list ds) = true := by
  unfold SeqAt.shaped
  simp [PyData.canLay0, a, PyData.depth]
  omega
theorem vals_go {K : PySem.W.Frag} {cT : List (Addr × Str)} {p a : Addr} {xs : List V} {n : Nat} {H : Hp} {Q : VK} {E : XK} (die : Die H p) (tabs : Tabs cT H) (ha : mask p H a = some (.lst xs)) (lv : ∀ x ∈ xs, LV K n (mask p H) x) (l : n ≤ 900) (few : xs.length ≤ 20)
    (k : ∀ H', Same (mask p H) (mask p H') → Die H' p → Tabs cT H' → Q (.bl true) H') : spVals K cT [.ref a] H Q E := by
  obtain ⟨os, rd, oks⟩ := paired_of l lv
  exact ⟨a, mask p H, xs, os, rfl, fun H1 ex b o e => (let ⟨h, _, t⟩ := mask_of e; ex _ _ h t), ha, ⟨rd, few, oks⟩, tabs, fun H' ex tb => k H' (mask_ext ex) (die_ext die ex) tb⟩
section
variable {P : Program} {w : World} {K : PySem.W.Frag} {mg : Str → Option Value} {base : Heap}
variable {aG dU C CR CS eG eS : Addr} {es : Es} {U : Bool → Addr} {us : Bool → List Addr}
variable {cT : List (Addr × Str)} {cA PA : Addr}
theorem fn_lam {x : Str} {st : Stmt} {N ps : List Str} {k : Nat} {sp : Sp} {f c : Addr} {oc kV doc pm ct : Value} {od an : Option Addr} {osl : Array (Option Value)} (at_ : K.lookup f = some ⟨oc, od, .func (PySem.W.fnOf x x (defArgs st) (defBody st) (defScope st) .none kV doc pm an (.ref c) ct), osl⟩) (cR : PySem.W.codeIn K (.ref c) x = true)
    (S : FnScope N ps (defScope st)) (len : ∀ vs H Q E, sp vs H Q E → vs.length = ps.length)
    (body : ∀ (A : Around) (outer : List Env) (s : Shared) (H : Hp) (vs : List V) (Q : VK) (E : XK), Gd (A.deeper (envOfC x (defScope st) s.heap.objs.size f (.ref c))) → Room k (A.deeper (envOfC x (defScope st) s.heap.objs.size f (.ref c))) → sp vs H Q E →
      ∃ t, PSs (cxOf CX0 P w K mg base N x (defScope st) f (.ref c) A outer s H E).nox (defBody st) t ∧ t { nx := fun _ H' => Q .non H', rt := Q } (start N vs) H) : FnG P w K mg base CX0 (k + 1) f (PySem.W.fnOf x x (defArgs st) (defBody st) (defScope st) .none kV doc pm an (.ref c) ct) ps sp := by
  constructor
  · exact len
  intro A outer s H args us vs Q E g room e0 bi vals asked
  have inK : K.In s.heap := e0.mod.kin.keeps (fun b o q => (e0.bs b o q).1)
  have line : s.heap.NoLimit := e0.mod.nolimit.keeps (fun b o q => (e0.bs b o q).1)
  have kinds : ∀ y ∈ ps.zip us, (defScope st).names.lookup y.1 = some .local ∨ ((defScope st).names.lookup y.1 = some .cell ∧ ((cellsFrom (s.heap.objs.size + 1) (defScope st).names []).lookup y.1).isSome = true) := by
    intro ⟨n, v⟩ hy
    cases S.par n (List.of_mem_zip hy).1 with
    | inl q => exact Or.inl q
    | inr q => exact Or.inr ⟨q, PySem.W.cellsFrom_some _ _ _ (Or.inl q)⟩
  apply codeAny_call_function room.depth (inK _ _ at_) rfl S.co S.gen rfl (PySem.W.codeRec_of inK cR)
  apply bi
  refine wpAny_newFunctionEnv_cells S.kind kinds (fun env eE s1 x1 => ?_)
  subst eE
  obtain ⟨t, rule0, q⟩ := body A outer s H vs Q E g (room.deeper _) asked
  have rule := rule0.nox
  have I0 := inv_start (CX := CX0) (E := E) S room.hd e0 (len _ _ _ _ asked) vals x1
  refine ⟨line.keeps x1.toInCall.keep, codeAny_func (wpAny_mono (rule.run [] s1 _ H _ I0 q) (fun fl s' done => ?_) (fun _ _ z => z))⟩
  cases fl with
  | ret u => obtain ⟨v, _, H', J, rv, qv⟩ := done; exact ⟨v, H', J.os, J.bare, J.base, J.hok, rv, qv⟩
  | next => obtain ⟨_, H', J, qv⟩ := done; exact ⟨V.non, H', J.os, J.bare, J.base, J.hok, rfl, qv⟩
  | brk => obtain ⟨_, _, _, z⟩ := done; exact z.elim
  | cont => obtain ⟨_, _, _, z⟩ := done; exact z.elim
theorem law_ok (T : TxR K mg aG dU C CR CS eG eS es) (sc : SCls K CS) (MD : Df K mg "_law_told" s__law_told) (TT : ToldT K mg eS es)
    (TB : TabB base mg cA PA) (inT : (PA, (("law" : Str) ++ ".<locals>.") ++ "<lambda>") ∈ cT) (oneT : ∀ p ∈ cT, p.1 = PA → p.2 = (("law" : Str) ++ ".<locals>.") ++ "<lambda>")
    (h_law_dice : Has P w K mg base CX0 "_law_dice" 1 ["_law_script", "_law_spot"] (spDice K)) (h_law_wild_lines : Has P w K mg base CX0 "_law_wild_lines" 6 ["_law_dice_here"] spWild)
    (h_law_roll : Has P w K mg base CX0 "_law_roll" 1 ["_law_dice_here", "_law_total"] spRoll)
    (h_law_mixed : Has P w K mg base CX0 "_law_mixed" 2 ["_law_dice_here", "_law_items"] (spMixedB K))
    (h_law_changed_lines : Has P w K mg base CX0 "_law_changed_lines" 4 ["_law_dice_here", "_law_lines_here"] (spChg K))
    (h_law_values_right : Has P w K mg base CX0 "_law_values_right" 16 ["_law_values"] (spVals K cT))
    (hm_from_lines : HasCMv P w K mg base (L2.CX P w) CS "from_lines" 12 (StarP ["cls"] (spFromIn K C U CR CS eS es)))
    {f : Addr} {oc kV doc pm ct : Value} {od an : Option Addr} {osl : Array (Option Value)} (at_ : K.lookup f = some ⟨oc, od, .func (PySem.W.fnOf "law" "law" (defArgs s_law) (defBody s_law) (defScope s_law) .none kV doc pm an (.ref cA) ct), osl⟩) (cR : PySem.W.codeIn K (.ref cA) "law" = true) :
    FnG P w K mg base CX0 18 f (PySem.W.fnOf "law" "law" (defArgs s_law) (defBody s_law) (defScope s_law) .none kV doc pm an (.ref cA) ct) ["_law_script"] (spLaw K cT) := by
  refine fn_lam at_ cR sc_law (fun vs H Q E h => ?_) (fun A outer s H vs Q E gd hr h => ?_)
  · obtain ⟨a, ns, rfl, _⟩ := h
    rfl
  · obtain ⟨a, ns, rfl, hS, hl, tb, k⟩ := h
    have hu := hr.units
    refine ⟨_, (pss_cons
 (ps_for PassesOwn.never rfl (pi_range1 (by exact rfl) T.zrange (pa_cons (pe_callB (call_max2 rfl) (by exact rfl) T.zmax (by decide +kernel) (pa_cons pe_int (pa_cons (pe_callB (call_min2 rfl) (by exact rfl) T.zmin (by decide +kernel) (pa_cons pe_int (pa_cons (pe_callB call_len_seq (by exact rfl) T.zlen PySem.boot_len (pa_cons (pv 0) pa_nil)) pa_nil))) pa_nil))) pa_nil)) (pg_name (i := 1) sc_law.nd rfl (Or.inl rfl)) (pss_cons
 (ps_set (i := 2) sc_law.nd rfl (Or.inl rfl) (pe_callH h_law_dice gd (hr.mono (by decide)) pass0 (pa_cons (pv 0) (pa_cons (pv 1) pa_nil))))
 (pss_cons
 (ps_set (i := 3) sc_law.nd rfl (Or.inl rfl) (pe_callH h_law_wild_lines gd (hr.mono (by decide)) pass0 (pa_cons (pv 2) pa_nil)))
 (pss_cons
 (ps_if (PW.pt (pw_or (pt_not (pt_val (pe_callH h_law_values_right gd (hr.mono (by decide)) pass0 (pa_cons (pv 3) pa_nil)))) (pw_or1 (pt_not (pt_val (pe_callH h_law_values_right gd (hr.mono (by decide)) pass0 (pa_cons (pe_callH h_law_mixed gd (hr.mono (by decide)) pass0 (pa_cons (pv 2) (pa_cons (pv 3) pa_nil))) pa_nil))))))) (pss_one
 (ps_ret pe_bl)) pss_nil)
 (pss_one
 (ps_for PassesOwn.never rfl (pi_range1 (by exact rfl) T.zrange (pa_cons pe_int pa_nil)) (pg_name (i := 4) sc_law.nd rfl (Or.inl rfl)) (pss_cons
 (ps_set (i := 5) sc_law.nd rfl (Or.inl rfl) (pe_callH h_law_changed_lines gd (hr.mono (by decide)) pass0 (pa_cons (pv 2) (pa_cons (pe_callH h_law_mixed gd (hr.mono (by decide)) pass0 (pa_cons (pv 2) (pa_cons (pv 3) pa_nil))) pa_nil))))
 (Evl.pss_cut
 (ps_if (pt_cmpR op_eq (pe_callH h_law_roll gd (hr.mono (by decide)) pass0 (pa_cons (pv 2) (pa_cons pe_int pa_nil))) pe_int (nomark _)) (pss_one
 (ps_set (i := 5) sc_law.nd rfl (Or.inl rfl) (pe_ifExp (pt_cmpR (op_neD hu) (pv 5) (pe_lst pa_nil) (nomark _)) (pe_callH h_law_changed_lines gd (hr.mono (by decide)) pass0 (pa_cons (pv 2) (pa_cons (pv 5) pa_nil))) (pv 5)))) pss_nil)
 (pss_one
 (ps_if (pt_not (pt_val (pe_callH h_law_values_right gd (hr.mono (by decide)) pass0 (pa_cons (pv 5) pa_nil)))) (pss_one
 (ps_ret pe_bl)) pss_nil))))))))))
 (pss_one
 (ps_ret (pe_cmpR op_isN (pe_told (k := 13) MD TT (by exact rfl) TB rfl inT oneT gd (hr.mono (by decide)) (show LamS (defScope s_law) _ from lamS_by (by decide +kernel)) rfl (fun _ _ _ _ _ => rfl) (fun A outer s H E f c' gd hr => (pe_cmethG0v (pe_globV T.gScheme) hm_from_lines gd (hr.mono (by decide)) (passes_call (takes_of rfl rfl rfl rfl) (fun _ _ _ _ e => e))))) pe_non (nomark _))))), ?_⟩
    dsimp only [cxOf, Cx.nox]
    refine seq_go ?_
    refine ⟨_, rfl, _, _, rfl, .inl hS, _, _, rfl, _, _, rfl, ?_⟩
    generalize hz : (if (if ((ns.map V.int).length : Int) < 5 then ((ns.map V.int).length : Int) else 5) > 1 then (if ((ns.map V.int).length : Int) < 5 then ((ns.map V.int).length : Int) else 5) else 1) = z
    obtain ⟨z0, z6⟩ := few_of (k := 5) (by decide) z hz
    have hSM := sqL_noT hS
    have nt : ∀ b ps, noT H b ≠ some (.tbl ps) := fun b ps z => (noT_of z).2 ps rfl
    have sM : Same (noT H) H := fun b o e => (noT_of e).1
    generalize noT H = M at *
    refine ⟨z, rfl, by omega, by omega, for_range (lo := 0) (n := z.toNat) (fun i σ' H' => ∃ v1 v2 v3 v4 v5, σ' = [some (.ref a), v1, v2, v3, v4, v5] ∧ Same M H' ∧ Tabs cT H')
      ⟨none, none, none, none, none, rfl, sM, tb⟩ ?_ ?_⟩
    · rintro i' _ H0 hi ⟨v1, v2, v3, v4, v5, rfl, sM0, tb0⟩
      refine ⟨_, rfl, _, rfl, a, ns, _, rfl, sqL_same hSM sM0, (by omega), fun p H1 np same die => ?_⟩
      have mp : M p = none := by
        cases e : M p with
        | none => rfl
        | some o => rw [sM0 _ _ e] at np; cases np
      have toM : ∀ {H'}, Same M H' → Same M (mask p H') := fun s b o e => mask_at (s _ _ e) (fun z => by rw [z, mp] at e; cases e) (fun ps z => nt b ps (by rw [e, z]))
      have sA := toM (sM0.trans same)
      have tabs1 := tb0.ext same
      clear same np sM0 tb0
      refine ⟨_, rfl, p, rfl, die, fun L t r rs H2 nL hL good sok abcs g2 => ?_⟩
      have tabs2 := tabs_got tabs1 die g2
      have die2 := g2.die
      replace sA := sA.trans (mask_got g2)
      have ha : mask p H2 L = some (.lst ((linesP t r rs).map V.str)) := mask_at hL nL (fun _ z => by cases z)
      have lv : ∀ x ∈ (linesP t r rs).map V.str, LV K 60 (mask p H2) x := fun x hx => by
        obtain ⟨y, hy, rfl⟩ := List.mem_map.mp hx
        obtain ⟨o, l⟩ := linesP_ok sok y hy
        exact lv_str o l
      have lo : 3 ≤ ((linesP t r rs).map V.str).length ∧ ((linesP t r rs).map V.str).length ≤ 8 := by
        have h1 := sok.lo
        have h2 := sok.hi
        unfold linesP
        rw [List.length_map, List.length_cons, List.length_cons, List.length_map]
        omega
      generalize (linesP t r rs).map V.str = xs at *
      clear good sok abcs hL nL g2 die tabs1
      refine ⟨_, rfl, nil_intro (vals_go die2 tabs2 ha lv (by decide) (by omega) fun H3 s3 die3 tabs3 => ⟨true, rfl, (iteF ?_ : if (!true) = true then _ else _)⟩)⟩
      have ha3 := s3 _ _ ha
      refine ⟨_, rfl, _, rfl, p, L, xs, rfl, die3, .inl (SqL.of (mask_same _ _ ha3)), by omega, fun l ys H4 nl nlp len perm e4 g4 => nil_intro ?_⟩
      have m4 := mask_got g4
      have tabs4 := tabs_got tabs3 die3 g4
      refine vals_go g4.die tabs4 (mask_at e4 nlp (fun _ z => by cases z)) (fun x hx => LV.mono _ _ _ (s3.trans m4) (lv x (perm.mem_iff.mp hx))) (by decide) (by omega) fun H5 s5 die5 tabs5 => ⟨true, rfl, (iteF (nx_go ?_) : if (!true) = true then _ else _)⟩
      try dsimp only
      replace ha := (m4.trans s5) _ _ ha3
      replace lv := fun x hx => LV.mono _ _ _ ((s3.trans m4).trans s5) (lv x hx)
      replace sA := sA.trans ((s3.trans m4).trans s5)
      clear s3 s5 m4 tabs3 tabs4 die3 g4 perm e4 nlp len nl ha3 die2 tabs2
      refine ⟨5, rfl, by omega, by omega, for_range (lo := 0) (n := 5) (fun i σ' H' => ∃ v4 v5, σ' = [some (.ref a), some (.int (0 + (i' : Int))), some (.ref p), some (.ref L), v4, v5] ∧ Same (mask p H5) (mask p H') ∧ Die H' p ∧ Tabs cT H')
        ⟨_, _, rfl, same_rfl, die5, tabs5⟩ ?_ ?_⟩
      · rintro j _ H6 hj ⟨v4, v5, rfl, s6, die6, tabs6⟩
        have ha6 := s6 _ _ ha
        refine ⟨_, rfl, _, rfl, _, rfl, p, L, xs, rfl, die6, .inl (SqL.of (mask_same _ _ ha6)), by omega, fun l ys H7 nl nlp len perm e7 g7 => ?_⟩
        have m7 := mask_got g7
        have tabs7 := tabs_got tabs6 die6 g7
        refine nil_intro ⟨p, l, ys, 60, rfl, g7.die, mask_at e7 nlp (fun _ z => by cases z), (fun x hx => LV.mono _ _ _ (s6.trans m7) (lv x (perm.mem_iff.mp hx))), by omega, by omega, by decide, by decide, fun l2 zs H8 e8 lv8 len8 g8 => ?_⟩
        have tabs8 := tabs_got tabs7 g7.die g8
        have s8 := (s6.trans m7).trans (mask_got g8)
        have die8 := g8.die
        clear g8 g7 tabs7 m7 e7 nlp nl ha6 tabs6 die6 s6
        try dsimp only
        refine ⟨fun σ' H' => ∃ l zs, σ' = [some (.ref a), some (.int (0 + (i' : Int))), some (.ref p), some (.ref L), some (.int (0 + (j : Int))), some (.ref l)] ∧ Same (mask p H5) (mask p H') ∧ Die H' p ∧ Tabs cT H' ∧ mask p H' l = some (.lst zs) ∧ (∀ z ∈ zs, LV K 249 (mask p H') z) ∧ zs.length ≤ 10, ?_, ?_⟩
        · refine ⟨_, rfl, p, 3, rfl, die8, by decide, by decide, fun rr H9 r0 r1 g9 => ⟨rfl, _, rfl, ite2 (fun c => ?_) (fun c => ?_)⟩⟩
          · have m9 := mask_got g9
            have tabs9 := tabs_got tabs8 die8 g9
            have e9 := m9 _ _ e8
            have lv9 := fun x hx => LV.mono _ _ _ m9 (lv8 x hx)
            have s9 := s8.trans m9
            obtain ⟨ds, dds, dl, dd⟩ := lv_list lv9
            refine asg_go ⟨_, rfl, by show 0 ≤ sizeLine; decide, fun N nN => ?_⟩
            have sN := Same.new (o := .lst []) nN
            refine ⟨.list ds, .list [], .lst (SqL.of (sN _ _ (mask_same _ _ e9))) (dps_same (mask_same.trans sN) dds), .lst (SqL.of upd_same) .nil, list_shapedL dl dd, by decide +kernel, _, rfl, ?_⟩
            have sNm := mask_mono (p := p) sN
            refine ite2 (fun ne => ?_) (fun _ => ?_)
            · have zl : 1 ≤ zs.length := by
                cases zs with
                | nil => cases dds; exact absurd ne (by decide)
                | cons z r => rw [List.length_cons]; omega
              refine ⟨_, rfl, _, rfl, nil_intro ⟨p, l2, zs, 123, rfl, die_same g9.die sN, sNm _ _ e9, fun x hx => LV.mono _ _ _ sNm (lv9 x hx), zl, by omega, by decide, by decide, fun l3 ws H10 e10 lv10 len10 g10 => name_go ?_⟩⟩
              exact ⟨l3, ws, rfl, (s9.trans sNm).trans (mask_got g10), g10.die, tabs_got (tabs9.ext sN) (die_same g9.die sN) g10, e10, lv10, by omega⟩
            · exact ⟨_, rfl, name_go ⟨l2, zs, rfl, s9.trans sNm, die_same g9.die sN, tabs9.ext sN, sNm _ _ e9, fun x hx => (LV.mono _ _ _ sNm (lv9 x hx)).more (by decide), by omega⟩⟩
          · have m9 := mask_got g9
            exact nx_go ⟨l2, zs, rfl, s8.trans m9, g9.die, tabs_got tabs8 die8 g9, m9 _ _ e8, fun z hz => (LV.mono _ _ _ m9 (lv8 z hz)).more (by decide), by omega⟩
        · rintro _ H9 ⟨l, zs, rfl, s9, die9, tabs9, e9, lv9, len9⟩
          refine ⟨_, rfl, nil_intro (vals_go die9 tabs9 e9 lv9 (by decide) (by omega) fun H' s' die' tabs' => ⟨true, rfl, (iteF (nx_go ?_) : if (!true) = true then _ else _)⟩)⟩
          exact ⟨_, _, rfl, s9.trans s', die', tabs'⟩
      · rintro _ H6 ⟨v4, v5, rfl, s6, die6, tabs6⟩
        exact ⟨_, _, _, _, _, rfl, (sA.trans s6).trans mask_same, tabs6⟩
    · rintro _ H1 ⟨v1, v2, v3, v4, v5, rfl, sM1, tb1⟩
      try dsimp only
      refine told_go sc tb1 (M := fun _ => none) (fun H1 e b o z => nomatch z) (xs := []) (os := []) .nil (by decide) (fun H1 Q1 q => q) fun v H' ex tb' tg => ⟨rfl, ?_⟩
      rcases tg with ⟨_, e, _⟩ | ⟨_, _, _, rfl⟩ | ⟨acc, t, r, ss, e, m1, _⟩
      · cases e
      · rw [decide_eq_true rfl]
        exact k _
      · cases e
        cases m1
end
end K13
namespace K13
open PySem PySem.Spec PyProof.Rows L2 GL SkE PySem.GLE LamX
section
variable {P : Program} {w : World} {K : PySem.W.Frag} {mg : Str → Option Value} {base : Heap}
variable {aG dU C CR CS eG eS : Addr} {U : Bool → Addr} {us : Bool → List Addr}
theorem h_init (T : Txt K mg aG dU C CR) (hU : Uni K w aG dU U us) (c : GCls K C) (D : Dc K C "Grid.__init__" s_Grid_WinitW) (m : mg "Grid" = some (.ref C)) : HasC P w K mg base "Grid" C 1 ["self", "name"] (spInit C U) := by
  refine D.has m sc_Grid_WinitW (fun vs H Q E h => ?_) (fun kV doc pm an cdv ct us hl => match us, hl with | [_, _], _ => rfl) (fun f cdv A outer s H vs Q E hr h => ?_)
  · obtain ⟨p, dx, t, rfl, _⟩ := h
    rfl
  · obtain ⟨p, dx, t, rfl, hp, k⟩ := h
    refine ⟨_, (pss_cons
 (ps_if (pt_cmpR op_notIn_seq (pv 1) (pe_globV T.gGRIDS) (by rfl)) (pss_one
 ps_never) pss_nil)
 (pss_cons
 (ps_fld (pv 0) (pv 1) rfl)
 (pss_cons
 (ps_fld (pv 0) (pe_ix ix_kdict (pe_globV T.g_UNITS) (pv 1) (fun _ _ => rfl)) rfl)
 (pss_cons
 (ps_fld (pv 0) (pe_op op_fdiv (pe_callB call_len_seq (by exact rfl) T.zlen PySem.boot_len (pa_cons (pe_ix ix_kdict (pe_globV T.g_UNITS) (pv 1) (fun _ _ => rfl)) pa_nil)) pe_int) rfl)
 (pss_one
 (ps_fld (pv 0) (pe_ifExp (pt_cmpR op_eq (pv 1) pe_str (nomark _)) pe_int pe_int) rfl)))))), ?_⟩
    refine ⟨_, rfl, aG, _, rfl, .inr (hU.grids H), rfl, rfl, _, rfl, ?_⟩
    rw [show (!inV (V.str (nm t)) [.str "square", .str "triangle"]) = false by cases t <;> rfl]
    refine iteF ⟨_, rfl, _, rfl, _, _, _, _, rfl, hp, c.cls, c.name, by show 0 < 1000; decide, ?_⟩
    refine ⟨_, rfl, dU, _, _, rfl, rfl, hU.key t, _, rfl, _, _, _, _, rfl, upd_same, c.cls, c.units, by show 1 < 1000; decide, ?_⟩
    refine ⟨_, rfl, dU, _, _, rfl, rfl, hU.key t, U t, _, rfl, .inr (hU.tup t _), _, _, rfl, rfl, ⟨by decide, by decide⟩, _, rfl, _, _, _, _, rfl, upd_same, c.cls, c.half, Nat.lt_of_le_of_lt (small_put (n := 1) (small_put (n := 0) (Nat.le_refl 0))) (by decide), ?_⟩
    rw [List.length_map, hU.len t]
    refine ⟨_, rfl, rfl, _, rfl, ?_⟩
    rw [show decide (V.str (nm t) = V.str "triangle") = t from by cases t <;> decide +kernel]
    have fin : ∀ v, v = V.int (sl t) → (∃ y, (L2.start N_Grid_WinitW [V.ref p, V.str (nm t)])[0]? = some (some y) ∧ ∃ a C' dx' fs, y = V.ref a ∧ (upd (upd (upd H p (.ins C dx (putF "name" (V.str (nm t)) []))) p (.ins C dx (putF "units" (V.ref (U t)) (putF "name" (V.str (nm t)) [])))) p (.ins C dx (putF "half" (V.int ((num t : Int) / 2)) (putF "units" (V.ref (U t)) (putF "name" (V.str (nm t)) []))))) a = some (.ins C' dx' fs) ∧ Cls K C' ∧ NoAttr K C' "slant" ∧ fs.length < 1000 ∧ Q .non (upd (upd (upd (upd H p (.ins C dx (putF "name" (V.str (nm t)) []))) p (.ins C dx (putF "units" (V.ref (U t)) (putF "name" (V.str (nm t)) [])))) p (.ins C dx (putF "half" (V.int ((num t : Int) / 2)) (putF "units" (V.ref (U t)) (putF "name" (V.str (nm t)) []))))) a (.ins C' dx' (putF "slant" v fs)))) := by
      rintro _ rfl
      refine ⟨_, rfl, _, _, _, _, rfl, upd_same, c.cls, c.slant, Nat.lt_of_le_of_lt (small_put (n := 2) (small_put (n := 1) (small_put (n := 0) (Nat.le_refl 0)))) (by decide), k _ (fun b hb => by rw [upd_ne hb, upd_ne hb, upd_ne hb, upd_ne hb]) ?_⟩
      rw [upd_same]
      rw [show putF "name" (V.str (nm t)) [] = [(("name" : Str), V.str (nm t))] from rfl, put2 (by decide), put3 (by decide) (by decide), put4 (by decide) (by decide) (by decide)]
      rfl
    cases t with
    | false => exact iteF (fin _ rfl)
    | true => exact iteT (fin _ rfl)

end
end K13
namespace K13
open PySem PySem.Spec PyProof.Rows L2 GL SkE PySem.GLE LamX
theorem cd_mk {K : PySem.W.Frag} {c P : Addr} {vs : Array Value} {d : Option Addr} {sl : Array (Option Value)} (l : K.lookup c = some ⟨.type "code", d, .fields vs, sl⟩) (e : vs[11]? = some (.ref P)) (h : PySem.W.codeHdIn K c P = true) : PySem.W.codeHdIn K c P = true := h
noncomputable def lamN (x : Str) : Str := (x ++ ".<locals>.") ++ "<lambda>"
noncomputable def cTof (T1 T2 : Addr) : List (Addr × Str) := [(T1, lamN "_law_values_right"), (T2, lamN "law")]
theorem fm_mk {K : PySem.W.Frag} {C : Addr} (a : PySem.W.findIn K (.ref C) "__format__" = some (some (.builtin "object.__format__"))) (b : PySem.W.mroIn K C (.type "object") = some true) : FmtC K C := ⟨a, b⟩
theorem dcm_mk {K : PySem.W.Frag} {C f p : Addr} {m qual : Str} {st : Stmt} {oc : Value} {rest : List Value} {od an : Option Addr} {osl : Array (Option Value)} {kV doc pm cdv ct : Value} (rd : PySem.W.readsIn K C (.type "type") = true) (ga : PySem.W.specialIn K (.ref C) "__getattribute__" = some (some (.builtin "type.__getattribute__")))
    (a : PySem.W.findCls K (.ref C) (.type "type") m = some (.get (.builtin "classmethod.__get__") (.ref p) .none (.ref C))) (rc : PySem.W.recIn K p "classmethod" = some (.ref f :: rest)) (fi : PySem.W.fnIn K f = true)
    (l : K.lookup f = some ⟨oc, od, .func (PySem.W.fnOf m qual (defArgs st) (defBody st) (defScope st) .none kV doc pm an cdv ct), osl⟩) (c : PySem.W.codeIn K cdv qual = true) (k : PySem.W.keepIn K (.ref f) = true) : Dcm K C m qual st :=
  ⟨f, _, _, p, fun_mk l c k, ⟨rd, ga⟩, ⟨a, ⟨rest, rc⟩, fi⟩⟩
theorem all_mk {l : PySem.W.OpenLaw} {P : Program} {w : World} {K : PySem.W.Frag} {h : Heap} {mg : Str → Option Value} {fa : Addr} {aG dU C CR CS aS aT s0 s1 s2 s3 t0 t1 t2 t3 t4 t5 eG eS eP eU iP iU c1 T1 c2 T2 : Addr} (X : K.In h) (G : h.Ns mainGlobals mg) (hfa : mg "law" = some (.ref fa))
    (z0 : PySem.W.nsIn K mainGlobals "isinstance" = some none)
    (z1 : PySem.W.nsIn K mainGlobals "bool" = some none)
    (z2 : PySem.W.nsIn K mainGlobals "int" = some none)
    (z3 : PySem.W.nsIn K mainGlobals "str" = some none)
    (z4 : PySem.W.nsIn K mainGlobals "tuple" = some none)
    (z5 : PySem.W.nsIn K mainGlobals "list" = some none)
    (z6 : PySem.W.nsIn K mainGlobals "dict" = some none)
    (z7 : PySem.W.nsIn K mainGlobals "set" = some none)
    (z8 : PySem.W.nsIn K mainGlobals "sorted" = some none)
    (z9 : PySem.W.nsIn K mainGlobals "all" = some none)
    (z10 : PySem.W.nsIn K mainGlobals "len" = some none)
    (z11 : PySem.W.nsIn K mainGlobals "max" = some none)
    (z12 : PySem.W.nsIn K mainGlobals "min" = some none)
    (z13 : PySem.W.nsIn K mainGlobals "abs" = some none)
    (z14 : PySem.W.nsIn K mainGlobals "range" = some none)
    (z15 : PySem.W.nsIn K mainGlobals "repr" = some none)
    (z16 : PySem.W.nsIn K mainGlobals "iter" = some none)
    (zen : PySem.W.nsIn K mainGlobals "enumerate" = some none)
    (dig : PySem.W.nsIn K cStatics "sys.int_max_str_digits" = some none)
    (nGRIDS : PySem.W.nsIn K mainGlobals "GRIDS" = some (some (.ref aG)))
    (n_UNITS : PySem.W.nsIn K mainGlobals "_UNITS" = some (some (.ref dU)))
    (nGrid : PySem.W.nsIn K mainGlobals "Grid" = some (some (.ref C)))
    (nRule : PySem.W.nsIn K mainGlobals "Rule" = some (some (.ref CR)))
    (nScheme : PySem.W.nsIn K mainGlobals "Scheme" = some (some (.ref CS)))
    (c : GCls K C)
    (tg : TupK K aG [.str "square", .str "triangle"])
    (kS : KDct K w dU "square" (.ref aS))
    (kT : KDct K w dU "triangle" (.ref aT))
    (tS : TupK K aS [.ref s0, .ref s1, .ref s2, .ref s3])
    (tT : TupK K aT [.ref t0, .ref t1, .ref t2, .ref t3, .ref t4, .ref t5])
    (p0 : TupK K s0 [.int 1, .int 0])
    (p1 : TupK K s1 [.int 0, .int 1])
    (p2 : TupK K s2 [.int (-1), .int 0])
    (p3 : TupK K s3 [.int 0, .int (-1)])
    (q0 : TupK K t0 [.int 1, .int 0])
    (q1 : TupK K t1 [.int 0, .int 1])
    (q2 : TupK K t2 [.int (-1), .int 1])
    (q3 : TupK K t3 [.int (-1), .int 0])
    (q4 : TupK K t4 [.int 0, .int (-1)])
    (q5 : TupK K t5 [.int 1, .int (-1)])
    (di : Dc K C "Grid.__init__" s_Grid_WinitW)
    (gi : GIs K C)
    (m0 : Dm K C "__str__" "Grid.__str__" s_Grid_WstrW)
    (rc : RCls K CR)
    (dri : Dc K CR "Rule.__init__" s_Rule_WinitW)
    (r0 : Dm K CR "__str__" "Rule.__str__" s_Rule_WstrW)
    (sc : SCls K CS)
    (si : GIs K CS)
    (dsi : Dc K CS "Scheme.__init__" s_Scheme_WinitW)
    (cm : Dcm K CS "from_lines" "Scheme.from_lines" s_Scheme_from_lines)
    (fmG : FmtC K C)
    (fmR : FmtC K CR)
    (neG : PySem.W.nsIn K mainGlobals "InvalidGrid" = some (some (.ref eG)))
    (qeG : PySem.W.excIn K eG [.type "ValueError", .type "Exception", .type "BaseException", .type "object"] "ValueError.__new__" = true)
    (keG : PySem.W.keepIn K (.ref eG) = true)
    (beG : PySem.W.subIn K (.ref eG) (.type "BaseException") = some true)
    (teG : PySem.W.typeIn K (.ref eG) = some (.type "type"))
    (neS : PySem.W.nsIn K mainGlobals "InvalidScheme" = some (some (.ref eS)))
    (qeS : PySem.W.excIn K eS [.type "ValueError", .type "Exception", .type "BaseException", .type "object"] "ValueError.__new__" = true)
    (keS : PySem.W.keepIn K (.ref eS) = true)
    (beS : PySem.W.subIn K (.ref eS) (.type "BaseException") = some true)
    (teS : PySem.W.typeIn K (.ref eS) = some (.type "type"))
    (xP : ErrTxt K mg "ParseError" "number" eP iP)
    (xU : ErrTxt K mg "UnknownLetter" "word" eU iU)
    (ySS : PySem.W.exmOne K (.ref eS) (.ref eS) = some true)
    (ySP : PySem.W.exmOne K (.ref eS) (.ref eP) = some false)
    (yPP : PySem.W.exmOne K (.ref eP) (.ref eP) = some true)
    (g0 : ∃ u, PySem.W.nsIn K mainGlobals "_BOUND" = some (some u) ∧ RelV (.int B) u)
    (g1 : ∃ u, PySem.W.nsIn K mainGlobals "LETTERS" = some (some u) ∧ RelV (.str "abcdefghijklmnopqrstuvwxyz") u)
    (g2 : ∃ u, PySem.W.nsIn K mainGlobals "MIN_ITEMS" = some (some u) ∧ RelV (.int 2) u)
    (g3 : ∃ u, PySem.W.nsIn K mainGlobals "MAX_ITEMS" = some (some u) ∧ RelV (.int 12) u)
    (g4 : ∃ u, PySem.W.nsIn K mainGlobals "MAX_LETTERS" = some (some u) ∧ RelV (.int 6) u)
    (g5 : ∃ u, PySem.W.nsIn K mainGlobals "MAX_AXIOM" = some (some u) ∧ RelV (.int 12) u)
    (g6 : ∃ u, PySem.W.nsIn K mainGlobals "LEAST_NORM" = some (some u) ∧ RelV (.int 2) u)
    (g7 : ∃ u, PySem.W.nsIn K mainGlobals "_TURNS" = some (some u) ∧ RelV (.str "012345") u)
    (d0 : Df K mg "is_integer" s_is_integer)
    (d1 : Df K mg "is_count" s_is_count)
    (d2 : Df K mg "is_letter" s_is_letter)
    (d3 : Df K mg "plus" s_plus)
    (d4 : Df K mg "trail" s_trail)
    (d5 : Df K mg "norm_in" s_norm_in)
    (d6 : Df K mg "_check_grid" s__check_grid)
    (d7 : Df K mg "is_turn" s_is_turn)
    (d8 : Df K mg "is_item" s_is_item)
    (d9 : Df K mg "is_row" s_is_row)
    (d10 : Df K mg "row_text" s_row_text)
    (d11 : Df K mg "_has_rows" s__has_rows)
    (d12 : Df K mg "_is_complete" s__is_complete)
    (d13 : Df K mg "_rules_of" s__rules_of)
    (d14 : Df K mg "_letters_met" s__letters_met)
    (d15 : Df K mg "_is_item_text" s__is_item_text)
    (d16 : Df K mg "row_in" s_row_in)
    (d17 : Df K mg "_with_row" s__with_row)
    (d18 : Df K mg "read_line" s_read_line)
    (d19 : Df K mg "_law_dice" s__law_dice)
    (d20 : Df K mg "_law_roll" s__law_roll)
    (d21 : Df K mg "_law_pick" s__law_pick)
    (d22 : Df K mg "_law_mixed" s__law_mixed)
    (d23 : Df K mg "_law_around" s__law_around)
    (d24 : Df K mg "_law_unit" s__law_unit)
    (d25 : Df K mg "_law_plus" s__law_plus)
    (d26 : Df K mg "_law_norm" s__law_norm)
    (d27 : Df K mg "_law_row" s__law_row)
    (d28 : Df K mg "_law_row_text" s__law_row_text)
    (d29 : Df K mg "_law_plain" s__law_plain)
    (d30 : Df K mg "_law_lines" s__law_lines)
    (d31 : Df K mg "_law_sum" s__law_sum)
    (d32 : Df K mg "_law_written" s__law_written)
    (d33 : Df K mg "_law_turns" s__law_turns)
    (d34 : Df K mg "_law_drawn_rule" s__law_drawn_rule)
    (d35 : Df K mg "_law_drawn" s__law_drawn)
    (d36 : Df K mg "_law_any" s__law_any)
    (d37 : Df K mg "_law_is_row" s__law_is_row)
    (d38 : Df K mg "_law_is_scheme" s__law_is_scheme)
    (d39 : Df K mg "_law_wild_lines" s__law_wild_lines)
    (d40 : Df K mg "_law_row_read" s__law_row_read)
    (d41 : Df K mg "_law_spoilt_text" s__law_spoilt_text)
    (d42 : Df K mg "_law_line_read" s__law_line_read)
    (d43 : Df K mg "_law_due" s__law_due)
    (d44 : Df K mg "_law_changed_lines" s__law_changed_lines)
    (d45 : Df K mg "_law_told" s__law_told)
    (l1 : Dl K mg "_law_values_right" s__law_values_right c1)
    (l2 : Dl K mg "law" s_law c2)
    (h1 : PySem.W.codeHdIn K c1 T1 = true)
    (h2 : PySem.W.codeHdIn K c2 T2 = true)
    (nT : [T1, T2].Nodup)
    (f1 : K.lookup T1 = none)
    (f2 : K.lookup T2 = none)
    (e1 : h.get? T1 = some { cls := .none, data := .fields #[] })
    (e2 : h.get? T2 = some { cls := .none, data := .fields #[] })
    (lp : l.prog = P) : LawTab l w K CX0 18 63 "_law_script" mg fa h := by
  have T0 : Txt K mg aG dU C CR := ⟨PySem.W.mg_none_of X G z0, PySem.W.mg_none_of X G z1, PySem.W.mg_none_of X G z2, PySem.W.mg_none_of X G z3, PySem.W.mg_none_of X G z4, PySem.W.mg_none_of X G z5, PySem.W.mg_none_of X G z6, PySem.W.mg_none_of X G z7, PySem.W.mg_none_of X G z8, PySem.W.mg_none_of X G z9, PySem.W.mg_none_of X G z10, PySem.W.mg_none_of X G z11, PySem.W.mg_none_of X G z12, PySem.W.mg_none_of X G z13, PySem.W.mg_none_of X G z14, PySem.W.mg_none_of X G z15, PySem.W.mg_none_of X G z16, (let ⟨u, a, r⟩ := g0; ⟨u, PySem.W.mg_of X G a, r⟩), (let ⟨u, a, r⟩ := g1; ⟨u, PySem.W.mg_of X G a, r⟩), (let ⟨u, a, r⟩ := g2; ⟨u, PySem.W.mg_of X G a, r⟩), (let ⟨u, a, r⟩ := g3; ⟨u, PySem.W.mg_of X G a, r⟩), ⟨_, PySem.W.mg_of X G nGRIDS, rfl⟩, ⟨_, PySem.W.mg_of X G n_UNITS, rfl⟩, ⟨_, PySem.W.mg_of X G nGrid, rfl⟩, ⟨_, PySem.W.mg_of X G nRule, rfl⟩⟩
  have T1_ : TxS K mg aG dU C CR := ⟨T0, (let ⟨u, a, r⟩ := g4; ⟨u, PySem.W.mg_of X G a, r⟩), (let ⟨u, a, r⟩ := g5; ⟨u, PySem.W.mg_of X G a, r⟩), (let ⟨u, a, r⟩ := g6; ⟨u, PySem.W.mg_of X G a, r⟩)⟩
  have T2_ : TxM K mg aG dU C CR eG eS := ⟨T1_, ⟨qeG, PySem.W.mg_of X G neG, keG, beG, teG⟩, ⟨qeS, PySem.W.mg_of X G neS, keS, beS, teS⟩⟩
  have T : TxR K mg aG dU C CR CS eG eS ⟨eP, iP, eU, iU⟩ := ⟨T2_, PySem.W.mg_none_of X G zen, (let ⟨u, a, r⟩ := g7; ⟨u, PySem.W.mg_of X G a, r⟩), ⟨_, PySem.W.mg_of X G nScheme, rfl⟩, xP, xU⟩
  have TT : ToldT K mg eS ⟨eP, iP, eU, iU⟩ := ⟨PySem.W.mg_of X G neS, xP, ySS, ySP, yPP⟩
  have hU := uni_mk (w := w) tg kS kT tS tT p0 p1 p2 p3 q0 q1 q2 q3 q4 q5
  obtain ⟨f, oc, kV, doc, pm, ct, od, an, osl, at_, cR, kp, m'⟩ := l2.ex
  rw [hfa] at m'
  cases m'
  have nT' := nT
  simp only [List.nodup_cons, List.mem_cons, List.not_mem_nil, or_false, not_or] at nT'
  obtain ⟨n12, _⟩ := nT'
  have all2 : ∀ {Pr : Addr × Addr → Prop}, Pr (c1, T1) → Pr (c2, T2) → ∀ p ∈ [(c1, T1), (c2, T2)], Pr p := fun a b p hp => by
    simp only [List.mem_cons, List.not_mem_nil, or_false] at hp
    rcases hp with rfl | rfl
    · exact a
    · exact b
  refine ⟨PySem.W.fnOf "law" "law" (defArgs s_law) (defBody s_law) (defScope s_law) .none kV doc pm an (.ref c2) ct, [(c1, T1), (c2, T2)], spLaw K (cTof T1 T2), all2 (Pr := fun p => h.get? p.2 = some { cls := .none, data := .fields #[] }) e1 e2, all2 (Pr := fun p => K.lookup p.2 = none) f1 f2, all2 (Pr := fun p => PySem.W.CodeHd h p.1 p.2) (PySem.W.codeHd_of_K X h1) (PySem.W.codeHd_of_K X h2),
    fun s u => .of_eq rfl, fun H a ns few _ tb hS => ⟨a, ns, rfl, hS, few, ?_, fun _ => rfl⟩, fun base kin hns TBs => ?fn⟩
  · intro q hq
    have z1 := TabS.nil (q := lamN "_law_values_right") (tb (c1, T1) (by simp))
    have z2 := TabS.nil (q := lamN "law") (tb (c2, T2) (by simp))
    simp only [cTof, List.mem_cons, List.not_mem_nil, or_false] at hq
    rcases hq with rfl | rfl
    · exact z1
    · exact z2
  rw [lp]
  have tb1 := TBs (c1, T1) (by simp)
  have tb2 := TBs (c2, T2) (by simp)
  have one : ∀ p ∈ cTof T1 T2, (p.1 = T1 → p.2 = lamN "_law_values_right") ∧ (p.1 = T2 → p.2 = lamN "law") := by
    intro p hp
    simp only [cTof, List.mem_cons, List.not_mem_nil, or_false] at hp
    rcases hp with rfl | rfl
    · exact ⟨fun _ => rfl, fun z => absurd z n12⟩
    · exact ⟨fun z => absurd z.symm n12, fun _ => rfl⟩
  have hi := h_is_integer (P := P) (w := w) (base := base) T0 d0
  have hc := h_is_count d1 hi
  have hl := h_is_letter (P := P) (w := w) (base := base) T0 d2
  have hcg := h_check_grid (P := P) (w := w) (base := base) (U := fun t => cond t aT aS) T0 c gi d6
  have ht := h_is_turn c hU T0 d7 hc
  have hit := h_is_item T0 d8 hcg hl ht
  have hrow := h_is_row T0 d9 hcg hc hit
  have hrowg := h_is_row_g T0 d9 hcg hc hit
  have hplus := h_plus (P := P) (w := w) (base := base) d3
  have htrail := h_trail c hU d4 hplus
  have mGrid := h_init (P := P) (w := w) (base := base) T0 hU c di (PySem.W.mg_of X G nGrid)
  have mRule := h_rinit T0 rc dri hcg hrow htrail (PySem.W.mg_of X G nRule)
  have hrt := h_row_text (P := P) (w := w) (base := base) T0 d10
  have hnorm := h_norm_in (P := P) (w := w) (base := base) (U := fun t => cond t aT aS) c d5
  have hhas := h_has_rows T1_ d11 hrowg hl
  have hcomp := h_is_complete (P := P) (w := w) (base := base) T1_ d12
  have hrules := h_rules_of T1_ c rc d13 hhas hcomp hnorm mRule
  have hmet := h_letters_met (P := P) (w := w) (base := base) (U := fun t => cond t aT aS) T1_ rc d14
  have mgs := h_gstr (P := P) (w := w) (base := base) (U := fun t => cond t aT aS) c T1_ m0
  have mrs := h_rstr (P := P) (w := w) (base := base) (U := fun t => cond t aT aS) T0 rc r0 hrt
  have mSchX := h_sinit T2_ c gi rc sc fmG fmR dsi hrules hrt htrail hmet mgs mrs (PySem.W.mg_of X G nScheme)
  have mSch : HasGX P w K mg base (L2.CX P w) "Scheme" CS 9 ["self", "grid", "axiom", "rules"] (spSInit K C (fun t => cond t aT aS) CR CS eS) := hasGX_sub mSchX (fun vs H Q E h => .inr h)
  have gSch := (⟨_, PySem.W.mg_of X G nScheme, rfl⟩ : MgV mg "Scheme" (.ref CS))
  have hitt := h_is_item_text T d15 hl
  have hri := h_row_in T d16 hitt
  have hwr := h_with_row T d17 hri
  have hread := h_read_line T hU d18 hwr hl
  have mfl := h_from_lines T cm hread hl mGrid mSch
  have hdice := h_law_dice (P := P) (w := w) (base := base) T0 d19
  have hroll := h_law_roll (P := P) (w := w) (base := base) T0 d20
  have hpick := h_law_pick T0 d21 hroll
  have hmixed := h_law_mixed T1_ d22 hroll
  have haround := h_law_around (P := P) (w := w) (base := base) d23
  have hunit := h_law_unit (P := P) (w := w) (base := base) d24
  have hlplus := h_law_plus (P := P) (w := w) (base := base) d25
  have hlnorm := h_law_norm (P := P) (w := w) (base := base) d26
  have hlrow := h_law_row (P := P) (w := w) (base := base) T1_ d27
  have hltext := h_law_row_text (P := P) (w := w) (base := base) T1_ d28
  have hltextL := h_law_row_textL (P := P) (w := w) (base := base) T1_ d28
  have hplain := h_law_plain T1_ d29 hlrow
  have hlines := h_law_lines T1_ d30 hltext
  have hsum := h_law_sum T1_ d31 hunit hlplus
  have hwritten := h_law_written (P := P) (w := w) (base := base) T1_ d32
  have hturns := h_law_turns (P := P) (w := w) (base := base) T1_ d33
  have hdrule := h_law_drawn_rule T1_ d34 hroll hpick hmixed hturns
  have hdrawn := h_law_drawn T1_ d35 hroll hpick hturns hdrule
  have hany := h_law_any T1_ d36 hroll hwritten hdrawn
  have hlir := h_law_is_row (P := P) (w := w) (base := base) T1_ d37
  have hiss := h_law_is_scheme T1_ d38 haround hlir hsum hlnorm
  have hwild := h_law_wild_lines T1_ d39 hroll hpick hmixed hany hplain hltextL
  have hrr := h_law_row_read (P := P) (w := w) (base := base) T2_ d40
  have hspo := h_law_spoilt_text T2_ d41 hroll hpick
  have hlr := h_law_line_read T2_ d42 hrr hlir
  have hdue := h_law_due T d43 hlr hiss
  have hchg := h_changed_lines T hroll hpick hspo d44
  have hvr := h_values_right T sc d45 TT tb1 (cT := cTof T1 T2) (by simp [cTof, lamN]) (fun p hp => (one p hp).1) hdue hlines mfl l1
  exact law_ok T sc d45 TT tb2 (cT := cTof T1 T2) (by simp [cTof, lamN]) (fun p hp => (one p hp).2) hdice hwild hroll hmixed hchg hvr mfl at_ cR
end K13
/-- Of size alone, not of the proof: a by-product of the head that nothing uses would take this name and 20 MB of the compiled file; the name is taken, so it is not made. -/
theorem PySem.W.Fast.tw17068763576738260789 : True := trivial
open PySem PySem.W PyProof.Rows in
set_option maxRecDepth 100000 in
set_option maxHeartbeats 0 in
theorem PySem.Challenge.cw_grownlines_k13_whole_lines_of_schemes_holds : PySem.Challenge.rw_grownlines_k13_whole_lines_of_schemes.Holds := by
  w_on; o_law; k_head; (case hw => w_witness2)
  k_fill
  refine GL.walk_tabs (l := PySem.Challenge.rw_grownlines_k13_whole_lines_of_schemes) (n := 63) (k := 18) (CX := fun _ => C8.CX0) (x := "_law_script") rfl (by decide) rfl ⟨rfl, by decide, by decide⟩ (fun w h Y => PySem.W.km_in_of Y) ?F (fun _ _ _ _ _ z => z)
  case F =>
    intro w mg fa h Y KX G hmg
    have hT8 := PySem.W.km_tabs_of Y
    refine' K13.all_mk KX G hmg ?w_z0 ?w_z1 ?w_z2 ?w_z3 ?w_z4 ?w_z5 ?w_z6 ?w_z7 ?w_z8 ?w_z9 ?w_z10 ?w_z11 ?w_z12 ?w_z13 ?w_z14 ?w_z15 ?w_z16 ?w_zen ?w_dig ?w_nGRIDS ?w_n_UNITS ?w_nGrid ?w_nRule ?w_nScheme ?w_c ?w_tg ?w_kS ?w_kT ?w_tS ?w_tT ?w_p0 ?w_p1 ?w_p2 ?w_p3 ?w_q0 ?w_q1 ?w_q2 ?w_q3 ?w_q4 ?w_q5 ?w_di ?w_gi ?w_m0 ?w_rc ?w_dri ?w_r0 ?w_sc ?w_si ?w_dsi ?w_cm ?w_fmG ?w_fmR ?w_neG ?w_qeG ?w_keG ?w_beG ?w_teG ?w_neS ?w_qeS ?w_keS ?w_beS ?w_teS ?w_xP ?w_xU ?w_ySS ?w_ySP ?w_yPP ?w_g0 ?w_g1 ?w_g2 ?w_g3 ?w_g4 ?w_g5 ?w_g6 ?w_g7 ?w_d0 ?w_d1 ?w_d2 ?w_d3 ?w_d4 ?w_d5 ?w_d6 ?w_d7 ?w_d8 ?w_d9 ?w_d10 ?w_d11 ?w_d12 ?w_d13 ?w_d14 ?w_d15 ?w_d16 ?w_d17 ?w_d18 ?w_d19 ?w_d20 ?w_d21 ?w_d22 ?w_d23 ?w_d24 ?w_d25 ?w_d26 ?w_d27 ?w_d28 ?w_d29 ?w_d30 ?w_d31 ?w_d32 ?w_d33 ?w_d34 ?w_d35 ?w_d36 ?w_d37 ?w_d38 ?w_d39 ?w_d40 ?w_d41 ?w_d42 ?w_d43 ?w_d44 ?w_d45 ?w_l1 ?w_l2 ?w_h1 ?w_h2 ?w_nT ?w_f1 ?w_f2 ?w_e1 ?w_e2 rfl
    (case w_z0 => k_is)
    (case w_z1 => k_is)
    (case w_z2 => k_is)
    (case w_z3 => k_is)
    (case w_z4 => k_is)
    (case w_z5 => k_is)
    (case w_z6 => k_is)
    (case w_z7 => k_is)
    (case w_z8 => k_is)
    (case w_z9 => k_is)
    (case w_z10 => k_is)
    (case w_z11 => k_is)
    (case w_z12 => k_is)
    (case w_z13 => k_is)
    (case w_z14 => k_is)
    (case w_z15 => k_is)
    (case w_z16 => k_is)
    (case w_zen => k_is)
    (case w_dig => k_is)
    (case w_nGRIDS => k_is)
    (case w_n_UNITS => k_is)
    (case w_nGrid => k_is)
    (case w_nRule => k_is)
    (case w_nScheme => k_is)
    (case w_c => exact ⟨⟨by k_is, by k_is, by k_is, by k_is⟩, (show PySem.W.findIn _ _ _ = some none by k_is), (show PySem.W.findIn _ _ _ = some none by k_is), (show PySem.W.findIn _ _ _ = some none by k_is), (show PySem.W.findIn _ _ _ = some none by k_is)⟩)
    (case w_tg => exact ⟨_, _, _, by k_is, rfl, rfl, by decide, (.cons ⟨_, rfl⟩ (.cons ⟨_, rfl⟩ .nil))⟩)
    (case w_kS => refine' GL.kdct_mk ?kl ?kn ?kk; (case kl => k_is); (case kn => k_is); (case kk => exact ⟨⟨_, _, rfl, rfl⟩, ⟨_, _, rfl, rfl⟩, True.intro⟩))
    (case w_kT => refine' GL.kdct_mk ?kl ?kn ?kk; (case kl => k_is); (case kn => k_is); (case kk => exact ⟨⟨_, _, rfl, rfl⟩, ⟨_, _, rfl, rfl⟩, True.intro⟩))
    (case w_tS => exact ⟨_, _, _, by k_is, rfl, rfl, by decide, (.cons rfl (.cons rfl (.cons rfl (.cons rfl .nil))))⟩)
    (case w_tT => exact ⟨_, _, _, by k_is, rfl, rfl, by decide, (.cons rfl (.cons rfl (.cons rfl (.cons rfl (.cons rfl (.cons rfl .nil))))))⟩)
    (case w_p0 => exact ⟨_, _, _, by k_is, rfl, rfl, by decide, (.cons ⟨_, rfl⟩ (.cons ⟨_, rfl⟩ .nil))⟩)
    (case w_p1 => exact ⟨_, _, _, by k_is, rfl, rfl, by decide, (.cons ⟨_, rfl⟩ (.cons ⟨_, rfl⟩ .nil))⟩)
    (case w_p2 => exact ⟨_, _, _, by k_is, rfl, rfl, by decide, (.cons ⟨_, rfl⟩ (.cons ⟨_, rfl⟩ .nil))⟩)
    (case w_p3 => exact ⟨_, _, _, by k_is, rfl, rfl, by decide, (.cons ⟨_, rfl⟩ (.cons ⟨_, rfl⟩ .nil))⟩)
    (case w_q0 => exact ⟨_, _, _, by k_is, rfl, rfl, by decide, (.cons ⟨_, rfl⟩ (.cons ⟨_, rfl⟩ .nil))⟩)
    (case w_q1 => exact ⟨_, _, _, by k_is, rfl, rfl, by decide, (.cons ⟨_, rfl⟩ (.cons ⟨_, rfl⟩ .nil))⟩)
    (case w_q2 => exact ⟨_, _, _, by k_is, rfl, rfl, by decide, (.cons ⟨_, rfl⟩ (.cons ⟨_, rfl⟩ .nil))⟩)
    (case w_q3 => exact ⟨_, _, _, by k_is, rfl, rfl, by decide, (.cons ⟨_, rfl⟩ (.cons ⟨_, rfl⟩ .nil))⟩)
    (case w_q4 => exact ⟨_, _, _, by k_is, rfl, rfl, by decide, (.cons ⟨_, rfl⟩ (.cons ⟨_, rfl⟩ .nil))⟩)
    (case w_q5 => exact ⟨_, _, _, by k_is, rfl, rfl, by decide, (.cons ⟨_, rfl⟩ (.cons ⟨_, rfl⟩ .nil))⟩)
    (case w_di => refine' GL.dc_mk ?a ?i ?l ?c ?k ?mk ?kc; (case a => k_is); (case i => k_is); (case l => k_is); (case c => k_is); (case k => k_is); (case mk => k_is); (case kc => k_is))
    (case w_gi => exact GL.gis_mk (by k_is) (by k_is) (by k_is) (by k_is) (by k_is) (by k_is) (by k_is) (by k_is))
    (case w_m0 => refine' GL.dm_mk ?a ?i ?l ?c ?k; (case a => k_is); (case i => k_is); (case l => k_is); (case c => k_is); (case k => k_is))
    (case w_rc => exact ⟨⟨by k_is, by k_is, by k_is, by k_is⟩, (show PySem.W.findIn _ _ _ = some none by k_is), (show PySem.W.findIn _ _ _ = some none by k_is), (show PySem.W.findIn _ _ _ = some none by k_is), (show PySem.W.findIn _ _ _ = some none by k_is), (show PySem.W.findIn _ _ _ = some none by k_is)⟩)
    (case w_dri => refine' GL.dc_mk ?a ?i ?l ?c ?k ?mk ?kc; (case a => k_is); (case i => k_is); (case l => k_is); (case c => k_is); (case k => k_is); (case mk => k_is); (case kc => k_is))
    (case w_r0 => refine' GL.dm_mk ?a ?i ?l ?c ?k; (case a => k_is); (case i => k_is); (case l => k_is); (case c => k_is); (case k => k_is))
    (case w_sc => exact ⟨⟨by k_is, by k_is, by k_is, by k_is⟩, (show PySem.W.findIn _ _ _ = some none by k_is), (show PySem.W.findIn _ _ _ = some none by k_is), (show PySem.W.findIn _ _ _ = some none by k_is), (show PySem.W.findIn _ _ _ = some none by k_is), (show PySem.W.findIn _ _ _ = some none by k_is), (show PySem.W.findIn _ _ _ = some none by k_is), (show PySem.W.findIn _ _ _ = some none by k_is), (show PySem.W.findIn _ _ _ = some none by k_is), (show PySem.W.findIn _ _ _ = some none by k_is)⟩)
    (case w_si => exact GL.gis_mk (by k_is) (by k_is) (by k_is) (by k_is) (by k_is) (by k_is) (by k_is) (by k_is))
    (case w_dsi => refine' GL.dc_mk ?a ?i ?l ?c ?k ?mk ?kc; (case a => k_is); (case i => k_is); (case l => k_is); (case c => k_is); (case k => k_is); (case mk => k_is); (case kc => k_is))
    (case w_cm => refine' K13.dcm_mk ?yrd ?yga ?yat ?yrc ?yfi ?yl ?yc ?yk; (case yrd => k_is); (case yga => k_is); (case yat => k_is); (case yrc => k_is); (case yfi => k_is); (case yl => k_is); (case yc => k_is); (case yk => k_is))
    (case w_fmG => refine' K13.fm_mk ?a ?b; (case a => k_is); (case b => k_is))
    (case w_fmR => refine' K13.fm_mk ?a ?b; (case a => k_is); (case b => k_is))
    (case w_neG => k_is)
    (case w_qeG => k_exc)
    (case w_keG => k_is)
    (case w_beG => k_is)
    (case w_teG => k_is)
    (case w_neS => k_is)
    (case w_qeS => k_exc)
    (case w_keS => k_is)
    (case w_beS => k_is)
    (case w_teS => k_is)
    (case w_xP => refine' GL.err_mk KX G PySem.F.excBase_ValueError PySem.GLE.chain_value.cons (by decide) (by decide) (fun _ _ _ _ _ _ _ _ _ _ _ _ _ _ _ => rfl) ?yn ?yl ?yiC ?ylf ?ycd ?ysa ?yga ?ygg ?yno ?ytC ?ykC ?yexC ?ytyC ?yhdC; (case yn => k_is); (case yl => k_is); (case yiC => k_is); (case ylf => k_is); (case ycd => k_is); (case ysa => k_is); (case yga => k_is); (case ygg => k_is); (case yno => k_is); (case ytC => k_is); (case ykC => k_is); (case yexC => k_is); (case ytyC => k_is); (case yhdC => k_is))
    (case w_xU => refine' GL.err_mk KX G PySem.F.excBase_LookupError PySem.GLE.chain_key (by decide) (by decide) (fun _ _ _ _ _ _ _ _ _ _ _ _ _ _ _ => rfl) ?yn ?yl ?yiC ?ylf ?ycd ?ysa ?yga ?ygg ?yno ?ytC ?ykC ?yexC ?ytyC ?yhdC; (case yn => k_is); (case yl => k_is); (case yiC => k_is); (case ylf => k_is); (case ycd => k_is); (case ysa => k_is); (case yga => k_is); (case ygg => k_is); (case yno => k_is); (case ytC => k_is); (case ykC => k_is); (case yexC => k_is); (case ytyC => k_is); (case yhdC => k_is))
    (case w_ySS => exact PySem.W.exm_ref (by k_is) (by k_is) (by k_is) (by k_is))
    (case w_ySP => exact PySem.W.exm_ref (by k_is) (by k_is) (by k_is) (by k_is))
    (case w_yPP => exact PySem.W.exm_ref (by k_is) (by k_is) (by k_is) (by k_is))
    (case w_g0 => exact ⟨_, by k_is, ⟨_, by rw [GL.B_eq]; rfl⟩⟩)
    (case w_g1 => exact ⟨_, by k_is, ⟨_, rfl⟩⟩)
    (case w_g2 => exact ⟨_, by k_is, ⟨_, rfl⟩⟩)
    (case w_g3 => exact ⟨_, by k_is, ⟨_, rfl⟩⟩)
    (case w_g4 => exact ⟨_, by k_is, ⟨_, rfl⟩⟩)
    (case w_g5 => exact ⟨_, by k_is, ⟨_, rfl⟩⟩)
    (case w_g6 => exact ⟨_, by k_is, ⟨_, rfl⟩⟩)
    (case w_g7 => exact ⟨_, by k_is, ⟨_, rfl⟩⟩)
    (case w_d0 => refine' GL.df_mk KX G ?a ?l ?c ?k; (case a => k_is); (case l => k_is); (case c => k_is); (case k => k_is))
    (case w_d1 => refine' GL.df_mk KX G ?a ?l ?c ?k; (case a => k_is); (case l => k_is); (case c => k_is); (case k => k_is))
    (case w_d2 => refine' GL.df_mk KX G ?a ?l ?c ?k; (case a => k_is); (case l => k_is); (case c => k_is); (case k => k_is))
    (case w_d3 => refine' GL.df_mk KX G ?a ?l ?c ?k; (case a => k_is); (case l => k_is); (case c => k_is); (case k => k_is))
    (case w_d4 => refine' GL.df_mk KX G ?a ?l ?c ?k; (case a => k_is); (case l => k_is); (case c => k_is); (case k => k_is))
    (case w_d5 => refine' GL.df_mk KX G ?a ?l ?c ?k; (case a => k_is); (case l => k_is); (case c => k_is); (case k => k_is))
    (case w_d6 => refine' GL.df_mk KX G ?a ?l ?c ?k; (case a => k_is); (case l => k_is); (case c => k_is); (case k => k_is))
    (case w_d7 => refine' GL.df_mk KX G ?a ?l ?c ?k; (case a => k_is); (case l => k_is); (case c => k_is); (case k => k_is))
    (case w_d8 => refine' GL.df_mk KX G ?a ?l ?c ?k; (case a => k_is); (case l => k_is); (case c => k_is); (case k => k_is))
    (case w_d9 => refine' GL.df_mk KX G ?a ?l ?c ?k; (case a => k_is); (case l => k_is); (case c => k_is); (case k => k_is))
    (case w_d10 => refine' GL.df_mk KX G ?a ?l ?c ?k; (case a => k_is); (case l => k_is); (case c => k_is); (case k => k_is))
    (case w_d11 => refine' GL.df_mk KX G ?a ?l ?c ?k; (case a => k_is); (case l => k_is); (case c => k_is); (case k => k_is))
    (case w_d12 => refine' GL.df_mk KX G ?a ?l ?c ?k; (case a => k_is); (case l => k_is); (case c => k_is); (case k => k_is))
    (case w_d13 => refine' GL.df_mk KX G ?a ?l ?c ?k; (case a => k_is); (case l => k_is); (case c => k_is); (case k => k_is))
    (case w_d14 => refine' GL.df_mk KX G ?a ?l ?c ?k; (case a => k_is); (case l => k_is); (case c => k_is); (case k => k_is))
    (case w_d15 => refine' GL.df_mk KX G ?a ?l ?c ?k; (case a => k_is); (case l => k_is); (case c => k_is); (case k => k_is))
    (case w_d16 => refine' GL.df_mk KX G ?a ?l ?c ?k; (case a => k_is); (case l => k_is); (case c => k_is); (case k => k_is))
    (case w_d17 => refine' GL.df_mk KX G ?a ?l ?c ?k; (case a => k_is); (case l => k_is); (case c => k_is); (case k => k_is))
    (case w_d18 => refine' GL.df_mk KX G ?a ?l ?c ?k; (case a => k_is); (case l => k_is); (case c => k_is); (case k => k_is))
    (case w_d19 => refine' GL.df_mk KX G ?a ?l ?c ?k; (case a => k_is); (case l => k_is); (case c => k_is); (case k => k_is))
    (case w_d20 => refine' GL.df_mk KX G ?a ?l ?c ?k; (case a => k_is); (case l => k_is); (case c => k_is); (case k => k_is))
    (case w_d21 => refine' GL.df_mk KX G ?a ?l ?c ?k; (case a => k_is); (case l => k_is); (case c => k_is); (case k => k_is))
    (case w_d22 => refine' GL.df_mk KX G ?a ?l ?c ?k; (case a => k_is); (case l => k_is); (case c => k_is); (case k => k_is))
    (case w_d23 => refine' GL.df_mk KX G ?a ?l ?c ?k; (case a => k_is); (case l => k_is); (case c => k_is); (case k => k_is))
    (case w_d24 => refine' GL.df_mk KX G ?a ?l ?c ?k; (case a => k_is); (case l => k_is); (case c => k_is); (case k => k_is))
    (case w_d25 => refine' GL.df_mk KX G ?a ?l ?c ?k; (case a => k_is); (case l => k_is); (case c => k_is); (case k => k_is))
    (case w_d26 => refine' GL.df_mk KX G ?a ?l ?c ?k; (case a => k_is); (case l => k_is); (case c => k_is); (case k => k_is))
    (case w_d27 => refine' GL.df_mk KX G ?a ?l ?c ?k; (case a => k_is); (case l => k_is); (case c => k_is); (case k => k_is))
    (case w_d28 => refine' GL.df_mk KX G ?a ?l ?c ?k; (case a => k_is); (case l => k_is); (case c => k_is); (case k => k_is))
    (case w_d29 => refine' GL.df_mk KX G ?a ?l ?c ?k; (case a => k_is); (case l => k_is); (case c => k_is); (case k => k_is))
    (case w_d30 => refine' GL.df_mk KX G ?a ?l ?c ?k; (case a => k_is); (case l => k_is); (case c => k_is); (case k => k_is))
    (case w_d31 => refine' GL.df_mk KX G ?a ?l ?c ?k; (case a => k_is); (case l => k_is); (case c => k_is); (case k => k_is))
    (case w_d32 => refine' GL.df_mk KX G ?a ?l ?c ?k; (case a => k_is); (case l => k_is); (case c => k_is); (case k => k_is))
    (case w_d33 => refine' GL.df_mk KX G ?a ?l ?c ?k; (case a => k_is); (case l => k_is); (case c => k_is); (case k => k_is))
    (case w_d34 => refine' GL.df_mk KX G ?a ?l ?c ?k; (case a => k_is); (case l => k_is); (case c => k_is); (case k => k_is))
    (case w_d35 => refine' GL.df_mk KX G ?a ?l ?c ?k; (case a => k_is); (case l => k_is); (case c => k_is); (case k => k_is))
    (case w_d36 => refine' GL.df_mk KX G ?a ?l ?c ?k; (case a => k_is); (case l => k_is); (case c => k_is); (case k => k_is))
    (case w_d37 => refine' GL.df_mk KX G ?a ?l ?c ?k; (case a => k_is); (case l => k_is); (case c => k_is); (case k => k_is))
    (case w_d38 => refine' GL.df_mk KX G ?a ?l ?c ?k; (case a => k_is); (case l => k_is); (case c => k_is); (case k => k_is))
    (case w_d39 => refine' GL.df_mk KX G ?a ?l ?c ?k; (case a => k_is); (case l => k_is); (case c => k_is); (case k => k_is))
    (case w_d40 => refine' GL.df_mk KX G ?a ?l ?c ?k; (case a => k_is); (case l => k_is); (case c => k_is); (case k => k_is))
    (case w_d41 => refine' GL.df_mk KX G ?a ?l ?c ?k; (case a => k_is); (case l => k_is); (case c => k_is); (case k => k_is))
    (case w_d42 => refine' GL.df_mk KX G ?a ?l ?c ?k; (case a => k_is); (case l => k_is); (case c => k_is); (case k => k_is))
    (case w_d43 => refine' GL.df_mk KX G ?a ?l ?c ?k; (case a => k_is); (case l => k_is); (case c => k_is); (case k => k_is))
    (case w_d44 => refine' GL.df_mk KX G ?a ?l ?c ?k; (case a => k_is); (case l => k_is); (case c => k_is); (case k => k_is))
    (case w_d45 => refine' GL.df_mk KX G ?a ?l ?c ?k; (case a => k_is); (case l => k_is); (case c => k_is); (case k => k_is))
    (case w_l1 => refine' GL.dl_mk KX G ?a ?l ?c ?k; (case a => k_is); (case l => k_is); (case c => k_is); (case k => k_is))
    (case w_l2 => refine' GL.dl_mk KX G ?a ?l ?c ?k; (case a => k_is); (case l => k_is); (case c => k_is); (case k => k_is))
    (case w_h1 => refine' K13.cd_mk ?l ?e ?h; (case l => k_is); (case e => rfl); (case h => kernel_rfl))
    (case w_h2 => refine' K13.cd_mk ?l ?e ?h; (case l => k_is); (case e => rfl); (case h => kernel_rfl))
    (case w_nT => decide)
    (case w_f1 => kernel_rfl)
    (case w_f2 => kernel_rfl)
    (case w_e1 => exact hT8 _ (by k_mem))
    (case w_e2 => exact hT8 _ (by k_mem))
