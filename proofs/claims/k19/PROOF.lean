import PyProof.Rows.All
import Wide.All
import OpenK.AllK
import Wide.FinOn
import HandS.ExcInit
import HandS.Nested
import KE.KExcSuper
import HandS.ForExc
import PyProof.Rows.SortShellAny
import HandS.SetTxt0
import HandS.TupSets
import HandS.ForMost
import HandS.Walk
import HandS.IsInst
import HandS.IterVal
import HandS.Star
import HandS.Deep
import HandS.DictComp
import HandS.Zip
import HandS.ExcField
import HandS.ExcIs
import KE.KExcIs
import HandS.WordsExc
import HandS.FStr
import HandS.Defaults
import HandS.CallSlots
import HandS.Wide
import HandS.Style
import HandS.OwnEq
import HandS.Property
import OpenK.KMeth
import OpenK.KOps
import KE.KOpsOwn
import KE.KOwnIter
import KE.KDictPairs
import HandS.Gcd
import HandS.ClsMeth
import HandS.TupMul
import HandS.SetFor
import HandS.TupAny
import KE.DataFind
import HandS.TryMany
import HandS.OwnIter
import HandS.Iter
import HandS.Comp
import HandS.Dict
import KE.KDictKeyed
import KE.SortData
import KE.KeyNested
import PyProof.SetRoads
import HandS.Strs
import PySem.Challenge.RW_shadowlinks_k19_tables_joined
set_option Elab.async false
set_option linter.all false
set_option maxRecDepth 100000
/-! An own exception's __init__ that begins with super().__init__(e), over ValueError. -/
namespace Sup
open PySem PySem.Spec PyProof.Rows L2 NdefX
abbrev vei : String := "ValueError.__init__"
def mwO (u a : Addr) : HO := .ext fun h => h.get? u = some (PySem.W.kxs_mw vei a)
theorem mwO_ok {P : Program} {w : World} {H : Hp} {h : Heap} {u a : Addr} (e : h.get? u = some (PySem.W.kxs_mw vei a)) : ObjOk P w H h u (mwO u a) := ⟨e, ⟨_, e⟩, fun h1 h2 z k => k _ z⟩
theorem mwO_at {P : Program} {w : World} {H : Hp} {h : Heap} {u a : Addr} (hok : HOk P w H h) (e : H u = some (mwO u a)) : h.get? u = some (PySem.W.kxs_mw vei a) := by
  have x : ObjOk P w H h u (.ext fun h => h.get? u = some (PySem.W.kxs_mw vei a)) := hok u _ e
  exact x.1
/-- what the written part says of a def that says super() -/
structure SupF (P : Program) (K : PySem.W.Frag) (mg : Str → Option Value) (env : Env) (sn : Str) (D : Addr) : Prop where
  ks : env.kindOf "super" = some .globalImplicit
  kc : env.kindOf "__class__" = some .free
  fn : ∃ (f : Addr) (oc : Value) (od : Option Addr) (fd : FuncData) (osl : Array (Option Value)) (ar : Arg), env.func = some f ∧ K.lookup f = some ⟨oc, od, .func fd, osl⟩ ∧ (fd.params.posonlyargs ++ fd.params.args).head? = some ar ∧ ar.arg = sn
  co : ∃ (cda : Addr) (ccl : Value) (cdd : Option Addr) (vs : Array Value) (ccs : Array (Option Value)) (file : Str) (tf : Tok), env.code = .ref cda ∧ K.lookup cda = some ⟨ccl, cdd, .fields vs, ccs⟩ ∧ vs[2]? = some (.str file tf) ∧ ((P.main.file : Str) == file) = true
  top : (P.main.scope.names.lookup ("super" : Str)).isSome = false
  ce : ∃ (cc : Addr) (cl : Value) (cld : Option Addr) (csl : Array (Option Value)), env.cells.lookup ("__class__" : Str) = some cc ∧ K.lookup cc = some ⟨cl, cld, .cell (some (.ref D)), csl⟩
  mg : mg "super" = none
  any : PySem.W.nsIn K cStatics "thirdparty.any" = some none
  it : interactive env = false
  ka : env.kindOf sn = some .local
/-- .. and of the class of the object -/
structure SupC (K : PySem.W.Frag) (C D : Addr) : Prop where
  cls : ∃ cd, PySem.W.clsIn K D = some cd
  sub : PySem.W.mroIn K C (.ref D) = some true
  sup : PySem.W.ks_superIn K C D "__init__" = some (some (.builtin vei))
  ve : PySem.W.subIn K (.ref C) (.type "ValueError") = some true
  exc : OexC K C
section
variable {X : Cx} {pins : List (Addr × Obj)} {σ : List (Option V)} {H : Hp} {s : Shared} {self : Str} {D a C : Addr} {body : List Stmt} {p0 p1 p2 pos pos' : Pos} {e : Expr} {te : TE}
theorem ld_super {E : Value → Shared → Prop} {Q : Value → Shared → Prop} (I : Inv X pins σ H s) (S : SupF X.prog X.K X.mg X.env self D) (h : Q (.type "super") s) : wpAny (model X.prog X.w) X.A (loadName X.env "super") Q E s := by
  obtain ⟨mb, h1, h2⟩ := I.mod.blt
  exact PySem.W.ks_loadName_global I.ok.kind S.ks (Calls.loadGlobal_builtin (by rw [I.ok.glob]; exact I.mod.glob.keeps I.bk) S.mg (by rw [I.ok.blt]; exact h1.keeps I.bk) ((h2 _ (by decide)).trans (by rfl)) h)
theorem self_at (I : Inv X pins σ H s) {u : V} (h1 : X.N[0]? = some self) (h2 : σ[0]? = some (some u)) (hk : X.env.kindOf self = some .local) : ∃ m v, s.heap.Ns X.env.locals m ∧ m self = some v ∧ RelV u v := by
  obtain ⟨m, hn, hl⟩ := I.loc
  obtain ⟨v, r, k⟩ := hl 0 self u h1 h2 (.inl hk)
  rcases k with ⟨_, k⟩ | ⟨k, _⟩
  · exact ⟨m, v, hn, k, r⟩
  · rcases k with k | k <;> · rw [hk] at k; cases k
theorem exo_inst {C a : Addr} (T : OexC X.K C) (I : Inv X pins σ H s) (e : H a = some (exo a C none)) : ∃ t1 : Addr, PySem.W.InstAt s.heap a { cls := .ref C, dict := none, data := .fields #[.ref t1, .none, .none, .none, .bool false, .none] } C none := by
  obtain ⟨t1, ho⟩ := exo_at I.hok e
  exact ⟨t1, ho, rfl, rfl, trivial⟩
/-- the wrapper called -/
theorem call_mw {u : Addr} {us : List Value} {Q : Value → Shared → Prop} {E : Value → Shared → Prop} {A : Around} (T : OexC X.K C) (I : Inv X pins σ H s) (eu : H u = some (mwO u a)) (ea : H a = some (exo a C none)) (hl : us.length ≤ sizeLine) (h : ∀ s', Inv X pins σ H s' → Q .none s') :
    wpAny (model X.prog X.w) A (call (.ref u) us) Q E s := by
  obtain ⟨nm, q, N, bs, bm, sn, sub, ab, col, dd, k0, k1, k2, k3, k5, hC, hbm⟩ := T.cls
  obtain ⟨t1, ho⟩ := exo_at I.hok ea
  have hu := mwO_at I.hok eu
  have hCh := I.kIn _ _ hC
  have FB := F.excBase_ValueError
  obtain ⟨hp, g, d, t, os⟩ := s
  refine wpAny_call (codeAny_of_tree ?_)
  show wpAny _ A.in1 (callAny (.ref u) ⟨us, []⟩) _ _ _
  simp only [callAny]
  refine wpAny_bind (wpAny_load hu ?_)
  simp only [PySem.W.kxs_mw, show (Value.type "method-wrapper" == Value.type "method" || Value.type "method-wrapper" == Value.type "builtin_function_or_method" || Value.type "method-wrapper" == Value.type "method-wrapper") = true by decide, if_true]
  refine PySem.W.KFB.if_so (by decide) ?_
  refine wpAny_bind (PySem.W.check_bound_init FB.toExcCallFacts hCh ho rfl ?_)
  refine wpAny_bind (wpAny_pure (wpAny_pure ?_))
  refine ⟨plainId_quiet FB.init.plain _, codeAny_builtin FB.initEntry ?_⟩
  refine PySem.W.exc_init_tree (cls := .ref C) (t0 := t1) (dv := none) (c2 := .none) (c3 := .none) (b4 := .bool false) ho hl fun h' k hx _ => ?_
  have J := I.write (t' := t) (x := a) (e := a) (o := exo a C none) (by rw [ea]; exact True.intro) (.inl rfl) k ⟨_, hx⟩ (exo_ok hx)
  have eu2 : upd H a (exo a C none) = H := by
    funext b
    by_cases hb : b = a
    · rw [hb, upd_same, ea]
    · rw [upd_ne hb]
  rw [eu2] at J
  exact h _ J
theorem sup_stmt {es : List Expr} {pl : Sem Bool} {ta : TA} {G : Hp → Prop} {Q : Flow → Shared → Prop} (I : Inv X pins σ H s) (S : SupF X.prog X.K X.mg X.env self D) (T : SupC X.K C D) (hN : X.N[0]? = some self) (h0 : σ[0]? = some (some (.ref a))) (ea : H a = some (exo a C none)) (ha : PA X (e :: es) ta)
    (h : ∀ u, H u = none → ta σ (upd H u (mwO u a)) fun vs H2 => vs.length ≤ 1000 ∧ H2 u = some (mwO u a) ∧ H2 a = some (exo a C none) ∧ G H2) (hq : ∀ H2 s', Inv X pins σ H2 s' → G H2 → Q .next s')
    (hev : eval (.Call (.Attribute (.Call (.Name "super" p0) [] [] p1) "__init__" p2) (e :: es) [] pos) X.env = (do
      let ov ← attributeBase (.Call (.Name "super" p0) [] [] p1) "__init__" X.env (eval (.Call (.Name "super" p0) [] [] p1) X.env)
      standAt p2.atName
      let (f, first) ← holding [ov] (getMethod ov "__init__" pl)
      callWith pos f first (backTo pos (starEach (e :: es) X.env)) []) := by rfl)
    (he : starEach (e :: es) X.env = (false, eval e X.env) :: starEach es X.env := by rfl) (hpl : (backTo pos (starEach es X.env)).any (·.1) = false := by rfl) :
    _root_.PySem.wpAt (model X.prog X.w) X.A (.func body X.env) (exec (.Expr (.Call (.Attribute (.Call (.Name "super" p0) [] [] p1) "__init__" p2) (e :: es) [] pos) pos') X.env) Q X.xe s := by
  refine ks_wpAt_Expr_any ?_ S.it
  refine ks_wpAt_MethodCall ?_ hev
  obtain ⟨f, oc, od, fd, osl, ar, hfu, lf, hp, har⟩ := S.fn
  obtain ⟨cda, ccl, cdd, vs, ccs, file, tf, hco, lc, hvs, hfile⟩ := S.co
  obtain ⟨cc, cl, cld, csl, hcl, lcc⟩ := S.ce
  obtain ⟨m, v, hn, hv, rv⟩ := self_at I hN h0 S.ka
  obtain rfl : v = Value.ref a := rv
  obtain ⟨t1, inst⟩ := exo_inst T.exc I ea
  obtain ⟨cdD, hD⟩ := T.cls
  have XK := I.kIn
  obtain ⟨oD, hD1, hD2⟩ : ∃ oD, s.heap.get? D = some oD ∧ oD.data = .cls cdD := by
    unfold PySem.W.clsIn at hD
    split at hD
    · rename_i c d cd' sl ho
      cases hD
      exact ⟨_, XK _ _ ho, rfl⟩
    · cases hD
  refine ks_wpAt_super_base S.ks S.kc (by decide) hfu (XK _ _ lf) rfl hp hco (XK _ _ lc) rfl hvs hfile S.top ?_
  refine ld_super I S ⟨rfl, ?_⟩
  refine wpAny_loadName_free I.ok.kind S.kc hcl ⟨_, XK _ _ lcc, rfl⟩ ?_
  refine wpAny_loadName_local I.ok.kind (har ▸ S.ka) hn (har ▸ hv) ?_
  refine ks_wpAny_isType_cls hD1 hD2 ⟨rfl, ?_⟩
  obtain ⟨hp0, g, d, t, os⟩ := s
  refine ks_wpAny_call_super hD1 hD2 inst.at_ rfl (fun c e => by cases e) (PySem.W.looks_mroIn XK T.sub) fun h' eso k => ?_
  have I2 : Inv X pins σ H ⟨h', g, d, t, os⟩ := I.kept (t' := t) k
  have XK2 := I2.kIn
  have sup := T.sup
  unfold PySem.W.ks_superIn at sup
  cases hc : PySem.W.clsIn X.K C with
  | none =>
    rw [hc] at sup
    cases sup
  | some cd =>
    rw [hc] at sup
    obtain ⟨t2, inst2⟩ := exo_inst T.exc I2 ea
    refine PySem.W.kxs_getMethod PySem.W.kxs_ValueError eso (PySem.W.looks_opaque XK2 S.any) (l₀ := cd.mro) ?_ rfl XK2 sup (inst2.type.andThen (PySem.W.looks_subIn XK2 T.ve)) (PySem.W.ks_ne XK2 inst2 hc) (by decide) ?_
    · exact fun A Q E s k q => wpAny_bind ((PySem.W.looks_clsIn XK2 hc) A _ E s k (wpAny_pure q))
    · have hnu : H h'.objs.size = none := I2.hok.fresh (Nat.le_refl _)
      have gu : (h'.push (PySem.W.kxs_mw vei a)).get? h'.objs.size = some (PySem.W.kxs_mw vei a) := Heap.get?_push_at rfl rfl
      have I3 : Inv X pins σ (upd H h'.objs.size (mwO h'.objs.size a)) ⟨h'.push (PySem.W.kxs_mw vei a), g, d, t + 1, os⟩ :=
        I2.laid (t' := t + 1) (fun b o e => Heap.get?_push_of_some _ e) (Nat.le_refl _) (mwO_ok gu)
      show wpAny _ _ (callWith pos (.ref h'.objs.size) [] (backTo pos (starEach (e :: es) X.env)) []) _ _ _
      have run := ha.run pos pins _ σ _ _ I3 (h _ hnu)
      rw [he] at run ⊢
      refine PySem.W.kxs_callWith (i := vei) (x := a) (by show (false || (backTo pos (starEach es X.env)).any (·.1)) = false; rw [hpl]; rfl) ?_
      refine Calls.evalArgs_plain (thn run fun us s1 ⟨vs, H1, I1, r1, hz, eu, ea1, hG⟩ => ⟨mwO_at I1.hok eu, ?_⟩)
      exact call_mw T.exc I1 eu ea1 (by show us.length ≤ _; rw [← Paired.length r1, sizeLine_eq]; omega) fun s' J => hq H1 s' J hG
end
section
variable {CX : CXT} {P : Program} {w : World} {K : PySem.W.Frag} {mg : Str → Option Value} {base : Heap} {k : Nat} {F : NF} {f cc D : Addr} {kV doc pm ct oc : Value} {an od : Option Addr} {osl : Array (Option Value)} {N ps : List Str} {sp : Sp} {self : Str} {e : Expr} {es : List Expr} {p0 p1 p2 pos pos' : Pos} {rest : List Stmt} {pl : Sem Bool}
theorem fn_sup (lk : K.lookup f = some ⟨oc, od, .func (PySem.W.fnX F.name F.qual F.params F.body F.scope F.cl .none kV doc pm an (.ref F.c) ct), osl⟩) (hcd : PySem.W.codeIn K (.ref F.c) F.qual = true) (hcl : F.cl = [(("__class__" : Str), cc)])
    (hcc : ∃ cl cld csl, K.lookup cc = some ⟨cl, cld, .cell (some (.ref D)), csl⟩) (S : NScope N ps ["__class__"] F.scope) (hF : ∀ L, SupF P K mg (envF F f L) self D) (hN : N[0]? = some self)
    (hbd : F.body = .Expr (.Call (.Attribute (.Call (.Name "super" p0) [] [] p1) "__init__" p2) (e :: es) [] pos) pos' :: rest)
    (len : ∀ vs H Q E, sp vs H Q E → vs.length = ps.length)
    (hbody : ∀ (A : Around) (outer : List Env) (s : Shared) (H : Hp) (vs : List V) (Q : VK) (E : XK), Room k (A.deeper (envF F f s.heap.objs.size)) → sp vs H Q E →
      ∃ (a C : Addr) (ta : TA) (t : TS), SupC K C D ∧ (startF N vs [none])[0]? = some (some (.ref a)) ∧ H a = some (exo a C none) ∧ PA (ncx CX P w K mg base N F f A outer s H E) (e :: es) ta ∧ PSs (ncx CX P w K mg base N F f A outer s H E) rest t ∧
        ∀ u, H u = none → ta (startF N vs [none]) (upd H u (mwO u a)) fun vs' H2 => vs'.length ≤ 1000 ∧ H2 u = some (mwO u a) ∧ H2 a = some (exo a C none) ∧ t { nx := fun _ H' => Q .non H', rt := Q } (startF N vs [none]) H2)
    (hev : ∀ L, eval (.Call (.Attribute (.Call (.Name "super" p0) [] [] p1) "__init__" p2) (e :: es) [] pos) (envF F f L) = (do
      let ov ← attributeBase (.Call (.Name "super" p0) [] [] p1) "__init__" (envF F f L) (eval (.Call (.Name "super" p0) [] [] p1) (envF F f L))
      standAt p2.atName
      let (g, first) ← holding [ov] (getMethod ov "__init__" pl)
      callWith pos g first (backTo pos (starEach (e :: es) (envF F f L))) []) := by intro L; rfl)
    (he : ∀ L, starEach (e :: es) (envF F f L) = (false, eval e (envF F f L)) :: starEach es (envF F f L) := by intro L; rfl) (hpl : ∀ L, (backTo pos (starEach es (envF F f L))).any (·.1) = false := by intro L; rfl) :
    FnOk P w K mg base CX (k + 1) f (PySem.W.fnX F.name F.qual F.params F.body F.scope F.cl .none kV doc pm an (.ref F.c) ct) ps sp := by
  refine ⟨len, fun A outer s H args us vs Q E hr e0 hb r hsp => ?_⟩
  have hl := len _ _ _ _ hsp
  have KX : K.In s.heap := e0.mod.kin.keeps fun b o e => (e0.bs b o e).1
  have lim : s.heap.NoLimit := e0.mod.nolimit.keeps fun b o e => (e0.bs b o e).1
  obtain ⟨cl, cld, csl, hcc⟩ := hcc
  have C : CellsAt F.cl ["__class__"] [none] s.heap H := by
    have one : ∀ {y : Str} {c : Addr}, F.cl.lookup y = some c → y = "__class__" ∧ c = cc := fun {y c} e => by
      rw [hcl] at e
      by_cases h : y = ("__class__" : Str)
      · subst h
        have e2 : some cc = some c := e
        exact ⟨rfl, (Option.some.inj e2).symm⟩
      · have h2 : (y == ("__class__" : Str)) = false := by simpa using h
        rw [List.lookup_cons, h2] at e
        cases e
    refine ⟨rfl, fun y c e => ?_, fun x y c e1 e2 => (one e1).1.trans (one e2).1.symm, fun i y hi => ?_⟩
    · rw [(one e).2]
      exact ⟨(e0.bs _ _ (e0.mod.kin _ _ hcc)).2, _, ⟨_, KX _ _ hcc, rfl⟩⟩
    · cases i with
      | zero =>
        have e : ("__class__" : Str) = y := Option.some.inj hi
        refine ⟨cc, by rw [hcl, ← e]; rfl, fun v hv => ?_⟩
        cases hv
      | succ i => cases hi
  refine ks_codeAny_call_defAt hr.depth (KX _ _ lk) rfl lim (PySem.W.codeRec_of KX hcd) rfl hb S.nocell (fun ⟨n, v⟩ hy => S.par n (List.of_mem_zip hy).1) (fun h₁ hns kp => ?_) S.co S.gen S.kind
  show _root_.PySem.wpAt (model P w) (A.deeper (envF F f s.heap.objs.size)) (.func F.body (envF F f s.heap.objs.size)) (execs F.body (envF F f s.heap.objs.size)) _ _ _
  obtain ⟨a, Ca, ta, t, hC, h0, ea, pa, ps', hq⟩ := hbody A outer s H vs Q E (hr.deeper _) hsp
  have I : Inv (ncx CX P w K mg base N F f A outer s H E) [] (startF N vs [none]) H { s with heap := h₁, toks := s.toks + (ps.zip us).length } := inv_startN S hr.hd e0 hl r C hns kp
  have fin : ∀ {s' : Shared} {σ' : L2.St} {H' : Hp} {v : V} {u : Value}, Inv (ncx CX P w K mg base N F f A outer s H E) [] σ' H' s' → L2.RelV v u → Q v H' → CE outer P w H s Q u s' :=
    fun {s' σ' H' v u} J rv q => ⟨v, H', J.os, J.bare, J.base, J.hok, rv, q⟩
  have main : ∀ (body : List Stmt), _root_.PySem.wpAt (model P w) (A.deeper (envF F f s.heap.objs.size)) (.func body (envF F f s.heap.objs.size)) (execs (.Expr (.Call (.Attribute (.Call (.Name "super" p0) [] [] p1) "__init__" p2) (e :: es) [] pos) pos' :: rest) (envF F f s.heap.objs.size))
      (fun fl s' => CR CX outer P w H s Q E (.ok (.ret (match fl with | .ret v => v | _ => .none))) s') (ncx CX P w K mg base N F f A outer s H E).xe { s with heap := h₁, toks := s.toks + (ps.zip us).length } := by
    intro body
    refine ks_wpAt_execs_cons ?_
    refine sup_stmt (X := ncx CX P w K mg base N F f A outer s H E) (body := body) (G := fun H2 => t { nx := fun _ H' => Q .non H', rt := Q } (startF N vs [none]) H2) I (hF _) hC hN h0 ea pa hq (fun H2 s' J hG => ?_) (hev _) (he _) (hpl _)
    refine wpAt_of_wpAny ?_
    refine wpAny_mono (ps'.run [] s' (startF N vs [none]) H2 _ J hG) (fun fl s' hs => ?_) fun e s' hs => hs
    cases fl with
    | ret u =>
      obtain ⟨v, σ', H', J, rv, q⟩ := hs
      exact fin J rv q
    | next =>
      obtain ⟨σ', H', J, q⟩ := hs
      exact fin (v := V.non) (u := Value.none) J rfl q
    | brk =>
      obtain ⟨_, _, _, q⟩ := hs
      exact False.elim q
    | cont =>
      obtain ⟨_, _, _, q⟩ := hs
      exact False.elim q
  have m2 := main F.body
  rw [← hbd] at m2
  exact m2
end
end Sup
/-! Sets of texts, made of a list or a tuple, and sorted: any texts, in whatever order the world walks them. -/
namespace Sx
open PySem PySem.Spec PyProof.Rows L2 PySem.Froz

/-! ### lists -/
/-- a list without twins whose members all stand in a list of the same length is that list in another order -/
theorem perm_of_sub : ∀ (l ks : List Str), l.Nodup → (∀ x, x ∈ l → x ∈ ks) → ks.length = l.length → l.Perm ks
  | [], ks, _, _, e => by
    have z : ks = [] := List.length_eq_zero_iff.mp e
    rw [z]
  | x :: l, ks, nd, sub, e => by
    obtain ⟨hx, nd'⟩ := List.nodup_cons.mp nd
    have hm : x ∈ ks := sub x List.mem_cons_self
    have p := List.perm_cons_erase hm
    have hl : (ks.erase x).length = l.length := by
      have q := p.length_eq
      simp only [List.length_cons] at q e
      omega
    refine ((perm_of_sub l (ks.erase x) nd' (fun y hy => ?_) hl).cons x).trans p.symm
    have hne : y ≠ x := fun z => hx (z ▸ hy)
    exact (List.mem_erase_of_ne hne).mpr (sub y (List.mem_cons_of_mem _ hy))

/-! ### the payload behind an add -/
theorem tail_ris {ep : Nat} {es : Array (Int × Value)} {t : SetTable} {d : Bool} (r : Ris t.place.toList) : Ris (tailTx ep es t d).2.2.place.toList := by
  unfold tailTx
  split
  · exact relayAll_ris t es _
  · exact r
theorem tail_led {ep : Nat} {es : Array (Int × Value)} {t : SetTable} {d : Bool} : (tailTx ep es t d).2.2.led = t.led := by
  unfold tailTx
  split
  · exact relayAll_led t es _
  · rfl
theorem add_ris {D : SD} (h : Int) (v : Value) (r : Ris D.2.2.place.toList) : Ris (addTx h v D).2.2.place.toList := by
  have r1 := layNew_ris D.2.2 D.1 h v r
  unfold addTx
  apply tail_ris
  split
  · exact r1
  · exact r1
theorem add_led {D : SD} (h : Int) (v : Value) : (addTx h v D).2.2.led = D.2.2.led := by
  have r1 := layNew_led D.2.2 D.1 h v
  unfold addTx
  rw [tail_led]
  split
  · exact r1
  · exact r1

/-- the set of the texts l stands at a -/
def SetX (P : Program) (w : World) (h : Heap) (a : Addr) (l : List Str) : Prop :=
  ∃ D : SD, h.get? a = some (sObj "set" D) ∧ TxOk P w D l ∧ l.Nodup ∧ Ris D.2.2.place.toList ∧ (w.params.followText "set-order" = true ∨ D.2.2.led = true)

section
variable {P : Program} {w : World} {A : Around} {E : Value → Shared → Prop} {s : Shared}

theorem SetX.at {h h' : Heap} {a : Addr} {l : List Str} (R : SetX P w h a l) (k : ∀ o, h.get? a = some o → h'.get? a = some o) : SetX P w h' a l := by
  obtain ⟨D, ho, r⟩ := R
  exact ⟨D, k _ ho, r⟩
theorem setX_fresh {h : Heap} {a : Addr} (ho : h.get? a = some { cls := .type "set", dict := none, data := .set #[] 0 (.fresh 0 0 (!w.params.followText "set-order")) }) : SetX P w h a [] := by
  refine ⟨(#[], 0, .fresh 0 0 (!w.params.followText "set-order")), ho, TxOk.nil rfl, List.nodup_nil, List.Pairwise.nil, ?_⟩
  show _ ∨ (!w.params.followText "set-order") = true
  cases w.params.followText "set-order"
  · exact .inr rfl
  · exact .inl rfl

/-- one text more, new or there already -/
theorem add_any {a : Addr} {l : List Str} {k : Str} {u : Tok} {Q : Bool → Shared → Prop} (R : SetX P w s.heap a l) (hb : l.length + 1 < scanBound)
    (hQ : ∀ b h' l', Heap.SameBut a s.heap h' → SetX P w h' a l' → (∀ x, x ∈ l' ↔ x = k ∨ x ∈ l) → l'.length ≤ l.length + 1 → Q b { s with heap := h' }) :
    wpAny (model P w) A (setAddHashed a (.str k u) (hashStr w k)) Q E s := by
  obtain ⟨D, ho, F, nd, r, hl⟩ := R
  rcases Classical.em (k ∈ l) with hk | hk
  · obtain ⟨es, ep, t⟩ := D
    have hd : (sObj "set" (es, ep, t)).data = .set es ep t := rfl
    have hf : t.fits es.size = true := F.fit
    have hel : ElemsOf (PySem.strKind P w) es.toList := F.el
    have hb0 : es.size < scanBound := by
      have z : es.size = l.length := F.sz
      omega
    have hkey : (PySem.strKind P w).is k (.str k u) = true := is_str k u
    unfold setAddHashed setAddHashedIn
    refine wpAny_holding (wpAny_bind (wpAny_setState_of ho hd hf ?_))
    dsimp only
    rw [byScan_of rfl hb0 hel]
    simp only [↓reduceIte]
    unfold setAddByScan
    refine wpAny_bind ?_
    refine wpAny_bind (wpAny_rule ?_)
    refine wpAny_bind (wpAny_setScan_of (knd := PySem.strKind P w) (k := k) hkey ho hd hf hel ?_)
    cases hfi : List.findIdx? (fun e => (PySem.strKind P w).is k e.2) es.toList with
    | none =>
      obtain ⟨e, he, q⟩ := (F.mem k).mp hk
      have c := List.findIdx?_eq_none_iff.mp hfi e he
      rw [q] at c
      cases c
    | some j =>
      dsimp only
      refine wpAny_pure (wpAny_pure ?_)
      exact hQ _ s.heap l (Heap.SameBut.refl a s.heap) ⟨(es, ep, t), ho, F, nd, r, hl⟩ (fun x => ⟨.inr, fun z => z.elim (fun e => e ▸ hk) id⟩) (Nat.le_succ _)
  · refine add_x ho F hk hb (hQ _ _ (k :: l) (Heap.SameBut.update s.heap a _) ⟨_, get_upd _ ho rfl, add_ok u F, List.nodup_cons.mpr ⟨hk, nd⟩, add_ris _ _ r, ?_⟩ (fun x => List.mem_cons) (Nat.le_refl _))
    exact hl.imp id fun z => by
      rw [add_led]
      exact z
end

/-! ### set(xs): the loop -/
section
variable {P : Program} {w : World} {A : Around} {R : Result → Shared → Prop} {I : Addr} {fp wr : List Addr} {G : Array GenState → Array GenState → Prop} {n : Nat} {Pv : Nat → Value → Prop} {St : Nat → Shared → Prop}
theorem fill_loop (W : WalksS P w A.in1 I fp wr G n Pv St) (S : Addr) (hSf : S ∉ fp) (xs : List Str) (hn : xs.length = n) (hval : ∀ i v, Pv i v → ∃ t, v = .str (xs.getD i Str.empty) t) (hb : n + 1 < scanBound) :
    ∀ (k i : Nat) (s : Shared) (l : List Str), n - i = k → i ≤ n → St i s → SetX P w s.heap S l → (∀ x, x ∈ l ↔ x ∈ xs.take i) → l.length ≤ i →
      (∀ s' l', Moved (S :: wr) G s s' → SetX P w s'.heap S l' → (∀ x, x ∈ l' ↔ x ∈ xs) → l'.length ≤ n → R (.ok (.ret .none)) s') →
      codeAny (model P w) A (.builtin "set.update.loop" ⟨[.ref S, .ref I], []⟩) R s := by
  have hSw : S ∉ wr := fun h => hSf (W.sub _ h)
  have hsub : ∀ b ∈ wr, b ∈ S :: wr := fun b hb => List.mem_cons_of_mem _ hb
  intro k
  induction k with
  | zero =>
    intro i s l hk hi hst hS hm hlen hR
    have hin : i = n := by omega
    subst hin
    refine codeAny_builtin PyProof.Rows.F.entry_set_update_loop ?_
    rw [Around.under_plainId PyProof.Rows.F.plain_set_update_loop _]
    show wpAny _ A.in1 (pyNext (.ref I) >>= _) _ _ s
    refine wpAny_bind (W.done s _ _ hst fun s' hmv => ?_)
    show wpAny _ A.in1 (ret Value.none) _ _ s'
    refine wpAny_pure (hR s' l (hmv.mono hsub) (hS.at fun o e => hmv.heap S o hSw e) (fun x => ?_) hlen)
    rw [hm x, ← hn, List.take_length]
  | succ k ih =>
    intro i s l hk hi hst hS hm hlen hR
    have hlt : i < n := by omega
    refine codeAny_builtin PyProof.Rows.F.entry_set_update_loop ?_
    rw [Around.under_plainId PyProof.Rows.F.plain_set_update_loop _]
    show wpAny _ A.in1 (pyNext (.ref I) >>= _) _ _ s
    refine wpAny_bind (W.item i s _ _ hlt hst fun v s' hP hst' hmv => ?_)
    obtain ⟨t, rfl⟩ := hval i v hP
    have hS' : SetX P w s'.heap S l := hS.at fun o e => hmv.heap S o hSw e
    show wpAny _ A.in1 (holding [Value.str (xs.getD i Str.empty) t] (setAdd S (.str (xs.getD i Str.empty) t)) >>= _) _ _ s'
    refine wpAny_bind (wpAny_holding ?_)
    unfold setAdd
    refine wpAny_holding ?_
    refine wpAny_bind ((PySem.strKind P w).pyHash (k := xs.getD i Str.empty) (strKind_is _ _ _ _) ?_)
    have hroom : l.length + 1 < scanBound := by omega
    refine add_any (s := { s' with toks := s'.toks + 1 }) hS' hroom fun b h' l' hsb hS2 hm2 hl2 => ?_
    have hix : i < xs.length := by omega
    have eg : xs.getD i Str.empty = xs[i] := by
      rw [List.getD_eq_getElem?_getD, List.getElem?_eq_getElem hix]
      rfl
    have hm3 : ∀ x, x ∈ l' ↔ x ∈ xs.take (i + 1) := fun x => by
      rw [hm2 x, List.take_succ, List.getElem?_eq_getElem hix, eg]
      show _ ↔ x ∈ xs.take i ++ [xs[i]]
      rw [List.mem_append, List.mem_singleton, hm x]
      exact Or.comm
    refine wpAny_pure ⟨plainId_quiet PyProof.Rows.F.plain_set_update_loop _, ih (i + 1) _ l' (by omega) hlt (W.frame _ s' _ _ hst' (Nat.le_succ _) fun b hb o e => ?_) hS2 hm3 (by omega) fun s'' l'' hmv'' hS'' hm'' hl'' => ?_⟩
    · rw [hsb.2 b (fun h : b = S => hSf (by rw [← h]; exact hb))]
      exact e
    · refine hR s'' l'' (Moved.trans W.gtrans ((hmv.mono hsub).then_heap (Nat.le_succ _) fun b o hb e => ?_) hmv'') hS'' hm'' hl''
      rw [hsb.2 b (fun h : b = S => hb (by rw [h]; exact List.mem_cons_self))]
      exact e
end

/-! ### set(xs): the call -/
section
variable {P : Program} {w : World} {A : Around} {E : Value → Shared → Prop} {s : Shared}
abbrev emptyObj (w : World) : Obj := { cls := .type "set", dict := none, data := .set #[] 0 (.fresh 0 0 (!w.params.followText "set-order")) }
theorem str_at {us : List Value} {xs : List Str} (h : StrsAre us xs) : ∀ (i : Nat) (v : Value), us[i]? = some v → ∃ t, v = .str (xs.getD i Str.empty) t := by
  induction h with
  | nil =>
    intro i v e
    cases e
  | cons y t h ih =>
    intro i v e
    cases i with
    | zero =>
      have q : Value.str y t = v := Option.some.inj e
      exact ⟨t, q.symm⟩
    | succ i => exact ih i v e

set_option maxRecDepth 100000 in
set_option maxHeartbeats 4000000 in
/-- set(xs), xs a list or a tuple of texts -/
theorem call_set {l : Addr} {items : Array Value} {xs : List Str} {Q : Value → Shared → Prop} (hh : A.handled = none) (hl : s.heap.IsList l items ∨ s.heap.IsTuple l items) (hi : StrsAre items.toList xs) (hb : xs.length + 1 < scanBound)
    (h : ∀ (h' : Heap) (tk : Nat) (ys : List Str), SetX P w h' s.heap.objs.size ys → (∀ x, x ∈ ys ↔ x ∈ xs) → ys.length ≤ xs.length → (∀ b o, s.heap.get? b = some o → h'.get? b = some o) → Q (.ref s.heap.objs.size) { s with heap := h', toks := tk }) :
    wpAny (model P w) A (call (.type "set") [.ref l]) Q E s := by
  have hisz : xs.length = items.size := by rw [← StrsAre.len_eq hi, Array.length_toList]
  have hval : ∀ (i : Nat) (v : Value), items[i]? = some v → ∃ t, v = .str (xs.getD i Str.empty) t := fun i v hv => str_at hi i v (by rw [Array.getElem?_toList]; exact hv)
  obtain ⟨c, tl, hmro⟩ := PySem.F.called_set.mro
  have hmade := PySem.F.called_set.made
  have hsub := PySem.F.called_set.sub
  refine wpAny_call (codeAny_of_tree ?_)
  show wpAny _ _ (callAny (.type "set") _) _ _ _
  refine wpAny_pure ⟨Code.quiet_builtin _ (by decide +kernel), codeAny_builtin PySem.F.entry_type_call ?_⟩
  rw [Around.under_plain (weight_type_call_type "set" [.ref l] []) rfl]
  have h1 := PySem.F.called_set.notType
  have h2 := PySem.F.called_set.canCreate
  have hct := PySem.F.typeCall_set_1 (.ref l)
  repeat (any_goals (first | assumption | wp_step))
  refine codeAny_mono (code_set_led1 (.ref l) (E := E) (Q₁ := fun obj s₁ => obj = .ref s.heap.objs.size ∧ s₁ = { s with heap := s.heap.push (emptyObj w) }) ⟨rfl, rfl⟩) fun r s₁ hr => ?_
  cases r with
  | error e => exact hr
  | ok fl =>
    cases fl with
    | ret obj =>
      obtain ⟨rfl, rfl⟩ := hr
      have hS : (s.heap.push (emptyObj w)).get? s.heap.objs.size = some (emptyObj w) := Heap.get?_push_size _ rfl
      have hT : Shared.TypeIs { s with heap := s.heap.push (emptyObj w) } (.ref s.heap.objs.size) "set" := ⟨_, hS, rfl⟩
      have hli := PySem.F.called_set.init.lookup
      have hbi := PySem.F.called_set.init.bind (.ref s.heap.objs.size)
      repeat (any_goals (first | assumption | wp_step))
      refine codeAny_mono (codeAny_call_builtin (R := wants (fun r s₂ => r = .none ∧ ∃ h' tk ys, s₂ = { s with heap := h', toks := tk } ∧ SetX P w h' s.heap.objs.size ys ∧ (∀ x, x ∈ ys ↔ x ∈ xs) ∧ ys.length ≤ xs.length ∧
          (∀ b o, s.heap.get? b = some o → h'.get? b = some o)) E) PySem.F.called_set.init.plain PySem.F.entry_set_init (check_set_init_1 hT ?_)) fun r₂ s₂ hr₂ => ?_
      · have hh3 : A.in1.in1.in1.handled = none := by simp [hh]
        have hz1 : (s.heap.push (emptyObj w)).objs.size = s.heap.objs.size + 1 := Heap.size_push ..
        rcases hl with hl | hl
        · obtain ⟨ol, hol, hcl, nl, hdl⟩ := hl
          obtain ⟨ocls, odict, odata, oslots⟩ := ol
          simp only at hcl hdl
          subst hcl; subst hdl
          have hol' : (s.heap.push (emptyObj w)).get? l = some { cls := .type "list", dict := odict, data := .seq items nl, slots := oslots } := Heap.get?_push_of_some _ hol
          have hsls := PySem.F.sub_list_set
          have hslf := PySem.F.sub_list_frozenset
          have hne : (Value.type "list" == Value.type "dict") = false := by decide
          have hl1 : (s.heap.push (emptyObj w)).IsList l items := ⟨_, hol', rfl, nl, rfl⟩
          unfold Builtin.«set.__init__» noKeywords Builtin.Frozenset.updateFrom
          generalize hPI : pyIter = PI
          wp_walk
          subst hPI
          refine wpAny_pyIter_list hl1 ?_
          refine wpAny_bind (wpAny_runValue ?_)
          have hlS : l < s.heap.objs.size := Heap.lt_size hol
          have hneI : l ≠ (s.heap.push (emptyObj w)).objs.size := by
            rw [hz1]
            exact Nat.ne_of_lt (Nat.lt_succ_of_lt hlS)
          have hSf : s.heap.objs.size ∉ [(s.heap.push (emptyObj w)).objs.size, l] := by
            simp only [List.mem_cons, List.mem_singleton, List.not_mem_nil, or_false, not_or]
            rw [hz1]
            exact ⟨Nat.ne_of_lt (Nat.lt_succ_self _), Nat.ne_of_gt hlS⟩
          have hget : ((s.heap.push (emptyObj w)).push { cls := .type "list_iterator", data := .fields #[.ref l, .int 0 0] }).get? s.heap.objs.size = some (emptyObj w) := Heap.get?_push_of_some _ hS
          refine fill_loop ((Walks.list hh3 _ l hneI items).toS) s.heap.objs.size hSf xs hisz hval (by omega) (items.size - 0) 0 _ [] (by omega) (Nat.zero_le _)
            ⟨⟨_, Heap.get?_push_size _ rfl, rfl, rfl⟩, (hl1.push _)⟩ (setX_fresh hget) (fun x => Iff.rfl) (Nat.le_refl _) ?hR
          case hR =>
            intro s' ys hm hS' hmm hlen
            obtain ⟨h', g', d', tk', os'⟩ := s'
            have eg : g' = s.gens := hm.gens
            have ed : d' = s.drawn := hm.drawn
            have eo : os' = s.os := hm.os
            subst eg; subst ed; subst eo
            show wpAny _ _ _ _ _ _
            refine wpAny_pure ?_
            show wpAny _ _ (ret Value.none) _ _ _
            refine wpAny_pure ⟨rfl, h', tk', ys, rfl, hS', hmm, by omega, fun b o e => ?_⟩
            have hb0 : b < s.heap.objs.size := Heap.lt_size e
            refine hm.heap b o ?_ (Heap.get?_push_of_some _ (Heap.get?_push_of_some _ e))
            simp only [List.mem_cons, List.mem_singleton, List.not_mem_nil, or_false, not_or]
            rw [hz1]
            exact ⟨Nat.ne_of_lt hb0, Nat.ne_of_lt (Nat.lt_succ_of_lt hb0)⟩
        · obtain ⟨ol, hol, hcl, nl, hdl⟩ := hl
          obtain ⟨ocls, odict, odata, oslots⟩ := ol
          simp only at hcl hdl
          subst hcl; subst hdl
          have hol' : (s.heap.push (emptyObj w)).get? l = some { cls := .type "tuple", dict := odict, data := .seq items nl, slots := oslots } := Heap.get?_push_of_some _ hol
          have hsls := PySem.F.sub_tuple_set
          have hslf := PySem.F.sub_tuple_frozenset
          have hne : (Value.type "tuple" == Value.type "dict") = false := by decide
          have hl1 : (s.heap.push (emptyObj w)).IsTuple l items := ⟨_, hol', rfl, nl, rfl⟩
          unfold Builtin.«set.__init__» noKeywords Builtin.Frozenset.updateFrom
          generalize hPI : pyIter = PI
          wp_walk
          subst hPI
          refine wpAny_pyIter_tuple hl1 ?_
          refine wpAny_bind (wpAny_runValue ?_)
          have hlS : l < s.heap.objs.size := Heap.lt_size hol
          have hneI : l ≠ (s.heap.push (emptyObj w)).objs.size := by
            rw [hz1]
            exact Nat.ne_of_lt (Nat.lt_succ_of_lt hlS)
          have hSf : s.heap.objs.size ∉ [(s.heap.push (emptyObj w)).objs.size, l] := by
            simp only [List.mem_cons, List.mem_singleton, List.not_mem_nil, or_false, not_or]
            rw [hz1]
            exact ⟨Nat.ne_of_lt (Nat.lt_succ_self _), Nat.ne_of_gt hlS⟩
          have hget : ((s.heap.push (emptyObj w)).push { cls := .type "tuple_iterator", data := .fields #[.ref l, .int 0 0] }).get? s.heap.objs.size = some (emptyObj w) := Heap.get?_push_of_some _ hS
          refine fill_loop ((Walks.tuple hh3 _ l hneI items).toS) s.heap.objs.size hSf xs hisz hval (by omega) (items.size - 0) 0 _ [] (by omega) (Nat.zero_le _)
            ⟨⟨_, Heap.get?_push_size _ rfl, rfl, rfl⟩, (hl1.push _)⟩ (setX_fresh hget) (fun x => Iff.rfl) (Nat.le_refl _) ?hR
          case hR =>
            intro s' ys hm hS' hmm hlen
            obtain ⟨h', g', d', tk', os'⟩ := s'
            have eg : g' = s.gens := hm.gens
            have ed : d' = s.drawn := hm.drawn
            have eo : os' = s.os := hm.os
            subst eg; subst ed; subst eo
            show wpAny _ _ _ _ _ _
            refine wpAny_pure ?_
            show wpAny _ _ (ret Value.none) _ _ _
            refine wpAny_pure ⟨rfl, h', tk', ys, rfl, hS', hmm, by omega, fun b o e => ?_⟩
            have hb0 : b < s.heap.objs.size := Heap.lt_size e
            refine hm.heap b o ?_ (Heap.get?_push_of_some _ (Heap.get?_push_of_some _ e))
            simp only [List.mem_cons, List.mem_singleton, List.not_mem_nil, or_false, not_or]
            rw [hz1]
            exact ⟨Nat.ne_of_lt hb0, Nat.ne_of_lt (Nat.lt_succ_of_lt hb0)⟩
      · cases r₂ with
        | error e => exact hr₂
        | ok fl₂ =>
          cases fl₂ with
          | ret r =>
            obtain ⟨rfl, h', tk, ys, rfl, hS', hmm, hlen, hk'⟩ := hr₂
            repeat (any_goals (first | assumption | wp_step))
            exact h _ _ _ hS' hmm hlen hk'
          | _ => exact hr₂.elim
    | _ => exact hr.elim

/-! ### sorted(set) -/
theorem strs_of : ∀ (l : List Value), (∀ v ∈ l, ∃ k tk, v = Value.str k tk) → StrsAre l (l.map strOf)
  | [], _ => .nil
  | v :: l, h => by
    obtain ⟨k, tk, rfl⟩ := h v List.mem_cons_self
    exact .cons k tk (strs_of l fun u hu => h u (List.mem_cons_of_mem _ hu))
theorem sorted_setX {a : Addr} {l : List Str} {Q : Value → Shared → Prop} (R : SetX P w s.heap a l) (hh : A.handled = none) (hlen : l.length + 1 < scanBound)
    (hQ : ∀ s' p (out : Array Value) (c : Nat) (ys : List Str), (∀ b o, s.heap.get? b = some o → s'.heap.get? b = some o) → s'.gens = s.gens → s'.os = s.os → s.heap.objs.size ≤ p →
      s'.heap.get? p = some (seqObj "list" out c) → StrsAre out.toList ys → sortedS ys = true → ys.Perm l → Q (.ref p) s') :
    wpAny (model P w) A (call (.builtin "sorted") [.ref a]) Q E s := by
  obtain ⟨⟨es, ep, t⟩, ho, F, nd, r, hl⟩ := R
  have hf : t.fits es.size = true := F.fit
  have hsz : es.size = l.length := F.sz
  refine Calls.call_function_entry kind_sorted plain_sorted entry_sorted (args_sorted1 _) ?_
  unfold Builtin.«sorted»
  refine wpAny_bind (m := checkCount "sorted" 1 1 _) (wpAny_pure ?_)
  refine wpAny_bind (collect_set (A := A.in1) hh ⟨_, ho, rfl, rfl⟩ hf (by show es.size < scanBound; rw [hsz]; omega) r hl fun s1 vs k1 hz g1 o1 pm => ?_)
  have hvl : vs.length = l.length := by rw [pm.length_eq, List.length_map, Array.length_toList]; exact hsz
  have hst : ∀ v ∈ vs, ∃ k tk, v = Value.str k tk ∧ k ∈ l := fun v hv => by
    obtain ⟨e, he, q⟩ := List.mem_map.mp (pm.mem_iff.mp hv)
    obtain ⟨⟨k, h1, _⟩, _⟩ := F.el e he
    obtain ⟨tk, h2⟩ := Value.isStrOf_shape h1
    exact ⟨k, tk, by rw [← q]; exact h2, (F.mem k).mpr ⟨e, he, h1⟩⟩
  have hI : StrsAre vs (vs.map strOf) := strs_of vs fun v hv => let ⟨k, tk, e, _⟩ := hst v hv; ⟨k, tk, e⟩
  have pk : (vs.map strOf).Perm l := by
    refine (perm_of_sub l (vs.map strOf) nd (fun x hx => ?_) (by rw [List.length_map, hvl])).symm
    obtain ⟨e, he, h1⟩ := (F.mem x).mp hx
    obtain ⟨tk, h2⟩ := Value.isStrOf_shape h1
    exact List.mem_map.mpr ⟨e.2, pm.mem_iff.mpr (List.mem_map.mpr ⟨e, he, rfl⟩), by rw [h2]; rfl⟩
  have hline : vs.length ≤ sizeLine := by
    rw [hvl, sizeLine_eq]
    have z : scanBound = 4096 := rfl
    omega
  refine wpAny_bind (wpAny_newList ?_ hline)
  have hoL : (s1.heap.push (seqObj "list" vs.toArray 0)).get? s1.heap.objs.size = some (seqObj "list" vs.toArray 0) := Heap.get?_push_size _ rfl
  refine wpAny_bind (wpAny_holding (wpAny_call_entry slot_list_sort ⟨_, hoL, rfl⟩ entry_list_sort (list_sort_treeKAny strKind_oneLt hoL hI.keysOf (fun v₁ v₂ rest e => keyKind_strs (by rw [← e]; exact hI)) hline fun st' hp hs => ⟨_, rfl, ?_⟩) (args_list_sort _)))
  obtain ⟨ys, a1, a2, a3⟩ := sorted_out_str hI hp hs
  obtain ⟨c, hc⟩ := sortedHeap_at (vs := vs) (out := (arrOf st').map (·.2)) hoL
  refine wpAny_pure ⟨_, rfl, hQ _ s1.heap.objs.size _ c ys (fun b u e => ?_) g1 o1 hz hc a1 a3 (a2.trans pk)⟩
  have q := k1 b u e
  have hlt := Heap.lt_size q
  show (sortedHeap (s1.heap.push (seqObj "list" vs.toArray 0)) s1.heap.objs.size vs _).get? b = some u
  rw [sortedHeap_old (Nat.ne_of_lt hlt) (by rw [size_push']; exact Nat.lt_succ_of_lt hlt)]
  exact Heap.get?_push_of_some _ q
end

/-! ### over the layer -/
def SetV (P : Program) (w : World) (a : Addr) (l : List Str) : HO := .ext fun h => SetX P w h a l
section
variable {X : Cx}
theorem setV_new {P : Program} {w : World} {H : Hp} {h : Heap} {a : Addr} {l : List Str} (R : SetX P w h a l) : ObjOk P w H h a (SetV P w a l) := by
  have ⟨o, ho, _⟩ := R
  exact ⟨R, ⟨_, ho⟩, fun h1 h2 p k => SetX.at p k⟩
/-- set(xs), xs a list or a tuple of texts -/
def rSetX (K : PySem.W.Frag) (P : Program) (w : World) : List V → Hp → VK → Prop := fun vs H Q => ∃ (a : Addr) (xs : List Str), vs = [V.ref a] ∧ (SqL K H a (xs.map V.str) ∨ SqT K H a (xs.map V.str)) ∧ xs.length < 4000 ∧
  ∀ p ys, H p = none → (∀ x, x ∈ ys ↔ x ∈ xs) → ys.Nodup → ys.length ≤ xs.length → Q (.ref p) (upd H p (SetV P w p ys))
theorem cr_setX (hc : X.calm = true) : CallR X (.type "set") (rSetX X.K X.prog X.w) := by
  intro pins s σ H vs us Q I r h
  obtain ⟨a, xs, rfl, hs, hlen, q⟩ := h
  rw [Vals.ref1 r]
  have hn : H s.heap.objs.size = none := I.hok.fresh (Nat.le_refl _)
  have hz : xs.length + 1 < scanBound := by
    have z : scanBound = 4096 := rfl
    omega
  obtain ⟨its, rv, pl⟩ : ∃ its : List Value, Vals (xs.map V.str) its ∧ (s.heap.IsList a its.toArray ∨ s.heap.IsTuple a its.toArray) := by
    rcases hs with hs | hs
    · obtain ⟨its, rv, pl, _⟩ := I.list hs
      exact ⟨its, rv, .inl pl.isList⟩
    · obtain ⟨its, rv, pl, _⟩ := I.tuple hs
      exact ⟨its, rv, .inr pl⟩
  refine call_set (P := X.prog) (w := X.w) (I.ok.hd hc) pl (by simpa using rv.strs) hz fun h' tk ys R hm hl k => ?_
  have nd : ys.Nodup := by
    obtain ⟨_, _, _, z, _⟩ := R
    exact z
  exact ⟨.ref s.heap.objs.size, upd H s.heap.objs.size (SetV X.prog X.w s.heap.objs.size ys), I.laid (t' := tk) k (Nat.le_refl _) (setV_new R), rfl, q _ ys hn hm nd hl⟩
/-- sorted(a set of texts) -/
def rSortX (P : Program) (w : World) : List V → Hp → VK → Prop := fun vs H Q => ∃ (a : Addr) (l : List Str), vs = [V.ref a] ∧ H a = some (SetV P w a l) ∧ l.length < 4000 ∧
  ∀ ys p, ys.Perm l → sortedS ys = true → H p = none → Q (.ref p) (upd H p (.lst (ys.map V.str)))
theorem cr_sortX (hc : X.calm = true) : CallR X (.builtin "sorted") (rSortX X.prog X.w) := by
  intro pins s σ H vs us Q I r h
  obtain ⟨a, l, rfl, ha, hlen, q⟩ := h
  have R : SetX X.prog X.w s.heap a l := (I.hok a _ ha).1
  rw [Vals.ref1 r]
  have hz : l.length + 1 < scanBound := by
    have z : scanBound = 4096 := rfl
    omega
  refine sorted_setX R (I.ok.hd hc) hz fun s' p out c ys k g o hp hg hi hs pm => ?_
  have hl2 : (ys.map V.str).length ≤ sizeLine := by
    rw [List.length_map, pm.length_eq, sizeLine_eq]
    omega
  have hn : H p = none := I.hok.fresh hp
  have J : Inv X pins σ (upd H p (.lst (ys.map V.str))) { s with heap := s'.heap, gens := s'.gens, drawn := s'.drawn, toks := s'.toks } :=
    I.call (ch := []) (Un.laid k hp hn) (I.hok.laid k hp ⟨hl2, out.toList, c, vals_of_strs hi, hg⟩) (by rw [g]; exact I.bare) (fun _ z => nomatch z)
  have e : s' = { s with heap := s'.heap, gens := s'.gens, drawn := s'.drawn, toks := s'.toks } := by
    cases s'
    cases s
    cases o
    rfl
  rw [e]
  exact ⟨.ref p, _, J, rfl, q ys p pm hs hn⟩
end
end Sx
/-! Calls of the module's own defs by their promises, walks over a list or a tuple, data that stays. -/
namespace Bx
open PySem PySem.Spec PyProof.Rows L2 TL

/-- the module's name x holds a def that keeps sp, by at most level k -/
structure Cal (P : Program) (w : World) (K : PySem.W.Frag) (mg : Str → Option Value) (base : Heap) (x : Str) (k : Nat) (ps : List Str) (sp : Sp) : Prop where
  ex : ∃ (f : Addr) (fd : FuncData), FnOk P w K mg base CX0 k f fd ps sp ∧ mg x = some (.ref f) ∧ PySem.W.keepIn K (.ref f) = true ∧ Binds K fd ps []
/-- the same of a def with a star parameter alone -/
structure CalR (P : Program) (w : World) (K : PySem.W.Frag) (mg : Str → Option Value) (base : Heap) (x : Str) (k : Nat) (sp : Sp) : Prop where
  ex : ∃ f : Addr, FnR P w K mg base CX0 k f sp ∧ mg x = some (.ref f) ∧ PySem.W.keepIn K (.ref f) = true
section
variable {X : Cx} {x : Str} {k : Nat} {ps : List Str} {sp : Sp} {e : Expr} {es : List Expr} {t : TA} {p pos : Pos}
def tCal (sp : Sp) (t : TA) : TE := fun σ H Q => t σ H fun vs H1 => sp vs H1 Q E0
theorem pe_cal (c : Cal X.prog X.w X.K X.mg X.base x k ps sp) (hr : Room k X.A) (ha : PA X (e :: es) t) (hg : Gl X x := by rfl) (hdb : (x == ("__debug__" : Str)) = false := by decide)
    (he : starEach (e :: es) X.env = (false, eval e X.env) :: starEach es X.env := by rfl) (hpl : (backTo pos (starEach es X.env)).any (·.1) = false := by rfl) : PE X (.Call (.Name x p) (e :: es) [] pos) (tCal sp t) := by
  obtain ⟨f, fd, ok, g, kp, b⟩ := c.ex
  have z := pe_call (E := E0) ok hr hg g kp b .nil pass0 ha hdb he hpl (p := p)
  refine ⟨fun pins s σ H Q I h => z.run pins s σ H Q I ?_⟩
  unfold tCall
  simp only [List.append_nil]
  exact h
theorem pe_cal0 (c : Cal X.prog X.w X.K X.mg X.base x k ps sp) (hr : Room k X.A) (hg : Gl X x := by rfl) (hdb : (x == ("__debug__" : Str)) = false := by decide) : PE X (.Call (.Name x p) [] [] pos) (tCal sp tNil) := by
  obtain ⟨f, fd, ok, g, kp, b⟩ := c.ex
  have z := pe_call0 (E := E0) (pos := pos) ok hr hg g kp b .nil pass0 hdb (p := p)
  refine ⟨fun pins s σ H Q I h => z.run pins s σ H Q I ?_⟩
  exact h
theorem pe_calR (c : CalR X.prog X.w X.K X.mg X.base x k sp) (hr : Room k X.A) (ha : PA X (e :: es) t) (hg : Gl X x := by rfl) (hdb : (x == ("__debug__" : Str)) = false := by decide)
    (he : starEach (e :: es) X.env = (false, eval e X.env) :: starEach es X.env := by rfl) (hpl : (backTo pos (starEach es X.env)).any (·.1) = false := by rfl) : PE X (.Call (.Name x p) (e :: es) [] pos) (tCal sp t) := by
  obtain ⟨f, ok, g, kp⟩ := c.ex
  refine ⟨fun pins s σ H Q I h => ?_⟩
  refine wpAny_Call_Name_kw (ld_glob I hg g ?_ hdb)
  refine PySem.W.callWith_K (h₀ := X.base) I.ok.mod.kin kp (thn (ha.run pos pins s σ H _ I h) fun us s1 ⟨vs, H1, I1, r, q⟩ => ⟨I1.kIn, ?_⟩) he hpl
  exact wpAny_call (run_fnR ok hr pass0 I1 r q)
theorem pe_calR0 (c : CalR X.prog X.w X.K X.mg X.base x k sp) (hr : Room k X.A) (hg : Gl X x := by rfl) (hdb : (x == ("__debug__" : Str)) = false := by decide) : PE X (.Call (.Name x p) [] [] pos) (tCal sp tNil) := by
  obtain ⟨f, ok, g, kp⟩ := c.ex
  refine ⟨fun pins s σ H Q I h => ?_⟩
  refine wpAny_Call_Name_kw (ld_glob I hg g ?_ hdb)
  exact PySem.W.callWith_K0 I.kIn kp (wpAny_call (run_fnR ok hr pass0 I .nil h))

/-- x(*y) -/
theorem pe_calS {te : TE} {sp_ : Pos} (c : CalR X.prog X.w X.K X.mg X.base x k sp) (hr : Room k X.A) (he : PE X e te) (hg : Gl X x := by rfl) (hdb : (x == ("__debug__" : Str)) = false := by decide) (hst : starEach [.Starred e sp_] X.env = [(true, eval e X.env)] := by rfl) :
    PE X (.Call (.Name x p) [.Starred e sp_] [] pos) (fun σ H Q => te σ H fun y H1 => ∃ a xs, y = V.ref a ∧ (SqT X.K H1 a xs ∨ SqL X.K H1 a xs) ∧ sp xs H1 Q E0) := by
  obtain ⟨f, ok, g, kp⟩ := c.ex
  exact StX.pe_callS1 ok hr kp hg g pass0 he hdb hst

/-- a walk over a list or a tuple -/
def SeqCase (K : PySem.W.Frag) (a : Addr) (H : Hp) (R : It → Hp → Prop) : Prop := ((∃ xs, SqL K H a xs) ∧ R (Itl K a) H) ∨ ((∃ xs, SqT K H a xs) ∧ R (Itt K a) H)
def iSeq (K : PySem.W.Frag) (tl : TE) : TI := fun σ H R => tl σ H fun x H1 => ∃ a, x = .ref a ∧ SeqCase K a H1 R
theorem pi_seq {tg l : Expr} {tl : TE} (hl : PE X l tl) : PI X tg l (iSeq X.K tl) := by
  refine ⟨fun pins s σ H R I h => ?_⟩
  refine thn (hl.run pins s σ H _ I h) fun v s1 ⟨x, H1, I1, r1, q1⟩ => ?_
  obtain ⟨a, e, q1⟩ := q1
  subst e
  cases r1
  rcases q1 with ⟨⟨xs, hq⟩, q⟩ | ⟨⟨xs, hq⟩, q⟩
  · obtain ⟨its, rv, p, hz⟩ := I1.list hq
    refine wpAny_pyIter_list p.isList ?_
    exact pi_one (tk := s1.toks) I1 _ (turn_list a _) ⟨_, Heap.get?_push_size _ rfl, rfl, rfl⟩ q
  · obtain ⟨its, rv, p, hz⟩ := I1.tuple hq
    refine wpAny_pyIter_tuple (show s1.heap.IsTuple a its.toArray from p) ?_
    exact pi_one (tk := s1.toks) I1 _ (turn_tuple a _) ⟨_, Heap.get?_push_size _ rfl, rfl, rfl⟩ q
end

/-! ### rules with the written part named (within a block) -/
section
variable {X : Cx} {K : PySem.W.Frag}
theorem ix_listK (h : X.K = K) : IxR X (rIxL K) := h ▸ ix_list
theorem ix_tupK (h : X.K = K) : IxR X (rIxT K) := h ▸ ix_tup
theorem op_in_seqK (h : X.K = K) : OpR X (compareOp .In) (rIn K false) := h ▸ op_in_seq
theorem call_list_ofK (h : X.K = K) : CallR X (.type "list") (fun xs H Q => ∃ p ys, xs = [.ref p] ∧ (SqL K H p ys ∨ SqT K H p ys) ∧ ∀ l, H l = none → Q (.ref l) (upd H l (.lst ys))) := by
  subst h
  exact call_list_of
theorem call_tuple_ofK (h : X.K = K) : CallR X (.type "tuple") (fun xs H Q => ∃ p ys, xs = [.ref p] ∧ ((SqL K H p ys ∧ ∀ l, H l = none → Q (.ref l) (upd H l (.tup ys))) ∨ (SqT K H p ys ∧ Q (.ref p) H))) := by
  subst h
  exact call_tuple_of
theorem call_len_seqK (h : X.K = K) : CallR X (.builtin "len") (fun xs H Q => ∃ p ys, xs = [.ref p] ∧ (SqL K H p ys ∨ SqT K H p ys) ∧ Q (.int ys.length) H) := by
  subst h
  exact call_len_seq
theorem cr_allK (h : X.K = K) (hc : X.calm = true) : CallR X (.builtin "all") (rAll K) := by
  subst h
  exact cr_all hc
theorem pg_tupK {es : List Expr} {k : Nat} {t : TGs} {n : Nat} {pos : Pos} (h : X.K = K) (hc : X.calm = true) (hs : PGs X es t)
    (hn : (assignEach es X.env).length = n := by rfl) (hst : (assignEach es X.env).findIdx? (·.1) = none := by rfl) : PG X (.Tuple es k pos) (gTup K n t) := by
  subst h
  exact pg_tup hc hs hn hst
theorem op_notIn_seqK (h : X.K = K) : OpR X (compareOp .NotIn) (rIn K true) := h ▸ op_notIn_seq
end

/-! ### heaps -/
theorem same_new {H : Hp} {p : Addr} {o : HO} (h : H p = none) : Same H (upd H p o) := fun b x e => by
  rw [upd_ne (ne_of_none e h)]
  exact e
theorem same_at {H H2 : Hp} {p : Addr} {o : HO} (h : H p = none) (s : Same H H2) : Same H (upd H2 p o) := fun b x e => by
  rw [upd_ne (ne_of_none e h)]
  exact s b x e
theorem Same.tup {K : PySem.W.Frag} {H H' : Hp} {a : Addr} {xs : List V} (e : Same H H') (h : SqT K H a xs) : SqT K H' a xs := by
  rcases h with (h | ⟨o, h⟩) | h
  · exact .inl (.inl (e _ _ h))
  · exact .inl (.inr ⟨o, e _ _ h⟩)
  · exact .inr h
theorem sq {K : PySem.W.Frag} {H : Hp} {a : Addr} {xs : List V} (h : H a = some (.lst xs)) : SqL K H a xs := Or.inl (Or.inl h)
theorem sqt {K : PySem.W.Frag} {H : Hp} {a : Addr} {xs : List V} (h : H a = some (.tup xs)) : SqT K H a xs := Or.inl (Or.inl h)
/-- all that was tracked but a is as it was -/
def SameBut (a : Addr) (H H' : Hp) : Prop := ∀ b o, b ≠ a → H b = some o → H' b = some o
theorem SameBut.refl (a : Addr) (H : Hp) : SameBut a H H := fun _ _ _ h => h
theorem SameBut.trans {a : Addr} {H H1 H2 : Hp} (x : SameBut a H H1) (y : SameBut a H1 H2) : SameBut a H H2 := fun b o n h => y b o n (x b o n h)
theorem Same.but {a : Addr} {H H' : Hp} (x : Same H H') : SameBut a H H' := fun b o _ h => x b o h
theorem SameBut.upd {a : Addr} {H : Hp} {o : HO} : SameBut a H (upd H a o) := fun b x n h => by
  rw [upd_ne n]
  exact h
/-- new objects do not disturb: what was tracked at H, where a was not -/
theorem SameBut.same {a : Addr} {H H1 H2 : Hp} (x : Same H H1) (n : H a = none) (y : SameBut a H1 H2) : Same H H2 := fun b o h => y b o (ne_of_none h n) (x b o h)
theorem sz {n : Nat} (h : n ≤ 100000) : n ≤ sizeLine := Nat.le_trans h (by decide)
theorem szl {n : Nat} (h : n < 100000) : n < sizeLine := Nat.lt_of_lt_of_le h (by decide)
/-- the source of draws at a -/
def Src (H : Hp) (a : Addr) : Prop := ∃ n c : Int, H a = some (.lst [.int n, .int c])

/-! ### data -/
mutual
theorem dp_same {K : PySem.W.Frag} {H H' : Hp} (e : Same H H') : ∀ {v : V} {d : PyData}, Dp K H v d → Dp K H' v d
  | _, _, .non => .non
  | _, _, .bl b => .bl b
  | _, _, .int i => .int i
  | _, _, .str x => .str x
  | _, _, .lst h a => .lst (e.seq h) (dpAll_same e a)
  | _, _, .tup h a => .tup (Bx.Same.tup e h) (dpAll_same e a)
theorem dpAll_same {K : PySem.W.Frag} {H H' : Hp} (e : Same H H') : ∀ {vs : List V} {ds : List PyData}, DpAll K H vs ds → DpAll K H' vs ds
  | _, _, .nil => .nil
  | _, _, .cons h a => .cons (dp_same e h) (dpAll_same e a)
end
theorem dp_strs {K : PySem.W.Frag} {H : Hp} : ∀ ys : List Str, DpAll K H (ys.map V.str) (ys.map PyData.str)
  | [] => .nil
  | y :: ys => .cons (.str y) (dp_strs ys)
theorem dp_ints {K : PySem.W.Frag} {H : Hp} : ∀ ys : List Int, DpAll K H (ys.map V.int) (ys.map PyData.int)
  | [] => .nil
  | y :: ys => .cons (.int y) (dp_ints ys)
theorem dp_map {K : PySem.W.Frag} {H : Hp} {α : Type} {f : α → V} {g : α → PyData} : ∀ {l : List α}, (∀ x ∈ l, Dp K H (f x) (g x)) → DpAll K H (l.map f) (l.map g)
  | [], _ => .nil
  | x :: l, h => .cons (h x List.mem_cons_self) (dp_map fun y hy => h y (List.mem_cons_of_mem _ hy))

/-! ### walks with any body -/
theorem walk_any {J : It} {n : Nat} {G : Hp → Prop} {Y : Nat → Hp → V → Hp → Prop} (w : Walk J n G Y) {Z : Hp → Prop} {B : (Hp → Prop) → V → Hp → Prop} {H0 : Hp} (Pv : Nat → Hp → Prop) (h0 : Pv 0 H0) (hG : ∀ i H, i ≤ n → Pv i H → G H)
    (hs : ∀ i x H H', i < n → Pv i H → Y i H x H' → B (Pv (i + 1)) x H') (hd : ∀ H, Pv n H → Z H) :
    ∃ W : Nat → Nat → Hp → Prop, (∃ m, W 0 m H0) ∧ ∀ i m H, W i m H → (J.stop i H ∧ Z H) ∨ (J.go i H ∧ ∃ Nx : Hp → Prop, (∀ H', Nx H' → ∃ m', m' < m ∧ W (i + 1) m' H') ∧ ∀ x H', J.yld i H x H' → B Nx x H') := by
  refine ⟨fun i m H => m = n - i ∧ i ≤ n ∧ Pv i H, ⟨n, by simp, Nat.zero_le _, h0⟩, ?_⟩
  rintro i m H ⟨rfl, hi, p⟩
  have q := hG i H hi p
  by_cases hlt : i < n
  · exact .inr ⟨w.goes i H hlt q, Pv (i + 1), fun H' p' => ⟨n - (i + 1), by omega, rfl, hlt, p'⟩, fun x H' y => hs i x H H' hlt p (w.yields i H x H' hlt q y)⟩
  · have e : i = n := by omega
    subst e
    exact .inl ⟨w.stops H q, hd H p⟩

/-! ### a def with a star parameter alone -/
theorem okStar {P : Program} {w : World} {K : PySem.W.Frag} {mg : Str → Option Value} {base : Heap} {x qual pn : Str} {st : Stmt} {f : Addr} {fd : FuncData} {N : List Str} {k : Nat} {sp : Sp} (F : Fun K x qual st f fd) (S : FnScope N [pn] (defScope st))
    (hb : ∀ (kV doc pm : Value) (an : Option Addr) (cdv ct : Value) (rest : List Value), bindArgs (PySem.W.fnOf x qual (defArgs st) (defBody st) (defScope st) .none kV doc pm an cdv ct) ⟨rest, []⟩ = (newTuple rest >>= fun t => pure [(pn, t)]))
    (hbody : ∀ (cdv : Value) (A : Around) (outer : List Env) (s : Shared) (H : Hp) (vs : List V) (Q : VK) (E : XK), Room k (A.deeper (envOfC qual (defScope st) s.heap.objs.size f cdv)) → sp vs H Q E →
      ∃ t, PSs (cxOf CX0 P w K mg base N qual (defScope st) f cdv A outer s H E) (defBody st) t ∧ t { nx := fun _ H' => Q .non H', rt := Q } (start N vs) H) :
    FnR P w K mg base CX0 (k + 1) f (fun vs H Q E => vs.length ≤ sizeLine ∧ ∀ p, H p = none → sp [V.ref p] (upd H p (.tup vs)) Q E) := by
  obtain ⟨oc, od, kV, doc, pm, an, cdv, ct, osl, rfl, lk, hcd⟩ := F.ex
  have z := StX.fn_star (P := P) (w := w) (K := K) (mg := mg) (base := base) (CX := CX0) (ps := []) (sp := sp) lk hcd S StX.cxUp_none (fun us rest hl => by
    have e : us = [] := List.length_eq_zero_iff.mp hl
    subst e
    exact hb kV doc pm an cdv ct rest) (hbody cdv)
  exact z.imp fun vs H Q E h => ⟨[], vs, rfl, rfl, h.1, h.2⟩

/-- one parameter ahead of the star -/
theorem okStar1 {P : Program} {w : World} {K : PySem.W.Frag} {mg : Str → Option Value} {base : Heap} {x qual p1 pn : Str} {st : Stmt} {f : Addr} {fd : FuncData} {N : List Str} {k : Nat} {sp : Sp} (F : Fun K x qual st f fd) (S : FnScope N [p1, pn] (defScope st))
    (h0 : ∀ (kV doc pm : Value) (an : Option Addr) (cdv ct a : Value), bindArgs (PySem.W.fnOf x qual (defArgs st) (defBody st) (defScope st) .none kV doc pm an cdv ct) ⟨[a], []⟩ = (newTuple [] >>= fun t => pure [(p1, a), (pn, t)]))
    (h1 : ∀ (kV doc pm : Value) (an : Option Addr) (cdv ct a r : Value) (rs : List Value), bindArgs (PySem.W.fnOf x qual (defArgs st) (defBody st) (defScope st) .none kV doc pm an cdv ct) ⟨a :: r :: rs, []⟩ = (newTuple (r :: rs) >>= fun t => pure [(p1, a), (pn, t)]))
    (hbody : ∀ (cdv : Value) (A : Around) (outer : List Env) (s : Shared) (H : Hp) (vs : List V) (Q : VK) (E : XK), Room k (A.deeper (envOfC qual (defScope st) s.heap.objs.size f cdv)) → sp vs H Q E →
      ∃ t, PSs (cxOf CX0 P w K mg base N qual (defScope st) f cdv A outer s H E) (defBody st) t ∧ t { nx := fun _ H' => Q .non H', rt := Q } (start N vs) H) :
    FnR P w K mg base CX0 (k + 1) f (fun vs H Q E => ∃ v rest, vs = v :: rest ∧ rest.length ≤ sizeLine ∧ ∀ p, H p = none → sp [v, V.ref p] (upd H p (.tup rest)) Q E) := by
  obtain ⟨oc, od, kV, doc, pm, an, cdv, ct, osl, rfl, lk, hcd⟩ := F.ex
  have z := StX.fn_star (P := P) (w := w) (K := K) (mg := mg) (base := base) (CX := CX0) (ps := [p1]) (sp := sp) lk hcd S StX.cxUp_none
    (StX.bind_star1 (B := fun us => bindArgs (PySem.W.fnOf x qual (defArgs st) (defBody st) (defScope st) .none kV doc pm an cdv ct) ⟨us, []⟩) (h0 kV doc pm an cdv ct) (h1 kV doc pm an cdv ct)) (hbody cdv)
  exact z.imp fun vs H Q E ⟨v, rest, e, hl, h⟩ => ⟨[v], rest, e, rfl, hl, h⟩

/-! ### a walk over a list or a tuple, told once -/
theorem seq_case {K : PySem.W.Frag} {H : Hp} {a : Addr} {xs : List V} {R : It → Hp → Prop} (h : SqL K H a xs ∨ SqT K H a xs) (k : ∀ (J : It) (G : Hp → Prop), Walk J xs.length G (YAt xs) → (∀ H', Same H H' → G H') → R J H) : SeqCase K a H R := by
  rcases h with h | h
  · exact .inl ⟨⟨_, h⟩, k _ _ walk_list fun H' s => s.seq h⟩
  · exact .inr ⟨⟨_, h⟩, k _ _ walk_tup fun H' s => Bx.Same.tup s h⟩
theorem at_map {α : Type} {l : List α} {f : α → V} {i : Nat} {x : V} (h : (l.map f)[i]? = some x) : ∃ y, l[i]? = some y ∧ x = f y := by
  rw [List.getElem?_map] at h
  cases e : l[i]? with
  | none =>
    rw [e] at h
    cases h
  | some y =>
    rw [e] at h
    exact ⟨y, rfl, (Option.some.inj h).symm⟩

/-! ### texts in ascending order -/
theorem rising_at : ∀ (p : Str) (r : List Str), risingS p r = true → ∀ (k : Nat) (x y : Str), (p :: r)[k]? = some x → (p :: r)[k + 1]? = some y → ltCps y.cps.toList x.cps.toList = false
  | p, [], _, k, x, y, _, h2 => by
    simp at h2
  | p, q :: r, h, k, x, y, h1, h2 => by
    have h3 : (!ltCps q.cps.toList p.cps.toList && risingS q r) = true := h
    rw [Bool.and_eq_true] at h3
    cases k with
    | zero =>
      have e1 : p = x := Option.some.inj h1
      have e2 : q = y := Option.some.inj h2
      rw [← e1, ← e2]
      simpa using h3.1
    | succ k => exact rising_at q r h3.2 k x y h1 h2
theorem sorted_at {l : List Str} (h : sortedS l = true) (nd : l.Nodup) {k : Nat} {x y : Str} (h1 : l[k]? = some x) (h2 : l[k + 1]? = some y) : x.cps.toList < y.cps.toList := by
  cases l with
  | nil => cases h1
  | cons p r =>
    have a := rising_at p r h k x y h1 h2
    rw [ltCps_eq] at a
    refine Std.lt_of_le_of_ne (of_decide_eq_false a) fun e => ?_
    have e2 : x = y := ext_tl e
    obtain ⟨i1, e3⟩ := List.getElem?_eq_some_iff.mp h1
    obtain ⟨i2, e4⟩ := List.getElem?_eq_some_iff.mp h2
    have z := List.pairwise_iff_getElem.mp nd k (k + 1) i1 i2 (Nat.lt_succ_self k)
    exact z (e3.trans (e2.trans e4.symm))

/-! ### membership of texts -/
theorem inV_str (x : Str) (ys : List Str) : inV (.str x) (ys.map V.str) = decide (x ∈ ys) := by
  unfold inV
  rw [List.any_map]
  induction ys with
  | nil => rfl
  | cons y ys ih =>
    rw [List.any_cons, ih]
    show ((y == x) || _) = _
    by_cases e : y = x
    · subst e
      simp
    · have e2 : (y == x) = false := by simpa using e
      rw [e2, Bool.false_or]
      by_cases h : x ∈ ys
      · rw [decide_eq_true h, decide_eq_true (List.mem_cons_of_mem _ h)]
      · rw [decide_eq_false h, decide_eq_false (fun z => (List.mem_cons.mp z).elim (fun z => e z.symm) h)]
theorem flat_all (ys : List Str) : (ys.map V.str).all flatV = true := by
  rw [List.all_map, List.all_eq_true]
  intro y _
  rfl
theorem lay_strs : ∀ ys : List Str, (∀ y ∈ ys, PyData.strOk y = true) → PyData.canLayAll0 (ys.map PyData.str) = true ∧ PyData.depthAll (ys.map PyData.str) ≤ 1
  | [], _ => ⟨rfl, by decide⟩
  | y :: ys, h => by
    obtain ⟨a, b⟩ := lay_strs ys fun z hz => h z (List.mem_cons_of_mem _ hz)
    constructor
    · show (PyData.strOk y && PyData.canLayAll0 (ys.map PyData.str)) = true
      rw [a, h y List.mem_cons_self]
      rfl
    · show max (PyData.depth (.str y)) (PyData.depthAll (ys.map PyData.str)) ≤ 1
      exact Nat.max_le.mpr ⟨by first | exact Nat.zero_le _ | decide | exact Nat.le_refl _, b⟩
theorem lay_lists : ∀ L : List (List Str), (∀ ys ∈ L, ∀ y ∈ ys, PyData.strOk y = true) → PyData.canLayAll0 (L.map fun ys => PyData.list (ys.map PyData.str)) = true ∧ PyData.depthAll (L.map fun ys => PyData.list (ys.map PyData.str)) ≤ 2
  | [], _ => ⟨rfl, by decide⟩
  | ys :: L, h => by
    obtain ⟨a, b⟩ := lay_lists L fun z hz => h z (List.mem_cons_of_mem _ hz)
    obtain ⟨c, d⟩ := lay_strs ys (h ys List.mem_cons_self)
    constructor
    · show (PyData.canLayAll0 (ys.map PyData.str) && PyData.canLayAll0 (L.map fun ys => PyData.list (ys.map PyData.str))) = true
      rw [a, c]
      rfl
    · show max (PyData.depthAll (ys.map PyData.str) + 1) (PyData.depthAll (L.map fun ys => PyData.list (ys.map PyData.str))) ≤ 2
      exact Nat.max_le.mpr ⟨by omega, b⟩

/-! ### signs of a written text -/
theorem pick {L : Str} {r : Int} (h0 : 0 ≤ r) (h1 : r < (tl L).length) : ∃ c, atI L.cps.toList r = some c ∧ c ∈ tl L := by
  obtain ⟨n, rfl⟩ := Int.eq_ofNat_of_zero_le h0
  have hn : n < (tl L).length := by omega
  exact ⟨(tl L)[n], atI_nat (List.getElem?_eq_getElem hn), List.getElem_mem hn⟩
end Bx
/-! Data that stands in the heap, beside objects that change; rules told of data. -/
namespace Dx
open PySem PySem.Spec PyProof.Rows L2 Bx TL

/-! ### the heap without some addresses -/
def mn (H : Hp) (S : List Addr) : Hp := fun b => if b ∈ S then none else H b
theorem mn_in {H : Hp} {S : List Addr} {b : Addr} (h : b ∈ S) : mn H S b = none := if_pos h
theorem mn_out {H : Hp} {S : List Addr} {b : Addr} (h : b ∉ S) : mn H S b = H b := if_neg h
theorem mn_same {H : Hp} {S : List Addr} : Same (mn H S) H := fun b o e => by
  by_cases h : b ∈ S
  · rw [mn_in h] at e
    cases e
  · rw [mn_out h] at e
    exact e
theorem mn_nil {H : Hp} : mn H [] = H := funext fun b => mn_out (by simp)
theorem mn_sub {H : Hp} {S T : List Addr} (h : ∀ b, b ∈ S → b ∈ T) : Same (mn H T) (mn H S) := fun b o e => by
  by_cases h1 : b ∈ T
  · rw [mn_in h1] at e
    cases e
  · rw [mn_out h1] at e
    rw [mn_out fun z => h1 (h b z)]
    exact e
theorem mn_upd {H : Hp} {S : List Addr} {a : Addr} {o : HO} (h : a ∈ S) : mn (upd H a o) S = mn H S := funext fun b => by
  by_cases h1 : b ∈ S
  · rw [mn_in h1, mn_in h1]
  · rw [mn_out h1, mn_out h1, upd_ne (show b ≠ a from fun z => h1 (by rw [z]; exact h))]
theorem mn_new {H : Hp} {S : List Addr} {p : Addr} {o : HO} (h : H p = none) : Same (mn H S) (mn (upd H p o) S) := fun b u e => by
  by_cases h1 : b ∈ S
  · rw [mn_in h1] at e
    cases e
  · rw [mn_out h1] at e ⊢
    rw [upd_ne (ne_of_none e h)]
    exact e
theorem mn_but {H H' : Hp} {S : List Addr} {a : Addr} (h : a ∈ S) (s : SameBut a H H') : Same (mn H S) (mn H' S) := fun b u e => by
  by_cases h1 : b ∈ S
  · rw [mn_in h1] at e
    cases e
  · rw [mn_out h1] at e ⊢
    exact s b u (fun z => h1 (z ▸ h)) e
theorem mn_all {H H' : Hp} {S : List Addr} (s : Same H H') : Same (mn H S) (mn H' S) := fun b u e => by
  by_cases h1 : b ∈ S
  · rw [mn_in h1] at e
    cases e
  · rw [mn_out h1] at e ⊢
    exact s b u e
theorem mn_to {H H' : Hp} {S T : List Addr} (h : ∀ b, b ∈ S → b ∈ T) (s : Same (mn H S) (mn H' S)) : Same (mn H T) (mn H' T) := fun b u e => by
  by_cases h1 : b ∈ T
  · rw [mn_in h1] at e
    cases e
  · rw [mn_out h1] at e ⊢
    have z := s b u (by rw [mn_out fun z => h1 (h b z)]; exact e)
    rw [mn_out fun z => h1 (h b z)] at z
    exact z
/-- what is tracked beside S was there, or is new -/
theorem mn_at {H : Hp} {S : List Addr} {b : Addr} {o : HO} (h : b ∉ S) (e : H b = some o) : mn H S b = some o := by
  rw [mn_out h]
  exact e
theorem mn_keep {H H' : Hp} {S : List Addr} (s : Same (mn H S) (mn H' S)) {b : Addr} {o : HO} (h : b ∉ S) (e : H b = some o) : H' b = some o := mn_same _ _ (s _ _ (mn_at h e))
theorem mn_free {H H' : Hp} {S : List Addr} (s : Same (mn H S) (mn H' S)) {b : Addr} (h : b ∉ S) (e : H' b = none) : H b = none := by
  cases z : H b with
  | none => rfl
  | some o =>
    rw [mn_keep s h z] at e
    cases e

/-! ### data -/
section
variable {K : PySem.W.Frag} {H : Hp}
theorem dp_lst {v : V} {ds : List PyData} (h : Dp K H v (.list ds)) : ∃ a xs, v = .ref a ∧ SqL K H a xs ∧ DpAll K H xs ds := by
  cases h with
  | lst s a => exact ⟨_, _, rfl, s, a⟩
theorem dp_tup {v : V} {ds : List PyData} (h : Dp K H v (.tuple ds)) : ∃ a xs, v = .ref a ∧ SqT K H a xs ∧ DpAll K H xs ds := by
  cases h with
  | tup s a => exact ⟨_, _, rfl, s, a⟩
theorem dp_str {v : V} {s : Str} (h : Dp K H v (.str s)) : v = .str s := by cases h; rfl
theorem dp_int {v : V} {i : Int} (h : Dp K H v (.int i)) : v = .int i := by cases h; rfl
theorem da_len : ∀ {xs : List V} {ds : List PyData}, DpAll K H xs ds → xs.length = ds.length
  | _, _, .nil => rfl
  | _, _, .cons _ t => congrArg (· + 1) (da_len t)
theorem da_get : ∀ {xs : List V} {ds : List PyData}, DpAll K H xs ds → ∀ {i : Nat} {d : PyData}, ds[i]? = some d → ∃ v, xs[i]? = some v ∧ Dp K H v d
  | _, _, .nil, i, d, e => by cases e
  | _, _, .cons h t, 0, d, e => by
    cases e
    exact ⟨_, rfl, h⟩
  | _, _, .cons h t, i + 1, d, e => da_get t e
theorem da_at : ∀ {xs : List V} {ds : List PyData}, DpAll K H xs ds → ∀ {i : Nat} {v : V}, xs[i]? = some v → ∃ d, ds[i]? = some d ∧ Dp K H v d
  | _, _, .nil, i, d, e => by cases e
  | _, _, .cons h t, 0, d, e => by
    cases e
    exact ⟨_, rfl, h⟩
  | _, _, .cons h t, i + 1, d, e => da_at t e
theorem da_app : ∀ {xs ys : List V} {ds es : List PyData}, DpAll K H xs ds → DpAll K H ys es → DpAll K H (xs ++ ys) (ds ++ es)
  | _, _, _, _, .nil, h => h
  | _, _, _, _, .cons h t, k => .cons h (da_app t k)
theorem da_one {v : V} {d : PyData} (h : Dp K H v d) : DpAll K H [v] [d] := .cons h .nil
theorem da_strs : ∀ {xs : List V} {ns : List Str}, DpAll K H xs (ns.map PyData.str) → xs = ns.map V.str
  | [], [], _ => rfl
  | [], _ :: _, h => by cases h
  | _ :: _, [], h => by cases h
  | x :: xs, n :: ns, h => by
    cases h with
    | cons h t =>
      rw [dp_str h, da_strs t]
      rfl
theorem da_ints : ∀ {xs : List V} {ns : List Int}, DpAll K H xs (ns.map PyData.int) → xs = ns.map V.int
  | [], [], _ => rfl
  | [], _ :: _, h => by cases h
  | _ :: _, [], h => by cases h
  | x :: xs, n :: ns, h => by
    cases h with
    | cons h t =>
      rw [dp_int h, da_ints t]
      rfl
theorem da_take : ∀ {xs : List V} {ds : List PyData}, DpAll K H xs ds → ∀ n, DpAll K H (xs.take n) (ds.take n)
  | _, _, .nil, n => by
    rw [List.take_nil, List.take_nil]
    exact .nil
  | _, _, .cons h t, 0 => .nil
  | _, _, .cons h t, n + 1 => .cons h (da_take t n)
/-- the strs of a tuple of texts -/
theorem dp_names {v : V} {ns : List Str} (h : Dp K H v (.tuple (ns.map PyData.str))) : ∃ a, v = .ref a ∧ SqT K H a (ns.map V.str) := by
  obtain ⟨a, xs, rfl, s, t⟩ := dp_tup h
  rw [da_strs t] at s
  exact ⟨a, rfl, s⟩
theorem dp_namesL {v : V} {ns : List Str} (h : Dp K H v (.list (ns.map PyData.str))) : ∃ a, v = .ref a ∧ SqL K H a (ns.map V.str) := by
  obtain ⟨a, xs, rfl, s, t⟩ := dp_lst h
  rw [da_strs t] at s
  exact ⟨a, rfl, s⟩
theorem names_dp {a : Addr} {ns : List Str} (h : SqT K H a (ns.map V.str)) : Dp K H (.ref a) (.tuple (ns.map PyData.str)) := .tup h (dp_strs ns)
theorem namesL_dp {a : Addr} {ns : List Str} (h : SqL K H a (ns.map V.str)) : Dp K H (.ref a) (.list (ns.map PyData.str)) := .lst h (dp_strs ns)
end

/-! ### what may be compared: no dicts, not too deep -/
def Lay (n : Nat) (d : PyData) : Prop := d.canLay0 = true ∧ d.depth ≤ n
def Lays (n : Nat) (ds : List PyData) : Prop := PyData.canLayAll0 ds = true ∧ PyData.depthAll ds ≤ n
theorem lays_nil {n : Nat} : Lays n [] := ⟨rfl, Nat.zero_le _⟩
theorem lays_cons {n : Nat} {d : PyData} {ds : List PyData} (h : Lay n d) (t : Lays n ds) : Lays n (d :: ds) := by
  constructor
  · show (d.canLay0 && PyData.canLayAll0 ds) = true
    rw [h.1, t.1]
    rfl
  · show max d.depth (PyData.depthAll ds) ≤ n
    exact Nat.max_le.mpr ⟨h.2, t.2⟩
theorem lays_of {n : Nat} : ∀ {ds : List PyData}, (∀ d ∈ ds, Lay n d) → Lays n ds
  | [], _ => lays_nil
  | d :: ds, h => lays_cons (h d List.mem_cons_self) (lays_of fun x hx => h x (List.mem_cons_of_mem _ hx))
theorem lay_tuple {n : Nat} {ds : List PyData} (h : Lays n ds) : Lay (n + 1) (.tuple ds) := ⟨h.1, Nat.succ_le_succ h.2⟩
theorem lay_list {n : Nat} {ds : List PyData} (h : Lays n ds) : Lay (n + 1) (.list ds) := ⟨h.1, Nat.succ_le_succ h.2⟩
theorem lay_int {n : Nat} {i : Int} : Lay n (.int i) := ⟨rfl, Nat.zero_le _⟩
theorem lay_str {n : Nat} {s : Str} (h : PyData.strOk s = true) : Lay n (.str s) := ⟨h, Nat.zero_le _⟩
theorem lay_up {m n : Nat} {d : PyData} (h : Lay m d) (k : m ≤ n) : Lay n d := ⟨h.1, Nat.le_trans h.2 k⟩
theorem lays_up {m n : Nat} {ds : List PyData} (h : Lays m ds) (k : m ≤ n) : Lays n ds := ⟨h.1, Nat.le_trans h.2 k⟩
theorem lays_mem {n : Nat} : ∀ {ds : List PyData}, Lays n ds → ∀ d ∈ ds, Lay n d
  | d :: ds, h, x, hx => by
    have h1 : (d.canLay0 && PyData.canLayAll0 ds) = true := h.1
    have h2 : max d.depth (PyData.depthAll ds) ≤ n := h.2
    rw [Bool.and_eq_true] at h1
    rw [Nat.max_le] at h2
    rcases List.mem_cons.mp hx with e | e
    · rw [e]
      exact ⟨h1.1, h2.1⟩
    · exact lays_mem ⟨h1.2, h2.2⟩ x e
theorem lays_strs {n : Nat} {ns : List Str} (h : ∀ s ∈ ns, PyData.strOk s = true) : Lays n (ns.map PyData.str) := lays_of fun d hd => by
  obtain ⟨s, hs, rfl⟩ := List.mem_map.mp hd
  exact lay_str (h s hs)
theorem lays_ints {n : Nat} {ns : List Int} : Lays n (ns.map PyData.int) := lays_of fun d hd => by
  obtain ⟨s, _, rfl⟩ := List.mem_map.mp hd
  exact lay_int
theorem shape {n : Nat} {d : PyData} (h : Lay n d) (k : n ≤ 64) : SeqAt.shaped d = true := by
  unfold SeqAt.shaped
  rw [Bool.and_eq_true]
  exact ⟨h.1, decide_eq_true (Nat.le_trans h.2 k)⟩
theorem eq_refl {n : Nat} {d : PyData} (h : Lay n d) : PyData.eqv d d = true := SeqAt.eqv_refl d h.1

/-! ### strict order of lists of texts, and equal lists -/
def Asc (l : List Str) : Prop := l.Pairwise fun x y => x.cps.toList < y.cps.toList
theorem asc_of : ∀ {l : List Str}, sortedS l = true → l.Nodup → Asc l := by
  intro l h nd
  have key : ∀ (d i : Nat) (x y : Str), l[i]? = some x → l[i + (d + 1)]? = some y → x.cps.toList < y.cps.toList := by
    intro d
    induction d with
    | zero => exact fun i x y h1 h2 => sorted_at h nd h1 h2
    | succ d ih =>
      intro i x y h1 h2
      have hl : i + (d + 1) < l.length := by
        have := (List.getElem?_eq_some_iff.mp h2).1
        omega
      have h3 : l[i + (d + 1)]? = some l[i + (d + 1)] := List.getElem?_eq_getElem hl
      exact List.lt_trans (ih i x _ h1 h3) (sorted_at h nd h3 h2)
  refine List.pairwise_iff_getElem.mpr fun i j hi hj hij => ?_
  exact key (j - i - 1) i _ _ (List.getElem?_eq_getElem hi) (by rw [show i + (j - i - 1 + 1) = j by omega]; exact List.getElem?_eq_getElem hj)
theorem asc_nodup {l : List Str} (h : Asc l) : l.Nodup := List.Pairwise.imp (fun {x y} hxy e => by
  rw [e] at hxy
  exact List.lt_irrefl _ hxy) h
theorem asc_eq : ∀ {l m : List Str}, Asc l → Asc m → (∀ x, x ∈ l ↔ x ∈ m) → l = m
  | [], [], _, _, _ => rfl
  | [], y :: m, _, _, h => absurd ((h y).mpr List.mem_cons_self) (by simp)
  | x :: l, [], _, _, h => absurd ((h x).mp List.mem_cons_self) (by simp)
  | x :: l, y :: m, h1, h2, h => by
    obtain ⟨a1, a2⟩ := List.pairwise_cons.mp h1
    obtain ⟨b1, b2⟩ := List.pairwise_cons.mp h2
    have e : x = y := by
      rcases List.mem_cons.mp ((h x).mp List.mem_cons_self) with e | e
      · exact e
      · rcases List.mem_cons.mp ((h y).mpr List.mem_cons_self) with e' | e'
        · exact e'.symm
        · exact absurd (List.lt_trans (a1 y e') (b1 x e)) (List.lt_irrefl _)
    subst e
    have nl : x ∉ l := fun z => List.lt_irrefl _ (a1 x z)
    have nm : x ∉ m := fun z => List.lt_irrefl _ (b1 x z)
    rw [asc_eq a2 b2 fun z => ⟨fun hz => (List.mem_cons.mp ((h z).mp (List.mem_cons_of_mem _ hz))).resolve_left fun e => nl (e ▸ hz), fun hz => (List.mem_cons.mp ((h z).mpr (List.mem_cons_of_mem _ hz))).resolve_left fun e => nm (e ▸ hz)⟩]

/-! ### sorted(xs), xs tuples of ints of one length: some order -/
def rSortRows (K : PySem.W.Frag) : List V → Hp → VK → Prop := fun vs H Q => ∃ (a : Addr) (xs : List V) (d : Nat) (B : Int), vs = [V.ref a] ∧ SqL K H a xs ∧ xs.length < 64 ∧ (∀ x ∈ xs, ∃ ns, TupI K H x ns ∧ ns.length = d ∧ TS.Bd B ns) ∧ (d = 0 → xs.length ≤ 1) ∧
  ∀ (ys : List V) (p : Addr), ys.Perm xs → H p = none → Q (.ref p) (upd H p (.lst ys))
theorem cr_sortRows {X : Cx} : CallR X (.builtin "sorted") (rSortRows X.K) := by
  intro pins s σ H vs us Q I r h
  obtain ⟨a, xs, d, B, rfl, hs, h64, hx, h1, q⟩ := h
  by_cases hd : 1 ≤ d
  · exact cr_sortT hd pins s σ H _ us Q I r ⟨a, xs, rfl, hs, h64, hx, fun ys p pm _ n => q ys p pm n⟩
  · have hl1 : xs.length ≤ 1 := h1 (by omega)
    obtain ⟨its, rv, hl, hz⟩ := I.list hs
    have hlen := rv.length
    rw [Vals.ref1 r]
    refine Srt.sorted_any hl.isList (by rw [← hlen]; exact hz) (fun h2 => absurd h2 (by omega)) fun out hp => ?_
    have e : out = its := by
      match its, hlen, hp with
      | [], _, hp => exact hp.eq_nil
      | [v], _, hp => exact List.perm_singleton.mp hp
      | _ :: _ :: _, hlen, _ =>
        simp only [List.length_cons] at hlen
        omega
    subst e
    obtain ⟨ep, he'⟩ := PyProof.Rows.sortedAll_at s.heap out out.toArray
    exact ⟨.ref _, upd H (s.heap.objs.size + 1) (.lst xs), I.laid (t' := s.toks) (fun _ _ => PyProof.Rows.sortedAll_old) (Nat.le_succ _) ⟨hz, out, ep, rv, by simpa using he'⟩, rfl, q xs _ (List.Perm.refl _) (I.hok.fresh (Nat.le_succ _))⟩

/-! ### the room of a call for a comparison of data -/
theorem room {k : Nat} {A : Around} (r : Room k A) : A.units + 65 < cLine := by
  have := r.un
  omega

/-! ### a list or a tuple of data -/
theorem dp_seq {K : PySem.W.Frag} {H : Hp} {v : V} {ds : List PyData} (h : Dp K H v (.list ds) ∨ Dp K H v (.tuple ds)) : ∃ a xs, v = .ref a ∧ DpAll K H xs ds ∧ (SqL K H a xs ∨ SqT K H a xs) := by
  rcases h with h | h
  · obtain ⟨a, xs, rfl, s, t⟩ := dp_lst h
    exact ⟨a, xs, rfl, t, .inl s⟩
  · obtain ⟨a, xs, rfl, s, t⟩ := dp_tup h
    exact ⟨a, xs, rfl, t, .inr s⟩

/-! ### name = {k: v for ..} -/
section
variable {X : Cx}
theorem ps_setDc {i : Nat} {y : Str} {py : Pos} {kx vx tg iter : Expr} {ifs : List Expr} {scope : Scope} {own : List (Str × Nat)} {pos spos : Pos} {wi : TI} {g : TG} {tt : TT} {tk tv : TE} (hc : X.calm = true) (hN : X.N.Nodup) (hy : X.N[i]? = some y) (hyl : X.env.scope.names.lookup y = some .local)
    (hsw : swapsWith (.DictComp kx vx [⟨tg, iter, ifs, 0⟩] scope pos) (some (.Name y py)) spos.line X.env = pure true) (hi : PI X tg iter wi) (ok : BlkOk X.N X.env.scope scope own)
    (hg : ∀ (s : Shared) (H : Hp) (C : Addr) (cl : List (Str × Addr)) (fp : List Addr), PG (X.blk s H scope (compEnvC scope cl C X.env) fp) tg g) (ht : ∀ (s : Shared) (H : Hp) (C : Addr) (cl : List (Str × Addr)) (fp : List Addr), PTs (X.blk s H scope (compEnvC scope cl C X.env) fp) ifs tt)
    (hk : ∀ (s : Shared) (H : Hp) (C : Addr) (cl : List (Str × Addr)) (fp : List Addr), PE (X.blk s H scope (compEnvC scope cl C X.env) fp) kx tk)
    (he : ∀ (s : Shared) (H : Hp) (C : Addr) (cl : List (Str × Addr)) (fp : List Addr), PE (X.blk s H scope (compEnvC scope cl C X.env) fp) vx tv) (hs : ∀ x, foldedSetIterable iter X.env x = pure x := by intro _; rfl) :
    PS X (.Assign [.Name y py] (.DictComp kx vx [⟨tg, iter, ifs, 0⟩] scope pos) spos) (tAsg (tDc wi g tt tk tv (own.map (·.2))) (gName i)) := by
  refine ⟨fun pins s σ H D I h => ?_⟩
  rw [exec_Assign_Name_used _ _ _ _ hsw]
  refine wpAny_bind (wpAny_standAt (wpAny_bind ?_))
  show wpAny _ X.A (do let _ ← comprehension (.DictComp kx vx [⟨tg, iter, ifs, 0⟩] scope pos) scope X.env _ newDict false (eval iter X.env) (some (assign (.Name y py) X.env))) _ _ s
  have h : tDc wi g tt tk tv (own.map (·.2)) σ H (fun x H1 => gName i x σ H1 D.nx) := h
  refine wpAny_bind (thn (dc_core (Qf := fun _ s' => SP X pins D .next s') hc hN I hi ok hg ht hk he hs h fun L C s' m H' I' q hn f => ?_) fun _ s' hq => wpAny_pure (wpAny_pure hq))
  show wpAny _ _ (assign (.Name y py) X.env (.ref L)) _ _ _
  refine wpAny_assign_Name (store_ok2 (v := V.ref L) I' hN hy (.inl hyl) rfl (fun s2 I2 ⟨a, sb, ha⟩ => ?_) (.inr hyl))
  obtain ⟨f0, f1, f2, f3, f4, f5⟩ := f
  have haC : C ≠ a := by
    rcases ha with z | z
    · rw [z]; exact f1
    · exact fun e => f4 y a z e.symm
  refine ⟨m, hn.sameBut sb haC, fun h3 sb3 => ?_⟩
  exact ⟨_, H', I2.turned (t' := s2.toks) (fun b o hb e => (sb3.2 b hb).trans e) f0 f1 f3 f4 f5, q⟩
theorem sw_trueD {kx vx : Expr} {gs : List Comprehension} {scope : Scope} {pos py : Pos} {y : Str} {l : Nat} {env : Env} (hk : env.scope.kind = .function) (hy : env.scope.names.lookup y = some .local) (hl : (py.line == pos.line) = true)
    (ha : (scope.names.any fun (n, k) => n == y && (k == .local || k == .cell)) = false) : swapsWith (.DictComp kx vx gs scope pos) (some (.Name y py)) l env = pure true := by
  have ky : env.kindOf y = some .local := hy
  have hb : env.blockKind = .function := by unfold Env.blockKind; rw [hk]; rfl
  unfold swapsWith
  simp only [hb, ky, ha, Expr.pos, hl]
  rfl
end
end Dx
/-! Own errors with one field, whose __init__ says super().__init__(f'..'). -/
namespace Er
open PySem PySem.Spec PyProof.Rows L2 Bx TL Dx Sup NdefX
/-- __init__(self, y): the error at a gets a dict with f = y -/
def spErr (ok : V → Prop) (C : Addr) (f : Str) : Sp := fun vs H Q _ => ∃ (a : Addr) (v : V), vs = [.ref a, v] ∧ ok v ∧ H a = some (exo a C none) ∧
  ∀ (d : Addr) (H' : Hp), (∀ b o, b ≠ a → H b = some o → H' b = some o) → H d = none → d ≠ a → H' a = some (exo a C (some d)) → H' d = some (exd d [(f, v)]) → Q .non H'
/-- the class at C, named x: an own error over ValueError with one field -/
structure Err (P : Program) (w : World) (K : PySem.W.Frag) (mg : Str → Option Value) (base : Heap) (x : Str) (C : Addr) (f y : Str) (ok : V → Prop) (k : Nat) : Prop where
  init : ∃ (fI : Addr) (fd : FuncData), PySem.W.findIn K (.ref C) "__init__" = some (some (.ref fI)) ∧ PySem.W.typeIn K (.ref fI) = some (.type "function") ∧ FnOk P w K mg base CX0 k fI fd ["self", y] (spErr ok C f) ∧ Binds K fd ["self", y] []
  exc : OexC K C
  g : mg x = some (.ref C)
  te : PySem.W.exmOne K (.ref C) (.ref C) = some true
  xf : XfC K C
  no : PySem.W.findIn K (.ref C) f = some none
section
variable {X : Cx} {x : Str} {C : Addr} {f y : Str} {ok : V → Prop} {k : Nat} {e : Expr} {te : TE} {p pos pos' : Pos} {W : WX}
theorem ps_raiseE (c : Err X.prog X.w X.K X.mg X.base x C f y ok k) (hc : X.calm = true) (tk : Takes X W) (hr : Room (k + 1) X.A) (he : PE X e te) (hg : Gl X x := by rfl) (hdb : (x == ("__debug__" : Str)) = false := by decide)
    (hst : starEach [e] X.env = (false, eval e X.env) :: starEach [] X.env := by rfl) (hpl : (backTo pos (starEach [] X.env)).any (·.1) = false := by rfl) :
    PS X (.Raise (some (.Call (.Name x p) [e] [] pos)) none pos') (fun _ σ H => te σ H fun v H1 => ok v ∧ ∀ d H3, Same H1 H3 → H1 d = none → H3 d = some (.xd [(f, v)]) → W (.ref C) (some d) σ H3) := by
  obtain ⟨fI, fd, iC, tI, F1, hb⟩ := c.init
  have he2 : PE X e (fun σ H Q => ∃ R : VK, te σ H R ∧ ∀ v H1, R v H1 → Q v H1) := ⟨fun pins s σ H Q I ⟨R, h, hR⟩ => thn (he.run pins s σ H R I h) fun v s1 ⟨x, H1, I1, r, q⟩ => ⟨x, H1, I1, r, hR _ _ q⟩⟩
  have z := ps_raise (pos := pos') hc tk (pmk_oex (pos := pos) (p := p) (dvs := []) c.exc iC tI F1 hr hb .nil (pass0) hg c.g (pa_cons he2 pa_nil hst) hdb hst hpl)
  refine ⟨fun pins s σ H D I h => z.run pins s σ H D I ?_⟩
  refine ⟨_, h, fun v H1 hq => ?_⟩
  obtain ⟨hok, hw⟩ := hq
  refine ⟨by show 1 ≤ 1000; decide, fun a na => ⟨a, v, rfl, hok, upd_same, fun d H' keep nd da ea ed => ?_⟩⟩
  have nd1 : H1 d = none := by
    rw [upd_ne da] at nd
    exact nd
  refine ⟨rfl, d, _, ea, ed, nd1, hw d _ (fun b o e => ?_) nd1 upd_same⟩
  have ba : b ≠ a := ne_of_none e na
  rw [upd_ne (ne_of_none e nd1), del_ne ba]
  exact keep b o ba (by rw [upd_ne ba]; exact e)
end
/-! ### isinstance of an error with a dict -/
def rIsD (K : PySem.W.Frag) (a : Addr) (cls : Value) (d : Option Addr) : List V → Hp → VK → Prop := fun xs H Q => ∃ (D dd : Addr) (c : V) (cv : Value) (b : Bool) (fs : List (Str × V)), xs = [.ref a, c] ∧ cls = .ref D ∧ d = some dd ∧ (PySem.W.clsIn K D).isSome = true ∧ ExcC K D ∧
  H dd = some (.xd fs) ∧ (∀ u, RelV c u → u = cv) ∧ PySem.W.kitOne K (.ref D) cv = some b ∧ Q (.bl b) H
theorem call_isD {X : Cx} {a : Addr} {cls : Value} {d : Option Addr} {oe : Obj} {pn : List (Addr × Obj)} (hz : Zc cls d oe) (hf : ∃ vs, oe.data = .fields vs) : CallR (X.suite a ((a, oe) :: pn)) (.builtin "isinstance") (rIsD X.K a cls d) := by
  intro pins s σ H xs us Q I r h
  obtain ⟨D, dd, c, cv, b, fs, rfl, rfl, rfl, hcl, C, hdd, hcv, e, q⟩ := h
  cases r with
  | cons rx rr =>
    cases rr with
    | cons rt rr =>
      cases rr
      cases rx
      have ec := hcv _ rt
      subst ec
      obtain ⟨hget, _⟩ := I.pin (a, oe) (List.mem_append.mpr (.inl List.mem_cons_self))
      obtain ⟨vs, hv⟩ := hf
      obtain ⟨oD, hD⟩ : ∃ o, s.heap.get? dd = some o := by
        obtain ⟨mA, hn, _⟩ := I.hok dd _ hdd
        obtain ⟨o, _, _, e, _⟩ := hn
        exact ⟨o, e⟩
      have J : PySem.W.InstAt s.heap a oe D (some oD) := by
        obtain ⟨oc, od, oda, osl⟩ := oe
        obtain ⟨h1, h2⟩ := hz
        dsimp only at h1 h2 hv
        subst h1 h2 hv
        exact ⟨hget, rfl, rfl, hD⟩
      exact PySem.W.kia_one (PySem.W.kitx_exc hcl C.hg C.hk C.hs C.ha C.hn C.ht C.hm) I.kIn J e (fun z => nomatch z) fun tk => ⟨.bl b, H, I.kept (t' := tk) fun _ _ z => z, rfl, q⟩
/-! ### calls of defs that may raise -/
section
variable {X : Cx} {CX : CXT} {k n : Nat} {f : Addr} {fd : FuncData} {ps ks : List Str} {sp : Sp} {E : L2.St → XK} {x : Str} {p pos : Pos} {e : Expr} {es : List Expr} {kws : List Keyword} {t tk : TA} {g : List Value → List Value → List Value} {gV : List V → List V → List V}
theorem run_fnNS {pins : List (Addr × Obj)} {σ : L2.St} {H : Hp} {s : Shared} {Q : VK} {us ws : List Value} {vs zs : List V} (F : FnOk X.prog X.w X.K X.mg X.base CX k f fd ps sp) (hr : Room k X.A) (hb : KBn X.K fd ps n ks g gV) (hx : PassesAt CX X σ (E σ))
    (I : Inv X pins σ H s) (r : Vals vs us) (rz : Vals zs ws) (l1 : vs.length = n) (l2 : zs.length = ks.length) (h : sp (gV vs zs) H Q (E σ)) : wpAny (model X.prog X.w) X.A (call (.ref f) us (ks.zip ws)) (EP X pins σ Q) X.xe s := by
  refine wpAny_call (codeAny_mono (F.run X.A X.stack s H ⟨us, ks.zip ws⟩ (g us ws) (gV vs zs) Q (E σ) hr I.env0 (hb.to s us ws I.kIn (by rw [← r.length]; exact l1) (by rw [← rz.length]; exact l2)) (hb.rel r rz) h) fun r s' hq => ?_)
  cases r with
  | error e => exact hx pins H s e s' I hq
  | ok fl =>
    cases fl with
    | ret u => exact I.after hq
    | next => exact False.elim hq
    | brk => exact False.elim hq
    | cont => exact False.elim hq
def tCallNS (n m : Nat) (sp : Sp) (gV : List V → List V → List V) (E : L2.St → XK) (t tk : TA) : TE := fun σ H Q => t σ H fun vs H1 => tk σ H1 fun zs H2 => vs.length = n ∧ zs.length = m ∧ sp (gV vs zs) H2 Q (E σ)
theorem pe_callNS (F : FnOk X.prog X.w X.K X.mg X.base CX k f fd ps sp) (hr : Room k X.A) (hg : Gl X x) (hm : X.mg x = some (.ref f)) (hk : PySem.W.keepIn X.K (.ref f) = true) (hb : KBn X.K fd ps n ks g gV) (hx : ∀ σ, PassesAt CX X σ (E σ))
    (ha : PA X (e :: es) t) (hkw : PK X kws tk) (hall : (backToKw pos (keywordEach kws X.env)).all (·.1.isSome) = true := by rfl) (hks : (backToKw pos (keywordEach kws X.env)).filterMap (·.1) = ks := by rfl)
    (hdb : (x == ("__debug__" : Str)) = false := by decide) (he : starEach (e :: es) X.env = (false, eval e X.env) :: starEach es X.env := by rfl)
    (hpl : ((backTo pos (starEach (e :: es) X.env)).any (·.1) || (backToKw pos (keywordEach kws X.env)).any (·.1.isNone)) = false := by rfl) :
    PE X (.Call (.Name x p) (e :: es) kws pos) (tCallNS n ks.length sp gV E t tk) := by
  refine ⟨fun pins s σ H Q I h => ?_⟩
  refine wpAny_Call_Name_kw (ld_glob I hg hm ?_ hdb)
  refine PySem.W.callWith_KW (h₀ := X.base) I.ok.mod.kin hk hall (thn (ha.run pos pins s σ H _ I h) fun us s1 ⟨vs, H1, I1, r, q⟩ => ?_) hpl he
  refine thn (hkw.run pos pins s1 σ H1 _ I1 q) fun ws s2 ⟨zs, H2, I2, rz, l1, l2, q2⟩ => ⟨I2.kIn, ?_⟩
  rw [hks]
  exact run_fnNS F hr hb (hx σ) I2 r rz l1 l2 q2
/-- the module's name x holds a def of one parameter and a keyword-only one with a default; it may raise -/
structure CalX (P : Program) (w : World) (K : PySem.W.Frag) (mg : Str → Option Value) (base : Heap) (x y : Str) (k : Nat) (ps : List Str) (dv : V) (sp : Sp) : Prop where
  ex : ∃ (f : Addr) (fd : FuncData), FnOk P w K mg base (L2.CX P w) k f fd ps sp ∧ mg x = some (.ref f) ∧ PySem.W.keepIn K (.ref f) = true ∧ (∃ ds, Vals [dv] ds ∧ Binds K fd ps ds) ∧ KBn K fd ps 1 [y] (fun us ws => us ++ ws) (fun vs zs => vs ++ zs)
variable {y : Str} {dv : V} {W : WX} {tk1 : TA}
def tCalX (sp : Sp) (dv : V) (W : WX) (t : TA) : TE := fun σ H Q => t σ H fun vs H1 => sp (vs ++ [dv]) H1 Q (fun cls d H' => W cls d σ H')
def tCalXK (sp : Sp) (W : WX) (t tk : TA) : TE := fun σ H Q => t σ H fun vs H1 => tk σ H1 fun zs H2 => vs.length = 1 ∧ zs.length = 1 ∧ sp (vs ++ zs) H2 Q (fun cls d H' => W cls d σ H')
theorem pe_calX (c : CalX X.prog X.w X.K X.mg X.base x y k ps dv sp) (tkW : Takes X W) (hr : Room k X.A) (ha : PA X (e :: es) t) (hg : Gl X x := by rfl) (hdb : (x == ("__debug__" : Str)) = false := by decide)
    (he : starEach (e :: es) X.env = (false, eval e X.env) :: starEach es X.env := by rfl) (hpl : (backTo pos (starEach es X.env)).any (·.1) = false := by rfl) : PE X (.Call (.Name x p) (e :: es) [] pos) (tCalX sp dv W t) := by
  obtain ⟨f, fd, ok, hm, kp, ⟨ds, hv, hb⟩, _⟩ := c.ex
  have z := pe_callSD (E := fun σ cls d H' => W cls d σ H') ok hr hg hm kp hb hv (fun σ => passAt tkW σ) ha hdb he hpl (p := p)
  exact ⟨fun pins s σ H Q I h => z.run pins s σ H Q I h⟩
theorem pe_calXK (c : CalX X.prog X.w X.K X.mg X.base x y k ps dv sp) (tkW : Takes X W) (hr : Room k X.A) (ha : PA X (e :: es) t) (hkw : PK X kws tk1) (hg : Gl X x := by rfl) (hall : (backToKw pos (keywordEach kws X.env)).all (·.1.isSome) = true := by rfl) (hks : (backToKw pos (keywordEach kws X.env)).filterMap (·.1) = [y] := by rfl)
    (hdb : (x == ("__debug__" : Str)) = false := by decide) (he : starEach (e :: es) X.env = (false, eval e X.env) :: starEach es X.env := by rfl)
    (hpl : ((backTo pos (starEach (e :: es) X.env)).any (·.1) || (backToKw pos (keywordEach kws X.env)).any (·.1.isNone)) = false := by rfl) : PE X (.Call (.Name x p) (e :: es) kws pos) (tCalXK sp W t tk1) := by
  obtain ⟨f, fd, ok, hm, kp, _, hb⟩ := c.ex
  have z := pe_callNS (E := fun σ cls d H' => W cls d σ H') ok hr hg hm kp hb (fun σ => passAt tkW σ) ha hkw hall hks hdb he hpl (p := p)
  exact ⟨fun pins s σ H Q I h => z.run pins s σ H Q I h⟩
end
end Er
/-! zip of two tuples, walked; great products and quotients; xs[::-1]. -/
namespace Zx
open PySem PySem.Spec PyProof.Rows L2 Bx TL Dx
theorem walk_zipT {K : PySem.W.Frag} {a b : Addr} {xs ys : List V} {n : Nat} (hn : n = min xs.length ys.length) : Walk (RZ.ItzT K a b) n (fun H => SqT K H a xs ∧ SqT K H b ys) (YPair (fun i => xs[i]?) (fun i => ys[i]?)) := by
  subst hn
  refine ⟨fun i _ hi q => ?_, fun _ q => ⟨xs, ys, q.1, q.2, by omega⟩, fun i H v H' _ q y => ?_⟩
  · have h1 : i < xs.length := by omega
    have h2 : i < ys.length := by omega
    exact ⟨xs, ys, xs[i], ys[i], q.1, q.2, by simp [h1], by simp [h2]⟩
  · obtain ⟨T, x, z, h1, h2, h3, h4, h5⟩ := y
    exact ⟨T, x, z, h1, h2, h3, h4 xs q.1, h5 ys q.2⟩
end Zx
namespace Zx
open PySem PySem.Spec PyProof.Rows L2
theorem ne_t {p : Prop} [Decidable p] (h : (!decide p) = true) : ¬ p := by simpa using h
theorem ne_f {p : Prop} [Decidable p] (h : ¬ (!decide p) = true) : p := by simpa using h
theorem int_t {x y : Int} (h : decide (V.int x = V.int y) = true) : x = y := V.int.inj (of_decide_eq_true h)
theorem int_f {x y : Int} (h : ¬ decide (V.int x = V.int y) = true) : x ≠ y := fun e => h (decide_eq_true (congrArg V.int e))
theorem int_nt {x y : Int} (h : (!decide (V.int x = V.int y)) = true) : x ≠ y := fun e => ne_t h (congrArg V.int e)
theorem int_nf {x y : Int} (h : ¬ (!decide (V.int x = V.int y)) = true) : x = y := V.int.inj (ne_f h)
end Zx
namespace Zx
open PySem PySem.Spec PyProof.Rows L2 Bx
section
variable {K : PySem.W.Frag}
theorem ty_tup {H : Hp} {a : Addr} {xs : List V} (h : SqT K H a xs) : TyX K H (.ref a) (.type "tuple") := by
  rcases h with (h | ⟨o, h⟩) | h
  · exact .base (.tup h)
  · exact .fTuple h
  · obtain ⟨o, its, n, h1, h2, _⟩ := h
    exact .kTuple h1 h2
def spRight : Sp := fun vs H Q _ => ∃ a : Addr, vs = [.ref a] ∧ Src H a ∧ ∀ H', SameBut a H H' → Q (.bl true) H'
end
end Zx
namespace Zx
open PySem PySem.Spec PyProof.Rows L2 Bx
theorem cont_of {α : Type} {R X : α → Prop} {G : Prop} (first : (∀ a, R a → X a) → G) (rest : ∀ a, R a → X a) : G := first rest
theorem cont_of2 {α β : Type} {R X : α → β → Prop} {G : Prop} (first : (∀ a b, R a b → X a b) → G) (rest : ∀ a b, R a b → X a b) : G := first rest
theorem but_new {a : Addr} {H H3 : Hp} {p : Addr} {o : HO} (h : H p = none) (s : SameBut a (upd H p o) H3) : SameBut a H H3 := fun b x n e => s b x n (by rw [upd_ne (ne_of_none e h)]; exact e)
theorem but_at {a : Addr} {H H2 : Hp} {p : Addr} {o : HO} (h : H p = none) (s : SameBut a H H2) : SameBut a H (upd H2 p o) := fun b x n e => by
  rw [upd_ne (ne_of_none e h)]
  exact s b x n e
theorem src_same {a : Addr} {H1 H2 : Hp} (s : Src H1 a) (t : Same H1 H2) : Src H2 a := by
  obtain ⟨n, c, h⟩ := s
  exact ⟨n, c, t _ _ h⟩
theorem src_ne {a o : Addr} {H : Hp} (s : Src H a) (h : H o = none) : a ≠ o := by
  obtain ⟨n, c, z⟩ := s
  exact ne_of_none z h
theorem but_free {a o : Addr} {H H1 : Hp} (s : SameBut a H H1) (n : o ≠ a) (h : H1 o = none) : H o = none := by
  cases e : H o with
  | none => rfl
  | some x =>
    rw [s o x n e] at h
    cases h
theorem src_upd {a o : Addr} {H : Hp} {u : HO} (s : Src H a) (n : a ≠ o) : Src (upd H o u) a := by
  obtain ⟨x, c, h⟩ := s
  exact ⟨x, c, by rw [upd_ne n]; exact h⟩

end Zx
namespace Zx
open PySem PySem.Spec PyProof.Rows L2 Bx
theorem set_same {σ : L2.St} {i : Nat} {v : V} (h : σ[i]? = some (some v)) : σ.set i (some v) = σ := by
  obtain ⟨hi, e⟩ := List.getElem?_eq_some_iff.mp h
  rw [← e]
  exact List.set_getElem_self hi
/-- if c: name = e -/
theorem if_asg {c : Prop} [Decidable c] {te : TE} {i : Nat} {D : Ends} {σ : L2.St} {H : Hp} {old : V} (R : V → Hp → Prop) (hi : σ[i]? = some (some old))
    (h1 : c → ∀ Z : V → Hp → Prop, (∀ v H', R v H' → Z v H') → te σ H Z) (h2 : ¬ c → R old H) (rest : ∀ v H', R v H' → D.nx (σ.set i (some v)) H') : if c then tAsg te (gName i) D σ H else tNext D σ H := by
  split
  · rename_i h
    exact h1 h (fun v H' => D.nx (σ.set i (some v)) H') rest
  · rename_i h
    have := rest old H (h2 h)
    rw [set_same hi] at this
    exact this
/-- if c: name = e else: name = f -/
theorem if_asg2 {c : Prop} [Decidable c] {te tf : TE} {i : Nat} {D : Ends} {σ : L2.St} {H : Hp} (R : V → Hp → Prop)
    (h1 : c → ∀ Z : V → Hp → Prop, (∀ v H', R v H' → Z v H') → te σ H Z) (h2 : ¬ c → ∀ Z : V → Hp → Prop, (∀ v H', R v H' → Z v H') → tf σ H Z) (rest : ∀ v H', R v H' → D.nx (σ.set i (some v)) H') : if c then tAsg te (gName i) D σ H else tAsg tf (gName i) D σ H := by
  split
  · rename_i h
    exact h1 h (fun v H' => D.nx (σ.set i (some v)) H') rest
  · rename_i h
    exact h2 h (fun v H' => D.nx (σ.set i (some v)) H') rest
end Zx
/-! Own classes: methods that operators and built-ins call. -/
namespace Ow
open PySem PySem.Spec PyProof.Rows L2 Bx TL Dx Zx
/-- the class at C (or one above it) has the method m, a def that keeps sp -/
structure OwM (P : Program) (w : World) (K : PySem.W.Frag) (mg : Str → Option Value) (base : Heap) (CX : CXT) (C : Addr) (m : Str) (k : Nat) (ps : List Str) (sp : Sp) : Prop where
  ex : ∃ (f : Addr) (fd : FuncData), FnOk P w K mg base CX k f fd ps sp ∧ PySem.W.findIn K (.ref C) m = some (some (.ref f)) ∧ PySem.W.isFn K (.ref f) = true ∧ PySem.W.keepIn K (.ref f) = true ∧ Binds K fd ps []
section
variable {X : Cx} {pins : List (Addr × Obj)} {σ : L2.St} {H : Hp} {s : Shared} {C a dx : Addr} {fs : List (Str × V)}
/-- an instance as the library's operators see it -/
theorem inst_of (I : Inv X pins σ H s) (e : H a = some (.ins C dx fs)) : ∃ od, PySem.W.InstAt s.heap a (PySem.W.instObj C dx) C (some od) := by
  obtain ⟨mA, J, _⟩ := ins_get I.hok e
  obtain ⟨od, J2, _⟩ := J.look
  exact ⟨od, J2⟩
/-- a def is called, somewhere within -/
theorem call_at {CX : CXT} {k : Nat} {f : Addr} {fd : FuncData} {ps : List Str} {sp : Sp} {A1 : Around} {us : List Value} {vs : List V} {Q : VK} {E : XK} {E1 : Value → Shared → Prop} (sb : Sub X k A1) (ok : FnOk X.prog X.w X.K X.mg X.base CX k f fd ps sp) (b : Binds X.K fd ps [])
    (I : Inv X pins σ H s) (r : Vals vs us) (hsp : sp vs H Q E) (hx : ∀ e s', CX X.stack H s E e s' → E1 e s') : wpAny (model X.prog X.w) A1 (call (.ref f) us) (EP X pins σ Q) E1 s := by
  have z0 := I.env0
  have e0 : Env0 X.prog X.w X.K X.mg X.base A1 X.stack s H := ⟨by rw [sb.fr]; exact z0.frames, z0.mod, z0.bs, z0.bsz, z0.funs, z0.frf, z0.hok, z0.bare⟩
  have n1 := ok.len _ _ _ _ hsp
  have n2 : us.length = ps.length := by rw [← r.length]; exact n1
  have bb := b s us I.kIn (by rw [List.append_nil]; exact n2)
  rw [List.append_nil] at bb
  refine wpAny_call (codeAny_mono (ok.run A1 X.stack s H ⟨us, []⟩ us vs Q E sb.room e0 bb r hsp) fun res s' back => ?_)
  match res, back with
  | .error e, back => exact hx e s' back
  | .ok (.ret u), back => exact I.after back
  | .ok .next, back => exact back.elim
  | .ok .brk, back => exact back.elim
  | .ok .cont, back => exact back.elim
theorem sub_self {n : Nat} (hr : Room n X.A) : Sub X n X.A := ⟨hr, rfl⟩
/-- len(o) -/
def rLenO (C : Addr) (sp : Sp) : List V → Hp → VK → Prop := fun xs H Q => ∃ a dx fs, xs = [.ref a] ∧ H a = some (.ins C dx fs) ∧ sp [.ref a] H (fun v H' => ∃ n : Nat, v = .int (n : Int) ∧ n < 2 ^ 62 ∧ Q (.int (n : Int)) H') E0
theorem call_lenO {k : Nat} {ps : List Str} {sp : Sp} (c : OwM X.prog X.w X.K X.mg X.base CX0 C "__len__" k ps sp) (hr : Room (k + 1) X.A) : CallR X (.builtin "len") (rLenO C sp) := by
  intro pins s σ H xs us Q I r h
  obtain ⟨a, dx, fs, rfl, ha, hsp⟩ := h
  obtain ⟨f, fd, ok, hs, hf, _, hb⟩ := c.ex
  obtain ⟨od, J⟩ := inst_of I ha
  obtain ⟨m, hF⟩ := I.fr
  have r0 := r
  cases r with
  | cons r1 r2 =>
    cases r2
    cases r1
    refine PySem.W.len_K hF I.ok.mod.kin J hs hf ?_
    refine wpAny_mono (call_at ((sub_self hr).in1) ok hb I r0 hsp (fun e s' z => z.elim)) (fun u s' hu => ?_) (fun _ _ z => z)
    obtain ⟨v, H', I', rv, n, rfl, hn, hq⟩ := hu
    obtain ⟨t, rfl⟩ := rv
    exact ⟨⟨by omega, by omega⟩, .int n, H', I'.tok _, ⟨_, rfl⟩, hq⟩
/-- x in o, x not in o -/
def rInO (C : Addr) (sp : Sp) (neg : Bool) : V → V → Hp → VK → Prop := fun x y H Q => ∃ a dx fs, y = .ref a ∧ H a = some (.ins C dx fs) ∧ sp [.ref a, x] H (fun v H' => ∃ b : Bool, v = .bl b ∧ Q (.bl (b != neg)) H') E0
theorem truth_bl {M : Model} {A : Around} {E : Value → Shared → Prop} {s : Shared} {b : Bool} {Q : Bool → Shared → Prop} (h : Q b s) : wpAny M A (truthy (.bool b)) Q E s := by
  unfold truthy
  exact wpAny_pure h
theorem op_inO {k : Nat} {ps : List Str} {sp : Sp} (c : OwM X.prog X.w X.K X.mg X.base CX0 C "__contains__" k ps sp) (hr : Room k X.A) : OpR X (compareOp .In) (rInO C sp false) := by
  intro pins s σ H x y u v Q I rx ry h
  obtain ⟨a, dx, fs, rfl, ha, hsp⟩ := h
  obtain ⟨f, fd, ok, hs, hf, _, hb⟩ := c.ex
  obtain ⟨od, J⟩ := inst_of I ha
  obtain ⟨m, hF⟩ := I.fr
  cases ry
  refine PySem.W.in_K hF I.ok.mod.kin J hs hf ?_
  refine wpAny_mono (call_at (sub_self hr) ok hb I (vs := [.ref a, x]) (.cons rfl (.cons rx .nil)) hsp (fun e s' z => z.elim)) (fun u s' hu => ?_) (fun _ _ z => z)
  obtain ⟨v, H', I', rv, b, rfl, hq⟩ := hu
  cases rv
  refine truth_bl ⟨.bl b, H', I', rfl, ?_⟩
  rw [show (b != false) = b by cases b <;> rfl] at hq
  exact hq
theorem op_notInO {k : Nat} {ps : List Str} {sp : Sp} (c : OwM X.prog X.w X.K X.mg X.base CX0 C "__contains__" k ps sp) (hr : Room k X.A) : OpR X (compareOp .NotIn) (rInO C sp true) := by
  intro pins s σ H x y u v Q I rx ry h
  obtain ⟨a, dx, fs, rfl, ha, hsp⟩ := h
  obtain ⟨f, fd, ok, hs, hf, _, hb⟩ := c.ex
  obtain ⟨od, J⟩ := inst_of I ha
  obtain ⟨m, hF⟩ := I.fr
  cases ry
  refine PySem.W.notIn_K hF I.ok.mod.kin J hs hf ?_
  refine wpAny_mono (call_at (sub_self hr) ok hb I (vs := [.ref a, x]) (.cons rfl (.cons rx .nil)) hsp (fun e s' z => z.elim)) (fun u s' hu => ?_) (fun _ _ z => z)
  obtain ⟨v, H', I', rv, b, rfl, hq⟩ := hu
  cases rv
  refine truth_bl ⟨.bl (!b), H', I', rfl, ?_⟩
  rw [show (b != true) = !b by cases b <;> rfl] at hq
  exact hq
end
end Ow
/-! Own classes: o[i], o op x, loops over o. -/
namespace Ow
open PySem PySem.Spec PyProof.Rows L2 Bx TL Dx Zx ItX
/-! ### o[i] -/
section
variable {X : Cx} {C : Addr} {CXc : CXT} {k : Nat} {ps : List Str} {sp : Sp} {W : WX} {a b : Expr} {ta tb : TE} {pos : Pos}
def tSubO (C : Addr) (sp : Sp) (W : WX) (ta tb : TE) : TE := fun σ H Q => ta σ H fun x H1 => tb σ H1 fun y H2 => ∃ p dx fs, x = .ref p ∧ H2 p = some (.ins C dx fs) ∧ sp [.ref p, y] H2 Q (fun cls d H' => W cls d σ H')
theorem pe_subO (c : OwM X.prog X.w X.K X.mg X.base CXc C "__getitem__" k ps sp) (fi : ∀ f, PySem.W.findIn X.K (.ref C) "__getitem__" = some (some (.ref f)) → PySem.W.fnIn X.K f = true) (hr : Room (k + 1) X.A) (hx : ∀ σ, PassesAt CXc X σ (fun cls d H' => W cls d σ H')) (ha : PE X a ta) (hb : PE X b tb)
    (hs : ∀ v u, subscripted b true v u = runValue (.builtin "lifetime.subscript" ⟨[v, u], []⟩) := by intro _ _; rfl) : PE X (.Subscript a b pos) (tSubO C sp W ta tb) := by
  refine ⟨fun pins s σ H Q I h => ?_⟩
  refine Subscript_ (binT ha hb I (R := fun x y H2 => ∃ p dx fs, x = .ref p ∧ H2 p = some (.ins C dx fs) ∧ sp [.ref p, y] H2 Q (fun cls d H' => W cls d σ H')) h fun v u s2 x y H2 I2 rx ry q => ?_)
  obtain ⟨p, dx, fs, rfl, hp, hsp⟩ := q
  obtain ⟨f, fd, ok, hfi, hf, _, hbd⟩ := c.ex
  obtain ⟨od, J⟩ := inst_of I2 hp
  obtain ⟨m, hF⟩ := I2.fr
  cases rx
  refine PySem.W.sub_K hF I2.ok.mod.kin J hfi (fi f hfi) hf ?_ (hs _ _)
  exact call_at ((sub_self hr).in1) ok hbd I2 (vs := [.ref p, y]) (.cons rfl (.cons ry .nil)) hsp (fun e s' z => hx σ pins H2 s2 e s' I2 z)
end
/-! ### o op x, x of a built-in type -/
/-- what the written part says of an operator of C with a second operand of the built-in type T -/
structure BinF (K : PySem.W.Frag) (C : Addr) (op : Operator) (T : String) : Prop where
  first : PySem.W.selfFirst K C = true
  refl : ∃ rc, PySem.W.findIn K (.ref C) (dunderR op.info.2) = some rc ∧ (rc = none ∨ ∃ g : Addr, rc = some (.ref g))
  t1 : ∃ fo, PySem.W.findIn K (.type T) (PySem.dunder op.info.2) = some fo
  t2 : ∃ ro, PySem.W.findIn K (.type T) (dunderR op.info.2) = some ro
  sub : PySem.W.subIn K (.type T) (.ref C) = some false
/-- the type of a value, looked at -/
def LkT (M : Model) (h : Heap) (v : Value) (T : String) : Prop := PySem.W.Looks M h (typeOf v) (.type T)
theorem bin_looks {prog : Program} {w : World} {A : Around} {E : Value → Shared → Prop} {s : Shared} {K : PySem.W.Frag} {x C f : Addr} {ox : Obj} {od : Option Obj} {T : String} {op : Operator} {b : Value} {Q : Value → Shared → Prop}
    (X : K.In s.heap) (I : PySem.W.InstAt s.heap x ox C od) (B : BinF K C op T) (hb : LkT (model prog w) s.heap b T) (hs : PySem.W.findIn K (.ref C) (PySem.dunder op.info.2) = some (some (.ref f))) (hf : PySem.W.isFn K (.ref f) = true)
    (h : wpAny (model prog w) A (call (.ref f) [.ref x, b]) (PySem.W.CmpBack Q) E s) : wpAny (model prog w) A (binaryOp op (.ref x) b) Q E s := by
  obtain ⟨hc, ⟨rc, hrc, hrp⟩, ⟨fo, h1⟩, ⟨ro, h2⟩, hsub⟩ := B
  obtain ⟨cd, rest, hcd, hm⟩ := PySem.W.ksp_first hc
  cases hi : op.info with
  | mk sym nm =>
    rw [hi] at hs hrc h1 h2
    dsimp only at hs hrc h1 h2
    have called := PySem.W.ksp_try X I hs hf h
    have d1 : PySem.W.Looks (model prog w) s.heap (typeOf (.ref x)) (.ref C) := I.type
    have d3 : PySem.W.Looks (model prog w) s.heap (fillsNumberSlot (.ref C) nm) true := PySem.W.fills_K X hcd hm hs
    have d4 := PySem.W.ksp_fillsT (M := model prog w) X h1 h2
    have d5 : PySem.W.Looks (model prog w) s.heap (isSubtype (.type T) (.ref C)) false := PySem.W.looks_subIn X hsub
    have d6 : PySem.W.Looks (model prog w) s.heap (numberSlotInPython (.ref C) nm) true := PySem.W.ksp_inPy X hs hrc hrp
    have d7 : PySem.W.Looks (model prog w) s.heap (numberSlotInPython (.type T) nm) false := PySem.W.Looks.of_pure rfl
    have d8 : PySem.W.Looks (model prog w) s.heap (typeLookup (.type T) (dunderR nm)) ro := PySem.W.looks_findIn X h2
    unfold LkT at hb
    clear X I hs hf h
    obtain ⟨hp, g, dd, tt, os⟩ := s
    generalize ((fo.isSome && !isSeqSlot fo) || (ro.isSome && !isSeqSlot ro)) = right at d4
    have other : (Value.ref C == Value.type T) = false := by
      cases z : (Value.ref C == Value.type T) with
      | false => rfl
      | true => cases beq_iff_eq.mp z
    simp only [binaryOp, hi]
    refine wpAny_holding (wpAny_bind ?_)
    unfold binaryOp1
    refine wpAny_bind (d1.at (wpAny_bind ?_))
    refine hb.at (wpAny_bind (d3.at ?_))
    simp only [other, Bool.false_eq_true, if_false]
    cases right
    · ksp_lk
      refine wpAny_mono called (fun r s' z => ?_) fun _ _ e => e
      obtain ⟨v, rfl, z⟩ := z
      ksp_lk
      exact z
    · ksp_lk
      refine wpAny_mono called (fun r s' z => ?_) fun _ _ e => e
      obtain ⟨v, rfl, z⟩ := z
      ksp_lk
      exact z
end Ow
namespace Ow
open PySem PySem.Spec PyProof.Rows L2 Bx TL Dx Zx ItX
section
variable {X : Cx} {pins : List (Addr × Obj)} {σ : L2.St} {H : Hp} {s : Shared}
/-- the built-in types of second operands -/
inductive TyO (K : PySem.W.Frag) (H : Hp) : V → String → Prop
  | int (i : Int) : TyO K H (.int i) "int"
  | str (z : Str) : TyO K H (.str z) "str"
  | tup {p : Addr} {xs : List V} (h : SqT K H p xs) : TyO K H (.ref p) "tuple"
theorem lk_of {y : V} {v : Value} {T : String} (I : Inv X pins σ H s) (r : RelV y v) (t : TyO X.K H y T) : LkT (model X.prog X.w) s.heap v T := by
  cases t with
  | int i =>
    obtain ⟨u, rfl⟩ := r
    exact PySem.W.Looks.of_pure rfl
  | str z =>
    obtain ⟨u, rfl⟩ := r
    exact PySem.W.Looks.of_pure rfl
  | tup h =>
    cases r
    obtain ⟨its, rv, ht, _⟩ := I.tuple h
    obtain ⟨o, ho, hc, _⟩ := ht
    unfold LkT
    rw [← hc]
    exact (PySem.W.Looks.ld ho).andThen .now
theorem back_ep {Q : VK} {u : Value} {s' : Shared} (h : EP X pins σ Q u s') : PySem.W.CmpBack (EP X pins σ Q) u s' := by
  obtain ⟨v, H', I', r, q⟩ := h
  have h2 : EP X pins σ Q u s' := ⟨v, H', I', r, q⟩
  cases v with
  | non => cases r; exact h2
  | bl b => cases r; exact h2
  | int i => obtain ⟨t, rfl⟩ := r; exact h2
  | str z => obtain ⟨t, rfl⟩ := r; exact h2
  | byt b => obtain ⟨t, rfl⟩ := r; exact h2
  | flt b => obtain ⟨t, rfl⟩ := r; exact h2
  | ref a => cases r; exact h2
  | ty n => cases r; exact h2
end
section
variable {X : Cx} {C : Addr} {CXc : CXT} {k : Nat} {ps : List Str} {sp : Sp} {W : WX} {a b : Expr} {ta tb : TE} {pos : Pos} {op : Operator} {T m : String}
def tBinO (K : PySem.W.Frag) (C : Addr) (T : String) (sp : Sp) (W : WX) (ta tb : TE) : TE := fun σ H Q => ta σ H fun x H1 => tb σ H1 fun y H2 => ∃ p dx fs, x = .ref p ∧ H2 p = some (.ins C dx fs) ∧ TyO K H2 y T ∧ sp [.ref p, y] H2 Q (fun cls d H' => W cls d σ H')
theorem pe_binO (c : OwM X.prog X.w X.K X.mg X.base CXc C (PySem.dunder op.info.2) k ps sp) (B : BinF X.K C op T) (hr : Room k X.A) (hx : ∀ σ, PassesAt CXc X σ (fun cls d H' => W cls d σ H')) (ha : PE X a ta) (hb : PE X b tb) : PE X (.BinOp a op b pos) (tBinO X.K C T sp W ta tb) := by
  refine ⟨fun pins s σ H Q I h => ?_⟩
  refine wpAny_BinOp (binT ha hb I (R := fun x y H2 => ∃ p dx fs, x = .ref p ∧ H2 p = some (.ins C dx fs) ∧ TyO X.K H2 y T ∧ sp [.ref p, y] H2 Q (fun cls d H' => W cls d σ H')) h fun v u s2 x y H2 I2 rx ry q => ?_)
  obtain ⟨p, dx, fs, rfl, hp, ht, hsp⟩ := q
  obtain ⟨f, fd, ok, hfi, hf, _, hbd⟩ := c.ex
  obtain ⟨od, J⟩ := inst_of I2 hp
  cases rx
  refine bin_looks I2.kIn J B (lk_of I2 ry ht) hfi hf ?_
  refine wpAny_mono (call_at (sub_self hr) ok hbd I2 (vs := [.ref p, y]) (.cons rfl (.cons ry .nil)) hsp (fun e s' z => hx σ pins H2 s2 e s' I2 z)) (fun u s' z => back_ep z) fun _ _ z => z
end
/-! ### iter(t), t a tuple -/
def TiO (t it : Addr) : HO := .ext fun h => h.IsTupleIter it t 0
theorem tiO_ok {P : Program} {w : World} {H : Hp} {h : Heap} {t it : Addr} (e : h.IsTupleIter it t 0) : ObjOk P w H h it (TiO t it) := by
  obtain ⟨o, ho, hc, hd⟩ := id e
  exact ⟨e, ⟨o, ho⟩, fun h1 h2 z k => z.at fun o e => k _ e⟩
def rIterT (K : PySem.W.Frag) (n : Nat) : List V → Hp → VK → Prop := fun xs H Q => ∃ (t : Addr) (zs : List V), xs = [.ref t] ∧ SqT K H t zs ∧ ∀ it, H it = none → n ≤ it → Q (.ref it) (upd H it (TiO t it))
theorem call_iterT {X : Cx} : CallR X (.builtin "iter") (rIterT X.K X.s_0.heap.objs.size) := by
  intro pins s σ H xs us Q I r h
  obtain ⟨t, zs, rfl, hq, q⟩ := h
  cases r with
  | cons r1 r2 =>
    cases r2
    cases r1
    obtain ⟨its, rv, pl, hz⟩ := I.tuple hq
    refine Calls.call_function_entry (by decide +kernel) (by decide +kernel) PySem.W.kdk_entry_iter (PySem.W.kdk_args_iter _) ?_
    unfold Builtin.«iter»
    refine wpAny_bind (m := someArgs "iter" 1 2 _) (wpAny_of_eq (a := [Value.ref t]) (by first | rfl | kernel_rfl!) ?_)
    show wpAny _ _ (pyIter (.ref t) >>= _) _ _ _
    refine wpAny_bind (wpAny_pyIter_tuple pl ?_)
    refine wpAny_pure ⟨_, rfl, .ref s.heap.objs.size, _, I.laid (t' := s.toks) (fun b u e => Heap.get?_push_of_some _ e) (Nat.le_refl _) (tiO_ok ⟨_, Heap.get?_push_size _ rfl, rfl, rfl⟩), rfl, q _ (I.hok.fresh (Nat.le_refl _)) I.sz⟩
end Ow
namespace Ow
open PySem PySem.Spec PyProof.Rows L2 Bx TL Dx Zx ItX
/-- a def of the text, called at a state that one knows -/
theorem run_here {CX : CXT} {P : Program} {w : World} {K : PySem.W.Frag} {mg : Str → Option Value} {base : Heap} {k : Nat} {f : Addr} {nm qn : Str} {params : Arguments} {body : List Stmt} {scope : Scope} {dV kV doc pm cdv ct oc : Value} {an od : Option Addr} {osl : Array (Option Value)} {N ps : List Str}
    {A : Around} {outer : List Env} {s : Shared} {H : Hp} {args : Args} {us : List Value} {vs : List V} {Q : VK} {E : XK} (lk : K.lookup f = some ⟨oc, od, .func (PySem.W.fnOf nm qn params body scope dV kV doc pm an cdv ct), osl⟩) (cd : PySem.W.codeIn K cdv qn = true) (S : FnScope N ps scope) (room : Room (k + 1) A)
    (e0 : Env0 P w K mg base A outer s H) (hb : BindsTo s (PySem.W.fnOf nm qn params body scope dV kV doc pm an cdv ct) args (ps.zip us)) (rel : Vals vs us) (len : vs.length = ps.length)
    (reads : Room k (A.deeper (envOfC qn scope s.heap.objs.size f cdv)) → ∃ t, PSs (cxOf CX P w K mg base N qn scope f cdv A outer s H E) body t ∧ t { nx := fun _ H' => Q .non H', rt := Q } (start N vs) H) :
    codeAny (model P w) A (.call (.ref f) args) (CR CX outer P w H s Q E) s := by
  have kx : K.In s.heap := e0.mod.kin.keeps (fun p q z => (e0.bs p q z).1)
  have open_ : s.heap.NoLimit := e0.mod.nolimit.keeps (fun p q z => (e0.bs p q z).1)
  have kinds : ∀ y ∈ ps.zip us, scope.names.lookup y.1 = some .local ∨ (scope.names.lookup y.1 = some .cell ∧ ((cellsFrom (s.heap.objs.size + 1) scope.names []).lookup y.1).isSome = true) := by
    rintro ⟨one, val⟩ hy
    exact (S.par one (List.of_mem_zip hy).1).imp id (fun q => ⟨q, PySem.W.cellsFrom_some _ _ _ (.inl q)⟩)
  refine codeAny_call_function room.depth (kx _ _ lk) rfl S.co S.gen rfl (PySem.W.codeRec_of kx cd) ?_
  refine hb _ _ _ _ ?_
  refine wpAny_newFunctionEnv_cells S.kind kinds (fun env he s1 x => ?_)
  cases he
  refine ⟨open_.keeps x.toInCall.keep, codeAny_func ?_⟩
  obtain ⟨t, pt, ht⟩ := reads (room.deeper _)
  have J0 := inv_start (CX := CX) (E := E) S room.hd e0 len rel x
  refine wpAny_mono (pt.run [] s1 (start N vs) H _ J0 ht) ?_ (fun e s' z => z)
  intro fl s' back
  match fl, back with
  | .ret u, ⟨v, σ', H', J, rv, q⟩ => exact ⟨v, H', J.os, J.bare, J.base, J.hok, rv, q⟩
  | .next, ⟨σ', H', J, q⟩ => exact ⟨V.non, H', J.os, J.bare, J.base, J.hok, rfl, q⟩
  | .brk, ⟨_, _, _, q⟩ => exact q.elim
  | .cont, ⟨_, _, _, q⟩ => exact q.elim
/-! ### for x in o, where def __iter__(self): return iter(self.f) -/
structure ItM (P : Program) (w : World) (K : PySem.W.Frag) (mg : Str → Option Value) (base : Heap) (C : Addr) (f : Str) (k : Nat) : Prop where
  ex : ∃ fi : Addr, PySem.W.findIn K (.ref C) "__iter__" = some (some (.ref fi)) ∧ PySem.W.isFn K (.ref fi) = true ∧
    ∀ (A : Around) (outer : List Env) (s : Shared) (H : Hp) (E : XK) (p dx t : Addr) (fs : List (Str × V)) (zs : List V), Room k A → Env0 P w K mg base A outer s H → H p = some (.ins C dx fs) → fs.lookup f = some (.ref t) → SqT K H t zs →
      codeAny (model P w) A (.call (.ref fi) ⟨[.ref p], []⟩) (CR CX0 outer P w H s (fun v H' => ∃ it, v = .ref it ∧ H it = none ∧ s.heap.objs.size ≤ it ∧ H' = upd H it (TiO t it)) E) s
section
variable {X : Cx} {C : Addr}
def tIterO (K : PySem.W.Frag) (C : Addr) (f : Str) (te : TE) : TI := fun σ H R => te σ H fun x H1 => ∃ p dx fs t zs, x = .ref p ∧ H1 p = some (.ins C dx fs) ∧ fs.lookup f = some (.ref t) ∧ SqT K H1 t zs ∧ R (Itt K t) H1
theorem pi_iterO {tg l : Expr} {te : TE} {k : Nat} {f : Str} (c : ItM X.prog X.w X.K X.mg X.base C f k) (hr : Room k X.A) (he : PE X l te) : PI X tg l (tIterO X.K C f te) := by
  refine ⟨fun pins s σ H R I h => ?_⟩
  refine thn (he.run pins s σ H _ I h) fun v s1 ⟨x, H1, I1, r1, q1⟩ => ?_
  obtain ⟨p, dx, fs, t, zs, rfl, hp, hl, hz, hR⟩ := q1
  obtain ⟨fi, hfi, hf, go⟩ := c.ex
  obtain ⟨od, J⟩ := inst_of I1 hp
  obtain ⟨m, hF⟩ := I1.fr
  cases r1
  refine PySem.W.owit_iter hF I1.ok.mod.kin J hfi hf ?_
  refine wpAny_call (codeAny_mono (go X.A X.stack s1 H1 E0 p dx t fs zs hr I1.env0 hp hl hz) fun res s' back => ?_)
  match res, back with
  | .error e, back => exact back.elim
  | .ok .next, back => exact back.elim
  | .ok .brk, back => exact back.elim
  | .ok .cont, back => exact back.elim
  | .ok (.ret u), back =>
    obtain ⟨v, H2, I2, rv, it, rfl, n1, hy, rfl⟩ := I1.after back
    cases rv
    have e2 : upd H1 it (TiO t it) it = some (TiO t it) := upd_same
    have hit : s'.heap.IsTupleIter it t 0 := by
      have : ObjOk X.prog X.w (upd H1 it (TiO t it)) s'.heap it (.ext fun h => h.IsTupleIter it t 0) := I2.hok it _ e2
      exact this.1
    show wpAny _ _ (specialOf (.ref it) "__next__") _ _ _
    refine wpAny_specialOf (name := Str.ofString "__next__") hit.typeIs PySem.F.slot_tuple_iterator_next.lookup ?_
    have hn : X.s_0.heap.objs.size ≤ it := Nat.le_trans I1.sz hy
    have I3 := inv_drop I2 e2
    have fp := inv_fp I2 e2 hn
    rw [dropH_upd n1] at I3 fp
    refine ⟨it, [it], _, _, H1, rfl, I3, turn_tuple t it, hit, fun b hb => ?_, hR⟩
    rw [List.mem_singleton.mp hb]
    exact fp
end
end Ow
/-! Own classes: o + p of one class, k * o, -o; dict(t) of a tuple of pairs. -/
namespace Ow
open PySem PySem.Spec PyProof.Rows L2 Bx TL Dx Zx ItX
theorem bin_same {prog : Program} {w : World} {A : Around} {E : Value → Shared → Prop} {s : Shared} {K : PySem.W.Frag} {x y C f : Addr} {ox oy : Obj} {od oe : Option Obj} {op : Operator} {Q : Value → Shared → Prop}
    (X : K.In s.heap) (I : PySem.W.InstAt s.heap x ox C od) (J : PySem.W.InstAt s.heap y oy C oe) (first : PySem.W.selfFirst K C = true) (hs : PySem.W.findIn K (.ref C) (PySem.dunder op.info.2) = some (some (.ref f))) (hf : PySem.W.isFn K (.ref f) = true)
    (h : wpAny (model prog w) A (call (.ref f) [.ref x, .ref y]) (PySem.W.CmpBack Q) E s) : wpAny (model prog w) A (binaryOp op (.ref x) (.ref y)) Q E s := by
  obtain ⟨cd, rest, hcd, hm⟩ := PySem.W.ksp_first first
  cases hi : op.info with
  | mk sym nm =>
    rw [hi] at hs
    dsimp only at hs
    have called := PySem.W.ksp_try X I hs hf h
    have d1 : PySem.W.Looks (model prog w) s.heap (typeOf (.ref x)) (.ref C) := I.type
    have d2 : PySem.W.Looks (model prog w) s.heap (typeOf (.ref y)) (.ref C) := J.type
    have d3 : PySem.W.Looks (model prog w) s.heap (fillsNumberSlot (.ref C) nm) true := PySem.W.fills_K X hcd hm hs
    clear X I J hs hf h
    obtain ⟨hp, g, dd, tt, os⟩ := s
    have same : (Value.ref C == Value.ref C) = true := beq_self_eq_true _
    simp only [binaryOp, hi]
    refine wpAny_holding (wpAny_bind ?_)
    unfold binaryOp1
    refine wpAny_bind (d1.at (wpAny_bind ?_))
    refine d2.at (wpAny_bind (d3.at ?_))
    simp only [same, if_true]
    ksp_lk
    refine wpAny_mono called (fun r s' z => ?_) fun _ _ e => e
    obtain ⟨v, rfl, z⟩ := z
    ksp_lk
    exact z
section
variable {X : Cx} {C : Addr} {k : Nat} {ps : List Str} {sp : Sp} {op : Operator}
def rBinSame (C : Addr) (sp : Sp) : V → V → Hp → VK → Prop := fun x y H Q => ∃ p q dx dy fs gs, x = .ref p ∧ y = .ref q ∧ H p = some (.ins C dx fs) ∧ H q = some (.ins C dy gs) ∧ sp [.ref p, .ref q] H Q E0
theorem op_same (c : OwM X.prog X.w X.K X.mg X.base CX0 C (PySem.dunder op.info.2) k ps sp) (first : PySem.W.selfFirst X.K C = true) (hr : Room k X.A) : OpR X (binaryOp op) (rBinSame C sp) := by
  intro pins s σ H x y u v Q I rx ry h
  obtain ⟨p, q, dx, dy, fs, gs, rfl, rfl, hp, hq, hsp⟩ := h
  obtain ⟨f, fd, ok, hs, hf, _, hb⟩ := c.ex
  obtain ⟨od, J⟩ := inst_of I hp
  obtain ⟨oe, J2⟩ := inst_of I hq
  cases rx
  cases ry
  refine bin_same I.kIn J J2 first hs hf ?_
  refine wpAny_mono (call_at (sub_self hr) ok hb I (vs := [.ref p, .ref q]) (.cons rfl (.cons rfl .nil)) hsp (fun e s' z => z.elim)) (fun u s' z => back_ep z) fun _ _ z => z
/-- o op x -/
def rBinT (K : PySem.W.Frag) (C : Addr) (T : String) (sp : Sp) : V → V → Hp → VK → Prop := fun x y H Q => ∃ p dx fs, x = .ref p ∧ H p = some (.ins C dx fs) ∧ TyO K H y T ∧ sp [.ref p, y] H Q E0
theorem op_ownT {T : String} (c : OwM X.prog X.w X.K X.mg X.base CX0 C (PySem.dunder op.info.2) k ps sp) (B : BinF X.K C op T) (hr : Room k X.A) : OpR X (binaryOp op) (rBinT X.K C T sp) := by
  intro pins s σ H x y u v Q I rx ry h
  obtain ⟨p, dx, fs, rfl, hp, ht, hsp⟩ := h
  obtain ⟨f, fd, ok, hs, hf, _, hb⟩ := c.ex
  obtain ⟨od, J⟩ := inst_of I hp
  cases rx
  refine bin_looks I.kIn J B (lk_of I ry ht) hs hf ?_
  refine wpAny_mono (call_at (sub_self hr) ok hb I (vs := [.ref p, y]) (.cons rfl (.cons ry .nil)) hsp (fun e s' z => z.elim)) (fun u s' z => back_ep z) fun _ _ z => z
/-- -o -/
theorem un_negO (c : OwM X.prog X.w X.K X.mg X.base CX0 C "__neg__" k ps sp) (hr : Room k X.A) : UnR X (unaryOp .USub) (fun x H Q => ∃ p dx fs, x = .ref p ∧ H p = some (.ins C dx fs) ∧ sp [.ref p] H Q E0) := by
  intro pins s σ H x u Q I rx h
  obtain ⟨p, dx, fs, rfl, hp, hsp⟩ := h
  obtain ⟨f, fd, ok, hs, hf, _, hb⟩ := c.ex
  obtain ⟨od, J⟩ := inst_of I hp
  obtain ⟨m, hF⟩ := I.fr
  cases rx
  refine PySem.W.ksp_neg hF I.ok.mod.kin J hs hf ?_
  exact call_at (sub_self hr) ok hb I (vs := [.ref p]) (.cons rfl .nil) hsp (fun e s' z => z.elim)
/-- o[i] -/
theorem pe_subO0 {a b : Expr} {ta tb : TE} {pos : Pos} (c : OwM X.prog X.w X.K X.mg X.base CX0 C "__getitem__" k ps sp) (fi : ∀ f, PySem.W.findIn X.K (.ref C) "__getitem__" = some (some (.ref f)) → PySem.W.fnIn X.K f = true) (hr : Room (k + 1) X.A) (ha : PE X a ta) (hb : PE X b tb)
    (hs : ∀ v u, subscripted b true v u = runValue (.builtin "lifetime.subscript" ⟨[v, u], []⟩) := by intro _ _; rfl) : PE X (.Subscript a b pos) (tSubO C sp (fun _ _ _ _ => False) ta tb) :=
  pe_subO c fi hr (fun _ _ _ _ _ _ _ h => h.elim) ha hb hs
end
end Ow
/-! tuple(xs) without a dict of its own; dict(t) of such a tuple of pairs; k * o. -/
namespace Ow
open PySem PySem.Spec PyProof.Rows L2 Bx TL Dx Zx ItX
/-- a tuple without a dict of its own -/
def PlT (H : Hp) (a : Addr) (xs : List V) : Prop := ∃ o, H a = some (.frz o (.tup xs)) ∧ o.dict = none
theorem PlT.sq {K : PySem.W.Frag} {H : Hp} {a : Addr} {xs : List V} (h : PlT H a xs) : SqT K H a xs := .inl (.inr ⟨_, h.choose_spec.1⟩)
theorem PlT.same {H H' : Hp} {a : Addr} {xs : List V} (s : Same H H') (h : PlT H a xs) : PlT H' a xs := ⟨_, s _ _ h.choose_spec.1, h.choose_spec.2⟩
section
variable {X : Cx}
def rTupF (K : PySem.W.Frag) : List V → Hp → VK → Prop := fun xs H Q => ∃ p ys, xs = [.ref p] ∧ SqL K H p ys ∧ ∀ l o, H l = none → o.dict = none → Q (.ref l) (upd H l (.frz o (.tup ys)))
theorem call_tupleF : CallR X (.type "tuple") (rTupF X.K) := by
  intro pins s σ H xs us Q I r h
  obtain ⟨p, ys, rfl, hq, q⟩ := h
  obtain ⟨u, rfl, rx⟩ := vals1 r
  cases rx
  obtain ⟨its, r', pl, hz⟩ := I.list hq
  have hlen := r'.length
  refine call_tuple_list pl.isList (fun h' kp => ?_) (by simp only [List.size_toArray] <;> omega)
  have I1 : Inv X pins σ H { s with heap := h' } := I.kept (t' := s.toks) kp
  let o : Obj := { cls := .type "tuple", data := .seq its.toArray }
  have I2 : Inv X pins σ (upd H h'.objs.size (.frz o (.tup ys))) { s with heap := h'.push o } :=
    I1.laid (t' := s.toks) (fun b o e => Heap.get?_push_of_some _ e) (Nat.le_refl _) (show ObjOk X.prog X.w _ _ _ (.frz o (.tup ys)) from ⟨Heap.get?_push_size _ rfl, hz, its, r', IsTup.new _ _⟩)
  exact ⟨.ref h'.objs.size, _, I2, rfl, q _ o (I1.hok.fresh (Nat.le_refl _)) rfl⟩
def rDictT (K : PySem.W.Frag) : List V → Hp → VK → Prop := fun xs H Q => ∃ (a : Addr) (ps : List Addr) (kvs : List (Key × V)), xs = [.ref a] ∧ PlT H a (ps.map V.ref) ∧ Paired (fun p kv => SqT K H p [kV kv.1, kv.2]) ps kvs ∧
    ∀ p, H p = none → Q (.ref p) (upd H p (.dK (mergeK [] kvs)))
theorem call_dictT (hcalm : X.calm = true) : CallR X (.type "dict") (rDictT X.K) := by
  intro pins s σ H xs us Q I r q
  obtain ⟨a, ps, kvs, rfl, ⟨o, ha, hod⟩, hp, q⟩ := q
  obtain ⟨u, rfl, rx⟩ := vals1 r
  cases rx
  obtain ⟨hg, hz, its, rv, o2, ho2, hc, n, hdat⟩ : ObjOk X.prog X.w H s.heap a (.frz o (.tup (ps.map V.ref))) := I.hok a _ ha
  rw [hg] at ho2
  obtain rfl := Option.some.inj ho2
  have ei := refs_at rv
  subst ei
  obtain ⟨prs, rel, hl, hpr⟩ := pairs_of I hp
  rw [List.length_map] at hz
  have at_ : ∀ (j : Nat) (q : Key × Value), prs[j]? = some q → ∃ u : Value, IsTup s.heap (ps.getD j 0) #[u, q.2] ∧ ps[j]? = some (ps.getD j 0) ∧ keyIs q.1 u = true := fun j q e => by
    obtain ⟨b, u, e1, e2, e3⟩ := hpr j q e
    have e4 : ps.getD j 0 = b := by rw [List.getD_eq_getElem?_getD, e1]; rfl
    rw [e4]
    exact ⟨u, e2, e1, e3⟩
  classical
  let key : Nat → Value := fun j => match prs[j]? with
    | some q => (if h : ∃ u : Value, IsTup s.heap (ps.getD j 0) #[u, q.2] ∧ keyIs q.1 u = true then h.choose else .none)
    | none => .none
  have keyAt : ∀ (j : Nat) (q : Key × Value), prs[j]? = some q → IsTup s.heap (ps.getD j 0) #[key j, q.2] ∧ keyIs q.1 (key j) = true := fun j q e => by
    obtain ⟨u, h1, _, h3⟩ := at_ j q e
    have hh : ∃ u : Value, IsTup s.heap (ps.getD j 0) #[u, q.2] ∧ keyIs q.1 u = true := ⟨u, h1, h3⟩
    have ek : key j = hh.choose := by
      show (match prs[j]? with | some q => _ | none => _) = _
      rw [e]
      exact dif_pos hh
    rw [ek]
    exact hh.choose_spec
  let vps : List (Value × Value) := (List.range prs.length).map fun j => (key j, match prs[j]? with | some q => q.2 | none => .none)
  have vlen : vps.length = prs.length := by simp [vps]
  have vat : ∀ j k v, vps[j]? = some (k, v) → ∃ q : Key × Value, prs[j]? = some q ∧ k = key j ∧ v = q.2 := fun j k v e => by
    have hj : j < prs.length := by
      have := (List.getElem?_eq_some_iff.mp e).1
      omega
    have e1 : prs[j]? = some prs[j] := List.getElem?_eq_getElem hj
    refine ⟨prs[j], e1, ?_⟩
    have e2 : vps[j]? = some (key j, prs[j].2) := by
      simp only [vps, List.getElem?_map, List.getElem?_range hj, Option.map_some, e1]
    rw [e2] at e
    cases e
    exact ⟨rfl, rfl⟩
  have P := PySem.PairArg.tuple (prog := X.prog) (w := X.w) a (ps.map Value.ref).toArray (fun j => ps.getD j 0) vps
  refine PySem.call_dict_pairs (knd := mixKind X.prog X.w) (kvs := prs) P (I.ok.hd hcalm) ⟨⟨o, n, hg, hc, hod, hdat⟩, by rw [List.size_toArray, List.length_map, vlen, hl], fun j k v e => ?_⟩ ⟨vlen.symm, fun i k v e => ?_⟩ (by rw [vlen, hl]; exact hz) fun h' tk hd' kp => ?_
  · obtain ⟨q, e1, rfl, rfl⟩ := vat j k v e
    obtain ⟨u, _, e3, _⟩ := at_ j q e1
    refine ⟨?_, .inl (keyAt j q e1).1⟩
    rw [List.getElem?_toArray, List.getElem?_map, e3]
    rfl
  · obtain ⟨q, e1, rfl, rfl⟩ := vat i k v e
    exact ⟨q.1, e1, (keyAt i q e1).2⟩
  · have hm : (s.heap.objs.size == sysModules) = false := beq_eq_false_iff_ne.mpr (Nat.ne_of_gt I.big)
    have hlen : (mergeK [] kvs).length ≤ sizeLine := by
      refine Nat.le_trans (length_mergeK kvs []) ?_
      rw [List.length_nil, Nat.zero_add, rel.length, hl]
      exact hz
    exact ⟨.ref s.heap.objs.size, upd H s.heap.objs.size (.dK (mergeK [] kvs)), I.laid (t' := tk) (fun b o e => kp b o (fun h => nomatch h) e) (Nat.le_refl _) (show ObjOk X.prog X.w _ _ _ (.dK (mergeK [] kvs)) from ⟨hlen, hm, merged [] prs, KV.merge rel .nil, hd'⟩), rfl, q _ (I.hok.fresh (Nat.le_refl _))⟩
end
/-! ### k * o -/
theorem int_mul_ins (a : Int) (t : Tok) (l C dx : Addr) :
    Meets (Builtin.«int.__mul__» ⟨[.int a t, .ref l], []⟩) (fun _ R s => s.heap.get? l = some (PySem.W.instObj C dx) ∧ R (.ok (.ret Value.notImplemented)) s) :=
  .of_wp fun prog w A R s h => by obtain ⟨hp, g, d, tk, os⟩ := s; obtain ⟨hl, h⟩ := h; wp_walk; exact ⟨_, rfl, h⟩
theorem int_declines {prog : Program} {w : World} {A : Around} {E : Value → Shared → Prop} {s : Shared} {k : Int} {t : Tok} {x C dx : Addr} {Q : Value → Shared → Prop} (hg : s.heap.get? x = some (PySem.W.instObj C dx)) (q : Q .notImplemented s) :
    wpAny (model prog w) A (call (.builtin "int.__mul__") [.int k t, .ref x]) Q E s :=
  call_meets F.slot_int_mul (typeIs_int s k t) F.entry_int_mul (F.args_int_mul_2 _ _) (int_mul_ins k t x C dx) ⟨hg, q⟩
theorem try_declines {prog : Program} {w : World} {A : Around} {E : Value → Shared → Prop} {s : Shared} {k : Int} {t : Tok} {x C dx : Addr} {Q : Option Value → Shared → Prop} (hg : s.heap.get? x = some (PySem.W.instObj C dx)) (q : Q none s) :
    wpAny (model prog w) A (tryMethod (.int k t) (dunder "mul") (.ref x)) Q E s := by
  refine wpAny_tryMethod_declines (T := "int") (name := dunder "mul") (id := "int.__mul__") ?_ ?_ ?_
  · exact typeIs_int s k t
  · exact F.slot_int_mul
  exact int_declines hg ⟨rfl, q⟩
theorem bin_right {prog : Program} {w : World} {A : Around} {E : Value → Shared → Prop} {s : Shared} {K : PySem.W.Frag} {x C f dx : Addr} {od : Option Obj} {k : Int} {t : Tok} {Q : Value → Shared → Prop}
    (X : K.In s.heap) (I : PySem.W.InstAt s.heap x (PySem.W.instObj C dx) C od) (first : PySem.W.selfFirst K C = true) (hl : PySem.W.findIn K (.ref C) "__mul__" = some (some (.ref f))) (hs : ∃ g : Addr, PySem.W.findIn K (.ref C) "__rmul__" = some (some (.ref g)) ∧ PySem.W.isFn K (.ref g) = true ∧
      wpAny (model prog w) A (call (.ref g) [.ref x, .int k t]) (PySem.W.CmpBack Q) E s)
    (hsub : PySem.W.subIn K (.ref C) (.type "int") = some false) : wpAny (model prog w) A (binaryOp .Mult (.int k t) (.ref x)) Q E s := by
  obtain ⟨g, hr, hf, h⟩ := hs
  obtain ⟨cd, rest, hcd, hm⟩ := PySem.W.ksp_first first
  have hg : s.heap.get? x = some (PySem.W.instObj C dx) := by
    exact I.at_
  have called := PySem.W.ksp_try X I hr hf h
  have d1 : PySem.W.Looks (model prog w) s.heap (typeOf (.ref x)) (.ref C) := I.type
  have d3 : PySem.W.Looks (model prog w) s.heap (fillsNumberSlot (.ref C) "mul") true := PySem.W.fills_K X hcd hm hl
  have d5 : PySem.W.Looks (model prog w) s.heap (isSubtype (.ref C) (.type "int")) false := PySem.W.looks_subIn X hsub
  clear X I hl hr hf h
  simp only [binaryOp]
  refine wpAny_holding (wpAny_bind ?_)
  show wpAny _ _ (binaryOp1 "mul" _ _) _ _ _
  simp only [binaryOp1]
  refine wpAny_bind (wpAny_typeOf (typeIs_int s k t) (wpAny_bind (d1.at (wpAny_bind (wpAny_of_eq F.fills_int_mul ?_)))))
  have hne : (Value.type "int" == Value.ref C) = false := Bool.eq_false_iff.mpr fun q => by cases beq_iff_eq.mp q
  simp only [hne, Bool.false_eq_true, if_false]
  refine wpAny_bind (d3.at ?_)
  simp only [Bool.and_self, if_true]
  refine wpAny_bind (d5.at ?_)
  have hpy : numberSlotInPython (.type "int") "mul" = pure false := rfl
  simp only [Bool.false_eq_true, if_false, pure_bind, Bool.not_false, Bool.and_self, if_true, hpy]
  refine wpAny_bind (try_declines hg ?_)
  refine wpAny_bind (wpAny_mono called (fun r s' z => ?_) fun _ _ e => e)
  obtain ⟨v, rfl, z⟩ := z
  exact wpAny_bind (wpAny_rule (wpAny_pure (wpAny_pure z)))
section
variable {X : Cx} {C : Addr} {k : Nat} {ps : List Str} {sp : Sp}
/-- k * o -/
def rMulR (C : Addr) (sp : Sp) : V → V → Hp → VK → Prop := fun x y H Q => ∃ p dx fs n, x = .int n ∧ y = .ref p ∧ H p = some (.ins C dx fs) ∧ sp [.ref p, .int n] H Q E0
theorem op_mulR (c : OwM X.prog X.w X.K X.mg X.base CX0 C "__rmul__" k ps sp) (first : PySem.W.selfFirst X.K C = true) (hl : ∃ f : Addr, PySem.W.findIn X.K (.ref C) "__mul__" = some (some (.ref f))) (hsub : PySem.W.subIn X.K (.ref C) (.type "int") = some false) (hr : Room k X.A) : OpR X (binaryOp .Mult) (rMulR C sp) := by
  intro pins s σ H x y u v Q I rx ry h
  obtain ⟨p, dx, fs, n, rfl, rfl, hp, hsp⟩ := h
  obtain ⟨f, fd, ok, hs, hf, _, hb⟩ := c.ex
  obtain ⟨fl, hfl⟩ := hl
  obtain ⟨od, J⟩ := inst_of I hp
  obtain ⟨t, rfl⟩ := id rx
  cases ry
  refine bin_right I.kIn J first hfl ⟨f, hs, hf, ?_⟩ hsub
  refine wpAny_mono (call_at (sub_self hr) ok hb I (vs := [.ref p, .int n]) (.cons rfl (.cons rx .nil)) hsp (fun e s' z => z.elim)) (fun u s' z => back_ep z) fun _ _ z => z
end
end Ow
namespace Ow
open PySem PySem.Spec PyProof.Rows L2 Bx TL Dx Zx ItX
/-! ### calls with defaults, new instances, methods, by their promises -/
structure CalD (P : Program) (w : World) (K : PySem.W.Frag) (mg : Str → Option Value) (base : Heap) (x : Str) (k : Nat) (ps : List Str) (sp : Sp) (dvs : List V) : Prop where
  ex : ∃ (f : Addr) (fd : FuncData) (ds : List Value), FnOk P w K mg base CX0 k f fd ps sp ∧ mg x = some (.ref f) ∧ PySem.W.keepIn K (.ref f) = true ∧ Binds K fd ps ds ∧ Vals dvs ds
structure MakC (P : Program) (w : World) (K : PySem.W.Frag) (mg : Str → Option Value) (base : Heap) (x : Str) (C : Addr) (k : Nat) (ps : List Str) (sp : Sp) (dvs : List V) : Prop where
  ex : ∃ (f : Addr) (fd : FuncData) (ds : List Value), Mk K C f ∧ FnOk P w K mg base CX0 k f fd ps sp ∧ mg x = some (.ref C) ∧ Binds K fd ps ds ∧ Vals dvs ds
structure MthC (P : Program) (w : World) (K : PySem.W.Frag) (mg : Str → Option Value) (base : Heap) (C : Addr) (m : Str) (k : Nat) (ps : List Str) (sp : Sp) : Prop where
  ex : ∃ (f : Addr) (fd : FuncData), Cls K C ∧ Meth K C m f ∧ FnOk P w K mg base CX0 k f fd ps sp ∧ Binds K fd ps []
section
variable {X : Cx} {x : Str} {k : Nat} {ps : List Str} {sp : Sp} {e : Expr} {es : List Expr} {t : TA} {p pos : Pos} {dvs : List V} {C : Addr}
theorem pe_calD (c : CalD X.prog X.w X.K X.mg X.base x k ps sp dvs) (hr : Room k X.A) (ha : PA X (e :: es) t) (hg : Gl X x := by rfl) (hdb : (x == ("__debug__" : Str)) = false := by decide)
    (he : starEach (e :: es) X.env = (false, eval e X.env) :: starEach es X.env := by rfl) (hpl : (backTo pos (starEach es X.env)).any (·.1) = false := by rfl) : PE X (.Call (.Name x p) (e :: es) [] pos) (tCall sp dvs E0 t) := by
  obtain ⟨f, fd, ds, ok, g, kp, b, r⟩ := c.ex
  exact pe_call (E := E0) ok hr hg g kp b r pass0 ha hdb he hpl (p := p)
theorem pe_mak (c : MakC X.prog X.w X.K X.mg X.base x C k ps sp []) (hr : Room (k + 1) X.A) (ha : PA X (e :: es) t) (hg : Gl X x := by rfl) (hdb : (x == ("__debug__" : Str)) = false := by decide)
    (he : starEach (e :: es) X.env = (false, eval e X.env) :: starEach es X.env := by rfl) (hpl : (backTo pos (starEach es X.env)).any (·.1) = false := by rfl) : PE X (.Call (.Name x p) (e :: es) [] pos) (tMake C sp [] E0 t) := by
  obtain ⟨f, fd, ds, M, ok, g, b, r⟩ := c.ex
  exact pe_make (E := E0) M ok hr hg g b r pass0 ha hdb he hpl (p := p)
theorem pe_mak0 (c : MakC X.prog X.w X.K X.mg X.base x C k ps sp dvs) (hr : Room (k + 1) X.A) (hg : Gl X x := by rfl) (hdb : (x == ("__debug__" : Str)) = false := by decide) : PE X (.Call (.Name x p) [] [] pos) (tMake C sp dvs E0 tNil) := by
  obtain ⟨f, fd, ds, M, ok, g, b, r⟩ := c.ex
  exact pe_make0 (E := E0) M ok hr hg g b r pass0 hdb (p := p)
theorem pe_mth {m : Str} {o : Expr} {to : TE} {apos : Pos} {pl : Sem Bool} (c : MthC X.prog X.w X.K X.mg X.base C m k ps sp) (hr : Room k X.A) (ho : PE X o to) (ha : PA X (e :: es) t)
    (hst : starEach (e :: es) X.env = (false, eval e X.env) :: starEach es X.env := by rfl) (hpl : (backTo pos (starEach es X.env)).any (·.1) = false := by rfl)
    (ht : eval (.Call (.Attribute o m apos) (e :: es) [] pos) X.env = (do
      let ov ← eval o X.env
      standAt apos.atName
      let (f, first) ← holding [ov] (getMethod ov m pl)
      callWith pos f first (backTo pos (starEach (e :: es) X.env)) (backToKw pos (keywordEach [] X.env))) := by rfl) : PE X (.Call (.Attribute o m apos) (e :: es) [] pos) (tMeth C m sp [] E0 to t) := by
  obtain ⟨f, fd, cl, mt, ok, b⟩ := c.ex
  exact pe_meth (E := E0) ho cl mt ok hr b .nil pass0 ha hst hpl ht
end
/-! ### // by any divisor -/
def CDivZ (_ j : Int) : Prop := j ≠ 0 ∧ j.natAbs.log2 < 9000
theorem op_fdivZ {X : Cx} : OpR X (binaryOp .FloorDiv) (rI CDivZ fun i j => .int (i.fdiv j)) := opI fun i j _ _ _ _ _ hc q => floordiv_int hc.1 q (.inl (PyProof.noPylong_of_log2 hc.2))
theorem wide_divZ {i j : Int} {b : Nat} (h : j ≠ 0) (hb : j.natAbs < 2 ^ b) (h0 : 0 < b) (h9 : b ≤ 9000) : CDivZ i j := ⟨h, Nat.lt_of_lt_of_le (PySem.Flt.log2_lt_of h0 hb) h9⟩
end Ow
/-! Calls that may raise, with a wish that knows the slots: C(..), o.m(..), f(..); C held by a local; list.count of texts. -/
namespace Px
open PySem PySem.Spec PyProof.Rows L2 Bx TL Dx Zx Ow
theorem passN {X : Cx} : Passes (L2.CX X.prog X.w) X E0 := fun _ _ _ _ _ _ _ ⟨_, _, _, _, _, _, _, _, _, _, _, _, z⟩ => z.elim
/-- `C(..)`, whose `__init__` may raise -/
structure MakX (P : Program) (w : World) (K : PySem.W.Frag) (mg : Str → Option Value) (base : Heap) (x : Str) (C : Addr) (k : Nat) (ps : List Str) (sp : Sp) : Prop where
  ex : ∃ (f : Addr) (fd : FuncData), Mk K C f ∧ FnOk P w K mg base (L2.CX P w) k f fd ps sp ∧ mg x = some (.ref C) ∧ Binds K fd ps []
structure MthX (P : Program) (w : World) (K : PySem.W.Frag) (mg : Str → Option Value) (base : Heap) (C : Addr) (m : Str) (k : Nat) (ps : List Str) (sp : Sp) : Prop where
  ex : ∃ (f : Addr) (fd : FuncData), Cls K C ∧ Meth K C m f ∧ FnOk P w K mg base (L2.CX P w) k f fd ps sp ∧ Binds K fd ps []
structure CalE (P : Program) (w : World) (K : PySem.W.Frag) (mg : Str → Option Value) (base : Heap) (x : Str) (k : Nat) (ps : List Str) (sp : Sp) : Prop where
  ex : ∃ (f : Addr) (fd : FuncData), FnOk P w K mg base (L2.CX P w) k f fd ps sp ∧ mg x = some (.ref f) ∧ PySem.W.keepIn K (.ref f) = true ∧ Binds K fd ps []
section
variable {X : Cx} {x : Str} {k : Nat} {ps : List Str} {sp : Sp} {e : Expr} {es : List Expr} {t : TA} {p pos : Pos} {C : Addr} {W : WX}
theorem run_makS {pins : List (Addr × Obj)} {σ : L2.St} {H : Hp} {s : Shared} {Q : VK} {E : XK} {us : List Value} {vs : List V} {f : Addr} {fd : FuncData} (M : Mk X.K C f) (F : FnOk X.prog X.w X.K X.mg X.base (L2.CX X.prog X.w) k f fd ps sp) (hr : Room (k + 1) X.A) (b : Binds X.K fd ps [])
    (hx : PassesAt (L2.CX X.prog X.w) X σ E) (I : Inv X pins σ H s) (rv : Vals vs us) (h : ∀ y dy, H y = none → H dy = none → dy ≠ y → sp (.ref y :: vs) (upd (upd H dy (.own y)) y (.ins C dy [])) (fun v G => v = .non ∧ Q (.ref y) G) E) :
    wpAny (model X.prog X.w) X.A (call (.ref C) us) (EP X pins σ Q) X.xe s := by
  have n1 := I.hok.fresh (Nat.le_refl s.heap.objs.size)
  have n2 := I.hok.fresh (Nat.le_succ s.heap.objs.size)
  have g := h _ _ n2 n1 (Nat.ne_of_lt (Nat.lt_succ_self s.heap.objs.size))
  have J := Inv.made (C := C) I
  have rs : Vals (V.ref (s.heap.objs.size + 1) :: vs) (Value.ref (s.heap.objs.size + 1) :: us) := .cons rfl rv
  have ln : (Value.ref (s.heap.objs.size + 1) :: us).length = ps.length := rs.length.symm.trans (F.len _ _ _ _ g)
  have bd := b _ (Value.ref (s.heap.objs.size + 1) :: us) J.kIn (by rw [List.append_nil]; exact ln)
  rw [List.append_nil] at bd
  refine wpAny_call (make_map (f := f) I.kIn M.makes M.init (beq_iff_eq.mp M.fn) (codeAny_mono (F.run _ X.stack _ _ _ _ _ _ E (hr.make C us []) (J.env0.make C us []) bd rs g) fun res s' back => ?_))
  match res, back with
  | .error er, back => exact hx pins _ _ er s' J back
  | .ok (.ret u), back =>
    obtain ⟨v, G, J2, r2, e2, q⟩ := J.after back
    subst e2
    exact ⟨r2, .ref (s.heap.objs.size + 1), G, J2, rfl, q⟩
  | .ok .next, back => exact back.elim
  | .ok .brk, back => exact back.elim
  | .ok .cont, back => exact back.elim
def tMakX (C : Addr) (sp : Sp) (W : WX) (t : TA) : TE := fun σ H Q => t σ H fun vs H1 => ∀ y dy, H1 y = none → H1 dy = none → dy ≠ y → sp (.ref y :: vs) (upd (upd H1 dy (.own y)) y (.ins C dy [])) (fun v G => v = .non ∧ Q (.ref y) G) (WE W σ)
theorem pe_makX (c : MakX X.prog X.w X.K X.mg X.base x C k ps sp) (tk : Takes X W) (hr : Room (k + 1) X.A) (ha : PA X (e :: es) t) (hg : Gl X x := by rfl) (hdb : (x == ("__debug__" : Str)) = false := by decide)
    (he : starEach (e :: es) X.env = (false, eval e X.env) :: starEach es X.env := by rfl) (hpl : (backTo pos (starEach es X.env)).any (·.1) = false := by rfl) : PE X (.Call (.Name x p) (e :: es) [] pos) (tMakX C sp W t) := by
  obtain ⟨f, fd, M, ok, g, b⟩ := c.ex
  refine ⟨fun pins s σ H Q I h => wpAny_Call_Name_kw (ld_glob I hg g ?_ hdb)⟩
  exact PySem.W.callWith_K (h₀ := X.base) I.ok.mod.kin M.kp (thn (ha.run pos pins s σ H _ I h) fun us s1 ⟨vs, H1, I1, rv, q⟩ => ⟨I1.kIn, run_makS M ok hr b (passAt tk σ) I1 rv q⟩) he hpl
theorem pe_makN (c : MakX X.prog X.w X.K X.mg X.base x C k ps sp) (hr : Room (k + 1) X.A) (ha : PA X (e :: es) t) (hg : Gl X x := by rfl) (hdb : (x == ("__debug__" : Str)) = false := by decide)
    (he : starEach (e :: es) X.env = (false, eval e X.env) :: starEach es X.env := by rfl) (hpl : (backTo pos (starEach es X.env)).any (·.1) = false := by rfl) : PE X (.Call (.Name x p) (e :: es) [] pos) (tMake C sp [] E0 t) := by
  obtain ⟨f, fd, M, ok, g, b⟩ := c.ex
  exact pe_make (E := E0) M ok hr hg g b .nil passN ha hdb he hpl (p := p)
/-- the class in a slot: `cls(..)` -/
def tMakL (i : Nat) (C : Addr) (sp : Sp) (t : TA) : TE := fun σ H Q => σ[i]? = some (some (.ref C)) ∧ tMake C sp [] E0 t σ H Q
theorem pe_makL {i : Nat} {y : Str} (c : MakX X.prog X.w X.K X.mg X.base x C k ps sp) (hr : Room (k + 1) X.A) (hN : X.N[i]? = some y) (hv : Vis X.env.scope y) (ha : PA X (e :: es) t) (hdb : (y == ("__debug__" : Str)) = false := by decide) (hcd : (y == ("__classdict__" : Str)) = false := by decide)
    (he : starEach (e :: es) X.env = (false, eval e X.env) :: starEach es X.env := by rfl) (hpl : (backTo pos (starEach es X.env)).any (·.1) = false := by rfl) : PE X (.Call (.Name y p) (e :: es) [] pos) (tMakL i C sp t) := by
  obtain ⟨f, fd, M, ok, g, b⟩ := c.ex
  refine ⟨fun pins s σ H Q I h => ?_⟩
  obtain ⟨h1, h2⟩ := h
  refine wpAny_Call_Name_kw (thn ((pe_var (pos := p) hN hv hdb hcd).run pins s σ H (fun v G => v = .ref C ∧ G = H) I ⟨.ref C, h1, rfl, rfl⟩) fun u s1 ⟨v, G, I1, r1, q1⟩ => ?_)
  obtain ⟨rfl, rfl⟩ := q1
  cases r1
  exact PySem.W.callWith_K (h₀ := X.base) I.ok.mod.kin M.kp (thn (ha.run pos pins s1 σ _ _ I1 h2) fun us s2 ⟨vs, H2, I2, rv, q⟩ => ⟨I2.kIn, run_make M ok hr b .nil passN I2 rv q⟩) he hpl
def tMthX (C : Addr) (m : Str) (sp : Sp) (W : WX) (ta : TE) (t : TA) : TE := fun σ H Q => ta σ H fun v H1 => ∃ a dx fs, v = .ref a ∧ H1 a = some (.ins C dx fs) ∧ fs.lookup m = none ∧ t σ H1 fun vs H2 => sp (v :: vs) H2 Q (WE W σ)
theorem pe_mthX {m : Str} {o : Expr} {to : TE} {apos : Pos} {pl : Sem Bool} (c : MthX X.prog X.w X.K X.mg X.base C m k ps sp) (tk : Takes X W) (hr : Room k X.A) (ho : PE X o to) (ha : PA X (e :: es) t)
    (hst : starEach (e :: es) X.env = (false, eval e X.env) :: starEach es X.env := by rfl) (hpl : (backTo pos (starEach es X.env)).any (·.1) = false := by rfl)
    (ht : eval (.Call (.Attribute o m apos) (e :: es) [] pos) X.env = (do
      let ov ← eval o X.env
      standAt apos.atName
      let (f, first) ← holding [ov] (getMethod ov m pl)
      callWith pos f first (backTo pos (starEach (e :: es) X.env)) (backToKw pos (keywordEach [] X.env))) := by rfl) : PE X (.Call (.Attribute o m apos) (e :: es) [] pos) (tMthX C m sp W to t) := by
  obtain ⟨f, fd, cl, mt, ok, b⟩ := c.ex
  refine ⟨fun pins s σ H Q I h => PySem.W.methodCall_KW (pl := pl) (thn (ho.run pins s σ H _ I h) fun u s1 ⟨v, H1, I1, rx, a, dx, fs, ev, ea, l, q⟩ => ?_) ht⟩
  subst ev
  cases rx
  refine getmeth_ok I1 ea cl mt l (PySem.W.callWith_K (first := [.ref a]) (h₀ := X.base) I.ok.mod.kin mt.kp (thn (ha.run pos pins s1 σ H1 _ I1 q) fun us s2 ⟨vs, H2, I2, rv, q2⟩ => ⟨I2.kIn, ?_⟩) hst hpl)
  exact run_fnS (E := fun σ => WE W σ) (us := .ref a :: us) (vs := .ref a :: vs) ok hr b (passAt tk σ) I2 (.cons rfl rv) q2
theorem pe_calE (c : CalE X.prog X.w X.K X.mg X.base x k ps sp) (tk : Takes X W) (hr : Room k X.A) (ha : PA X (e :: es) t) (hg : Gl X x := by rfl) (hdb : (x == ("__debug__" : Str)) = false := by decide)
    (he : starEach (e :: es) X.env = (false, eval e X.env) :: starEach es X.env := by rfl) (hpl : (backTo pos (starEach es X.env)).any (·.1) = false := by rfl) : PE X (.Call (.Name x p) (e :: es) [] pos) (tCallS sp (fun σ => WE W σ) t) := by
  obtain ⟨f, fd, ok, g, kp, b⟩ := c.ex
  exact pe_callS ok hr hg g kp b (fun σ => passAt tk σ) ha hdb he hpl (p := p)
end
/-! ### xs.count(x) of texts -/
section
variable {X : Cx}
def rCntS (K : PySem.W.Frag) : V → List V → Hp → VK → Prop := fun x xs H Q => ∃ (p : Addr) (ns : List Str) (z : Str), x = .ref p ∧ xs = [.str z] ∧ SqL K H p (ns.map V.str) ∧ Q (.int (ns.count z : Nat)) H
theorem plain_strs : ∀ ns : List Str, PyData.plainAll (ns.map PyData.str) = true
  | [] => rfl
  | n :: ns => by
    show (PyData.plain (PyData.str n) && PyData.plainAll (ns.map PyData.str)) = true
    rw [plain_strs ns]
    rfl
theorem depth_strs : ∀ ns : List Str, PyData.depthAll (ns.map PyData.str) ≤ 1
  | [] => Nat.zero_le 1
  | n :: ns => by
    show max (PyData.depth (PyData.str n)) (PyData.depthAll (ns.map PyData.str)) ≤ 1
    exact Nat.max_le.mpr ⟨by show 0 ≤ 1; omega, depth_strs ns⟩
theorem cnt_strs (z : Str) : ∀ ns : List Str, (ns.map PyData.str).countP (fun y => PyData.eqv y (.str z)) = ns.count z
  | [] => rfl
  | n :: ns => by
    rw [List.map_cons, List.countP_cons, List.count_cons, cnt_strs z ns]
    rfl
theorem mt_lcountS (hu : X.A.units + 65 < cLine) : MtR X "list.count" (rCntS X.K) := by
  intro pins s σ H x xs v us Q I rx rxs h
  obtain ⟨p, ns, z, rfl, rfl, hs, q⟩ := h
  cases rx
  obtain ⟨u, rfl, ru⟩ := rxs.one
  obtain ⟨t, rfl⟩ := ru
  obtain ⟨its, rv, pl, _⟩ := I.list hs
  obtain ⟨as, ra⟩ := Dp.readsAll I _ _ its (dp_strs ns) rv
  refine SeqAt.count_list_data pl.isList (by simpa using ra) (Reads.str z t) (plain_strs ns) rfl ?_ ?_
  · have := depth_strs ns
    have := Nat.min_le_left (PyData.depthAll (ns.map PyData.str)) (PyData.depth (.str z))
    omega
  · rw [cnt_strs]
    exact ⟨.int (ns.count z : Nat), H, I.tok _, ⟨s.toks, rfl⟩, q⟩
end
end Px
set_option maxHeartbeats 4000000
/-! t * k for any k from 0 on, t a tuple with items. -/
namespace Px
open PySem PySem.Spec PyProof.Rows L2 Bx TL Dx Zx Ow
theorem mul_one (l : Addr) (its : Array Value) (n : Nat) (dd : Option Addr) (sl : Array (Option Value)) (u : Tok) :
    Meets (Builtin.«tuple.__mul__» ⟨[.ref l, .int 1 u], []⟩) (fun _ R s => s.heap.get? l = some { cls := .type "tuple", dict := dd, data := .seq its n, slots := sl } ∧ R (.ok (.ret (.ref l))) s) :=
  .of_wp fun prog w A R s h => by
    obtain ⟨hp, g, d, tk, os⟩ := s
    obtain ⟨hl, h⟩ := h
    have f1 := AutoSeq1.idx_int
    have c1 : (its.isEmpty || (1 : Int) == 1) = true := by rw [show ((1 : Int) == 1) = true from rfl, Bool.or_true]
    wp_walk using wpAny_loadPart' hl
    repeat (first
      | (refine wpAny_ite_true (decide_eq_true c1) ?_; wp_walk using wpAny_loadPart' hl)
      | (refine wpAny_ite_false (by decide) ?_; wp_walk using wpAny_loadPart' hl))
    exact ⟨_, rfl, h⟩
theorem mul_nil (l : Addr) (its : Array Value) (n : Nat) (dd : Option Addr) (sl : Array (Option Value)) (u : Tok) (hi : its.isEmpty = false) :
    Meets (Builtin.«tuple.__mul__» ⟨[.ref l, .int 0 u], []⟩) (fun _ R s => s.heap.get? l = some { cls := .type "tuple", dict := dd, data := .seq its n, slots := sl } ∧
      R (.ok (.ret (Value.ref s.heap.objs.size))) { s with heap := s.heap.push { cls := Value.type "tuple", data := Data.seq #[] }, toks := s.toks }) :=
  .of_wp fun prog w A R s h => by
    obtain ⟨hp, g, d, tk, os⟩ := s
    obtain ⟨hl, h⟩ := h
    have f1 := AutoSeq1.idx_int
    have c1 : (its.isEmpty || (0 : Int) == 1) = false := by rw [hi]; rfl
    wp_walk using wpAny_loadPart' hl
    repeat (first
      | (refine wpAny_ite_false (decide_eq_false (by rw [c1]; exact Bool.false_ne_true)) ?_; wp_walk using wpAny_loadPart' hl)
      | (refine wpAny_ite_true (by decide) ?_; wp_walk using wpAny_loadPart' hl)
      | (refine wpAny_ite_false (by decide) ?_; wp_walk using wpAny_loadPart' hl))
    exact ⟨_, rfl, h⟩
def rRepA (K : PySem.W.Frag) : R2 := fun x y H Q => ∃ (l : Addr) (k : Nat) (xs : List V), x = .ref l ∧ y = .int (k : Int) ∧ SqT K H l xs ∧ xs ≠ [] ∧ k ≤ 1000 ∧ xs.length ≤ 1000 ∧ (k = 1 → Q (.ref l) H) ∧ (k ≠ 1 → ∀ p, H p = none → Q (.ref p) (upd H p (.tup (List.replicate k xs).flatten)))
theorem op_repA {X : Cx} : OpR X (binaryOp .Mult) (rRepA X.K) := by
  intro pins s σ H x y v u Q I rx ry h
  obtain ⟨l, k, xs, rfl, rfl, hT, hne, hk, hx, q1, q2⟩ := h
  by_cases h2 : 2 ≤ k
  · exact op_repT pins s σ H _ _ v u Q I rx ry ⟨l, (k : Int), xs, rfl, rfl, hT, hne, by omega, by omega, hx, fun p np => q2 (by omega) p np⟩
  · cases rx
    obtain ⟨t, rfl⟩ := ry
    obtain ⟨its, rv, ⟨⟨cls, dd, data, sl⟩, ho, hc, n, hd⟩, hsz⟩ := I.tuple hT
    simp only at hc hd
    subst hc hd
    have hi : its.toArray.isEmpty = false := by
      cases its with
      | nil =>
        cases rv
        exact absurd rfl hne
      | cons a b => rfl
    have hT2 : s.TypeIs (.ref l) "tuple" := ⟨_, ho, rfl⟩
    have go : ∀ {Z : Value → Shared → Prop} {D : Value → Shared → Prop}, wpAny (model X.prog X.w) X.A (call (.builtin "tuple.__mul__") [.ref l, .int (k : Int) t]) Z D s → wpAny (model X.prog X.w) X.A (binaryOp .Mult (.ref l) (.int (k : Int) t)) Z D s := fun {Z D} z =>
      wpAny_binaryOp_repeat_ref (T := "tuple") (U := "int") (by decide) hT2 (fun z => typeIs_int z (k : Int) t) noFill_tuple_mul F.fills_int_mul F.slot_int_rmul repeat_tuple F.slot_int_index.lookup
        (call_meets F.slot_int_rmul (typeIs_int s (k : Int) t) F.entry_int_rmul (F.args_int_rmul_2 _ _) (int_rmul_tuple (k : Int) t l its.toArray n dd sl) ⟨ho, rfl, hT2, z⟩)
    refine go ?_
    rcases (show k = 0 ∨ k = 1 by omega) with rfl | rfl
    · refine call_meets F.slot_tuple_mul hT2 F.entry_tuple_mul (F.args_tuple_mul_2 _ _) (mul_nil l its.toArray n dd sl t hi) ⟨ho, ?_⟩
      exact ⟨.ref s.heap.objs.size, _, I.laid (t' := s.toks) (o := .tup []) (fun b ob q => Heap.get?_push_of_some _ q) (Nat.le_refl _) ⟨Nat.zero_le _, [], .nil, IsTup.new _ _⟩, rfl, q2 (by omega) _ (I.hok.fresh (Nat.le_refl _))⟩
    · exact call_meets F.slot_tuple_mul hT2 F.entry_tuple_mul (F.args_tuple_mul_2 _ _) (mul_one l its.toArray n dd sl t) ⟨ho, .ref l, H, I, rfl, q1 rfl⟩
end Px
/-! try with several clauses, each of which names the error by the same name. -/
namespace Px
open PySem PySem.Spec PyProof.Rows L2 Bx TL Dx Zx Ow
abbrev Cl := Value × (Addr → Value → Option Addr → TS)
/-- the ends of a suite behind which slot i is taken away -/
def gone (i : Nat) (D : Ends) : Ends := { nx := fun σ H => D.nx (σ.set i none) H, rt := D.rt, bk := fun σ H => D.bk (σ.set i none) H, ct := fun σ H => D.ct (σ.set i none) H }
def wAsM (K : PySem.W.Frag) (i : Nat) (W0 : WX) (D : Ends) : List Cl → WX
  | [] => W0
  | c :: r => fun cls d σ H => ∃ b, PySem.W.exmOne K cls c.1 = some b ∧ (b = true → ∀ a, H a = none → c.2 a cls d (gone i D) (σ.set i (some (.ref a))) H) ∧ (b = false → wAsM K i W0 D r cls d σ H)
inductive HdA (X : Cx) (n : Str) : List ExceptHandler → List Cl → Prop
  | nil : HdA X n [] []
  | cons {x : Str} {c : Cl} {b0 : Stmt} {bs : List Stmt} {p1 p2 : Pos} {hs : List ExceptHandler} {l : List Cl} (nm : Names X x c.1)
      (su : ∀ (a : Addr) (o : Obj) (cls : Value) (d : Option Addr) (pn : List (Addr × Obj)), Zc cls d o → (∃ vs, o.data = .fields vs) → PSs (X.suite a ((a, o) :: pn)) (b0 :: bs) (c.2 a cls d)) (r : HdA X n hs l) :
      HdA X n (.ExceptHandler (some (.Name x p1)) (some n) (b0 :: bs) p2 :: hs) (c :: l)
section
variable {X : Cx} {n : Str} {i : Nat} {body : List Stmt} {h0 : ExceptHandler} {hs : List ExceptHandler} {l : List Cl} {pos : Pos} {tb : WX → TS} {W0 : WX}
theorem ps_tryA (hst : X.stack = X.env :: X.outer) (hfr : X.env.frame = some X.env.locals) (nd : X.N.Nodup) (hi : X.N[i]? = some n) (loc : X.env.kindOf n = some .local) (tk : Takes X W0)
    (hb : ∀ (W : WX) (pn : List (Addr × Obj)) (xe : Value → Shared → Prop), Takes (X.tr pn xe) W → PassesOwn (model X.prog X.w) X.A X.env xe → PSs (X.tr pn xe) body (tb W)) (hh : HdA X n (h0 :: hs) l) :
    PS X (.Try body (h0 :: hs) [] [] pos) (fun D σ H => tb (wAsM X.K i W0 D l) D σ H) := by
  refine ⟨fun pins s σ H D I h => wpAny_Try_except ?_⟩
  have ok := I.ok
  have fr2 : X.A.frames = some (X.env :: X.outer) := by rw [ok.frames, hst]
  refine wpAny_mono ((hb (wAsM X.K i W0 D l) (X.pn ++ pins) (fun e t1 => wpAny (model X.prog X.w) X.A (noteFrame e X.env) (fun _ t2 => wpAny (model X.prog X.w) X.A (setFlight e none) (fun _ t3 => wpAny (model X.prog X.w) X.A (handleBy e X.env (h0 :: hs)) (SP X pins D) X.xe t3) X.xe t2) X.xe t1)
    (fun er s' got => ?_) PassesOwn.looking).run [] s σ H D (I.toTry _) h) (fun fl s1 hsp => ?_) (fun er s1 he => he)
  · obtain ⟨a, B, sI, pins2, τ, G, cls, d, rfl, J0, nb, up, sky, na, os, ag, wish⟩ := got
    have J : Inv X pins τ G sI := J0.ofTry ok
    have sk2 : Sky B (X.env :: X.outer) a (Zc cls d) X.env.locals s'.heap := by rw [← hst]; exact sky
    show wpAny (model X.prog X.w) X.A (noteFrame (.ref a) X.env) _ _ _
    refine Sky.land Zc.steady fr2 hfr sk2 fun h3 fl3 up3 => ?_
    have J3 : Inv X pins τ G { s' with heap := h3 } := J.landed nb fl3.1 (up.trans up3) os ag
    obtain ⟨o3, v3, ho3, hz3, hd3⟩ := fl3.there
    have out : a ∉ frs (X.env :: X.outer) := fun hm => by
      obtain ⟨_, o2, ho2, no⟩ := fl3.2.2.1.mem hm
      rw [ho3] at ho2
      cases ho2
      exact no _ hd3
    have nL : a ≠ X.env.locals := fun z => out (List.mem_filterMap.mpr ⟨X.env, List.mem_cons_self, hfr.trans (congrArg some z.symm)⟩)
    have nF : a ∉ X.fs := fun hm => by
      obtain ⟨e, he, q⟩ := List.mem_filterMap.mp hm
      exact out (List.mem_filterMap.mpr ⟨e, List.mem_cons_of_mem _ he, q⟩)
    have S3 := J3.suite ho3 hd3 na nL nF
    have go : ∀ {hs2 : List ExceptHandler} {l2 : List Cl}, HdA X n hs2 l2 → wAsM X.K i W0 D l2 cls d τ G → wpAny (model X.prog X.w) X.A (handleBy (.ref a) X.env hs2) (SP X pins D) X.xe { s' with heap := h3 } := by
      intro hs2 l2 hk
      induction hk with
      | nil =>
        intro wish
        refine wpAny_handleBy_nil ?_
        obtain ⟨_, _, _, o4, v4, T, _, _, ho4, _, hd4, hT, _⟩ := id fl3
        unfold PySem.passOn
        refine wpAny_bind (wpAny_field ho4 hd4 hT ?_)
        rw [if_neg (show ¬ ((Value.ref T == Value.none) = true) from Bool.false_ne_true)]
        have last : wpAny (model X.prog X.w) X.A (setFlight (.ref a) X.env.frame) (fun _ t => wpAny (model X.prog X.w) X.A (throw (.ref a) : Sem Flow) (SP X pins D) X.xe t) X.xe { s' with heap := h3 } := by
          rw [hfr]
          refine HandSPX.setFlight_upZ fl3 fun h4 hh4 up4 => wpAny_throw (tk _ _ ⟨a, B, sI, pins, τ, G, cls, d, rfl, J, nb, (up.trans up3).trans up4, .inr (.inr ?_), na, os, ag, wish⟩)
          rw [hst]
          exact hh4
        first
          | exact wpAny_bind (wpAny_pure (wpAny_bind last))
          | exact wpAny_bind last
      | @cons x c b0 bs p1 p2 hs3 l3 nm su r ih =>
        intro wish
        obtain ⟨b, eb, yes, no⟩ := wish
        refine wpAny_handleBy_cons (codeAny_handlers_test ?_) (by intro q; cases q)
        have LT : PySem.W.Looks (model X.prog X.w) h3 (typeOf (.ref a)) cls := fun A Q E t k q => wpAny_typeOf_ref (k _ _ ho3) (by rw [hz3.1]; exact q)
        have LM := PySem.W.exm_one (M := model X.prog X.w) J3.kIn LT eb
        have look : ∀ {Q : Value → Shared → Prop} {E : Value → Shared → Prop}, Q c.1 { s' with heap := h3 } → wpAny (model X.prog X.w) (X.A.mark (some (.ref a))) (eval (.Name x p1) X.env) Q E { s' with heap := h3 } := fun {Q E} q => by
          obtain ⟨hg, hdb, hm | ⟨hm, hv, hnn⟩⟩ := nm
          · exact ld_glob (X := X.suite a ((a, o3) :: (X.pn ++ pins))) S3 hg hm q hdb
          · exact ld_blt (X := X.suite a ((a, o3) :: (X.pn ++ pins))) S3 hg hm hv q hnn hdb
        refine look (LM.here ?_)
        cases b with
        | false =>
          show wpAny _ X.A (handleBy (.ref a) X.env hs3) _ _ _
          exact ih (no rfl)
        | true =>
          refine codeAny_handlers_suite_as (HandSPX.lands_againZ fl3 fun h4 fl4 up4 => ?_)
          have J4 : Inv X pins τ G { s' with heap := h4 } := J.landed nb fl4.1 ((up.trans up3).trans up4) os ag
          obtain ⟨o4, v4, ho4, hz4, hd4⟩ := fl4.there
          refine store_ok (X := X.suite a ((a, o4) :: (X.pn ++ pins))) (v := .ref a) (J4.suite ho4 hd4 na nL nF) nd hi (.inl loc) rfl (fun s5 S5 => ?_) (.inr loc)
          refine wpAny_mono ((su a o4 cls d (X.pn ++ pins) hz4 ⟨_, hd4⟩).run [] s5 _ G _ S5 (yes rfl a na)) (fun fl s6 hsp => ?_) (fun _ _ z => False.elim z)
          have out6 : ∀ {ρ : L2.St} {H6 : Hp} {Q : Shared → Prop}, Inv (X.suite a ((a, o4) :: (X.pn ++ pins))) [] ρ H6 s6 → (∀ s7, Inv X pins (ρ.set i none) H6 s7 → Q s7) → wpAny (model X.prog X.w) X.A (do bindName X.env n .none; unbindBehindTheSuite X.env n p2) (fun _ s7 => Q s7) X.xe s6 :=
            fun S6 hq => gone_ok (S6.unsuite ok) nd hi loc hq
          match fl, hsp with
          | .next, ⟨ρ, H6, S6, q⟩ => exact out6 S6 fun s7 J7 => ⟨_, _, J7, q⟩
          | .brk, ⟨ρ, H6, S6, q⟩ => exact out6 S6 fun s7 J7 => ⟨_, _, J7, q⟩
          | .cont, ⟨ρ, H6, S6, q⟩ => exact out6 S6 fun s7 J7 => ⟨_, _, J7, q⟩
          | .ret u, ⟨v6, ρ, H6, S6, r6, q⟩ => exact out6 S6 fun s7 J7 => ⟨_, _, _, J7, r6, q⟩
    exact go hh wish
  · match fl, hsp with
    | .next, ⟨ρ, G, J, q⟩ => exact wpAny_execs_nil ⟨ρ, G, J.ofTry ok, q⟩
    | .brk, ⟨ρ, G, J, q⟩ => exact ⟨ρ, G, J.ofTry ok, q⟩
    | .cont, ⟨ρ, G, J, q⟩ => exact ⟨ρ, G, J.ofTry ok, q⟩
    | .ret u, ⟨v, ρ, G, J, rv, q⟩ => exact ⟨v, ρ, G, J.ofTry ok, rv, q⟩
end
end Px
/-! list(o), o of an own class with `__iter__` over a tuple and `__len__`. -/
namespace Px
open PySem PySem.Spec PyProof.Rows L2 Bx TL Dx Zx Ow
section
variable {X : Cx} {pins : List (Addr × Obj)} {σ : L2.St} {H : Hp} {s : Shared} {C p dx : Addr} {fs : List (Str × V)} {k : Nat} {ps : List Str} {sp : Sp} {A1 : Around} {E1 : Value → Shared → Prop}
theorem len_at {Q : Value → Shared → Prop} (sb : Sub X (k + 1) A1) (c : OwM X.prog X.w X.K X.mg X.base CX0 C "__len__" k ps sp) (I : Inv X pins σ H s) (ha : H p = some (.ins C dx fs)) (hsp : sp [.ref p] H (fun v G => G = H ∧ ∃ n : Nat, v = .int (n : Int) ∧ n ≤ 1000) E0)
    (q : ∀ (n : Nat) t s', n ≤ 1000 → Inv X pins σ H s' → Q (.int (n : Int) t) s') : wpAny (model X.prog X.w) A1 (call (.builtin "len") [.ref p]) Q E1 s := by
  obtain ⟨f, fd, ok, hs, hf, _, hb⟩ := c.ex
  obtain ⟨od, J⟩ := inst_of I ha
  obtain ⟨m, hF⟩ := I.fr
  refine PySem.W.len_K hF I.ok.mod.kin J hs hf ?_
  refine wpAny_mono (call_at sb.in1 ok hb I (vs := [.ref p]) (.cons rfl .nil) hsp (fun e s' z => z.elim)) (fun u s' hu => ?_) (fun _ _ z => z)
  obtain ⟨v, G, I', rv, rfl, n, rfl, hn⟩ := hu
  obtain ⟨t, rfl⟩ := rv
  exact ⟨⟨by omega, by omega⟩, q n _ _ hn (I'.tok _)⟩
theorem hint_own {Q : Bool → Shared → Prop} (sb : Sub X (k + 1) A1) (c : OwM X.prog X.w X.K X.mg X.base CX0 C "__len__" k ps sp) (I : Inv X pins σ H s) (ha : H p = some (.ins C dx fs)) (hsp : sp [.ref p] H (fun v G => G = H ∧ ∃ n : Nat, v = .int (n : Int) ∧ n ≤ 1000) E0)
    (q : ∀ b s', Inv X pins σ H s' → Q b s') : wpAny (model X.prog X.w) A1 (Builtin.List.listLengthHint (.ref p)) Q E1 s := by
  obtain ⟨f, fd, ok, hs, hf, _, hb⟩ := id c.ex
  obtain ⟨od, J⟩ := inst_of I ha
  unfold Builtin.List.listLengthHint
  refine wpAny_bind (wpAny_bind (J.type.here ((PySem.W.looks_findIn I.kIn hs).here ?_)))
  refine PySem.W.KFB.if_not rfl ?_
  show wpAny _ _ (rule _ >>= _) _ _ _
  refine wpAny_bind (wpAny_rule ?_)
  refine wpAny_bind (wpAny_attempt (len_at sb c I ha hsp fun n t s' hn I' => ?_))
  show wpAny _ _ (asInt? (Value.int (n : Int) t) >>= _) _ _ _
  refine wpAny_bind (wpAny_pure ?_)
  refine PySem.W.KFB.if_not ?_ (wpAny_pure (q _ s' I'))
  show decide ((n : Int).toNat > sizeLine) = false
  rw [sizeLine_eq]
  exact decide_eq_false (by omega)
/-- the iterator of o, where `__iter__` gives iter(self.f) -/
theorem iter_at {f : Str} {t : Addr} {zs : List V} {Q : Value → Shared → Prop} (sb : Sub X k A1) (c : ItM X.prog X.w X.K X.mg X.base C f k) (I : Inv X pins σ H s) (ha : H p = some (.ins C dx fs)) (hl : fs.lookup f = some (.ref t)) (hz : SqT X.K H t zs)
    (q : ∀ it s', Inv X pins σ H s' → s'.heap.IsTupleIter it t 0 → FpOk X pins H it → Q (.ref it) s') : wpAny (model X.prog X.w) A1 (pyIter (.ref p)) Q E1 s := by
  obtain ⟨fi, hfi, hf, go⟩ := c.ex
  obtain ⟨od, J⟩ := inst_of I ha
  obtain ⟨m, hF⟩ := I.fr
  refine PySem.W.owit_iter hF I.ok.mod.kin J hfi hf ?_
  have z0 := I.env0
  have e0 : Env0 X.prog X.w X.K X.mg X.base A1 X.stack s H := ⟨by rw [sb.fr]; exact z0.frames, z0.mod, z0.bs, z0.bsz, z0.funs, z0.frf, z0.hok, z0.bare⟩
  refine wpAny_call (codeAny_mono (go A1 X.stack s H E0 p dx t fs zs sb.room e0 ha hl hz) fun res s' back => ?_)
  match res, back with
  | .error e, back => exact back.elim
  | .ok .next, back => exact back.elim
  | .ok .brk, back => exact back.elim
  | .ok .cont, back => exact back.elim
  | .ok (.ret u), back =>
    obtain ⟨v, G, I2, rv, it, rfl, n1, hy, rfl⟩ := I.after back
    cases rv
    have e2 : upd H it (TiO t it) it = some (TiO t it) := upd_same
    have hit : s'.heap.IsTupleIter it t 0 := by
      have : ObjOk X.prog X.w (upd H it (TiO t it)) s'.heap it (.ext fun h => h.IsTupleIter it t 0) := I2.hok it _ e2
      exact this.1
    show wpAny _ _ (specialOf (.ref it) "__next__") _ _ _
    refine wpAny_specialOf (name := Str.ofString "__next__") hit.typeIs PySem.F.slot_tuple_iterator_next.lookup ?_
    have I3 := ItX.inv_drop I2 e2
    have fp := ItX.inv_fp I2 e2 (Nat.le_trans I.sz hy)
    rw [ItX.dropH_upd n1] at I3 fp
    exact q it s' I3 hit fp
theorem ext_loop {L it t : Addr} {zs : List V} {Rs : Result → Shared → Prop} (hc : X.calm = true) (hL : H L = some (.lst [])) (hz : SqT X.K H t zs) (hzl : zs.length ≤ 1000) (fp : FpOk X pins H it)
    (done : ∀ s', Inv X pins σ (upd H L (.lst zs)) s' → Rs (.ok (.ret .none)) s') :
    ∀ (m i : Nat) (s : Shared), zs.length - i = m → i ≤ zs.length → Inv X pins σ (upd H L (.lst (zs.take i))) s → s.heap.IsTupleIter it t i → codeAny (model X.prog X.w) X.A.in1 (.builtin "list.extend.loop" ⟨[.ref L, .ref it, .none], []⟩) Rs s := by
  have hzi : ∀ ys, SqT X.K (upd H L (.lst ys)) t zs := fun ys => by
    rcases hz with (h | ⟨u, h⟩) | h
    · exact .inl (.inl (by rw [upd_ne fun z => by rw [z, hL] at h; cases h]; exact h))
    · exact .inl (.inr ⟨u, by rw [upd_ne fun z => by rw [z, hL] at h; cases h]; exact h⟩)
    · exact .inr h
  have hit : it ≠ L := fun z => by
    have := fp.1
    rw [z, hL] at this
    cases this
  have fpi : ∀ ys, FpOk X pins (upd H L (.lst ys)) it := fun ys => ⟨by rw [upd_ne hit]; exact fp.1, fp.2⟩
  intro m
  induction m with
  | zero =>
    intro i s hm hi I st
    have e : i = zs.length := by omega
    subst e
    obtain ⟨its, rv, pt, _⟩ := I.tuple (hzi _)
    obtain ⟨f0, f1, f2, f3, f4, f5⟩ := fpi (zs.take zs.length)
    have hl := rv.length
    refine codeAny_builtin PySem.F.entry_extend_loop ?_
    rw [Around.under_plainId PySem.F.plain_extend_loop _]
    show wpAny _ X.A.in1.in1 (pyNext (.ref it) >>= _) _ _ s
    refine wpAny_bind (wpAny_pyNext_tuple_end (I.ok.hd hc) st (show s.heap.IsTuple t its.toArray from pt) (by simp; omega) fun h' eb => ?_)
    have I1 : Inv X pins σ (upd H L (.lst (zs.take zs.length))) { s with heap := h' } := I.turned (t' := s.toks) (fun b o hb e => eb b o hb e) f0 f1 f3 f4 f5
    rw [List.take_length] at I1
    exact wpAny_pure (done _ I1)
  | succ m ih =>
    intro i s hm hi I st
    have hlt : i < zs.length := by omega
    obtain ⟨its, rv, pt, _⟩ := I.tuple (hzi _)
    obtain ⟨u, hu, ru⟩ := rv.get (List.getElem?_eq_getElem hlt)
    obtain ⟨f0, f1, f2, f3, f4, f5⟩ := fpi (zs.take i)
    refine codeAny_builtin PySem.F.entry_extend_loop ?_
    rw [Around.under_plainId PySem.F.plain_extend_loop _]
    show wpAny _ X.A.in1.in1 (pyNext (.ref it) >>= _) _ _ s
    refine wpAny_bind (wpAny_pyNext_tuple_item st (show s.heap.IsTuple t its.toArray from pt) (x := u) (by simpa using hu) fun h' st' sb => ?_)
    have I1 : Inv X pins σ (upd H L (.lst (zs.take i))) { s with heap := h' } := I.turned (t' := s.toks) (fun b o hb e => (sb.2 b hb).trans e) f0 f1 f3 f4 f5
    obtain ⟨z, js, c, rj, hjl, ej⟩ := I1.lstM upd_same
    have tl : (zs.take i).length = i := by rw [List.length_take]; omega
    have jl : js.length = i := by rw [← rj.length, tl]
    show wpAny _ X.A.in1.in1 (updateSeq L (·.push u) >>= _) _ _ _
    have I2 := I1.lset (f := (·.push u)) (its := js) (its' := js ++ [u]) (ys := zs.take (i + 1)) (t' := s.toks) upd_same ej (by simp) (by rw [List.take_add_one, List.getElem?_eq_getElem hlt]; exact rj.append (.cons ru .nil)) (by rw [List.length_take, sizeLine_eq]; omega)
    rw [upd_upd] at I2
    refine wpAny_bind (wpAny_updateSeq ej rfl (wpAny_pure ⟨plainId_quiet PySem.F.plain_extend_loop _, ih (i + 1) _ (by omega) hlt I2 ?_⟩) (by rw [List.size_toArray, jl, sizeLine_eq]; omega) (by show (js.toArray.push u).size ≤ sizeLine + 1; rw [Array.size_push, List.size_toArray, jl, sizeLine_eq]; omega))
    exact st'.at fun o e => (Heap.get?_update_other _ _ (Ne.symm hit)).trans e
def rListO (K : PySem.W.Frag) (C : Addr) (f : Str) (sp : Sp) : List V → Hp → VK → Prop := fun xs H Q => ∃ (p dx t : Addr) (fs : List (Str × V)) (zs : List V), xs = [.ref p] ∧ H p = some (.ins C dx fs) ∧ fs.lookup f = some (.ref t) ∧ SqT K H t zs ∧ zs.length ≤ 1000 ∧
  (∀ G, (∀ b o, H b = some o → G b = some o) → sp [.ref p] G (fun v G' => G' = G ∧ ∃ n : Nat, v = .int (n : Int) ∧ n ≤ 1000) E0) ∧ ∀ q, H q = none → Q (.ref q) (upd H q (.lst zs))
theorem call_listO {f : Str} (hc : X.calm = true) (ci : ItM X.prog X.w X.K X.mg X.base C f k) (cl : OwM X.prog X.w X.K X.mg X.base CX0 C "__len__" k ps sp) (hr : Room (k + 3) X.A) : CallR X (.type "list") (rListO X.K C f sp) := by
  intro pins s σ H xs us Q I rv h
  obtain ⟨p, dx, t, fs, zs, rfl, hp, hl, hz, hzl, hsp, q⟩ := h
  obtain ⟨u, rfl, ru⟩ := rv.one
  cases ru
  have sb : Sub X (k + 1) X.A.in1.in1 := Sub.in1 (Sub.in1 (sub_self hr))
  refine callType_codes (Q₁ := fun obj s1 => obj = .ref s.heap.objs.size ∧ s1 = { s with heap := s.heap.push { cls := .type "list", data := .seq #[] } }) PySem.F.called_list (PySem.F.typeCall_list_1 _) PySem.F.entry_list_init (code_list_new _ ⟨rfl, rfl⟩) fun obj s1 h1 => ?_
  obtain ⟨rfl, rfl⟩ := h1
  have hS : (s.heap.push { cls := .type "list", data := .seq #[] }).get? s.heap.objs.size = some { cls := .type "list", data := .seq #[] } := Heap.get?_push_size _ rfl
  refine ⟨⟨_, hS, rfl⟩, PySem.F.args_list_init_2 _ _, ?_⟩
  have fr : H s.heap.objs.size = none := I.hok.fresh (Nat.le_refl _)
  have I1 : Inv X pins σ (upd H s.heap.objs.size (.lst [])) { s with heap := s.heap.push { cls := .type "list", data := .seq #[] } } := I.lnew (its := []) (t' := s.toks) .nil (Nat.zero_le _)
  have q2 := q _ fr
  have sm : Same H (upd H s.heap.objs.size (.lst [])) := same_new fr
  generalize hLd : s.heap.objs.size = L at hS fr I1 q2 sm ⊢
  show wpAny _ _ (do let old ← Builtin.List.listItems (.ref L); Builtin.List.listUpdate (.ref L) (fun _ => #[]); letGo old.toList.reverse; Builtin.List.listExtendWith (.ref L) (.ref p) .none) _ _ _
  refine wpAny_bind ?_
  unfold Builtin.List.listItems
  refine wpAny_bind (wpAny_seqItems hS rfl (wpAny_pure ?_))
  show wpAny _ _ (updateSeq L (fun _ => #[]) >>= fun _ => letGo (#[] : Array Value).toList.reverse >>= fun _ => Builtin.List.listExtendWith (.ref L) (.ref p) .none) _ _ _
  refine wpAny_bind (wpAny_updateSeq hS rfl ?_)
  have I2 := I1.lset (f := fun _ => #[]) (its := []) (its' := []) (ys := []) (t' := s.toks) upd_same hS rfl .nil (Nat.zero_le _)
  rw [upd_upd] at I2
  refine wpAny_bind (wpAny_letGo ?_)
  have hp2 := sm _ _ hp
  have hz2 := Bx.Same.tup sm hz
  have hsp2 := hsp _ sm
  have hL2 : upd H L (.lst []) L = some (.lst []) := upd_same
  have hne : L ≠ p := fun z => by rw [← z, fr] at hp; cases hp
  have fin : ∀ s', Inv X pins σ (upd (upd H L (.lst [])) L (.lst zs)) s' → EP X pins σ Q (.ref L) s' := fun s' I' => by
    rw [upd_upd] at I'
    exact ⟨.ref L, _, I', rfl, q2⟩
  clear q2 q hsp I1 I hS
  obtain ⟨mA, J, _⟩ := ins_get I2.hok hp2
  obtain ⟨od, J, _⟩ := J.look
  unfold Builtin.List.listExtendWith
  refine wpAny_bind (J.type.here ?_)
  have e1 : Builtin.List.listSameRef (.ref L) (.ref p) = false := by simp [Builtin.List.listSameRef, hne]
  have e2 : (Value.ref C == Value.type "list") = false := rfl
  have e3 : (Value.ref C == Value.type "tuple") = false := rfl
  simp only [e1, e2, e3, Bool.or_false, Bool.false_eq_true, if_false]
  refine wpAny_bind (iter_at (sb.mono (Nat.le_succ _)) ci I2 hp2 hl hz2 fun it s2 I3 hit fp => ?_)
  obtain ⟨oi, hoi, hci, hdi⟩ := id hit
  have Ip := I3.pinned (fp := [it]) (fun b hb => by rw [List.mem_singleton.mp hb]; exact fp) (fun b hb => by rw [List.mem_singleton.mp hb]; exact ⟨oi, hoi, fun v z => by rw [hdi] at z; cases z⟩)
  refine wpAny_bind (wpAny_holding (hint_own sb cl Ip hp2 hsp2 fun b s3 I4 => ?_))
  have hit3 : s3.heap.IsTupleIter it t 0 := hit.at fun o e => (I4.pin (it, o) (List.mem_append_right _ (List.mem_append_right _ (mem_pinsAt List.mem_cons_self e)))).1
  have I5 := I4.unpinned
  have run : ∀ s5, Inv X pins σ (upd (upd H L (.lst [])) L (.lst (zs.take 0))) s5 → s5.heap.IsTupleIter it t 0 → codeAny (model X.prog X.w) X.A.in1 (.builtin "list.extend.loop" ⟨[.ref L, .ref it, .none], []⟩) (wants (fun r s6 => r = .none ∧ EP X pins σ Q (.ref L) s6) X.xe) s5 := fun s5 J5 st5 =>
    ext_loop hc hL2 hz2 hzl fp (fun s6 J6 => ⟨rfl, fin s6 J6⟩) _ 0 s5 rfl (Nat.zero_le _) J5 st5
  have hH : upd (upd H L (.lst [])) L (.lst (zs.take 0)) = upd H L (.lst []) := upd_upd
  rw [hH] at run
  have hneL : it ≠ L := fun z => by
    have := fp.1
    rw [z, hL2] at this
    cases this
  refine wpAny_ite_split (fun _ => wpAny_bind (wpAny_rule (wpAny_bind ?_))) (fun _ => wpAny_pure ⟨plainId_quiet PySem.F.plain_extend_loop _, run s3 I5 hit3⟩)
  obtain ⟨z1, j1, c1, r1, l1, w1⟩ := I5.lstM hL2
  cases r1
  show wpAny _ _ (updateSeq L (·.push .none) >>= fun _ => updateSeq L (·.pop)) _ _ s3
  have K1 := I5.lset (f := (·.push Value.none)) (its' := [Value.none]) (ys := [.non]) (t' := s3.toks) hL2 w1 (by simp) (.cons rfl .nil) (by rw [sizeLine_eq]; decide)
  refine wpAny_bind (wpAny_updateSeq w1 rfl ?_)
  obtain ⟨z2, j2, c2, r2, l2, w2⟩ := K1.lstM upd_same
  obtain ⟨u2, rfl, _⟩ := r2.one
  have K2 := K1.lset (f := (·.pop)) (its := [u2]) (its' := []) (ys := []) (t' := s3.toks) upd_same w2 rfl .nil (Nat.zero_le _)
  rw [upd_upd, upd_upd] at K2
  refine wpAny_updateSeq w2 rfl (wpAny_pure ⟨plainId_quiet PySem.F.plain_extend_loop _, run _ K2 ?_⟩) (by show 1 ≤ sizeLine; rw [sizeLine_eq]; decide) (Nat.zero_le _)
  exact hit3.at fun o e => (Heap.get?_update_other _ _ (Ne.symm hneL)).trans ((Heap.get?_update_other _ _ (Ne.symm hneL)).trans e)
end
end Px
/-! o.m(..) where a method that may raise does not; C.m(..) of a classmethod. -/
namespace Px
open PySem PySem.Spec PyProof.Rows L2 Bx TL Dx Zx Ow
structure CmC (P : Program) (w : World) (K : PySem.W.Frag) (mg : Str → Option Value) (base : Heap) (C : Addr) (m : Str) (k : Nat) (sp : Sp) : Prop where
  ex : ∃ (mc : Value) (p g : Addr), ClX.CRead K C mc ∧ ClX.CMet K C mc m p g ∧ FnR P w K mg base CX0 k g sp
section
variable {X : Cx} {k : Nat} {ps : List Str} {sp : Sp} {o e : Expr} {es : List Expr} {t : TA} {apos pos : Pos} {C : Addr} {m : Str} {to : TE} {pl : Sem Bool}
theorem pe_mthN (c : MthX X.prog X.w X.K X.mg X.base C m k ps sp) (hr : Room k X.A) (ho : PE X o to) (ha : PA X (e :: es) t)
    (hst : starEach (e :: es) X.env = (false, eval e X.env) :: starEach es X.env := by rfl) (hpl : (backTo pos (starEach es X.env)).any (·.1) = false := by rfl)
    (ht : eval (.Call (.Attribute o m apos) (e :: es) [] pos) X.env = (do
      let ov ← eval o X.env
      standAt apos.atName
      let (f, first) ← holding [ov] (getMethod ov m pl)
      callWith pos f first (backTo pos (starEach (e :: es) X.env)) (backToKw pos (keywordEach [] X.env))) := by rfl) : PE X (.Call (.Attribute o m apos) (e :: es) [] pos) (tMeth C m sp [] E0 to t) := by
  obtain ⟨f, fd, cl, mt, ok, b⟩ := c.ex
  exact pe_meth (E := E0) ho cl mt ok hr b .nil passN ha hst hpl ht
theorem pe_cme (c : CmC X.prog X.w X.K X.mg X.base C m k sp) (hr : Room k X.A) (ho : PE X o to) (ha : PA X (e :: es) t)
    (hst : starEach (e :: es) X.env = (false, eval e X.env) :: starEach es X.env := by rfl) (hpl : (backTo pos (starEach es X.env)).any (·.1) = false := by rfl)
    (ht : eval (.Call (.Attribute o m apos) (e :: es) [] pos) X.env = (do
      let ov ← eval o X.env
      standAt apos.atName
      let (f, first) ← holding [ov] (getMethod ov m pl)
      callWith pos f first (backTo pos (starEach (e :: es) X.env)) (backToKw pos (keywordEach [] X.env))) := by rfl) : PE X (.Call (.Attribute o m apos) (e :: es) [] pos) (ClX.tCMeth C sp E0 to t) := by
  obtain ⟨mc, p, g, r, cm, F⟩ := c.ex
  exact ClX.pe_cmeth ho r cm F hr L2.pass0 ha hst hpl ht
/-- a property by its promise -/
structure PropC (P : Program) (w : World) (K : PySem.W.Frag) (mg : Str → Option Value) (base : Heap) (C : Addr) (m : Str) (k : Nat) (sp : Sp) : Prop where
  cl : Cls K C
  ex : ∃ (p g : Addr) (fd : FuncData), PropOf K C m p g ∧ FnOk P w K mg base CX0 k g fd ["self"] sp ∧ Binds K fd ["self"] []
theorem pe_propC {ta : TE} (c : PropC X.prog X.w X.K X.mg X.base C m k sp) (hr : Room (k + 1) X.A) (he : PE X e ta) (hab : attributeBase e m X.env (eval e X.env) = eval e X.env) : PE X (.Attribute e m pos) (tProp C sp [] E0 ta) := by
  obtain ⟨p, g, fd, hp, F, hb⟩ := c.ex
  exact pe_prop he c.cl hp F hr hb .nil L2.pass0 hab
end
end Px
/-! dicts whose keys are tuples: made by a comprehension. -/
namespace Dt
open PySem PySem.Spec PyProof.Rows L2 Bx TL Dx Zx
/-- the store of such a comprehension -/
theorem put_in {X : Cx} {pins : List (Addr × Obj)} {σ : L2.St} {H : Hp} {s : Shared} {E : Value → Shared → Prop} {D b : Addr} {kvs : List (List Key × V)} {k : List Key} {v : V} {r : Value} {Q : Unit → Shared → Prop} (hu : X.A.units < cLine) (J : Inv X pins σ H s) (hD : H D = some (.dT kvs)) (hl : kvs.length < sizeLine)
    (hb : H b = some (.tup (k.map kV))) (rv : RelV v r) (q : ∀ s', Inv X pins σ (upd H D (.dT (putK kvs k v))) s' → Q () s') : wpAny (model X.prog X.w) X.A (dictSet D (.ref b) r) Q E s := by
  obtain ⟨_, ns, xs, rel, dd⟩ := dt_of J.hok hD
  have small : xs.length ≤ sizeLine := by
    have := Paired.length rel
    omega
  have after : (putK kvs k v).length ≤ sizeLine := by
    have := length_putK kvs k v
    omega
  refine wpAny_dictSet_heap (hsz := small) hu (key_of J.hok hb) dd fun g dg sb => q _ ?_
  obtain ⟨ob, es, ep, ho, x2, x3, x4, _, x5⟩ := dg
  refine d_write J (by rw [hD]; exact True.intro) sb ⟨ob, ho⟩ ⟨after, ns, _, (rel.put k hb rv).keeps fun c ys e => ?_, ob, es, ep, ho, x2, x3, x4, x5⟩
  rw [upd_ne (ne_of e hD fun z => nomatch z)]
  exact e
end Dt
namespace Dt
open PySem PySem.Spec PyProof.Rows L2 Bx TL Dx Zx
section
variable {X : Cx}
/-- {k: v for target in iter if ..}, the keys tuples of ints and texts -/
def tDcT (wi : TI) (g : TG) (tt : TT) (tk tv : TE) (vs : List Nat) : TE := fun σ H Q => wi σ H fun J H1 => ∀ D, H1 D = none → ∃ W : Nat → Nat → Hp → Prop, (∃ m, W 0 m (upd H1 D (.dT []))) ∧ ∀ i m H, W i m H →
  (J.stop i H ∧ Q (.ref D) H) ∨ (J.go i H ∧ ∃ Nx : Hp → Prop, (∀ H', Nx H' → ∃ m', m' < m ∧ W (i + 1) m' H') ∧ ∀ x H', J.yld i H x H' → g x (wipe σ vs) H' fun σ2 H2 => wipe σ2 vs = wipe σ vs ∧ tt σ2 H2 fun b H3 =>
    if b = true then tk σ2 H3 fun y H4 => tv σ2 H4 fun z H5 => ∃ a kvs k, y = .ref a ∧ H5 a = some (.tup (k.map kV)) ∧ H5 D = some (.dT kvs) ∧ kvs.length < sizeLine ∧ Nx (upd H5 D (.dT (putK kvs k z))) else Nx H3)
end
end Dt
namespace Dt
open PySem PySem.Spec PyProof.Rows L2 Bx TL Dx Zx
section
variable {X : Cx}
/-- what holds between the turns: the block's slots are bare, the iterator stands at i, the measure is n -/
def Between (Y : Cx) (fp : List Addr) (tn : Nat → Heap → Prop) (W : Nat → Nat → Hp → Prop) (τ : L2.St) (n : Nat) (z : Shared) : Prop := ∃ i G, Inv Y [] τ G z ∧ tn i z.heap ∧ (∀ b ∈ fp, G b = none) ∧ W i n G
theorem dct_core {pins : List (Addr × Obj)} {s : Shared} {σ : L2.St} {H : Hp} {Q : VK} {kx vx tg iter : Expr} {ifs : List Expr} {scope : Scope} {own : List (Str × Nat)} {pos pos' : Pos} {wi : TI} {g : TG} {tt : TT} {tk tv : TE} {use : Option (Value → Sem Unit)} {Qf : Value → Shared → Prop}
    (hu : X.A.units < cLine) (calm : X.calm = true) (nod : X.N.Nodup) (J : Inv X pins σ H s) (walk : PI X tg iter wi) (ok : BlkOk X.N X.env.scope scope own)
    (pg : ∀ (z : Shared) (G : Hp) (C : Addr) (cl : List (Str × Addr)) (fp : List Addr), PG (X.blk z G scope (compEnvC scope cl C X.env) fp) tg g) (pt : ∀ (z : Shared) (G : Hp) (C : Addr) (cl : List (Str × Addr)) (fp : List Addr), PTs (X.blk z G scope (compEnvC scope cl C X.env) fp) ifs tt)
    (pk : ∀ (z : Shared) (G : Hp) (C : Addr) (cl : List (Str × Addr)) (fp : List Addr), PE (X.blk z G scope (compEnvC scope cl C X.env) fp) kx tk) (pv : ∀ (z : Shared) (G : Hp) (C : Addr) (cl : List (Str × Addr)) (fp : List Addr), PE (X.blk z G scope (compEnvC scope cl C X.env) fp) vx tv)
    (fold : ∀ x, foldedSetIterable iter X.env x = pure x) (want : tDcT wi g tt tk tv (own.map (·.2)) σ H Q)
    (back : ∀ D C z m G, Inv X pins σ G z → Q (.ref D) G → z.heap.Ns C m → FpOk X pins G C → compPost (model X.prog X.w) X.A X.xe use Qf (.ref D) C (.ok .next) z) :
    wpAny (model X.prog X.w) X.A (comprehension (.DictComp kx vx [⟨tg, iter, ifs, 0⟩] scope pos) scope X.env pos' newDict false (eval iter X.env) use) Qf X.xe s := by
  have free : ∀ y ∈ scope.names, y.2 = .free → ∃ c, X.env.cells.lookup y.1 = some c := fun y m e => (ok.free y m e).elim (fun k => J.ok.has _ (.inl k)) fun k => J.ok.has _ (.inr k)
  have names : ∀ y ∈ scope.names, y.2 = .local → scope.names.lookup y.1 = some .local := fun y m e => by
    have := ok.uniq y m
    rw [e] at this
    exact this
  refine wpAny_comprehension_free (use := use) rfl fold (closure_ok free) ok.kind names (thn (walk.run pins s σ H _ J want) fun first z1 got => thn got fun itv z2 ready => ?_)
  obtain ⟨it, fp, tn, I0, G2, rfl, J2, T, at0, out2, q⟩ := ready
  refine wpAny_newObj_type (newEnv_comp ?_)
  have bare : G2 z2.heap.objs.size = none := J2.hok.fresh (Nat.le_refl _)
  obtain ⟨W, ⟨n0, start⟩, turn⟩ := q _ bare
  have lo : ∀ b ∈ fp, b < z2.heap.objs.size := fun b m => by
    obtain ⟨u, hu2, _⟩ := T.obj _ _ at0 b m
    exact Heap.lt_size hu2
  have J3 : Inv X pins σ (upd G2 z2.heap.objs.size (.dT [])) { z2 with heap := z2.heap.push { cls := .type "dict", data := .dict #[] } } :=
    J2.laid (t' := z2.toks) (fun b o e => Heap.get?_push_of_some _ e) (Nat.le_refl _) (dt_empty z2.heap J2.big)
  have out3 : ∀ b ∈ fp, FpOk X pins (upd G2 z2.heap.objs.size (.dT [])) b ∧ b < (z2.heap.push { cls := .type "dict", data := .dict #[] }).objs.size := fun b m => by
    have l := lo b m
    refine ⟨⟨?_, (out2 b m).2⟩, ?_⟩
    · rw [upd_ne (Nat.ne_of_lt l)]
      exact (out2 b m).1
    · rw [Heap.size_push]
      exact Nat.lt_succ_of_lt l
  have at3 : tn 0 (z2.heap.push { cls := .type "dict", data := .dict #[] }) := T.keep _ _ _ at0 fun b _ o e => Heap.get?_push_of_some _ e
  generalize hD : z2.heap.objs.size = D at *
  generalize hz3 : ({ z2 with heap := z2.heap.push { cls := .type "dict", data := .dict #[] } } : Shared) = z3 at *
  have e3 : z3.heap = z2.heap.push { cls := .type "dict", data := .dict #[] } := by rw [← hz3]
  rw [← e3] at out3 at3
  have J4 := block_start J3 ok nod out3
  have bare3 : ∀ b ∈ fp, (upd G2 D (.dT [])) b = none := fun b m => (out3 b m).1.1
  generalize upd G2 D (.dT []) = G3 at J3 J4 bare3 out3 start
  generalize hcl : cellsFrom (z3.heap.objs.size + 1) scope.names (cloFrom X.env.cells scope.names []) = cl at J4 ⊢
  generalize hC : z3.heap.objs.size = C at *
  have g1 := pg z3 G3 C cl fp
  have g2 := pt z3 G3 C cl fp
  have g3 := pk z3 G3 C cl fp
  have g4 := pv z3 G3 C cl fp
  show codeAny _ _ (.compStart (.DictComp kx vx [⟨tg, iter, ifs, 0⟩] scope pos) 0 (.ref it) (.ref D) (compEnvC scope cl C X.env)) (compPost (model X.prog X.w) X.A X.xe use Qf (.ref D) C) { z3 with heap := pushCells (z3.heap.push { cls := .type "dict", data := .dict #[] }) scope.names }
  have at4 : tn 0 (pushCells (z3.heap.push { cls := .type "dict", data := .dict #[] }) scope.names) := T.keep _ _ _ at3 fun b _ o e => pushCells_keeps _ _ _ _ (Heap.get?_push_of_some _ e)
  generalize hz4 : ({ z3 with heap := pushCells (z3.heap.push { cls := .type "dict", data := .dict #[] }) scope.names } : Shared) = z4 at J4 ⊢
  have at4' : tn 0 z4.heap := by
    rw [← hz4]
    exact at4
  have cloc : (compEnvC scope cl C X.env).locals = C := rfl
  generalize compEnvC scope cl C X.env = ce at J4 g1 g2 g3 g4 cloc ⊢
  have stays : ∀ {τ : L2.St} {G : Hp} {z : Shared}, Inv (X.blk z3 G3 scope ce fp) [] τ G z → (∀ b ∈ fp, G b = none) → ∀ b ∈ fp, FpOk (X.blk z3 G3 scope ce fp) [] G b := fun J' hn b m =>
    ⟨hn b m, (J'.ok.exf b m).1, J'.ok.exfs b m, .inl m, fun x c e => (J'.ok.exf b m).2 x c e, fun p hp => absurd (show p ∈ ([] : List (Addr × Obj)) ++ [] from hp) (by simp)⟩
  have loop : codeAny (model X.prog X.w) X.A (.compLoop (.DictComp kx vx [⟨tg, iter, ifs, 0⟩] scope pos) 0 (.ref it) (.ref D) ce) (compPost (model X.prog X.w) X.A X.xe use Qf (.ref D) C) z4 := by
    refine compLoop_anyD (fun n z => Between (X.blk z3 G3 scope ce fp) fp tn W (wipe σ (own.map (·.2))) n z) (fun n z5 h5 => ?_) n0 ⟨0, G3, J4, at4', bare3, start⟩
    obtain ⟨i, G5, J5, at5, bare5, w5⟩ := h5
    rcases turn i n G5 w5 with ⟨stop, fin⟩ | ⟨go, Nx, less, step⟩
    · have over := T.done (X.blk z3 G3 scope ce fp) rfl rfl rfl calm i [] z5 _ G5 (fun _ _ => False) J5 (stays J5 bare5) at5 stop
      refine thnF over fun r z6 ⟨none_, J6⟩ => ?_
      subst none_
      have home : Inv X pins σ G5 z6 := J3.call' (ch := fp) J6.os J6.base J6.hok J6.bare fun b m => ⟨(out3 b m).1.2.2.2.1, (out3 b m).1.2.1, (out3 b m).1.2.2.2.2.1, (out3 b m).1.2.2.2.2.2⟩
      have noC : G5 C = none := by
        have f : G5 ce.locals = none := J6.free
        rwa [cloc] at f
      obtain ⟨m, ns, _⟩ := J6.loc
      have ns2 : z6.heap.Ns ce.locals m := ns
      rw [cloc] at ns2
      exact back D C z6 m G5 home fin ns2 (J3.fpOk (Nat.le_of_eq hC) noC)
    · have one := T.item (X.blk z3 G3 scope ce fp) rfl rfl rfl calm i [] z5 _ G5 (fun _ _ => False) J5 (stays J5 bare5) at5 go
      refine thnF one fun r z6 ⟨u, some_, h6⟩ => ?_
      subst some_
      refine thnF h6 fun _ z7 ⟨x, G7, J7, rx, y7, at7, bare7⟩ => ?_
      have J7p := J7.pinned (stays J7 bare7) (T.obj _ _ at7)
      refine thnF (g1.run _ z7 _ G7 x u _ J7p rx (step x G7 y7)) fun _ z8 ⟨σ8, G8, J8, clean, q8⟩ => ?_
      refine thnF (g2.run _ z8 σ8 G8 _ J8 q8) fun b z9 ⟨G9, J9, q9⟩ => ?_
      have next : ∀ {z : Shared} {G : Hp}, Inv (X.blk z3 G3 scope ce fp) ([] ++ pinsAt fp z7.heap) σ8 G z → Nx G → ∃ m, m < n ∧ Between (X.blk z3 G3 scope ce fp) fp tn W (wipe σ (own.map (·.2))) m z := fun {z G} J' nx => by
        obtain ⟨m, lt, w'⟩ := less G nx
        have held : ∀ b ∈ fp, ∀ o, z7.heap.get? b = some o → z.heap.get? b = some o ∧ G b = none := fun b m o e =>
          have k := J'.pin (b, o) (List.mem_append_right _ (List.mem_append_right _ (mem_pinsAt m e)))
          ⟨k.1, k.2.1⟩
        have long : (wipe σ (own.map (·.2))).length = σ8.length := by rw [← clean, wipe_length]
        refine ⟨m, lt, i + 1, G, (J'.unpinned (pins := [])).weak long (fun j v e => ?_), T.keep _ _ _ at7 fun b m o e => (held b m o e).1, fun b m => ?_, w'⟩
        · rw [← clean] at e
          exact (wipe_some e).1
        · obtain ⟨o, e, _⟩ := T.obj _ _ at7 b m
          exact (held b m o e).2
      cases b with
      | false =>
        simp only [Bool.false_eq_true, if_false] at q9 ⊢
        exact next J9 q9
      | true =>
        simp only [if_true] at q9 ⊢
        refine thnF (g3.run _ z9 σ8 G9 _ J9 q9) fun kv z10 ⟨y, G10, J10, ry, q10⟩ => ?_
        refine thnF (g4.run _ z10 σ8 G10 _ J10 q10) fun vv z11 ⟨v, G11, J11, rv, a, kvs, k, ey, ha, hd, small, nx⟩ => ?_
        subst ey
        cases ry
        exact put_in (X := X.blk z3 G3 scope ce fp) hu J11 hd small ha rv fun z12 J12 => next J12 nx
  exact codeAny_compStart_dict loop (T.self X.A 0 _ _ _ at4' loop)
end
end Dt
namespace Dt
open PySem PySem.Spec PyProof.Rows L2 Bx TL Dx Zx
section
variable {X : Cx}
/-- name = {k: v for ..}, the keys tuples -/
theorem ps_setDcT {i : Nat} {y : Str} {py : Pos} {kx vx tg iter : Expr} {ifs : List Expr} {scope : Scope} {own : List (Str × Nat)} {pos spos : Pos} {wi : TI} {g : TG} {tt : TT} {tk tv : TE} (hu : X.A.units < cLine) (hc : X.calm = true) (hN : X.N.Nodup) (hy : X.N[i]? = some y) (hyl : X.env.scope.names.lookup y = some .local)
    (hsw : swapsWith (.DictComp kx vx [⟨tg, iter, ifs, 0⟩] scope pos) (some (.Name y py)) spos.line X.env = pure true) (hi : PI X tg iter wi) (ok : BlkOk X.N X.env.scope scope own)
    (hg : ∀ (s : Shared) (H : Hp) (C : Addr) (cl : List (Str × Addr)) (fp : List Addr), PG (X.blk s H scope (compEnvC scope cl C X.env) fp) tg g) (ht : ∀ (s : Shared) (H : Hp) (C : Addr) (cl : List (Str × Addr)) (fp : List Addr), PTs (X.blk s H scope (compEnvC scope cl C X.env) fp) ifs tt)
    (hk : ∀ (s : Shared) (H : Hp) (C : Addr) (cl : List (Str × Addr)) (fp : List Addr), PE (X.blk s H scope (compEnvC scope cl C X.env) fp) kx tk)
    (he : ∀ (s : Shared) (H : Hp) (C : Addr) (cl : List (Str × Addr)) (fp : List Addr), PE (X.blk s H scope (compEnvC scope cl C X.env) fp) vx tv) (hs : ∀ x, foldedSetIterable iter X.env x = pure x := by intro _; rfl) :
    PS X (.Assign [.Name y py] (.DictComp kx vx [⟨tg, iter, ifs, 0⟩] scope pos) spos) (tAsg (tDcT wi g tt tk tv (own.map (·.2))) (gName i)) := by
  refine ⟨fun pins s σ H D I h => ?_⟩
  rw [exec_Assign_Name_used _ _ _ _ hsw]
  refine wpAny_bind (wpAny_standAt (wpAny_bind ?_))
  show wpAny _ X.A (do let _ ← comprehension (.DictComp kx vx [⟨tg, iter, ifs, 0⟩] scope pos) scope X.env _ newDict false (eval iter X.env) (some (assign (.Name y py) X.env))) _ _ s
  have h : tDcT wi g tt tk tv (own.map (·.2)) σ H (fun x H1 => gName i x σ H1 D.nx) := h
  refine wpAny_bind (thn (dct_core (Qf := fun _ s' => SP X pins D .next s') hu hc hN I hi ok hg ht hk he hs h fun L C s' m H' I' q hn f => ?_) fun _ s' hq => wpAny_pure (wpAny_pure hq))
  show wpAny _ _ (assign (.Name y py) X.env (.ref L)) _ _ _
  refine wpAny_assign_Name (store_ok2 (v := V.ref L) I' hN hy (.inl hyl) rfl (fun s2 I2 ⟨a, sb, ha⟩ => ?_) (.inr hyl))
  obtain ⟨f0, f1, f2, f3, f4, f5⟩ := f
  have haC : C ≠ a := by
    rcases ha with z | z
    · rw [z]; exact f1
    · exact fun e => f4 y a z e.symm
  refine ⟨m, hn.sameBut sb haC, fun h3 sb3 => ?_⟩
  exact ⟨_, H', I2.turned (t' := s2.toks) (fun b o hb e => (sb3.2 b hb).trans e) f0 f1 f3 f4 f5, q⟩
end
/-- over a walk -/
theorem dct_it {J : It} {n : Nat} {G : Hp → Prop} {Y : Nat → Hp → V → Hp → Prop} (w : Walk J n G Y) {g : TG} {tt : TT} {tk tv : TE} {vs : List Nat} {σ : L2.St} {H1 : Hp} {D : Addr} {Qd : Hp → Prop} (Pv : Nat → Hp → Prop) (h0 : Pv 0 (upd H1 D (.dT []))) (hG : ∀ i H, i ≤ n → Pv i H → G H)
    (hs : ∀ i x H H', i < n → Pv i H → Y i H x H' → g x (wipe σ vs) H' fun σ2 H2 => wipe σ2 vs = wipe σ vs ∧ tt σ2 H2 fun b H3 =>
      if b = true then tk σ2 H3 fun y H4 => tv σ2 H4 fun z H5 => ∃ a kvs k, y = .ref a ∧ H5 a = some (.tup (k.map kV)) ∧ H5 D = some (.dT kvs) ∧ kvs.length < sizeLine ∧ Pv (i + 1) (upd H5 D (.dT (putK kvs k z))) else Pv (i + 1) H3) (hd : ∀ H, Pv n H → Qd H) :
    ∃ W : Nat → Nat → Hp → Prop, (∃ m, W 0 m (upd H1 D (.dT []))) ∧ ∀ i m H, W i m H →
      (J.stop i H ∧ Qd H) ∨ (J.go i H ∧ ∃ Nx : Hp → Prop, (∀ H', Nx H' → ∃ m', m' < m ∧ W (i + 1) m' H') ∧ ∀ x H', J.yld i H x H' → g x (wipe σ vs) H' fun σ2 H2 => wipe σ2 vs = wipe σ vs ∧ tt σ2 H2 fun b H3 =>
        if b = true then tk σ2 H3 fun y H4 => tv σ2 H4 fun z H5 => ∃ a kvs k, y = .ref a ∧ H5 a = some (.tup (k.map kV)) ∧ H5 D = some (.dT kvs) ∧ kvs.length < sizeLine ∧ Nx (upd H5 D (.dT (putK kvs k z))) else Nx H3) :=
  walk_any (B := fun (Nx : Hp → Prop) x H' => g x (wipe σ vs) H' fun σ2 H2 => wipe σ2 vs = wipe σ vs ∧ tt σ2 H2 fun b H3 =>
        if b = true then tk σ2 H3 fun y H4 => tv σ2 H4 fun z H5 => ∃ a kvs k, y = .ref a ∧ H5 a = some (.tup (k.map kV)) ∧ H5 D = some (.dT kvs) ∧ kvs.length < sizeLine ∧ Nx (upd H5 D (.dT (putK kvs k z))) else Nx H3) w Pv h0 hG hs hd
end Dt
namespace Dt
open PySem PySem.Spec PyProof.Rows L2
/-- e.f within a block: the written part is named -/
theorem pe_fldK {X : Cx} {K : PySem.W.Frag} {e : Expr} {f : Str} {pos : Pos} {ta : TE} (h : X.K = K) (he : PE X e ta) (hb : attributeBase e f X.env (eval e X.env) = eval e X.env) : PE X (.Attribute e f pos) (tFld K ta f) := by
  subst h
  exact pe_fld he hb
end Dt
/-! a comprehension within another one's block -/
namespace Nx
open PySem PySem.Spec PyProof.Rows L2
theorem rel_eq {scope : Scope} {env : Env} {sc : Scope} (h : env.scope = sc) : relabel scope env = relS scope sc := by
  subst h
  rfl
theorem blkOk_nest {N : List Str} {sc scope1 scope : Scope} {cl : List (Str × Addr)} {C : Addr} {env : Env} {own : List (Str × Nat)} (he : env.scope = sc) (h : blkC N (relS scope1 sc) scope own = true) : BlkOk N (compEnvC scope1 cl C env).scope scope own := by
  have e : (compEnvC scope1 cl C env).scope = relS scope1 sc := rel_eq he
  rw [e]
  exact blkOk_by h
/-- d.setdefault(t, v), t a tuple of ints and texts -/
def rSetdT : V → List V → Hp → VK → Prop := fun x vs H Q => ∃ (a b : Addr) (kvs : List (List Key × V)) (k : List Key) (v : V), x = .ref a ∧ vs = [.ref b, v] ∧ H a = some (.dT kvs) ∧ H b = some (.tup (k.map kV)) ∧ kvs.length < sizeLine ∧
  (∀ u, valV kvs k = some u → Q u H) ∧ (valV kvs k = none → Q v (upd H a (.dT (putK kvs k v))))
theorem mt_setdT {X : Cx} (hu : X.A.units + 1 < cLine) : MtR X "dict.setdefault" rSetdT := by
  intro pins s σ H x xs v us Q I rx rs q
  obtain ⟨a, b, kvs, k, y, rfl, rfl, ea, eb, hl, w1, w2⟩ := q
  cases rx
  cases rs with
  | cons r1 rs =>
    cases rs with
    | cons r2 rs =>
      cases rs
      cases r1
      obtain ⟨z, hd, xs0, rel, dd⟩ := dt_of I.hok ea
      have hz : xs0.length ≤ sizeLine := by rw [← Paired.length rel]; exact z
      have hl2 : (putK kvs k y).length ≤ sizeLine := by have := length_putK kvs k y; omega
      refine call_setdefault_heap (hsz := hz) (tupleKind_room_in1 hu) (key_of I.hok eb) hd dd (fun p hp => ?_) fun hn h' dd' hs => ?_
      · have rr := rel.val k
        rw [hp] at rr
        cases e : valV kvs k with
        | none =>
          rw [e] at rr
          have := rr.isSome_eq
          cases this
        | some u =>
          rw [e] at rr
          exact ⟨u, H, I.tok _, rr, w1 u e⟩
      · have rr := rel.val k
        rw [hn] at rr
        have e : valV kvs k = none := by
          cases e : valV kvs k with
          | none => rfl
          | some u =>
            rw [e] at rr
            have := rr.isSome_eq
            cases this
        obtain ⟨q, es, ep, hq, h2, h3, h4, _, h5⟩ := dd'
        refine ⟨y, upd H a (.dT (putK kvs k y)), d_write I (by rw [ea]; exact True.intro) hs ⟨q, hq⟩ ⟨hl2, hd, _, (rel.put k eb r2).keeps fun c ys ec => ?_, q, es, ep, hq, h2, h3, h4, h5⟩, r2, w2 e⟩
        rw [upd_ne (ne_of ec ea (fun z => nomatch z))]
        exact ec
end Nx
/-! super().m(..) in a method of an own class, m a def of the class above: as the value of a `return .. and ..`, or in an `if not ..`. -/
namespace SupM
open PySem PySem.Spec PyProof.Rows L2 NdefX Sup Ow
section
variable {X : Cx} {pins : List (Addr × Obj)} {σ : List (Option V)} {H : Hp} {s : Shared} {self m : Str} {D a C dx g : Addr} {fs : List (Str × V)} {body : List Stmt} {p0 p1 p2 pos pos' : Pos} {e : Expr} {es : List Expr} {ta : TA} {pl : Sem Bool} {k : Nat} {sp : Sp} {Q : VK}
/-- the class above has the def g under the name m -/
structure SupA (K : PySem.W.Frag) (C D : Addr) (m : Str) (g : Addr) : Prop where
  cls : ∃ cd, PySem.W.clsIn K D = some cd
  sub : PySem.W.mroIn K C (.ref D) = some true
  sup : PySem.W.ks_superIn K C D m = some (some (.ref g))
  ty : PySem.W.typeIn K (.ref g) = some (.type "function")
  fn : PySem.W.fnIn K g = true
  nc : (m == ("__class__" : Str)) = false
theorem sup_eval (I : Inv X pins σ H s) (S : SupF X.prog X.K X.mg X.env self D) (T : SupA X.K C D m g) (F : FnR X.prog X.w X.K X.mg X.base CX0 k g sp) (hr : Room k X.A) (hN : X.N[0]? = some self) (h0 : σ[0]? = some (some (.ref a))) (ea : H a = some (.ins C dx fs)) (ha : PA X (e :: es) ta)
    (h : ta σ H fun vs H2 => sp (.ref a :: vs) H2 Q E0)
    (hev : eval (.Call (.Attribute (.Call (.Name "super" p0) [] [] p1) m p2) (e :: es) [] pos) X.env = (do
      let ov ← attributeBase (.Call (.Name "super" p0) [] [] p1) m X.env (eval (.Call (.Name "super" p0) [] [] p1) X.env)
      standAt p2.atName
      let (f, first) ← holding [ov] (getMethod ov m pl)
      callWith pos f first (backTo pos (starEach (e :: es) X.env)) []) := by rfl)
    (he : starEach (e :: es) X.env = (false, eval e X.env) :: starEach es X.env := by rfl) (hpl : (backTo pos (starEach es X.env)).any (·.1) = false := by rfl) :
    _root_.PySem.wpAt (model X.prog X.w) X.A (.func body X.env) (eval (.Call (.Attribute (.Call (.Name "super" p0) [] [] p1) m p2) (e :: es) [] pos) X.env) (EP X pins σ Q) X.xe s := by
  refine ks_wpAt_MethodCall ?_ hev
  obtain ⟨f, oc, od, fd, osl, ar, hfu, lf, hp, har⟩ := S.fn
  obtain ⟨cda, ccl, cdd, vs, ccs, file, tf, hco, lc, hvs, hfile⟩ := S.co
  obtain ⟨cc, cl, cld, csl, hcl, lcc⟩ := S.ce
  obtain ⟨mm, v, hn, hv, rv⟩ := self_at I hN h0 S.ka
  obtain rfl : v = Value.ref a := rv
  obtain ⟨oi, inst⟩ := inst_of I ea
  obtain ⟨cdD, hD⟩ := T.cls
  have XK := I.kIn
  obtain ⟨oD, hD1, hD2⟩ : ∃ oD, s.heap.get? D = some oD ∧ oD.data = .cls cdD := by
    unfold PySem.W.clsIn at hD
    split at hD
    · rename_i c d cd' sl ho
      cases hD
      exact ⟨_, XK _ _ ho, rfl⟩
    · cases hD
  refine ks_wpAt_super_base S.ks S.kc T.nc hfu (XK _ _ lf) rfl hp hco (XK _ _ lc) rfl hvs hfile S.top ?_
  refine ld_super I S ⟨rfl, ?_⟩
  refine wpAny_loadName_free I.ok.kind S.kc hcl ⟨_, XK _ _ lcc, rfl⟩ ?_
  refine wpAny_loadName_local I.ok.kind (har ▸ S.ka) hn (har ▸ hv) ?_
  refine ks_wpAny_isType_cls hD1 hD2 ⟨rfl, ?_⟩
  obtain ⟨hp0, gg, d, t, os⟩ := s
  refine ks_wpAny_call_super hD1 hD2 inst.at_ rfl (fun c e => by cases e) (PySem.W.looks_mroIn XK T.sub) fun h' eso k2 => ?_
  have I2 : Inv X pins σ H ⟨h', gg, d, t, os⟩ := I.kept (t' := t) k2
  have XK2 := I2.kIn
  have sup := T.sup
  unfold PySem.W.ks_superIn at sup
  cases hc : PySem.W.clsIn X.K C with
  | none =>
    rw [hc] at sup
    cases sup
  | some cd =>
    rw [hc] at sup
    obtain ⟨oi2, inst2⟩ := inst_of I2 ea
    obtain ⟨of, hof, hofc⟩ : ∃ of, h'.get? g = some of ∧ of.cls = .type "function" := by
      have ht' : (X.K.lookup g).map (·.cls) = some (.type "function") := T.ty
      cases z : X.K.lookup g with
      | none => rw [z] at ht'; cases ht'
      | some of => rw [z] at ht'; exact ⟨of, XK2 _ _ z, Option.some.inj ht'⟩
    refine ks_wpAny_getMethod_super eso (PySem.W.looks_opaque XK2 S.any) (l₀ := cd.mro) ?_ rfl XK2 sup hof hofc (PySem.W.ks_ne XK2 inst2 hc) T.nc ?_
    · exact fun A Q E s k q => wpAny_bind ((PySem.W.looks_clsIn XK2 hc) A _ E s k (wpAny_pure q))
    · have I3 := ClX.met_new (g := g) (C := a) I2
      refine ClX.callwith_cm I3 (ClX.base_none I2 (Nat.le_refl _)) T.fn (thn (ha.run pos _ _ σ H _ I3 h) fun us s3 ⟨vs, H2, I4, rv, q2⟩ => ⟨⟨ClX.pin_at I4, I4.kIn⟩, ?_⟩) he hpl
      exact ClX.run_cm F hr L2.pass0 I4 rv q2
end
/-! ### expressions, tests, statements that know the body they stand in -/
section
variable {M : Model} {A : Around} {c : Code} {E : Value → Shared → Prop} {s : Shared} {env : Env}
theorem at_and {e₁ e₂ : Expr} {rest : List Expr} {pos : Pos} {Q : Value → Shared → Prop}
    (h : _root_.PySem.wpAt M A c (eval e₁ env) (fun v s₁ => wpAny M A (truthy v) (fun c s₂ => if c then wpAny M A (eval (.BoolOp .And (e₂ :: rest) pos) env) Q E s₂ else Q v s₂) E s₁) E s) :
    _root_.PySem.wpAt M A c (eval (.BoolOp .And (e₁ :: e₂ :: rest) pos) env) Q E s := by
  show _root_.PySem.wpAt M A c (do
    let v ← eval e₁ env
    standAt pos
    let c ← holding [v] (truthy v)
    match BoolOp.And, c with
    | .And, false | .Or, true => pure v
    | _, _ => boolOp pos .And (eval e₂ env :: evalEach rest env)) Q E s
  refine _root_.PySem.wpAt_bind (ks_wpAt_mono h (fun v s₁ h₁ => wpAt_of_wpAny (wpAny_bind (wpAny_standAt (wpAny_bind (wpAny_holding (wpAny_mono h₁ (fun c s₂ h₂ => ?_) fun _ _ x => x)))))) fun _ _ x => x)
  cases c with
  | false => exact wpAny_pure h₂
  | true => exact h₂
theorem at_not {x : Expr} {pos : Pos} {whole : Sem Value} {Q : Bool → Shared → Prop} (h : _root_.PySem.wpAt M A c (isTrue x env (eval x env)) (fun c s' => Q (!c) s') E s) :
    _root_.PySem.wpAt M A c (isTrue (.UnaryOp .Not x pos) env whole) Q E s := by
  show _root_.PySem.wpAt M A c (do return !(← isTrue x env (eval x env))) Q E s
  exact _root_.PySem.wpAt_bind (ks_wpAt_mono h (fun c s' h' => wpAt_of_wpAny (wpAny_pure h')) fun _ _ x => x)
theorem at_or {x : Expr} {rest : List Expr} {pos : Pos} {whole : Sem Value} {Q : Bool → Shared → Prop}
    (h : _root_.PySem.wpAt M A c (isTrue x env (eval x env)) (fun c s' => if c then Q true s' else wpAny M A (isTrue (.BoolOp .Or rest pos) env whole) Q E s') E s) :
    _root_.PySem.wpAt M A c (isTrue (.BoolOp .Or (x :: rest) pos) env whole) Q E s := by
  show _root_.PySem.wpAt M A c (do
    match BoolOp.Or, ← isTrue x env (eval x env) with
    | .And, false => pure false
    | .Or, true => pure true
    | _, _ => allTrue .Or rest env) Q E s
  refine _root_.PySem.wpAt_bind (ks_wpAt_mono h (fun c s' h' => wpAt_of_wpAny ?_) fun _ _ x => x)
  cases c with
  | false => exact h'
  | true => exact wpAny_pure h'
end
section
variable {X : Cx} {body : List Stmt} {e a b : Expr} {rest : List Expr} {st : Stmt} {sts : List Stmt} {pos : Pos} {te ta tb : TE} {tA tB' : TT} {t u : TS}
structure PEa (X : Cx) (body : List Stmt) (e : Expr) (te : TE) : Prop where
  run : ∀ pins s σ H Q, Inv X pins σ H s → te σ H Q → _root_.PySem.wpAt (model X.prog X.w) X.A (.func body X.env) (eval e X.env) (EP X pins σ Q) X.xe s
structure PTa (X : Cx) (body : List Stmt) (e : Expr) (t : TT) : Prop where
  run : ∀ pins s σ H Q, Inv X pins σ H s → t σ H Q → _root_.PySem.wpAt (model X.prog X.w) X.A (.func body X.env) (isTrue e X.env (eval e X.env)) (TP X pins σ Q) X.xe s
structure PSa (X : Cx) (body : List Stmt) (st : Stmt) (t : TS) : Prop where
  run : ∀ pins s σ H D, Inv X pins σ H s → t D σ H → _root_.PySem.wpAt (model X.prog X.w) X.A (.func body X.env) (exec st X.env) (SP X pins D) X.xe s
structure PSsa (X : Cx) (body : List Stmt) (sts : List Stmt) (t : TS) : Prop where
  run : ∀ pins s σ H D, Inv X pins σ H s → t D σ H → _root_.PySem.wpAt (model X.prog X.w) X.A (.func body X.env) (execs sts X.env) (SP X pins D) X.xe s
/-- super().m(..), self the first name -/
def tSupM (C : Addr) (sp : Sp) (ta : TA) : TE := fun σ H Q => ∃ a dx fs, σ[0]? = some (some (.ref a)) ∧ H a = some (.ins C dx fs) ∧ ta σ H fun vs H2 => sp (.ref a :: vs) H2 Q E0
theorem pea_sup {self m : Str} {D C g : Addr} {k : Nat} {sp : Sp} {p0 p1 p2 : Pos} {es : List Expr} {ta : TA} {pl : Sem Bool} (S : SupF X.prog X.K X.mg X.env self D) (T : SupA X.K C D m g) (F : FnR X.prog X.w X.K X.mg X.base CX0 k g sp) (hr : Room k X.A) (hN : X.N[0]? = some self) (ha : PA X (e :: es) ta)
    (hev : eval (.Call (.Attribute (.Call (.Name "super" p0) [] [] p1) m p2) (e :: es) [] pos) X.env = (do
      let ov ← attributeBase (.Call (.Name "super" p0) [] [] p1) m X.env (eval (.Call (.Name "super" p0) [] [] p1) X.env)
      standAt p2.atName
      let (f, first) ← holding [ov] (getMethod ov m pl)
      callWith pos f first (backTo pos (starEach (e :: es) X.env)) []) := by rfl)
    (he : starEach (e :: es) X.env = (false, eval e X.env) :: starEach es X.env := by rfl) (hpl : (backTo pos (starEach es X.env)).any (·.1) = false := by rfl) :
    PEa X body (.Call (.Attribute (.Call (.Name "super" p0) [] [] p1) m p2) (e :: es) [] pos) (tSupM C sp ta) :=
  ⟨fun _ _ _ _ _ I ⟨_, _, _, h0, ea, h⟩ => sup_eval I S T F hr hN h0 ea ha h hev he hpl⟩
theorem pea_and (ha : PEa X body a ta) (hb : PE X (.BoolOp .And (b :: rest) pos) tb) : PEa X body (.BoolOp .And (a :: b :: rest) pos) (tAndV ta tb) := by
  refine ⟨fun pins s σ H Q I h => ?_⟩
  refine at_and (ks_wpAt_mono (ha.run pins s σ H _ I h) (fun v s1 ⟨x, H1, I1, r1, q1⟩ => ?_) fun _ _ z => z)
  obtain ⟨c, rfl, q1⟩ := q1
  cases r1
  refine wpAny_truthy_bool ?_
  cases c with
  | true => exact hb.run pins s1 σ H1 Q I1 q1
  | false => exact ⟨.bl false, H1, I1, rfl, q1⟩
theorem pta_val (h : PEa X body e te) (he : ∀ whole, isTrue e X.env whole = (do let v ← whole; standAt e.pos; holding [v] (truthy v)) := by intro _; rfl) : PTa X body e (tB te) := by
  refine ⟨fun pins s σ H Q I hw => ?_⟩
  rw [he]
  refine _root_.PySem.wpAt_bind (ks_wpAt_mono (h.run pins s σ H _ I hw) (fun v s1 ⟨x, H1, I1, r1, q1⟩ => wpAt_of_wpAny (wpAny_bind (wpAny_standAt (wpAny_holding ?_)))) fun _ _ z => z)
  obtain ⟨d, rfl, q⟩ := q1
  cases r1
  exact wpAny_truthy_bool ⟨H1, I1, q⟩
theorem pta_not (h : PTa X body a tA) : PTa X body (.UnaryOp .Not a pos) (tNot tA) := ⟨fun pins s σ H Q I hw => at_not (h.run pins s σ H (fun c H1 => Q (!c) H1) I hw)⟩
theorem pta_or (ha : PTa X body a tA) (hb : PW X (.BoolOp .Or (b :: rest) pos) tB') : PTa X body (.BoolOp .Or (a :: b :: rest) pos) (tOr tA tB') := by
  refine ⟨fun pins s σ H Q I h => ?_⟩
  refine at_or (ks_wpAt_mono (ha.run pins s σ H _ I h) (fun c s1 ⟨H1, I1, q1⟩ => ?_) fun _ _ z => z)
  cases c with
  | true => exact ⟨H1, I1, q1⟩
  | false => exact hb.run _ pins s1 σ H1 Q I1 q1
theorem psa_ret (h : PEa X body e te) : PSa X body (.Return (some e) pos) (tRet te) :=
  ⟨fun pins s σ H D I w => ks_wpAt_Return_some (ks_wpAt_mono (h.run pins s σ H _ I w) (fun v s1 ⟨x, H1, I1, r1, q1⟩ => ⟨x, σ, H1, I1, r1, q1⟩) fun _ _ z => z)⟩
theorem psa_if {c : Expr} {x y : List Stmt} {tc : TT} (hc : PTa X body c tc) (ha : PSs X x t) (hb : PSs X y u) : PSa X body (.If c x y pos) (tIfS tc t u) := by
  refine ⟨fun pins s σ H D I h => ?_⟩
  refine ks_wpAt_If (ks_wpAt_mono (hc.run pins s σ H _ I h) (fun d s1 ⟨H1, I1, q1⟩ => ?_) fun _ _ z => z)
  cases d with
  | true => exact wpAt_of_wpAny (ha.run pins s1 σ H1 D I1 q1)
  | false => exact wpAt_of_wpAny (hb.run pins s1 σ H1 D I1 q1)
theorem PSa.of (h : PS X st t) : PSa X body st t := ⟨fun pins s σ H D I w => wpAt_of_wpAny (h.run pins s σ H D I w)⟩
theorem PSsa.of (h : PSs X sts t) : PSsa X body sts t := ⟨fun pins s σ H D I w => wpAt_of_wpAny (h.run pins s σ H D I w)⟩
theorem pssa_cons (h : PSa X body st t) (hs : PSsa X body sts u) : PSsa X body (st :: sts) (tSeq t u) := by
  refine ⟨fun pins s σ H D I w => ?_⟩
  refine ks_wpAt_execs_cons (ks_wpAt_mono (h.run pins s σ H _ I w) (fun fl s1 hf => ?_) fun _ _ z => z)
  cases fl with
  | next =>
    obtain ⟨σ', H', J, q⟩ := hf
    exact hs.run pins s1 σ' H' D J q
  | brk => exact hf
  | cont => exact hf
  | ret u => exact hf
theorem pssa_one (h : PSa X body st t) : PSsa X body [st] t := by
  refine ⟨fun pins s σ H D I w => ?_⟩
  refine ks_wpAt_execs_cons (ks_wpAt_mono (h.run pins s σ H _ I w) (fun fl s1 hf => ?_) fun _ _ z => z)
  cases fl with
  | next => exact wpAt_of_wpAny (wpAny_execs_nil hf)
  | brk => exact hf
  | cont => exact hf
  | ret u => exact hf
end
section
variable {CX : CXT} {P : Program} {w : World} {K : PySem.W.Frag} {mg : Str → Option Value} {base : Heap} {k : Nat} {F : NF} {f cc D : Addr} {kV doc pm ct oc : Value} {an od : Option Addr} {osl : Array (Option Value)} {N ps : List Str} {sp : Sp}
/-- a def with the class's cell, whose body says super() -/
theorem fn_at (lk : K.lookup f = some ⟨oc, od, .func (PySem.W.fnX F.name F.qual F.params F.body F.scope F.cl .none kV doc pm an (.ref F.c) ct), osl⟩) (hcd : PySem.W.codeIn K (.ref F.c) F.qual = true) (hcl : F.cl = [(("__class__" : Str), cc)])
    (hcc : ∃ cl cld csl, K.lookup cc = some ⟨cl, cld, .cell (some (.ref D)), csl⟩) (S : NScope N ps ["__class__"] F.scope)
    (len : ∀ vs H Q E, sp vs H Q E → vs.length = ps.length)
    (hbody : ∀ (A : Around) (outer : List Env) (s : Shared) (H : Hp) (vs : List V) (Q : VK) (E : XK), Room k (A.deeper (envF F f s.heap.objs.size)) → sp vs H Q E →
      ∃ t : TS, PSsa (ncx CX P w K mg base N F f A outer s H E) F.body F.body t ∧ t { nx := fun _ H' => Q .non H', rt := Q } (startF N vs [none]) H) :
    FnOk P w K mg base CX (k + 1) f (PySem.W.fnX F.name F.qual F.params F.body F.scope F.cl .none kV doc pm an (.ref F.c) ct) ps sp := by
  refine ⟨len, fun A outer s H args us vs Q E hr e0 hb r hsp => ?_⟩
  have hl := len _ _ _ _ hsp
  have KX : K.In s.heap := e0.mod.kin.keeps fun b o e => (e0.bs b o e).1
  have lim : s.heap.NoLimit := e0.mod.nolimit.keeps fun b o e => (e0.bs b o e).1
  obtain ⟨cl, cld, csl, hcc⟩ := hcc
  have C : CellsAt F.cl ["__class__"] [none] s.heap H := by
    have one : ∀ {y : Str} {c : Addr}, F.cl.lookup y = some c → y = "__class__" ∧ c = cc := fun {y c} e => by
      rw [hcl] at e
      by_cases h : y = ("__class__" : Str)
      · subst h
        have e2 : some cc = some c := e
        exact ⟨rfl, (Option.some.inj e2).symm⟩
      · have h2 : (y == ("__class__" : Str)) = false := by simpa using h
        rw [List.lookup_cons, h2] at e
        cases e
    refine ⟨rfl, fun y c e => ?_, fun x y c e1 e2 => (one e1).1.trans (one e2).1.symm, fun i y hi => ?_⟩
    · rw [(one e).2]
      exact ⟨(e0.bs _ _ (e0.mod.kin _ _ hcc)).2, _, ⟨_, KX _ _ hcc, rfl⟩⟩
    · cases i with
      | zero =>
        have e : ("__class__" : Str) = y := Option.some.inj hi
        refine ⟨cc, by rw [hcl, ← e]; rfl, fun v hv => ?_⟩
        cases hv
      | succ i => cases hi
  refine ks_codeAny_call_defAt hr.depth (KX _ _ lk) rfl lim (PySem.W.codeRec_of KX hcd) rfl hb S.nocell (fun ⟨n, v⟩ hy => S.par n (List.of_mem_zip hy).1) (fun h₁ hns kp => ?_) S.co S.gen S.kind
  show _root_.PySem.wpAt (model P w) (A.deeper (envF F f s.heap.objs.size)) (.func F.body (envF F f s.heap.objs.size)) (execs F.body (envF F f s.heap.objs.size)) _ _ _
  obtain ⟨t, ps', hq⟩ := hbody A outer s H vs Q E (hr.deeper _) hsp
  have I : Inv (ncx CX P w K mg base N F f A outer s H E) [] (startF N vs [none]) H { s with heap := h₁, toks := s.toks + (ps.zip us).length } := inv_startN S hr.hd e0 hl r C hns kp
  have fin : ∀ {s' : Shared} {σ' : L2.St} {H' : Hp} {v : V} {u : Value}, Inv (ncx CX P w K mg base N F f A outer s H E) [] σ' H' s' → L2.RelV v u → Q v H' → CE outer P w H s Q u s' :=
    fun {s' σ' H' v u} J rv q => ⟨v, H', J.os, J.bare, J.base, J.hok, rv, q⟩
  refine ks_wpAt_mono (ps'.run [] _ (startF N vs [none]) H _ I hq) (fun fl s' hs => ?_) fun e s' hs => hs
  cases fl with
  | ret u =>
    obtain ⟨v, σ', H', J, rv, q⟩ := hs
    exact fin J rv q
  | next =>
    obtain ⟨σ', H', J, q⟩ := hs
    exact fin (v := V.non) (u := Value.none) J rfl q
  | brk =>
    obtain ⟨_, _, _, q⟩ := hs
    exact False.elim q
  | cont =>
    obtain ⟨_, _, _, q⟩ := hs
    exact False.elim q
end
end SupM
/-! A def that says super() and has cells of its own (locals that its comprehensions read). -/
namespace SupC
open PySem PySem.Spec PyProof.Rows L2 NdefX Sup Ow SupM
theorem cf_app : ∀ (ns : List (Str × NameKind)) (n : Nat) (acc : List (Str × Addr)), cellsFrom n ns acc = cellsFrom n ns [] ++ acc
  | [], _, _ => rfl
  | (x, k) :: r, n, acc => by
    unfold cellsFrom
    split
    · rw [cf_app r (n + 1) ((x, n) :: acc), cf_app r (n + 1) [(x, n)], List.append_assoc]
      rfl
    · exact cf_app r n acc
theorem look_app {α : Type} {x : Str} : ∀ {l m : List (Str × α)} {c : α}, (l ++ m).lookup x = some c → l.lookup x = some c ∨ m.lookup x = some c
  | [], m, c, h => .inr h
  | (y, d) :: l, m, c, h => by
    rw [List.cons_append, List.lookup_cons] at h
    rw [List.lookup_cons]
    cases e : x == y with
    | true =>
      rw [e] at h
      exact .inl h
    | false =>
      rw [e] at h
      exact look_app h
section
variable {M : Model} {A : Around} {E : Value → Shared → Prop} {s : Shared}
theorem newEnv_own {scope : Scope} {globals : Addr} {cl : List (Str × Addr)} {binds : List (Str × Value)} {qual : Str} {func : Option Addr} {code : Value} {builtins : Addr} {Q : Env → Shared → Prop}
    (hl : ∀ x ∈ binds, scope.names.lookup x.1 = some .local) (hk : scope.kind = .function)
    (hQ : ∀ h' tk, h'.Ns s.heap.objs.size (fun x => binds.reverse.lookup x) → (∀ b o, s.heap.get? b = some o → h'.get? b = some o) → CellsOk h' (s.heap.objs.size + 1) (cellsFrom (s.heap.objs.size + 1) scope.names []) →
      Q (newEnv scope s.heap.objs.size globals (cellsFrom (s.heap.objs.size + 1) scope.names cl) qual func code none builtins) { s with heap := h', toks := tk }) :
    wpAny M A (newFunctionEnv scope globals cl binds qual func code none builtins) Q E s := by
  simp only [newFunctionEnv, Option.isSome_none, Bool.false_eq_true, if_false]
  refine wpAny_bind (wpAny_alloc ?_)
  refine wpAny_bind (wpAny_layCells _ (fun name kind cells => by cases hkc : kind == NameKind.cell <;> simp [hkc]) _ _ _ _ ?_)
  have ok := cellsFrom_ok scope.names (s.heap.push { cls := .type "frame", data := .dict #[] }) (s.heap.objs.size + 1) [] ⟨fun _ _ hm => (nomatch hm), List.Pairwise.nil⟩ (by rw [Heap.size_push]; exact Nat.le_refl _)
  rw [Heap.size_push] at ok
  rw [show ({ s with heap := s.heap.push { cls := .type "frame", data := .dict #[] } } : Shared).heap.objs.size = s.heap.objs.size + 1 from Heap.size_push ..]
  have keep : ∀ b o, s.heap.get? b = some o → (pushCells (s.heap.push { cls := .type "frame", data := .dict #[] }) scope.names).get? b = some o := fun b o e => pushCells_keeps _ _ b o (Heap.get?_push_of_some _ e)
  refine wpAny_bind (wpAny_forIn_list _ (fun rest _ s' => ∃ (done : List (Str × Value)) (h' : Heap) (tk : Nat), binds = done ++ rest ∧ s' = { s with heap := h', toks := tk } ∧ h'.Ns s.heap.objs.size (fun x => done.reverse.lookup x) ∧ Heap.SameBut s.heap.objs.size (pushCells (s.heap.push { cls := .type "frame", data := .dict #[] }) scope.names) h') _ ?_ ?_ binds _
    ⟨[], _, _, rfl, rfl, (Heap.Ns.new s.heap (.type "frame")).keeps (pushCells_keeps _ _), Heap.SameBut.refl ..⟩)
  · rintro ⟨name, v⟩ rest _ s' ⟨done, h', tk, hb, rfl, hns, hsb⟩
    have hkd : Env.kindOf (newEnv scope s.heap.objs.size globals (cellsFrom (s.heap.objs.size + 1) scope.names cl) qual func code none builtins) name = some .local := hl (name, v) (by rw [hb]; simp)
    refine wpAny_bind (wpAny_storeName_local (env := newEnv scope s.heap.objs.size globals (cellsFrom (s.heap.objs.size + 1) scope.names cl) qual func code none builtins) hkd hns (fun h2 hn2 hs2 => wpAny_pure ⟨done ++ [(name, v)], h2, _, by rw [hb, List.append_assoc]; rfl, rfl, ?_, hsb.trans hs2⟩) (by show (scope.kind == .class || (scope.kind == .module && _)) = false; rw [hk]; rfl))
    have e : (fun x => (done ++ [(name, v)]).reverse.lookup x) = fun x => if x = name then some v else done.reverse.lookup x := funext fun x => by
      rw [List.reverse_append]
      show List.lookup x ((name, v) :: done.reverse) = _
      rw [List.lookup_cons]
      by_cases h : x = name
      · rw [if_pos h, beq_iff_eq.mpr h]
      · rw [if_neg h, beq_false_of_ne h]
    rw [e]
    exact hn2
  · rintro _ s' ⟨done, h', tk, hb, rfl, hns, hsb⟩
    rw [List.append_nil] at hb
    subst hb
    refine wpAny_pure (hQ h' tk hns (fun b o e => hsb.extBut b o (Nat.ne_of_lt (Heap.lt_size e)) (keep b o e)) ⟨fun n c hm => ?_, ok.apart⟩)
    obtain ⟨h1, h2⟩ := ok.empty n c hm
    exact ⟨h1.sameBut hsb (Nat.ne_of_gt h2), h2⟩
end
/-- names, parameters, the class's cell behind them; own cells are no parameters -/
structure CScope (N ps : List Str) (sc : Scope) : Prop where
  kind : sc.kind = .function
  co : sc.isCoroutine = false
  gen : sc.isGenerator = false
  nd : N.Nodup
  pre : N.take (ps.length + 1) = ps ++ [("__class__" : Str)]
  par : ∀ x ∈ ps, sc.names.lookup x = some .local
  free : ∀ y ∈ sc.names, y.2 = .free → y.1 = ("__class__" : Str)
  frk : sc.names.lookup ("__class__" : Str) = some .free
  uniq : (sc.names.map (·.1)).Nodup
def cscB (N ps : List Str) (sc : Scope) : Bool :=
  decide (sc.kind = .function) && !sc.isCoroutine && !sc.isGenerator && decide N.Nodup && decide (N.take (ps.length + 1) = ps ++ [("__class__" : Str)]) && ps.all (fun x => decide (sc.names.lookup x = some .local)) && sc.names.all (fun y => !decide (y.2 = .free) || decide (y.1 = ("__class__" : Str))) && decide (sc.names.lookup ("__class__" : Str) = some .free) && decide (sc.names.map (·.1)).Nodup
theorem cscope_by {N ps : List Str} {sc : Scope} (h : cscB N ps sc = true) : CScope N ps sc := by
  unfold cscB at h
  simp only [Bool.and_eq_true, Bool.not_eq_true', decide_eq_true_eq, List.all_eq_true, Bool.or_eq_true, decide_eq_false_iff_not] at h
  obtain ⟨⟨⟨⟨⟨⟨⟨⟨h1, h2⟩, h3⟩, h4⟩, h5⟩, h6⟩, h7⟩, h8⟩, h9⟩ := h
  exact ⟨h1, h2, h3, h4, h5, h6, fun y hy e => (h7 y hy).elim (fun z => absurd e z) id, h8, h9⟩
abbrev envC (F : NF) (f L : Addr) : Env := PySem.W.envX F.qual F.scope L f (.ref F.c) (cellsFrom (L + 1) F.scope.names F.cl)
def cxC (CX : CXT) (P : Program) (w : World) (K : PySem.W.Frag) (mg : Str → Option Value) (base : Heap) (N : List Str) (F : NF) (f : Addr) (A : Around) (outer : List Env) (s : Shared) (H : Hp) (E : XK) : Cx where
  prog := P
  w := w
  K := K
  mg := mg
  base := base
  A := A.deeper (envC F f s.heap.objs.size)
  N := N
  s_0 := s
  H_0 := H
  env := envC F f s.heap.objs.size
  outer := outer
  stack := envC F f s.heap.objs.size :: outer
  ex := []
  calm := true
  fn := fun x => !decide (x = ("__class__" : Str))
  pn := []
  xe := fun e s' => wpAny (model P w) (A.deeper (envC F f s.heap.objs.size)) (leaving (envC F f s.heap.objs.size) e) (fun _ s'' => CX outer H s E e s'') (fun e' s'' => CX outer H s E e' s'') s'
/-- the names of the own cells -/
theorem own_cell : ∀ {ns : List (Str × NameKind)} {n : Nat} {x : Str} {c : Addr}, (x, c) ∈ cellsFrom n ns [] → (x, NameKind.cell) ∈ ns ∧ n ≤ c
  | [], _, _, _, h => by cases h
  | (y, k) :: r, n, x, c, h => by
    unfold cellsFrom at h
    split at h
    · rename_i hk
      rw [cf_app] at h
      rcases List.mem_append.mp h with h | h
      · obtain ⟨h1, h2⟩ := own_cell h
        exact ⟨List.mem_cons_of_mem _ h1, by omega⟩
      · have e := List.mem_singleton.mp h
        cases e
        rw [beq_iff_eq.mp hk]
        exact ⟨List.mem_cons_self .., Nat.le_refl _⟩
    · obtain ⟨h1, h2⟩ := own_cell h
      exact ⟨List.mem_cons_of_mem _ h1, h2⟩
theorem look_in {ns : List (Str × NameKind)} (nd : (ns.map (·.1)).Nodup) {x : Str} {k : NameKind} (h : (x, k) ∈ ns) : ns.lookup x = some k := by
  induction ns with
  | nil => cases h
  | cons p r ih =>
    obtain ⟨y, j⟩ := p
    obtain ⟨n1, n2⟩ := List.nodup_cons.mp nd
    rw [List.lookup_cons]
    rcases List.mem_cons.mp h with h | h
    · cases h
      rw [beq_self_eq_true]
    · have ne : x ≠ y := fun e => n1 (e ▸ List.mem_map.mpr ⟨_, h, rfl⟩)
      rw [beq_false_of_ne ne]
      exact ih n2 h
theorem cell_has2 {sc : Scope} {n : Nat} {x : Str} {cl : List (Str × Addr)} (h : sc.names.lookup x = some .cell) : ∃ c, (cellsFrom n sc.names cl).lookup x = some c := by
  obtain ⟨c, e⟩ := cell_has (n := n) h
  refine ⟨c, ?_⟩
  rw [cf_app]
  rw [List.lookup_append, e]
  rfl
section
variable {CX : CXT} {P : Program} {w : World} {K : PySem.W.Frag} {mg : Str → Option Value} {base : Heap} {N ps : List Str} {F : NF} {f cc D : Addr} {A : Around} {outer : List Env} {s : Shared} {H : Hp} {E : XK} {us : List Value} {vs : List V} {k : Nat} {sp : Sp} {oc kV doc pm ct : Value} {od an : Option Addr} {osl : Array (Option Value)}
theorem inv_startC {h₁ : Heap} {tk : Nat} (S : CScope N ps F.scope) (hd : A.handled = none) (e0 : Env0 P w K mg base A outer s H) (hl : vs.length = ps.length) (r : Vals vs us) (hcl : F.cl = [(("__class__" : Str), cc)])
    (hcc : ∃ v, s.heap.IsCell cc v) (hH : H cc = none) (hlt : cc < s.heap.objs.size) (hns : h₁.Ns s.heap.objs.size fun y => (ps.zip us).reverse.lookup y)
    (kp : ∀ b o, s.heap.get? b = some o → h₁.get? b = some o) (ok : CellsOk h₁ (s.heap.objs.size + 1) (cellsFrom (s.heap.objs.size + 1) F.scope.names [])) : Inv (cxC CX P w K mg base N F f A outer s H E) [] (startF N vs [none]) H { s with heap := h₁, toks := tk } := by
  have hpl : ps.length + 1 ≤ N.length := by
    have q := congrArg List.length S.pre
    rw [List.length_take, List.length_append] at q
    simp only [List.length_cons, List.length_nil] at q
    omega
  have noA : ∀ b : Addr, b ∉ (cxC CX P w K mg base N F f A outer s H E).ex := fun b z => absurd (show b ∈ ([] : List Addr) from z) (by simp)
  have cellK : ∀ {c : Addr} {v : Option Value}, s.heap.IsCell c v → h₁.IsCell c v := fun {c v} ⟨o, ho, hd⟩ => ⟨o, kp _ _ ho, hd⟩
  -- every cell is an own one or the class's
  have two : ∀ {x : Str} {c : Addr}, (cellsFrom (s.heap.objs.size + 1) F.scope.names F.cl).lookup x = some c → ((x, c) ∈ cellsFrom (s.heap.objs.size + 1) F.scope.names [] ∧ s.heap.objs.size + 1 ≤ c) ∨ (x = ("__class__" : Str) ∧ c = cc) := fun {x c} h => by
    rw [cf_app] at h
    rcases look_app h with h | h
    · have m := PySem.mem_of_lookup h
      exact .inl ⟨m, (ok.empty _ _ m).2⟩
    · rw [hcl] at h
      by_cases e : x = ("__class__" : Str)
      · subst e
        have e2 : some cc = some c := h
        exact .inr ⟨rfl, (Option.some.inj e2).symm⟩
      · have h2 : (x == ("__class__" : Str)) = false := beq_false_of_ne e
        rw [List.lookup_cons, h2] at h
        cases h
  refine ⟨⟨e0.mod, S.kind, rfl, rfl, Nat.le_refl _, fun x y c h1 h2 => ?_, fun y hy => ?_, fun y c z h => ?_, fun _ => hd, Around.frames_deeper e0.frames, .inr ⟨rfl, rfl⟩, fun b z => absurd z (noA b), e0.bs, e0.bsz, fun b _ _ => noA b,
      fun b z => absurd z (noA b), e0.funs, e0.frf⟩,
    rfl, e0.bare, Un.kept kp, ⟨_, hns, fun i y v e1 e2 e3 => ?_⟩, fun y c e => ?_, e0.hok.fresh (Nat.le_refl _), fun y c e => ?_, fun q hq => absurd (show q ∈ ([] : List (Addr × Obj)) ++ [] from hq) (by simp), e0.hok.kept kp, ?_⟩
  · rcases two h1 with ⟨a1, a2⟩ | ⟨a1, a2⟩ <;> rcases two h2 with ⟨b1, b2⟩ | ⟨b1, b2⟩
    · exact name_of_addr ok.apart a1 b1
    · have h9 : s.heap.objs.size + 1 ≤ cc := b2 ▸ a2
      exact absurd (Nat.lt_trans hlt (Nat.lt_of_succ_le h9)) (Nat.lt_irrefl _)
    · have h9 : s.heap.objs.size + 1 ≤ cc := a2 ▸ b2
      exact absurd (Nat.lt_trans hlt (Nat.lt_of_succ_le h9)) (Nat.lt_irrefl _)
    · rw [a1, b1]
  · have hy : F.scope.names.lookup y = some .cell ∨ F.scope.names.lookup y = some .free := hy
    rcases hy with hy | hy
    · exact cell_has2 hy
    · have e := S.free _ (PySem.mem_of_lookup hy) rfl
      have e' : y = ("__class__" : Str) := e
      subst e'
      show ∃ c, (cellsFrom (s.heap.objs.size + 1) F.scope.names F.cl).lookup ("__class__" : Str) = some c
      rw [cf_app, List.lookup_append]
      cases h0 : (cellsFrom (s.heap.objs.size + 1) F.scope.names []).lookup ("__class__" : Str) with
      | some c => exact ⟨c, rfl⟩
      | none =>
        rw [hcl]
        exact ⟨cc, rfl⟩
  · rcases two h with ⟨a1, a2⟩ | ⟨a1, a2⟩
    · show s.heap.objs.size ≤ c
      omega
    · have z : (!decide (y = ("__class__" : Str))) = true := z
      rw [a1] at z
      simp at z
  · have e1 : N[i]? = some y := e1
    unfold startF at e2
    have hi : i < ps.length := by
      by_cases h1 : i < ps.length
      · exact h1
      · rw [List.getElem?_append_right (by rw [List.length_map]; omega), List.length_map] at e2
        by_cases h2 : i < ps.length + 1
        · have e3 : i - vs.length = 0 := by omega
          rw [e3] at e2
          cases e2
        · rw [List.getElem?_append_right (by show 1 ≤ i - vs.length; omega), List.getElem?_replicate] at e2
          split at e2 <;> cases e2
    have hq : (ps ++ [("__class__" : Str)])[i]? = some y := by
      rw [← S.pre, List.getElem?_take_of_lt (by omega)]
      exact e1
    rw [List.getElem?_append_left hi] at hq
    rw [List.getElem?_append_left (by rw [List.length_map]; omega), List.getElem?_map] at e2
    have ha : vs[i]? = some v := by
      cases e : vs[i]? with
      | none => rw [e] at e2; cases e2
      | some a => rw [e] at e2; cases e2; rfl
    obtain ⟨u, hu, rv⟩ := r.get ha
    have ndP : ps.Nodup := by
      have q := S.nd.sublist (List.take_sublist (ps.length + 1) N)
      rw [S.pre] at q
      exact (List.nodup_append.mp q).1
    exact ⟨u, rv, .inl ⟨S.par y (List.mem_of_getElem? hq), zip_look ndP hq hu⟩⟩
  · rcases two e with ⟨a1, a2⟩ | ⟨a1, a2⟩
    · exact ⟨_, (ok.empty _ _ a1).1⟩
    · obtain ⟨v, z⟩ := hcc
      rw [a2]
      exact ⟨v, cellK z⟩
  · rcases two e with ⟨a1, a2⟩ | ⟨a1, a2⟩
    · exact e0.hok.fresh (by omega)
    · rw [a2]
      exact hH
  · unfold startF
    show _ = N.length
    rw [List.length_append, List.length_append, List.length_map, List.length_replicate]
    simp only [List.length_cons, List.length_nil]
    omega
/-- THE RULE -/
theorem fn_atC (lk : K.lookup f = some ⟨oc, od, .func (PySem.W.fnX F.name F.qual F.params F.body F.scope F.cl .none kV doc pm an (.ref F.c) ct), osl⟩) (hcd : PySem.W.codeIn K (.ref F.c) F.qual = true) (hcl : F.cl = [(("__class__" : Str), cc)])
    (hcc : ∃ cl cld csl, K.lookup cc = some ⟨cl, cld, .cell (some (.ref D)), csl⟩) (S : CScope N ps F.scope)
    (len : ∀ vs H Q E, sp vs H Q E → vs.length = ps.length)
    (hbody : ∀ (A : Around) (outer : List Env) (s : Shared) (H : Hp) (vs : List V) (Q : VK) (E : XK), Room k (A.deeper (envC F f s.heap.objs.size)) → sp vs H Q E →
      ∃ t : TS, PSsa (cxC CX P w K mg base N F f A outer s H E) F.body F.body t ∧ t { nx := fun _ H' => Q .non H', rt := Q } (startF N vs [none]) H) :
    FnOk P w K mg base CX (k + 1) f (PySem.W.fnX F.name F.qual F.params F.body F.scope F.cl .none kV doc pm an (.ref F.c) ct) ps sp := by
  refine ⟨len, fun A outer s H args us vs Q E hr e0 hb r hsp => ?_⟩
  have hl := len _ _ _ _ hsp
  have KX : K.In s.heap := e0.mod.kin.keeps fun b o e => (e0.bs b o e).1
  have lim : s.heap.NoLimit := e0.mod.nolimit.keeps fun b o e => (e0.bs b o e).1
  obtain ⟨cl, cld, csl, hcc⟩ := hcc
  refine codeAny_call_function (fd := PySem.W.fnX F.name F.qual F.params F.body F.scope F.cl .none kV doc pm an (.ref F.c) ct) (body := F.body) hr.depth (KX _ _ lk) rfl S.co S.gen rfl (PySem.W.codeRec_of KX hcd) (hb _ _ _ _ ?_)
  refine newEnv_own (fun x hx => S.par x.1 (List.of_mem_zip hx).1) S.kind fun h₁ tk hns kp ok => ?_
  refine ⟨lim.keeps kp, ks_codeAny_funcAt ?_⟩
  show _root_.PySem.wpAt (model P w) (A.deeper (envC F f s.heap.objs.size)) (.func F.body (envC F f s.heap.objs.size)) (execs F.body (envC F f s.heap.objs.size)) _ _ _
  obtain ⟨t, ps', hq⟩ := hbody A outer s H vs Q E (hr.deeper _) hsp
  have I : Inv (cxC CX P w K mg base N F f A outer s H E) [] (startF N vs [none]) H { s with heap := h₁, toks := tk } := inv_startC S hr.hd e0 hl r hcl ⟨_, ⟨_, KX _ _ hcc, rfl⟩⟩ (e0.bs _ _ (e0.mod.kin _ _ hcc)).2 (Heap.lt_size (KX _ _ hcc)) hns kp ok
  have fin : ∀ {s' : Shared} {σ' : L2.St} {H' : Hp} {v : V} {u : Value}, Inv (cxC CX P w K mg base N F f A outer s H E) [] σ' H' s' → L2.RelV v u → Q v H' → CE outer P w H s Q u s' :=
    fun {s' σ' H' v u} J rv q => ⟨v, H', J.os, J.bare, J.base, J.hok, rv, q⟩
  refine ks_wpAt_mono (ps'.run [] _ (startF N vs [none]) H _ I hq) (fun fl s' hs => ?_) fun e s' hs => hs
  cases fl with
  | ret u =>
    obtain ⟨v, σ', H', J, rv, q⟩ := hs
    exact fin J rv q
  | next =>
    obtain ⟨σ', H', J, q⟩ := hs
    exact fin (v := V.non) (u := Value.none) J rfl q
  | brk =>
    obtain ⟨_, _, _, q⟩ := hs
    exact False.elim q
  | cont =>
    obtain ⟨_, _, _, q⟩ := hs
    exact False.elim q
end
end SupC
/-! sorted(xs), xs a list of data (alike tuples, ..), any length: the stable sort by the order of data. -/
namespace So
open PySem PySem.Spec PyProof.Rows L2 Bx TL Dx PySem.W
section
variable {X : Cx} {pins : List (Addr × Obj)} {σ : L2.St} {H : Hp} {s : Shared}
theorem each_of (I : Inv X pins σ H s) : ∀ {vs : List V} {us : List Value} {ds : List PyData}, DpAll X.K H vs ds → Vals vs us → EachIs (fun u d => (∃ v, Dp X.K H v d ∧ L2.RelV v u) ∧ ∃ as, Reads s.heap u d as) us ds
  | [], [], [], _, _ => .nil
  | v :: vs, u :: us, d :: ds, h, r => by
    cases h with
    | cons h1 h2 =>
      cases r with
      | cons r1 r2 => exact .cons ⟨⟨v, h1, r1⟩, Dp.reads I d v u h1 r1⟩ (each_of I h2 r2)
  | [], _ :: _, _, _, r => by cases r
  | _ :: _, [], _, _, r => by cases r
  | [], [], _ :: _, h, _ => by cases h
  | _ :: _, _ :: _, [], h, _ => by cases h
theorem each_back {K : Frag} : ∀ {us : List Value} {ds : List PyData}, EachIs (fun u d => ∃ v, Dp K H v d ∧ L2.RelV v u) us ds → ∃ vs, Vals vs us ∧ DpAll K H vs ds
  | _, _, .nil => ⟨[], .nil, .nil⟩
  | _, _, .cons ⟨v, h, r⟩ t => by
    obtain ⟨vs, r2, h2⟩ := each_back t
    exact ⟨v :: vs, .cons r r2, .cons h h2⟩
def dle : PyData → PyData → Bool := dataLe false id
def rSortD (K : Frag) : List V → Hp → VK → Prop := fun xs H Q => ∃ (a : Addr) (vs : List V) (ds : List PyData), xs = [V.ref a] ∧ SqL K H a vs ∧ DpAll K H vs ds ∧ AllAlike ds ∧ Sortable ds ∧ ds.length ≤ sizeLine ∧ (∀ d ∈ ds, d.depth ≤ 60) ∧
  ∀ (ys : List V) (p : Addr), H p = none → DpAll K H ys (ds.mergeSort dle) → Q (.ref p) (upd H p (.lst ys))
theorem cr_sortD (hu : X.A.units + 65 < cLine) : CallR X (.builtin "sorted") (rSortD X.K) := by
  intro pins s σ H xs us Q I r h
  obtain ⟨a, vs, ds, rfl, hs, hd, hal, hso, hz, hdp, q⟩ := h
  cases r with
  | cons r1 r2 =>
    cases r2
    cases r1
    obtain ⟨its, rv, hl, _⟩ := I.list hs
    have ea := each_of I hd rv
    refine sorted_data (bs := ds) (enc := id) (R := fun u d => ∃ v, Dp X.K H v d ∧ L2.RelV v u) hl.isList (ea.mono fun _ _ z => z.1) (ea.mono fun _ _ z => z.2) (by rw [List.map_id]; exact hal) (by rw [List.map_id]; exact hso) hz (fun d hd => ?_) fun out hlen eo => ?_
    · have := hdp d hd
      show X.A.units + 2 + d.depth < cLine
      omega
    · obtain ⟨ys, ry, dy⟩ := each_back eo
      obtain ⟨ep, he'⟩ := PyProof.Rows.sortedAll_at s.heap its out.toArray
      have hyl : ys.length = ds.length := by rw [ry.length, hlen]
      exact ⟨.ref _, upd H (s.heap.objs.size + 1) (.lst ys), I.laid (t' := s.toks) (fun _ _ => PyProof.Rows.sortedAll_old) (Nat.le_succ _) ⟨by rw [hyl]; exact hz, out, ep, ry, by simpa using he'⟩, rfl, q ys _ (I.hok.fresh (Nat.le_succ _)) dy⟩
end
end So
/-! Sets of nested tuples of ints and texts, fewer than 64 members: set(xs), sorted(..), `in`. -/
namespace Sd
open PySem PySem.Spec PyProof.Rows L2
abbrev NK := PySem.NestedKey
/-- the tuple at a is the key k -/
def Is8 (h : PySem.Heap) (k : NK) (a : Addr) : Prop := NestedIs h k (.ref a) ∧ k.depth ≤ 8
def ClsAt (P : Program) (w : World) (n : Nat) (s : Shared) (v : Value) : Prop := ∀ (A : Around) (E : Value → Shared → Prop) (Q : Bool → Shared → Prop), Q false s → wpAny (model P w) A (ofAClassStatement n v) Q E s
def HbvAt (P : Program) (w : World) (n : Nat) (s : Shared) (v : Value) : Prop := ∀ (A : Around) (E : Value → Shared → Prop) (Q : Bool → Shared → Prop), (∀ b, Q b s) → wpAny (model P w) A (hashByValue n v) Q E s
section
variable {P : Program} {w : World} {A : Around} {E : Value → Shared → Prop} {s : Shared}
theorem cls_pure {n : Nat} {v : Value} (e : ofAClassStatement n v = pure false) : ClsAt P w n s v := fun A E Q q => by
  rw [e]
  exact wpAny_pure q
theorem hbv_pure {n : Nat} {v : Value} {b : Bool} (e : hashByValue n v = pure b) : HbvAt P w n s v := fun A E Q q => by
  rw [e]
  exact wpAny_pure (q b)
theorem cls_tuple {n m : Nat} {a : Addr} {o : Obj} {vs : Array Value} (ho : s.heap.get? a = some o) (hc : o.cls = .type "tuple") (hd : o.data = .seq vs m) (all : ∀ v ∈ vs.toList, ClsAt P w n s v) : ClsAt P w (n + 1) s (.ref a) := fun A E Q q => by
  unfold ofAClassStatement
  refine wpAny_bind (wpAny_typeOf (show s.TypeIs (.ref a) "tuple" from ⟨o, ho, hc⟩) ?_)
  simp only [show (("tuple" : String) == "tuple") = true by decide, if_true, pure_bind, Bool.not_true, Bool.false_eq_true, if_false]
  refine wpAny_bind (wpAny_seqItems ho hd (wpAny_bind ?_))
  rw [← Array.forIn_toList]
  refine wpAny_forIn_list _ (fun left r s' => s' = s ∧ r.1 = none ∧ ∀ v ∈ left, ClsAt P w n s v) _ ?_ ?_ _ _ ⟨rfl, rfl, all⟩
  · rintro v left r s' ⟨rfl, e, rest⟩
    refine wpAny_bind (rest v (List.mem_cons_self ..) _ _ _ ?_)
    simp only [Bool.false_eq_true, if_false]
    exact wpAny_pure ⟨rfl, rfl, fun u hu => rest u (List.mem_cons_of_mem _ hu)⟩
  · rintro ⟨r, x⟩ s' ⟨rfl, e, _⟩
    simp only at e
    subst e
    exact wpAny_pure q
theorem hbv_tuple {n m : Nat} {a : Addr} {o : Obj} {vs : Array Value} (ho : s.heap.get? a = some o) (hc : o.cls = .type "tuple") (hd : o.data = .seq vs m) (all : ∀ v ∈ vs.toList, HbvAt P w n s v) : HbvAt P w (n + 1) s (.ref a) := fun A E Q q => by
  unfold hashByValue
  refine wpAny_bind (wpAny_specialOf (show s.TypeIs (.ref a) "tuple" from ⟨o, ho, hc⟩) F.slot_tuple_hash.lookup ?_)
  show wpAny _ _ (seqItems? (.ref a) >>= _) _ _ s
  refine wpAny_bind (wpAny_seqItems ho hd (wpAny_bind ?_))
  show wpAny _ _ (forIn vs _ _) _ _ s
  rw [← Array.forIn_toList]
  refine wpAny_forIn_list _ (fun left r s' => s' = s ∧ r.1 = none ∧ ∀ v ∈ left, HbvAt P w n s v) _ ?_ ?_ _ _ ⟨rfl, rfl, all⟩
  · rintro v left r s' ⟨rfl, e, rest⟩
    refine wpAny_bind (rest v (List.mem_cons_self ..) _ _ _ fun b => ?_)
    cases b with
    | true =>
      simp only [Bool.not_true, Bool.false_eq_true, if_false]
      exact wpAny_pure ⟨rfl, rfl, fun u hu => rest u (List.mem_cons_of_mem _ hu)⟩
    | false =>
      simp only [Bool.not_false, if_true]
      exact wpAny_pure (wpAny_pure (q false))
  · rintro ⟨r, x⟩ s' ⟨rfl, e, _⟩
    simp only at e
    subst e
    exact wpAny_pure (q true)
mutual
theorem cls_key : ∀ (k : NK) (v : Value) (n : Nat), NestedIs s.heap k v → k.depth ≤ n → ClsAt P w n s v
  | .none, _, n, x, _ => by
    cases x
    exact cls_pure (by cases n <;> rfl)
  | .num i, _, n, x, _ => by
    cases x <;> exact cls_pure (by cases n <;> rfl)
  | .text y, _, n, x, _ => by
    cases x
    exact cls_pure (by cases n <;> rfl)
  | .tup ks, _, n, x, hn => by
    cases x with
    | tup hg hc hd hk =>
      simp only [NestedKey.depth] at hn
      cases n with
      | zero => omega
      | succ n => exact cls_tuple hg hc hd (cls_keys ks _ n hk (by omega))
theorem cls_keys : ∀ (ks : List NK) (vs : List Value) (n : Nat), NestedAll s.heap ks vs → NestedKey.depthAll ks ≤ n → ∀ v ∈ vs, ClsAt P w n s v
  | [], _, n, x, _, v, hv => by
    cases x
    cases hv
  | k :: ks, _, n, x, hn, v, hv => by
    cases x with
    | cons x1 x2 =>
      simp only [NestedKey.depthAll] at hn
      rcases List.mem_cons.mp hv with e | hv
      · rw [e]
        exact cls_key k _ n x1 (by omega)
      · exact cls_keys ks _ n x2 (by omega) v hv
end
mutual
theorem hbv_key : ∀ (k : NK) (v : Value) (n : Nat), NestedIs s.heap k v → k.depth ≤ n → HbvAt P w n s v
  | .none, _, n, x, _ => by
    cases x
    exact hbv_pure (b := true) (by cases n <;> rfl)
  | .num i, _, n, x, _ => by
    cases x <;> exact hbv_pure (b := true) (by cases n <;> rfl)
  | .text y, _, n, x, _ => by
    cases x
    exact hbv_pure (b := false) (by cases n <;> rfl)
  | .tup ks, _, n, x, hn => by
    cases x with
    | tup hg hc hd hk =>
      simp only [NestedKey.depth] at hn
      cases n with
      | zero => omega
      | succ n => exact hbv_tuple hg hc hd (hbv_keys ks _ n hk (by omega))
theorem hbv_keys : ∀ (ks : List NK) (vs : List Value) (n : Nat), NestedAll s.heap ks vs → NestedKey.depthAll ks ≤ n → ∀ v ∈ vs, HbvAt P w n s v
  | [], _, n, x, _, v, hv => by
    cases x
    cases hv
  | k :: ks, _, n, x, hn, v, hv => by
    cases x with
    | cons x1 x2 =>
      simp only [NestedKey.depthAll] at hn
      rcases List.mem_cons.mp hv with e | hv
      · rw [e]
        exact hbv_key k _ n x1 (by omega)
      · exact hbv_keys ks _ n x2 (by omega) v hv
end
/-- looking such a key up shows nothing -/
theorem unseen {k : NK} {b : Addr} {Q : Bool → Shared → Prop} (hk : Is8 s.heap k b) {ys : List Value} (hy : ∀ y ∈ ys, ∃ k' c, y = Value.ref c ∧ Is8 s.heap k' c) (q : Q false s) : wpAny (model P w) A (searchCouldBeSeen (.ref b) ys) Q E s := by
  unfold searchCouldBeSeen
  refine wpAny_bind (wpAny_forIn_list _ (fun left r s' => s' = s ∧ r.1 = none ∧ ∀ y ∈ left, ∃ k' c, y = Value.ref c ∧ Is8 s.heap k' c) _ ?_ ?_ _ _ ⟨rfl, rfl, hy⟩)
  · rintro v left r s' ⟨rfl, e, all⟩
    obtain ⟨k', c, rfl, hc⟩ := all v (List.mem_cons_self ..)
    have rest : ∀ y ∈ left, ∃ k' c, y = Value.ref c ∧ Is8 s'.heap k' c := fun y hy => all y (List.mem_cons_of_mem _ hy)
    dsimp only
    by_cases hv : (b == c || (carriedByValue (.ref b) && carriedByValue (.ref c))) = true
    · refine wp_if_pos hv ?_
      exact wpAny_pure ⟨rfl, rfl, rest⟩
    · refine wp_if_neg hv ?_
      refine wpAny_bind ((nestedKind P w).quiet (show (nestedKind P w).is s'.heap k b from hk) ?_)
      simp only [Bool.not_true, Bool.false_eq_true, if_false]
      refine wpAny_bind ((nestedKind P w).quiet (show (nestedKind P w).is s'.heap k' c from hc) ?_)
      simp only [Bool.not_true, Bool.false_eq_true, if_false]
      refine wpAny_bind (cls_key k _ 8 hk.1 hk.2 _ _ _ ?_)
      simp only [Bool.false_eq_true, if_false]
      refine wpAny_bind (cls_key k' _ 8 hc.1 hc.2 _ _ _ ?_)
      simp only [Bool.false_eq_true, if_false]
      exact wpAny_pure ⟨rfl, rfl, rest⟩
  · rintro ⟨r, x⟩ s' ⟨rfl, e, _⟩
    simp only at e
    subst e
    exact wpAny_pure q
end
end Sd
namespace Sd
open PySem PySem.Spec PyProof.Rows L2
/-! ### the table -/
abbrev rowN (w : World) (p : Addr × NK) : Int × Value := (p.2.hash w, Value.ref p.1)
structure Ts (w : World) (h : PySem.Heap) (a : Addr) (L : List (Addr × NK)) (es : Array (Int × Value)) (ep : Nat) (t : SetTable) : Prop where
  obj : ∃ o, h.get? a = some o ∧ o.ExactSet ∧ o.data = .set es ep t
  row : es.toList = L.map (rowN w)
  tab : TabOk t (L.map fun p => p.2.hash w)
  one : (L.map (·.2)).Nodup
  mem : ∀ p ∈ L, Is8 h p.2 p.1
  led : w.params.followText "set-order" = true ∨ t.led = true
  free : L.length * 5 < t.mask * 3
  few : L.length < 64
/-- where the search for the hash h begins -/
abbrev beg (t : SetTable) (h : Int) : SetTable.Probe := runAt t.mask (SetTable.bits h % (t.mask + 1)) (SetTable.bits h)
section
variable {P : Program} {w : World} {A : Around} {E : Value → Shared → Prop} {s : Shared} {a : Addr} {L : List (Addr × NK)} {es : Array (Int × Value)} {ep : Nat} {t : SetTable}
theorem Ts.num (R : Ts w s.heap a L es ep t) : es.size = L.length := by
  have z := congrArg List.length R.row
  rwa [Array.length_toList, List.length_map] at z
theorem Ts.fit (R : Ts w s.heap a L es ep t) : t.fits es.size = true := by
  have z1 := R.tab.sz
  have z2 := R.num
  have z3 := R.free
  rw [List.length_map] at z1
  unfold SetTable.fits SetTable.fill
  rw [R.tab.dm, Bool.and_eq_true, beq_iff_eq, decide_eq_true_eq]
  show t.place.size = es.size ∧ t.place.size + 0 ≤ t.mask
  omega
theorem Ts.at (R : Ts w s.heap a L es ep t) {i : Nat} {p : Addr × NK} (e : L[i]? = some p) : es[i]? = some (rowN w p) := by
  rw [← Array.getElem?_toList, R.row, List.getElem?_map, e]
  rfl
theorem Ts.nogw (R : Ts w s.heap a L es ep t) : ¬ t.gaveWay = true := by
  unfold SetTable.gaveWay
  rw [mask_odd R.tab.mok]
  exact Bool.false_ne_true
theorem beg_quiet (m : Nat) : ∀ (n : Nat) (p : SetTable.Probe), p.dummy = none → (nth m p n).dummy = none
  | 0, _, h => h
  | n + 1, p, h => beg_quiet m n (adv m p) (by
    unfold adv
    split <;> exact h)
/-- from step c of the way on: found, or the first empty slot -/
theorem look_from (R : Ts w s.heap a L es ep t) {x : Addr} {k : NK} (hx : Is8 s.heap k x) (hu : A.units + 8 < cLine) {K : Nat} (K1 : K < 10 * SetTable.turns t.mask) (K2 : way t.mask (k.hash w) K ∉ t.place.toList) (K3 : ∀ c, c < K → way t.mask (k.hash w) c ∈ t.place.toList)
    {Q : SetFound → Shared → Prop} (yes : k ∈ L.map (·.2) → Q (.there none) s) (no : k ∉ L.map (·.2) → Q (.free (way t.mask (k.hash w) K) false) s) :
    ∀ (fuel c : Nat) (stand : Option SetTable.Probe), stand.getD (t.probeStart (k.hash w)) = nth t.mask (beg t (k.hash w)) c → c ≤ K → K - c < fuel →
      (∀ (i : Nat) p, L[i]? = some p → p.2 = k → ∃ d, c ≤ d ∧ d < K ∧ t.place.toList[i]? = some (way t.mask (k.hash w) d)) → wpAny (model P w) A (setSearchFrom a (.ref x) (k.hash w) true fuel stand) Q E s := by
  intro fuel
  induction fuel with
  | zero => exact fun c _ _ _ lt _ => absurd lt (Nat.not_lt_zero _)
  | succ fuel ih =>
    intro c stand est cK lt here
    obtain ⟨o, ho, hex, hd⟩ := R.obj
    have sum : ∀ q, nth t.mask (nth t.mask (beg t (k.hash w)) c) q = nth t.mask (beg t (k.hash w)) (c + q) := fun q => (nth_add t.mask c _ q).symm
    have wy : ∀ q, (nth t.mask (nth t.mask (beg t (k.hash w)) c) q).j = way t.mask (k.hash w) (c + q) := fun q => congrArg SetTable.Probe.j (sum q)
    have hsh : ∀ (i : Nat) p, L[i]? = some p → (es[i]?.map (·.1)).getD 0 = p.2.hash w := fun i p hp => by
      rw [R.at hp]
      rfl
    have met := go_spec t R.tab.ris R.tab.dm (fun i => (es[i]?.map (·.1)).getD 0) (k.hash w) (10 * SetTable.turns t.mask) (K - c) _ (beg_quiet t.mask c (beg t (k.hash w)) rfl) (by omega) (fun q hq => by rw [wy]; exact K3 _ (by omega)) (by rw [wy, show c + (K - c) = K by omega]; exact K2)
    rw [setSearchFrom_succ]
    refine wpAny_bind (wpAny_setState_of ho hd R.fit ?_)
    dsimp only
    refine wp_if_neg R.nogw ?_
    try refine wpAny_bind (wpAny_pure ?_)
    rcases met with ⟨q, i, hq, hi, hh, hno, pr⟩ | ⟨hno, pr⟩
    · have pr2 : t.probe (fun i => (es[i]?.map (·.1)).getD 0) (k.hash w) (stand.getD (t.probeStart (k.hash w))) = some (.candidate (way t.mask (k.hash w) (c + q)) i (nth t.mask (beg t (k.hash w)) (c + (q + 1)))) := by
        rw [est, ← wy, ← sum]
        exact pr
      rw [pr2]
      dsimp only
      rw [wy] at hi
      have iL : i < L.length := by
        have z1 := (List.getElem?_eq_some_iff.mp hi).1
        have z2 := R.tab.sz
        rw [List.length_map] at z2
        rw [Array.length_toList] at z1
        omega
      obtain ⟨p, hp⟩ : ∃ p, L[i]? = some p := ⟨_, List.getElem?_eq_getElem iL⟩
      have pm : p ∈ L := List.mem_of_getElem? hp
      have go : wpAny (model P w) A (searchRest a (.ref x) (k.hash w) true fuel es t (way t.mask (k.hash w) (c + q)) i (nth t.mask (beg t (k.hash w)) (c + (q + 1)))) Q E s := by
        unfold searchRest
        rw [R.at hp]
        dsimp only
        refine wpAny_bind (wpAny_holding ((nestedKind P w).eqBool (show A.units + 8 < cLine from hu) (show (nestedKind P w).is s.heap p.2 p.1 from R.mem p pm) (show (nestedKind P w).is s.heap k x from hx) ?_))
        refine wpAny_bind (wpAny_setState_of ho hd R.fit ?_)
        dsimp only
        by_cases e : p.2 = k
        · refine wp_if_pos (by simp [e]) ?_
          exact wpAny_pure (yes (List.mem_map.mpr ⟨p, pm, e⟩))
        · refine wp_if_neg (by simp [e]) ?_
          try refine wpAny_bind (wpAny_pure ?_)
          have live : t.slot (way t.mask (k.hash w) (c + q)) = .live i := slot_live R.tab.ris hi
          rw [sameMem]
          dsimp only
          simp only [if_true, live, R.at hp]
          refine wpAny_bind (wpAny_isSame_ref_self (wpAny_bind (wpAny_pure ?_)))
          simp only [if_true]
          refine wp_if_neg (by simp [e]) ?_
          refine ih (c + (q + 1)) _ rfl (by omega) (by omega) fun i' p' hp' e' => ?_
          obtain ⟨d, d1, d2, d3⟩ := here i' p' hp' e'
          refine ⟨d, Nat.not_lt.mp fun lt' => ?_, d2, d3⟩
          rcases Nat.lt_or_ge d (c + q) with z | z
          · exact hno (d - c) i' (by omega) (by rw [wy, show c + (d - c) = d by omega]; exact d3) ((hsh i' p' hp').trans (by rw [e']))
          · have ed : d = c + q := by omega
            rw [ed] at d3
            have live2 := slot_live R.tab.ris d3
            rw [live] at live2
            injection live2 with ei
            rw [← ei, hp] at hp'
            exact e (by rw [Option.some.inj hp']; exact e')
      by_cases hl : t.led = true
      · refine wp_if_neg (by simp [hl]) ?_
        try refine wpAny_bind (wpAny_pure ?_)
        exact go
      · refine wp_if_pos (by simp [hl]) ?_
        refine wpAny_bind (unseen hx (fun y hy => ?_) ?_)
        · obtain ⟨e, he, rfl⟩ := List.mem_map.mp hy
          have e1 : e ∈ es ∧ e.1 = k.hash w := by simpa using he
          have e2 : e ∈ es.toList := by simpa using e1.1
          rw [R.row] at e2
          obtain ⟨p', hp', rfl⟩ := List.mem_map.mp e2
          exact ⟨p'.2, p'.1, rfl, R.mem p' hp'⟩
        · refine wp_if_neg Bool.false_ne_true ?_
          try refine wpAny_bind (wpAny_pure ?_)
          exact go
    · have pr2 : t.probe (fun i => (es[i]?.map (·.1)).getD 0) (k.hash w) (stand.getD (t.probeStart (k.hash w))) = some (.empty (way t.mask (k.hash w) K) none) := by
        have z := wy (K - c)
        rw [show c + (K - c) = K by omega] at z
        rw [est, ← z]
        exact pr
      rw [pr2]
      dsimp only
      refine wpAny_pure (no fun hm => ?_)
      obtain ⟨p, pm, e⟩ := List.mem_map.mp hm
      obtain ⟨i, hp⟩ := List.mem_iff_getElem?.mp pm
      obtain ⟨d, d1, d2, d3⟩ := here i p hp e
      exact hno (d - c) i (by omega) (by rw [wy, show c + (d - c) = d by omega]; exact d3) ((hsh i p hp).trans (by rw [e]))
theorem look (R : Ts w s.heap a L es ep t) {x : Addr} {k : NK} (hx : Is8 s.heap k x) (hu : A.units + 8 < cLine) {Q : SetFound → Shared → Prop} (yes : k ∈ L.map (·.2) → Q (.there none) s)
    (no : ∀ K, k ∉ L.map (·.2) → way t.mask (k.hash w) K ∉ t.place.toList → (∀ c, c < K → way t.mask (k.hash w) c ∈ t.place.toList) → Q (.free (way t.mask (k.hash w) K) false) s) : wpAny (model P w) A (setSearch a (.ref x) (k.hash w) true) Q E s := by
  have z := R.free
  obtain ⟨K, K1, K2, K3⟩ := R.tab.first (by rw [List.length_map]; omega) (k.hash w)
  have small : 10 * SetTable.turns t.mask ≤ 1500 := by
    unfold SetTable.turns
    rcases R.tab.mok with e | e | e <;> omega
  unfold setSearch
  refine look_from R hx hu K1 K2 K3 yes (fun n => no K n K2 K3) 100000 0 none rfl (Nat.zero_le _) (by omega) fun i p hp e => ?_
  have hi : (L.map fun p => p.2.hash w)[i]? = some (k.hash w) := by
    rw [List.getElem?_map, hp, ← e]
    rfl
  have il : i < t.place.toList.length := by
    have z1 := (List.getElem?_eq_some_iff.mp hp).1
    have z2 := R.tab.sz
    rw [List.length_map] at z2
    rw [Array.length_toList]
    omega
  obtain ⟨j, hj⟩ : ∃ j, t.place.toList[i]? = some j := ⟨_, List.getElem?_eq_getElem il⟩
  obtain ⟨d, d1, d2⟩ := R.tab.before K2 hi hj
  exact ⟨d, Nat.zero_le _, d1, by rw [hj, d2]⟩
end
end Sd
namespace Sd
open PySem PySem.Spec PyProof.Rows L2
/-! ### the table laid anew; one key more -/
theorem range_get {α : Type} (L : List α) : ∀ n, n ≤ L.length → (List.range n).filterMap (fun i => L[i]?) = L.take n
  | 0, _ => rfl
  | n + 1, hn => by
    obtain ⟨x, e⟩ : ∃ x, L[n]? = some x := ⟨_, List.getElem?_eq_getElem hn⟩
    rw [List.range_succ, List.filterMap_append, range_get L n (Nat.le_of_succ_le hn), List.take_add_one, e]
    congr 1
    rw [List.filterMap_cons_some e]
    rfl
section
variable {P : Program} {w : World} {A : Around} {E : Value → Shared → Prop} {s : Shared} {a : Addr} {L : List (Addr × NK)} {es : Array (Int × Value)} {ep : Nat} {t : SetTable}
theorem ordered {order : Array Nat} (row : es.toList = L.map (rowN w)) (pm : order.toList.Perm (List.range L.length)) :
    ∃ M : List (Addr × NK), (order.filterMap (es[·]?)).toList = M.map (rowN w) ∧ M.Perm L ∧ (M.map fun p => p.2.hash w) = order.toList.map fun i => (es.map (·.1)).getD i 0 := by
  have ent : ∀ i : Nat, es[i]? = (L[i]?).map (rowN w) := fun i => by rw [← Array.getElem?_toList, row, List.getElem?_map]
  refine ⟨order.toList.filterMap (fun i => L[i]?), ?_, ?_, ?_⟩
  · rw [List.map_filterMap]
    have z : (order.filterMap (es[·]?)).toList = order.toList.filterMap (fun i => es[i]?) := by simp
    rw [z]
    congr 1
    funext i
    exact ent i
  · have z := pm.filterMap (fun i => L[i]?)
    rwa [range_get L L.length (Nat.le_refl _), List.take_length] at z
  · have all : ∀ i ∈ order.toList, i < L.length := fun i hi => List.mem_range.mp (pm.mem_iff.mp hi)
    revert all
    generalize order.toList = l
    intro all
    induction l with
    | nil => rfl
    | cons i l ih =>
      obtain ⟨p, hp⟩ : ∃ p, L[i]? = some p := ⟨_, List.getElem?_eq_getElem (all i (List.mem_cons_self ..))⟩
      have e1 : (es.map (·.1)).getD i 0 = p.2.hash w := by
        have z : (es.map (·.1))[i]? = some (p.2.hash w) := by
          rw [Array.getElem?_map, ent i, hp]
          rfl
        simp [Array.getD_eq_getD_getElem?, z]
      rw [List.filterMap_cons_some hp, List.map_cons, List.map_cons, ih fun j hj => all j (List.mem_cons_of_mem _ hj), e1]
theorem is8_but {h h' : PySem.Heap} {k : NK} {b : Addr} {o : Obj} (x : Is8 h k b) (ho : h.get? a = some o) (hd : o.data = .set es ep t) (sb : Heap.SameBut a h h') : Is8 h' k b :=
  ⟨NestedIs.at (fun c oc vs n hc hv => by
    refine (sb.2 c fun e => ?_).trans hc
    rw [e, ho] at hc
    cases hc
    rw [hd] at hv
    cases hv) k _ x.1, x.2⟩
theorem is8_keep {h h' : PySem.Heap} {k : NK} {b : Addr} (x : Is8 h k b) (kp : ∀ c o, h.get? c = some o → h'.get? c = some o) : Is8 h' k b := ⟨NestedIs.at (fun c o _ _ hc _ => kp c o hc) k _ x.1, x.2⟩
theorem relay {o : Obj} (ho : s.heap.get? a = some o) (hex : o.ExactSet) (hd : o.data = .set es ep t) (row : es.toList = L.map (rowN w)) (hsz : t.place.size = es.size) (hdm : t.dummies = #[]) (hfl : es.size ≤ t.mask) (one : (L.map (·.2)).Nodup) (mem : ∀ p ∈ L, Is8 s.heap p.2 p.1)
    (led : w.params.followText "set-order" = true ∨ t.led = true) (few : L.length < 64) {want M : Nat} (hw : SetTable.sizeAbove want - 1 = M) (hM : MaskOk M) (h128 : SetTable.sizeAbove want ≤ 128) (hn : L.length * 5 < M * 3) {Q : Unit → Shared → Prop}
    (q : ∀ h' L' es' ep' t', Heap.SameBut a s.heap h' → Ts w h' a L' es' ep' t' → L'.Perm L → Q () { s with heap := h' }) : wpAny (model P w) A (setRelay a want) Q E s := by
  have num : es.size = L.length := by
    have z := congrArg List.length row
    rwa [Array.length_toList, List.length_map] at z
  have fit : t.fits es.size = true := by
    unfold SetTable.fits SetTable.fill
    rw [hdm, Bool.and_eq_true, beq_iff_eq, decide_eq_true_eq]
    exact ⟨hsz, by show t.place.size + 0 ≤ t.mask; omega⟩
  obtain ⟨t', order, er, pm, T, em, el, _, _⟩ := relaid_ok t (hs := es.map (·.1)) (wanted := want) hw hM (by rw [Array.size_map, num]; omega)
  rw [Array.size_map, num] at pm
  obtain ⟨M', r1, r2, r3⟩ := ordered row pm
  have num2 : (order.filterMap (es[·]?)).size = es.size := by
    have z := congrArg List.length r1
    rw [Array.length_toList, List.length_map, r2.length_eq] at z
    rw [z, num]
  rw [← r3] at T
  rw [setRelay_eq]
  refine wpAny_bind (wpAny_setState_of ho hd fit ?_)
  dsimp only
  refine wp_if_neg (by rw [sizeLine_eq]; omega) ?_
  try refine wpAny_bind (wpAny_pure ?_)
  rw [er]
  dsimp only
  refine wpAny_bind (wp_if_neg (by rw [num2]; simp) ?_)
  try refine wpAny_bind (wpAny_pure ?_)
  refine wpAny_pure ?_
  dsimp only
  refine wpAny_storeSet_of ho hd ?_ (by rw [num2, num, sizeLine_eq]; omega)
  have sb : Heap.SameBut a s.heap (s.heap.update a (Obj.putSet (order.filterMap (es[·]?)) t')) := Heap.SameBut.update ..
  refine q _ M' _ (ep + 1) t' sb ⟨⟨_, store_at ho hd, ⟨hex.1, hex.2.1, hex.2.2⟩, rfl⟩, r1, T, (r2.map (·.2)).nodup_iff.mpr one, fun p hp => is8_but (mem p (r2.mem_iff.mp hp)) ho hd sb, by rw [el]; exact led, by rw [r2.length_eq, em]; exact hn, by rw [r2.length_eq]; exact few⟩ r2
theorem add1 (R : Ts w s.heap a L es ep t) {x : Addr} {k : NK} (hx : Is8 s.heap k x) (hu : A.units + 8 < cLine) (few : L.length + 1 < 64) {Q : Bool → Shared → Prop}
    (q : ∀ b h' L' es' ep' t', Heap.SameBut a s.heap h' → Ts w h' a L' es' ep' t' → (k ∈ L.map (·.2) → L' = L) → (k ∉ L.map (·.2) → L'.Perm ((x, k) :: L)) → Q b { s with heap := h' }) : wpAny (model P w) A (setAddHashed a (.ref x) (k.hash w)) Q E s := by
  obtain ⟨o, ho, hex, hd⟩ := R.obj
  have num := R.num
  have free := R.free
  unfold setAddHashed
  rw [show (100000 : Nat) = 99999 + 1 from rfl, setAddHashedIn_succ]
  refine wpAny_holding (wpAny_bind (wpAny_setState_of ho hd R.fit ?_))
  dsimp only
  refine wp_if_neg (by simp [byScan, Value.scannable]) ?_
  try refine wpAny_bind (wpAny_pure ?_)
  refine wpAny_bind (look R hx hu (fun hm => ?_) fun K hm K2 K3 => ?_)
  · dsimp only
    exact wpAny_pure (q false s.heap L es ep t (Heap.SameBut.refl a s.heap) R (fun _ => rfl) fun n => absurd hm n)
  dsimp only
  refine wpAny_bind (wpAny_setState_of ho hd R.fit ?_)
  dsimp only
  obtain ⟨p1, p2, p3, p4, p5, p6, p7, p8, p9⟩ := R.tab.put K2 K3
  generalize epp : t.put (way t.mask (k.hash w) K) = pp at p1 p3 p4 p5 p6 p7 p8 p9 ⊢
  obtain ⟨t1, j⟩ := pp
  dsimp only at p1 p3 p4 p5 p6 p7 p8 p9 ⊢
  subst p1
  -- what follows does not depend on `plain`
  have rest : ∀ t2 : SetTable, TabOk t2 ((L.map fun p => p.2.hash w).take (SetTable.below t.place (way t.mask (k.hash w) K)) ++ k.hash w :: (L.map fun p => p.2.hash w).drop (SetTable.below t.place (way t.mask (k.hash w) K))) → t2.mask = t.mask → t2.led = t.led → t2.fill = (L.map fun p => p.2.hash w).length + 1 →
      wpAny (model P w) A (do
        storeSet a (SetTable.insertAt es (SetTable.below t.place (way t.mask (k.hash w) K)) (k.hash w, Value.ref x)) t2
        if !false && t2.tooFull then setRelay a (SetTable.grown (es.size + 1))
        return true : Sem Bool) Q E s := by
    intro t2 T2 m2 l2 f2
    have ins : (SetTable.insertAt es (SetTable.below t.place (way t.mask (k.hash w) K)) (k.hash w, Value.ref x)).toList = (L.take (SetTable.below t.place (way t.mask (k.hash w) K)) ++ (x, k) :: L.drop (SetTable.below t.place (way t.mask (k.hash w) K))).map (rowN w) := by
      rw [SetTable.toList_insertAt, R.row, List.map_append, List.map_cons, List.map_take, List.map_drop]
    have hh : (L.take (SetTable.below t.place (way t.mask (k.hash w) K)) ++ (x, k) :: L.drop (SetTable.below t.place (way t.mask (k.hash w) K))).map (fun p => p.2.hash w) = (L.map fun p => p.2.hash w).take (SetTable.below t.place (way t.mask (k.hash w) K)) ++ k.hash w :: (L.map fun p => p.2.hash w).drop (SetTable.below t.place (way t.mask (k.hash w) K)) := by
      rw [List.map_append, List.map_cons, List.map_take, List.map_drop]
    rw [← hh] at T2
    have pm := put_perm L (SetTable.below t.place (way t.mask (k.hash w) K)) (x, k)
    generalize L.take (SetTable.below t.place (way t.mask (k.hash w) K)) ++ (x, k) :: L.drop (SetTable.below t.place (way t.mask (k.hash w) K)) = L1 at ins T2 pm
    have len1 : L1.length = L.length + 1 := pm.length_eq
    have num1 : (SetTable.insertAt es (SetTable.below t.place (way t.mask (k.hash w) K)) (k.hash w, Value.ref x)).size = L.length + 1 := by
      have z := congrArg List.length ins
      rwa [Array.length_toList, List.length_map, len1] at z
    generalize SetTable.insertAt es (SetTable.below t.place (way t.mask (k.hash w) K)) (k.hash w, Value.ref x) = es1 at ins num1 ⊢
    have one1 : (L1.map (·.2)).Nodup := (pm.map (·.2)).nodup_iff.mpr (by
      rw [List.map_cons]
      exact List.nodup_cons.mpr ⟨hm, R.one⟩)
    refine wpAny_bind (wpAny_storeSet_of ho hd ?_ (by rw [num1, sizeLine_eq]; omega))
    have sb : Heap.SameBut a s.heap (s.heap.update a (Obj.putSet es1 t2)) := Heap.SameBut.update ..
    have ho1 := store_at (es' := es1) (t' := t2) ho hd
    generalize s.heap.update a (Obj.putSet es1 t2) = h1 at sb ho1 ⊢
    have mem1 : ∀ p ∈ L1, Is8 h1 p.2 p.1 := fun p hp => by
      rcases List.mem_cons.mp (pm.mem_iff.mp hp) with e | hp
      · rw [e]
        exact is8_but hx ho hd sb
      · exact is8_but (R.mem p hp) ho hd sb
    have led1 : w.params.followText "set-order" = true ∨ t2.led = true := by
      rw [l2]
      exact R.led
    have full : t2.tooFull = true ↔ (L.length + 1) * 5 ≥ t2.mask * 3 := by
      unfold SetTable.tooFull
      rw [decide_eq_true_eq, f2, List.length_map]
    by_cases hf : t2.tooFull = true
    · have z := full.mp hf
      have two : (t.mask = 7 ∧ L.length = 4) ∨ (t.mask = 31 ∧ L.length = 18) := by
        rcases R.tab.mok with e | e | e <;> rw [m2, e] at z <;> rw [e] at free <;> omega
      have sz1 : t2.place.size = es1.size := by
        have z := T2.sz
        rw [List.length_map, len1] at z
        rw [z, num1]
      rw [num]
      have go : ∀ M, SetTable.sizeAbove (SetTable.grown (L.length + 1)) - 1 = M → MaskOk M → SetTable.sizeAbove (SetTable.grown (L.length + 1)) ≤ 128 → (L.length + 1) * 5 < M * 3 →
          wpAny (model P w) A (setRelay a (SetTable.grown (L.length + 1))) (fun _ s' => wpAny (model P w) A (pure true) Q E s') E { s with heap := h1 } := fun M g1 g2 g3 g4 =>
        relay (s := { s with heap := h1 }) ho1 ⟨hex.1, hex.2.1, hex.2.2⟩ rfl ins sz1 T2.dm (by rw [num1, m2]; rcases two with ⟨e, e2⟩ | ⟨e, e2⟩ <;> omega) one1 mem1 led1 (by rw [len1]; exact few) g1 g2 g3 (by rw [len1]; exact g4) fun h2 L2 es2 ep2 t3 sb2 R2 pm2 =>
          wpAny_pure (q true h2 L2 es2 ep2 t3 (sb.trans sb2) R2 (fun y => absurd y hm) fun _ => pm2.trans pm)
      have goal : wpAny (model P w) A (setRelay a (SetTable.grown (L.length + 1))) (fun _ s' => wpAny (model P w) A (pure true) Q E s') E { s with heap := h1 } := by
        rcases two with ⟨_, e⟩ | ⟨_, e⟩
        · exact go 31 (by rw [e, size_20]) (.inr (.inl rfl)) (by rw [e, size_20]; decide) (by omega)
        · exact go 127 (by rw [e, size_76]) (.inr (.inr rfl)) (by rw [e, size_76]; decide) (by omega)
      first
        | exact wp_if_pos (by simp [hf]) (wpAny_bind goal)
        | exact wpAny_bind (wp_if_pos (by simp [hf]) goal)
    · have fin := q true h1 L1 es1 (ep + 1) t2 sb ⟨⟨_, ho1, ⟨hex.1, hex.2.1, hex.2.2⟩, rfl⟩, ins, T2, one1, mem1, led1, by rw [len1]; have := mt full.mpr hf; omega, by rw [len1]; exact few⟩ (fun y => absurd y hm) fun _ => pm
      first
        | exact wp_if_neg (by simp [hf]) (wpAny_pure fin)
        | exact wpAny_bind (wp_if_neg (by simp [hf]) (wpAny_pure (wpAny_pure fin)))
  have hb : HbvAt P w 8 s (.ref x) := hbv_key k _ 8 hx.1 hx.2
  have off : TabOk { t1 with plain := false } ((L.map fun p => p.2.hash w).take (SetTable.below t.place (way t.mask (k.hash w) K)) ++ k.hash w :: (L.map fun p => p.2.hash w).drop (SetTable.below t.place (way t.mask (k.hash w) K))) := ⟨p3.ris, p3.dm, p3.sz, p3.mok, p3.bd, p3.reach⟩
  have both : ∀ b : Bool, wpAny (model P w) A (do
        storeSet a (SetTable.insertAt es (SetTable.below t.place (way t.mask (k.hash w) K)) (k.hash w, Value.ref x)) (if b then t1 else { t1 with plain := false })
        if !false && (if b then t1 else { t1 with plain := false }).tooFull then setRelay a (SetTable.grown (es.size + 1))
        return true : Sem Bool) Q E s := fun b => by
    cases b with
    | true => exact rest t1 p3 p4 p5 p9
    | false => exact rest { t1 with plain := false } off p4 p5 p9
  by_cases pl : t1.plain = true
  · first
      | exact wpAny_bind (wp_if_pos pl (hb _ _ _ both))
      | exact wp_if_pos pl (wpAny_bind (hb _ _ _ both))
  · first
      | exact wpAny_bind (wp_if_neg pl (wpAny_pure (both true)))
      | exact wp_if_neg pl (wpAny_bind (wpAny_pure (both true)))
      | exact wp_if_neg pl (both true)
end
end Sd
namespace Sd
open PySem PySem.Spec PyProof.Rows L2
/-! ### set(xs): the loop -/
/-- what the first i keys leave -/
structure Some1 (ks : List (Addr × NK)) (i : Nat) (L : List (Addr × NK)) : Prop where
  sub : ∀ p ∈ L, p ∈ ks.take i
  all : ∀ p ∈ ks.take i, p.2 ∈ L.map (·.2)
  len : L.length ≤ i
theorem some_zero (ks : List (Addr × NK)) : Some1 ks 0 [] := ⟨fun p hp => (by cases hp), fun p hp => (by simp at hp), Nat.le_refl _⟩
theorem some_next {ks L L' : List (Addr × NK)} {i : Nat} {x : Addr × NK} (g : Some1 ks i L) (e : ks[i]? = some x) (same : x.2 ∈ L.map (·.2) → L' = L) (more : x.2 ∉ L.map (·.2) → L'.Perm (x :: L)) : Some1 ks (i + 1) L' := by
  have et : ks.take (i + 1) = ks.take i ++ [x] := by
    rw [List.take_add_one, e]
    rfl
  by_cases c : x.2 ∈ L.map (·.2)
  · rw [same c]
    refine ⟨fun p hp => by rw [et]; exact List.mem_append_left _ (g.sub p hp), fun p hp => ?_, Nat.le_succ_of_le g.len⟩
    rw [et] at hp
    rcases List.mem_append.mp hp with z | z
    · exact g.all p z
    · rw [List.mem_singleton.mp z]
      exact c
  · have pm := more c
    refine ⟨fun p hp => ?_, fun p hp => ?_, by rw [pm.length_eq]; exact Nat.succ_le_succ g.len⟩
    · rw [et]
      rcases List.mem_cons.mp (pm.mem_iff.mp hp) with z | z
      · rw [z]
        exact List.mem_append_right _ (List.mem_singleton.mpr rfl)
      · exact List.mem_append_left _ (g.sub p z)
    · rw [(pm.map (·.2)).mem_iff, List.map_cons]
      rw [et] at hp
      rcases List.mem_append.mp hp with z | z
      · exact List.mem_cons_of_mem _ (g.all p z)
      · rw [List.mem_singleton.mp z]
        exact List.mem_cons_self ..
section
variable {P : Program} {w : World} {A : Around} {E : Value → Shared → Prop} {s : Shared}
theorem Ts.keep {h h' : PySem.Heap} {a : Addr} {L : List (Addr × NK)} {es : Array (Int × Value)} {ep : Nat} {t : SetTable} (R : Ts w h a L es ep t) (ka : ∀ o, h.get? a = some o → h'.get? a = some o) (km : ∀ p ∈ L, Is8 h' p.2 p.1) : Ts w h' a L es ep t := by
  obtain ⟨o, ho, r⟩ := R.obj
  exact ⟨⟨o, ka o ho, r⟩, R.row, R.tab, R.one, km, R.led, R.free, R.few⟩
theorem ts_new {h : PySem.Heap} {a : Addr} (ho : h.get? a = some (Sx.emptyObj w)) : Ts w h a [] #[] 0 (.fresh 0 0 (!w.params.followText "set-order")) where
  obj := ⟨_, ho, ⟨rfl, rfl, rfl⟩, rfl⟩
  row := rfl
  tab := ⟨List.Pairwise.nil, rfl, rfl, .inl rfl, (fun x hx => by cases hx), fun i h j hi => by simp at hi⟩
  one := List.nodup_nil
  mem := fun p hp => nomatch hp
  led := by
    show _ ∨ (!w.params.followText "set-order") = true
    cases w.params.followText "set-order"
    · exact .inr rfl
    · exact .inl rfl
  free := by
    show 0 * 5 < 7 * 3
    decide
  few := by
    show 0 < 64
    decide
theorem fill {I : Addr} {fp wr : List Addr} {G : Array GenState → Array GenState → Prop} {n : Nat} {Pv : Nat → Value → Prop} {St : Nat → Shared → Prop} {R : Result → Shared → Prop} (W : WalksS P w A.in1 I fp wr G n Pv St) (S : Addr) (nS : S ∉ fp) (ks : List (Addr × NK)) (hn : n = ks.length) (few : ks.length < 64)
    (val : ∀ i v, Pv i v → ∃ p, ks[i]? = some p ∧ v = .ref p.1) (h0 : PySem.Heap) (hk : ∀ p ∈ ks, Is8 h0 p.2 p.1) (hS : h0.get? S = none) (hw : ∀ b ∈ wr, h0.get? b = none) (hu : A.in1.units + 8 < cLine) :
    ∀ (r i : Nat) (s : Shared), n - i = r → i ≤ n → St i s → (∀ b o, h0.get? b = some o → s.heap.get? b = some o) → (∃ L es ep t, Ts w s.heap S L es ep t ∧ Some1 ks i L) →
      (∀ s' L es ep t, Moved (S :: wr) G s s' → Ts w s'.heap S L es ep t → Some1 ks n L → (∀ b o, h0.get? b = some o → s'.heap.get? b = some o) → R (.ok (.ret .none)) s') →
      codeAny (model P w) A (.builtin "set.update.loop" ⟨[.ref S, .ref I], []⟩) R s := by
  have nW : S ∉ wr := fun z => nS (W.sub _ z)
  have up : ∀ b ∈ wr, b ∈ S :: wr := fun b hb => List.mem_cons_of_mem _ hb
  have old : ∀ {s s' : Shared}, Moved wr G s s' → (∀ b o, h0.get? b = some o → s.heap.get? b = some o) → ∀ b o, h0.get? b = some o → s'.heap.get? b = some o := fun mv kp b o e => mv.heap b o (fun hb => by rw [hw b hb] at e; cases e) (kp b o e)
  intro r
  induction r with
  | zero =>
    intro i s er hi hst kp ⟨L, es, ep, t, hT, g⟩ fin
    have ei : i = n := by omega
    subst ei
    refine codeAny_builtin F.entry_set_update_loop ?_
    rw [Around.under_plainId F.plain_set_update_loop _]
    show wpAny _ A.in1 (pyNext (.ref I) >>= _) _ _ s
    refine wpAny_bind (W.done s _ _ hst fun s' mv => ?_)
    have kp' := old mv kp
    show wpAny _ A.in1 (ret Value.none) _ _ s'
    exact wpAny_pure (fin s' L es ep t (mv.mono up) (hT.keep (fun o e => mv.heap S o nW e) fun p hp => is8_keep (hk p (List.mem_of_mem_take (g.sub p hp))) kp') g kp')
  | succ r ih =>
    intro i s er hi hst kp ⟨L, es, ep, t, hT, g⟩ fin
    have lt : i < n := by omega
    refine codeAny_builtin F.entry_set_update_loop ?_
    rw [Around.under_plainId F.plain_set_update_loop _]
    show wpAny _ A.in1 (pyNext (.ref I) >>= _) _ _ s
    refine wpAny_bind (W.item i s _ _ lt hst fun v s' hv hst' mv => ?_)
    obtain ⟨p, hp, rfl⟩ := val i v hv
    have kp' := old mv kp
    have hT' : Ts w s'.heap S L es ep t := hT.keep (fun o e => mv.heap S o nW e) fun p hp => is8_keep (hk p (List.mem_of_mem_take (g.sub p hp))) kp'
    have hx : Is8 s'.heap p.2 p.1 := is8_keep (hk p (List.mem_of_getElem? hp)) kp'
    show wpAny _ A.in1 (holding [Value.ref p.1] (setAdd S (.ref p.1)) >>= _) _ _ s'
    unfold setAdd
    refine wpAny_bind (wpAny_holding (wpAny_holding (wpAny_bind ((nestedKind P w).pyHash (show A.in1.units + 8 < cLine from hu) (show (nestedKind P w).is s'.heap p.2 p.1 from hx) ?_))))
    refine add1 (s := { s' with toks := s'.toks + p.2.draws }) hT' hx hu (by have := g.len; omega) fun b h' L' es' ep' t' sb hT2 c1 c2 => ?_
    have g' := some_next g hp c1 c2
    have kp2 : ∀ b o, h0.get? b = some o → h'.get? b = some o := fun b o e => (sb.2 b (fun z => by rw [z, hS] at e; cases e)).trans (kp' b o e)
    refine wpAny_pure ⟨plainId_quiet F.plain_set_update_loop _, ih (i + 1) _ (by omega) lt (W.frame _ s' _ _ hst' (Nat.le_add_right _ _) fun b hb o e => ?_) kp2 ⟨L', es', ep', t', hT2, g'⟩ fun s2 L2 es2 ep2 t2 mv2 hT3 g2 kp3 => ?_⟩
    · rw [sb.2 b (fun z : b = S => nS (by rw [← z]; exact hb))]
      exact e
    · refine fin s2 L2 es2 ep2 t2 (Moved.trans W.gtrans ((mv.mono up).then_heap (Nat.le_add_right _ _) fun b o hb e => ?_) mv2) hT3 g2 kp3
      rw [sb.2 b (fun z : b = S => hb (by rw [z]; exact List.mem_cons_self ..))]
      exact e
end
end Sd
namespace Sd
open PySem PySem.Spec PyProof.Rows L2
section
variable {P : Program} {w : World} {A : Around} {E : Value → Shared → Prop} {s : Shared}
set_option maxRecDepth 100000 in
set_option maxHeartbeats 4000000 in
/-- set(xs), xs a list or a tuple of keys -/
theorem call_setN {l : Addr} {items : Array Value} (ks : List (Addr × NK)) {Q : Value → Shared → Prop} (hh : A.handled = none) (hl : s.heap.IsList l items ∨ s.heap.IsTuple l items) (hit : items.toList = ks.map fun p => Value.ref p.1) (hk : ∀ p ∈ ks, Is8 s.heap p.2 p.1) (few : ks.length < 64) (hu : A.units + 12 < cLine)
    (h : ∀ (h' : PySem.Heap) (tk : Nat) L es ep t, Ts w h' s.heap.objs.size L es ep t → Some1 ks ks.length L → (∀ b o, s.heap.get? b = some o → h'.get? b = some o) → Q (.ref s.heap.objs.size) { s with heap := h', toks := tk }) :
    wpAny (model P w) A (call (.type "set") [.ref l]) Q E s := by
  have hisz : items.size = ks.length := by
    have z := congrArg List.length hit
    rwa [Array.length_toList, List.length_map] at z
  have hval : ∀ (i : Nat) (v : Value), items[i]? = some v → ∃ p, ks[i]? = some p ∧ v = .ref p.1 := fun i v hv => by
    rw [← Array.getElem?_toList, hit, List.getElem?_map] at hv
    cases e : ks[i]? with
    | none =>
      rw [e] at hv
      cases hv
    | some p =>
      rw [e] at hv
      exact ⟨p, rfl, (Option.some.inj hv).symm⟩
  obtain ⟨c, tl, hmro⟩ := PySem.F.called_set.mro
  have hmade := PySem.F.called_set.made
  have hsub := PySem.F.called_set.sub
  refine wpAny_call (codeAny_of_tree ?_)
  show wpAny _ _ (callAny (.type "set") _) _ _ _
  refine wpAny_pure ⟨Code.quiet_builtin _ (by decide +kernel), codeAny_builtin PySem.F.entry_type_call ?_⟩
  rw [Around.under_plain (weight_type_call_type "set" [.ref l] []) rfl]
  have h1 := PySem.F.called_set.notType
  have h2 := PySem.F.called_set.canCreate
  have hct := PySem.F.typeCall_set_1 (.ref l)
  repeat (any_goals (first | assumption | wp_step))
  refine codeAny_mono (code_set_led1 (.ref l) (E := E) (Q₁ := fun obj s₁ => obj = .ref s.heap.objs.size ∧ s₁ = { s with heap := s.heap.push (Sx.emptyObj w) }) ⟨rfl, rfl⟩) fun r s₁ hr => ?_
  cases r with
  | error e => exact hr
  | ok fl =>
    cases fl with
    | ret obj =>
      obtain ⟨rfl, rfl⟩ := hr
      have hS : (s.heap.push (Sx.emptyObj w)).get? s.heap.objs.size = some (Sx.emptyObj w) := Heap.get?_push_size _ rfl
      have hT : Shared.TypeIs { s with heap := s.heap.push (Sx.emptyObj w) } (.ref s.heap.objs.size) "set" := ⟨_, hS, rfl⟩
      have hli := PySem.F.called_set.init.lookup
      have hbi := PySem.F.called_set.init.bind (.ref s.heap.objs.size)
      repeat (any_goals (first | assumption | wp_step))
      refine codeAny_mono (codeAny_call_builtin (R := wants (fun r s₂ => r = .none ∧ ∃ h' tk L es ep t, s₂ = { s with heap := h', toks := tk } ∧ Ts w h' s.heap.objs.size L es ep t ∧ Some1 ks ks.length L ∧
          (∀ b o, s.heap.get? b = some o → h'.get? b = some o)) E) PySem.F.called_set.init.plain PySem.F.entry_set_init (check_set_init_1 hT ?_)) fun r₂ s₂ hr₂ => ?_
      · have hh3 : A.in1.in1.in1.handled = none := by simp [hh]
        have hz1 : (s.heap.push (Sx.emptyObj w)).objs.size = s.heap.objs.size + 1 := Heap.size_push ..
        rcases hl with hl | hl
        · obtain ⟨ol, hol, hcl, nl, hdl⟩ := hl
          obtain ⟨ocls, odict, odata, oslots⟩ := ol
          simp only at hcl hdl
          subst hcl; subst hdl
          have hol' : (s.heap.push (Sx.emptyObj w)).get? l = some { cls := .type "list", dict := odict, data := .seq items nl, slots := oslots } := Heap.get?_push_of_some _ hol
          have hsls := PySem.F.sub_list_set
          have hslf := PySem.F.sub_list_frozenset
          have hne : (Value.type "list" == Value.type "dict") = false := by decide
          have hl1 : (s.heap.push (Sx.emptyObj w)).IsList l items := ⟨_, hol', rfl, nl, rfl⟩
          unfold Builtin.«set.__init__» noKeywords Builtin.Frozenset.updateFrom
          generalize hPI : pyIter = PI
          wp_walk
          subst hPI
          refine wpAny_pyIter_list hl1 ?_
          refine wpAny_bind (wpAny_runValue ?_)
          have hlS : l < s.heap.objs.size := Heap.lt_size hol
          have hneI : l ≠ (s.heap.push (Sx.emptyObj w)).objs.size := by
            rw [hz1]
            exact Nat.ne_of_lt (Nat.lt_succ_of_lt hlS)
          have hSf : s.heap.objs.size ∉ [(s.heap.push (Sx.emptyObj w)).objs.size, l] := by
            simp only [List.mem_cons, List.mem_singleton, List.not_mem_nil, or_false, not_or]
            rw [hz1]
            exact ⟨Nat.ne_of_lt (Nat.lt_succ_self _), Nat.ne_of_gt hlS⟩
          have hget : ((s.heap.push (Sx.emptyObj w)).push { cls := .type "list_iterator", data := .fields #[.ref l, .int 0 0] }).get? s.heap.objs.size = some (Sx.emptyObj w) := Heap.get?_push_of_some _ hS
          refine fill ((Walks.list hh3 _ l hneI items).toS) s.heap.objs.size hSf ks hisz few hval s.heap hk (Heap.get?_none_of_le (Nat.le_refl _)) (fun b hb => ?hw1) (by simp only [Around.in1_units]; omega) (items.size - 0) 0 _ (by omega) (Nat.zero_le _)
            ⟨⟨_, Heap.get?_push_size _ rfl, rfl, rfl⟩, (hl1.push _)⟩ (fun b o e => Heap.get?_push_of_some _ (Heap.get?_push_of_some _ e)) ⟨[], _, _, _, ts_new hget, some_zero ks⟩ ?hR1
          case hw1 =>
            rw [List.mem_singleton.mp hb, hz1]
            exact Heap.get?_none_of_le (Nat.le_succ _)
          case hR1 =>
            intro s' L es ep t hm hS' hmm hkk
            obtain ⟨h', g', d', tk', os'⟩ := s'
            have eg : g' = s.gens := hm.gens
            have ed : d' = s.drawn := hm.drawn
            have eo : os' = s.os := hm.os
            subst eg; subst ed; subst eo
            show wpAny _ _ _ _ _ _
            refine wpAny_pure ?_
            show wpAny _ _ (ret Value.none) _ _ _
            exact wpAny_pure ⟨rfl, h', tk', L, es, ep, t, rfl, hS', hisz ▸ hmm, hkk⟩
        · obtain ⟨ol, hol, hcl, nl, hdl⟩ := hl
          obtain ⟨ocls, odict, odata, oslots⟩ := ol
          simp only at hcl hdl
          subst hcl; subst hdl
          have hol' : (s.heap.push (Sx.emptyObj w)).get? l = some { cls := .type "tuple", dict := odict, data := .seq items nl, slots := oslots } := Heap.get?_push_of_some _ hol
          have hsls := PySem.F.sub_tuple_set
          have hslf := PySem.F.sub_tuple_frozenset
          have hne : (Value.type "tuple" == Value.type "dict") = false := by decide
          have hl1 : (s.heap.push (Sx.emptyObj w)).IsTuple l items := ⟨_, hol', rfl, nl, rfl⟩
          unfold Builtin.«set.__init__» noKeywords Builtin.Frozenset.updateFrom
          generalize hPI : pyIter = PI
          wp_walk
          subst hPI
          refine wpAny_pyIter_tuple hl1 ?_
          refine wpAny_bind (wpAny_runValue ?_)
          have hlS : l < s.heap.objs.size := Heap.lt_size hol
          have hneI : l ≠ (s.heap.push (Sx.emptyObj w)).objs.size := by
            rw [hz1]
            exact Nat.ne_of_lt (Nat.lt_succ_of_lt hlS)
          have hSf : s.heap.objs.size ∉ [(s.heap.push (Sx.emptyObj w)).objs.size, l] := by
            simp only [List.mem_cons, List.mem_singleton, List.not_mem_nil, or_false, not_or]
            rw [hz1]
            exact ⟨Nat.ne_of_lt (Nat.lt_succ_self _), Nat.ne_of_gt hlS⟩
          have hget : ((s.heap.push (Sx.emptyObj w)).push { cls := .type "tuple_iterator", data := .fields #[.ref l, .int 0 0] }).get? s.heap.objs.size = some (Sx.emptyObj w) := Heap.get?_push_of_some _ hS
          refine fill ((Walks.tuple hh3 _ l hneI items).toS) s.heap.objs.size hSf ks hisz few hval s.heap hk (Heap.get?_none_of_le (Nat.le_refl _)) (fun b hb => ?hw2) (by simp only [Around.in1_units]; omega) (items.size - 0) 0 _ (by omega) (Nat.zero_le _)
            ⟨⟨_, Heap.get?_push_size _ rfl, rfl, rfl⟩, (hl1.push _)⟩ (fun b o e => Heap.get?_push_of_some _ (Heap.get?_push_of_some _ e)) ⟨[], _, _, _, ts_new hget, some_zero ks⟩ ?hR2
          case hw2 =>
            rw [List.mem_singleton.mp hb, hz1]
            exact Heap.get?_none_of_le (Nat.le_succ _)
          case hR2 =>
            intro s' L es ep t hm hS' hmm hkk
            obtain ⟨h', g', d', tk', os'⟩ := s'
            have eg : g' = s.gens := hm.gens
            have ed : d' = s.drawn := hm.drawn
            have eo : os' = s.os := hm.os
            subst eg; subst ed; subst eo
            show wpAny _ _ _ _ _ _
            refine wpAny_pure ?_
            show wpAny _ _ (ret Value.none) _ _ _
            exact wpAny_pure ⟨rfl, h', tk', L, es, ep, t, rfl, hS', hisz ▸ hmm, hkk⟩
      · cases r₂ with
        | error e => exact hr₂
        | ok fl₂ =>
          cases fl₂ with
          | ret r =>
            obtain ⟨rfl, h', tk, L, es, ep, t, rfl, hS', hmm, hk'⟩ := hr₂
            repeat (any_goals (first | assumption | wp_step))
            exact h _ _ _ _ _ _ hS' hmm hk'
          | _ => exact hr₂.elim
    | _ => exact hr.elim
end
end Sd
/-! Sorting tuples of alike data, the empty tuple among them. -/
namespace Sd
open PySem PySem.Spec PyProof.Rows L2 PySem.W PySem.Calls
open PySem.SeqAt
def more : PyData → Bool
  | .tuple (_ :: _) => true
  | _ => false
section
variable {P : Program} {w : World} {A : Around} {E : Value → Shared → Prop} {s : Shared}
theorem call_tuple_lt {Q : Value → Shared → Prop} {l b : Addr} {items items2 : Array Value} {e r : Nat → Bool} (hl : s.heap.IsTuple l items) (hb : s.heap.IsTuple b items2)
    (he : ∀ j (h1 : j < items.size) (h2 : j < items2.size), EqAt A.in1 s items[j] items2[j] (e j)) (hr : ∀ j (h1 : j < items.size) (h2 : j < items2.size), e j = false → RcLt A.in1 s items[j] items2[j] (r j))
    (h : Q (.bool (firstLt e r (decide (items.size < items2.size)) (List.range (min items.size items2.size)))) s) : wpAny (model P w) A (call (.builtin "tuple.__lt__") [.ref l, .ref b]) Q E s := by
  obtain ⟨⟨cls, dd, data, sl⟩, ho, hc, n, hd⟩ := id hl
  obtain ⟨⟨cls2, dd2, data2, sl2⟩, ho2, hc2, n2, hd2⟩ := id hb
  simp only at hc hd hc2 hd2
  subst hc hd hc2 hd2
  exact call_meets F.slot_tuple_lt ⟨_, ho, rfl⟩ F.entry_tuple_lt (F.args_tuple_lt_2 _ _) (tuple_ltAt l b items items2 n n2 dd dd2 sl sl2 e r) ⟨ho, ho2, he, hr, h⟩
theorem oneLt_tup {xs ys : List PyData} {a b : Value} {as bs : List Addr} {Q : Bool → Shared → Prop} (ra : PySem.Reads s.heap a (.tuple xs) as) (rb : PySem.Reads s.heap b (.tuple ys) bs) (h : alike (.tuple xs) (.tuple ys) = true)
    (hu : A.units + min (PyData.tuple xs).depth (PyData.tuple ys).depth < cLine) (hq : Q (dataLt (.tuple xs) (.tuple ys)) s) : wpAny (model P w) A (oneLt' true a b) Q E s := by
  have hal : alikeAll xs ys = true := by simpa [alike] using h
  cases ra with
  | @tuple l o vs n _ as₁ h1 h2 h3 h4 =>
    cases rb with
    | @tuple l' o' vs' n' _ bs₁ k1 k2 k3 k4 =>
      have n1 : vs.size = xs.length := by simpa using SeqAt.ReadsAll.length _ _ _ h4
      have n2 : vs'.size = ys.length := by simpa using SeqAt.ReadsAll.length _ _ _ k4
      rw [dataLt_tuple, ← firstLt_toks xs ys hal, ← n1, ← n2] at hq
      rw [oneLt'_eq]
      simp only [if_true]
      refine wpAny_bind (wpAny_cRoomFor (room_here hu) ?_)
      refine wpAny_bind (wpAny_callSpecialIfBound?_slot (T := "tuple") ⟨_, h1, h2⟩ F.slot_tuple_lt (call_tuple_lt (e := pairEq xs ys) (r := fun j => dataLt (xs.getD j .none) (ys.getD j .none)) ⟨_, h1, h2, _, h3⟩ ⟨_, k1, k2, _, k3⟩ (fun j j1 j2 => ?_) (fun j j1 j2 hj => ?_) ?_))
      · have := eqAt_alikeAll xs ys A.in1 s vs.toList vs'.toList _ _ h4 k4 hal (room_in hu) j (by simpa using j1) (by simpa using j2)
        simpa using this
      · have := rcLt_alikeAll xs ys A.in1 s vs.toList vs'.toList _ _ h4 k4 hal (room_in hu) j (by simpa using j1) (by simpa using j2) hj
        simpa using this
      · exact wpAny_truthy_bool hq
theorem firsts {M : Model} {A : Around} {E : Value → Shared → Prop} {s : Shared} : ∀ {vs : List Value} {ds : List PyData}, EachIs (fun v d => ∃ as, PySem.Reads s.heap v d as) vs ds → (∀ d ∈ ds, ∃ xs, d = .tuple xs) → ∀ {Q : List (Option Value) → Shared → Prop}, (∀ os : List (Option Value), os.map (·.isSome) = ds.map more → Q os s) → wpAny M A (vs.mapM firstOfTuple') Q E s
  | _, _, .nil, _, _, h => by
    rw [List.mapM_nil]
    exact wpAny_pure (h [] rfl)
  | _, _, .cons (a := v) (b := d) (as := vs) (bs := ds) ⟨as, r⟩ t, ht, Q, h => by
    obtain ⟨xs, rfl⟩ := ht d (List.mem_cons_self ..)
    cases r with
    | @tuple a o us n _ _ ho hc hd hr =>
      rw [List.mapM_cons]
      refine wpAny_bind ?_
      rw [kas_first_eq]
      refine wpAny_bind (Looks.here (show Looks M s.heap (typeOf (.ref a)) o.cls from (Looks.ld ho).andThen .now) ?_)
      rw [hc, if_neg (by first | decide | simp)]
      refine wpAny_bind (listItems_at ho hd (wpAny_pure ?_))
      refine wpAny_bind (firsts t (fun d hd => ht d (List.mem_cons_of_mem _ hd)) fun os eos => wpAny_pure (h _ ?_))
      have hn : us.size = xs.length := by simpa using SeqAt.ReadsAll.length _ _ _ hr
      have e1 : (us[0]?).isSome = more (.tuple xs) := by
        cases xs with
        | nil =>
          have z : us.size = 0 := hn
          rw [Array.getElem?_eq_none (by omega)]
          rfl
        | cons x xs =>
          have z : 0 < us.size := by
            rw [hn]
            exact Nat.succ_pos _
          rw [Array.getElem?_eq_getElem z]
          rfl
      rw [List.map_cons, List.map_cons, eos, e1]
theorem kind_of {M : Model} {A : Around} {E : Value → Shared → Prop} {s : Shared} {vs : List Value} {ds : List PyData} (e : EachIs (fun v d => ∃ as, PySem.Reads s.heap v d as) vs ds) (ht : ∀ d ∈ ds, ∃ xs, d = .tuple xs) (hne : ds.all more = false) {Q : SortKind → Shared → Prop}
    (h : Q (if (ds.map more).head? = some true then general' else oneType') s) : wpAny M A (keyKind' vs.toArray) Q E s := by
  rw [kat_kind_eq, List.mapM_toArray, map_eq_pure_bind]
  refine wpAny_bind (wpAny_bind (firsts e ht fun os eos => wpAny_pure ?_))
  have h1 : (os.toArray.all fun x => x.isSome) = false := by
    rw [List.all_toArray]
    have z : os.all (fun x => x.isSome) = (os.map (·.isSome)).all id := by
      rw [List.all_map]
      rfl
    rw [z, eos, List.all_map]
    exact hne
  rw [if_neg (by rw [h1]; exact Bool.false_ne_true)]
  have h2 : ((os.toArray[0]?).bind id).isSome = true ↔ (ds.map more).head? = some true := by
    rw [← eos]
    cases os with
    | nil => simp
    | cons o os =>
      cases o <;> simp
  by_cases c : (ds.map more).head? = some true
  · rw [if_pos c] at h
    rw [if_pos (h2.mpr c)]
    exact wpAny_pure h
  · rw [if_neg c] at h
    rw [if_neg (fun z => c (h2.mp z))]
    have hT : ∀ v ∈ vs, Looks M s.heap (typeOf v) (Value.type "tuple") := fun v hv => by
      obtain ⟨d, hd, as, r⟩ := e.left v hv
      obtain ⟨xs, rfl⟩ := ht d hd
      exact looks_reads r
    have hv : vs ≠ [] := by
      rintro rfl
      cases e
      exact absurd hne (by decide)
    rw [oneTypeOnly'_eq, List.mapM_toArray, map_eq_pure_bind]
    refine wpAny_bind (wpAny_bind (wpAny_bind (kas_mapM (r := Value.type "tuple") _ (fun v hv Q' hq => (hT v hv).here hq) (wpAny_pure ?_))))
    have hall2 : ((List.map (fun _ => Value.type "tuple") vs).toArray.all fun x => x == Value.type "tuple") = true := by
      simp only [List.all_toArray, List.all_map, List.all_eq_true]
      intro _ _
      rfl
    have h0 : (List.map (fun _ => Value.type "tuple") vs).toArray[0]? = some (Value.type "tuple") := by
      cases vs with
      | nil => exact absurd rfl hv
      | cons v vs => simp
    rw [h0]
    simp only [hall2, if_true]
    exact wpAny_pure (wpAny_pure h)
theorem sorts_tups {vs : List Value} {ds : List PyData} (e : EachIs (fun v d => ∃ as, PySem.Reads s.heap v d as) vs ds) (hal : AllAlike ds) (ht : ∀ d ∈ ds, ∃ xs, d = .tuple xs) (hu : ∀ d, d ∈ ds → A.units + d.depth < cLine) : SortsAt P w A s (dataKind s.heap ds) vs := by
  have room : ∀ {d d' : PyData}, d ∈ ds → A.units + min d.depth d'.depth < cLine := fun {d d'} hd => Nat.lt_of_le_of_lt (Nat.add_le_add_left (Nat.min_le_left _ _) _) (hu d hd)
  by_cases hne : ds.all more = true
  · refine SortsAt.data e hal (.inl fun d hd => ?_) hu
    have z := List.all_eq_true.mp hne d hd
    obtain ⟨xs, rfl⟩ := ht d hd
    cases xs with
    | nil => exact absurd z (by decide)
    | cons x xs => exact ⟨x, xs, rfl⟩
  · refine ⟨fun v hv => ?_, if (ds.map more).head? = some true then general' else oneType', ?_, fun _ E Q hq => kind_of e ht (by simpa using hne) hq⟩
    · obtain ⟨d, hd, as, r⟩ := e.left v hv
      exact ⟨_, dataKind_some hal hd r⟩
    · intro E x y a b Q ha hb hq
      obtain ⟨d, as, hd, ra, rfl⟩ := dataKind_inv ha
      obtain ⟨d', as', hd', rb, rfl⟩ := dataKind_inv hb
      have hdd := hal d hd d' hd'
      have hroom := room (d' := d') hd
      obtain ⟨xs, rfl⟩ := ht d hd
      obtain ⟨ys, rfl⟩ := ht d' hd'
      by_cases c : (ds.map more).head? = some true
      · rw [if_pos c]
        show wpAny (model P w) A (oneLt' false x y) Q E s
        exact oneLt_alike (fun z => nomatch z) ra rb hdd (fun z => nomatch z) hroom hq
      · rw [if_neg c, keyLt'_oneType]
        exact oneLt_tup ra rb hdd hroom hq
variable {β : Type} {vs : List Value} {bs : List β} {enc : β → PyData} {R : Value → β → Prop}
/-- xs.sort() -/
theorem list_sort_tups {a : Addr} {n : Nat} {Q : Value → Shared → Prop} (ho : s.heap.get? a = some (seqObj "list" vs.toArray n)) (e : EachIs R vs bs) (er : EachIs (fun v b => ∃ as, PySem.Reads s.heap v (enc b) as ∧ a ∉ as) vs bs) (hal : AllAlike (bs.map enc)) (ht : ∀ b ∈ bs, ∃ xs, enc b = .tuple xs) (hL : bs.length ≤ sizeLine)
    (hu : ∀ b, b ∈ bs → A.units + 1 + (enc b).depth < cLine) (h : ∀ out, out.length = bs.length → EachIs R out (bs.mergeSort (dataLe false enc)) → Q .none { s with heap := sortedHeap s.heap a vs (List.toArray out) }) :
    wpAny (model P w) A (call (.builtin "list.sort") [.ref a]) Q E s := by
  have er' : EachIs (fun v b => ∃ as, PySem.Reads (sortingHeap s.heap a vs) v (enc b) as) vs bs := each_keepBut (h' := sortingHeap s.heap a vs) (fun _ _ hb q => sortingHeap_old hb q) (fun o q => by rw [ho] at q; rw [← Option.some.inj q]) hal er
  refine wpAny_call_entry slot_list_sort ⟨_, ho, rfl⟩ entry_list_sort (list_sort_vals (κ := dataKind (sortingHeap s.heap a vs) (bs.map enc)) ho (sorts_tups (s := { s with heap := sortingHeap s.heap a vs }) (each_map (R := fun v d => ∃ as, PySem.Reads (sortingHeap s.heap a vs) v d as) enc er') hal (fun d hd => ?_) (bound_map hu)) (by rw [e.length]; exact hL) ⟨.none, rfl, ?_⟩) (args_list_sort _)
  · obtain ⟨b, hb, rfl⟩ := List.mem_map.mp hd
    exact ht b hb
  · exact h _ (by rw [sortVals_length false rfl]; exact e.length) (sortVals_data false e er' hal)
end
end Sd
/-! Sets of nested tuples over the layer: set(xs), sorted(set). -/
namespace Sd
open PySem PySem.Spec PyProof.Rows L2 Bx TL Dx PySem.W PySem.Calls
mutual
/-- the key that a datum is -/
def nk : PyData → NK
  | .int i => .num i
  | .str x => .text x
  | .tuple xs => .tup (nks xs)
  | _ => .none
def nks : List PyData → List NK
  | [] => []
  | d :: ds => nk d :: nks ds
end
mutual
/-- made of whole numbers, texts and tuples -/
def plain : PyData → Bool
  | .int _ => true
  | .str _ => true
  | .tuple xs => plains xs
  | _ => false
def plains : List PyData → Bool
  | [] => true
  | d :: ds => plain d && plains ds
end
mutual
theorem nk_inj : ∀ (d e : PyData), plain d = true → plain e = true → nk d = nk e → d = e
  | .int i, e, _, he, h => by
    cases e <;> first | (simp only [nk] at h; cases h; rfl) | (simp only [nk] at h; cases h; done) | (simp only [plain] at he; cases he; done)
  | .str i, e, _, he, h => by
    cases e <;> first | (simp only [nk] at h; cases h; rfl) | (simp only [nk] at h; cases h; done) | (simp only [plain] at he; cases he; done)
  | .tuple xs, e, hd, he, h => by
    cases e with
    | tuple ys =>
      simp only [nk, NestedKey.tup.injEq] at h
      simp only [plain] at hd he
      rw [nks_inj xs ys hd he h]
    | _ => first | (simp only [nk] at h; cases h; done) | (simp only [plain] at he; cases he; done)
  | .none, _, hd, _, _ => by simp [plain] at hd
  | .bool _, _, hd, _, _ => by simp [plain] at hd
  | .list _, _, hd, _, _ => by simp [plain] at hd
  | .dict _, _, hd, _, _ => by simp [plain] at hd
theorem nks_inj : ∀ (ds es : List PyData), plains ds = true → plains es = true → nks ds = nks es → ds = es
  | [], [], _, _, _ => rfl
  | [], _ :: _, _, _, h => by simp [nks] at h
  | _ :: _, [], _, _, h => by simp [nks] at h
  | d :: ds, e :: es, hd, he, h => by
    simp only [nks, List.cons.injEq] at h
    simp only [plains, Bool.and_eq_true] at hd he
    rw [nk_inj d e hd.1 he.1 h.1, nks_inj ds es hd.2 he.2 h.2]
end
mutual
theorem is_nk {h : PySem.Heap} : ∀ (d : PyData) (v : Value) (as : List Addr), plain d = true → PySem.Reads h v d as → NestedIs h (nk d) v ∧ as = []
  | .int _, _, _, _, r => by
    cases r
    exact ⟨.int _ _, rfl⟩
  | .str _, _, _, _, r => by
    cases r
    exact ⟨.text _ _, rfl⟩
  | .tuple xs, _, _, hd, r => by
    simp only [plain] at hd
    cases r with
    | tuple h1 h2 h3 h4 =>
      obtain ⟨q1, q2⟩ := is_nks xs _ _ hd h4
      exact ⟨.tup h1 h2 h3 q1, q2⟩
  | .none, _, _, hd, _ => by simp [plain] at hd
  | .bool _, _, _, hd, _ => by simp [plain] at hd
  | .list _, _, _, hd, _ => by simp [plain] at hd
  | .dict _, _, _, hd, _ => by simp [plain] at hd
theorem is_nks {h : PySem.Heap} : ∀ (ds : List PyData) (vs : List Value) (as : List Addr), plains ds = true → PySem.ReadsAll h vs ds as → NestedAll h (nks ds) vs ∧ as = []
  | [], _, _, _, r => by
    cases r
    exact ⟨.nil, rfl⟩
  | d :: ds, _, _, hd, r => by
    simp only [plains, Bool.and_eq_true] at hd
    cases r with
    | cons r1 r2 =>
      obtain ⟨q1, q2⟩ := is_nk d _ _ hd.1 r1
      obtain ⟨q3, q4⟩ := is_nks ds _ _ hd.2 r2
      exact ⟨.cons q1 q3, by rw [q2, q4]; rfl⟩
end
/-- a tuple made of such data, not deep -/
def K8 (d : PyData) : Prop := (∃ xs, d = .tuple xs) ∧ plain d = true ∧ (nk d).depth ≤ 8 ∧ d.depth ≤ 60
theorem perm_each {α β : Type} {R : α → β → Prop} {out its : List α} (pm : out.Perm its) : ∀ {ds : List β}, EachIs R its ds → ∃ es : List β, es.Perm ds ∧ EachIs R out es := by
  induction pm with
  | nil => exact fun e => ⟨_, List.Perm.refl _, e⟩
  | cons x p ih =>
    intro ds e
    cases e with
    | cons h t =>
      obtain ⟨es, q1, q2⟩ := ih t
      exact ⟨_ :: es, q1.cons _, .cons h q2⟩
  | swap x y l =>
    intro ds e
    cases e with
    | cons h t =>
      cases t with
      | cons h2 t2 => exact ⟨_ :: _ :: _, List.Perm.swap _ _ _, .cons h2 (.cons h t2)⟩
  | trans p q ih1 ih2 =>
    intro ds e
    obtain ⟨es, a1, a2⟩ := ih2 e
    obtain ⟨fs, b1, b2⟩ := ih1 a2
    exact ⟨fs, b1.trans a1, b2⟩
section
variable {P : Program} {w : World} {A : Around} {E : Value → Shared → Prop} {s : Shared} {a : Addr} {L : List (Addr × NK)} {es : Array (Int × Value)} {ep : Nat} {t : SetTable}
theorem sorted_setN {Rl : Value → PyData → Prop} {ds : List PyData} {Q : Value → Shared → Prop} (T : Ts w s.heap a L es ep t) (hh : A.handled = none) (hu : A.units + 65 < cLine)
    (e : EachIs Rl (L.map fun p => Value.ref p.1) ds) (er : EachIs (fun u d => ∃ as, PySem.Reads s.heap u d as) (L.map fun p => Value.ref p.1) ds) (hal : AllAlike ds) (hk : ∀ d ∈ ds, K8 d)
    (hQ : ∀ s' p (out : List Value) (c : Nat) (fs : List PyData), (∀ b o, s.heap.get? b = some o → s'.heap.get? b = some o) → s'.gens = s.gens → s'.os = s.os → s.heap.objs.size ≤ p →
      s'.heap.get? p = some (seqObj "list" out.toArray c) → fs.Perm ds → EachIs Rl out (fs.mergeSort (dataLe false id)) → Q (.ref p) s') :
    wpAny (model P w) A (call (.builtin "sorted") [.ref a]) Q E s := by
  obtain ⟨o, ho, hex, hd⟩ := T.obj
  have hn := T.num
  have hfew := T.few
  have hsb : scanBound = 4096 := rfl
  have hva : es.toList.map (·.2) = L.map fun p => Value.ref p.1 := by
    rw [T.row, List.map_map]
    rfl
  refine Calls.call_function_entry kind_sorted plain_sorted entry_sorted (args_sorted1 _) ?_
  unfold Builtin.«sorted»
  refine wpAny_bind (m := checkCount "sorted" 1 1 _) (wpAny_pure ?_)
  refine wpAny_bind (collect_set (A := A.in1) hh ⟨_, ho, hex.1, hd⟩ T.fit (by rw [hn]; omega) T.tab.ris T.led fun s1 vs k1 hz g1 o1 pm => ?_)
  rw [hva] at pm
  have both : EachIs (fun u d => Rl u d ∧ ∃ as, PySem.Reads s.heap u d as) (L.map fun p => Value.ref p.1) ds := by
    clear hQ hal hk hva
    revert e er
    generalize (L.map fun p => Value.ref p.1) = us
    intro e er
    clear pm
    induction e with
    | nil => exact .nil
    | cons h t ih =>
      cases er with
      | cons r1 r2 => exact .cons ⟨h, r1⟩ (ih r2)
  obtain ⟨fs, pf, ef⟩ := perm_each pm both
  have hfl : fs.length = L.length := by rw [pf.length_eq, ← e.length, List.length_map]
  have hvl : vs.length = L.length := by rw [pm.length_eq, List.length_map]
  have hline : vs.length ≤ sizeLine := by
    rw [hvl, sizeLine_eq]
    omega
  refine wpAny_bind (wpAny_newList ?_ hline)
  have hoL : (s1.heap.push (seqObj "list" vs.toArray 0)).get? s1.heap.objs.size = some (seqObj "list" vs.toArray 0) := Heap.get?_push_size _ rfl
  have mfs : ∀ d ∈ fs, d ∈ ds := fun d hd => pf.mem_iff.mp hd
  have kp : ∀ b u, s.heap.get? b = some u → (s1.heap.push (seqObj "list" vs.toArray 0)).get? b = some u := fun b u q => Heap.get?_push_of_some _ (k1 b u q)
  refine wpAny_bind (wpAny_holding (list_sort_tups (R := Rl) (enc := id) (bs := fs) hoL (ef.mono fun _ _ z => z.1) ?reads (by rw [List.map_id]; exact fun d hd d' hd' => hal d (mfs d hd) d' (mfs d' hd')) (fun d hd => (hk d (mfs d hd)).1) (by rw [hfl, sizeLine_eq]; omega) (fun d hd => ?room) fun out hout eo => ?done))
  case reads =>
    refine (each_mem ef).mono fun u d z => ?_
    obtain ⟨as, r⟩ := z.1.2
    have z0 := (is_nk d u as (hk d (mfs d z.2)).2.1 r).2
    exact ⟨as, PyProof.Rows.Reads.keeps kp r, by rw [z0]; exact List.not_mem_nil⟩
  case room =>
    have z := (hk d (mfs d hd)).2.2.2
    show A.in1.units + 1 + d.depth < cLine
    simp only [Around.in1_units]
    omega
  case done =>
    obtain ⟨c, hc⟩ := sortedHeap_at (vs := vs) (out := out.toArray) hoL
    refine wpAny_pure ⟨_, rfl, hQ _ s1.heap.objs.size out c fs (fun b u q0 => ?_) g1 o1 hz hc pf eo⟩
    have q := k1 b u q0
    have hlt := Heap.lt_size q
    show (sortedHeap (s1.heap.push (seqObj "list" vs.toArray 0)) s1.heap.objs.size vs _).get? b = some u
    rw [sortedHeap_old (Nat.ne_of_lt hlt) (by rw [size_push']; exact Nat.lt_succ_of_lt hlt)]
    exact Heap.get?_push_of_some _ q
end
/-! ### over the layer -/
def SetN (w : World) (a : Addr) (L : List (Addr × NK)) : HO := .ext fun h => ∃ h0 es ep t, Ts w h0 a L es ep t ∧ ∀ o, h0.get? a = some o → h.get? a = some o
section
variable {X : Cx} {pins : List (Addr × Obj)} {σ : L2.St} {H : Hp} {s : Shared}
theorem setN_ok {P : Program} {w : World} {h : PySem.Heap} {a : Addr} {L : List (Addr × NK)} {es : Array (Int × Value)} {ep : Nat} {t : SetTable} (R : Ts w h a L es ep t) : ObjOk P w H h a (SetN w a L) := by
  obtain ⟨o, ho, _⟩ := R.obj
  exact ⟨⟨h, es, ep, t, R, fun _ z => z⟩, ⟨_, ho⟩, fun h1 h2 ⟨h0, es, ep, t, p, k⟩ k2 => ⟨h0, es, ep, t, p, fun o z => k2 o (k o z)⟩⟩
theorem keys_of (I : Inv X pins σ H s) : ∀ {xs : List V} {us : List Value} {ds : List PyData}, DpAll X.K H xs ds → Vals xs us → (∀ d ∈ ds, K8 d) →
    ∃ ks : List (Addr × NK), us = ks.map (fun p => Value.ref p.1) ∧ ks.map (·.2) = ds.map nk ∧ (∀ p ∈ ks, Is8 s.heap p.2 p.1) ∧ ∀ p ∈ ks, ∃ d ∈ ds, p.2 = nk d ∧ Dp X.K H (V.ref p.1) d
  | [], [], [], _, _, _ => ⟨[], rfl, rfl, fun p hp => (by cases hp), fun p hp => (by cases hp)⟩
  | x :: xs, u :: us, d :: ds, h, r, hk => by
    cases h with
    | cons h1 h2 =>
      cases r with
      | cons r1 r2 =>
        obtain ⟨ks, q1, q2, q3, q4⟩ := keys_of I h2 r2 fun d hd => hk d (List.mem_cons_of_mem _ hd)
        obtain ⟨⟨ys, rfl⟩, k1, k2, k3⟩ := hk d (List.mem_cons_self ..)
        obtain ⟨as, rd⟩ := Dp.reads I _ _ _ h1 r1
        obtain ⟨b, zs, rfl, _⟩ := dp_tup h1
        have eu : u = Value.ref b := by
          cases r1
          rfl
        subst eu
        refine ⟨(b, nk (.tuple ys)) :: ks, by rw [q1]; rfl, by rw [List.map_cons, List.map_cons, q2], fun p hp => ?_, fun p hp => ?_⟩
        · rcases List.mem_cons.mp hp with z | z
          · rw [z]
            exact ⟨(is_nk _ _ _ k1 rd).1, k2⟩
          · exact q3 p z
        · rcases List.mem_cons.mp hp with z | z
          · rw [z]
            exact ⟨_, List.mem_cons_self .., rfl, h1⟩
          · obtain ⟨e, e1, e2⟩ := q4 p z
            exact ⟨e, List.mem_cons_of_mem _ e1, e2⟩
  | [], _ :: _, _, _, r, _ => by cases r
  | _ :: _, [], _, _, r, _ => by cases r
  | [], [], _ :: _, h, _, _ => by cases h
  | _ :: _, _ :: _, [], h, _, _ => by cases h
theorem nodup_of {α β : Type} (f : α → β) : ∀ {l : List α}, (l.map f).Nodup → l.Nodup
  | [], _ => List.nodup_nil
  | x :: l, h => by
    rw [List.map_cons, List.nodup_cons] at h
    exact List.nodup_cons.mpr ⟨fun z => h.1 (List.mem_map.mpr ⟨x, z, rfl⟩), nodup_of f h.2⟩
theorem pairs_same {α β : Type} : ∀ {l m : List (α × β)}, l.map (·.1) = m.map (·.1) → l.map (·.2) = m.map (·.2) → l = m
  | [], [], _, _ => rfl
  | [], _ :: _, h, _ => by simp at h
  | _ :: _, [], h, _ => by simp at h
  | (a, b) :: l, (c, d) :: m, h, g => by
    simp only [List.map_cons, List.cons.injEq] at h g
    rw [h.1, g.1, pairs_same h.2 g.2]
theorem pick {K : PySem.W.Frag} {ds : List PyData} : ∀ (L : List (Addr × NK)), (∀ p ∈ L, ∃ d ∈ ds, p.2 = nk d ∧ Dp K H (V.ref p.1) d) → ∃ es : List PyData, DpAll K H (L.map fun p => V.ref p.1) es ∧ L.map (·.2) = es.map nk ∧ ∀ d ∈ es, d ∈ ds
  | [], _ => ⟨[], .nil, rfl, fun d hd => (by cases hd)⟩
  | p :: L, h => by
    obtain ⟨es, q1, q2, q3⟩ := pick L fun p hp => h p (List.mem_cons_of_mem _ hp)
    obtain ⟨d, d1, d2, d3⟩ := h p (List.mem_cons_self ..)
    refine ⟨d :: es, .cons d3 q1, by rw [List.map_cons, List.map_cons, q2, d2], fun e he => ?_⟩
    rcases List.mem_cons.mp he with z | z
    · rw [z]
      exact d1
    · exact q3 e z
/-- set(xs), xs a list or a tuple of such tuples -/
def rSetN (K : PySem.W.Frag) (w : World) : List V → Hp → VK → Prop := fun vs H Q => ∃ (a : Addr) (xs : List V) (ds : List PyData), vs = [V.ref a] ∧ (SqL K H a xs ∨ SqT K H a xs) ∧ DpAll K H xs ds ∧ (∀ d ∈ ds, K8 d) ∧ ds.length < 64 ∧
  ∀ p L es, H p = none → DpAll K H (L.map fun q => V.ref q.1) es → L.map (·.2) = es.map nk → es.Nodup → (∀ d, d ∈ es ↔ d ∈ ds) → es.length ≤ ds.length → Q (.ref p) (upd H p (SetN w p L))
theorem cr_setN {w : World} (hc : X.calm = true) (hw : X.w = w) (hu : X.A.units + 65 < cLine) : CallR X (.type "set") (rSetN X.K w) := by
  subst hw
  intro pins s σ H vs us Q I r h
  obtain ⟨a, xs, ds, rfl, hs, hd, hk, hlen, q⟩ := h
  rw [Vals.ref1 r]
  have hn : H s.heap.objs.size = none := I.hok.fresh (Nat.le_refl _)
  obtain ⟨its, rv, pl⟩ : ∃ its : List Value, Vals xs its ∧ (s.heap.IsList a its.toArray ∨ s.heap.IsTuple a its.toArray) := by
    rcases hs with hs | hs
    · obtain ⟨its, rv, pl, _⟩ := I.list hs
      exact ⟨its, rv, .inl pl.isList⟩
    · obtain ⟨its, rv, pl, _⟩ := I.tuple hs
      exact ⟨its, rv, .inr pl⟩
  obtain ⟨ks, e1, e2, e3, e4⟩ := keys_of I hd rv hk
  have hkl : ks.length = ds.length := by
    have z := congrArg List.length e2
    rwa [List.length_map, List.length_map] at z
  refine call_setN (P := X.prog) (w := X.w) ks (I.ok.hd hc) pl (by simpa using e1) e3 (by omega) (by omega) fun h' tk L es ep t T sm k => ?_
  obtain ⟨fs, f1, f2, f3⟩ := pick L fun p hp => e4 p (List.mem_of_mem_take (sm.sub p hp))
  have inj : ∀ d ∈ ds, ∀ d' ∈ ds, nk d = nk d' → d = d' := fun d hd d' hd' e => nk_inj d d' (hk d hd).2.1 (hk d' hd').2.1 e
  refine ⟨.ref s.heap.objs.size, upd H s.heap.objs.size (SetN X.w s.heap.objs.size L), I.laid (t' := tk) k (Nat.le_refl _) (setN_ok T), rfl, q _ L fs hn f1 f2 ?_ (fun d => ⟨f3 d, fun hd => ?_⟩) ?_⟩
  · have z := T.one
    rw [f2] at z
    exact nodup_of nk z
  · have z : nk d ∈ ks.map (·.2) := by
      rw [e2]
      exact List.mem_map.mpr ⟨d, hd, rfl⟩
    obtain ⟨p, hp, ep⟩ := List.mem_map.mp z
    have z2 := sm.all p (by rw [List.take_length]; exact hp)
    rw [f2, ep] at z2
    obtain ⟨d', hd', e'⟩ := List.mem_map.mp z2
    rw [← inj d' (f3 d' hd') d hd e']
    exact hd'
  · have z := sm.len
    have z2 := congrArg List.length f2
    rw [List.length_map, List.length_map] at z2
    omega
theorem refs_vals : ∀ (L : List (Addr × NK)), Vals (L.map fun q => V.ref q.1) (L.map fun q => Value.ref q.1)
  | [] => .nil
  | _ :: L => .cons rfl (refs_vals L)
/-- sorted(a set of such tuples) -/
def rSortN (K : PySem.W.Frag) (w : World) : List V → Hp → VK → Prop := fun vs H Q => ∃ (a : Addr) (L : List (Addr × NK)) (ds : List PyData), vs = [V.ref a] ∧ H a = some (SetN w a L) ∧ DpAll K H (L.map fun q => V.ref q.1) ds ∧ L.map (·.2) = ds.map nk ∧ AllAlike ds ∧ (∀ d ∈ ds, K8 d) ∧ ds.length < 64 ∧
  ∀ (ys : List V) (fs : List PyData) (p : Addr), H p = none → fs.Perm ds → DpAll K H ys (fs.mergeSort So.dle) → Q (.ref p) (upd H p (.lst ys))
theorem cr_sortN {w : World} (hc : X.calm = true) (hw : X.w = w) (hu : X.A.units + 65 < cLine) : CallR X (.builtin "sorted") (rSortN X.K w) := by
  subst hw
  intro pins s σ H vs us Q I r h
  obtain ⟨a, L, ds, rfl, ha, hd, hn2, hal, hk, hlen, q⟩ := h
  obtain ⟨h0, es, ep, t, T0, k0⟩ := (I.hok a _ ha).1
  rw [Vals.ref1 r]
  have rl := refs_vals L
  have ea := So.each_of I hd rl
  have T : Ts X.w s.heap a L es ep t := T0.keep k0 fun p hp => by
    obtain ⟨ks, e1, e2, e3, e4⟩ := keys_of I hd rl hk
    have es1 : ks.map (·.1) = L.map (·.1) := by
      have z := congrArg (List.map fun v => match v with | Value.ref b => b | _ => 0) e1
      rw [List.map_map, List.map_map] at z
      exact z.symm
    have el : ks = L := pairs_same es1 (by rw [e2, hn2])
    rw [← el] at hp
    exact e3 p hp
  refine sorted_setN (P := X.prog) T (I.ok.hd hc) hu (ea.mono fun _ _ z => z.1) (ea.mono fun _ _ z => z.2) hal hk fun s' p out c fs k g o hp hg pf eo => ?_
  obtain ⟨ys, ry, dy⟩ := So.each_back eo
  have hl2 : ys.length ≤ sizeLine := by
    have z := eo.length
    rw [List.length_mergeSort, pf.length_eq] at z
    rw [ry.length, z, sizeLine_eq]
    omega
  have hn : H p = none := I.hok.fresh hp
  have J : Inv X pins σ (upd H p (.lst ys)) { s with heap := s'.heap, gens := s'.gens, drawn := s'.drawn, toks := s'.toks } :=
    I.call (ch := []) (Un.laid k hp hn) (I.hok.laid k hp ⟨hl2, out, c, ry, hg⟩) (by rw [g]; exact I.bare) (fun _ z => nomatch z)
  have e : s' = { s with heap := s'.heap, gens := s'.gens, drawn := s'.drawn, toks := s'.toks } := by
    cases s'
    cases s
    cases o
    rfl
  rw [e]
  exact ⟨.ref p, _, J, rfl, q ys fs p hn pf dy⟩
end
end Sd
/-! len(set of texts); data in a tuple of data; == and != of data within a block. -/
namespace Sl
open PySem PySem.Spec PyProof.Rows L2 Bx TL Dx
section
variable {X : Cx}
def rLenX (P : Program) (w : World) : List V → Hp → VK → Prop := fun vs H Q => ∃ (a : Addr) (l : List Str), vs = [V.ref a] ∧ H a = some (Sx.SetV P w a l) ∧ l.length < 4000 ∧ Q (.int l.length) H
theorem call_lenX : CallR X (.builtin "len") (rLenX X.prog X.w) := by
  intro pins s σ H vs us Q I r h
  obtain ⟨a, l, rfl, ha, hlen, q⟩ := h
  have R : Sx.SetX X.prog X.w s.heap a l := (I.hok a _ ha).1
  obtain ⟨⟨es, ep, t⟩, ho, F, nd, ri, hl⟩ := R
  rw [Vals.ref1 r]
  have hsz : es.size = l.length := F.sz
  exact call_len_set ho ⟨rfl, rfl, rfl⟩ rfl F.fit (by rw [hsz]; omega) ⟨.int l.length, H, I.tok _, ⟨s.toks + 1, by rw [hsz]⟩, q⟩
def rInT (K : PySem.W.Frag) : R2 := fun x y H Q => ∃ d ds, Dp K H x d ∧ Dp K H y (.tuple ds) ∧ SeqAt.shaped d = true ∧ SeqAt.shaped (.tuple ds) = true ∧ Q (.bl (ds.any fun z => PyData.eqv z d)) H
theorem op_inT {K : PySem.W.Frag} (hK : X.K = K) (hu : X.A.units + 65 < cLine) : OpR X (compareOp .In) (rInT K) := by
  subst hK
  intro pins s σ H x y v u Q I rx ry h
  obtain ⟨d, ds, hd, he, sd, se, q⟩ := h
  obtain ⟨as, r1⟩ := Dp.reads I d x v hd rx
  obtain ⟨bs, r2⟩ := Dp.reads I (.tuple ds) y u he ry
  exact SeqAt.in_tuple_reads r2 r1 (SeqAt.canLay_of_shaped se) (SeqAt.canLay_of_shaped sd) (room_in_shaped sd hu) ⟨.bl _, H, I, rfl, q⟩
theorem op_eqDK {K : PySem.W.Frag} (hK : X.K = K) (hu : X.A.units + 64 < cLine) : OpR X (compareOp .Eq) (rEqD K) := by
  subst hK
  exact op_eqD hu
theorem op_neDK {K : PySem.W.Frag} (hK : X.K = K) (hu : X.A.units + 64 < cLine) : OpR X (compareOp .NotEq) (rNeD K) := by
  subst hK
  exact op_neD hu
end
end Sl
/-! data not in a tuple of data. -/
namespace Sl
open PySem PySem.Spec PyProof.Rows L2 Bx TL Dx
section
variable {X : Cx}
def rNotInT (K : PySem.W.Frag) : R2 := fun x y H Q => ∃ d ds, Dp K H x d ∧ Dp K H y (.tuple ds) ∧ SeqAt.shaped d = true ∧ SeqAt.shaped (.tuple ds) = true ∧ Q (.bl (!ds.any fun z => PyData.eqv z d)) H
theorem op_notInT {K : PySem.W.Frag} (hK : X.K = K) (hu : X.A.units + 65 < cLine) : OpR X (compareOp .NotIn) (rNotInT K) := by
  subst hK
  intro pins s σ H x y v u Q I rx ry h
  obtain ⟨d, ds, hd, he, sd, se, q⟩ := h
  obtain ⟨as, one⟩ := Dp.reads I d x v hd rx
  obtain ⟨bs, two⟩ := Dp.reads I (.tuple ds) y u he ry
  exact SeqAt.notIn_tuple_reads two one (SeqAt.canLay_of_shaped se) (SeqAt.canLay_of_shaped sd) (room_in_shaped sd hu) ⟨.bl _, H, I, rfl, q⟩
end
end Sl
/-! sorted(a list of tuples of alike data), the empty tuple among them. -/
namespace Sd
open PySem PySem.Spec PyProof.Rows L2 Bx TL Dx PySem.W PySem.Calls
section
variable {P : Program} {w : World} {A : Around} {E : Value → Shared → Prop} {s : Shared} {vs : List Value} {bs : List PyData} {R : Value → PyData → Prop}
theorem sorted_tups {l : Addr} {Q : Value → Shared → Prop} (hl : s.heap.IsList l vs.toArray) (e : EachIs R vs bs) (er : EachIs (fun v b => ∃ as, PySem.Reads s.heap v b as) vs bs) (hal : AllAlike bs) (ht : ∀ b ∈ bs, ∃ xs, b = .tuple xs) (hL : bs.length ≤ sizeLine)
    (hu : ∀ b, b ∈ bs → A.units + 2 + b.depth < cLine) (h : ∀ out, out.length = bs.length → EachIs R out (bs.mergeSort (dataLe false id)) → Q (.ref (s.heap.objs.size + 1)) { s with heap := sortedAll s.heap vs (List.toArray out) }) :
    wpAny (model P w) A (call (.builtin "sorted") [.ref l]) Q E s := by
  have em : bs.map id = bs := List.map_id bs
  have kept : EachIs (fun v b => ∃ as, PySem.Reads (sortingHeap (copyHeap s.heap vs) (s.heap.objs.size + 1) vs) v (id b) as) vs bs := er.mono fun _ _ ⟨as, r⟩ => ⟨as, PyProof.Rows.Reads.keeps (fun _ _ => sorting_copy_old) r⟩
  have here : SortsAt P w A.in1.in1 { s with heap := sortingHeap (copyHeap s.heap vs) (s.heap.objs.size + 1) vs } (dataKind (sortingHeap (copyHeap s.heap vs) (s.heap.objs.size + 1) vs) (bs.map id)) vs := by
    rw [em]
    exact sorts_tups (s := { s with heap := sortingHeap (copyHeap s.heap vs) (s.heap.objs.size + 1) vs }) kept hal ht fun d hd => hu d hd
  exact sorted_vals hl here (by rw [e.length]; exact hL) (h _ (by rw [sortVals_length false rfl]; exact e.length) (sortVals_data (enc := id) false e kept (by rw [em]; exact hal)))
end
section
variable {X : Cx}
def rSortT (K : PySem.W.Frag) : List V → Hp → VK → Prop := fun xs H Q => ∃ (a : Addr) (vs : List V) (ds : List PyData), xs = [V.ref a] ∧ SqL K H a vs ∧ DpAll K H vs ds ∧ AllAlike ds ∧ (∀ d ∈ ds, ∃ xs, d = .tuple xs) ∧ ds.length ≤ sizeLine ∧ (∀ d ∈ ds, d.depth ≤ 60) ∧
  ∀ (ys : List V) (p : Addr), H p = none → DpAll K H ys (ds.mergeSort So.dle) → Q (.ref p) (upd H p (.lst ys))
theorem cr_sortT (hu : X.A.units + 65 < cLine) : CallR X (.builtin "sorted") (rSortT X.K) := by
  intro pins s σ H xs us Q I r h
  obtain ⟨a, vs, ds, rfl, hs, hd, hal, hso, hz, hdp, q⟩ := h
  cases r with
  | cons ra rb =>
    cases rb
    cases ra
    obtain ⟨its, rv, hl, _⟩ := I.list hs
    have ea := So.each_of I hd rv
    refine sorted_tups (bs := ds) (R := fun u d => ∃ v, Dp X.K H v d ∧ L2.RelV v u) hl.isList (ea.mono fun _ _ z => z.1) (ea.mono fun _ _ z => z.2) hal hso hz (fun d hd => ?_) fun out hlen eo => ?_
    · have := hdp d hd
      omega
    · obtain ⟨ys, ry, dy⟩ := So.each_back eo
      obtain ⟨ep, he'⟩ := PyProof.Rows.sortedAll_at s.heap its out.toArray
      have hyl : ys.length = ds.length := by rw [ry.length, hlen]
      exact ⟨.ref _, upd H (s.heap.objs.size + 1) (.lst ys), I.laid (t' := s.toks) (fun _ _ => PyProof.Rows.sortedAll_old) (Nat.le_succ _) ⟨by rw [hyl]; exact hz, out, ep, ry, by simpa using he'⟩, rfl, q ys _ (I.hok.fresh (Nat.le_succ _)) dy⟩
end
end Sd
/-! Tables of sets of up to 305 members: four masks. -/
namespace Tb
open PySem PySem.Spec PyProof.Rows L2
/-- 8, 32, 128 or 512 slots -/
def Mk (m : Nat) : Prop := m = 7 ∨ m = 31 ∨ m = 127 ∨ m = 511
theorem Mk.odd {m : Nat} (h : Mk m) : m % 2 = 1 := by
  rcases h with e | e | e | e <;> (rw [e])
theorem Mk.bd {m : Nat} (h : Mk m) : m ≤ 511 := by
  rcases h with e | e | e | e <;> omega
def trail : Nat → Nat → List Nat
  | 0, _ => []
  | n + 1, x => x :: trail n ((x * 5 + 1) % 512)
theorem trail_all : ((List.range 512).all fun j => (trail 512 0).contains j) = true := by decide +kernel
theorem trail_at : ∀ (n a j : Nat), j ∈ trail n (lcgN 511 a) → ∃ k, k < n ∧ lcgN 511 (a + k) = j
  | 0, _, _, h => nomatch h
  | n + 1, a, j, h => by
    rcases List.mem_cons.mp h with e | h
    · exact ⟨0, Nat.succ_pos _, e.symm⟩
    · obtain ⟨k, hk, e⟩ := trail_at n (a + 1) j h
      exact ⟨k + 1, Nat.succ_lt_succ hk, by rw [show a + (k + 1) = a + 1 + k by omega]; exact e⟩
theorem onto (j : Nat) (hj : j ≤ 511) : ∃ b, b ≤ 511 ∧ lcgN 511 b = j := by
  have z := List.all_eq_true.mp trail_all j (List.mem_range.mpr (by omega))
  obtain ⟨k, a1, a2⟩ := trail_at 512 0 j (List.contains_iff_mem.mp z)
  exact ⟨k, by omega, by rwa [Nat.zero_add] at a2⟩
theorem period : ∀ k : Nat, lcgN 511 (512 + k) = lcgN 511 k
  | 0 => by decide +kernel
  | k + 1 => congrArg (fun x : Nat => (x * 5 + 1) % 512) (period k)
theorem around {i j : Nat} (hi : i ≤ 511) (hj : j ≤ 511) : ∃ k, k ≤ 511 ∧ lcgI 511 i k = j := by
  obtain ⟨a, a1, rfl⟩ := onto i hi
  obtain ⟨b, b1, rfl⟩ := onto j hj
  by_cases c : a ≤ b
  · exact ⟨b - a, by omega, by rw [lcgN_add, Nat.add_sub_cancel' c]⟩
  · refine ⟨512 + b - a, by omega, ?_⟩
    rw [lcgN_add, show a + (512 + b - a) = 512 + b by omega, period]
theorem Mk.meets {m : Nat} (h : Mk m) (x : Int) {j : Nat} (hj : j ≤ m) : ∃ n, n ≤ m + 12 ∧ runI m (SetTable.bits x) n = j := by
  rcases h with e | e | e | e
  · exact run_meets (.inl e) x hj
  · exact run_meets (.inr (.inl e)) x hj
  · exact run_meets (.inr (.inr e)) x hj
  · subst e
    obtain ⟨k, a1, a2⟩ := around (runI_le 511 (SetTable.bits x) 12) hj
    exact ⟨12 + k, by omega, by rw [runI_tail (bits_lt x)]; exact a2⟩
theorem way_bd {m : Nat} {x : Int} {k : Nat} : way m x k ≤ m := by
  have z := runEnd_bd (m := m) (i := SetTable.bits x % (m + 1)) (Nat.le_of_lt_succ (Nat.mod_lt _ (Nat.succ_pos _)))
  have q := nth_in (m := m) k (runAt m (SetTable.bits x % (m + 1)) (SetTable.bits x)) (by
    show SetTable.bits x % (m + 1) + (SetTable.runEnd m (SetTable.bits x % (m + 1)) - SetTable.bits x % (m + 1)) ≤ m
    omega)
  exact Nat.le_trans (Nat.le_add_right _ _) q
structure Tb (t : SetTable) (hs : List Int) : Prop where
  ris : Ris t.place.toList
  dm : t.dummies = #[]
  sz : t.place.size = hs.length
  mok : Mk t.mask
  reach : ∀ (i : Nat) (x : Int) (j : Nat), hs[i]? = some x → t.place.toList[i]? = some j → ∃ k, way t.mask x k = j ∧ ∀ c, c < k → way t.mask x c ∈ t.place.toList
section
variable {t : SetTable} {hs : List Int}
theorem Tb.first (T : Tb t hs) (hl : hs.length ≤ t.mask) (x : Int) : ∃ K, K < 10 * SetTable.turns t.mask ∧ way t.mask x K ∉ t.place.toList ∧ ∀ c, c < K → way t.mask x c ∈ t.place.toList := by
  obtain ⟨j, j1, j2⟩ := st_missing t.place.toList (t.mask + 1) (by
    have := T.sz
    rw [Array.length_toList]
    omega)
  obtain ⟨n, n1, n2⟩ := T.mok.meets x (Nat.le_of_lt_succ j1)
  obtain ⟨k, k1, k2⟩ := run_nth t.mask (SetTable.bits x) n
  have ek : way t.mask x k = j := (congrArg SetTable.Probe.j k2).trans n2
  obtain ⟨K, K1, K2, K3⟩ := st_least (p := fun c => way t.mask x c ∉ t.place.toList) k (show way t.mask x k ∉ t.place.toList by
    rw [ek]
    exact j2)
  exact ⟨K, by unfold SetTable.turns; omega, K2, fun c hc => Classical.byContradiction (K3 c hc)⟩
theorem Tb.before (T : Tb t hs) {x : Int} {K i j : Nat} (hK : way t.mask x K ∉ t.place.toList) (hi : hs[i]? = some x) (hj : t.place.toList[i]? = some j) : ∃ k, k < K ∧ way t.mask x k = j := by
  obtain ⟨k, e, b⟩ := T.reach i x j hi hj
  refine ⟨k, Nat.not_le.mp fun le => hK ?_, e⟩
  rcases Nat.lt_or_eq_of_le le with c | c
  · exact b K c
  · rw [c, e]
    exact List.mem_of_getElem? hj
theorem Tb.put (T : Tb t hs) {x : Int} {K : Nat} (hK : way t.mask x K ∉ t.place.toList) (hb : ∀ c, c < K → way t.mask x c ∈ t.place.toList) :
    (t.put (way t.mask x K)).2 = SetTable.below t.place (way t.mask x K) ∧
    Tb (t.put (way t.mask x K)).1 (hs.take (SetTable.below t.place (way t.mask x K)) ++ x :: hs.drop (SetTable.below t.place (way t.mask x K))) ∧
    (t.put (way t.mask x K)).1.mask = t.mask ∧ (t.put (way t.mask x K)).1.led = t.led ∧ (t.put (way t.mask x K)).1.fill = hs.length + 1 := by
  have cut := (below_cut T.ris (way t.mask x K)).1
  have pp := put_place t (way t.mask x K)
  have pd := put_dm T.dm (way t.mask x K)
  have ri := ris_insert (j := way t.mask x K) T.ris fun e => hK (List.mem_of_getElem? (by rw [Array.getElem?_toList]; exact e))
  have same : t.place.toList.length = hs.length := by rw [Array.length_toList, T.sz]
  generalize ep : SetTable.below t.place (way t.mask x K) = p at *
  have b1 : p ≤ t.place.toList.length := by rw [Array.length_toList]; exact cut
  have b2 : p ≤ hs.length := by omega
  have num : (t.put (way t.mask x K)).1.place.size = hs.length + 1 := by
    rw [← Array.length_toList, pp, len_ins _ b1, same]
  refine ⟨ep, ⟨by rw [pp, ← ep, ← SetTable.toList_insertAt, ep]; exact ri, pd, by rw [len_ins _ b2]; exact num, T.mok, fun i y j e1 e2 => ?_⟩, rfl, rfl, by
    show (t.put (way t.mask x K)).1.place.size + (t.put (way t.mask x K)).1.dummies.size = _
    rw [num, pd]
    rfl⟩
  rw [tins_get hs b2] at e1
  rw [pp, tins_get _ b1] at e2
  have old : ∀ i', hs[i']? = some y → t.place.toList[i']? = some j → ∃ k, way t.mask y k = j ∧ ∀ c, c < k → way t.mask y c ∈ (t.put (way t.mask x K)).1.place.toList := fun i' z1 z2 => by
    obtain ⟨k, k1, k2⟩ := T.reach i' y j z1 z2
    exact ⟨k, k1, fun c hc => by rw [pp]; exact mem_ins.2 (.inr (k2 c hc))⟩
  split at e1
  · rename_i lt
    rw [if_pos lt] at e2
    exact old i e1 e2
  · rename_i ge
    rw [if_neg ge] at e2
    split at e1
    · rename_i eq
      rw [if_pos eq] at e2
      cases e1
      cases e2
      exact ⟨K, rfl, fun c hc => by rw [pp]; exact mem_ins.2 (.inr (hb c hc))⟩
    · rename_i ne
      rw [if_neg ne] at e2
      exact old (i - 1) e1 e2
end
/-! laid anew -/
theorem free_at {m : Nat} (hm : Mk m) (ow : Array (Option Nat)) (x : Int) {j : Nat} (hj : j ≤ m) (hf : oAt ow j = none) :
    ∃ K, SetTable.layClean.free m ow (SetTable.turns m) (SetTable.bits x % (m + 1)) (SetTable.bits x) = some (way m x K) ∧ oAt ow (way m x K) = none ∧ ∀ c, c < K → oAt ow (way m x c) ≠ none := by
  obtain ⟨n, n1, n2⟩ := hm.meets x hj
  have there : way m x (off m (SetTable.bits x % (m + 1)) (SetTable.bits x) n) = j := (congrArg SetTable.Probe.j (nth_off m n _ _)).trans (by rw [itL_run]; exact n2)
  obtain ⟨K, a1, a2, a3⟩ := st_least (p := fun c => oAt ow (way m x c) = none) _ ((congrArg (oAt ow) there).trans hf)
  have isN : ∀ o : Option Nat, o ≠ none → o.isNone = false := fun o ho => by
    cases o with
    | none => exact absurd rfl ho
    | some _ => rfl
  exact ⟨K, free_spec m ow _ n _ _ K (by unfold SetTable.turns; omega) a1 (fun c hc => isN _ (a3 c hc)) (congrArg Option.isNone a2), a2, a3⟩
theorem own_next {m : Nat} (hm : Mk m) {done : List Int} {ow : Array (Option Nat)} (W : Own m done ow) (hl : done.length ≤ m) (x : Int) :
    ∃ j, SetTable.layClean.free m ow (SetTable.turns m) (SetTable.bits x % (m + 1)) (SetTable.bits x) = some j ∧ Own m (done ++ [x]) (ow.setIfInBounds j (some done.length)) := by
  obtain ⟨ps, l1, l2⟩ := W.ps
  obtain ⟨j, j1, j2⟩ := st_missing ps (m + 1) (by omega)
  obtain ⟨K, k1, k2, k3⟩ := free_at hm ow x (Nat.le_of_lt_succ j1) (Classical.byContradiction fun z => j2 (l2 j (Nat.le_of_lt_succ j1) z))
  have inb : way m x K < ow.size := by
    rw [W.sz]
    exact Nat.lt_succ_of_le way_bd
  have here := oAt_set_self (some done.length) inb
  have stays : ∀ i, oAt ow i ≠ none → oAt (ow.setIfInBounds (way m x K) (some done.length)) i ≠ none := fun i hi => by
    by_cases c : i = way m x K
    · rw [c, here]
      simp
    · rwa [oAt_set_ne _ c]
  refine ⟨_, k1, by rw [Array.size_setIfInBounds]; exact W.sz, fun i k hi e => ?_, fun k hk => ?_, way m x K :: ps, by rw [List.length_cons, List.length_append, l1]; rfl, fun i hi e => ?_⟩
  · by_cases c : i = way m x K
    · rw [c, here] at e
      cases e
      exact ⟨x, K, by simp, c.symm, fun c' hc' => stays _ (k3 c' hc')⟩
    · rw [oAt_set_ne _ c] at e
      obtain ⟨y, k', a1, a2, a3⟩ := W.at_ i k hi e
      refine ⟨y, k', ?_, a2, fun c' hc' => stays _ (a3 c' hc')⟩
      have lt := (List.getElem?_eq_some_iff.mp a1).1
      rwa [List.getElem?_append_left lt]
  · rw [List.length_append, List.length_singleton] at hk
    rcases Nat.lt_or_eq_of_le (Nat.le_of_lt_succ hk) with c | c
    · obtain ⟨i, a1, a2⟩ := W.all k c
      refine ⟨i, a1, (oAt_set_ne _ fun z => ?_).trans a2⟩
      rw [z, k2] at a2
      cases a2
    · rw [c]
      exact ⟨_, way_bd, here⟩
  · by_cases c : i = way m x K
    · rw [c]
      exact List.mem_cons_self
    · rw [oAt_set_ne _ c] at e
      exact List.mem_cons_of_mem _ (l2 i hi e)
theorem own_all {m : Nat} (hm : Mk m) : ∀ (rest done : List Int) (ow : Array (Option Nat)), Own m done ow → done.length + rest.length ≤ m →
    ∃ ow', rest.foldl (stepF m) (some (ow, done.length)) = some (ow', done.length + rest.length) ∧ Own m (done ++ rest) ow'
  | [], done, ow, W, _ => ⟨ow, rfl, by rwa [List.append_nil]⟩
  | x :: rest, done, ow, W, hl => by
    rw [List.length_cons] at hl ⊢
    obtain ⟨j, e, W1⟩ := own_next hm W (by omega) x
    have one : (done ++ [x]).length = done.length + 1 := by simp
    obtain ⟨ow', f, W2⟩ := own_all hm rest _ _ W1 (by omega)
    rw [one] at f
    refine ⟨ow', ?_, by rw [List.append_cons]; exact W2⟩
    rw [List.foldl_cons, stepF_some e, f, show done.length + 1 + rest.length = done.length + (rest.length + 1) by omega]
theorem laid_anew {m : Nat} (hm : Mk m) {hs : Array Int} (hn : hs.size ≤ m) : ∃ ow, SetTable.layClean m hs = some ow ∧ Own m hs.toList ow := by
  obtain ⟨ow, f, W⟩ := own_all hm hs.toList [] _ (Own.init m) (by rw [Array.length_toList]; show 0 + hs.size ≤ m; omega)
  refine ⟨ow, ?_, W⟩
  rw [layClean_eq]
  exact (congrArg (Option.map (·.1)) f).trans rfl
theorem relaid_tb (t : SetTable) {hs : Array Int} {want M : Nat} (hw : SetTable.sizeAbove want - 1 = M) (hM : Mk M) (hn : hs.size ≤ M) :
    ∃ t' ord, t.relaid hs want = some (t', ord) ∧ ord.toList.Perm (List.range hs.size) ∧ Tb t' (ord.toList.map fun i => hs.getD i 0) ∧ t'.mask = M ∧ t'.led = t.led := by
  obtain ⟨ow, e, W⟩ := laid_anew hM hn
  have rl := ris_live (fun j => ow.getD j none) (List.range (M + 1)) List.pairwise_lt_range
  have up : Ris ((liveOf M ow).map (·.1)) := rl.1
  have inL : ∀ {j k : Nat}, (j, k) ∈ liveOf M ow ↔ j ≤ M ∧ oAt ow j = some k := fun {j k} => mem_live W.sz
  have every : ∀ k, k < hs.size → k ∈ (liveOf M ow).map (·.2) := fun k hk => by
    obtain ⟨j, a1, a2⟩ := W.all k hk
    exact List.mem_map.mpr ⟨(j, k), inL.2 ⟨a1, a2⟩, rfl⟩
  have num : (liveOf M ow).length = hs.size := by
    refine Nat.le_antisymm ?_ ?_
    · obtain ⟨ps, l1, l2⟩ := W.ps
      have z := nat_nodup_len _ ps (List.Pairwise.imp (fun h => Nat.ne_of_lt h) up) fun j hj => by
        obtain ⟨⟨i, k⟩, q1, q2⟩ := List.mem_map.mp hj
        cases q2
        obtain ⟨a1, a2⟩ := inL.1 q1
        exact l2 _ a1 (by rw [a2]; simp)
      rwa [List.length_map, l1] at z
    · have z := nat_nodup_len (List.range hs.size) _ List.nodup_range fun k hk => every k (List.mem_range.mp hk)
      rwa [List.length_range, List.length_map] at z
  refine ⟨tabOf t M ow, ((liveOf M ow).map (·.2)).toArray, by rw [relaid_eq, hw, e]; rfl, perm_range hs.size _ ((List.length_map _).trans num) every, ⟨up, rfl, by
    show (List.toArray _).size = _
    simp, hM, fun i x j e1 e2 => ?_⟩, rfl, rfl⟩
  have e1' : (((liveOf M ow).map (·.2)).map fun i => hs.getD i 0)[i]? = some x := e1
  have e2' : ((liveOf M ow).map (·.1))[i]? = some j := e2
  obtain ⟨⟨j', k⟩, q1, q2⟩ : ∃ q, (liveOf M ow)[i]? = some q ∧ q.1 = j := by
    rw [List.getElem?_map] at e2'
    exact Option.map_eq_some_iff.mp e2'
  cases q2
  rw [List.getElem?_map, List.getElem?_map, q1] at e1'
  have ex : hs.getD k 0 = x := Option.some.inj e1'
  obtain ⟨a1, a2⟩ := inL.1 (List.mem_of_getElem? q1)
  obtain ⟨y, K, b1, b2, b3⟩ := W.at_ _ k a1 a2
  have exy : x = y := by
    rw [← ex, Array.getD_eq_getD_getElem?, ← Array.getElem?_toList, b1]
    rfl
  subst exy
  refine ⟨K, b2, fun c hc => ?_⟩
  show way M x c ∈ (liveOf M ow).map (·.1)
  cases z : oAt ow (way M x c) with
  | none => exact absurd z (b3 c hc)
  | some k2 => exact List.mem_map.mpr ⟨(way M x c, k2), inL.2 ⟨way_bd, z⟩, rfl⟩
theorem size_308 : SetTable.sizeAbove (SetTable.grown 77) = 512 := by decide +kernel
end Tb
/-! Sets of nested tuples of ints and texts, fewer than 300 members. -/
namespace Se
open PySem PySem.Spec PyProof.Rows L2
open Sd hiding Ts look_from look relay add1 ts_new fill call_setN sorted_setN SetN setN_ok rSetN cr_setN rSortN cr_sortN
/-! ### the table -/
structure Ts (w : World) (h : PySem.Heap) (a : Addr) (L : List (Addr × NK)) (es : Array (Int × Value)) (ep : Nat) (t : SetTable) : Prop where
  obj : ∃ o, h.get? a = some o ∧ o.ExactSet ∧ o.data = .set es ep t
  row : es.toList = L.map (rowN w)
  tab : Tb.Tb t (L.map fun p => p.2.hash w)
  one : (L.map (·.2)).Nodup
  mem : ∀ p ∈ L, Is8 h p.2 p.1
  led : w.params.followText "set-order" = true ∨ t.led = true
  free : L.length * 5 < t.mask * 3
  few : L.length < 300
section
variable {P : Program} {w : World} {A : Around} {E : Value → Shared → Prop} {s : Shared} {a : Addr} {L : List (Addr × NK)} {es : Array (Int × Value)} {ep : Nat} {t : SetTable}
theorem Ts.num (R : Ts w s.heap a L es ep t) : es.size = L.length := by
  have z := congrArg List.length R.row
  rwa [Array.length_toList, List.length_map] at z
theorem Ts.fit (R : Ts w s.heap a L es ep t) : t.fits es.size = true := by
  have z1 := R.tab.sz
  have z2 := R.num
  have z3 := R.free
  rw [List.length_map] at z1
  unfold SetTable.fits SetTable.fill
  rw [R.tab.dm, Bool.and_eq_true, beq_iff_eq, decide_eq_true_eq]
  show t.place.size = es.size ∧ t.place.size + 0 ≤ t.mask
  omega
theorem Ts.at (R : Ts w s.heap a L es ep t) {i : Nat} {p : Addr × NK} (e : L[i]? = some p) : es[i]? = some (rowN w p) := by
  rw [← Array.getElem?_toList, R.row, List.getElem?_map, e]
  rfl
theorem Ts.nogw (R : Ts w s.heap a L es ep t) : ¬ t.gaveWay = true := by
  unfold SetTable.gaveWay
  rw [R.tab.mok.odd]
  exact Bool.false_ne_true
theorem look_from (R : Ts w s.heap a L es ep t) {x : Addr} {k : NK} (hx : Is8 s.heap k x) (hu : A.units + 8 < cLine) {K : Nat} (K1 : K < 10 * SetTable.turns t.mask) (K2 : way t.mask (k.hash w) K ∉ t.place.toList) (K3 : ∀ c, c < K → way t.mask (k.hash w) c ∈ t.place.toList)
    {Q : SetFound → Shared → Prop} (yes : k ∈ L.map (·.2) → Q (.there none) s) (no : k ∉ L.map (·.2) → Q (.free (way t.mask (k.hash w) K) false) s) :
    ∀ (fuel c : Nat) (stand : Option SetTable.Probe), stand.getD (t.probeStart (k.hash w)) = nth t.mask (beg t (k.hash w)) c → c ≤ K → K - c < fuel →
      (∀ (i : Nat) p, L[i]? = some p → p.2 = k → ∃ d, c ≤ d ∧ d < K ∧ t.place.toList[i]? = some (way t.mask (k.hash w) d)) → wpAny (model P w) A (setSearchFrom a (.ref x) (k.hash w) true fuel stand) Q E s := by
  intro fuel
  induction fuel with
  | zero => exact fun c _ _ _ lt _ => absurd lt (Nat.not_lt_zero _)
  | succ fuel ih =>
    intro c stand est cK lt here
    obtain ⟨o, ho, hex, hd⟩ := R.obj
    have sum : ∀ q, nth t.mask (nth t.mask (beg t (k.hash w)) c) q = nth t.mask (beg t (k.hash w)) (c + q) := fun q => (nth_add t.mask c _ q).symm
    have wy : ∀ q, (nth t.mask (nth t.mask (beg t (k.hash w)) c) q).j = way t.mask (k.hash w) (c + q) := fun q => congrArg SetTable.Probe.j (sum q)
    have hsh : ∀ (i : Nat) p, L[i]? = some p → (es[i]?.map (·.1)).getD 0 = p.2.hash w := fun i p hp => by
      rw [R.at hp]
      rfl
    have met := go_spec t R.tab.ris R.tab.dm (fun i => (es[i]?.map (·.1)).getD 0) (k.hash w) (10 * SetTable.turns t.mask) (K - c) _ (beg_quiet t.mask c (beg t (k.hash w)) rfl) (by omega) (fun q hq => by rw [wy]; exact K3 _ (by omega)) (by rw [wy, show c + (K - c) = K by omega]; exact K2)
    rw [setSearchFrom_succ]
    refine wpAny_bind (wpAny_setState_of ho hd R.fit ?_)
    dsimp only
    refine wp_if_neg R.nogw ?_
    try refine wpAny_bind (wpAny_pure ?_)
    rcases met with ⟨q, i, hq, hi, hh, hno, pr⟩ | ⟨hno, pr⟩
    · have pr2 : t.probe (fun i => (es[i]?.map (·.1)).getD 0) (k.hash w) (stand.getD (t.probeStart (k.hash w))) = some (.candidate (way t.mask (k.hash w) (c + q)) i (nth t.mask (beg t (k.hash w)) (c + (q + 1)))) := by
        rw [est, ← wy, ← sum]
        exact pr
      rw [pr2]
      dsimp only
      rw [wy] at hi
      have iL : i < L.length := by
        have z1 := (List.getElem?_eq_some_iff.mp hi).1
        have z2 := R.tab.sz
        rw [List.length_map] at z2
        rw [Array.length_toList] at z1
        omega
      obtain ⟨p, hp⟩ : ∃ p, L[i]? = some p := ⟨_, List.getElem?_eq_getElem iL⟩
      have pm : p ∈ L := List.mem_of_getElem? hp
      have go : wpAny (model P w) A (searchRest a (.ref x) (k.hash w) true fuel es t (way t.mask (k.hash w) (c + q)) i (nth t.mask (beg t (k.hash w)) (c + (q + 1)))) Q E s := by
        unfold searchRest
        rw [R.at hp]
        dsimp only
        refine wpAny_bind (wpAny_holding ((nestedKind P w).eqBool (show A.units + 8 < cLine from hu) (show (nestedKind P w).is s.heap p.2 p.1 from R.mem p pm) (show (nestedKind P w).is s.heap k x from hx) ?_))
        refine wpAny_bind (wpAny_setState_of ho hd R.fit ?_)
        dsimp only
        by_cases e : p.2 = k
        · refine wp_if_pos (by simp [e]) ?_
          exact wpAny_pure (yes (List.mem_map.mpr ⟨p, pm, e⟩))
        · refine wp_if_neg (by simp [e]) ?_
          try refine wpAny_bind (wpAny_pure ?_)
          have live : t.slot (way t.mask (k.hash w) (c + q)) = .live i := slot_live R.tab.ris hi
          rw [sameMem]
          dsimp only
          simp only [if_true, live, R.at hp]
          refine wpAny_bind (wpAny_isSame_ref_self (wpAny_bind (wpAny_pure ?_)))
          simp only [if_true]
          refine wp_if_neg (by simp [e]) ?_
          refine ih (c + (q + 1)) _ rfl (by omega) (by omega) fun i' p' hp' e' => ?_
          obtain ⟨d, d1, d2, d3⟩ := here i' p' hp' e'
          refine ⟨d, Nat.not_lt.mp fun lt' => ?_, d2, d3⟩
          rcases Nat.lt_or_ge d (c + q) with z | z
          · exact hno (d - c) i' (by omega) (by rw [wy, show c + (d - c) = d by omega]; exact d3) ((hsh i' p' hp').trans (by rw [e']))
          · have ed : d = c + q := by omega
            rw [ed] at d3
            have live2 := slot_live R.tab.ris d3
            rw [live] at live2
            injection live2 with ei
            rw [← ei, hp] at hp'
            exact e (by rw [Option.some.inj hp']; exact e')
      by_cases hl : t.led = true
      · refine wp_if_neg (by simp [hl]) ?_
        try refine wpAny_bind (wpAny_pure ?_)
        exact go
      · refine wp_if_pos (by simp [hl]) ?_
        refine wpAny_bind (unseen hx (fun y hy => ?_) ?_)
        · obtain ⟨e, he, rfl⟩ := List.mem_map.mp hy
          have e1 : e ∈ es ∧ e.1 = k.hash w := by simpa using he
          have e2 : e ∈ es.toList := by simpa using e1.1
          rw [R.row] at e2
          obtain ⟨p', hp', rfl⟩ := List.mem_map.mp e2
          exact ⟨p'.2, p'.1, rfl, R.mem p' hp'⟩
        · refine wp_if_neg Bool.false_ne_true ?_
          try refine wpAny_bind (wpAny_pure ?_)
          exact go
    · have pr2 : t.probe (fun i => (es[i]?.map (·.1)).getD 0) (k.hash w) (stand.getD (t.probeStart (k.hash w))) = some (.empty (way t.mask (k.hash w) K) none) := by
        have z := wy (K - c)
        rw [show c + (K - c) = K by omega] at z
        rw [est, ← z]
        exact pr
      rw [pr2]
      dsimp only
      refine wpAny_pure (no fun hm => ?_)
      obtain ⟨p, pm, e⟩ := List.mem_map.mp hm
      obtain ⟨i, hp⟩ := List.mem_iff_getElem?.mp pm
      obtain ⟨d, d1, d2, d3⟩ := here i p hp e
      exact hno (d - c) i (by omega) (by rw [wy, show c + (d - c) = d by omega]; exact d3) ((hsh i p hp).trans (by rw [e]))
theorem look (R : Ts w s.heap a L es ep t) {x : Addr} {k : NK} (hx : Is8 s.heap k x) (hu : A.units + 8 < cLine) {Q : SetFound → Shared → Prop} (yes : k ∈ L.map (·.2) → Q (.there none) s)
    (no : ∀ K, k ∉ L.map (·.2) → way t.mask (k.hash w) K ∉ t.place.toList → (∀ c, c < K → way t.mask (k.hash w) c ∈ t.place.toList) → Q (.free (way t.mask (k.hash w) K) false) s) : wpAny (model P w) A (setSearch a (.ref x) (k.hash w) true) Q E s := by
  have z := R.free
  obtain ⟨K, K1, K2, K3⟩ := R.tab.first (by rw [List.length_map]; omega) (k.hash w)
  have small : 10 * SetTable.turns t.mask ≤ 5500 := by
    unfold SetTable.turns
    have := R.tab.mok.bd
    omega
  unfold setSearch
  refine look_from R hx hu K1 K2 K3 yes (fun n => no K n K2 K3) 100000 0 none rfl (Nat.zero_le _) (by omega) fun i p hp e => ?_
  have hi : (L.map fun p => p.2.hash w)[i]? = some (k.hash w) := by
    rw [List.getElem?_map, hp, ← e]
    rfl
  have il : i < t.place.toList.length := by
    have z1 := (List.getElem?_eq_some_iff.mp hp).1
    have z2 := R.tab.sz
    rw [List.length_map] at z2
    rw [Array.length_toList]
    omega
  obtain ⟨j, hj⟩ : ∃ j, t.place.toList[i]? = some j := ⟨_, List.getElem?_eq_getElem il⟩
  obtain ⟨d, d1, d2⟩ := R.tab.before K2 hi hj
  exact ⟨d, Nat.zero_le _, d1, by rw [hj, d2]⟩
end
end Se
namespace Se
open PySem PySem.Spec PyProof.Rows L2
open Sd hiding Ts look_from look relay add1 ts_new fill call_setN sorted_setN SetN setN_ok rSetN cr_setN rSortN cr_sortN
/-! ### the table laid anew; one key more -/
section
variable {P : Program} {w : World} {A : Around} {E : Value → Shared → Prop} {s : Shared} {a : Addr} {L : List (Addr × NK)} {es : Array (Int × Value)} {ep : Nat} {t : SetTable}
theorem relay {o : Obj} (ho : s.heap.get? a = some o) (hex : o.ExactSet) (hd : o.data = .set es ep t) (row : es.toList = L.map (rowN w)) (hsz : t.place.size = es.size) (hdm : t.dummies = #[]) (hfl : es.size ≤ t.mask) (one : (L.map (·.2)).Nodup) (mem : ∀ p ∈ L, Is8 s.heap p.2 p.1)
    (led : w.params.followText "set-order" = true ∨ t.led = true) (few : L.length < 300) {want M : Nat} (hw : SetTable.sizeAbove want - 1 = M) (hM : Tb.Mk M) (h128 : SetTable.sizeAbove want ≤ 512) (hn : L.length * 5 < M * 3) {Q : Unit → Shared → Prop}
    (q : ∀ h' L' es' ep' t', Heap.SameBut a s.heap h' → Ts w h' a L' es' ep' t' → L'.Perm L → Q () { s with heap := h' }) : wpAny (model P w) A (setRelay a want) Q E s := by
  have num : es.size = L.length := by
    have z := congrArg List.length row
    rwa [Array.length_toList, List.length_map] at z
  have fit : t.fits es.size = true := by
    unfold SetTable.fits SetTable.fill
    rw [hdm, Bool.and_eq_true, beq_iff_eq, decide_eq_true_eq]
    exact ⟨hsz, by show t.place.size + 0 ≤ t.mask; omega⟩
  obtain ⟨t', order, er, pm, T, em, el⟩ := Tb.relaid_tb t (hs := es.map (·.1)) (want := want) hw hM (by rw [Array.size_map, num]; omega)
  rw [Array.size_map, num] at pm
  obtain ⟨M', r1, r2, r3⟩ := ordered row pm
  have num2 : (order.filterMap (es[·]?)).size = es.size := by
    have z := congrArg List.length r1
    rw [Array.length_toList, List.length_map, r2.length_eq] at z
    rw [z, num]
  rw [← r3] at T
  rw [setRelay_eq]
  refine wpAny_bind (wpAny_setState_of ho hd fit ?_)
  dsimp only
  refine wp_if_neg (by rw [sizeLine_eq]; omega) ?_
  try refine wpAny_bind (wpAny_pure ?_)
  rw [er]
  dsimp only
  refine wpAny_bind (wp_if_neg (by rw [num2]; simp) ?_)
  try refine wpAny_bind (wpAny_pure ?_)
  refine wpAny_pure ?_
  dsimp only
  refine wpAny_storeSet_of ho hd ?_ (by rw [num2, num, sizeLine_eq]; omega)
  have sb : Heap.SameBut a s.heap (s.heap.update a (Obj.putSet (order.filterMap (es[·]?)) t')) := Heap.SameBut.update ..
  refine q _ M' _ (ep + 1) t' sb ⟨⟨_, store_at ho hd, ⟨hex.1, hex.2.1, hex.2.2⟩, rfl⟩, r1, T, (r2.map (·.2)).nodup_iff.mpr one, fun p hp => is8_but (mem p (r2.mem_iff.mp hp)) ho hd sb, by rw [el]; exact led, by rw [r2.length_eq, em]; exact hn, by rw [r2.length_eq]; exact few⟩ r2
theorem add1 (R : Ts w s.heap a L es ep t) {x : Addr} {k : NK} (hx : Is8 s.heap k x) (hu : A.units + 8 < cLine) (few : L.length + 1 < 300) {Q : Bool → Shared → Prop}
    (q : ∀ b h' L' es' ep' t', Heap.SameBut a s.heap h' → Ts w h' a L' es' ep' t' → (k ∈ L.map (·.2) → L' = L) → (k ∉ L.map (·.2) → L'.Perm ((x, k) :: L)) → Q b { s with heap := h' }) : wpAny (model P w) A (setAddHashed a (.ref x) (k.hash w)) Q E s := by
  obtain ⟨o, ho, hex, hd⟩ := R.obj
  have num := R.num
  have free := R.free
  unfold setAddHashed
  rw [show (100000 : Nat) = 99999 + 1 from rfl, setAddHashedIn_succ]
  refine wpAny_holding (wpAny_bind (wpAny_setState_of ho hd R.fit ?_))
  dsimp only
  refine wp_if_neg (by simp [byScan, Value.scannable]) ?_
  try refine wpAny_bind (wpAny_pure ?_)
  refine wpAny_bind (look R hx hu (fun hm => ?_) fun K hm K2 K3 => ?_)
  · dsimp only
    exact wpAny_pure (q false s.heap L es ep t (Heap.SameBut.refl a s.heap) R (fun _ => rfl) fun n => absurd hm n)
  dsimp only
  refine wpAny_bind (wpAny_setState_of ho hd R.fit ?_)
  dsimp only
  obtain ⟨p1, p3, p4, p5, p9⟩ := R.tab.put K2 K3
  generalize epp : t.put (way t.mask (k.hash w) K) = pp at p1 p3 p4 p5 p9 ⊢
  obtain ⟨t1, j⟩ := pp
  dsimp only at p1 p3 p4 p5 p9 ⊢
  subst p1
  -- what follows does not depend on `plain`
  have rest : ∀ t2 : SetTable, Tb.Tb t2 ((L.map fun p => p.2.hash w).take (SetTable.below t.place (way t.mask (k.hash w) K)) ++ k.hash w :: (L.map fun p => p.2.hash w).drop (SetTable.below t.place (way t.mask (k.hash w) K))) → t2.mask = t.mask → t2.led = t.led → t2.fill = (L.map fun p => p.2.hash w).length + 1 →
      wpAny (model P w) A (do
        storeSet a (SetTable.insertAt es (SetTable.below t.place (way t.mask (k.hash w) K)) (k.hash w, Value.ref x)) t2
        if !false && t2.tooFull then setRelay a (SetTable.grown (es.size + 1))
        return true : Sem Bool) Q E s := by
    intro t2 T2 m2 l2 f2
    have ins : (SetTable.insertAt es (SetTable.below t.place (way t.mask (k.hash w) K)) (k.hash w, Value.ref x)).toList = (L.take (SetTable.below t.place (way t.mask (k.hash w) K)) ++ (x, k) :: L.drop (SetTable.below t.place (way t.mask (k.hash w) K))).map (rowN w) := by
      rw [SetTable.toList_insertAt, R.row, List.map_append, List.map_cons, List.map_take, List.map_drop]
    have hh : (L.take (SetTable.below t.place (way t.mask (k.hash w) K)) ++ (x, k) :: L.drop (SetTable.below t.place (way t.mask (k.hash w) K))).map (fun p => p.2.hash w) = (L.map fun p => p.2.hash w).take (SetTable.below t.place (way t.mask (k.hash w) K)) ++ k.hash w :: (L.map fun p => p.2.hash w).drop (SetTable.below t.place (way t.mask (k.hash w) K)) := by
      rw [List.map_append, List.map_cons, List.map_take, List.map_drop]
    rw [← hh] at T2
    have pm := put_perm L (SetTable.below t.place (way t.mask (k.hash w) K)) (x, k)
    generalize L.take (SetTable.below t.place (way t.mask (k.hash w) K)) ++ (x, k) :: L.drop (SetTable.below t.place (way t.mask (k.hash w) K)) = L1 at ins T2 pm
    have len1 : L1.length = L.length + 1 := pm.length_eq
    have num1 : (SetTable.insertAt es (SetTable.below t.place (way t.mask (k.hash w) K)) (k.hash w, Value.ref x)).size = L.length + 1 := by
      have z := congrArg List.length ins
      rwa [Array.length_toList, List.length_map, len1] at z
    generalize SetTable.insertAt es (SetTable.below t.place (way t.mask (k.hash w) K)) (k.hash w, Value.ref x) = es1 at ins num1 ⊢
    have one1 : (L1.map (·.2)).Nodup := (pm.map (·.2)).nodup_iff.mpr (by
      rw [List.map_cons]
      exact List.nodup_cons.mpr ⟨hm, R.one⟩)
    refine wpAny_bind (wpAny_storeSet_of ho hd ?_ (by rw [num1, sizeLine_eq]; omega))
    have sb : Heap.SameBut a s.heap (s.heap.update a (Obj.putSet es1 t2)) := Heap.SameBut.update ..
    have ho1 := store_at (es' := es1) (t' := t2) ho hd
    generalize s.heap.update a (Obj.putSet es1 t2) = h1 at sb ho1 ⊢
    have mem1 : ∀ p ∈ L1, Is8 h1 p.2 p.1 := fun p hp => by
      rcases List.mem_cons.mp (pm.mem_iff.mp hp) with e | hp
      · rw [e]
        exact is8_but hx ho hd sb
      · exact is8_but (R.mem p hp) ho hd sb
    have led1 : w.params.followText "set-order" = true ∨ t2.led = true := by
      rw [l2]
      exact R.led
    have full : t2.tooFull = true ↔ (L.length + 1) * 5 ≥ t2.mask * 3 := by
      unfold SetTable.tooFull
      rw [decide_eq_true_eq, f2, List.length_map]
    by_cases hf : t2.tooFull = true
    · have z := full.mp hf
      have two : (t.mask = 7 ∧ L.length = 4) ∨ (t.mask = 31 ∧ L.length = 18) ∨ (t.mask = 127 ∧ L.length = 76) := by
        rcases R.tab.mok with e | e | e | e <;> rw [m2, e] at z <;> rw [e] at free <;> omega
      have sz1 : t2.place.size = es1.size := by
        have z := T2.sz
        rw [List.length_map, len1] at z
        rw [z, num1]
      rw [num]
      have go : ∀ M, SetTable.sizeAbove (SetTable.grown (L.length + 1)) - 1 = M → Tb.Mk M → SetTable.sizeAbove (SetTable.grown (L.length + 1)) ≤ 512 → (L.length + 1) * 5 < M * 3 →
          wpAny (model P w) A (setRelay a (SetTable.grown (L.length + 1))) (fun _ s' => wpAny (model P w) A (pure true) Q E s') E { s with heap := h1 } := fun M g1 g2 g3 g4 =>
        relay (s := { s with heap := h1 }) ho1 ⟨hex.1, hex.2.1, hex.2.2⟩ rfl ins sz1 T2.dm (by rw [num1, m2]; rcases two with ⟨e, e2⟩ | ⟨e, e2⟩ | ⟨e, e2⟩ <;> omega) one1 mem1 led1 (by rw [len1]; exact few) g1 g2 g3 (by rw [len1]; exact g4) fun h2 L2 es2 ep2 t3 sb2 R2 pm2 =>
          wpAny_pure (q true h2 L2 es2 ep2 t3 (sb.trans sb2) R2 (fun y => absurd y hm) fun _ => pm2.trans pm)
      have goal : wpAny (model P w) A (setRelay a (SetTable.grown (L.length + 1))) (fun _ s' => wpAny (model P w) A (pure true) Q E s') E { s with heap := h1 } := by
        rcases two with ⟨_, e⟩ | ⟨_, e⟩ | ⟨_, e⟩
        · exact go 31 (by rw [e, size_20]) (.inr (.inl rfl)) (by rw [e, size_20]; decide) (by omega)
        · exact go 127 (by rw [e, size_76]) (.inr (.inr (.inl rfl))) (by rw [e, size_76]; decide) (by omega)
        · exact go 511 (by rw [e, Tb.size_308]) (.inr (.inr (.inr rfl))) (by rw [e, Tb.size_308]; decide) (by omega)
      first
        | exact wp_if_pos (by simp [hf]) (wpAny_bind goal)
        | exact wpAny_bind (wp_if_pos (by simp [hf]) goal)
    · have fin := q true h1 L1 es1 (ep + 1) t2 sb ⟨⟨_, ho1, ⟨hex.1, hex.2.1, hex.2.2⟩, rfl⟩, ins, T2, one1, mem1, led1, by rw [len1]; have := mt full.mpr hf; omega, by rw [len1]; exact few⟩ (fun y => absurd y hm) fun _ => pm
      first
        | exact wp_if_neg (by simp [hf]) (wpAny_pure fin)
        | exact wpAny_bind (wp_if_neg (by simp [hf]) (wpAny_pure (wpAny_pure fin)))
  have hb : HbvAt P w 8 s (.ref x) := hbv_key k _ 8 hx.1 hx.2
  have off : Tb.Tb { t1 with plain := false } ((L.map fun p => p.2.hash w).take (SetTable.below t.place (way t.mask (k.hash w) K)) ++ k.hash w :: (L.map fun p => p.2.hash w).drop (SetTable.below t.place (way t.mask (k.hash w) K))) := ⟨p3.ris, p3.dm, p3.sz, p3.mok, p3.reach⟩
  have both : ∀ b : Bool, wpAny (model P w) A (do
        storeSet a (SetTable.insertAt es (SetTable.below t.place (way t.mask (k.hash w) K)) (k.hash w, Value.ref x)) (if b then t1 else { t1 with plain := false })
        if !false && (if b then t1 else { t1 with plain := false }).tooFull then setRelay a (SetTable.grown (es.size + 1))
        return true : Sem Bool) Q E s := fun b => by
    cases b with
    | true => exact rest t1 p3 p4 p5 p9
    | false => exact rest { t1 with plain := false } off p4 p5 p9
  by_cases pl : t1.plain = true
  · first
      | exact wpAny_bind (wp_if_pos pl (hb _ _ _ both))
      | exact wp_if_pos pl (wpAny_bind (hb _ _ _ both))
  · first
      | exact wpAny_bind (wp_if_neg pl (wpAny_pure (both true)))
      | exact wp_if_neg pl (wpAny_bind (wpAny_pure (both true)))
      | exact wp_if_neg pl (both true)
end
end Se
namespace Se
open PySem PySem.Spec PyProof.Rows L2
open Sd hiding Ts look_from look relay add1 ts_new fill call_setN sorted_setN SetN setN_ok rSetN cr_setN rSortN cr_sortN
section
variable {P : Program} {w : World} {A : Around} {E : Value → Shared → Prop} {s : Shared}
theorem Ts.keep {h h' : PySem.Heap} {a : Addr} {L : List (Addr × NK)} {es : Array (Int × Value)} {ep : Nat} {t : SetTable} (R : Se.Ts w h a L es ep t) (ka : ∀ o, h.get? a = some o → h'.get? a = some o) (km : ∀ p ∈ L, Is8 h' p.2 p.1) : Se.Ts w h' a L es ep t := by
  obtain ⟨o, ho, r⟩ := R.obj
  exact ⟨⟨o, ka o ho, r⟩, R.row, R.tab, R.one, km, R.led, R.free, R.few⟩
theorem ts_new {h : PySem.Heap} {a : Addr} (ho : h.get? a = some (Sx.emptyObj w)) : Se.Ts w h a [] #[] 0 (.fresh 0 0 (!w.params.followText "set-order")) where
  obj := ⟨_, ho, ⟨rfl, rfl, rfl⟩, rfl⟩
  row := rfl
  tab := ⟨List.Pairwise.nil, rfl, rfl, .inl rfl, fun i h j hi => by simp at hi⟩
  one := List.nodup_nil
  mem := fun p hp => nomatch hp
  led := by
    show _ ∨ (!w.params.followText "set-order") = true
    cases w.params.followText "set-order"
    · exact .inr rfl
    · exact .inl rfl
  free := by
    show 0 * 5 < 7 * 3
    decide
  few := by
    show 0 < 300
    decide
theorem fill {I : Addr} {fp wr : List Addr} {G : Array GenState → Array GenState → Prop} {n : Nat} {Pv : Nat → Value → Prop} {St : Nat → Shared → Prop} {R : Result → Shared → Prop} (W : WalksS P w A.in1 I fp wr G n Pv St) (S : Addr) (nS : S ∉ fp) (ks : List (Addr × NK)) (hn : n = ks.length) (few : ks.length < 300)
    (val : ∀ i v, Pv i v → ∃ p, ks[i]? = some p ∧ v = .ref p.1) (h0 : PySem.Heap) (hk : ∀ p ∈ ks, Is8 h0 p.2 p.1) (hS : h0.get? S = none) (hw : ∀ b ∈ wr, h0.get? b = none) (hu : A.in1.units + 8 < cLine) :
    ∀ (r i : Nat) (s : Shared), n - i = r → i ≤ n → St i s → (∀ b o, h0.get? b = some o → s.heap.get? b = some o) → (∃ L es ep t, Se.Ts w s.heap S L es ep t ∧ Some1 ks i L) →
      (∀ s' L es ep t, Moved (S :: wr) G s s' → Se.Ts w s'.heap S L es ep t → Some1 ks n L → (∀ b o, h0.get? b = some o → s'.heap.get? b = some o) → R (.ok (.ret .none)) s') →
      codeAny (model P w) A (.builtin "set.update.loop" ⟨[.ref S, .ref I], []⟩) R s := by
  have nW : S ∉ wr := fun z => nS (W.sub _ z)
  have up : ∀ b ∈ wr, b ∈ S :: wr := fun b hb => List.mem_cons_of_mem _ hb
  have old : ∀ {s s' : Shared}, Moved wr G s s' → (∀ b o, h0.get? b = some o → s.heap.get? b = some o) → ∀ b o, h0.get? b = some o → s'.heap.get? b = some o := fun mv kp b o e => mv.heap b o (fun hb => by rw [hw b hb] at e; cases e) (kp b o e)
  intro r
  induction r with
  | zero =>
    intro i s er hi hst kp ⟨L, es, ep, t, hT, g⟩ fin
    have ei : i = n := by omega
    subst ei
    refine codeAny_builtin F.entry_set_update_loop ?_
    rw [Around.under_plainId F.plain_set_update_loop _]
    show wpAny _ A.in1 (pyNext (.ref I) >>= _) _ _ s
    refine wpAny_bind (W.done s _ _ hst fun s' mv => ?_)
    have kp' := old mv kp
    show wpAny _ A.in1 (ret Value.none) _ _ s'
    exact wpAny_pure (fin s' L es ep t (mv.mono up) (hT.keep (fun o e => mv.heap S o nW e) fun p hp => is8_keep (hk p (List.mem_of_mem_take (g.sub p hp))) kp') g kp')
  | succ r ih =>
    intro i s er hi hst kp ⟨L, es, ep, t, hT, g⟩ fin
    have lt : i < n := by omega
    refine codeAny_builtin F.entry_set_update_loop ?_
    rw [Around.under_plainId F.plain_set_update_loop _]
    show wpAny _ A.in1 (pyNext (.ref I) >>= _) _ _ s
    refine wpAny_bind (W.item i s _ _ lt hst fun v s' hv hst' mv => ?_)
    obtain ⟨p, hp, rfl⟩ := val i v hv
    have kp' := old mv kp
    have hT' : Se.Ts w s'.heap S L es ep t := hT.keep (fun o e => mv.heap S o nW e) fun p hp => is8_keep (hk p (List.mem_of_mem_take (g.sub p hp))) kp'
    have hx : Is8 s'.heap p.2 p.1 := is8_keep (hk p (List.mem_of_getElem? hp)) kp'
    show wpAny _ A.in1 (holding [Value.ref p.1] (setAdd S (.ref p.1)) >>= _) _ _ s'
    unfold setAdd
    refine wpAny_bind (wpAny_holding (wpAny_holding (wpAny_bind ((nestedKind P w).pyHash (show A.in1.units + 8 < cLine from hu) (show (nestedKind P w).is s'.heap p.2 p.1 from hx) ?_))))
    refine Se.add1 (s := { s' with toks := s'.toks + p.2.draws }) hT' hx hu (by have := g.len; omega) fun b h' L' es' ep' t' sb hT2 c1 c2 => ?_
    have g' := some_next g hp c1 c2
    have kp2 : ∀ b o, h0.get? b = some o → h'.get? b = some o := fun b o e => (sb.2 b (fun z => by rw [z, hS] at e; cases e)).trans (kp' b o e)
    refine wpAny_pure ⟨plainId_quiet F.plain_set_update_loop _, ih (i + 1) _ (by omega) lt (W.frame _ s' _ _ hst' (Nat.le_add_right _ _) fun b hb o e => ?_) kp2 ⟨L', es', ep', t', hT2, g'⟩ fun s2 L2 es2 ep2 t2 mv2 hT3 g2 kp3 => ?_⟩
    · rw [sb.2 b (fun z : b = S => nS (by rw [← z]; exact hb))]
      exact e
    · refine fin s2 L2 es2 ep2 t2 (Moved.trans W.gtrans ((mv.mono up).then_heap (Nat.le_add_right _ _) fun b o hb e => ?_) mv2) hT3 g2 kp3
      rw [sb.2 b (fun z : b = S => hb (by rw [z]; exact List.mem_cons_self ..))]
      exact e
end
end Se
namespace Se
open PySem PySem.Spec PyProof.Rows L2
open Sd hiding Ts look_from look relay add1 ts_new fill call_setN sorted_setN SetN setN_ok rSetN cr_setN rSortN cr_sortN
section
variable {P : Program} {w : World} {A : Around} {E : Value → Shared → Prop} {s : Shared}
set_option maxRecDepth 100000 in
set_option maxHeartbeats 4000000 in
/-- set(xs), xs a list or a tuple of keys -/
theorem call_setN {l : Addr} {items : Array Value} (ks : List (Addr × NK)) {Q : Value → Shared → Prop} (hh : A.handled = none) (hl : s.heap.IsList l items ∨ s.heap.IsTuple l items) (hit : items.toList = ks.map fun p => Value.ref p.1) (hk : ∀ p ∈ ks, Is8 s.heap p.2 p.1) (few : ks.length < 300) (hu : A.units + 12 < cLine)
    (h : ∀ (h' : PySem.Heap) (tk : Nat) L es ep t, Ts w h' s.heap.objs.size L es ep t → Some1 ks ks.length L → (∀ b o, s.heap.get? b = some o → h'.get? b = some o) → Q (.ref s.heap.objs.size) { s with heap := h', toks := tk }) :
    wpAny (model P w) A (call (.type "set") [.ref l]) Q E s := by
  have hisz : items.size = ks.length := by
    have z := congrArg List.length hit
    rwa [Array.length_toList, List.length_map] at z
  have hval : ∀ (i : Nat) (v : Value), items[i]? = some v → ∃ p, ks[i]? = some p ∧ v = .ref p.1 := fun i v hv => by
    rw [← Array.getElem?_toList, hit, List.getElem?_map] at hv
    cases e : ks[i]? with
    | none =>
      rw [e] at hv
      cases hv
    | some p =>
      rw [e] at hv
      exact ⟨p, rfl, (Option.some.inj hv).symm⟩
  obtain ⟨c, tl, hmro⟩ := PySem.F.called_set.mro
  have hmade := PySem.F.called_set.made
  have hsub := PySem.F.called_set.sub
  refine wpAny_call (codeAny_of_tree ?_)
  show wpAny _ _ (callAny (.type "set") _) _ _ _
  refine wpAny_pure ⟨Code.quiet_builtin _ (by decide +kernel), codeAny_builtin PySem.F.entry_type_call ?_⟩
  rw [Around.under_plain (weight_type_call_type "set" [.ref l] []) rfl]
  have h1 := PySem.F.called_set.notType
  have h2 := PySem.F.called_set.canCreate
  have hct := PySem.F.typeCall_set_1 (.ref l)
  repeat (any_goals (first | assumption | wp_step))
  refine codeAny_mono (code_set_led1 (.ref l) (E := E) (Q₁ := fun obj s₁ => obj = .ref s.heap.objs.size ∧ s₁ = { s with heap := s.heap.push (Sx.emptyObj w) }) ⟨rfl, rfl⟩) fun r s₁ hr => ?_
  cases r with
  | error e => exact hr
  | ok fl =>
    cases fl with
    | ret obj =>
      obtain ⟨rfl, rfl⟩ := hr
      have hS : (s.heap.push (Sx.emptyObj w)).get? s.heap.objs.size = some (Sx.emptyObj w) := Heap.get?_push_size _ rfl
      have hT : Shared.TypeIs { s with heap := s.heap.push (Sx.emptyObj w) } (.ref s.heap.objs.size) "set" := ⟨_, hS, rfl⟩
      have hli := PySem.F.called_set.init.lookup
      have hbi := PySem.F.called_set.init.bind (.ref s.heap.objs.size)
      repeat (any_goals (first | assumption | wp_step))
      refine codeAny_mono (codeAny_call_builtin (R := wants (fun r s₂ => r = .none ∧ ∃ h' tk L es ep t, s₂ = { s with heap := h', toks := tk } ∧ Ts w h' s.heap.objs.size L es ep t ∧ Some1 ks ks.length L ∧
          (∀ b o, s.heap.get? b = some o → h'.get? b = some o)) E) PySem.F.called_set.init.plain PySem.F.entry_set_init (check_set_init_1 hT ?_)) fun r₂ s₂ hr₂ => ?_
      · have hh3 : A.in1.in1.in1.handled = none := by simp [hh]
        have hz1 : (s.heap.push (Sx.emptyObj w)).objs.size = s.heap.objs.size + 1 := Heap.size_push ..
        rcases hl with hl | hl
        · obtain ⟨ol, hol, hcl, nl, hdl⟩ := hl
          obtain ⟨ocls, odict, odata, oslots⟩ := ol
          simp only at hcl hdl
          subst hcl; subst hdl
          have hol' : (s.heap.push (Sx.emptyObj w)).get? l = some { cls := .type "list", dict := odict, data := .seq items nl, slots := oslots } := Heap.get?_push_of_some _ hol
          have hsls := PySem.F.sub_list_set
          have hslf := PySem.F.sub_list_frozenset
          have hne : (Value.type "list" == Value.type "dict") = false := by decide
          have hl1 : (s.heap.push (Sx.emptyObj w)).IsList l items := ⟨_, hol', rfl, nl, rfl⟩
          unfold Builtin.«set.__init__» noKeywords Builtin.Frozenset.updateFrom
          generalize hPI : pyIter = PI
          wp_walk
          subst hPI
          refine wpAny_pyIter_list hl1 ?_
          refine wpAny_bind (wpAny_runValue ?_)
          have hlS : l < s.heap.objs.size := Heap.lt_size hol
          have hneI : l ≠ (s.heap.push (Sx.emptyObj w)).objs.size := by
            rw [hz1]
            exact Nat.ne_of_lt (Nat.lt_succ_of_lt hlS)
          have hSf : s.heap.objs.size ∉ [(s.heap.push (Sx.emptyObj w)).objs.size, l] := by
            simp only [List.mem_cons, List.mem_singleton, List.not_mem_nil, or_false, not_or]
            rw [hz1]
            exact ⟨Nat.ne_of_lt (Nat.lt_succ_self _), Nat.ne_of_gt hlS⟩
          have hget : ((s.heap.push (Sx.emptyObj w)).push { cls := .type "list_iterator", data := .fields #[.ref l, .int 0 0] }).get? s.heap.objs.size = some (Sx.emptyObj w) := Heap.get?_push_of_some _ hS
          refine fill ((Walks.list hh3 _ l hneI items).toS) s.heap.objs.size hSf ks hisz few hval s.heap hk (Heap.get?_none_of_le (Nat.le_refl _)) (fun b hb => ?hw1) (by simp only [Around.in1_units]; omega) (items.size - 0) 0 _ (by omega) (Nat.zero_le _)
            ⟨⟨_, Heap.get?_push_size _ rfl, rfl, rfl⟩, (hl1.push _)⟩ (fun b o e => Heap.get?_push_of_some _ (Heap.get?_push_of_some _ e)) ⟨[], _, _, _, ts_new hget, some_zero ks⟩ ?hR1
          case hw1 =>
            rw [List.mem_singleton.mp hb, hz1]
            exact Heap.get?_none_of_le (Nat.le_succ _)
          case hR1 =>
            intro s' L es ep t hm hS' hmm hkk
            obtain ⟨h', g', d', tk', os'⟩ := s'
            have eg : g' = s.gens := hm.gens
            have ed : d' = s.drawn := hm.drawn
            have eo : os' = s.os := hm.os
            subst eg; subst ed; subst eo
            show wpAny _ _ _ _ _ _
            refine wpAny_pure ?_
            show wpAny _ _ (ret Value.none) _ _ _
            exact wpAny_pure ⟨rfl, h', tk', L, es, ep, t, rfl, hS', hisz ▸ hmm, hkk⟩
        · obtain ⟨ol, hol, hcl, nl, hdl⟩ := hl
          obtain ⟨ocls, odict, odata, oslots⟩ := ol
          simp only at hcl hdl
          subst hcl; subst hdl
          have hol' : (s.heap.push (Sx.emptyObj w)).get? l = some { cls := .type "tuple", dict := odict, data := .seq items nl, slots := oslots } := Heap.get?_push_of_some _ hol
          have hsls := PySem.F.sub_tuple_set
          have hslf := PySem.F.sub_tuple_frozenset
          have hne : (Value.type "tuple" == Value.type "dict") = false := by decide
          have hl1 : (s.heap.push (Sx.emptyObj w)).IsTuple l items := ⟨_, hol', rfl, nl, rfl⟩
          unfold Builtin.«set.__init__» noKeywords Builtin.Frozenset.updateFrom
          generalize hPI : pyIter = PI
          wp_walk
          subst hPI
          refine wpAny_pyIter_tuple hl1 ?_
          refine wpAny_bind (wpAny_runValue ?_)
          have hlS : l < s.heap.objs.size := Heap.lt_size hol
          have hneI : l ≠ (s.heap.push (Sx.emptyObj w)).objs.size := by
            rw [hz1]
            exact Nat.ne_of_lt (Nat.lt_succ_of_lt hlS)
          have hSf : s.heap.objs.size ∉ [(s.heap.push (Sx.emptyObj w)).objs.size, l] := by
            simp only [List.mem_cons, List.mem_singleton, List.not_mem_nil, or_false, not_or]
            rw [hz1]
            exact ⟨Nat.ne_of_lt (Nat.lt_succ_self _), Nat.ne_of_gt hlS⟩
          have hget : ((s.heap.push (Sx.emptyObj w)).push { cls := .type "tuple_iterator", data := .fields #[.ref l, .int 0 0] }).get? s.heap.objs.size = some (Sx.emptyObj w) := Heap.get?_push_of_some _ hS
          refine fill ((Walks.tuple hh3 _ l hneI items).toS) s.heap.objs.size hSf ks hisz few hval s.heap hk (Heap.get?_none_of_le (Nat.le_refl _)) (fun b hb => ?hw2) (by simp only [Around.in1_units]; omega) (items.size - 0) 0 _ (by omega) (Nat.zero_le _)
            ⟨⟨_, Heap.get?_push_size _ rfl, rfl, rfl⟩, (hl1.push _)⟩ (fun b o e => Heap.get?_push_of_some _ (Heap.get?_push_of_some _ e)) ⟨[], _, _, _, ts_new hget, some_zero ks⟩ ?hR2
          case hw2 =>
            rw [List.mem_singleton.mp hb, hz1]
            exact Heap.get?_none_of_le (Nat.le_succ _)
          case hR2 =>
            intro s' L es ep t hm hS' hmm hkk
            obtain ⟨h', g', d', tk', os'⟩ := s'
            have eg : g' = s.gens := hm.gens
            have ed : d' = s.drawn := hm.drawn
            have eo : os' = s.os := hm.os
            subst eg; subst ed; subst eo
            show wpAny _ _ _ _ _ _
            refine wpAny_pure ?_
            show wpAny _ _ (ret Value.none) _ _ _
            exact wpAny_pure ⟨rfl, h', tk', L, es, ep, t, rfl, hS', hisz ▸ hmm, hkk⟩
      · cases r₂ with
        | error e => exact hr₂
        | ok fl₂ =>
          cases fl₂ with
          | ret r =>
            obtain ⟨rfl, h', tk, L, es, ep, t, rfl, hS', hmm, hk'⟩ := hr₂
            repeat (any_goals (first | assumption | wp_step))
            exact h _ _ _ _ _ _ hS' hmm hk'
          | _ => exact hr₂.elim
    | _ => exact hr.elim
end
end Se
namespace Se
open PySem PySem.Spec PyProof.Rows L2 Bx TL Dx PySem.W PySem.Calls
open Sd hiding Ts look_from look relay add1 ts_new fill call_setN sorted_setN SetN setN_ok rSetN cr_setN rSortN cr_sortN
section
variable {P : Program} {w : World} {A : Around} {E : Value → Shared → Prop} {s : Shared} {a : Addr} {L : List (Addr × NK)} {es : Array (Int × Value)} {ep : Nat} {t : SetTable}
theorem sorted_setN {Rl : Value → PyData → Prop} {ds : List PyData} {Q : Value → Shared → Prop} (T : Ts w s.heap a L es ep t) (hh : A.handled = none) (hu : A.units + 65 < cLine)
    (e : EachIs Rl (L.map fun p => Value.ref p.1) ds) (er : EachIs (fun u d => ∃ as, PySem.Reads s.heap u d as) (L.map fun p => Value.ref p.1) ds) (hal : AllAlike ds) (hk : ∀ d ∈ ds, K8 d)
    (hQ : ∀ s' p (out : List Value) (c : Nat) (fs : List PyData), (∀ b o, s.heap.get? b = some o → s'.heap.get? b = some o) → s'.gens = s.gens → s'.os = s.os → s.heap.objs.size ≤ p →
      s'.heap.get? p = some (seqObj "list" out.toArray c) → fs.Perm ds → EachIs Rl out (fs.mergeSort (dataLe false id)) → Q (.ref p) s') :
    wpAny (model P w) A (call (.builtin "sorted") [.ref a]) Q E s := by
  obtain ⟨o, ho, hex, hd⟩ := T.obj
  have hn := T.num
  have hfew := T.few
  have hsb : scanBound = 4096 := rfl
  have hva : es.toList.map (·.2) = L.map fun p => Value.ref p.1 := by
    rw [T.row, List.map_map]
    rfl
  refine Calls.call_function_entry kind_sorted plain_sorted entry_sorted (args_sorted1 _) ?_
  unfold Builtin.«sorted»
  refine wpAny_bind (m := checkCount "sorted" 1 1 _) (wpAny_pure ?_)
  refine wpAny_bind (collect_set (A := A.in1) hh ⟨_, ho, hex.1, hd⟩ T.fit (by rw [hn]; omega) T.tab.ris T.led fun s1 vs k1 hz g1 o1 pm => ?_)
  rw [hva] at pm
  have both : EachIs (fun u d => Rl u d ∧ ∃ as, PySem.Reads s.heap u d as) (L.map fun p => Value.ref p.1) ds := by
    clear hQ hal hk hva
    revert e er
    generalize (L.map fun p => Value.ref p.1) = us
    intro e er
    clear pm
    induction e with
    | nil => exact .nil
    | cons h t ih =>
      cases er with
      | cons r1 r2 => exact .cons ⟨h, r1⟩ (ih r2)
  obtain ⟨fs, pf, ef⟩ := perm_each pm both
  have hfl : fs.length = L.length := by rw [pf.length_eq, ← e.length, List.length_map]
  have hvl : vs.length = L.length := by rw [pm.length_eq, List.length_map]
  have hline : vs.length ≤ sizeLine := by
    rw [hvl, sizeLine_eq]
    omega
  refine wpAny_bind (wpAny_newList ?_ hline)
  have hoL : (s1.heap.push (seqObj "list" vs.toArray 0)).get? s1.heap.objs.size = some (seqObj "list" vs.toArray 0) := Heap.get?_push_size _ rfl
  have mfs : ∀ d ∈ fs, d ∈ ds := fun d hd => pf.mem_iff.mp hd
  have kp : ∀ b u, s.heap.get? b = some u → (s1.heap.push (seqObj "list" vs.toArray 0)).get? b = some u := fun b u q => Heap.get?_push_of_some _ (k1 b u q)
  refine wpAny_bind (wpAny_holding (list_sort_tups (R := Rl) (enc := id) (bs := fs) hoL (ef.mono fun _ _ z => z.1) ?reads (by rw [List.map_id]; exact fun d hd d' hd' => hal d (mfs d hd) d' (mfs d' hd')) (fun d hd => (hk d (mfs d hd)).1) (by rw [hfl, sizeLine_eq]; omega) (fun d hd => ?room) fun out hout eo => ?done))
  case reads =>
    refine (each_mem ef).mono fun u d z => ?_
    obtain ⟨as, r⟩ := z.1.2
    have z0 := (is_nk d u as (hk d (mfs d z.2)).2.1 r).2
    exact ⟨as, PyProof.Rows.Reads.keeps kp r, by rw [z0]; exact List.not_mem_nil⟩
  case room =>
    have z := (hk d (mfs d hd)).2.2.2
    show A.in1.units + 1 + d.depth < cLine
    simp only [Around.in1_units]
    omega
  case done =>
    obtain ⟨c, hc⟩ := sortedHeap_at (vs := vs) (out := out.toArray) hoL
    refine wpAny_pure ⟨_, rfl, hQ _ s1.heap.objs.size out c fs (fun b u q0 => ?_) g1 o1 hz hc pf eo⟩
    have q := k1 b u q0
    have hlt := Heap.lt_size q
    show (sortedHeap (s1.heap.push (seqObj "list" vs.toArray 0)) s1.heap.objs.size vs _).get? b = some u
    rw [sortedHeap_old (Nat.ne_of_lt hlt) (by rw [size_push']; exact Nat.lt_succ_of_lt hlt)]
    exact Heap.get?_push_of_some _ q
end
/-! ### over the layer -/
def SetN (w : World) (a : Addr) (L : List (Addr × NK)) : HO := .ext fun h => ∃ h0 es ep t, Ts w h0 a L es ep t ∧ ∀ o, h0.get? a = some o → h.get? a = some o
section
variable {X : Cx} {pins : List (Addr × Obj)} {σ : L2.St} {H : Hp} {s : Shared}
theorem setN_ok {P : Program} {w : World} {h : PySem.Heap} {a : Addr} {L : List (Addr × NK)} {es : Array (Int × Value)} {ep : Nat} {t : SetTable} (R : Ts w h a L es ep t) : ObjOk P w H h a (SetN w a L) := by
  obtain ⟨o, ho, _⟩ := R.obj
  exact ⟨⟨h, es, ep, t, R, fun _ z => z⟩, ⟨_, ho⟩, fun h1 h2 ⟨h0, es, ep, t, p, k⟩ k2 => ⟨h0, es, ep, t, p, fun o z => k2 o (k o z)⟩⟩
def rSetN (K : PySem.W.Frag) (w : World) : List V → Hp → VK → Prop := fun vs H Q => ∃ (a : Addr) (xs : List V) (ds : List PyData), vs = [V.ref a] ∧ (SqL K H a xs ∨ SqT K H a xs) ∧ DpAll K H xs ds ∧ (∀ d ∈ ds, K8 d) ∧ ds.length < 300 ∧
  ∀ p L es, H p = none → DpAll K H (L.map fun q => V.ref q.1) es → L.map (·.2) = es.map nk → es.Nodup → (∀ d, d ∈ es ↔ d ∈ ds) → es.length ≤ ds.length → Q (.ref p) (upd H p (SetN w p L))
theorem cr_setN {w : World} (hc : X.calm = true) (hw : X.w = w) (hu : X.A.units + 65 < cLine) : CallR X (.type "set") (rSetN X.K w) := by
  subst hw
  intro pins s σ H vs us Q I r h
  obtain ⟨a, xs, ds, rfl, hs, hd, hk, hlen, q⟩ := h
  rw [Vals.ref1 r]
  have hn : H s.heap.objs.size = none := I.hok.fresh (Nat.le_refl _)
  obtain ⟨its, rv, pl⟩ : ∃ its : List Value, Vals xs its ∧ (s.heap.IsList a its.toArray ∨ s.heap.IsTuple a its.toArray) := by
    rcases hs with hs | hs
    · obtain ⟨its, rv, pl, _⟩ := I.list hs
      exact ⟨its, rv, .inl pl.isList⟩
    · obtain ⟨its, rv, pl, _⟩ := I.tuple hs
      exact ⟨its, rv, .inr pl⟩
  obtain ⟨ks, e1, e2, e3, e4⟩ := keys_of I hd rv hk
  have hkl : ks.length = ds.length := by
    have z := congrArg List.length e2
    rwa [List.length_map, List.length_map] at z
  refine call_setN (P := X.prog) (w := X.w) ks (I.ok.hd hc) pl (by simpa using e1) e3 (by omega) (by omega) fun h' tk L es ep t T sm k => ?_
  obtain ⟨fs, f1, f2, f3⟩ := pick L fun p hp => e4 p (List.mem_of_mem_take (sm.sub p hp))
  have inj : ∀ d ∈ ds, ∀ d' ∈ ds, nk d = nk d' → d = d' := fun d hd d' hd' e => nk_inj d d' (hk d hd).2.1 (hk d' hd').2.1 e
  refine ⟨.ref s.heap.objs.size, upd H s.heap.objs.size (SetN X.w s.heap.objs.size L), I.laid (t' := tk) k (Nat.le_refl _) (setN_ok T), rfl, q _ L fs hn f1 f2 ?_ (fun d => ⟨f3 d, fun hd => ?_⟩) ?_⟩
  · have z := T.one
    rw [f2] at z
    exact nodup_of nk z
  · have z : nk d ∈ ks.map (·.2) := by
      rw [e2]
      exact List.mem_map.mpr ⟨d, hd, rfl⟩
    obtain ⟨p, hp, ep⟩ := List.mem_map.mp z
    have z2 := sm.all p (by rw [List.take_length]; exact hp)
    rw [f2, ep] at z2
    obtain ⟨d', hd', e'⟩ := List.mem_map.mp z2
    rw [← inj d' (f3 d' hd') d hd e']
    exact hd'
  · have z := sm.len
    have z2 := congrArg List.length f2
    rw [List.length_map, List.length_map] at z2
    omega
def rSortN (K : PySem.W.Frag) (w : World) : List V → Hp → VK → Prop := fun vs H Q => ∃ (a : Addr) (L : List (Addr × NK)) (ds : List PyData), vs = [V.ref a] ∧ H a = some (SetN w a L) ∧ DpAll K H (L.map fun q => V.ref q.1) ds ∧ L.map (·.2) = ds.map nk ∧ AllAlike ds ∧ (∀ d ∈ ds, K8 d) ∧ ds.length < 300 ∧
  ∀ (ys : List V) (fs : List PyData) (p : Addr), H p = none → fs.Perm ds → DpAll K H ys (fs.mergeSort So.dle) → Q (.ref p) (upd H p (.lst ys))
theorem cr_sortN {w : World} (hc : X.calm = true) (hw : X.w = w) (hu : X.A.units + 65 < cLine) : CallR X (.builtin "sorted") (rSortN X.K w) := by
  subst hw
  intro pins s σ H vs us Q I r h
  obtain ⟨a, L, ds, rfl, ha, hd, hn2, hal, hk, hlen, q⟩ := h
  obtain ⟨h0, es, ep, t, T0, k0⟩ := (I.hok a _ ha).1
  rw [Vals.ref1 r]
  have rl := refs_vals L
  have ea := So.each_of I hd rl
  have T : Ts X.w s.heap a L es ep t := T0.keep k0 fun p hp => by
    obtain ⟨ks, e1, e2, e3, e4⟩ := keys_of I hd rl hk
    have es1 : ks.map (·.1) = L.map (·.1) := by
      have z := congrArg (List.map fun v => match v with | Value.ref b => b | _ => 0) e1
      rw [List.map_map, List.map_map] at z
      exact z.symm
    have el : ks = L := pairs_same es1 (by rw [e2, hn2])
    rw [← el] at hp
    exact e3 p hp
  refine sorted_setN (P := X.prog) T (I.ok.hd hc) hu (ea.mono fun _ _ z => z.1) (ea.mono fun _ _ z => z.2) hal hk fun s' p out c fs k g o hp hg pf eo => ?_
  obtain ⟨ys, ry, dy⟩ := So.each_back eo
  have hl2 : ys.length ≤ sizeLine := by
    have z := eo.length
    rw [List.length_mergeSort, pf.length_eq] at z
    rw [ry.length, z, sizeLine_eq]
    omega
  have hn : H p = none := I.hok.fresh hp
  have J : Inv X pins σ (upd H p (.lst ys)) { s with heap := s'.heap, gens := s'.gens, drawn := s'.drawn, toks := s'.toks } :=
    I.call (ch := []) (Un.laid k hp hn) (I.hok.laid k hp ⟨hl2, out, c, ry, hg⟩) (by rw [g]; exact I.bare) (fun _ z => nomatch z)
  have e : s' = { s with heap := s'.heap, gens := s'.gens, drawn := s'.drawn, toks := s'.toks } := by
    cases s'
    cases s
    cases o
    rfl
  rw [e]
  exact ⟨.ref p, _, J, rfl, q ys fs p hn pf dy⟩
end
end Se
/-! t.index(x), t a tuple without a dict of its own; within a block, too. -/
namespace TiX
open PySem PySem.Spec PyProof.Rows L2 Bx TL Dx Zx Ow
def tTix (to : TE) (t : TA) : TE := fun σ H Q => to σ H fun x H1 => ∃ (p : Addr) (ys : List Str), x = .ref p ∧ PlT H1 p (ys.map V.str) ∧ t σ H1 fun vs H2 => ∃ (z : Str) (j : Nat), vs = [.str z] ∧ PlT H2 p (ys.map V.str) ∧ ys[j]? = some z ∧ (∀ m, m < j → ys[m]? ≠ some z) ∧ Q (.int (j : Nat)) H2
variable {X : Cx} {o e : Expr} {es : List Expr} {to : TE} {t : TA} {apos cpos : Pos}
theorem pe_tix (ho : PE X o to) (ha : PA X (e :: es) t)
    (hbase : attributeBase o "index" X.env (eval o X.env) = eval o X.env := by rfl)
    (hfew : ((backTo cpos (starEach (e :: es) X.env)).all (fun x => !x.1) && (backToKw cpos (keywordEach [] X.env)).all (fun x => x.1.isSome)
      && decide ((e :: es).length + ([] : List Keyword).length + (if ([] : List Keyword).isEmpty then 0 else 1) < 30)) = true := by rfl)
    (hline : (apos.endLine == cpos.line) = true := by rfl) (hs : starEach (e :: es) X.env = (false, eval e X.env) :: starEach es X.env := by rfl) (hplain : (backTo cpos (starEach es X.env)).any (·.1) = false := by rfl) :
    PE X (.Call (.Attribute o "index" apos) (e :: es) [] cpos) (tTix to t) := by
  refine ⟨fun pins s σ H Q I h => ?_⟩
  refine wpAny_Call_method_late hbase hfew hline rfl (thn (ho.run pins s σ H _ I h) fun v s1 ⟨x, H1, I1, r1, p, ys, ex, pl, q1⟩ => ?_)
  subst ex
  cases r1
  obtain ⟨ob, hp, hd⟩ := pl
  obtain ⟨hg, hz, its, rv, o2, ho2, hc, n, hdat⟩ : ObjOk X.prog X.w H1 s1.heap p (.frz ob (.tup (ys.map V.str))) := I1.hok p _ hp
  rw [hg] at ho2
  obtain rfl := Option.some.inj ho2
  refine ⟨"tuple", "tuple.index", PySem.F.plainAttrs_tuple, PySem.F.slot_tuple_index, PySem.F.type_tuple_index, ⟨ob, hg, hc⟩, fun a ea => ?_, ?_⟩
  · cases ea
    exact ⟨ob, hg, hd⟩
  have hA := ha.run cpos pins s1 σ H1 _ I1 q1
  rw [hs] at hA ⊢
  refine Calls.callWith_builtin (by show (false || (backTo cpos (starEach es X.env)).any (·.1)) = false; rw [hplain] <;> rfl) (Calls.evalArgs_plain ?_)
  exact thn hA fun us s2 ⟨vs, H2, I2, r2, z, j, ev, pl2, hy, hno, q2⟩ => mt_tup_index pins s2 σ H2 (.ref p) vs _ us Q I2 rfl r2 ⟨p, ys, z, j, rfl, ev, pl2.sq, hy, hno, q2⟩
end TiX
namespace K19
local macro_rules | `(tactic| walk_at "rd") => `(tactic| repeat (first | refine ⟨rfl, ?_⟩ | refine ⟨_, rfl, ?_⟩ | refine ⟨_, _, rfl, rfl, ?_⟩ | refine ⟨⟨_, rfl⟩, ?_⟩))
open PySem PySem.Spec PyProof.Rows L2 Bx TL Dx Zx Ow Sup NdefX Px
def topS (i : Nat) : Stmt := PySem.Challenge.pw_shadowlinks_k19_tables_joined.main.body.getD i (.Pass ⟨0, 0, 0, 0⟩)
abbrev s_merge_names : Stmt := topS 1
abbrev n_merge_names : List Str := ["lists", "names", "name"]
theorem sc_merge_names : FnScope n_merge_names ["lists"] (defScope s_merge_names) := ⟨rfl, rfl, rfl, by decide +kernel, rfl, by decide +kernel, by decide +kernel⟩
abbrev s_join_tables : Stmt := topS 3
abbrev n_join_tables : List Str := ["first", "second", "merged", "shared", "groups", "row", "both", "places", "pairs", "names", "table", "others", "rows", "name", "other", "pair", "place"]
theorem sc_join_tables : FnScope n_join_tables ["first", "second"] (defScope s_join_tables) := ⟨rfl, rfl, rfl, by decide +kernel, rfl, by decide +kernel, by decide +kernel⟩
abbrev s_drop_column : Stmt := topS 4
abbrev n_drop_column : List Str := ["constraint", "name", "at", "rows", "names", "table", "row"]
theorem sc_drop_column : FnScope n_drop_column ["constraint", "name"] (defScope s_drop_column) := ⟨rfl, rfl, rfl, by decide +kernel, rfl, by decide +kernel, by decide +kernel⟩
abbrev s_can_hold : Stmt := topS 5
abbrev n_can_hold : List Str := ["constraint", "decided"]
theorem sc_can_hold : FnScope n_can_hold ["constraint", "decided"] (defScope s_can_hold) := ⟨rfl, rfl, rfl, by decide +kernel, rfl, by decide +kernel, by decide +kernel⟩
abbrev s_agreeing : Stmt := topS 6
abbrev n_agreeing : List Str := ["constraint", "decided", "wanted", "names", "table", "name", "row", "at", "value"]
theorem sc_agreeing : FnScope n_agreeing ["constraint", "decided"] (defScope s_agreeing) := ⟨rfl, rfl, rfl, by decide +kernel, rfl, by decide +kernel, by decide +kernel⟩
abbrev s__values_of : Stmt := topS 7
abbrev n__values_of : List Str := ["names", "row", "wanted", "name"]
theorem sc__values_of : FnScope n__values_of ["names", "row", "wanted"] (defScope s__values_of) := ⟨rfl, rfl, rfl, by decide +kernel, rfl, by decide +kernel, by decide +kernel⟩
abbrev s__law_source : Stmt := topS 9
abbrev n__law_source : List Str := ["_law_script", "_law_k", "_law_number"]
theorem sc__law_source : FnScope n__law_source ["_law_script", "_law_k"] (defScope s__law_source) := ⟨rfl, rfl, rfl, by decide +kernel, rfl, by decide +kernel, by decide +kernel⟩
abbrev s__law_draw : Stmt := topS 10
abbrev n__law_draw : List Str := ["_law_source_here", "_law_limit", "_law_number", "_law_mixed"]
theorem sc__law_draw : FnScope n__law_draw ["_law_source_here", "_law_limit"] (defScope s__law_draw) := ⟨rfl, rfl, rfl, by decide +kernel, rfl, by decide +kernel, by decide +kernel⟩
abbrev s__law_some : Stmt := topS 11
abbrev n__law_some : List Str := ["_law_source_here", "_law_names", "_law_most", "_law_found", "_law_name"]
theorem sc__law_some : FnScope n__law_some ["_law_source_here", "_law_names", "_law_most"] (defScope s__law_some) := ⟨rfl, rfl, rfl, by decide +kernel, rfl, by decide +kernel, by decide +kernel⟩
abbrev s__law_rows : Stmt := topS 12
abbrev n__law_rows : List Str := ["_law_count", "_law_rows_here", "_law_k", "_law_longer", "_law_row", "_law_value"]
theorem sc__law_rows : FnScope n__law_rows ["_law_count"] (defScope s__law_rows) := ⟨rfl, rfl, rfl, by decide +kernel, rfl, by decide +kernel, by decide +kernel⟩
abbrev s__law_table : Stmt := topS 13
abbrev n__law_table : List Str := ["_law_source_here", "_law_names", "_law_share", "_law_rows_here", "_law_row"]
theorem sc__law_table : FnScope n__law_table ["_law_source_here"] (defScope s__law_table) := ⟨rfl, rfl, rfl, by decide +kernel, rfl, by decide +kernel, by decide +kernel⟩
abbrev s__law_picked : Stmt := topS 14
abbrev n__law_picked : List Str := ["_law_names", "_law_row", "_law_wanted", "_law_name"]
theorem sc__law_picked : FnScope n__law_picked ["_law_names", "_law_row", "_law_wanted"] (defScope s__law_picked) := ⟨rfl, rfl, rfl, by decide +kernel, rfl, by decide +kernel, by decide +kernel⟩
abbrev s__law_joined : Stmt := topS 15
abbrev n__law_joined : List Str := ["_law_first", "_law_second", "_law_names", "_law_rows_here", "_law_row", "_law_name"]
theorem sc__law_joined : FnScope n__law_joined ["_law_first", "_law_second"] (defScope s__law_joined) := ⟨rfl, rfl, rfl, by decide +kernel, rfl, by decide +kernel, by decide +kernel⟩
abbrev s__law_dropped : Stmt := topS 16
abbrev n__law_dropped : List Str := ["_law_table_here", "_law_name", "_law_names", "_law_rest", "_law_rows_here", "_law_row", "_law_shorter", "_law_other"]
theorem sc__law_dropped : FnScope n__law_dropped ["_law_table_here", "_law_name"] (defScope s__law_dropped) := ⟨rfl, rfl, rfl, by decide +kernel, rfl, by decide +kernel, by decide +kernel⟩
abbrev s__law_same : Stmt := topS 17
abbrev n__law_same : List Str := ["_law_actual", "_law_expected", "_law_row", "_law_value"]
theorem sc__law_same : FnScope n__law_same ["_law_actual", "_law_expected"] (defScope s__law_same) := ⟨rfl, rfl, rfl, by decide +kernel, rfl, by decide +kernel, by decide +kernel⟩
abbrev s__law_can_hold_right : Stmt := topS 18
abbrev n__law_can_hold_right : List Str := ["_law_source_here", "_law_table_here", "_law_decided", "_law_name", "_law_before", "_law_expected", "_law_row", "_law_actual", "_law_wrong", "_law_k"]
theorem sc__law_can_hold_right : FnScope n__law_can_hold_right ["_law_source_here", "_law_table_here"] (defScope s__law_can_hold_right) := ⟨rfl, rfl, rfl, by decide +kernel, rfl, by decide +kernel, by decide +kernel⟩
abbrev s_law : Stmt := topS 19
abbrev n_law : List Str := ["_law_script", "_law_first", "_law_second", "_law_expected", "_law_table_here", "_law_source_here", "_law_k", "_law_name"]
theorem sc_law : FnScope n_law ["_law_script"] (defScope s_law) := ⟨rfl, rfl, rfl, by decide +kernel, rfl, by decide +kernel, by decide +kernel⟩
theorem mt_indexK {X : Cx} {K : PySem.W.Frag} (h : X.K = K) : MtR X "list.index" (rIndex K) := h ▸ mt_index
theorem sl_tupAK {X : Cx} {K : PySem.W.Frag} (h : X.K = K) : SlR X (rSlA K) := h ▸ sl_tupA
theorem pa_starK {X : Cx} {K0 : PySem.W.Frag} {e : Expr} {es : List Expr} {p : Pos} {te : TE} {t : TA} (hk : X.K = K0) (he : PE X e te) (hr : PA X es t) (hs : starEach (.Starred e p :: es) X.env = (true, eval e X.env) :: starEach es X.env := by rfl) : PA X (.Starred e p :: es) (StX.tStar K0 te t) := by
  subst hk
  exact StX.pa_star he hr hs
section
variable {X : Cx} {K0 : PySem.W.Frag} {r : V → List V → Hp → VK → Prop} {T id : String} {name : Str} {o e : Expr} {es : List Expr} {apos cpos : Pos} {to : TE} {t : TA}
theorem pe_bmK (hk : X.K = K0) (pa : PlainAttrs T) (slot : Slot T name id) (hty : typeOf (.builtin id) = pure (.type "method_descriptor")) (hm : MtR X id r) (ho : PE X o to) (ha : PA X (e :: es) t)
    (hb : attributeBase o name X.env (eval o X.env) = eval o X.env := by rfl)
    (hf : ((backTo cpos (starEach (e :: es) X.env)).all (fun x => !x.1) && (backToKw cpos (keywordEach [] X.env)).all (fun x => x.1.isSome) && decide ((e :: es).length + ([] : List Keyword).length + (if ([] : List Keyword).isEmpty then 0 else 1) < 30)) = true := by rfl)
    (hl : (apos.endLine == cpos.line) = true := by rfl) (hs : starEach (e :: es) X.env = (false, eval e X.env) :: starEach es X.env := by rfl) (hp : (backTo cpos (starEach es X.env)).any (·.1) = false := by rfl) : PE X (.Call (.Attribute o name apos) (e :: es) [] cpos) (tBM K0 T r to t) := by
  subst hk
  exact pe_bm pa slot hty hm ho ha hb hf hl hs hp
theorem pi_listK {tg l : Expr} {tl : TE} (hk : X.K = K0) (hl : PE X l tl) : PI X tg l (iList K0 tl) := by
  subst hk
  exact pi_list hl
end
/-! ### tables -/
abbrev Row := List Int
abbrev Tab := List Str × List Row
def rowD (r : Row) : PyData := .tuple (r.map PyData.int)
def tabD (t : Tab) : PyData := .tuple [.tuple (t.1.map PyData.str), .tuple (t.2.map rowD)]
mutual
def tupD : PyData → Bool
  | .str _ => true
  | .int _ => true
  | .tuple ds => tupAll ds
  | _ => false
def tupAll : List PyData → Bool
  | [] => true
  | d :: ds => tupD d && tupAll ds
end
def Tk (K : PySem.W.Frag) (H H' : Hp) : Prop := ∀ a xs, SqT K H a xs → SqT K H' a xs
theorem tk_same {K : PySem.W.Frag} {H H' : Hp} (s : Same H H') : Tk K H H' := fun _ _ h => Bx.Same.tup s h
theorem Tk.trans {K : PySem.W.Frag} {H H1 H2 : Hp} (a : Tk K H H1) (b : Tk K H1 H2) : Tk K H H2 := fun _ _ h => b _ _ (a _ _ h)
theorem tk_lst {K : PySem.W.Frag} {H : Hp} {p : Addr} {ys : List V} {o : HO} (hp : H p = some (.lst ys)) : Tk K H (upd H p o) := fun a xs h => by
  rcases h with (h | ⟨u, h⟩) | h
  · exact .inl (.inl (by rw [upd_ne fun z => by rw [z, hp] at h; cases h]; exact h))
  · exact .inl (.inr ⟨u, by rw [upd_ne fun z => by rw [z, hp] at h; cases h]; exact h⟩)
  · exact .inr h
mutual
theorem dp_tk {K : PySem.W.Frag} {H H' : Hp} (tk : Tk K H H') : ∀ (d : PyData) (v : V), tupD d = true → Dp K H v d → Dp K H' v d
  | .str _, _, _, h => by
    cases h
    exact .str _
  | .int _, _, _, h => by
    cases h
    exact .int _
  | .tuple ds, _, e, h => by
    cases h with
    | tup hs ha => exact .tup (tk _ _ hs) (da_tk tk ds _ e ha)
  | .none, _, e, _ => by cases e
  | .bool _, _, e, _ => by cases e
  | .list _, _, e, _ => by cases e
  | .dict _, _, e, _ => by cases e
theorem da_tk {K : PySem.W.Frag} {H H' : Hp} (tk : Tk K H H') : ∀ (ds : List PyData) (vs : List V), tupAll ds = true → DpAll K H vs ds → DpAll K H' vs ds
  | [], _, _, h => by
    cases h
    exact .nil
  | d :: ds, _, e, h => by
    have e2 : (tupD d && tupAll ds) = true := e
    rw [Bool.and_eq_true] at e2
    cases h with
    | cons h1 h2 => exact .cons (dp_tk tk d _ e2.1 h1) (da_tk tk ds _ e2.2 h2)
end
theorem tup_row : ∀ r : List Int, tupAll (r.map PyData.int) = true
  | [] => rfl
  | _ :: r => by
    show (true && tupAll (r.map PyData.int)) = true
    rw [tup_row r]
    rfl
theorem tup_strs : ∀ r : List Str, tupAll (r.map PyData.str) = true
  | [] => rfl
  | _ :: r => by
    show (true && tupAll (r.map PyData.str)) = true
    rw [tup_strs r]
    rfl
theorem da_atM {K : PySem.W.Frag} {H : Hp} {α : Type} {f : α → PyData} : ∀ {xs : List V} {ls : List α}, DpAll K H xs (ls.map f) → ∀ {i : Nat} {v : V}, xs[i]? = some v → ∃ l, ls[i]? = some l ∧ Dp K H v (f l)
  | _, [], h, i, v, e => by
    cases h
    cases e
  | _, c :: cs, h, i, v, e => by
    cases h with
    | cons h1 h2 =>
      cases i with
      | zero =>
        cases e
        exact ⟨c, rfl, h1⟩
      | succ i => exact da_atM h2 e
theorem cut_suf (xs : List V) (k : Nat) : cutV xs (some (k : Int)) none = xs.drop k := by
  unfold cutV
  rw [HT.sIx_nat, HT.sIx_none]
  by_cases h : k ≤ xs.length
  · rw [Nat.min_eq_left h]
    exact List.take_of_length_le (by rw [List.length_drop]; exact Nat.le_refl _)
  · rw [Nat.min_eq_right (by omega), List.drop_of_length_le (show xs.length ≤ k by omega), List.drop_length]
    exact List.take_nil

theorem row_dp {K : PySem.W.Frag} {H : Hp} {v : V} {r : Row} (h : Dp K H v (rowD r)) : ∃ q, v = .ref q ∧ SqT K H q (r.map V.int) := by
  obtain ⟨q, xs, rfl, hq, ha⟩ := dp_tup h
  rw [da_ints ha] at hq
  exact ⟨q, rfl, hq⟩
theorem dp_row {K : PySem.W.Frag} {H : Hp} {q : Addr} {r : Row} (h : SqT K H q (r.map V.int)) : Dp K H (.ref q) (rowD r) := .tup h (dp_ints r)
theorem tup_rows : ∀ L : List Row, tupAll (L.map rowD) = true
  | [] => rfl
  | r :: L => by
    show (tupAll (r.map PyData.int) && tupAll (L.map rowD)) = true
    rw [tup_row, tup_rows L]
    rfl
/-- the table t stands at p -/
def TabAt (K : PySem.W.Frag) (H : Hp) (p : Addr) (t : Tab) : Prop := ∃ a b us, SqT K H p [.ref a, .ref b] ∧ PlT H a (t.1.map V.str) ∧ SqT K H b us ∧ DpAll K H us (t.2.map rowD)
/-- tuples stay -/
def Kp (K : PySem.W.Frag) (H H' : Hp) : Prop := Tk K H H' ∧ ∀ a xs, PlT H a xs → PlT H' a xs
theorem kp_same {K : PySem.W.Frag} {H H' : Hp} (s : Same H H') : Kp K H H' := ⟨tk_same s, fun _ _ => PlT.same s⟩
theorem Kp.trans {K : PySem.W.Frag} {H H1 H2 : Hp} (x : Kp K H H1) (y : Kp K H1 H2) : Kp K H H2 := ⟨x.1.trans y.1, fun a xs h => y.2 a xs (x.2 a xs h)⟩
theorem kp_lst {K : PySem.W.Frag} {H : Hp} {p : Addr} {ys : List V} {o : HO} (hp : H p = some (.lst ys)) : Kp K H (upd H p o) := ⟨tk_lst hp, fun a xs ⟨ob, h, e⟩ => ⟨ob, by rw [upd_ne fun z => by rw [z, hp] at h; cases h]; exact h, e⟩⟩
theorem kp_but {K : PySem.W.Frag} {H H' : Hp} {s : Addr} {ys : List V} (hs : H s = some (.lst ys)) (b : SameBut s H H') : Kp K H H' := by
  refine ⟨fun a xs h => ?_, fun a xs ⟨ob, h, e⟩ => ⟨ob, b _ _ (fun z => by rw [z, hs] at h; cases h) h, e⟩⟩
  rcases h with (h | ⟨u, h⟩) | h
  · exact .inl (.inl (b _ _ (fun z => by rw [z, hs] at h; cases h) h))
  · exact .inl (.inr ⟨u, b _ _ (fun z => by rw [z, hs] at h; cases h) h⟩)
  · exact .inr h
theorem TabAt.kp {K : PySem.W.Frag} {H H' : Hp} {p : Addr} {t : Tab} (k : Kp K H H') (h : TabAt K H p t) : TabAt K H' p t := by
  obtain ⟨a, b, us, h1, h2, h3, h4⟩ := h
  exact ⟨a, b, us, k.1 _ _ h1, k.2 _ _ h2, k.1 _ _ h3, da_tk k.1 _ _ (tup_rows _) h4⟩
theorem TabAt.dp {K : PySem.W.Frag} {H : Hp} {p : Addr} {t : Tab} (h : TabAt K H p t) : Dp K H (.ref p) (tabD t) := by
  obtain ⟨a, b, us, h1, h2, h3, h4⟩ := h
  exact .tup h1 (.cons (names_dp h2.sq) (.cons (.tup h3 h4) .nil))
/-! ### values by names -/
def val (ns : List Str) (r : Row) (z : Str) : Int := r.getD (ns.idxOf z) 0
def pk (ns : List Str) (r : Row) (ws : List Str) : Row := ws.map (val ns r)
theorem idx_at {ns : List Str} {z : Str} (h : z ∈ ns) : ns[ns.idxOf z]? = some z ∧ ∀ m, m < ns.idxOf z → ns[m]? ≠ some z := by
  have lt := List.idxOf_lt_length_of_mem h
  refine ⟨by rw [List.getElem?_eq_getElem lt, List.getElem_idxOf lt], fun m hm e => ?_⟩
  obtain ⟨lm, em⟩ := List.getElem?_eq_some_iff.mp e
  have := List.not_of_lt_findIdx (xs := ns) (p := (· == z)) (i := m) hm
  simp [em] at this
theorem val_at {ns : List Str} {r : Row} {z : Str} (h : z ∈ ns) (hl : r.length = ns.length) : atI (r.map V.int) ((ns.idxOf z : Nat) : Int) = some (.int (val ns r z)) := by
  have lt : ns.idxOf z < r.length := by
    rw [hl]
    exact List.idxOf_lt_length_of_mem h
  exact atI_nat (by rw [List.getElem?_map, List.getElem?_eq_getElem lt]; unfold val; rw [List.getD_eq_getElem?_getD, List.getElem?_eq_getElem lt]; rfl)
section
variable {P : Program} {w : World} {K : PySem.W.Frag} {mg : Str → Option Value} {base : Heap}
@[irreducible] def spVal (K : PySem.W.Frag) : Sp := fun vs H Q _ => ∃ (a b c : Addr) (ns : List Str) (r : Row) (ws : List Str), vs = [.ref a, .ref b, .ref c] ∧ PlT H a (ns.map V.str) ∧ SqT K H b (r.map V.int) ∧ SqL K H c (ws.map V.str) ∧ (∀ z ∈ ws, z ∈ ns) ∧ r.length = ns.length ∧ ws.length ≤ 100 ∧
  ∀ p H', Same H H' → H p = none → H' p = some (.tup ((pk ns r ws).map V.int)) → Q (.ref p) H'
theorem ok_values_of {f : Addr} {fd : FuncData} (F : Fun K "_values_of" "_values_of" s__values_of f fd) (m_tuple : mg "tuple" = none) : FnOk P w K mg base CX0 1 f fd ["names", "row", "wanted"] (spVal K) := by
  refine F.ok sc__values_of (fun vs H Q E h => ?_) (fun cdv A outer s H vs Q E hr h => ?_)
  · unfold spVal at h
    obtain ⟨a, b, c, ns, r, ws, rfl, _⟩ := h
    rfl
  · unfold spVal at h
    obtain ⟨a, b, c, ns, r, ws, rfl, ha, hb, hc, sub, rl, wl, q⟩ := h
    refine ⟨_, (pss_one (ps_ret (pe_callTy (T := "tuple") call_tuple_of (by rfl) m_tuple (by decide +kernel) (pa_cons (pe_lc (own := [("name", 3)]) (tt := tYes) rfl sc__values_of.nd (pi_list (pv 2)) (blkOk_by (N := n__values_of) (sc := defScope s__values_of) (by decide +kernel)) (fun _ _ _ _ _ => pg_name (i := 3) sc__values_of.nd rfl (Or.inl rfl)) (fun _ _ _ _ _ => pts_nil) (fun _ _ _ _ _ => (pe_ix (ix_tupK (K := K) rfl) (pv 1) (TiX.pe_tix (pv 0) (pa_cons (pv 3) pa_nil)) (fun _ _ => rfl)))) pa_nil)))), ?_⟩
    walk_at "rd"
    refine ⟨⟨_, hc⟩, fun D hD => ?_⟩
    refine lc_it walk_list (fun i H' => H' = upd H D (.lst ((pk ns r (ws.take i)).map V.int))) rfl (fun i H' _ e => e ▸ (same_new hD).seq hc) ?_ ?_
    · rintro i v H2 H3 hi rfl ⟨rfl, hx⟩
      obtain ⟨z, hz, rfl⟩ := at_map hx
      have zn := sub z (List.mem_of_getElem? hz)
      have s2 := same_new hD (o := .lst ((pk ns r (ws.take i)).map V.int))
      refine ⟨rfl, ?_⟩
      walk_at "rd"
      obtain ⟨i1, i2⟩ := idx_at zn
      refine ⟨_, ns, rfl, PlT.same s2 ha, ?_⟩
      walk_at "rd"
      refine ⟨z, ns.idxOf z, rfl, PlT.same s2 ha, i1, i2, ?_⟩
      refine ⟨_, _, _, _, rfl, rfl, Bx.Same.tup s2 hb, val_at zn rl, ?_⟩
      refine ⟨_, upd_same, ?_, ?_⟩
      · unfold pk
        rw [List.length_map, List.length_map]
        exact szl (Nat.lt_of_le_of_lt (List.length_take_le' i _) (by omega))
      · rw [upd_upd, List.take_add_one, hz]
        unfold pk
        rw [List.map_append, List.map_append]
        rfl
    rintro H2 rfl
    rw [List.length_map, List.take_length]
    have s1 := same_new hD (o := .lst ((pk ns r ws).map V.int))
    have hW := upd_same (H := H) (a := D) (o := .lst ((pk ns r ws).map V.int))
    generalize upd H D (.lst ((pk ns r ws).map V.int)) = H1 at s1 hW ⊢
    exact ⟨D, _, rfl, .inl ⟨sq hW, fun p np => q p _ (s1.trans (same_new np)) (s1.free np) upd_same⟩⟩
@[irreducible] def spPick (K : PySem.W.Frag) : Sp := fun vs H Q _ => ∃ (a b c : Addr) (ns : List Str) (r : Row) (ws : List Str), vs = [.ref a, .ref b, .ref c] ∧ SqL K H a (ns.map V.str) ∧ SqT K H b (r.map V.int) ∧ (SqL K H c (ws.map V.str) ∨ SqT K H c (ws.map V.str)) ∧ (∀ z ∈ ws, z ∈ ns) ∧ r.length = ns.length ∧ ws.length ≤ 100 ∧
  ∀ p H', Same H H' → H p = none → H' p = some (.tup ((pk ns r ws).map V.int)) → Q (.ref p) H'
theorem ok_picked {f : Addr} {fd : FuncData} (F : Fun K "_law_picked" "_law_picked" s__law_picked f fd) (m_tuple : mg "tuple" = none) : FnOk P w K mg base CX0 1 f fd ["_law_names", "_law_row", "_law_wanted"] (spPick K) := by
  refine F.ok sc__law_picked (fun vs H Q E h => ?_) (fun cdv A outer s H vs Q E hr h => ?_)
  · unfold spPick at h
    obtain ⟨a, b, c, ns, r, ws, rfl, _⟩ := h
    rfl
  · unfold spPick at h
    obtain ⟨a, b, c, ns, r, ws, rfl, ha, hb, hc, sub, rl, wl, q⟩ := h
    refine ⟨_, (pss_one (ps_ret (pe_callTy (T := "tuple") call_tuple_of (by rfl) m_tuple (by decide +kernel) (pa_cons (pe_lc (own := [("_law_name", 3)]) (tt := tYes) rfl sc__law_picked.nd (pi_seq (pv 2)) (blkOk_by (N := n__law_picked) (sc := defScope s__law_picked) (by decide +kernel)) (fun _ _ _ _ _ => pg_name (i := 3) sc__law_picked.nd rfl (Or.inl rfl)) (fun _ _ _ _ _ => pts_nil) (fun _ _ _ _ _ => (pe_ix (ix_tupK (K := K) rfl) (pv 1) (pe_bmK (K0 := K) rfl PySem.F.plainAttrs_list PySem.F.slot_list_index PySem.F.type_list_index (mt_indexK (K := K) rfl) (pv 0) (pa_cons (pv 3) pa_nil)) (fun _ _ => rfl)))) pa_nil)))), ?_⟩
    walk_at "rd"
    refine seq_case hc fun J G wk hG D hD => ?_
    refine lc_it wk (fun i H' => H' = upd H D (.lst ((pk ns r (ws.take i)).map V.int))) rfl (fun i H' _ e => e ▸ hG _ (same_new hD)) ?_ ?_
    · rintro i v H2 H3 hi rfl ⟨rfl, hx⟩
      obtain ⟨z, hz, rfl⟩ := at_map hx
      have zn := sub z (List.mem_of_getElem? hz)
      have s2 := same_new hD (o := .lst ((pk ns r (ws.take i)).map V.int))
      refine ⟨rfl, ?_⟩
      walk_at "rd"
      obtain ⟨i1, i2⟩ := idx_at zn
      refine ⟨.inl ⟨rfl, _, s2.seq ha⟩, ?_⟩
      walk_at "rd"
      refine ⟨_, ns.map V.str, _, ns.idxOf z, .str z, rfl, rfl, s2.seq ha, rfl, flat_all ns, by rw [List.getElem?_map, i1]; rfl, (by show (z == z) = true; simp), fun m z' hm e => ?_, ?_⟩
      · obtain ⟨y, hy, rfl⟩ := at_map e
        have ne : y ≠ z := fun e2 => i2 m hm (by rw [hy, e2])
        show (y == z) = false
        simpa using ne
      refine ⟨_, _, _, _, rfl, rfl, Bx.Same.tup s2 hb, val_at zn rl, ?_⟩
      refine ⟨_, upd_same, ?_, ?_⟩
      · unfold pk
        rw [List.length_map, List.length_map]
        exact szl (Nat.lt_of_le_of_lt (List.length_take_le' i _) (by omega))
      · rw [upd_upd, List.take_add_one, hz]
        unfold pk
        rw [List.map_append, List.map_append]
        rfl
    rintro H2 rfl
    rw [List.length_map, List.take_length]
    have s1 := same_new hD (o := .lst ((pk ns r ws).map V.int))
    have hW := upd_same (H := H) (a := D) (o := .lst ((pk ns r ws).map V.int))
    generalize upd H D (.lst ((pk ns r ws).map V.int)) = H1 at s1 hW ⊢
    exact ⟨D, _, rfl, .inl ⟨sq hW, fun p np => q p _ (s1.trans (same_new np)) (s1.free np) upd_same⟩⟩
end
section
variable {P : Program} {w : World} {K : PySem.W.Frag} {mg : Str → Option Value} {base : Heap}
/-! ### merge_names -/
def spMerge0 (K : PySem.W.Frag) : Sp := fun vs H Q _ => ∃ (p : Addr) (L : List (Addr × List Str)), vs = [.ref p] ∧ SqT K H p (L.map fun q => V.ref q.1) ∧ (∀ q ∈ L, SqL K H q.1 (q.2.map V.str) ∨ SqT K H q.1 (q.2.map V.str)) ∧ (L.map fun q => q.2).flatten.length ≤ 3000 ∧
  ∀ r H' ys, Same H H' → H r = none → PlT H' r (ys.map V.str) → sortedS ys = true → ys.Nodup → (∀ x, x ∈ ys ↔ x ∈ (L.map fun q => q.2).flatten) → Q (.ref r) H'
def spMerge (K : PySem.W.Frag) : Sp := fun vs H Q _ => ∃ (L : List (Addr × List Str)), vs = L.map (fun q => V.ref q.1) ∧ (∀ q ∈ L, SqL K H q.1 (q.2.map V.str) ∨ SqT K H q.1 (q.2.map V.str)) ∧ L.length ≤ 1000 ∧ (L.map fun q => q.2).flatten.length ≤ 3000 ∧
  ∀ r H' ys, Same H H' → H r = none → PlT H' r (ys.map V.str) → sortedS ys = true → ys.Nodup → (∀ x, x ∈ ys ↔ x ∈ (L.map fun q => q.2).flatten) → Q (.ref r) H'
theorem ok_merge_names {f : Addr} {fd : FuncData} (F : Fun K "merge_names" "merge_names" s_merge_names f fd) (m_set : mg "set" = none) (m_sorted : mg "sorted" = none) (m_tuple : mg "tuple" = none) : FnR P w K mg base CX0 1 f (spMerge K) := by
  have z := okStar (P := P) (w := w) (K := K) (mg := mg) (base := base) (sp := spMerge0 K) (k := 0) F sc_merge_names (fun _ _ _ _ _ _ rest => match rest with | [] => rfl | _ :: _ => rfl) (fun cdv A outer s H vs Q E hr h => ?_)
  · refine z.imp fun vs H Q E h => ?_
    obtain ⟨L, rfl, hL, hl, hn, q⟩ := h
    refine ⟨by rw [List.length_map]; exact sz (by omega), fun p np => ⟨p, L, rfl, sqt upd_same, fun x hx => (hL x hx).imp (Same.seq (same_new np)) (Bx.Same.tup (same_new np)), hn, fun r H' ys s1 n1 => q r H' ys ((same_new np).trans s1) ((same_new np).free n1)⟩⟩
  · obtain ⟨p, L, rfl, hT, hL, hn, q⟩ := h
    refine ⟨_, (pss_one (ps_ret (pe_callTy (T := "tuple") call_tupleF (by rfl) m_tuple (by decide +kernel) (pa_cons (pe_callB (id := "sorted") (Sx.cr_sortX rfl) (by rfl) m_sorted (by decide +kernel) (pa_cons (pe_callTy (T := "set") (Sx.cr_setX rfl) (by rfl) m_set (by decide +kernel) (pa_cons (pe_lc2 (own := [("names", 1), ("name", 2)]) (vs1 := [2]) (wi1 := iSeq K (tVar 1)) (tt := tYes) (tt1 := tYes) rfl sc_merge_names.nd (pi_tup (pv 0)) (blkOk_by (N := n_merge_names) (sc := defScope s_merge_names) (by decide +kernel)) (by decide) (fun _ _ _ _ _ => pg_name (i := 1) sc_merge_names.nd rfl (Or.inl rfl)) (fun _ _ _ _ _ => pts_nil) (fun _ _ _ _ _ => (pi_seq (pv 1))) (fun _ _ _ _ _ => pg_name (i := 2) sc_merge_names.nd rfl (Or.inl rfl)) (fun _ _ _ _ _ => pts_nil) (fun _ _ _ _ _ => (pv 2))) pa_nil)) pa_nil)) pa_nil)))), ?_⟩
    walk_at "rd"
    refine ⟨⟨_, hT⟩, fun D hD => ?_⟩
    refine walk_any (walk_tup (K := K) (a := p) (xs := L.map fun q => V.ref q.1)) (fun i H' => Same H H' ∧ H' D = some (.lst (((L.take i).map fun q => q.2).flatten.map V.str))) ⟨same_new hD, by rw [upd_same]; rfl⟩ (fun i H' _ h => Bx.Same.tup h.1 hT) ?_ ?_
    · rintro i x H1 H2 hi ⟨hs, hd⟩ ⟨rfl, hx⟩
      rw [List.length_map] at hi
      obtain ⟨y, hy, rfl⟩ : ∃ y, L[i]? = some y ∧ x = .ref y.1 := by
        rw [List.getElem?_map, List.getElem?_eq_getElem hi] at hx
        exact ⟨_, List.getElem?_eq_getElem hi, (Option.some.inj hx).symm⟩
      refine ⟨rfl, ?_⟩
      have hy2 := hL y (List.mem_of_getElem? hy)
      have hfl : ((L.take (i + 1)).map fun q => q.2).flatten = ((L.take i).map fun q => q.2).flatten ++ y.2 := by
        rw [List.take_add_one, hy, List.map_append, List.flatten_append]
        simp
      have hle : ∀ j, (((L.take j).map fun q => q.2).flatten).length ≤ 3000 := fun j => by
        have e := List.take_append_drop j L
        have e2 : (L.map fun q => q.2).flatten.length = ((L.take j).map fun q => q.2).flatten.length + ((L.drop j).map fun q => q.2).flatten.length := by
          rw [← List.length_append, ← List.flatten_append, ← List.map_append, e]
        omega
      walk_at "rd"
      have hstep : ∀ (j : Nat) (x : V) (H1 : Hp), (y.2.map V.str)[j]? = some x → Same H H1 ∧ H1 D = some (.lst ((((L.take i).map fun q => q.2).flatten ++ y.2.take j).map V.str)) →
          ∃ acc, H1 D = some (.lst acc) ∧ acc.length < sizeLine ∧ Same H (upd H1 D (.lst (acc ++ [x]))) ∧ (upd H1 D (.lst (acc ++ [x]))) D = some (.lst ((((L.take i).map fun q => q.2).flatten ++ y.2.take (j + 1)).map V.str)) := by
        rintro j x H1 hj ⟨h1, h2⟩
        refine ⟨_, h2, ?_, same_at hD h1, ?_⟩
        · have e1 := hle (i + 1)
          rw [hfl, List.length_append] at e1
          rw [List.length_map, List.length_append, List.length_take]
          exact szl (by omega)
        · obtain ⟨u, hu, rfl⟩ : ∃ u, y.2[j]? = some u ∧ x = .str u := by
            rw [List.getElem?_map] at hj
            cases e : y.2[j]? with
            | none =>
              rw [e] at hj
              cases hj
            | some u =>
              rw [e] at hj
              exact ⟨u, rfl, (Option.some.inj hj).symm⟩
          rw [upd_same, List.take_add_one, hu, ← List.append_assoc, List.map_append (l₂ := (some u).toList)]
          rfl
      have hend : ∀ H1, Same H H1 ∧ H1 D = some (.lst ((((L.take i).map fun q => q.2).flatten ++ y.2.take (y.2.map V.str).length).map V.str)) → Same H H1 ∧ H1 D = some (.lst (((L.take (i + 1)).map fun q => q.2).flatten.map V.str)) := by
        rintro H1 ⟨h1, h2⟩
        rw [List.length_map, List.take_length, ← hfl] at h2
        exact ⟨h1, h2⟩
      have h0 : Same H H2 ∧ H2 D = some (.lst ((((L.take i).map fun q => q.2).flatten ++ y.2.take 0).map V.str)) := by
        rw [List.take_zero, List.append_nil]
        exact ⟨hs, hd⟩
      rcases hy2 with hl | ht
      · refine .inl ⟨⟨_, hs.seq hl⟩, walk_any walk_list (fun j H1 => Same H H1 ∧ H1 D = some (.lst ((((L.take i).map fun q => q.2).flatten ++ y.2.take j).map V.str))) h0 (fun j H' _ h => h.1.seq hl) ?_ hend⟩
        rintro j x H1 H' hj hp ⟨rfl, hx⟩
        refine ⟨rfl, ?_⟩
        walk_at "rd"
        exact hstep j x _ hx hp
      · refine .inr ⟨⟨_, Bx.Same.tup hs ht⟩, walk_any walk_tup (fun j H1 => Same H H1 ∧ H1 D = some (.lst ((((L.take i).map fun q => q.2).flatten ++ y.2.take j).map V.str))) h0 (fun j H' _ h => Bx.Same.tup h.1 ht) ?_ hend⟩
        rintro j x H1 H' hj hp ⟨rfl, hx⟩
        refine ⟨rfl, ?_⟩
        walk_at "rd"
        exact hstep j x _ hx hp
    · rintro H1 ⟨hs, hd⟩
      rw [List.length_map, List.take_length] at hd
      refine ⟨_, _, rfl, .inl (sq hd), by omega, fun p1 ys n1 hm nd hlen => ?_⟩
      refine ⟨_, _, rfl, upd_same, by omega, fun zs p2 pm hst n2 => ?_⟩
      refine ⟨_, _, rfl, sq upd_same, fun r o nr od => ?_⟩
      have s3 : Same H (upd (upd (upd H1 p1 (Sx.SetV P w p1 ys)) p2 (.lst (zs.map V.str))) r (.frz o (.tup (zs.map V.str)))) := ((hs.trans (same_new n1)).trans (same_new n2)).trans (same_new nr)
      refine q r _ zs s3 (((hs.trans (same_new n1)).trans (same_new n2)).free nr) ⟨o, upd_same, od⟩ hst (pm.nodup_iff.mpr nd) fun x => ?_
      rw [pm.mem_iff, hm x]
end
section
variable {P : Program} {w : World} {K : PySem.W.Frag} {mg : Str → Option Value} {base : Heap}
theorem slice_any {H : Hp} {a : Addr} {xs : List V} {lo hi : Option Int} (ha : SqT K H a xs) {Z : VK} (q : ∀ c' H', Same H H' → SqT K H' c' (cutV xs lo hi) → Z (.ref c') H') : rSlA K (.ref a) lo hi H Z := by
  refine ⟨a, xs, rfl, ha, fun h => ?_, fun _ p np => q p _ (same_new np) (sqt upd_same)⟩
  have e : cutV xs lo hi = xs := by
    unfold cutV
    rw [h.1, h.2, List.drop_zero, Nat.sub_zero, List.take_length]
  exact q a H (Same.refl H) (e.symm ▸ ha)
end
end K19
namespace K19
open PySem PySem.Spec PyProof.Rows L2 PySem.W
/-! ### rows in order -/
def rle (a b : Row) : Bool := decide (a ≤ b)
theorem dle_rows : dataLe false rowD = rle := by
  funext p q
  show (!dataLt (.tuple (q.map .int)) (.tuple (p.map .int))) = _
  rw [dataLt_tuple]
  show (!rowLt (q.map .int) (p.map .int)) = _
  rw [dataLt_ints]
  unfold rle
  by_cases h : q < p
  · have h' : ¬ p ≤ q := fun r => List.not_lt.mpr r h
    simp [h, h']
  · have h' : p ≤ q := List.not_lt.mp h
    simp [h, h']
theorem rle_total : TotalLe rle := by
  rw [← dle_rows]
  unfold dataLe
  exact sortLe_total _ _ _
theorem rle_anti {a b : Row} (h1 : rle a b = true) (h2 : rle b a = true) : a = b := List.le_antisymm (of_decide_eq_true h1) (of_decide_eq_true h2)
theorem rows_sort (L : List Row) : (L.map rowD).mergeSort So.dle = (L.mergeSort rle).map rowD := (sort_maps (r := rle) (s := So.dle) rowD fun a _ b _ => (congrFun (congrFun dle_rows a) b).symm).symm
theorem perm_sorted {l m : List Row} (h : l.Perm m) (hm : m.Pairwise fun a b => rle a b = true) : l.mergeSort rle = m :=
  List.Perm.eq_of_pairwise (fun _ _ _ _ x y => rle_anti x y) (sort_pairwise rle_total l) hm ((List.mergeSort_perm l rle).trans h)
theorem same_sorted {l m : List Row} (nl : l.Nodup) (nm : m.Nodup) (h : ∀ x, x ∈ l ↔ x ∈ m) (hm : m.Pairwise fun a b => rle a b = true) : l.mergeSort rle = m := perm_sorted ((List.perm_ext_iff_of_nodup nl nm).mpr h) hm
theorem same_sorts {l m : List Row} (nl : l.Nodup) (nm : m.Nodup) (h : ∀ x, x ∈ l ↔ x ∈ m) : l.mergeSort rle = m.mergeSort rle := perm_sorted (((List.perm_ext_iff_of_nodup nl nm).mpr h).trans (List.mergeSort_perm m rle).symm) (sort_pairwise rle_total m)
/-! ### all rows -/
def rowsN : Nat → List Row
  | 0 => [[]]
  | n + 1 => (rowsN n).flatMap fun r => [r ++ [0], r ++ [1], r ++ [2]]
theorem lt_app : ∀ {a b : Row} (x y : Row), a.length = b.length → a < b → a ++ x < b ++ y
  | [], [], _, _, _, h => absurd h (List.lt_irrefl _)
  | [], _ :: _, _, _, h, _ => by cases h
  | _ :: _, [], _, _, h, _ => by cases h
  | a :: as, b :: bs, x, y, hl, h => by
    rw [List.cons_append, List.cons_append, List.cons_lt_cons_iff]
    rcases List.cons_lt_cons_iff.mp h with z | ⟨z1, z2⟩
    · exact .inl z
    · exact .inr ⟨z1, lt_app x y (Nat.succ.inj hl) z2⟩
theorem lt_tail : ∀ (a : Row) {i j : Int}, i < j → a ++ [i] < a ++ [j]
  | [], i, j, h => List.cons_lt_cons_iff.mpr (.inl h)
  | a :: as, i, j, h => List.cons_lt_cons_iff.mpr (.inr ⟨rfl, lt_tail as h⟩)
theorem rowsN_len : ∀ (n : Nat) (r : Row), r ∈ rowsN n → r.length = n
  | 0, r, h => by
    rw [List.mem_singleton.mp h]
    rfl
  | n + 1, r, h => by
    obtain ⟨q, hq, hr⟩ := List.mem_flatMap.mp h
    have := rowsN_len n q hq
    simp only [List.mem_cons, List.not_mem_nil, or_false] at hr
    rcases hr with rfl | rfl | rfl <;> simp [this]
theorem rowsN_asc : ∀ n : Nat, (rowsN n).Pairwise fun a b => a < b
  | 0 => List.pairwise_singleton _ _
  | n + 1 => by
    refine List.pairwise_flatMap.mpr ⟨fun r _ => ?_, ?_⟩
    · have h01 := lt_tail r (show (0 : Int) < 1 by decide)
      have h02 := lt_tail r (show (0 : Int) < 2 by decide)
      have h12 := lt_tail r (show (1 : Int) < 2 by decide)
      refine .cons (fun b hb => ?_) (.cons (fun b hb => ?_) (List.pairwise_singleton _ _))
      · simp only [List.mem_cons, List.not_mem_nil, or_false] at hb
        rcases hb with rfl | rfl
        · exact h01
        · exact h02
      · rw [List.mem_singleton.mp hb]
        exact h12
    · refine List.Pairwise.imp_of_mem (fun {a b} ha hb h x hx y hy => ?_) (rowsN_asc n)
      have e : a.length = b.length := (rowsN_len n a ha).trans (rowsN_len n b hb).symm
      simp only [List.mem_cons, List.not_mem_nil, or_false] at hx hy
      rcases hx with rfl | rfl | rfl <;> rcases hy with rfl | rfl | rfl <;> exact lt_app _ _ e h
theorem rowsN_mem : ∀ (n : Nat) (r : Row), r ∈ rowsN n ↔ r.length = n ∧ ∀ x ∈ r, x = 0 ∨ x = 1 ∨ x = 2
  | 0, r => by
    refine ⟨fun h => ?_, fun h => ?_⟩
    · rw [List.mem_singleton.mp h]
      exact ⟨rfl, fun x hx => nomatch hx⟩
    · rw [List.length_eq_zero_iff.mp h.1]
      exact List.mem_singleton.mpr rfl
  | n + 1, r => by
    refine ⟨fun h => ⟨rowsN_len _ r h, ?_⟩, fun h => ?_⟩
    · obtain ⟨q, hq, hr⟩ := List.mem_flatMap.mp h
      have ih := ((rowsN_mem n q).mp hq).2
      simp only [List.mem_cons, List.not_mem_nil, or_false] at hr
      intro x hx
      rcases hr with rfl | rfl | rfl <;> rcases List.mem_append.mp hx with z | z <;> first | exact ih x z | (rw [List.mem_singleton.mp z]; simp)
    · have ne : r ≠ [] := fun e => by
        rw [e] at h
        simp at h
      have e := List.dropLast_concat_getLast ne
      have hl := h.2 _ (List.getLast_mem ne)
      generalize r.getLast ne = y at e hl
      rw [← e]
      refine List.mem_flatMap.mpr ⟨r.dropLast, (rowsN_mem n _).mpr ⟨by rw [List.length_dropLast, h.1]; rfl, fun x hx => h.2 x (List.dropLast_subset r hx)⟩, ?_⟩
      rcases hl with rfl | rfl | rfl <;> simp
theorem rowsN_num : ∀ n : Nat, (rowsN n).length = 3 ^ n
  | 0 => rfl
  | n + 1 => by
    have key : ∀ l : List Row, (l.flatMap fun r => [r ++ [0], r ++ [1], r ++ [2]]).length = 3 * l.length := by
      intro l
      induction l with
      | nil => rfl
      | cons a l ih =>
        rw [List.flatMap_cons, List.length_append, ih, List.length_cons (as := l)]
        show 3 + 3 * l.length = 3 * (l.length + 1)
        omega
    show ((rowsN n).flatMap _).length = _
    rw [key, rowsN_num n, Nat.pow_succ, Nat.mul_comm]
theorem asc_nd {L : List Row} (h : L.Pairwise fun a b => a < b) : L.Nodup := List.Pairwise.imp (fun {a b} (z : a < b) (e : a = b) => List.lt_irrefl b (by rw [e] at z; exact z)) h
theorem asc_le {L : List Row} (h : L.Pairwise fun a b => a < b) : L.Pairwise fun a b => rle a b = true := List.Pairwise.imp (fun z => decide_eq_true (List.le_of_lt z)) h
/-! ### values by names -/
theorem val_map {ws : List Str} {f : Str → Int} {z : Str} (h : z ∈ ws) : val ws (ws.map f) z = f z := by
  unfold val
  rw [List.getD_eq_getElem?_getD, List.getElem?_map, (idx_at h).1]
  rfl
theorem val_pk {ns ws : List Str} {r : Row} {z : Str} (h : z ∈ ws) : val ws (pk ns r ws) z = val ns r z := val_map h
theorem val_app {ns ms : List Str} {r o : Row} {z : Str} (hl : r.length = ns.length) : val (ns ++ ms) (r ++ o) z = if z ∈ ns then val ns r z else val ms o z := by
  unfold val
  rw [List.idxOf_append]
  by_cases h : z ∈ ns
  · rw [if_pos h, if_pos h, List.getD_eq_getElem?_getD, List.getD_eq_getElem?_getD, List.getElem?_append_left (by rw [hl]; exact List.idxOf_lt_length_of_mem h)]
  · rw [if_neg h, if_neg h, List.getD_eq_getElem?_getD, List.getD_eq_getElem?_getD, List.getElem?_append_right (by omega)]
    congr 2
    omega
theorem pk_self {ns : List Str} {r : Row} (nd : ns.Nodup) (hl : r.length = ns.length) : pk ns r ns = r := by
  show ns.map (val ns r) = r
  refine List.ext_getElem (by rw [List.length_map, hl]) fun i h1 h2 => ?_
  rw [List.getElem_map]
  unfold val
  rw [nd.idxOf_getElem i (by omega), List.getD_eq_getElem?_getD, List.getElem?_eq_getElem h2]
  rfl
theorem pk_pk {ns ws xs : List Str} {r : Row} (h : ∀ z ∈ xs, z ∈ ws) : pk ws (pk ns r ws) xs = pk ns r xs := List.map_congr_left fun z hz => val_pk (h z hz)
theorem pk_len {ns ws : List Str} {r : Row} : (pk ns r ws).length = ws.length := List.length_map _
theorem val_dig {ns : List Str} {n : Nat} {r : Row} (h : r ∈ rowsN n) (z : Str) : val ns r z = 0 ∨ val ns r z = 1 ∨ val ns r z = 2 := by
  unfold val
  rw [List.getD_eq_getElem?_getD]
  cases e : r[ns.idxOf z]? with
  | none => exact .inl rfl
  | some x => exact ((rowsN_mem n r).mp h).2 x (List.mem_of_getElem? e)
theorem pk_rows {ns ws : List Str} {n : Nat} {r : Row} (h : r ∈ rowsN n) : pk ns r ws ∈ rowsN ws.length := (rowsN_mem _ _).mpr ⟨pk_len, fun x hx => by
  obtain ⟨z, _, rfl⟩ := List.mem_map.mp hx
  exact val_dig h z⟩
/-! ### joining -/
structure TOk (t : Tab) : Prop where
  nd : t.1.Nodup
  rows : t.2.Sublist (rowsN t.1.length)
theorem TOk.mem {t : Tab} (h : TOk t) {r : Row} (hr : r ∈ t.2) : r ∈ rowsN t.1.length := h.rows.subset hr
theorem TOk.len {t : Tab} (h : TOk t) {r : Row} (hr : r ∈ t.2) : r.length = t.1.length := rowsN_len _ r (h.mem hr)
theorem TOk.rnd {t : Tab} (h : TOk t) : t.2.Nodup := h.rows.nodup (asc_nd (rowsN_asc _))
def shr (t u : Tab) : List Str := t.1.filter fun z => decide (z ∈ u.1)
def grp (t u : Tab) (r : Row) : List Row := u.2.filter fun o => decide (pk u.1 o (shr t u) = pk t.1 r (shr t u))
def joinL (t u : Tab) (ys : List Str) : List Row := t.2.flatMap fun r => (grp t u r).map fun o => pk (t.1 ++ u.1) (r ++ o) ys
def fitB (t u : Tab) (ys : List Str) (x : Row) : Bool := decide (pk ys x t.1 ∈ t.2) && decide (pk ys x u.1 ∈ u.2)
def expT (t u : Tab) (ys : List Str) : Tab := (ys, (rowsN ys.length).filter (fitB t u ys))
theorem mix_left {t u : Tab} {ys : List Str} {r o : Row} (ht : TOk t) (hy : ∀ z, z ∈ ys ↔ z ∈ t.1 ∨ z ∈ u.1) (hr : r ∈ t.2) : pk ys (pk (t.1 ++ u.1) (r ++ o) ys) t.1 = r := by
  rw [pk_pk fun z hz => (hy z).mpr (.inl hz)]
  refine Eq.trans (List.map_congr_left fun z hz => ?_) (pk_self ht.nd (ht.len hr))
  rw [val_app (ht.len hr), if_pos hz]
theorem mix_right {t u : Tab} {ys : List Str} {r o : Row} (ht : TOk t) (hu : TOk u) (hy : ∀ z, z ∈ ys ↔ z ∈ t.1 ∨ z ∈ u.1) (hr : r ∈ t.2) (ho : o ∈ u.2) (ag : pk u.1 o (shr t u) = pk t.1 r (shr t u)) : pk ys (pk (t.1 ++ u.1) (r ++ o) ys) u.1 = o := by
  rw [pk_pk fun z hz => (hy z).mpr (.inr hz)]
  refine Eq.trans (List.map_congr_left fun z hz => ?_) (pk_self hu.nd (hu.len ho))
  rw [val_app (ht.len hr)]
  by_cases h : z ∈ t.1
  · rw [if_pos h]
    have zs : z ∈ shr t u := List.mem_filter.mpr ⟨h, decide_eq_true hz⟩
    rw [← val_pk (ns := t.1) (r := r) zs, ← ag, val_pk zs]
  · rw [if_neg h]
theorem join_eq {t u : Tab} {ys : List Str} (ht : TOk t) (hu : TOk u) (hy : ∀ z, z ∈ ys ↔ z ∈ t.1 ∨ z ∈ u.1) (yn : ys.Nodup) : (ys, (joinL t u ys).mergeSort rle) = expT t u ys := by
  have grpm : ∀ {r o}, o ∈ grp t u r ↔ o ∈ u.2 ∧ pk u.1 o (shr t u) = pk t.1 r (shr t u) := fun {r o} => by
    unfold grp
    rw [List.mem_filter, decide_eq_true_iff]
  refine congrArg (Prod.mk ys) (same_sorted ?_ ((asc_nd (rowsN_asc _)).sublist List.filter_sublist) (fun x => ?_) ((asc_le (rowsN_asc _)).sublist List.filter_sublist))
  · refine List.pairwise_flatMap.mpr ⟨fun r hr => ?_, List.Pairwise.imp_of_mem (fun {r r'} hr hr' ne x hx y hy' e => ?_) ht.rnd⟩
    · refine List.pairwise_map.mpr (List.Pairwise.imp_of_mem (fun {o o'} ho ho' ne e => ne ?_) (hu.rnd.sublist List.filter_sublist))
      obtain ⟨h1, h2⟩ := grpm.mp ho
      obtain ⟨h3, h4⟩ := grpm.mp ho'
      rw [← mix_right ht hu hy hr h1 h2, e, mix_right ht hu hy hr h3 h4]
    · obtain ⟨o, _, rfl⟩ := List.mem_map.mp hx
      obtain ⟨o', _, rfl⟩ := List.mem_map.mp hy'
      exact ne (by rw [← mix_left ht hy hr (o := o), e, mix_left ht hy hr'])
  · rw [List.mem_filter]
    unfold fitB
    rw [Bool.and_eq_true, decide_eq_true_iff, decide_eq_true_iff]
    refine ⟨fun h => ?_, fun ⟨h1, h2, h3⟩ => ?_⟩
    · obtain ⟨r, hr, hx⟩ := List.mem_flatMap.mp h
      obtain ⟨o, ho, rfl⟩ := List.mem_map.mp hx
      obtain ⟨ho1, ho2⟩ := grpm.mp ho
      refine ⟨(rowsN_mem _ _).mpr ⟨pk_len, fun v hv => ?_⟩, by rw [mix_left ht hy hr]; exact hr, by rw [mix_right ht hu hy hr ho1 ho2]; exact ho1⟩
      obtain ⟨z, _, rfl⟩ := List.mem_map.mp hv
      rw [val_app (ht.len hr)]
      split
      · exact val_dig (ht.mem hr) z
      · exact val_dig (hu.mem ho1) z
    · refine List.mem_flatMap.mpr ⟨_, h2, List.mem_map.mpr ⟨_, grpm.mpr ⟨h3, ?_⟩, ?_⟩⟩
      · have q1 : ∀ z ∈ shr t u, z ∈ u.1 := fun z hz => of_decide_eq_true (List.mem_filter.mp hz).2
        have q2 : ∀ z ∈ shr t u, z ∈ t.1 := fun z hz => (List.mem_filter.mp hz).1
        rw [pk_pk q1, pk_pk q2]
      · refine Eq.trans (List.map_congr_left fun z hz => ?_) (pk_self yn (rowsN_len _ x h1))
        rw [val_app pk_len]
        by_cases h : z ∈ t.1
        · rw [if_pos h, val_pk h]
        · rw [if_neg h, val_pk (((hy z).mp hz).resolve_left h)]
theorem exp_ok {t u : Tab} {ys : List Str} (yn : ys.Nodup) : TOk (expT t u ys) := ⟨yn, List.filter_sublist⟩
/-! ### dropping -/
theorem cut_names {ns : List Str} {z : Str} (nd : ns.Nodup) : ns.take (ns.idxOf z) ++ ns.drop (ns.idxOf z + 1) = ns.filter fun y => decide (y ≠ z) := by
  rw [← List.eraseIdx_eq_take_drop_succ, ← List.erase_eq_eraseIdx_of_idxOf rfl, nd.erase_eq_filter]
  refine List.filter_congr fun y _ => ?_
  by_cases e : y = z <;> simp [e]
theorem cut_row {ns : List Str} {r : Row} {z : Str} (nd : ns.Nodup) (hl : r.length = ns.length) : r.take (ns.idxOf z) ++ r.drop (ns.idxOf z + 1) = pk ns r (ns.filter fun y => decide (y ≠ z)) := by
  have e := pk_self nd hl
  have e2 : r.take (ns.idxOf z) ++ r.drop (ns.idxOf z + 1) = (pk ns r ns).take (ns.idxOf z) ++ (pk ns r ns).drop (ns.idxOf z + 1) := by rw [e]
  rw [e2]
  unfold pk
  rw [← List.map_take, ← List.map_drop, ← List.map_append, cut_names nd]
def dropR (t : Tab) (z : Str) : List Row := t.2.map fun r => pk t.1 r (t.1.filter fun y => decide (y ≠ z))
/-- each once, in its order -/
def once : List Row → List Row → List Row
  | acc, [] => acc
  | acc, r :: l => once (if r ∈ acc then acc else acc ++ [r]) l
theorem once_snoc : ∀ (l acc : List Row) (r : Row), once acc (l ++ [r]) = if r ∈ once acc l then once acc l else once acc l ++ [r]
  | [], acc, r => rfl
  | x :: l, acc, r => once_snoc l _ r
theorem once_nd : ∀ (l acc : List Row), acc.Nodup → (once acc l).Nodup
  | [], _, h => h
  | r :: l, acc, h => by
    refine once_nd l _ ?_
    by_cases c : r ∈ acc
    · rw [if_pos c]
      exact h
    · rw [if_neg c]
      refine List.nodup_append.mpr ⟨h, by simp, fun a ha b hb e => ?_⟩
      rw [List.mem_singleton.mp hb] at e
      exact c (e ▸ ha)
theorem once_mem : ∀ (l acc : List Row) (x : Row), x ∈ once acc l ↔ x ∈ acc ∨ x ∈ l
  | [], acc, x => by simp [once]
  | r :: l, acc, x => by
    show x ∈ once _ l ↔ _
    rw [once_mem l, List.mem_cons]
    by_cases c : r ∈ acc
    · rw [if_pos c]
      refine ⟨fun h => h.imp id .inr, fun h => ?_⟩
      rcases h with h | rfl | h
      · exact .inl h
      · exact .inl c
      · exact .inr h
    · rw [if_neg c, List.mem_append, List.mem_singleton, or_assoc]
theorem once_le : ∀ (l acc : List Row), (once acc l).length ≤ acc.length + l.length
  | [], acc => Nat.le_add_right _ _
  | r :: l, acc => by
    have z := once_le l (if r ∈ acc then acc else acc ++ [r])
    have y : (if r ∈ acc then acc else acc ++ [r]).length ≤ acc.length + 1 := by
      by_cases c : r ∈ acc
      · rw [if_pos c]
        exact Nat.le_succ _
      · rw [if_neg c, List.length_append]
        exact Nat.le_refl _
    show (once (if r ∈ acc then acc else acc ++ [r]) l).length ≤ acc.length + (l.length + 1)
    omega
end K19
namespace K19
local macro_rules | `(tactic| walk_at "rd") => `(tactic| repeat (first | refine ⟨rfl, ?_⟩ | refine ⟨_, rfl, ?_⟩ | refine ⟨_, _, rfl, rfl, ?_⟩ | refine ⟨⟨_, rfl⟩, ?_⟩))
open PySem PySem.Spec PyProof.Rows L2 Bx TL Dx Zx Ow Sup NdefX Px
/-! ### rows by their values -/
def kk (r : Row) : List Key := r.map Sum.inl
theorem kk_kV (r : Row) : (kk r).map kV = r.map V.int := by
  unfold kk
  rw [List.map_map]
  rfl
theorem kk_inj {r s : Row} (h : kk r = kk s) : r = s := by
  have e := congrArg (List.map fun k : Key => match k with | .inl i => i | .inr _ => 0) h
  unfold kk at e
  rwa [List.map_map, List.map_map, show ((fun k : Key => match k with | .inl i => i | .inr _ => (0 : Int)) ∘ Sum.inl) = id from rfl, List.map_id, List.map_id] at e
structure GI (K : PySem.W.Frag) (H1 : Hp) (G : Addr) (key : Row → Row) (H' : Hp) (kvs : List (List Key × V)) (L : List Row) : Prop where
  here : ∀ k v, valV kvs k = some v → ∃ l us, v = .ref l ∧ H1 l = none ∧ l ≠ G ∧ H' l = some (.lst us) ∧ DpAll K H1 us ((L.filter fun o => decide (kk (key o) = k)).map rowD)
  one : ∀ k k' v, valV kvs k = some v → valV kvs k' = some v → k = k'
  gone : ∀ k, valV kvs k = none → L.filter (fun o => decide (kk (key o) = k)) = []
  num : kvs.length ≤ L.length
theorem gi_nil {K : PySem.W.Frag} {H1 H' : Hp} {G : Addr} {key : Row → Row} : GI K H1 G key H' [] [] := ⟨fun k v h => (by cases h), fun k k' v h => (by cases h), fun k _ => rfl, Nat.le_refl _⟩
theorem GI.keep {K : PySem.W.Frag} {H1 H' H'' : Hp} {G : Addr} {key : Row → Row} {kvs : List (List Key × V)} {L : List Row} (g : GI K H1 G key H' kvs L) (s : ∀ b o, b ≠ G → H' b = some o → H'' b = some o) : GI K H1 G key H'' kvs L :=
  ⟨fun k v h => by
    obtain ⟨l, us, e1, e2, e3, e4, e5⟩ := g.here k v h
    exact ⟨l, us, e1, e2, e3, s _ _ e3 e4, e5⟩, g.one, g.gone, g.num⟩
theorem GI.step {K : PySem.W.Frag} {H1 H' H'' : Hp} {G l0 : Addr} {key : Row → Row} {kvs kvs' : List (List Key × V)} {L : List Row} {r : Row} {us : List V} (g : GI K H1 G key H' kvs L)
    (hv : ∀ k, valV kvs' k = if k = kk (key r) then some (.ref l0) else valV kvs k) (n0 : H1 l0 = none) (n1 : l0 ≠ G) (hl : H'' l0 = some (.lst us)) (hd : DpAll K H1 us (((L ++ [r]).filter fun o => decide (kk (key o) = kk (key r))).map rowD))
    (keep : ∀ b o, b ≠ l0 → b ≠ G → H' b = some o → H'' b = some o) (ds : ∀ k, k ≠ kk (key r) → valV kvs k ≠ some (.ref l0)) (num : kvs'.length ≤ L.length + 1) : GI K H1 G key H'' kvs' (L ++ [r]) := by
  have fl : ∀ k, k ≠ kk (key r) → (L ++ [r]).filter (fun o => decide (kk (key o) = k)) = L.filter fun o => decide (kk (key o) = k) := fun k hk => by
    rw [List.filter_append]
    have z : ¬ kk (key r) = k := fun e => hk e.symm
    simp [z]
  refine ⟨fun k v h => ?_, fun k k' v h1 h2 => ?_, fun k h => ?_, by rw [List.length_append]; exact num⟩
  · rw [hv] at h
    by_cases c : k = kk (key r)
    · rw [if_pos c] at h
      cases h
      exact ⟨l0, us, rfl, n0, n1, hl, by rw [c]; exact hd⟩
    · rw [if_neg c] at h
      obtain ⟨l, ws, e1, e2, e3, e4, e5⟩ := g.here k v h
      refine ⟨l, ws, e1, e2, e3, keep _ _ (fun e => ds k c (by rw [h, e1, e])) e3 e4, ?_⟩
      rw [fl k c]
      exact e5
  · rw [hv] at h1 h2
    by_cases c : k = kk (key r) <;> by_cases c' : k' = kk (key r)
    · rw [c, c']
    · rw [if_pos c] at h1
      rw [if_neg c', ← h1] at h2
      exact absurd h2 (ds k' c')
    · rw [if_neg c] at h1
      rw [if_pos c', ← h1] at h2
      exact absurd h2.symm (ds k c)
    · rw [if_neg c] at h1
      rw [if_neg c'] at h2
      exact g.one k k' v h1 h2
  · rw [hv] at h
    by_cases c : k = kk (key r)
    · rw [if_pos c] at h
      cases h
    · rw [if_neg c] at h
      rw [fl k c]
      exact g.gone k h
theorem sub_len : ∀ (l D : List Str), l.Nodup → (∀ x ∈ l, x ∈ D) → l.length ≤ D.length
  | [], _, _, _ => Nat.zero_le _
  | x :: l, D, hn, hs => by
    obtain ⟨h1, h2⟩ := List.nodup_cons.mp hn
    have hx := hs x List.mem_cons_self
    have ih := sub_len l (D.erase x) h2 fun y hy => (List.mem_erase_of_ne (fun e => h1 (by rw [← e]; exact hy))).2 (hs y (List.mem_cons_of_mem _ hy))
    rw [List.length_erase_of_mem hx] at ih
    have := List.length_pos_of_mem hx
    rw [List.length_cons]
    omega
theorem alike_rows (L : List Row) : PySem.W.AllAlike (L.map rowD) := fun d hd d' hd' => by
  obtain ⟨a, _, rfl⟩ := List.mem_map.mp hd
  obtain ⟨b, _, rfl⟩ := List.mem_map.mp hd'
  show PySem.W.alikeAll (a.map .int) (b.map .int) = true
  exact PySem.W.alike_ints a b
theorem row_depth (r : Row) : (rowD r).depth ≤ 60 := Nat.le_trans (lay_tuple (lays_ints (n := 1) (ns := r))).2 (by decide)
def lrowD (r : Row) : PyData := .list (r.map PyData.int)
theorem dp_lrow {K : PySem.W.Frag} {H : Hp} {q : Addr} {r : Row} (h : SqL K H q (r.map V.int)) : Dp K H (.ref q) (lrowD r) := .lst h (dp_ints r)
theorem lrow_dp {K : PySem.W.Frag} {H : Hp} {v : V} {r : Row} (h : Dp K H v (lrowD r)) : ∃ q, v = .ref q ∧ SqL K H q (r.map V.int) := by
  obtain ⟨q, xs, rfl, hq, ha⟩ := dp_lst h
  rw [da_ints ha] at hq
  exact ⟨q, rfl, hq⟩
theorem flat_len {α β : Type} {f : α → List β} {n : Nat} : ∀ l : List α, (∀ a ∈ l, (f a).length ≤ n) → (l.flatMap f).length ≤ l.length * n
  | [], _ => Nat.zero_le _
  | a :: l, h => by
    have z := flat_len l fun x hx => h x (List.mem_cons_of_mem _ hx)
    have y := h a List.mem_cons_self
    rw [List.flatMap_cons, List.length_append, List.length_cons, Nat.succ_mul]
    omega
theorem take_flat {α β : Type} {f : α → List β} {l : List α} {i : Nat} {a : α} (h : l[i]? = some a) : (l.take (i + 1)).flatMap f = (l.take i).flatMap f ++ f a := by
  rw [List.take_add_one, h, List.flatMap_append]
  simp
theorem grp_kk (t u : Tab) (r : Row) : (u.2.filter fun o => decide (kk (pk u.1 o (shr t u)) = kk (pk t.1 r (shr t u)))) = grp t u r := by
  unfold grp
  refine List.filter_congr fun o _ => ?_
  by_cases h : pk u.1 o (shr t u) = pk t.1 r (shr t u)
  · rw [decide_eq_true h, decide_eq_true (congrArg kk h)]
  · rw [decide_eq_false h, decide_eq_false fun e => h (kk_inj e)]
theorem grp_len {t u : Tab} {r : Row} (h : u.2.length ≤ 27) : (grp t u r).length ≤ 27 := Nat.le_trans (List.length_filter_le _ _) h
section
variable {P : Program} {w : World} {K : PySem.W.Frag} {mg : Str → Option Value} {base : Heap}
@[irreducible] def spJoin (K : PySem.W.Frag) : Sp := fun vs H Q _ => ∃ (p q : Addr) (t u : Tab), vs = [.ref p, .ref q] ∧ TabAt K H p t ∧ TabAt K H q u ∧ TOk t ∧ TOk u ∧ t.1.length ≤ 3 ∧ u.1.length ≤ 3 ∧
  ∀ r (ys : List Str) H', Same H H' → TabAt K H' r (ys, (joinL t u ys).mergeSort rle) → sortedS ys = true → ys.Nodup → (∀ z, z ∈ ys ↔ z ∈ t.1 ∨ z ∈ u.1) → Q (.ref r) H'
set_option maxHeartbeats 4000000 in
theorem ok_join {f : Addr} {fd : FuncData} (F : Fun K "join_tables" "join_tables" s_join_tables f fd) (m_tuple : mg "tuple" = none) (m_sorted : mg "sorted" = none) (C_merge_names : CalR P w K mg base "merge_names" 1 (spMerge K)) (C__values_of : Cal P w K mg base "_values_of" 1 ["names", "row", "wanted"] (spVal K)) :
    FnOk P w K mg base CX0 2 f fd ["first", "second"] (spJoin K) := by
  refine F.ok sc_join_tables (fun vs H Q E h => ?_) (fun cdv A outer s H vs Q E hr h => ?_)
  · unfold spJoin at h
    obtain ⟨p, q, t, u, rfl, _⟩ := h
    rfl
  · unfold spJoin at h
    obtain ⟨p, q, t, u, rfl, hp, hq, ht, hu2, tl, ul, q0⟩ := h
    have hu := hu_of hr
    have tr : t.2.length ≤ 27 := Nat.le_trans ht.rows.length_le (by rw [rowsN_num]; exact Nat.pow_le_pow_right (by decide) tl)
    have ur : u.2.length ≤ 27 := Nat.le_trans hu2.rows.length_le (by rw [rowsN_num]; exact Nat.pow_le_pow_right (by decide) ul)
    obtain ⟨a1, b1, us1, t1, t2, t3, t4⟩ := hp
    obtain ⟨a2, b2, us2, u1, u2, u3, u4⟩ := hq
    have l1 : us1.length = t.2.length := by rw [da_len t4, List.length_map]
    have l2 : us2.length = u.2.length := by rw [da_len u4, List.length_map]
    refine ⟨_, (pss_cons (ps_asg (pv 0) (pg_tup rfl (pgs_cons (pg_name (i := 9) sc_join_tables.nd rfl (Or.inr rfl)) (pgs_cons (pg_name (i := 10) sc_join_tables.nd rfl (Or.inl rfl)) pgs_nil))))
    (pss_cons (ps_asg (pv 1) (pg_tup rfl (pgs_cons (pg_name (i := 11) sc_join_tables.nd rfl (Or.inr rfl)) (pgs_cons (pg_name (i := 12) sc_join_tables.nd rfl (Or.inl rfl)) pgs_nil))))
    (pss_cons (ps_set (i := 2) sc_join_tables.nd rfl (Or.inl rfl) (pe_calR C_merge_names (hr.mono (by decide)) (pa_cons (pv 9) (pa_cons (pv 11) pa_nil))))
    (pss_cons (ps_set (i := 3) sc_join_tables.nd rfl (Or.inr rfl) (pe_lc (own := [("name", 13)]) rfl sc_join_tables.nd (pi_tup (pv 9)) (blkOk_by (N := n_join_tables) (sc := defScope s_join_tables) (by decide +kernel)) (fun _ _ _ _ _ => pg_name (i := 13) sc_join_tables.nd rfl (Or.inl rfl)) (fun _ _ _ _ _ => pts_one (pt_cmpR (op_in_seqK (K := K) rfl) (pv 13) (pv 11) (by rfl))) (fun _ _ _ _ _ => (pv 13))))
    (pss_cons (ps_set (i := 4) sc_join_tables.nd rfl (Or.inr rfl) pe_dnewT)
    (pss_cons (ps_for PassesOwn.never rfl (pi_tup (pv 12)) (pg_name (i := 5) sc_join_tables.nd rfl (Or.inl rfl))
      (pss_one (ps_expr (pe_bm PySem.F.plainAttrs_list PySem.F.slot_list_append PySem.F.type_list_append mt_append (pe_bm PySem.F.plainAttrs_dict PySem.F.slot_dict_setdefault PySem.F.type_dict_setdefault (Nx.mt_setdT hu) (pv 4) (pa_cons (pe_cal C__values_of (hr.mono (by decide)) (pa_cons (pv 11) (pa_cons (pv 5) (pa_cons (pv 3) pa_nil)))) (pa_cons (pe_lst pa_nil) pa_nil))) (pa_cons (pv 5) pa_nil)))))
    (pss_cons (ps_set (i := 6) sc_join_tables.nd rfl (Or.inr rfl) (pe_lst (StX.pa_star (pv 9) (StX.pa_star (pv 11) pa_nil))))
    (pss_cons (ps_set (i := 7) sc_join_tables.nd rfl (Or.inr rfl) (pe_lc (own := [("name", 13)]) (tt := tYes) rfl sc_join_tables.nd (pi_tup (pv 2)) (blkOk_by (N := n_join_tables) (sc := defScope s_join_tables) (by decide +kernel)) (fun _ _ _ _ _ => pg_name (i := 13) sc_join_tables.nd rfl (Or.inl rfl)) (fun _ _ _ _ _ => pts_nil) (fun _ _ _ _ _ => (pe_bmK (K0 := K) rfl PySem.F.plainAttrs_list PySem.F.slot_list_index PySem.F.type_list_index (mt_indexK (K := K) rfl) (pv 6) (pa_cons (pv 13) pa_nil)))))
    (pss_cons (ps_setLc2 (i := 8) (own := [("row", 5), ("other", 14)]) (vs1 := [14]) (tt := tYes) (tt1 := tYes) rfl sc_join_tables.nd rfl rfl (sw_true rfl rfl rfl (by decide +kernel)) (pi_tup (pv 10)) (blkOk_by (N := n_join_tables) (sc := defScope s_join_tables) (by decide +kernel)) (by decide) (fun _ _ _ _ _ => pg_name (i := 5) sc_join_tables.nd rfl (Or.inl rfl)) (fun _ _ _ _ _ => pts_nil) (fun _ _ _ _ _ => (pi_listK (K0 := K) rfl (pe_dget2 hu (pv 4) (pe_cal C__values_of (hr.mono (by decide)) (pa_cons (pv 9) (pa_cons (pv 5) (pa_cons (pv 3) pa_nil)))) (pe_lst pa_nil) ⟨rfl, rfl, rfl, rfl⟩))) (fun _ _ _ _ _ => pg_name (i := 14) sc_join_tables.nd rfl (Or.inl rfl)) (fun _ _ _ _ _ => pts_nil) (fun _ _ _ _ _ => (pe_lst (pa_starK (K0 := K) rfl (pv 5) (pa_starK (K0 := K) rfl (pv 14) pa_nil)))))
    (pss_one (ps_ret (pe_tup (pa_cons (pv 2) (pa_cons (pe_callTy (T := "tuple") call_tuple_of (by rfl) m_tuple (by decide +kernel) (pa_cons (pe_callB (id := "sorted") (Sd.cr_sortT (room hr)) (by rfl) m_sorted (by decide +kernel) (pa_cons (pe_lc (own := [("pair", 15)]) (tt := tYes) rfl sc_join_tables.nd (pi_list (pv 8)) (blkOk_by (N := n_join_tables) (sc := defScope s_join_tables) (by decide +kernel)) (fun _ _ _ _ _ => pg_name (i := 15) sc_join_tables.nd rfl (Or.inr rfl)) (fun _ _ _ _ _ => pts_nil) (fun _ _ _ _ _ => (pe_callTy (T := "tuple") (call_tuple_ofK (K := K) rfl) (by rfl) m_tuple (by decide +kernel) (pa_cons (pe_lc (own := [("place", 16)]) (wi := iList K (tVar 7)) (tt := tYes) rfl sc_join_tables.nd (pi_list (pv 7)) (Nx.blkOk_nest (N := n_join_tables) (sc := defScope s_join_tables) rfl (by decide +kernel)) (fun _ _ _ _ _ => pg_name (i := 16) sc_join_tables.nd rfl (Or.inl rfl)) (fun _ _ _ _ _ => pts_nil) (fun _ _ _ _ _ => (pe_ix (ix_listK (K := K) rfl) (pv 15) (pv 16) (fun _ _ => rfl)))) pa_nil)))) pa_nil)) pa_nil)) pa_nil)))))))))))))), ?_⟩
    walk_at "rd"
    refine ⟨_, _, rfl, t1, rfl, _, _, rfl, _, _, rfl, rfl, ?_⟩
    walk_at "rd"
    refine ⟨_, _, rfl, u1, rfl, _, _, rfl, _, _, rfl, rfl, ?_⟩
    walk_at "rd"
    refine ⟨[(a1, t.1), (a2, u.1)], rfl, fun x hx => ?_, by show 2 ≤ 1000; decide, ?_, fun ya H1 ys s1 nya hya st nd mem => ?_⟩
    · simp only [List.mem_cons, List.not_mem_nil, or_false] at hx
      rcases hx with rfl | rfl
      · exact .inr t2.sq
      · exact .inr u2.sq
    · simp only [List.map_cons, List.map_nil, List.flatten_cons, List.flatten_nil, List.append_nil, List.length_append]
      omega
    have hy : ∀ z, z ∈ ys ↔ z ∈ t.1 ∨ z ∈ u.1 := fun z => by
      rw [mem z]
      simp only [List.map_cons, List.map_nil, List.flatten_cons, List.flatten_nil, List.append_nil, List.mem_append]
    have yl : ys.length ≤ 6 := by
      have z := sub_len ys (t.1 ++ u.1) nd fun x hx => List.mem_append.mpr ((hy x).mp hx)
      rw [List.length_append] at z
      omega
    clear mem
    -- the shared names
    walk_at "rd"
    refine ⟨⟨_, (PlT.same s1 t2).sq⟩, fun D hD => ?_⟩
    have t21 := PlT.same s1 t2
    have u21 := PlT.same s1 u2
    refine lc_it walk_tup (fun i H' => H' = upd H1 D (.lst (((t.1.take i).filter fun z => decide (z ∈ u.1)).map V.str))) rfl (fun i H' _ e => e ▸ (PlT.same (same_new hD) t21).sq) ?_ ?_
    · rintro i v H2a H2 hi rfl ⟨rfl, hx⟩
      obtain ⟨z, hz, rfl⟩ := at_map hx
      refine ⟨rfl, ?_⟩
      walk_at "rd"
      refine ⟨_, _, rfl, .inr (PlT.same (same_new hD) u21).sq, rfl, flat_all _, ?_⟩
      rw [inV_str]
      refine ⟨_, rfl, ?_⟩
      have e3 : ((t.1.take (i + 1)).filter fun z => decide (z ∈ u.1)) = ((t.1.take i).filter fun z => decide (z ∈ u.1)) ++ if decide (z ∈ u.1) = true then [z] else [] := by
        rw [List.take_add_one, hz, List.filter_append]
        congr 1
        by_cases c : z ∈ u.1 <;> simp [c]
      have e4 : ((t.1.take i).filter fun z => decide (z ∈ u.1)).length ≤ 3 := Nat.le_trans (List.length_filter_le _ _) (Nat.le_trans (List.length_take_le' i _) tl)
      refine ite2 (fun c => ?_) (fun c => ?_)
      · walk_at "rd"
        refine ⟨_, upd_same, szl (by rw [List.length_map]; omega), ?_⟩
        rw [upd_upd, e3, if_pos (show decide (z ∈ u.1) = true from c), List.map_append]
        rfl
      · rw [e3, if_neg (show ¬ decide (z ∈ u.1) = true from c), List.append_nil]
    rintro H2 rfl
    rw [List.length_map, List.take_length]
    have s2 := same_new hD (o := .lst ((shr t u).map V.str))
    have hS := upd_same (H := H1) (a := D) (o := .lst ((shr t u).map V.str))
    have es : (t.1.filter fun z => decide (z ∈ u.1)) = shr t u := rfl
    rw [es]
    generalize upd H1 D (.lst ((shr t u).map V.str)) = H2 at s2 hS ⊢
    have s02 := s1.trans s2
    have sl : (shr t u).length ≤ 3 := Nat.le_trans (List.length_filter_le _ _) tl
    have su : ∀ z ∈ shr t u, z ∈ u.1 := fun z hz => of_decide_eq_true (List.mem_filter.mp hz).2
    have sv : ∀ z ∈ shr t u, z ∈ t.1 := fun z hz => (List.mem_filter.mp hz).1
    -- the groups
    walk_at "rd"
    refine fun G nG => ?_
    have sg := same_new nG (o := .dT [])
    have hG0 := upd_same (H := H2) (a := G) (o := .dT [])
    generalize upd H2 G (.dT []) = H3 at sg hG0 ⊢
    have u22 := PlT.same s02 u2
    have u32 := Bx.Same.tup s02 u3
    have u42 := dpAll_same s02 u4
    walk_at "rd"
    refine ⟨⟨_, Bx.Same.tup sg u32⟩, for_it walk_tup (fun i σ H' => ∃ (o5 : Option V) (kvs : List (List Key × V)), σ = [some (.ref p), some (.ref q), some (.ref ya), some (.ref D), some (.ref G), o5, none, none, none, some (.ref a1), some (.ref b1), some (.ref a2), some (.ref b2), none, none, none, none] ∧ Same H2 H' ∧ H' G = some (.dT kvs) ∧ GI K H2 G (fun o => pk u.1 o (shr t u)) H' kvs (u.2.take i))
      ⟨none, [], rfl, sg, hG0, gi_nil⟩ (fun i σ H' _ ⟨_, _, _, s, _⟩ => Bx.Same.tup s u32) ?_ ?_⟩
    · rintro i x σ H4a H4 hi ⟨o5, kvs, rfl, s4, hG4, gi⟩ ⟨rfl, hx⟩
      obtain ⟨r, hr0, dr⟩ := da_atM u42 hx
      obtain ⟨rq, rfl, hrq⟩ := row_dp dr
      have rm := List.mem_of_getElem? hr0
      walk_at "rd"
      refine ⟨.inr (.inr (.inl ⟨rfl, .inr ⟨_, hG4⟩⟩)), ?_⟩
      walk_at "rd"
      show spVal K _ _ _ _
      unfold spVal
      refine ⟨a2, rq, D, u.1, r, shr t u, rfl, PlT.same s4 u22, Bx.Same.tup s4 hrq, sq (s4 _ _ hS), su, hu2.len rm, by omega, fun kp H5 s5 nkp hkp => ?_⟩
      walk_at "rd"
      refine ⟨sz (by decide), fun E nE => ?_⟩
      have s6 := same_new nE (o := .lst ([] : List V))
      have hE := upd_same (H := H5) (a := E) (o := .lst ([] : List V))
      generalize upd H5 E (.lst []) = H6 at s6 hE ⊢
      have s46 := s5.trans s6
      have s26 := s4.trans s46
      have hG6 := s46 _ _ hG4
      have gi6 := gi.keep fun b o _ e => s46 b o e
      have nE4 : H4 E = none := s5.free nE
      have nE2 : H2 E = none := s4.free nE4
      have EG : E ≠ G := fun e => by
        rw [e, hG4] at nE4
        cases nE4
      have kl : kvs.length < sizeLine := szl (by
        have := gi.num
        rw [List.length_take] at this
        omega)
      have tk1 : u.2.take (i + 1) = u.2.take i ++ [r] := by rw [List.take_add_one, hr0]; rfl
      refine ⟨G, kp, kvs, kk (pk u.1 r (shr t u)), .ref E, rfl, rfl, hG6, by rw [kk_kV]; exact s6 _ _ hkp, kl, fun v hv => ?_, fun hv => ?_⟩
      · obtain ⟨l, us, rfl, nl, lG, hl, dl⟩ := gi6.here _ _ hv
        refine ⟨.inl ⟨rfl, _, sq hl⟩, ?_⟩
        walk_at "rd"
        have ul2 : us.length ≤ 27 := by
          rw [da_len dl, List.length_map]
          exact Nat.le_trans (List.length_filter_le _ _) (Nat.le_trans (List.length_take_le' i _) ur)
        refine ⟨l, us, _, rfl, rfl, hl, szl (by omega), _, kvs, rfl, ?_, by rw [upd_ne (Ne.symm lG)]; exact hG6, ?_⟩
        · exact same_at nl s26
        · rw [tk1]
          refine gi6.step (l0 := l) (us := us ++ [.ref rq]) (fun k => ?_) nl lG upd_same ?_ (fun b o e1 _ e => by rw [upd_ne e1]; exact e) (fun k hk e => hk (gi6.one _ _ _ e hv)) (Nat.le_succ_of_le gi6.num)
          · by_cases c : k = kk (pk u.1 r (shr t u))
            · rw [if_pos c, c, hv]
            · rw [if_neg c]
          · rw [List.filter_append, List.map_append]
            refine da_app dl ?_
            rw [show ([r].filter fun o => decide (kk (pk u.1 o (shr t u)) = kk (pk u.1 r (shr t u)))) = [r] by simp]
            exact da_one (dp_row hrq)
      · have hE7 : (upd H6 G (.dT (putK kvs (kk (pk u.1 r (shr t u))) (.ref E)))) E = some (.lst []) := by
          rw [upd_ne EG]
          exact hE
        refine ⟨.inl ⟨rfl, _, sq hE7⟩, ?_⟩
        walk_at "rd"
        refine ⟨E, [], _, rfl, rfl, hE7, szl (by decide), _, putK kvs (kk (pk u.1 r (shr t u))) (.ref E), rfl, ?_, by rw [upd_ne (Ne.symm EG), upd_same], ?_⟩
        · exact same_at nE2 (same_at nG s26)
        · rw [tk1]
          refine gi6.step (l0 := E) (us := [.ref rq]) (fun k => valV_put _ _ _ _) nE2 EG upd_same ?_ (fun b o e1 e2 e => by rw [upd_ne e1, upd_ne e2]; exact e) (fun k hk e => ?_) (Nat.le_trans (length_putK _ _ _) (Nat.succ_le_succ gi6.num))
          · rw [List.filter_append, gi6.gone _ hv, List.nil_append]
            rw [show ([r].filter fun o => decide (kk (pk u.1 o (shr t u)) = kk (pk u.1 r (shr t u)))) = [r] by simp]
            exact da_one (dp_row hrq)
          · obtain ⟨l, us, e1, _, _, hl, _⟩ := gi.here _ _ e
            cases e1
            rw [nE4] at hl
            cases hl
    · rintro σ H4 ⟨o5, kvs, rfl, s4, hG4, gi⟩
      rw [l2, List.take_length] at gi
      have s04 := s02.trans s4
      have hS4 := s4 _ _ hS
      clear u32 u42 sg hG0 nG
      -- all names
      walk_at "rd"
      refine ⟨_, _, rfl, .inl (PlT.same s04 t2).sq, ?_⟩
      walk_at "rd"
      refine ⟨_, _, rfl, .inl (PlT.same s04 u2).sq, ?_⟩
      walk_at "rd"
      refine ⟨sz (by rw [List.length_append, List.length_append, List.length_map, List.length_map]; show t.1.length + (u.1.length + 0) ≤ 100000; omega), fun B nB => ?_⟩
      have eB : t.1.map V.str ++ (u.1.map V.str ++ []) = (t.1 ++ u.1).map V.str := by rw [List.append_nil, List.map_append]
      rw [eB]
      have s5 := same_new nB (o := .lst ((t.1 ++ u.1).map V.str))
      have hB := upd_same (H := H4) (a := B) (o := .lst ((t.1 ++ u.1).map V.str))
      generalize upd H4 B (.lst ((t.1 ++ u.1).map V.str)) = H5 at s5 hB ⊢
      -- their places
      have hya5 := PlT.same (s2.trans (s4.trans s5)) hya
      walk_at "rd"
      refine ⟨⟨_, hya5.sq⟩, fun D2 hD2 => ?_⟩
      refine lc_it walk_tup (fun i H' => H' = upd H5 D2 (.lst ((ys.take i).map fun z => V.int (((t.1 ++ u.1).idxOf z : Nat) : Int)))) rfl (fun i H' _ e => e ▸ (PlT.same (same_new hD2) hya5).sq) ?_ ?_
      · rintro i v H6a H6 hi rfl ⟨rfl, hx⟩
        obtain ⟨z, hz, rfl⟩ := at_map hx
        have zy := List.mem_of_getElem? hz
        have zn : z ∈ t.1 ++ u.1 := List.mem_append.mpr ((hy z).mp zy)
        have s6 := same_new hD2 (o := .lst ((ys.take i).map fun z => V.int (((t.1 ++ u.1).idxOf z : Nat) : Int)))
        refine ⟨rfl, ?_⟩
        walk_at "rd"
        obtain ⟨i1, i2⟩ := idx_at zn
        have hB6 := s6 _ _ hB
        refine ⟨.inl ⟨rfl, _, sq hB6⟩, ?_⟩
        walk_at "rd"
        refine ⟨_, (t.1 ++ u.1).map V.str, _, (t.1 ++ u.1).idxOf z, .str z, rfl, rfl, sq hB6, rfl, flat_all _, by rw [List.getElem?_map, i1]; rfl, (by show (z == z) = true; simp), fun m z' hm e => ?_, ?_⟩
        · obtain ⟨y, hy2, rfl⟩ := at_map e
          have ne : y ≠ z := fun e2 => i2 m hm (by rw [hy2, e2])
          show (y == z) = false
          simpa using ne
        refine ⟨_, upd_same, ?_, ?_⟩
        · rw [List.length_map]
          exact szl (Nat.lt_of_le_of_lt (List.length_take_le' i _) (by omega))
        · rw [upd_upd, List.take_add_one, hz, List.map_append]
          rfl
      rintro H6 rfl
      rw [List.length_map, List.take_length]
      have s6 := same_new hD2 (o := .lst (ys.map fun z => V.int (((t.1 ++ u.1).idxOf z : Nat) : Int)))
      have hP := upd_same (H := H5) (a := D2) (o := .lst (ys.map fun z => V.int (((t.1 ++ u.1).idxOf z : Nat) : Int)))
      generalize upd H5 D2 (.lst (ys.map fun z => V.int (((t.1 ++ u.1).idxOf z : Nat) : Int))) = H6 at s6 hP ⊢
      have s46 := s5.trans s6
      have s26 := s4.trans s46
      have s06 := s04.trans s46
      have hG6 := s46 _ _ hG4
      have gi6 := gi.keep fun b o _ e => s46 b o e
      clear gi hD2 nB
      have u36 := Bx.Same.tup s06 u3
      have t36 := Bx.Same.tup s06 t3
      have t46 := dpAll_same s06 t4
      -- the pairs
      walk_at "rd"
      refine ⟨⟨_, t36⟩, fun D3 hD3 => ?_⟩
      refine walk_any walk_tup (fun i H' => Same H6 H' ∧ ∃ us, H' D3 = some (.lst us) ∧ DpAll K (mn H' [D3]) us (((t.2.take i).flatMap fun r => (grp t u r).map fun o => r ++ o).map lrowD)) ⟨same_new hD3, [], upd_same, .nil⟩ (fun i H' _ h => Bx.Same.tup h.1 t36) ?_ ?_
      · rintro i x H7a H7 hi ⟨s7, us, hM, hda⟩ ⟨rfl, hx⟩
        obtain ⟨r, hr0, dr⟩ := da_atM t46 hx
        obtain ⟨rq, rfl, hrq⟩ := row_dp dr
        have rm := List.mem_of_getElem? hr0
        have i27 : i ≤ 27 := by
          have := hi
          omega
        have len7 : ((t.2.take i).flatMap fun r => (grp t u r).map fun o => r ++ o).length ≤ 27 * 27 := by
          refine Nat.le_trans (flat_len (n := 27) _ fun a _ => by rw [List.length_map]; exact grp_len ur) (Nat.mul_le_mul_right _ ?_)
          exact Nat.le_trans (List.length_take_le' i _) tr
        refine ⟨rfl, ?_⟩
        walk_at "rd"
        have hG7 := s7 _ _ hG6
        refine ⟨.inr ⟨_, .inl hG7⟩, ?_⟩
        walk_at "rd"
        show spVal K _ _ _ _
        unfold spVal
        refine ⟨a1, rq, D, t.1, r, shr t u, rfl, PlT.same (s06.trans s7) t2, Bx.Same.tup s7 hrq, sq (s7 _ _ (s46 _ _ hS4)), sv, ht.len rm, by omega, fun kp H8 s8 nkp hkp => ?_⟩
        walk_at "rd"
        refine ⟨sz (by decide), fun E nE => ?_⟩
        have s9 := same_new nE (o := .lst ([] : List V))
        have hE := upd_same (H := H8) (a := E) (o := .lst ([] : List V))
        generalize upd H8 E (.lst []) = H9 at s9 hE ⊢
        have s79 := s8.trans s9
        refine ⟨_, DGet.t (k := kk (pk t.1 r (shr t u))) (s79 _ _ hG7) (by rw [kk_kV]; exact s9 _ _ hkp), ?_⟩
        obtain ⟨l, os, el, hl, dl, lD⟩ : ∃ l os, (valV kvs (kk (pk t.1 r (shr t u)))).getD (V.ref E) = .ref l ∧ H9 l = some (.lst os) ∧ DpAll K H2 os ((grp t u r).map rowD) ∧ l ≠ D3 := by
          cases e : valV kvs (kk (pk t.1 r (shr t u))) with
          | none =>
            have z := gi6.gone _ e
            rw [grp_kk] at z
            exact ⟨E, [], rfl, hE, by rw [z]; exact .nil, fun e => by rw [e, s8 _ _ hM] at nE; cases nE⟩
          | some v =>
            obtain ⟨l, os, rfl, _, _, hl, dl⟩ := gi6.here _ _ e
            rw [grp_kk] at dl
            exact ⟨l, os, rfl, s79 _ _ (s7 _ _ hl), dl, fun e => by rw [e, hD3] at hl; cases hl⟩
        rw [el]
        have ol : os.length = (grp t u r).length := by rw [da_len dl, List.length_map]
        have hM9 := s79 _ _ hM
        have s69 := s7.trans s79
        refine ⟨l, rfl, ⟨_, sq hl⟩, ?_⟩
        refine walk_any walk_list (fun j H' => Same H6 H' ∧ H' l = some (.lst os) ∧ ∃ us, H' D3 = some (.lst us) ∧ DpAll K (mn H' [D3]) us ((((t.2.take i).flatMap fun r => (grp t u r).map fun o => r ++ o) ++ ((grp t u r).take j).map fun o => r ++ o).map lrowD)) ⟨s69, hl, us, hM9, by
          rw [List.take_zero, List.map_nil, List.append_nil]
          exact dpAll_same (mn_all s79) hda⟩ (fun j H' _ h => sq h.2.1) ?_ ?_
        · rintro j x H10a H10 hj ⟨s10, hl10, us, hM, hda⟩ ⟨rfl, hx⟩
          obtain ⟨o, ho0, dro⟩ := da_atM dl hx
          obtain ⟨oq, rfl, hoq⟩ := row_dp dro
          refine ⟨rfl, ?_⟩
          walk_at "rd"
          refine ⟨_, _, rfl, .inl (Bx.Same.tup s10 hrq), ?_⟩
          walk_at "rd"
          refine ⟨_, _, rfl, .inl (Bx.Same.tup (s26.trans s10) hoq), ?_⟩
          walk_at "rd"
          have rl3 := ht.len rm
          have ol3 := hu2.len ((List.mem_filter.mp (List.mem_of_getElem? ho0)).1)
          refine ⟨sz (by rw [List.length_append, List.length_append, List.length_map, List.length_map]; show r.length + (o.length + 0) ≤ 100000; omega), fun N nN => ?_⟩
          have eN : r.map V.int ++ (o.map V.int ++ []) = (r ++ o).map V.int := by rw [List.append_nil, List.map_append]
          rw [eN]
          have s11 := same_new nN (o := .lst ((r ++ o).map V.int))
          have hN := upd_same (H := H10) (a := N) (o := .lst ((r ++ o).map V.int))
          generalize upd H10 N (.lst ((r ++ o).map V.int)) = H11 at s11 hN ⊢
          have hM11 := s11 _ _ hM
          have ND : N ≠ D3 := fun e => by
            rw [e, hM] at nN
            cases nN
          have ul3 : us.length < 100000 := by
            rw [da_len hda, List.length_map, List.length_append, List.length_map]
            have z1 := grp_len (t := t) (r := r) ur
            have z2 := List.length_take_le' j (grp t u r)
            omega
          refine ⟨us, hM11, szl ul3, same_at hD3 (s10.trans s11), by rw [upd_ne lD]; exact s11 _ _ hl10, us ++ [.ref N], upd_same, ?_⟩
          rw [mn_upd (by simp), List.take_add_one, ho0, List.map_append (f := fun o => r ++ o), ← List.append_assoc, List.map_append (f := lrowD)]
          refine da_app (dpAll_same (mn_all s11) hda) (da_one (dp_lrow (r := r ++ o) (sq ?_)))
          rw [mn_out (by simp [ND])]
          exact hN
        · rintro H10 ⟨s10, hl10, us, hM, hda⟩
          rw [ol, List.take_length] at hda
          refine ⟨s10, us, hM, ?_⟩
          rw [take_flat hr0]
          exact hda
      · rintro H7 ⟨s7, us, hM, hda⟩
        rw [l1, List.take_length] at hda
        have hda7 : DpAll K H7 us ((t.2.flatMap fun r => (grp t u r).map fun o => r ++ o).map lrowD) := dpAll_same mn_same hda
        have lall : (t.2.flatMap fun r => (grp t u r).map fun o => r ++ o).length ≤ 27 * 27 := Nat.le_trans (flat_len (n := 27) _ fun a _ => by rw [List.length_map]; exact grp_len ur) (Nat.mul_le_mul_right _ tr)
        have eall : (t.2.flatMap fun r => (grp t u r).map fun o => r ++ o).map (fun x => pk (t.1 ++ u.1) x ys) = joinL t u ys := by
          unfold joinL
          rw [List.map_flatMap]
          congr 1
          funext r
          rw [List.map_map]
          rfl
        have hlen : ∀ x ∈ (t.2.flatMap fun r => (grp t u r).map fun o => r ++ o), x.length = (t.1 ++ u.1).length := fun x hx => by
          obtain ⟨r, hr1, hx⟩ := List.mem_flatMap.mp hx
          obtain ⟨o, ho1, rfl⟩ := List.mem_map.mp hx
          rw [List.length_append, List.length_append, ht.len hr1, hu2.len (List.mem_filter.mp ho1).1]
        clear hda
        generalize (t.2.flatMap fun r => (grp t u r).map fun o => r ++ o) = A at hda7 lall eall hlen
        have ua : us.length = A.length := by rw [da_len hda7, List.length_map]
        have hP7 := s7 _ _ hP
        walk_at "rd"
        refine ⟨⟨_, sq hM⟩, fun D4 hD4 => ?_⟩
        refine lc_it walk_list (fun i H' => Same H7 H' ∧ ∃ vs, H' D4 = some (.lst vs) ∧ DpAll K (mn H' [D4]) vs (((A.take i).map fun x => pk (t.1 ++ u.1) x ys).map rowD)) ⟨same_new hD4, [], upd_same, .nil⟩ (fun i H' _ h => sq (h.1 _ _ hM)) ?_ ?_
        · rintro i x H8a H8 hi ⟨s8, vs, hV, hdv⟩ ⟨rfl, hx⟩
          obtain ⟨x0, hx0, dx⟩ := da_atM hda7 hx
          obtain ⟨xq, rfl, hxq⟩ := lrow_dp dx
          have xl := hlen x0 (List.mem_of_getElem? hx0)
          refine ⟨rfl, ?_⟩
          walk_at "rd"
          have hP8 := s8 _ _ hP7
          refine ⟨⟨_, sq hP8⟩, fun D5 hD5 => ?_⟩
          refine lc_it walk_list (fun j H' => H' = upd H8 D5 (.lst ((pk (t.1 ++ u.1) x0 (ys.take j)).map V.int))) rfl (fun j H' _ e => e ▸ sq (same_new hD5 _ _ hP8)) ?_ ?_
          · rintro j v H9a H9 hj rfl ⟨rfl, hx2⟩
            obtain ⟨z, hz, rfl⟩ := at_map hx2
            have zn : z ∈ t.1 ++ u.1 := List.mem_append.mpr ((hy z).mp (List.mem_of_getElem? hz))
            refine ⟨rfl, ?_⟩
            walk_at "rd"
            have s9 := same_new hD5 (o := .lst ((pk (t.1 ++ u.1) x0 (ys.take j)).map V.int))
            refine ⟨_, _, _, _, rfl, rfl, (s8.trans s9).seq hxq, val_at zn xl, ?_⟩
            refine ⟨_, upd_same, ?_, ?_⟩
            · unfold pk
              rw [List.length_map, List.length_map]
              exact szl (Nat.lt_of_le_of_lt (List.length_take_le' j _) (by omega))
            · rw [upd_upd, List.take_add_one, hz]
              unfold pk
              rw [List.map_append, List.map_append]
              rfl
          rintro H9 rfl
          rw [List.length_map, List.take_length]
          have s9 := same_new hD5 (o := .lst ((pk (t.1 ++ u.1) x0 ys).map V.int))
          have hW := upd_same (H := H8) (a := D5) (o := .lst ((pk (t.1 ++ u.1) x0 ys).map V.int))
          generalize upd H8 D5 (.lst ((pk (t.1 ++ u.1) x0 ys).map V.int)) = H9 at s9 hW ⊢
          refine ⟨D5, _, rfl, .inl ⟨sq hW, fun N nN => ?_⟩⟩
          have s10 := same_new nN (o := .tup ((pk (t.1 ++ u.1) x0 ys).map V.int))
          have hN := upd_same (H := H9) (a := N) (o := .tup ((pk (t.1 ++ u.1) x0 ys).map V.int))
          generalize upd H9 N (.tup ((pk (t.1 ++ u.1) x0 ys).map V.int)) = H10 at s10 hN ⊢
          have s810 := s9.trans s10
          have hV10 := s810 _ _ hV
          have ND : N ≠ D4 := fun e => by
            rw [e, s9 _ _ hV] at nN
            cases nN
          refine ⟨vs, hV10, szl ?_, same_at hD4 (s8.trans s810), vs ++ [.ref N], upd_same, ?_⟩
          · rw [da_len hdv, List.length_map, List.length_map]
            have := List.length_take_le' i A
            omega
          rw [mn_upd (by simp), List.take_add_one, hx0, List.map_append, List.map_append]
          refine da_app (dpAll_same (mn_all s810) hdv) (da_one (dp_row (r := pk (t.1 ++ u.1) x0 ys) (sqt ?_)))
          rw [mn_out (by simp [ND])]
          exact hN
        · rintro H8 ⟨s8, vs, hV, hdv⟩
          rw [ua, List.take_length, eall] at hdv
          have jl : (joinL t u ys).length = A.length := by rw [← eall, List.length_map]
          refine ⟨D4, vs, _, rfl, sq hV, dpAll_same mn_same hdv, alike_rows _, fun d hd => ?_, by rw [List.length_map, jl]; exact sz (by omega), fun d hd => ?_, fun zs sp nsp dz => ?_⟩
          · obtain ⟨r, _, rfl⟩ := List.mem_map.mp hd
            exact ⟨_, rfl⟩
          · obtain ⟨r, _, rfl⟩ := List.mem_map.mp hd
            exact row_depth r
          rw [rows_sort] at dz
          have s9 := same_new nsp (o := .lst zs)
          have hsp := upd_same (H := H8) (a := sp) (o := .lst zs)
          have dz9 := dpAll_same s9 dz
          generalize upd H8 sp (.lst zs) = H9 at s9 hsp dz9 ⊢
          refine ⟨sp, _, rfl, .inl ⟨sq hsp, fun tp ntp => ?_⟩⟩
          have s10 := same_new ntp (o := .tup zs)
          have htp := upd_same (H := H9) (a := tp) (o := .tup zs)
          have dz10 := dpAll_same s10 dz9
          generalize upd H9 tp (.tup zs) = H10 at s10 htp dz10 ⊢
          refine ⟨sz (by show 2 ≤ 100000; decide), fun R nR => ?_⟩
          have s11 := same_new nR (o := .tup [.ref ya, .ref tp])
          have sEnd : Same H6 (upd H10 R (.tup [.ref ya, .ref tp])) := s7.trans (s8.trans (s9.trans (s10.trans s11)))
          exact q0 R ys _ (s06.trans sEnd) ⟨ya, tp, zs, sqt upd_same, PlT.same (s6.trans sEnd) hya5, Bx.Same.tup s11 (sqt htp), dpAll_same s11 dz10⟩ st nd hy
end
end K19
namespace K19
local macro_rules | `(tactic| walk_at "rd") => `(tactic| repeat (first | refine ⟨rfl, ?_⟩ | refine ⟨_, rfl, ?_⟩ | refine ⟨_, _, rfl, rfl, ?_⟩ | refine ⟨⟨_, rfl⟩, ?_⟩))
open PySem PySem.Spec PyProof.Rows L2 Bx TL Dx Zx Ow Sup NdefX Px
theorem cut_pre (xs : List V) (k : Nat) : cutV xs none (some (k : Int)) = xs.take k := by
  unfold cutV
  rw [HT.sIx_nat]
  show (xs.drop 0).take (min k xs.length - 0) = xs.take k
  rw [List.drop_zero, Nat.sub_zero, ← List.take_eq_take_min]
theorem plain_row : ∀ r : Row, Sd.plains (r.map PyData.int) = true
  | [] => rfl
  | x :: r => by
    show (Sd.plain (.int x) && Sd.plains (r.map PyData.int)) = true
    rw [plain_row r]
    rfl
theorem nk_row : ∀ r : Row, NestedKey.depthAll (Sd.nks (r.map PyData.int)) ≤ 0
  | [] => Nat.le_refl _
  | x :: r => by
    have ih := nk_row r
    show max (Sd.nk (.int x)).depth (NestedKey.depthAll (Sd.nks (r.map PyData.int))) ≤ 0
    have e : (Sd.nk (.int x)).depth = 0 := rfl
    omega
theorem k8_row (r : Row) : Sd.K8 (rowD r) := by
  have z := nk_row r
  refine ⟨⟨_, rfl⟩, plain_row r, ?_, row_depth r⟩
  show NestedKey.depthAll (Sd.nks (r.map PyData.int)) + 1 ≤ 8
  omega
theorem row_inj {r s : Row} (h : rowD r = rowD s) : r = s := by
  have e : r.map PyData.int = s.map PyData.int := PyData.tuple.inj h
  have e2 := congrArg (List.map fun d : PyData => match d with | .int i => i | _ => (0 : Int)) e
  rwa [List.map_map, List.map_map, show ((fun d : PyData => match d with | .int i => i | _ => (0 : Int)) ∘ PyData.int) = id from rfl, List.map_id, List.map_id] at e2
theorem unmap {α : Type} {f : α → PyData} : ∀ {l : List PyData}, (∀ d ∈ l, ∃ x, f x = d) → ∃ m : List α, l = m.map f
  | [], _ => ⟨[], rfl⟩
  | d :: l, h => by
    obtain ⟨x, rfl⟩ := h d (List.mem_cons_self ..)
    obtain ⟨m, rfl⟩ := unmap fun e he => h e (List.mem_cons_of_mem _ he)
    exact ⟨x :: m, rfl⟩
theorem perm_unmap {α : Type} {f : α → PyData} (inj : ∀ x y, f x = f y → x = y) {l m : List α} (h : (l.map f).Perm (m.map f)) : l.Perm m := by
  classical
  refine List.perm_iff_count.mpr fun x => ?_
  have cnt : ∀ k : List α, (k.map f).count (f x) = k.count x := fun k => by
    rw [List.count_eq_countP, List.countP_map, List.count_eq_countP]
    refine List.countP_congr fun y _ => ?_
    simp only [Function.comp, beq_iff_eq]
    exact ⟨fun e => inj _ _ e, fun e => by rw [e]⟩
  rw [← cnt l, ← cnt m]
  exact List.perm_iff_count.mp h (f x)
theorem lay_rows (L : List Row) : Lays 2 (L.map rowD) := lays_of fun d hd => by
  obtain ⟨r, _, rfl⟩ := List.mem_map.mp hd
  exact lay_tuple (lays_ints (n := 1))
theorem len_243 {t : Tab} (h : TOk t) (l : t.1.length ≤ 5) : t.2.length ≤ 243 := Nat.le_trans h.rows.length_le (by rw [rowsN_num]; exact Nat.pow_le_pow_right (by decide) l)
theorem filter_some (p : Row → Bool) : ∀ L : List Row, (!(L.filter p).isEmpty) = L.any p
  | [] => rfl
  | r :: L => by
    rw [List.any_cons, ← filter_some p L]
    by_cases c : p r = true
    · rw [List.filter_cons_of_pos c, c]
      rfl
    · rw [List.filter_cons_of_neg c, Bool.eq_false_iff.mpr c]
      rfl
/-! ### what is decided -/
abbrev As := List (Str × Int)
def asV (l : As) : List (Key × V) := l.map fun p => (.inr p.1, .int p.2)
def lk (l : As) (z : Str) : Option Int := (l.find? fun p => decide (p.1 = z)).map (·.2)
theorem val_as : ∀ (l : As) (z : Str), valV (asV l) (.inr z) = (lk l z).map V.int
  | [], _ => rfl
  | p :: r, z => by
    have ih := val_as r z
    unfold lk at ih ⊢
    by_cases e : p.1 = z
    · have e2 : ((.inr p.1 : Key), V.int p.2).1 = .inr z := congrArg Sum.inr e
      show valV (((.inr p.1 : Key), V.int p.2) :: asV r) (.inr z) = _
      rw [valV_pos e2, List.find?_cons, decide_eq_true e]
      rfl
    · have e2 : ¬ ((.inr p.1 : Key), V.int p.2).1 = .inr z := fun h => e (Sum.inr.inj h)
      show valV (((.inr p.1 : Key), V.int p.2) :: asV r) (.inr z) = _
      rw [valV_neg e2, List.find?_cons, decide_eq_false e]
      exact ih
/-- the places of decided names, with their values -/
def wants (ns : List Str) (l : As) (ws : List Str) : List (Nat × Int) := (ws.filter fun z => (lk l z).isSome).map fun z => (ns.idxOf z, (lk l z).getD 0)
def prD (x : Nat × Int) : PyData := .tuple [.int (x.1 : Nat), .int x.2]
def okR (ns : List Str) (l : As) (r : Row) : Bool := ((wants ns l ns).map fun x => decide (V.int (r.getD x.1 0) = V.int x.2)).all id
theorem wants_step {ns ws : List Str} {l : As} {i : Nat} {z : Str} (h : ws[i]? = some z) : wants ns l (ws.take (i + 1)) = wants ns l (ws.take i) ++ if (lk l z).isSome = true then [(ns.idxOf z, (lk l z).getD 0)] else [] := by
  unfold wants
  rw [List.take_add_one, h, List.filter_append, List.map_append]
  congr 1
  by_cases c : (lk l z).isSome = true
  · simp [c]
  · simp [c]
section
variable {P : Program} {w : World} {K : PySem.W.Frag} {mg : Str → Option Value} {base : Heap}
@[irreducible] def spDrop (K : PySem.W.Frag) : Sp := fun vs H Q _ => ∃ (p : Addr) (t : Tab) (z : Str), vs = [.ref p, .str z] ∧ TabAt K H p t ∧ TOk t ∧ t.1.length ≤ 5 ∧ z ∈ t.1 ∧
  ∀ r (L : List Row) H', Same H H' → Dp K H' (.ref r) (tabD (t.1.filter fun y => decide (y ≠ z), L.mergeSort rle)) → L.Nodup → (∀ x, x ∈ L ↔ x ∈ dropR t z) → Q (.ref r) H'
set_option maxHeartbeats 2000000 in
theorem ok_drop {f : Addr} {fd : FuncData} (F : Fun K "drop_column" "drop_column" s_drop_column f fd) (m_set : mg "set" = none) (m_sorted : mg "sorted" = none) (m_tuple : mg "tuple" = none) : FnOk P w K mg base CX0 1 f fd ["constraint", "name"] (spDrop K) := by
  refine F.ok sc_drop_column (fun vs H Q E h => ?_) (fun cdv A outer s H vs Q E hr h => ?_)
  · unfold spDrop at h
    obtain ⟨p, t, z, rfl, _⟩ := h
    rfl
  · unfold spDrop at h
    obtain ⟨p, t, z, rfl, hp, ht, tl, hz, q0⟩ := h
    have tr := len_243 ht tl
    obtain ⟨a1, b1, us1, t1, t2, t3, t4⟩ := hp
    have l1 : us1.length = t.2.length := by rw [da_len t4, List.length_map]
    refine ⟨_, (pss_cons (ps_asg (pv 0) (pg_tup rfl (pgs_cons (pg_name (i := 4) sc_drop_column.nd rfl (Or.inl rfl)) (pgs_cons (pg_name (i := 5) sc_drop_column.nd rfl (Or.inl rfl)) pgs_nil))))
    (pss_cons (ps_set (i := 2) sc_drop_column.nd rfl (Or.inr rfl) (TiX.pe_tix (pv 4) (pa_cons (pv 1) pa_nil)))
    (pss_cons (ps_set (i := 3) sc_drop_column.nd rfl (Or.inl rfl) (pe_callB (id := "sorted") (Se.cr_sortN (w := w) rfl rfl (room hr)) (by rfl) m_sorted (by decide +kernel) (pa_cons (pe_callTy (T := "set") (Se.cr_setN (w := w) rfl rfl (room hr)) (by rfl) m_set (by decide +kernel) (pa_cons (pe_lc (own := [("row", 6)]) (tt := tYes) rfl sc_drop_column.nd (pi_tup (pv 5)) (blkOk_by (N := n_drop_column) (sc := defScope s_drop_column) (by decide +kernel)) (fun _ _ _ _ _ => pg_name (i := 6) sc_drop_column.nd rfl (Or.inl rfl)) (fun _ _ _ _ _ => pts_nil) (fun _ _ _ _ _ => (pe_tup (pa_starK (K0 := K) rfl (pe_slice (sl_tupAK (K := K) rfl) (pv 6) po_none (po_some (pv 2))) (pa_starK (K0 := K) rfl (pe_slice (sl_tupAK (K := K) rfl) (pv 6) (po_some (pe_op op_add (pv 2) pe_int)) po_none) pa_nil))))) pa_nil)) pa_nil)))
    (pss_one (ps_ret (pe_tup (pa_cons (pe_tup (StX.pa_star (pe_slice sl_tupA (pv 4) po_none (po_some (pv 2))) (StX.pa_star (pe_slice sl_tupA (pv 4) (po_some (pe_op op_add (pv 2) pe_int)) po_none) pa_nil))) (pa_cons (pe_callTy (T := "tuple") call_tuple_of (by rfl) m_tuple (by decide +kernel) (pa_cons (pv 3) pa_nil)) pa_nil)))))))), ?_⟩
    walk_at "rd"
    refine ⟨_, _, rfl, t1, rfl, _, _, rfl, _, _, rfl, rfl, ?_⟩
    walk_at "rd"
    obtain ⟨i1, i2⟩ := idx_at hz
    refine ⟨_, t.1, rfl, t2, ?_⟩
    walk_at "rd"
    refine ⟨z, t.1.idxOf z, rfl, t2, i1, i2, ?_⟩
    walk_at "rd"
    refine ⟨⟨_, t3⟩, fun D hD => ?_⟩
    refine lc_it walk_tup (fun i H' => Same H H' ∧ ∃ us, H' D = some (.lst us) ∧ DpAll K (mn H' [D]) us (((t.2.take i).map fun r => pk t.1 r (t.1.filter fun y => decide (y ≠ z))).map rowD)) ⟨same_new hD, [], upd_same, .nil⟩ (fun i H' _ h => Bx.Same.tup h.1 t3) ?_ ?_
    · rintro i x H2a H2 hi ⟨s2, us, hM, hda⟩ ⟨rfl, hx⟩
      obtain ⟨r, hr0, dr⟩ := da_atM t4 hx
      obtain ⟨rq, rfl, hrq⟩ := row_dp dr
      have rl := ht.len (List.mem_of_getElem? hr0)
      refine ⟨rfl, ?_⟩
      walk_at "rd"
      refine slice_any (Bx.Same.tup s2 hrq) fun c1 H3 s3 h3 => ?_
      rw [cut_pre] at h3
      refine ⟨_, _, rfl, .inl h3, ?_⟩
      walk_at "rd"
      unfold tNoPart
      refine slice_any (Bx.Same.tup (s2.trans s3) hrq) fun c2 H4 s4 h4 => ?_
      rw [show ((t.1.idxOf z : Nat) : Int) + 1 = ((t.1.idxOf z + 1 : Nat) : Int) from rfl, cut_suf] at h4
      refine ⟨_, _, rfl, .inl h4, ?_⟩
      walk_at "rd"
      have ec : (r.map V.int).take (t.1.idxOf z) ++ ((r.map V.int).drop (t.1.idxOf z + 1) ++ []) = (pk t.1 r (t.1.filter fun y => decide (y ≠ z))).map V.int := by
        rw [List.append_nil, ← cut_row ht.nd rl, List.map_append, List.map_take, List.map_drop]
      dsimp only [tNil]
      rw [ec]
      refine ⟨sz (by rw [List.length_map, pk_len]; exact Nat.le_trans (List.length_filter_le _ _) (by omega)), fun N nN => ?_⟩
      have s5 := same_new nN (o := .tup ((pk t.1 r (t.1.filter fun y => decide (y ≠ z))).map V.int))
      have hN := upd_same (H := H4) (a := N) (o := .tup ((pk t.1 r (t.1.filter fun y => decide (y ≠ z))).map V.int))
      generalize upd H4 N (.tup ((pk t.1 r (t.1.filter fun y => decide (y ≠ z))).map V.int)) = H5 at s5 hN ⊢
      have s35 := s3.trans (s4.trans s5)
      have hM5 := s35 _ _ hM
      have ND : N ≠ D := fun e => by
        rw [e, s4 _ _ (s3 _ _ hM)] at nN
        cases nN
      refine ⟨us, hM5, szl ?_, same_at hD (s2.trans s35), us ++ [.ref N], upd_same, ?_⟩
      · rw [da_len hda, List.length_map, List.length_map]
        have := List.length_take_le' i t.2
        omega
      rw [mn_upd (by simp), List.take_add_one, hr0, List.map_append, List.map_append]
      refine da_app (dpAll_same (mn_all s35) hda) (da_one (dp_row (r := pk t.1 r (t.1.filter fun y => decide (y ≠ z))) (sqt ?_)))
      rw [mn_out (by simp [ND])]
      exact hN
    · rintro H2 ⟨s2, us, hM, hda⟩
      rw [l1, List.take_length] at hda
      have hda2 : DpAll K H2 us ((dropR t z).map rowD) := dpAll_same mn_same hda
      have dl : (dropR t z).length = t.2.length := List.length_map _
      refine ⟨D, us, (dropR t z).map rowD, rfl, .inl (sq hM), hda2, fun d hd => (by obtain ⟨c, _, rfl⟩ := List.mem_map.mp hd; exact k8_row c), by rw [List.length_map]; omega, fun S L es nS dS kS ndS mS lS => ?_⟩
      obtain ⟨fs, rfl⟩ := unmap (f := rowD) (l := es) fun d hd => (by obtain ⟨c, _, e⟩ := List.mem_map.mp ((mS d).mp hd); exact ⟨c, e⟩)
      have s3 := same_new nS (o := Se.SetN w S L)
      rw [List.length_map, List.length_map] at lS
      refine ⟨S, L, fs.map rowD, rfl, upd_same, dpAll_same s3 dS, kS, alike_rows fs, fun d hd => (by obtain ⟨c, _, rfl⟩ := List.mem_map.mp hd; exact k8_row c), by rw [List.length_map]; omega, fun ys gs R nR pg dR => ?_⟩
      have s4 := same_new nR (o := .lst ys)
      have hR := upd_same (H := upd H2 S (Se.SetN w S L)) (a := R) (o := .lst ys)
      have s24 := s3.trans s4
      obtain ⟨es, rfl⟩ := unmap (f := rowD) (l := gs) fun d hd => (by obtain ⟨c, _, e⟩ := List.mem_map.mp (pg.mem_iff.mp hd); exact ⟨c, e⟩)
      rw [rows_sort] at dR
      have dR2 := dpAll_same s4 dR
      have pe : es.Perm fs := perm_unmap (fun x y e => row_inj e) pg
      have ndE : es.Nodup := pe.nodup_iff.mpr (Sd.nodup_of rowD ndS)
      have mE : ∀ c, c ∈ es ↔ c ∈ dropR t z := fun c => by
        rw [pe.mem_iff]
        have y := mS (rowD c)
        rw [List.mem_map, List.mem_map] at y
        constructor
        · intro h
          obtain ⟨c', h1, h2⟩ := y.mp ⟨c, h, rfl⟩
          rw [← row_inj h2]
          exact h1
        · intro h
          obtain ⟨c', h1, h2⟩ := y.mpr ⟨c, h, rfl⟩
          rw [← row_inj h2]
          exact h1
      generalize upd (upd H2 S (Se.SetN w S L)) R (.lst ys) = H3 at s24 hR dR2 ⊢
      have s03 := s2.trans s24
      walk_at "rd"
      refine slice_any (Bx.Same.tup s03 t2.sq) fun c1 H4 s4 h4 => ?_
      rw [cut_pre] at h4
      refine ⟨_, _, rfl, .inl h4, ?_⟩
      walk_at "rd"
      unfold tNoPart
      refine slice_any (Bx.Same.tup (s03.trans s4) t2.sq) fun c2 H5 s5 h5 => ?_
      rw [show ((t.1.idxOf z : Nat) : Int) + 1 = ((t.1.idxOf z + 1 : Nat) : Int) from rfl, cut_suf] at h5
      refine ⟨_, _, rfl, .inl h5, ?_⟩
      walk_at "rd"
      have ec : (t.1.map V.str).take (t.1.idxOf z) ++ ((t.1.map V.str).drop (t.1.idxOf z + 1) ++ []) = (t.1.filter fun y => decide (y ≠ z)).map V.str := by
        rw [List.append_nil, ← cut_names ht.nd, List.map_append, List.map_take, List.map_drop]
      dsimp only [tNil]
      rw [ec]
      refine ⟨sz (by rw [List.length_map]; exact Nat.le_trans (List.length_filter_le _ _) (by omega)), fun N nN => ?_⟩
      have s6 := same_new nN (o := .tup ((t.1.filter fun y => decide (y ≠ z)).map V.str))
      have hN := upd_same (H := H5) (a := N) (o := .tup ((t.1.filter fun y => decide (y ≠ z)).map V.str))
      generalize upd H5 N (.tup ((t.1.filter fun y => decide (y ≠ z)).map V.str)) = H6 at s6 hN ⊢
      have s36 := s4.trans (s5.trans s6)
      walk_at "rd"
      refine ⟨R, _, rfl, .inl ⟨sq (s36 _ _ hR), fun tp ntp => ?_⟩⟩
      have s7 := same_new ntp (o := .tup ys)
      have htp := upd_same (H := H6) (a := tp) (o := .tup ys)
      generalize upd H6 tp (.tup ys) = H7 at s7 htp ⊢
      refine ⟨sz (by show 2 ≤ 100000; decide), fun Rr nRr => ?_⟩
      have s8 := same_new nRr (o := .tup [.ref N, .ref tp])
      refine q0 Rr es _ (s03.trans (s36.trans (s7.trans s8))) (.tup (sqt upd_same) (.cons (names_dp (sqt (s8 _ _ (s7 _ _ hN)))) (.cons (.tup (sqt (s8 _ _ htp)) (dpAll_same (s36.trans (s7.trans s8)) dR2)) .nil))) ndE mE
@[irreducible] def spAgree (K : PySem.W.Frag) : Sp := fun vs H Q _ => ∃ (p d : Addr) (t : Tab) (l : As), vs = [.ref p, .ref d] ∧ TabAt K H p t ∧ TOk t ∧ t.1.length ≤ 5 ∧ H d = some (.dK (asV l)) ∧
  ∀ r H', Same H H' → TabAt K H' r (t.1, t.2.filter (okR t.1 l)) → Q (.ref r) H'
set_option maxHeartbeats 2000000 in
theorem ok_agreeing {f : Addr} {fd : FuncData} (F : Fun K "agreeing" "agreeing" s_agreeing f fd) (m_all : mg "all" = none) (m_tuple : mg "tuple" = none) : FnOk P w K mg base CX0 1 f fd ["constraint", "decided"] (spAgree K) := by
  refine F.ok sc_agreeing (fun vs H Q E h => ?_) (fun cdv A outer s H vs Q E hr h => ?_)
  · unfold spAgree at h
    obtain ⟨p, d, t, l, rfl, _⟩ := h
    rfl
  · unfold spAgree at h
    obtain ⟨p, d, t, l, rfl, hp, ht, tl, hd, q0⟩ := h
    have tr := len_243 ht tl
    have hu := hu_of hr
    obtain ⟨a1, b1, us1, t1, t2, t3, t4⟩ := hp
    have l1 : us1.length = t.2.length := by rw [da_len t4, List.length_map]
    refine ⟨_, (pss_cons (ps_asg (pv 0) (pg_tup rfl (pgs_cons (pg_name (i := 3) sc_agreeing.nd rfl (Or.inr rfl)) (pgs_cons (pg_name (i := 4) sc_agreeing.nd rfl (Or.inl rfl)) pgs_nil))))
    (pss_cons (ps_set (i := 2) sc_agreeing.nd rfl (Or.inr rfl) (pe_lc (own := [("name", 5)]) rfl sc_agreeing.nd (pi_tup (pv 3)) (blkOk_by (N := n_agreeing) (sc := defScope s_agreeing) (by decide +kernel)) (fun _ _ _ _ _ => pg_name (i := 5) sc_agreeing.nd rfl (Or.inl rfl)) (fun _ _ _ _ _ => pts_one (pt_cmp (pc_din hu (pv 5) (pv 1)))) (fun _ _ _ _ _ => (pe_tup (pa_cons (TiX.pe_tix (pv 3) (pa_cons (pv 5) pa_nil)) (pa_cons (pe_dget hu (pv 1) (pv 5) (fun _ _ => rfl)) pa_nil))))))
    (pss_one (ps_ret (pe_tup (pa_cons (pv 3) (pa_cons (pe_callTy (T := "tuple") call_tuple_of (by rfl) m_tuple (by decide +kernel) (pa_cons (pe_lc (own := [("row", 6)]) rfl sc_agreeing.nd (pi_tup (pv 4)) (blkOk_by (N := n_agreeing) (sc := defScope s_agreeing) (by decide +kernel)) (fun _ _ _ _ _ => pg_name (i := 6) sc_agreeing.nd rfl (Or.inr rfl)) (fun _ _ _ _ _ => pts_one (pt_val (pe_callB (id := "all") (cr_allK (K := K) rfl rfl) (by rfl) m_all (by decide +kernel) (pa_cons (pe_lc (own := [("at", 7), ("value", 8)]) (wi := iList K (tVar 2)) (tt := tYes) rfl sc_agreeing.nd (pi_list (pv 2)) (Nx.blkOk_nest (N := n_agreeing) (sc := defScope s_agreeing) rfl (by decide +kernel)) (fun _ _ _ _ _ => pg_tupK (K := K) (n := 2) rfl rfl (pgs_cons (pg_name (i := 7) sc_agreeing.nd rfl (Or.inl rfl)) (pgs_cons (pg_name (i := 8) sc_agreeing.nd rfl (Or.inl rfl)) pgs_nil))) (fun _ _ _ _ _ => pts_nil) (fun _ _ _ _ _ => (pe_cmpR op_eq (pe_ix (ix_tupK (K := K) rfl) (pv 6) (pv 7) (fun _ _ => rfl)) (pv 8) (nomark _)))) pa_nil)))) (fun _ _ _ _ _ => (pv 6))) pa_nil)) pa_nil))))))), ?_⟩
    walk_at "rd"
    refine ⟨_, _, rfl, t1, rfl, _, _, rfl, _, _, rfl, rfl, ?_⟩
    walk_at "rd"
    refine ⟨⟨_, t2.sq⟩, fun D hD => ?_⟩
    refine lc_it walk_tup (fun i H' => Same H H' ∧ ∃ us, H' D = some (.lst us) ∧ DpAll K (mn H' [D]) us ((wants t.1 l (t.1.take i)).map prD) ∧ us.length ≤ i) ⟨same_new hD, [], upd_same, .nil, Nat.le_refl _⟩ (fun i H' _ h => (PlT.same h.1 t2).sq) ?_ ?_
    · rintro i v H2a H2 hi ⟨s2, us, hM, hda, ul⟩ ⟨rfl, hx⟩
      obtain ⟨z, hz, rfl⟩ := at_map hx
      rw [List.length_map] at hi
      refine ⟨rfl, ?_⟩
      walk_at "rd"
      refine ⟨_, _, rfl, DGet.k (k := .inr z) (s2 _ _ hd), ?_⟩
      rw [val_as, Option.isSome_map]
      refine ⟨_, rfl, ?_⟩
      rw [wants_step hz]
      refine ite2 (fun c => ?_) (fun c => ?_)
      · have c2 : (lk l z).isSome = true := c
        obtain ⟨y, ey⟩ := Option.isSome_iff_exists.mp c2
        walk_at "rd"
        obtain ⟨i1, i2⟩ := idx_at (List.mem_of_getElem? hz)
        refine ⟨_, t.1, rfl, PlT.same s2 t2, ?_⟩
        walk_at "rd"
        refine ⟨z, t.1.idxOf z, rfl, PlT.same s2 t2, i1, i2, ?_⟩
        walk_at "rd"
        have g := DGet.k (k := .inr z) (s2 _ _ hd)
        rw [val_as, ey] at g
        refine ⟨_, _, rfl, g, ?_⟩
        refine ⟨sz (by show 2 ≤ 100000; decide), fun N nN => ?_⟩
        have s3 := same_new nN (o := .tup [V.int ((t.1.idxOf z : Nat) : Int), V.int y])
        have hN := upd_same (H := H2) (a := N) (o := .tup [V.int ((t.1.idxOf z : Nat) : Int), V.int y])
        generalize upd H2 N (.tup [V.int ((t.1.idxOf z : Nat) : Int), V.int y]) = H3 at s3 hN ⊢
        have ND : N ≠ D := fun e => by
          rw [e, hM] at nN
          cases nN
        refine ⟨us, s3 _ _ hM, szl (by omega), same_at hD (s2.trans s3), us ++ [.ref N], upd_same, ?_, by rw [List.length_append]; show us.length + 1 ≤ _; omega⟩
        rw [mn_upd (by simp), if_pos c2, List.map_append, ey]
        refine da_app (dpAll_same (mn_all s3) hda) (da_one (.tup (sqt ?_) (.cons (.int _) (.cons (.int _) .nil))))
        rw [mn_out (by simp [ND])]
        exact hN
      · rw [if_neg (show ¬ (lk l z).isSome = true from c), List.append_nil]
        exact ⟨s2, us, hM, hda, by omega⟩
    rintro H2 ⟨s2, us, hM, hda, ul⟩
    rw [List.length_map, List.take_length] at hda
    have hda2 : DpAll K H2 us ((wants t.1 l t.1).map prD) := dpAll_same mn_same hda
    rw [List.length_map] at ul
    have wl : us.length = (wants t.1 l t.1).length := by rw [da_len hda2, List.length_map]
    clear hda
    have t32 := Bx.Same.tup s2 t3
    have t42 := dpAll_same s2 t4
    walk_at "rd"
    refine ⟨⟨_, t32⟩, fun D2 hD2 => ?_⟩
    refine lc_it walk_tup (fun i H' => Same H2 H' ∧ ∃ vs, H' D2 = some (.lst vs) ∧ DpAll K H2 vs (((t.2.take i).filter (okR t.1 l)).map rowD)) ⟨same_new hD2, [], upd_same, .nil⟩ (fun i H' _ h => Bx.Same.tup h.1 t32) ?_ ?_
    · rintro i v H3a H3 hi ⟨s3, vs, hV, hdv⟩ ⟨rfl, hx⟩
      obtain ⟨r, hr0, dr⟩ := da_atM t42 hx
      obtain ⟨rq, rfl, hrq⟩ := row_dp dr
      have rl := ht.len (List.mem_of_getElem? hr0)
      refine ⟨rfl, ?_⟩
      walk_at "rd"
      refine ⟨⟨_, sq (s3 _ _ hM)⟩, fun D3 hD3 => ?_⟩
      refine lc_it walk_list (fun j H' => H' = upd H3 D3 (.lst ((((wants t.1 l t.1).take j).map fun x => decide (V.int (r.getD x.1 0) = V.int x.2)).map V.bl))) rfl (fun j H' _ e => e ▸ sq (same_new hD3 _ _ (s3 _ _ hM))) ?_ ?_
      · rintro j v H4a H4 hj rfl ⟨rfl, hx2⟩
        obtain ⟨x, hx0, dx⟩ := da_atM hda2 hx2
        obtain ⟨q, xs, rfl, hq, ha⟩ := dp_tup dx
        have e2 : xs = [.int (x.1 : Nat), .int x.2] := by
          cases ha with
          | cons h1 h2 =>
            cases h2 with
            | cons h3 h4 =>
              cases h4
              rw [dp_int h1, dp_int h3]
        subst e2
        have s4 := same_new hD3 (o := .lst ((((wants t.1 l t.1).take j).map fun x => decide (V.int (r.getD x.1 0) = V.int x.2)).map V.bl))
        have xm := List.mem_of_getElem? hx0
        have x1 : x.1 < r.length := by
          unfold wants at xm
          obtain ⟨z, hz, rfl⟩ := List.mem_map.mp xm
          rw [rl]
          exact List.idxOf_lt_length_of_mem (List.mem_filter.mp hz).1
        refine ⟨_, _, rfl, Bx.Same.tup (s3.trans s4) hq, rfl, _, _, rfl, _, _, rfl, rfl, ?_⟩
        walk_at "rd"
        refine ⟨_, _, _, _, rfl, rfl, Bx.Same.tup (s3.trans s4) hrq, atI_nat (j := x.1) (v := .int (r.getD x.1 0)) (by rw [List.getElem?_map, List.getElem?_eq_getElem x1, List.getD_eq_getElem?_getD, List.getElem?_eq_getElem x1]; rfl), ?_⟩
        walk_at "rd"
        refine ⟨_, upd_same, ?_, ?_⟩
        · rw [List.length_map, List.length_map]
          exact szl (Nat.lt_of_le_of_lt (List.length_take_le' j _) (by omega))
        · rw [upd_upd, List.take_add_one, hx0, List.map_append, List.map_append]
          rfl
      rintro H4 rfl
      rw [wl, List.take_length]
      have s4 := same_new hD3 (o := .lst (((wants t.1 l t.1).map fun x => decide (V.int (r.getD x.1 0) = V.int x.2)).map V.bl))
      have hW := upd_same (H := H3) (a := D3) (o := .lst (((wants t.1 l t.1).map fun x => decide (V.int (r.getD x.1 0) = V.int x.2)).map V.bl))
      generalize upd H3 D3 (.lst (((wants t.1 l t.1).map fun x => decide (V.int (r.getD x.1 0) = V.int x.2)).map V.bl)) = H4 at s4 hW ⊢
      refine ⟨D3, _, rfl, sq hW, ?_⟩
      have eo : (((wants t.1 l t.1).map fun x => decide (V.int (r.getD x.1 0) = V.int x.2)).all id) = okR t.1 l r := rfl
      rw [eo]
      have ef : (t.2.take (i + 1)).filter (okR t.1 l) = (t.2.take i).filter (okR t.1 l) ++ if okR t.1 l r = true then [r] else [] := by
        rw [List.take_add_one, hr0, List.filter_append]
        congr 1
        by_cases c : okR t.1 l r = true <;> simp [c]
      rw [ef]
      refine ⟨_, rfl, ?_⟩
      refine ite2 (fun c => ?_) (fun c => ?_)
      · rw [if_pos c]
        walk_at "rd"
        have vl : vs.length < 100000 := by
          rw [da_len hdv, List.length_map]
          have z1 := List.length_filter_le (okR t.1 l) (t.2.take i)
          have z2 := List.length_take_le' i t.2
          omega
        refine ⟨vs, s4 _ _ hV, szl vl, same_at hD2 (s3.trans s4), vs ++ [.ref rq], upd_same, ?_⟩
        rw [List.map_append]
        exact da_app hdv (da_one (dp_row hrq))
      · rw [if_neg c, List.append_nil]
        exact ⟨s3.trans s4, vs, s4 _ _ hV, hdv⟩
    · rintro H3 ⟨s3, vs, hV, hdv⟩
      rw [l1, List.take_length] at hdv
      refine ⟨D2, _, rfl, .inl ⟨sq hV, fun tp ntp => ?_⟩⟩
      have s4 := same_new ntp (o := .tup vs)
      have htp := upd_same (H := H3) (a := tp) (o := .tup vs)
      generalize upd H3 tp (.tup vs) = H4 at s4 htp ⊢
      refine ⟨sz (by show 2 ≤ 100000; decide), fun R nR => ?_⟩
      have s5 := same_new nR (o := .tup [.ref a1, .ref tp])
      have s35 := s3.trans (s4.trans s5)
      exact q0 R _ (s2.trans s35) ⟨a1, tp, vs, sqt upd_same, PlT.same (s2.trans s35) t2, sqt (s5 _ _ htp), dpAll_same s35 hdv⟩
@[irreducible] def spCan (K : PySem.W.Frag) : Sp := fun vs H Q _ => ∃ (p d : Addr) (t : Tab) (l : As), vs = [.ref p, .ref d] ∧ TabAt K H p t ∧ TOk t ∧ t.1.length ≤ 5 ∧ H d = some (.dK (asV l)) ∧ ∀ H', Same H H' → Q (.bl (t.2.any (okR t.1 l))) H'
theorem ok_can_hold {f : Addr} {fd : FuncData} (F : Fun K "can_hold" "can_hold" s_can_hold f fd) (C_agreeing : Cal P w K mg base "agreeing" 1 ["constraint", "decided"] (spAgree K)) : FnOk P w K mg base CX0 2 f fd ["constraint", "decided"] (spCan K) := by
  refine F.ok sc_can_hold (fun vs H Q E h => ?_) (fun cdv A outer s H vs Q E hr h => ?_)
  · unfold spCan at h
    obtain ⟨p, d, t, l, rfl, _⟩ := h
    rfl
  · unfold spCan at h
    obtain ⟨p, d, t, l, rfl, hp, ht, tl, hd, q0⟩ := h
    refine ⟨_, (pss_one (ps_ret (pe_cmpR (op_neD hr.units) (pe_ix ix_tup (pe_cal C_agreeing (hr.mono (by decide)) (pa_cons (pv 0) (pa_cons (pv 1) pa_nil))) pe_int (fun _ _ => rfl)) (pe_tup pa_nil) (nomark _)))), ?_⟩
    walk_at "rd"
    show spAgree K _ _ _ _
    unfold spAgree
    refine ⟨p, d, t, l, rfl, hp, ht, tl, hd, fun r H1 s1 hr1 => ?_⟩
    obtain ⟨a1, b1, us1, t1, t2, t3, t4⟩ := hr1
    refine ⟨_, _, _, _, rfl, rfl, t1, atI_nat (j := 1) rfl, ?_⟩
    walk_at "rd"
    refine ⟨sz (by decide), fun N nN => ?_⟩
    have s2 := same_new nN (o := .tup ([] : List V))
    have hN := upd_same (H := H1) (a := N) (o := .tup ([] : List V))
    generalize upd H1 N (.tup []) = H2 at s2 hN ⊢
    refine ⟨_, _, .tup (Bx.Same.tup s2 t3) (dpAll_same s2 t4), .tup (sqt hN) .nil, shape (lay_tuple (lay_rows _)) (by decide), shape (n := 1) (lay_tuple lays_nil) (by decide), ?_⟩
    have e0 : ∀ L : List Row, (!PyData.eqv (.tuple (L.map rowD)) (.tuple [])) = !L.isEmpty := fun L => by cases L <;> rfl
    rw [e0, filter_some]
    exact q0 H2 (s1.trans s2)
end
end K19
namespace K19
local macro_rules | `(tactic| walk_at "rd") => `(tactic| repeat (first | refine ⟨rfl, ?_⟩ | refine ⟨_, rfl, ?_⟩ | refine ⟨_, _, rfl, rfl, ?_⟩ | refine ⟨⟨_, rfl⟩, ?_⟩))
open PySem PySem.Spec PyProof.Rows L2 Bx TL Dx Zx Ow Sup NdefX Px
def pool5 : List Str := ["a", "a1", "b", "b.c", "d"]
theorem pool_asc : Asc pool5 := by
  unfold Asc
  decide +kernel
def ext (r : Row) : List Row := (List.range 3).map fun i => r ++ [((i : Nat) : Int)]
theorem rowsN_ext (n : Nat) : rowsN (n + 1) = (rowsN n).flatMap ext := rfl
section
variable {P : Program} {w : World} {K : PySem.W.Frag} {mg : Str → Option Value} {base : Heap}
/-! ### the law's own: draws -/
theorem int_at {ns : List Int} {k : Nat} (h : k < ns.length) : atI (ns.map V.int) (k : Int) = some (V.int ns[k]) := atI_nat (by rw [List.getElem?_map, List.getElem?_eq_getElem h]; rfl)
def spSource (K : PySem.W.Frag) : Sp := fun vs H Q _ => ∃ (a : Addr) (ns : List Int) (k : Nat), vs = [.ref a, .int (k : Int)] ∧ SqL K H a (ns.map V.int) ∧ k ≤ 100 ∧ ∀ p n c, H p = none → Q (.ref p) (upd H p (.lst [.int n, .int c]))
theorem ok_source {f : Addr} {fd : FuncData} (F : Fun K "_law_source" "_law_source" s__law_source f fd) (m_len : mg "len" = none) (m_int : mg "int" = none) : FnOk P w K mg base CX0 1 f fd ["_law_script", "_law_k"] (spSource K) := by
  refine F.ok sc__law_source (fun vs H Q E h => ?_) (fun cdv A outer s H vs Q E hr h => ?_)
  · obtain ⟨a, ns, k, rfl, _⟩ := h
    rfl
  · obtain ⟨a, ns, k, rfl, hS, hk, q⟩ := h
    refine ⟨_, (pss_cons (ps_set (i := 2) sc__law_source.nd rfl (Or.inl rfl) pe_int)
    (pss_cons (ps_if (pt_cmpR op_lt (pv 1) (pe_callB call_len_seq (by rfl) m_len PySem.boot_len (pa_cons (pv 0) pa_nil)) (nomark _))
      (pss_one (ps_set (i := 2) sc__law_source.nd rfl (Or.inl rfl) (pe_callTy (T := "int") call_int1 (by rfl) m_int (by decide +kernel) (pa_cons (pe_ix ix_list (pv 0) (pv 1) (fun _ _ => rfl)) pa_nil))))
      pss_nil)
    (pss_one (ps_ret (pe_lst (pa_cons (pv 2) (pa_cons (pe_op op_add (pe_op op_mul pe_int (pv 1)) (pe_callB call_len_seq (by rfl) m_len PySem.boot_len (pa_cons (pv 0) pa_nil))) pa_nil))))))), ?_⟩
    walk_at "rd"
    refine ⟨_, _, rfl, .inl hS, ?_⟩
    walk_at "rd"
    refine ite2 (fun h0 => ?_) (fun h0 => ?_)
    · have h1 : (k : Int) < ((ns.map V.int).length : Nat) := of_decide_eq_true h0
      rw [List.length_map] at h1
      walk_at "rd"
      refine ⟨_, _, _, _, rfl, rfl, hS, int_at (k := k) (by omega), ?_⟩
      refine .inl ⟨_, rfl, ?_⟩
      walk_at "rd"
      refine ⟨.inr ⟨by omega, by omega⟩, ?_⟩
      walk_at "rd"
      refine ⟨_, _, rfl, .inl hS, ?_⟩
      walk_at "rd"
      exact ⟨sz (by show 2 ≤ 100000; decide), fun p np => q p _ _ np⟩
    · walk_at "rd"
      refine ⟨.inr ⟨by omega, by omega⟩, ?_⟩
      walk_at "rd"
      refine ⟨_, _, rfl, .inl hS, ?_⟩
      walk_at "rd"
      exact ⟨sz (by show 2 ≤ 100000; decide), fun p np => q p _ _ np⟩
theorem modb (x : Int) {k : Int} (h : 0 < k) (h2 : k ≤ 2 ^ 64) : -(2 ^ 64) < x % k ∧ x % k < 2 ^ 64 := by
  have a := Int.emod_nonneg x (show k ≠ 0 by omega)
  have b := Int.emod_lt_of_pos x h
  omega
@[irreducible] def spDraw : Sp := fun vs H Q _ => ∃ (a : Addr) (n c lim : Int), vs = [.ref a, .int lim] ∧ H a = some (.lst [.int n, .int c]) ∧ 0 < lim ∧ lim < 1073741824 ∧ ∀ r n' c', 0 ≤ r → r < lim → Q (.int r) (upd H a (.lst [.int n', .int c']))
theorem ok_draw {f : Addr} {fd : FuncData} (F : Fun K "_law_draw" "_law_draw" s__law_draw f fd) (m_int : mg "int" = none) : FnOk P w K mg base CX0 1 f fd ["_law_source_here", "_law_limit"] spDraw := by
  refine F.ok sc__law_draw (fun vs H Q E h => ?_) (fun cdv A outer s H vs Q E hr h => ?_)
  · unfold spDraw at h
    obtain ⟨a, n, c, lim, rfl, _⟩ := h
    rfl
  · unfold spDraw at h
    obtain ⟨a, n, c, lim, rfl, hA, h0, h1, q⟩ := h
    have hfm : ∀ x : Int, 0 ≤ x.fmod lim ∧ x.fmod lim < lim := fun x => by
      rw [Int.fmod_eq_emod_of_nonneg _ (by omega)]
      exact ⟨Int.emod_nonneg _ (by omega), Int.emod_lt_of_pos _ h0⟩
    refine ⟨_, (pss_cons (ps_set (i := 2) sc__law_draw.nd rfl (Or.inl rfl) (pe_ix ix_list (pv 0) pe_int (fun _ _ => rfl)))
    (pss_cons (ps_if (pt_cmpR op_ge (pv 2) (pe_op op_pow pe_int pe_int) (nomark _))
      (pss_cons (ps_asg (pe_op op_fdivN (pv 2) (pv 1)) (pg_sub (pv 0) pe_int set_list))
    (pss_one (ps_ret (pe_op op_modN (pe_callTy (T := "int") call_int1 (by rfl) m_int (by decide +kernel) (pa_cons (pv 2) pa_nil)) (pv 1)))))
      pss_nil)
    (pss_cons (ps_asg (pe_op op_add (pe_ix ix_list (pv 0) pe_int (fun _ _ => rfl)) pe_int) (pg_sub (pv 0) pe_int set_list))
    (pss_cons (ps_set (i := 3) sc__law_draw.nd rfl (Or.inl rfl) (pe_op op_mod (pe_callTy (T := "int") call_int1 (by rfl) m_int (by decide +kernel) (pa_cons (pe_op op_add (pe_op op_add (pe_op op_mul (pv 2) pe_int) (pe_op op_mul (pe_ix ix_list (pv 0) pe_int (fun _ _ => rfl)) pe_int)) pe_int) pa_nil)) pe_int))
    (pss_cons (ps_set (i := 3) sc__law_draw.nd rfl (Or.inl rfl) (pe_op op_mod (pe_callTy (T := "int") call_int1 (by rfl) m_int (by decide +kernel) (pa_cons (pe_op op_add (pe_op op_add (pe_op op_mul (pv 3) (pv 3)) (pv 2)) (pe_op op_mul (pe_ix ix_list (pv 0) pe_int (fun _ _ => rfl)) pe_int)) pa_nil)) pe_int))
    (pss_cons (ps_set (i := 3) sc__law_draw.nd rfl (Or.inl rfl) (pe_op op_mod (pe_callTy (T := "int") call_int1 (by rfl) m_int (by decide +kernel) (pa_cons (pe_op op_add (pe_op op_add (pe_op op_mul (pv 3) (pv 3)) (pe_op op_fdiv (pv 3) pe_int)) pe_int) pa_nil)) pe_int))
    (pss_one (ps_ret (pe_op op_modN (pe_op op_fdiv (pe_callTy (T := "int") call_int1 (by rfl) m_int (by decide +kernel) (pa_cons (pv 3) pa_nil)) pe_int) (pv 1)))))))))), ?_⟩
    walk_at "rd"
    refine ⟨_, _, _, _, rfl, rfl, sq hA, atI_nat (j := 0) rfl, ?_⟩
    walk_at "rd"
    refine ⟨⟨by decide, by decide, by decide⟩, ?_⟩
    walk_at "rd"
    refine ite2 (fun hb => ?_) (fun hb => ?_)
    · walk_at "rd"
      refine ⟨⟨by omega, by omega⟩, ?_⟩
      walk_at "rd"
      refine ⟨_, _, _, 0, rfl, rfl, hA, rfl, ?_⟩
      walk_at "rd"
      refine .inl ⟨_, rfl, ?_⟩
      walk_at "rd"
      refine ⟨by omega, ?_⟩
      exact q _ _ _ (hfm _).1 (hfm _).2
    · walk_at "rd"
      refine ⟨_, _, _, _, rfl, rfl, sq hA, atI_nat (j := 1) rfl, ?_⟩
      walk_at "rd"
      refine ⟨_, _, _, 1, rfl, rfl, hA, rfl, ?_⟩
      -- the first mixing
      walk_at "rd"
      refine ⟨.inr ⟨by decide, by decide⟩, ?_⟩
      walk_at "rd"
      refine ⟨_, _, _, _, rfl, rfl, sq upd_same, atI_nat (j := 1) rfl, ?_⟩
      walk_at "rd"
      refine ⟨.inr ⟨by decide, by decide⟩, ?_⟩
      walk_at "rd"
      refine .inl ⟨_, rfl, ?_⟩
      walk_at "rd"
      refine ⟨by show (0 : Int) < 2147483647; decide, ?_⟩
      -- the second
      walk_at "rd"
      refine ⟨.inl (modb _ (by decide) (by decide)), ?_⟩
      walk_at "rd"
      refine ⟨_, _, _, _, rfl, rfl, sq upd_same, atI_nat (j := 1) rfl, ?_⟩
      walk_at "rd"
      refine ⟨.inr ⟨by decide, by decide⟩, ?_⟩
      walk_at "rd"
      refine .inl ⟨_, rfl, ?_⟩
      walk_at "rd"
      refine ⟨by show (0 : Int) < 2147483629; decide, ?_⟩
      -- the third
      walk_at "rd"
      refine ⟨.inl (modb _ (by decide) (by decide)), ?_⟩
      walk_at "rd"
      refine ⟨⟨by decide, by decide⟩, ?_⟩
      walk_at "rd"
      refine .inl ⟨_, rfl, ?_⟩
      walk_at "rd"
      refine ⟨by show (0 : Int) < 2147483587; decide, ?_⟩
      -- the answer
      walk_at "rd"
      refine .inl ⟨_, rfl, ?_⟩
      walk_at "rd"
      refine ⟨⟨by decide, by decide⟩, ?_⟩
      walk_at "rd"
      refine ⟨by omega, ?_⟩
      exact q _ _ _ (hfm _).1 (hfm _).2
/-- some other source, or none -/
theorem draw_of {H : Hp} {a : Addr} {lim : Int} {Q : VK} {E : XK} (hA : Src H a) (h0 : 0 < lim ∧ lim < 1073741824) (q : ∀ r H', 0 ≤ r → r < lim → SameBut a H H' → Src H' a → Q (.int r) H') : spDraw [.ref a, .int lim] H Q E := by
  obtain ⟨n, c, hA⟩ := hA
  unfold spDraw
  exact ⟨a, n, c, lim, rfl, hA, h0.1, h0.2, fun r n' c' h1 h2 => q r _ h1 h2 SameBut.upd ⟨n', c', upd_same⟩⟩


abbrev CDraw (P : Program) (w : World) (K : PySem.W.Frag) (mg : Str → Option Value) (base : Heap) : Prop := Cal P w K mg base "_law_draw" 1 ["_law_source_here", "_law_limit"] spDraw
theorem sub_snoc {ms ns : List Str} {i : Nat} {n : Str} (h : ms.Sublist (ns.take i)) (hn : ns[i]? = some n) : (ms ++ [n]).Sublist (ns.take (i + 1)) := by
  rw [List.take_add_one, hn]
  exact h.append (List.Sublist.refl _)
theorem sub_skip {ms ns : List Str} {i : Nat} (h : ms.Sublist (ns.take i)) : ms.Sublist (ns.take (i + 1)) := by
  rw [List.take_add_one]
  exact h.trans (List.sublist_append_left _ _)
theorem sqt_but {H H' : Hp} {s a : Addr} {xs : List V} (hs : Src H s) (sb : SameBut s H H') (h : SqT K H a xs) : SqT K H' a xs := by
  obtain ⟨n, c, hs⟩ := hs
  rcases h with (h | ⟨u, h⟩) | h
  · exact .inl (.inl (sb _ _ (fun z => by rw [z, hs] at h; cases h) h))
  · exact .inl (.inr ⟨u, sb _ _ (fun z => by rw [z, hs] at h; cases h) h⟩)
  · exact .inr h
@[irreducible] def spSome (K : PySem.W.Frag) : Sp := fun vs H Q _ => ∃ (s a : Addr) (ns : List Str) (k : Int), vs = [.ref s, .ref a, .int k] ∧ Src H s ∧ a ≠ s ∧ H a = some (.lst (ns.map V.str)) ∧ ns.length ≤ 20 ∧ k ≤ 8 ∧ ∀ r (ms : List Str) H', SameBut s H H' → Src H' s → H r = none → H' r = some (.lst (ms.map V.str)) → (ms.length = 0 ∨ (ms.length : Int) ≤ k) → ms.Sublist ns → Q (.ref r) H'
theorem ok_some {f : Addr} {fd : FuncData} (F : Fun K "_law_some" "_law_some" s__law_some f fd) (m_len : mg "len" = none) (C__law_draw : CDraw P w K mg base) : FnOk P w K mg base CX0 2 f fd ["_law_source_here", "_law_names", "_law_most"] (spSome K) := by
  refine F.ok sc__law_some (fun vs H Q E h => ?_) (fun cdv A outer s H vs Q E hr h => ?_)
  · unfold spSome at h
    obtain ⟨s, a, ns, k, rfl, _⟩ := h
    rfl
  · unfold spSome at h
    obtain ⟨src, a, ns, k, rfl, hA, has, hN, hnl, hk, q⟩ := h
    refine ⟨_, (pss_cons (ps_set (i := 3) sc__law_some.nd rfl (Or.inl rfl) (pe_lst pa_nil))
    (pss_cons (ps_for PassesOwn.never rfl (pi_list (pv 1)) (pg_name (i := 4) sc__law_some.nd rfl (Or.inl rfl))
      (pss_one (ps_if (PW.pt (pw_and (pt_cmpR op_lt (pe_callB call_len_seq (by rfl) m_len PySem.boot_len (pa_cons (pv 3) pa_nil)) (pv 2) (nomark _)) (pw_and1 (pt_cmpR op_gt (pe_cal C__law_draw (hr.mono (by decide)) (pa_cons (pv 0) (pa_cons pe_int pa_nil))) pe_int (nomark _)))))
      (pss_one (ps_expr (pe_bm PySem.F.plainAttrs_list PySem.F.slot_list_append PySem.F.type_list_append mt_append (pv 3) (pa_cons (pv 4) pa_nil))))
      pss_nil)))
    (pss_one (ps_ret (pv 3))))), ?_⟩
    walk_at "rd"
    refine ⟨sz (by decide), fun l nl => ?_⟩
    have nls : l ≠ src := (src_ne hA nl).symm
    walk_at "rd"
    have hal : a ≠ l := fun e => by rw [e, nl] at hN; cases hN
    refine ⟨⟨_, sq (by rw [upd_ne hal]; exact hN)⟩, for_it walk_list (fun i σ H' => ∃ (o4 : Option V) (ms : List Str), σ = [some (.ref src), some (.ref a), some (.int k), some (.ref l), o4] ∧ SameBut src H H' ∧ Src H' src ∧ H' l = some (.lst (ms.map V.str)) ∧ ms.Sublist (ns.take i) ∧ (ms.length = 0 ∨ (ms.length : Int) ≤ k)) ⟨none, [], rfl, Bx.Same.but (same_new nl), src_upd hA nls.symm, upd_same, List.nil_sublist _, .inl rfl⟩ (fun i σ H' _ ⟨_, _, _, s, _⟩ => sq (s _ _ has hN)) ?_ ?_⟩
    · rintro i x σ H1 H2 hi ⟨o4, ms, rfl, s1, hA1, hl, hm, hml⟩ ⟨rfl, hx⟩
      obtain ⟨n, hn, rfl⟩ := at_map hx
      walk_at "rd"
      refine ⟨_, _, rfl, .inl (sq hl), ?_⟩
      walk_at "rd"
      refine ite2 (fun h0 => ?_) (fun h0 => ?_)
      · have h1 : ((ms.map V.str).length : Int) < k := of_decide_eq_true h0
        rw [List.length_map] at h1
        walk_at "rd"
        refine draw_of hA1 ⟨by decide, by decide⟩ fun d H3 _ _ s3 hA3 => ?_
        have hl3 := s3 _ _ nls hl
        walk_at "rd"
        refine ite2 (fun _ => ?_) (fun _ => ?_)
        · walk_at "rd"
          refine ⟨.inl ⟨rfl, _, sq hl3⟩, ?_⟩
          walk_at "rd"
          refine ⟨l, _, _, rfl, rfl, hl3, szl (by rw [List.length_map]; omega), ?_⟩
          exact ⟨_, ms ++ [n], rfl, but_at nl (s1.trans s3), src_upd hA3 nls.symm, by rw [upd_same, List.map_append]; rfl, sub_snoc hm hn, .inr (by rw [List.length_append]; show ((ms.length + 1 : Nat) : Int) ≤ k; omega)⟩
        · walk_at "rd"
          exact ⟨_, ms, rfl, s1.trans s3, hA3, hl3, sub_skip hm, hml⟩
      · walk_at "rd"
        exact ⟨_, ms, rfl, s1, hA1, hl, sub_skip hm, hml⟩
    · rintro σ H1 ⟨o4, ms, rfl, s1, hA1, hl, hm, hml⟩
      walk_at "rd"
      rw [List.length_map, List.take_length] at hm
      exact q l ms H1 s1 hA1 nl hl hml hm

@[irreducible] def spRows (K : PySem.W.Frag) : Sp := fun vs H Q _ => ∃ n : Nat, vs = [.int (n : Nat)] ∧ n ≤ 5 ∧ ∀ (r : Addr) (us : List V) (H' : Hp), Same H H' → H r = none → H' r = some (.lst us) → DpAll K H' us ((rowsN n).map rowD) → Q (.ref r) H'
set_option maxHeartbeats 2000000 in
theorem ok_rows {f : Addr} {fd : FuncData} (F : Fun K "_law_rows" "_law_rows" s__law_rows f fd) (m_range : mg "range" = none) (m_list : mg "list" = none) : FnOk P w K mg base CX0 1 f fd ["_law_count"] (spRows K) := by
  refine F.ok sc__law_rows (fun vs H Q E h => ?_) (fun cdv A outer s H vs Q E hr h => ?_)
  · unfold spRows at h
    obtain ⟨n, rfl, _⟩ := h
    rfl
  · unfold spRows at h
    obtain ⟨n, rfl, hn, q⟩ := h
    have num : ∀ k, k ≤ 5 → (rowsN k).length ≤ 243 := fun k hk => by
      rw [rowsN_num]
      exact Nat.pow_le_pow_right (by decide) hk
    refine ⟨_, (pss_cons (ps_set (i := 1) sc__law_rows.nd rfl (Or.inl rfl) (pe_lst (pa_cons (pe_tup pa_nil) pa_nil)))
    (pss_cons (ps_for PassesOwn.never rfl (pi_range1 (by rfl) m_range (pa_cons (pv 0) pa_nil)) (pg_name (i := 2) sc__law_rows.nd rfl (Or.inl rfl))
      (pss_cons (ps_set (i := 3) sc__law_rows.nd rfl (Or.inl rfl) (pe_lst pa_nil))
    (pss_cons (ps_for PassesOwn.never rfl (pi_list (pv 1)) (pg_name (i := 4) sc__law_rows.nd rfl (Or.inl rfl))
      (pss_one (ps_for PassesOwn.never rfl (pi_range1 (by rfl) m_range (pa_cons pe_int pa_nil)) (pg_name (i := 5) sc__law_rows.nd rfl (Or.inl rfl))
      (pss_one (ps_expr (pe_bm PySem.F.plainAttrs_list PySem.F.slot_list_append PySem.F.type_list_append mt_append (pv 3) (pa_cons (pe_op op_catA (pv 4) (pe_tup (pa_cons (pv 5) pa_nil))) pa_nil)))))))
    (pss_one (ps_set (i := 1) sc__law_rows.nd rfl (Or.inl rfl) (pe_callTy (T := "list") call_list_of (by rfl) m_list (by decide +kernel) (pa_cons (pv 3) pa_nil)))))))
    (pss_one (ps_ret (pv 1))))), ?_⟩
    walk_at "rd"
    refine ⟨sz (by decide), fun e0 ne0 => ?_⟩
    have s1 := same_new ne0 (o := .tup ([] : List V))
    have he0 := upd_same (H := H) (a := e0) (o := .tup ([] : List V))
    generalize upd H e0 (.tup []) = H1 at s1 he0 ⊢
    refine ⟨sz (by show 1 ≤ 100000; decide), fun F0 nF0 => ?_⟩
    have s2 := same_new nF0 (o := .lst [.ref e0])
    have hF0 := upd_same (H := H1) (a := F0) (o := .lst [.ref e0])
    have nF00 := s1.free nF0
    have he2 := s2 _ _ he0
    have s02 := s1.trans s2
    generalize upd H1 F0 (.lst [.ref e0]) = H2 at s2 hF0 he2 s02 ⊢
    walk_at "rd"
    refine ⟨by omega, by omega, for_it walk_range (fun k σ H' => ∃ (o2 o3 o4 o5 : Option V) (Fa : Addr) (us : List V), σ = [some (.int (n : Nat)), some (.ref Fa), o2, o3, o4, o5] ∧ Same H H' ∧ H Fa = none ∧ H' Fa = some (.lst us) ∧ DpAll K H' us ((rowsN k).map rowD))
      ⟨none, none, none, none, F0, [.ref e0], rfl, s02, nF00, hF0, da_one (dp_row (r := []) (sqt he2))⟩ (fun _ _ _ _ _ => trivial) ?_ ?_⟩
    · rintro k x σ H3a H3 hk ⟨o2, o3, o4, o5, Fa, us, rfl, s3, nFa, hFa, da⟩ ⟨rfl, rfl⟩
      have hk2 : k < 5 := by omega
      have ll := num k (by omega)
      have ulen : us.length = (rowsN k).length := by rw [da_len da, List.length_map]
      walk_at "rd"
      refine ⟨sz (by decide), fun M nM => ?_⟩
      have s4 := same_new nM (o := .lst ([] : List V))
      have hM := upd_same (H := H3) (a := M) (o := .lst ([] : List V))
      generalize upd H3 M (.lst []) = H4 at s4 hM ⊢
      have nM0 := s3.free nM
      walk_at "rd"
      have hFa4 := s4 _ _ hFa
      refine ⟨⟨_, sq hFa4⟩, for_it walk_list (fun j σ H' => ∃ (o4 o5 : Option V) (ws : List V), σ = [some (.int (n : Nat)), some (.ref Fa), some (.int (0 + (k : Nat))), some (.ref M), o4, o5] ∧ Same H3 H' ∧ H' M = some (.lst ws) ∧ DpAll K (mn H' [M]) ws ((((rowsN k).take j).flatMap ext).map rowD) ∧ ws.length = 3 * j)
        ⟨o4, o5, [], rfl, s4, hM, .nil, rfl⟩ (fun j σ H' _ ⟨_, _, _, _, s, _⟩ => sq (s _ _ hFa)) ?_ ?_⟩
      · rintro j x σ H5a H5 hj ⟨o4, o5, ws, rfl, s5, hM5, dm, wl⟩ ⟨rfl, hx⟩
        obtain ⟨r, hr0, dr⟩ := da_atM da hx
        obtain ⟨rq, rfl, hrq⟩ := row_dp dr
        have rl := rowsN_len k r (List.mem_of_getElem? hr0)
        walk_at "rd"
        refine ⟨by omega, by omega, for_it walk_range (fun v σ H' => ∃ (o5 : Option V) (ws : List V), σ = [some (.int (n : Nat)), some (.ref Fa), some (.int (0 + (k : Nat))), some (.ref M), some (.ref rq), o5] ∧ Same H3 H' ∧ H' M = some (.lst ws) ∧ DpAll K (mn H' [M]) ws (((((rowsN k).take j).flatMap ext) ++ ((List.range v).map fun i => r ++ [((i : Nat) : Int)])).map rowD) ∧ ws.length = 3 * j + v)
          ⟨o5, ws, rfl, s5, hM5, by rw [List.range_zero, List.map_nil, List.append_nil]; exact dm, wl⟩ (fun _ _ _ _ _ => trivial) ?_ ?_⟩
        · rintro v x σ H6a H6 hv ⟨o5, ws, rfl, s6, hM6, dm, wl⟩ ⟨rfl, hxv⟩
          have hx0 : x = V.int ((v : Nat) : Int) := by
            rw [hxv]
            show V.int (0 + ((v : Nat) : Int)) = _
            rw [Int.zero_add]
          clear hxv
          subst hx0
          have hv2 : v < 3 := by
            have := hv
            omega
          walk_at "rd"
          refine ⟨.inl ⟨rfl, _, sq hM6⟩, ?_⟩
          walk_at "rd"
          refine ⟨sz (by show 1 ≤ 100000; decide), fun A1 nA1 => ?_⟩
          have s7 := same_new nA1 (o := .tup [V.int ((v : Nat) : Int)])
          have hA1 := upd_same (H := H6) (a := A1) (o := .tup [V.int ((v : Nat) : Int)])
          generalize upd H6 A1 (.tup [V.int ((v : Nat) : Int)]) = H7 at s7 hA1 ⊢
          have fin : ∀ (N : Addr) (H8 : Hp), Same H7 H8 → SqT K H8 N ((r ++ [((v : Nat) : Int)]).map V.int) → N ≠ M → ∃ l xs y, V.ref M = .ref l ∧ [V.ref N] = [y] ∧ H8 l = some (.lst xs) ∧ xs.length < sizeLine ∧ ∃ (o5 : Option V) (ws : List V), [some (.int (n : Nat)), some (.ref Fa), some (.int (0 + (k : Nat))), some (.ref M), some (.ref rq), some (.int ((v : Nat) : Int))] = [some (.int (n : Nat)), some (.ref Fa), some (.int (0 + (k : Nat))), some (.ref M), some (.ref rq), o5] ∧ Same H3 (upd H8 l (.lst (xs ++ [y]))) ∧ (upd H8 l (.lst (xs ++ [y]))) M = some (.lst ws) ∧ DpAll K (mn (upd H8 l (.lst (xs ++ [y]))) [M]) ws (((((rowsN k).take j).flatMap ext) ++ ((List.range (v + 1)).map fun i => r ++ [((i : Nat) : Int)])).map rowD) ∧ ws.length = 3 * j + (v + 1) := fun N H8 s8 hN NM => by
            have s68 := s7.trans s8
            refine ⟨M, ws, _, rfl, rfl, s68 _ _ hM6, szl (by omega), _, ws ++ [.ref N], rfl, same_at nM (s6.trans s68), upd_same, ?_, by rw [List.length_append, wl]; rfl⟩
            rw [mn_upd (by simp), List.range_succ, List.map_append (f := fun i : Nat => r ++ [((i : Nat) : Int)]), ← List.append_assoc, List.map_append (f := rowD)]
            refine da_app (dpAll_same (mn_all s68) dm) (da_one (dp_row (r := r ++ [((v : Nat) : Int)]) ?_))
            rcases hN with (h | ⟨o, h⟩) | h
            · exact .inl (.inl (mn_at (by simp [NM]) h))
            · exact .inl (.inr ⟨o, mn_at (by simp [NM]) h⟩)
            · exact .inr h
          have hA1M : A1 ≠ M := fun e => by
            rw [e, hM6] at nA1
            cases nA1
          have hrq6 := Bx.Same.tup (s6.trans s7) hrq
          refine ⟨rq, A1, r.map V.int, [.int ((v : Nat) : Int)], rfl, rfl, hrq6, sqt hA1, sz (by rw [List.length_map, rl]; show k + 1 ≤ 100000; omega), fun e => ?_, fun _ e => (by cases e), fun _ _ N nN => ?_⟩
          · have er : r = [] := List.map_eq_nil_iff.mp e
            exact fin A1 H7 (Same.refl H7) (by rw [er]; exact sqt hA1) hA1M
          · have s8 := same_new nN (o := .tup (r.map V.int ++ [V.int ((v : Nat) : Int)]))
            have NM : N ≠ M := fun e => by
              rw [e, s7 _ _ hM6] at nN
              cases nN
            exact fin N _ s8 (by rw [List.map_append]; exact sqt upd_same) NM
        · rintro σ H6 ⟨o5, ws, rfl, s6, hM6, dm, wl⟩
          walk_at "rd"
          refine ⟨_, _, ws, rfl, s6, hM6, ?_, by
            have e3 : ((3 : Int)).toNat = 3 := rfl
            rw [wl]
            show 3 * j + 3 = 3 * (j + 1)
            omega⟩
          rw [take_flat hr0]
          exact dm
      · rintro σ H5 ⟨o4, o5, ws, rfl, s5, hM5, dm, wl⟩
        rw [ulen, List.take_length] at dm
        walk_at "rd"
        refine ⟨M, _, rfl, .inl (sq hM5), fun Fb nFb => ?_⟩
        have s6 := same_new nFb (o := .lst ws)
        refine ⟨_, _, _, _, Fb, ws, rfl, s3.trans (s5.trans s6), (s3.trans s5).free nFb, upd_same, ?_⟩
        rw [rowsN_ext]
        exact dpAll_same s6 (dpAll_same mn_same dm)
    · rintro σ H3 ⟨o2, o3, o4, o5, Fa, us, rfl, s3, nFa, hFa, da⟩
      walk_at "rd"
      have e : (((n : Nat) : Int)).toNat = n := Int.toNat_natCast n
      rw [e] at da
      exact q Fa us H3 s3 nFa hFa da
end
end K19
namespace K19
local macro_rules | `(tactic| walk_at "rd") => `(tactic| repeat (first | refine ⟨rfl, ?_⟩ | refine ⟨_, rfl, ?_⟩ | refine ⟨_, _, rfl, rfl, ?_⟩ | refine ⟨⟨_, rfl⟩, ?_⟩))
open PySem PySem.Spec PyProof.Rows L2 Bx TL Dx Zx Ow Sup NdefX Px
theorem or_case {t u : TT} {σ : List (Option V)} {H : Hp} {Q : Bool → Hp → Prop} {b1 b2 : Bool} (h1 : ∀ R : Bool → Hp → Prop, R b1 H → t σ H R) (h2 : ∀ R : Bool → Hp → Prop, R b2 H → u σ H R) (q : Q (b1 || b2) H) : tOr t u σ H Q := by
  cases b1 with
  | true => exact h1 _ q
  | false => exact h1 _ (h2 _ q)
theorem and_caseS {t u : TT} {σ : List (Option V)} {H : Hp} {Q : Bool → Hp → Prop} {b1 b2 : Bool} (h1 : ∀ R : Bool → Hp → Prop, (∀ H1, Same H H1 → R b1 H1) → t σ H R) (h2 : ∀ H1, Same H H1 → ∀ R : Bool → Hp → Prop, (∀ H2, Same H1 H2 → R b2 H2) → u σ H1 R) (q : ∀ H2, Same H H2 → Q (b1 && b2) H2) : tAnd t u σ H Q := by
  cases b1 with
  | false => exact h1 _ fun H1 s1 => q H1 s1
  | true => exact h1 _ fun H1 s1 => h2 H1 s1 _ fun H2 s2 => q H2 (s1.trans s2)
theorem eqv_ints : ∀ a b : Row, PyData.eqvAll (a.map PyData.int) (b.map PyData.int) = decide (a = b)
  | [], [] => rfl
  | [], _ :: _ => rfl
  | _ :: _, [] => rfl
  | x :: a, y :: b => by
    show ((x == y) && PyData.eqvAll (a.map PyData.int) (b.map PyData.int)) = _
    rw [eqv_ints a b]
    by_cases h : x = y
    · subst h
      by_cases h2 : a = b
      · subst h2
        simp
      · simp [h2]
    · simp [h]
theorem in_rows (L : List Row) (r : Row) : ((L.map rowD).any fun z => PyData.eqv z (rowD r)) = decide (r ∈ L) := by
  rw [List.any_map]
  induction L with
  | nil => rfl
  | cons s L ih =>
    rw [List.any_cons, ih]
    show (PyData.eqvAll (s.map PyData.int) (r.map PyData.int) || _) = _
    rw [eqv_ints]
    by_cases e : s = r
    · subst e
      simp
    · have e2 : ¬ r = s := fun z => e z.symm
      simp [e, e2]
theorem shape_row (r : Row) : SeqAt.shaped (rowD r) = true := shape (lay_tuple (lays_ints (n := 1))) (by decide)
theorem shape_rows (L : List Row) : SeqAt.shaped (.tuple (L.map rowD)) = true := shape (lay_tuple (lay_rows L)) (by decide)
theorem shape_rowsL (L : List Row) : SeqAt.shaped (.list (L.map rowD)) = true := shape (lay_list (lay_rows L)) (by decide)
def nmU (t u : Tab) : List Str := pool5.filter fun z => decide (z ∈ t.1) || decide (z ∈ u.1)
theorem nmU_len (t u : Tab) : (nmU t u).length ≤ 5 := List.length_filter_le _ _
theorem nmU_nd (t u : Tab) : (nmU t u).Nodup := (asc_nodup pool_asc).sublist List.filter_sublist
theorem nmU_mem {t u : Tab} (ht : t.1.Sublist pool5) (hu : u.1.Sublist pool5) (z : Str) : z ∈ nmU t u ↔ z ∈ t.1 ∨ z ∈ u.1 := by
  unfold nmU
  rw [List.mem_filter, Bool.or_eq_true, decide_eq_true_iff, decide_eq_true_iff]
  exact ⟨fun h => h.2, fun h => ⟨h.elim (fun x => ht.subset x) fun x => hu.subset x, h⟩⟩
section
variable {P : Program} {w : World} {K : PySem.W.Frag} {mg : Str → Option Value} {base : Heap}
@[irreducible] def spTable (K : PySem.W.Frag) : Sp := fun vs H Q _ => ∃ s : Addr, vs = [.ref s] ∧ Src H s ∧ ∀ p (t : Tab) H', SameBut s H H' → Src H' s → TabAt K H' p t → t.1.Sublist pool5 → t.1.length ≤ 3 → t.2.Sublist (rowsN t.1.length) → Q (.ref p) H'
set_option maxHeartbeats 2000000 in
theorem ok_table {f : Addr} {fd : FuncData} (F : Fun K "_law_table" "_law_table" s__law_table f fd) (m_len : mg "len" = none) (m_tuple : mg "tuple" = none) (C__law_draw : CDraw P w K mg base) (C__law_some : Cal P w K mg base "_law_some" 2 ["_law_source_here", "_law_names", "_law_most"] (spSome K)) (C__law_rows : Cal P w K mg base "_law_rows" 1 ["_law_count"] (spRows K)) : FnOk P w K mg base CX0 3 f fd ["_law_source_here"] (spTable K) := by
  refine F.ok sc__law_table (fun vs H Q E h => ?_) (fun cdv A outer s H vs Q E hr h => ?_)
  · unfold spTable at h
    obtain ⟨s, rfl, _⟩ := h
    rfl
  · unfold spTable at h
    obtain ⟨src, rfl, hA, q⟩ := h
    refine ⟨_, (pss_cons (ps_set (i := 1) sc__law_table.nd rfl (Or.inl rfl) (pe_cal C__law_some (hr.mono (by decide)) (pa_cons (pv 0) (pa_cons (pe_lst (pa_cons pe_str (pa_cons pe_str (pa_cons pe_str (pa_cons pe_str (pa_cons pe_str pa_nil)))))) (pa_cons (pe_cal C__law_draw (hr.mono (by decide)) (pa_cons (pv 0) (pa_cons pe_int pa_nil))) pa_nil)))))
    (pss_cons (ps_set (i := 2) sc__law_table.nd rfl (Or.inr rfl) (pe_cal C__law_draw (hr.mono (by decide)) (pa_cons (pv 0) (pa_cons pe_int pa_nil))))
    (pss_cons (ps_setLc (i := 3) (own := [("_law_row", 4)]) rfl sc__law_table.nd rfl rfl (sw_true rfl rfl rfl (by decide +kernel)) (pi_list (pe_cal C__law_rows (hr.mono (by decide)) (pa_cons (pe_callB call_len_seq (by rfl) m_len PySem.boot_len (pa_cons (pv 1) pa_nil)) pa_nil))) (blkOk_by (N := n__law_table) (sc := defScope s__law_table) (by decide +kernel)) (fun _ _ _ _ _ => pg_name (i := 4) sc__law_table.nd rfl (Or.inl rfl)) (fun _ _ _ _ _ => pts_one (pt_cmpR op_ge (pe_cal C__law_draw (hr.mono (by decide)) (pa_cons (pv 0) (pa_cons pe_int pa_nil))) (pv 2) (nomark _))) (fun _ _ _ _ _ => (pv 4)))
    (pss_one (ps_ret (pe_tup (pa_cons (pe_callTy (T := "tuple") call_tupleF (by rfl) m_tuple (by decide +kernel) (pa_cons (pv 1) pa_nil)) (pa_cons (pe_callTy (T := "tuple") call_tuple_of (by rfl) m_tuple (by decide +kernel) (pa_cons (pv 3) pa_nil)) pa_nil)))))))), ?_⟩
    walk_at "rd"
    refine ⟨sz (by decide), fun L0 n0 => ?_⟩
    have nL0s := src_ne hA n0
    have s0 := same_new n0 (o := .lst (pool5.map V.str))
    have hl0 := upd_same (H := H) (a := L0) (o := .lst (pool5.map V.str))
    have hA0 := src_same hA s0
    walk_at "rd"
    refine draw_of hA0 ⟨by decide, by decide⟩ fun k H1 k0 k1 s1 hA1 => ?_
    have hl1 := s1 _ _ nL0s.symm hl0
    show spSome K _ _ _ _
    unfold spSome
    refine ⟨src, L0, pool5, k, rfl, hA1, nL0s.symm, hl1, (by decide), by omega, fun N ns H2 s2 hA2 nN hN hnl hnm => ?_⟩
    have b2 : SameBut src H H2 := (Bx.Same.but s0).trans (s1.trans s2)
    have nl3 : ns.length ≤ 3 := by omega
    have nNs : N ≠ src := fun e => by rw [e] at nN; exact (src_ne hA1 nN) rfl
    clear hl0 hA0 hl1 s0 s1
    walk_at "rd"
    refine draw_of hA2 ⟨by decide, by decide⟩ fun sh H3 _ _ s3 hA3 => ?_
    have hN3 := s3 _ _ nNs hN
    walk_at "rd"
    refine ⟨_, _, rfl, .inl (sq hN3), ?_⟩
    rw [List.length_map]
    show spRows K _ _ _ _
    unfold spRows
    refine ⟨ns.length, rfl, by omega, fun R us H4 s4 nR hR dR => ?_⟩
    have hN4 := s4 _ _ hN3
    have hA4 := src_same hA3 s4
    have nRs : R ≠ src := fun e => by rw [e] at nR; exact (src_ne hA3 nR) rfl
    have b4 : SameBut src H H4 := b2.trans (s3.trans (Bx.Same.but s4))
    have ul : us.length = (rowsN ns.length).length := by rw [da_len dR, List.length_map]
    have un : (rowsN ns.length).length ≤ 27 := by
      rw [rowsN_num]
      exact Nat.pow_le_pow_right (by decide) nl3
    refine ⟨R, rfl, ⟨_, sq hR⟩, fun D hD => ?_⟩
    have nDs := src_ne hA4 hD
    refine lc_it walk_list (fun i H' => SameBut src H4 H' ∧ Src H' src ∧ ∃ (vs : List V) (rs : List Row), H' D = some (.lst vs) ∧ DpAll K H4 vs (rs.map rowD) ∧ rs.Sublist ((rowsN ns.length).take i)) ⟨Bx.Same.but (same_new hD), src_upd hA4 nDs, [], [], upd_same, .nil, List.nil_sublist _⟩ (fun i H' _ h => sq (h.1 _ _ nRs hR)) ?_ ?_
    · rintro i v H5a H5 hi ⟨s5, hA5, vs, rs, hV, dv, sb⟩ ⟨rfl, hx⟩
      obtain ⟨r, hr0, dr⟩ := da_atM dR hx
      obtain ⟨rq, rfl, hrq⟩ := row_dp dr
      refine ⟨rfl, ?_⟩
      walk_at "rd"
      refine draw_of hA5 ⟨by decide, by decide⟩ fun x H6 _ _ s6 hA6 => ?_
      have hV6 := s6 _ _ nDs.symm hV
      walk_at "rd"
      have vl : vs.length ≤ 27 := by
        rw [da_len dv, List.length_map]
        have z1 := sb.length_le
        have z2 := List.length_take_le' i (rowsN ns.length)
        omega
      have tk1 : (rowsN ns.length).take (i + 1) = (rowsN ns.length).take i ++ [r] := by rw [List.take_add_one, hr0]; rfl
      refine ite2 (fun _ => ?_) (fun _ => ?_)
      · walk_at "rd"
        refine ⟨vs, hV6, szl (by omega), but_at hD (s5.trans s6), src_upd hA6 nDs, vs ++ [.ref rq], rs ++ [r], upd_same, ?_, ?_⟩
        · rw [List.map_append]
          exact da_app dv (da_one (dp_row hrq))
        · rw [tk1]
          exact sb.append (List.Sublist.refl _)
      · refine ⟨s5.trans s6, hA6, vs, rs, hV6, dv, ?_⟩
        rw [tk1]
        exact sb.trans (List.sublist_append_left _ _)
    · rintro H5 ⟨s5, hA5, vs, rs, hV, dv, sb⟩
      rw [ul, List.take_length] at sb
      obtain ⟨n9, c9, hsrc⟩ := hA4
      have kp5 := kp_but (K := K) hsrc s5
      have dv5 := da_tk kp5.1 _ _ (tup_rows rs) dv
      walk_at "rd"
      refine ⟨N, _, rfl, sq (s5 _ _ nNs hN4), fun t1 o1 nt1 od1 => ?_⟩
      have u1 := same_new nt1 (o := .frz o1 (.tup (ns.map V.str)))
      have g1 := upd_same (H := H5) (a := t1) (o := .frz o1 (.tup (ns.map V.str)))
      generalize upd H5 t1 (.frz o1 (.tup (ns.map V.str))) = H6 at u1 g1 ⊢
      walk_at "rd"
      refine ⟨D, vs, rfl, .inl ⟨sq (u1 _ _ hV), fun t2 nt2 => ?_⟩⟩
      have u2 := same_new nt2 (o := .tup vs)
      have g2 := upd_same (H := H6) (a := t2) (o := .tup vs)
      generalize upd H6 t2 (.tup vs) = H7 at u2 g2 ⊢
      walk_at "rd"
      refine ⟨sz (by show 2 ≤ 100000; decide), fun t3 nt3 => ?_⟩
      have u3 := same_new nt3 (o := .tup [.ref t1, .ref t2])
      have g3 := upd_same (H := H7) (a := t3) (o := .tup [.ref t1, .ref t2])
      have u := Same.trans u1 (Same.trans u2 u3)
      exact q t3 (ns, rs) _ (b4.trans (s5.trans (Bx.Same.but u))) (src_same hA5 u) ⟨t1, t2, vs, sqt g3, PlT.same (Same.trans u2 u3) ⟨o1, g1, od1⟩, Bx.Same.tup u3 (sqt g2), dpAll_same u dv5⟩ hnm nl3 sb
@[irreducible] def spLJoin (K : PySem.W.Frag) : Sp := fun vs H Q _ => ∃ (p q : Addr) (t u : Tab), vs = [.ref p, .ref q] ∧ TabAt K H p t ∧ TabAt K H q u ∧ t.1.Sublist pool5 ∧ u.1.Sublist pool5 ∧ ∀ r H', Same H H' → TabAt K H' r (expT t u (nmU t u)) → Q (.ref r) H'
set_option maxHeartbeats 2000000 in
theorem ok_joined {f : Addr} {fd : FuncData} (F : Fun K "_law_joined" "_law_joined" s__law_joined f fd) (m_len : mg "len" = none) (m_tuple : mg "tuple" = none) (C__law_rows : Cal P w K mg base "_law_rows" 1 ["_law_count"] (spRows K)) (C__law_picked : Cal P w K mg base "_law_picked" 1 ["_law_names", "_law_row", "_law_wanted"] (spPick K)) : FnOk P w K mg base CX0 2 f fd ["_law_first", "_law_second"] (spLJoin K) := by
  refine F.ok sc__law_joined (fun vs H Q E h => ?_) (fun cdv A outer s H vs Q E hr h => ?_)
  · unfold spLJoin at h
    obtain ⟨p, q, t, u, rfl, _⟩ := h
    rfl
  · unfold spLJoin at h
    obtain ⟨p, q, t, u, rfl, hp, hq, st, su, q0⟩ := h
    have nm := nmU_mem st su
    have nl := nmU_len t u
    have tl : t.1.length ≤ 5 := st.length_le
    have ul : u.1.length ≤ 5 := su.length_le
    obtain ⟨a1, b1, us1, t1, t2, t3, t4⟩ := hp
    obtain ⟨a2, b2, us2, u1, u2, u3, u4⟩ := hq
    refine ⟨_, (pss_cons (ps_setLc (i := 2) (own := [("_law_name", 5)]) rfl sc__law_joined.nd rfl rfl (sw_true rfl rfl rfl (by decide +kernel)) (pi_list (pe_lst (pa_cons pe_str (pa_cons pe_str (pa_cons pe_str (pa_cons pe_str (pa_cons pe_str pa_nil))))))) (blkOk_by (N := n__law_joined) (sc := defScope s__law_joined) (by decide +kernel)) (fun _ _ _ _ _ => pg_name (i := 5) sc__law_joined.nd rfl (Or.inl rfl)) (fun _ _ _ _ _ => pts_one (PW.pt (pw_or (pt_cmpR (op_in_seqK (K := K) rfl) (pv 5) (pe_ix (ix_tupK (K := K) rfl) (pv 0) pe_int (fun _ _ => rfl)) (by rfl)) (pw_or1 (pt_cmpR (op_in_seqK (K := K) rfl) (pv 5) (pe_ix (ix_tupK (K := K) rfl) (pv 1) pe_int (fun _ _ => rfl)) (by rfl)))))) (fun _ _ _ _ _ => (pv 5)))
    (pss_cons (ps_set (i := 3) sc__law_joined.nd rfl (Or.inl rfl) (pe_lst pa_nil))
    (pss_cons (ps_for PassesOwn.never rfl (pi_list (pe_cal C__law_rows (hr.mono (by decide)) (pa_cons (pe_callB call_len_seq (by rfl) m_len PySem.boot_len (pa_cons (pv 2) pa_nil)) pa_nil))) (pg_name (i := 4) sc__law_joined.nd rfl (Or.inl rfl))
      (pss_one (ps_if (PW.pt (pw_and (pt_cmpR (Sl.op_inT (K := K) rfl (room hr)) (pe_cal C__law_picked (hr.mono (by decide)) (pa_cons (pv 2) (pa_cons (pv 4) (pa_cons (pe_ix ix_tup (pv 0) pe_int (fun _ _ => rfl)) pa_nil)))) (pe_ix ix_tup (pv 0) pe_int (fun _ _ => rfl)) (by rfl)) (pw_and1 (pt_cmpR (Sl.op_inT (K := K) rfl (room hr)) (pe_cal C__law_picked (hr.mono (by decide)) (pa_cons (pv 2) (pa_cons (pv 4) (pa_cons (pe_ix ix_tup (pv 1) pe_int (fun _ _ => rfl)) pa_nil)))) (pe_ix ix_tup (pv 1) pe_int (fun _ _ => rfl)) (by rfl)))))
      (pss_one (ps_expr (pe_bm PySem.F.plainAttrs_list PySem.F.slot_list_append PySem.F.type_list_append mt_append (pv 3) (pa_cons (pv 4) pa_nil))))
      pss_nil)))
    (pss_one (ps_ret (pe_tup (pa_cons (pe_callTy (T := "tuple") call_tupleF (by rfl) m_tuple (by decide +kernel) (pa_cons (pv 2) pa_nil)) (pa_cons (pe_callTy (T := "tuple") call_tuple_of (by rfl) m_tuple (by decide +kernel) (pa_cons (pv 3) pa_nil)) pa_nil)))))))), ?_⟩
    walk_at "rd"
    refine ⟨sz (by decide), fun L0 n0 => ?_⟩
    have s0 := same_new n0 (o := .lst (pool5.map V.str))
    have hl0 := upd_same (H := H) (a := L0) (o := .lst (pool5.map V.str))
    have e0 : upd H L0 (.lst (pool5.map V.str)) = upd H L0 (.lst [V.str "a", V.str "a1", V.str "b", V.str "b.c", V.str "d"]) := rfl
    refine ⟨L0, rfl, ⟨_, sq hl0⟩, ?_⟩
    rw [← e0]
    generalize upd H L0 (.lst (pool5.map V.str)) = H1 at s0 hl0 ⊢
    intro D hD
    have t11 := Bx.Same.tup s0 t1
    have u11 := Bx.Same.tup s0 u1
    have t21 := PlT.same s0 t2
    have u21 := PlT.same s0 u2
    refine lc_it walk_list (fun i H' => H' = upd H1 D (.lst (((pool5.take i).filter fun z => decide (z ∈ t.1) || decide (z ∈ u.1)).map V.str))) rfl (fun i H' _ e => e ▸ sq (same_new hD _ _ hl0)) ?_ ?_
    · rintro i v H2a H2 hi rfl ⟨rfl, hx⟩
      obtain ⟨z, hz, rfl⟩ := at_map hx
      have s2 := same_new hD (o := .lst (((pool5.take i).filter fun z => decide (z ∈ t.1) || decide (z ∈ u.1)).map V.str))
      refine ⟨rfl, ?_⟩
      refine or_case (b1 := decide (z ∈ t.1)) (b2 := decide (z ∈ u.1)) (fun R hR => ?_) (fun R hR => ?_) ?_
      · walk_at "rd"
        refine ⟨_, _, _, _, rfl, rfl, Bx.Same.tup s2 t11, atI_nat (j := 0) rfl, ?_⟩
        refine ⟨_, _, rfl, .inr (PlT.same s2 t21).sq, rfl, flat_all _, ?_⟩
        rw [inV_str]
        exact ⟨_, rfl, hR⟩
      · walk_at "rd"
        refine ⟨_, _, _, _, rfl, rfl, Bx.Same.tup s2 u11, atI_nat (j := 0) rfl, ?_⟩
        refine ⟨_, _, rfl, .inr (PlT.same s2 u21).sq, rfl, flat_all _, ?_⟩
        rw [inV_str]
        exact ⟨_, rfl, hR⟩
      have e3 : ((pool5.take (i + 1)).filter fun z => decide (z ∈ t.1) || decide (z ∈ u.1)) = ((pool5.take i).filter fun z => decide (z ∈ t.1) || decide (z ∈ u.1)) ++ if (decide (z ∈ t.1) || decide (z ∈ u.1)) = true then [z] else [] := by
        rw [List.take_add_one, hz, List.filter_append]
        congr 1
        by_cases c : (decide (z ∈ t.1) || decide (z ∈ u.1)) = true <;> simp [c]
      have e4 : ((pool5.take i).filter fun z => decide (z ∈ t.1) || decide (z ∈ u.1)).length ≤ 5 := Nat.le_trans (List.length_filter_le _ _) (List.length_take_le' i _)
      refine ite2 (fun c => ?_) (fun c => ?_)
      · walk_at "rd"
        refine ⟨_, upd_same, szl (by rw [List.length_map]; omega), ?_⟩
        rw [upd_upd, e3, if_pos c, List.map_append]
        rfl
      · rw [e3, if_neg c, List.append_nil]
    rintro H2 rfl
    rw [List.length_map, List.take_length]
    have e5 : (pool5.filter fun z => decide (z ∈ t.1) || decide (z ∈ u.1)) = nmU t u := rfl
    rw [e5]
    have s2 := same_new hD (o := .lst ((nmU t u).map V.str))
    have hN := upd_same (H := H1) (a := D) (o := .lst ((nmU t u).map V.str))
    generalize upd H1 D (.lst ((nmU t u).map V.str)) = H2 at s2 hN ⊢
    have s02 := s0.trans s2
    walk_at "rd"
    refine ⟨sz (by decide), fun M nM => ?_⟩
    have s3 := same_new nM (o := .lst ([] : List V))
    have hM := upd_same (H := H2) (a := M) (o := .lst ([] : List V))
    generalize upd H2 M (.lst []) = H3 at s3 hM ⊢
    have hN3 := s3 _ _ hN
    walk_at "rd"
    refine ⟨_, _, rfl, .inl (sq hN3), ?_⟩
    rw [List.length_map]
    show spRows K _ _ _ _
    unfold spRows
    refine ⟨(nmU t u).length, rfl, nl, fun R us H4 s4 nR hR dR => ?_⟩
    have hM4 := s4 _ _ hM
    have hN4 := s4 _ _ hN3
    have s24 := s3.trans s4
    have s04 := s02.trans s24
    have t14 := Bx.Same.tup s04 t1
    have t24 := PlT.same s04 t2
    have t34 := Bx.Same.tup s04 t3
    have t44 := dpAll_same s04 t4
    have u14 := Bx.Same.tup s04 u1
    have u24 := PlT.same s04 u2
    have u34 := Bx.Same.tup s04 u3
    have u44 := dpAll_same s04 u4
    have nM0 : H M = none := s02.free nM
    have ulen : us.length = (rowsN (nmU t u).length).length := by rw [da_len dR, List.length_map]
    have un : (rowsN (nmU t u).length).length ≤ 243 := by
      rw [rowsN_num]
      exact Nat.pow_le_pow_right (by decide) nl
    clear s4 t11 u11 t21 u21
    have RM : R ≠ M := fun e => by
      rw [e, hM] at nR
      cases nR
    walk_at "rd"
    refine ⟨⟨_, sq hR⟩, for_it walk_list (fun i σ H' => ∃ (o4 : Option V) (vs : List V), σ = [some (.ref p), some (.ref q), some (.ref D), some (.ref M), o4, none] ∧ SameBut M H4 H' ∧ H' M = some (.lst vs) ∧ DpAll K H4 vs ((((rowsN (nmU t u).length).take i).filter (fitB t u (nmU t u))).map rowD))
      ⟨none, [], rfl, SameBut.refl _ _, hM4, .nil⟩ (fun i σ H' _ ⟨_, _, _, s, _⟩ => sq (s _ _ RM hR)) ?_ ?_⟩
    · rintro i x σ H5a H5 hi ⟨o4, vs, rfl, s5, hV, dv⟩ ⟨rfl, hx⟩
      obtain ⟨r, hr0, dr⟩ := da_atM dR hx
      obtain ⟨rq, rfl, hrq⟩ := row_dp dr
      have rl := rowsN_len _ r (List.mem_of_getElem? hr0)
      have kp := kp_but (K := K) hM4 s5
      have DM : D ≠ M := fun e => by
        rw [e, nM] at hN
        cases hN
      have hN5 := s5 _ _ DM hN4
      dsimp only [tIfS]
      refine and_caseS (b1 := decide (pk (nmU t u) r t.1 ∈ t.2)) (b2 := decide (pk (nmU t u) r u.1 ∈ u.2)) (fun R' hR' => ?_) (fun H6 s6 R' hR' => ?_) fun H6 s6 => ?_
      · walk_at "rd"
        refine ⟨_, _, _, _, rfl, rfl, kp.1 _ _ t14, atI_nat (j := 0) rfl, ?_⟩
        show spPick K _ _ _ _
        unfold spPick
        refine ⟨D, rq, a1, nmU t u, r, t.1, rfl, sq hN5, kp.1 _ _ hrq, .inr (kp.2 _ _ t24).sq, fun z hz => (nm z).mpr (.inl hz), rl, by omega, fun N H6 s6 nN hN6 => ?_⟩
        walk_at "rd"
        refine ⟨_, _, _, _, rfl, rfl, Bx.Same.tup s6 (kp.1 _ _ t14), atI_nat (j := 1) rfl, ?_⟩
        refine ⟨rowD (pk (nmU t u) r t.1), t.2.map rowD, dp_row (sqt hN6), .tup (Bx.Same.tup s6 (kp.1 _ _ t34)) (dpAll_same s6 (da_tk kp.1 _ _ (tup_rows _) t44)), shape_row _, shape_rows _, ?_⟩
        rw [in_rows]
        exact ⟨_, rfl, hR' _ s6⟩
      · have kp6 := kp.trans (kp_same s6)
        walk_at "rd"
        refine ⟨_, _, _, _, rfl, rfl, kp6.1 _ _ u14, atI_nat (j := 0) rfl, ?_⟩
        show spPick K _ _ _ _
        unfold spPick
        refine ⟨D, rq, a2, nmU t u, r, u.1, rfl, sq (s6 _ _ hN5), kp6.1 _ _ hrq, .inr (kp6.2 _ _ u24).sq, fun z hz => (nm z).mpr (.inr hz), rl, by omega, fun N H7 s7 nN hN7 => ?_⟩
        walk_at "rd"
        refine ⟨_, _, _, _, rfl, rfl, Bx.Same.tup s7 (kp6.1 _ _ u14), atI_nat (j := 1) rfl, ?_⟩
        refine ⟨rowD (pk (nmU t u) r u.1), u.2.map rowD, dp_row (sqt hN7), .tup (Bx.Same.tup s7 (kp6.1 _ _ u34)) (dpAll_same s7 (da_tk kp6.1 _ _ (tup_rows _) u44)), shape_row _, shape_rows _, ?_⟩
        rw [in_rows]
        exact ⟨_, rfl, hR' _ s7⟩
      have ef : ((rowsN (nmU t u).length).take (i + 1)).filter (fitB t u (nmU t u)) = ((rowsN (nmU t u).length).take i).filter (fitB t u (nmU t u)) ++ if fitB t u (nmU t u) r = true then [r] else [] := by
        rw [List.take_add_one, hr0, List.filter_append]
        congr 1
        by_cases c : fitB t u (nmU t u) r = true <;> simp [c]
      have vl : vs.length ≤ 243 := by
        rw [da_len dv, List.length_map]
        have z1 := List.length_filter_le (fitB t u (nmU t u)) ((rowsN (nmU t u).length).take i)
        have z2 := List.length_take_le' i (rowsN (nmU t u).length)
        omega
      have eb : (decide (pk (nmU t u) r t.1 ∈ t.2) && decide (pk (nmU t u) r u.1 ∈ u.2)) = fitB t u (nmU t u) r := rfl
      rw [eb]
      have hV6 := s6 _ _ hV
      refine ite2 (fun c => ?_) (fun c => ?_)
      · rw [ef, if_pos c]
        walk_at "rd"
        refine ⟨.inl ⟨rfl, _, sq hV6⟩, ?_⟩
        walk_at "rd"
        refine ⟨M, vs, _, rfl, rfl, hV6, szl (by omega), _, vs ++ [.ref rq], rfl, (s5.trans (Bx.Same.but s6)).trans SameBut.upd, upd_same, ?_⟩
        rw [List.map_append]
        exact da_app dv (da_one (dp_row hrq))
      · rw [ef, if_neg c, List.append_nil]
        walk_at "rd"
        exact ⟨_, vs, rfl, s5.trans (Bx.Same.but s6), hV6, dv⟩
    · rintro σ H5 ⟨o4, vs, rfl, s5, hV, dv⟩
      rw [ulen, List.take_length] at dv
      have kp := kp_but (K := K) hM4 s5
      have dv5 := da_tk kp.1 _ _ (tup_rows _) dv
      have DM : D ≠ M := fun e => by
        rw [e, nM] at hN
        cases hN
      have s05 : Same H H5 := SameBut.same s04 nM0 s5 |> fun z => z
      walk_at "rd"
      refine ⟨D, _, rfl, sq (s5 _ _ DM hN4), fun x1 o1 nx1 od1 => ?_⟩
      have v1 := same_new nx1 (o := .frz o1 (.tup ((nmU t u).map V.str)))
      have g1 := upd_same (H := H5) (a := x1) (o := .frz o1 (.tup ((nmU t u).map V.str)))
      generalize upd H5 x1 (.frz o1 (.tup ((nmU t u).map V.str))) = H6 at v1 g1 ⊢
      walk_at "rd"
      refine ⟨M, vs, rfl, .inl ⟨sq (v1 _ _ hV), fun x2 nx2 => ?_⟩⟩
      have v2 := same_new nx2 (o := .tup vs)
      have g2 := upd_same (H := H6) (a := x2) (o := .tup vs)
      generalize upd H6 x2 (.tup vs) = H7 at v2 g2 ⊢
      walk_at "rd"
      refine ⟨sz (by show 2 ≤ 100000; decide), fun x3 nx3 => ?_⟩
      have v3 := same_new nx3 (o := .tup [.ref x1, .ref x2])
      have g3 := upd_same (H := H7) (a := x3) (o := .tup [.ref x1, .ref x2])
      have v := Same.trans v1 (Same.trans v2 v3)
      exact q0 x3 _ (s05.trans v) ⟨x1, x2, vs, sqt g3, PlT.same (Same.trans v2 v3) ⟨o1, g1, od1⟩, Bx.Same.tup v3 (sqt g2), dpAll_same v dv5⟩
end
end K19
namespace K19
local macro_rules | `(tactic| walk_at "rd") => `(tactic| repeat (first | refine ⟨rfl, ?_⟩ | refine ⟨_, rfl, ?_⟩ | refine ⟨_, _, rfl, rfl, ?_⟩ | refine ⟨⟨_, rfl⟩, ?_⟩))
open PySem PySem.Spec PyProof.Rows L2 Bx TL Dx Zx Ow Sup NdefX Px
theorem lay_tab {t : Tab} (h : ∀ z ∈ t.1, PyData.strOk z = true) : Lay 4 (tabD t) := lay_tuple (lays_cons (lay_up (lay_tuple (lays_strs (n := 1) h)) (by decide)) (lays_cons (lay_up (lay_tuple (lay_rows t.2)) (by decide)) lays_nil))
section
variable {P : Program} {w : World} {K : PySem.W.Frag} {mg : Str → Option Value} {base : Heap}
@[irreducible] def spLDrop (K : PySem.W.Frag) : Sp := fun vs H Q _ => ∃ (p : Addr) (t : Tab) (z : Str), vs = [.ref p, .str z] ∧ TabAt K H p t ∧ TOk t ∧ t.1.length ≤ 5 ∧ ∀ r H', Same H H' → Dp K H' (.ref r) (tabD (t.1.filter fun y => decide (y ≠ z), (once [] (dropR t z)).mergeSort rle)) → Q (.ref r) H'
set_option maxHeartbeats 2000000 in
theorem ok_dropped {f : Addr} {fd : FuncData} (F : Fun K "_law_dropped" "_law_dropped" s__law_dropped f fd) (m_list : mg "list" = none) (m_sorted : mg "sorted" = none) (m_tuple : mg "tuple" = none) (C__law_picked : Cal P w K mg base "_law_picked" 1 ["_law_names", "_law_row", "_law_wanted"] (spPick K)) : FnOk P w K mg base CX0 2 f fd ["_law_table_here", "_law_name"] (spLDrop K) := by
  refine F.ok sc__law_dropped (fun vs H Q E h => ?_) (fun cdv A outer s H vs Q E hr h => ?_)
  · unfold spLDrop at h
    obtain ⟨p, t, z, rfl, _⟩ := h
    rfl
  · unfold spLDrop at h
    obtain ⟨p, t, z, rfl, hp, ht, tl, q0⟩ := h
    have tr := len_243 ht tl
    obtain ⟨a1, b1, us1, t1, t2, t3, t4⟩ := hp
    have l1 : us1.length = t.2.length := by rw [da_len t4, List.length_map]
    refine ⟨_, (pss_cons (ps_set (i := 2) sc__law_dropped.nd rfl (Or.inl rfl) (pe_callTy (T := "list") call_list_of (by rfl) m_list (by decide +kernel) (pa_cons (pe_ix ix_tup (pv 0) pe_int (fun _ _ => rfl)) pa_nil)))
    (pss_cons (ps_setLc (i := 3) (own := [("_law_other", 7)]) rfl sc__law_dropped.nd rfl rfl (sw_true rfl rfl rfl (by decide +kernel)) (pi_list (pv 2)) (blkOk_by (N := n__law_dropped) (sc := defScope s__law_dropped) (by decide +kernel)) (fun _ _ _ _ _ => pg_name (i := 7) sc__law_dropped.nd rfl (Or.inl rfl)) (fun _ _ _ _ _ => pts_one (pt_cmpR op_ne (pv 7) (pv 1) (nomark _))) (fun _ _ _ _ _ => (pv 7)))
    (pss_cons (ps_set (i := 4) sc__law_dropped.nd rfl (Or.inl rfl) (pe_lst pa_nil))
    (pss_cons (ps_for PassesOwn.never rfl (pi_tup (pe_ix ix_tup (pv 0) pe_int (fun _ _ => rfl))) (pg_name (i := 5) sc__law_dropped.nd rfl (Or.inl rfl))
      (pss_cons (ps_set (i := 6) sc__law_dropped.nd rfl (Or.inl rfl) (pe_cal C__law_picked (hr.mono (by decide)) (pa_cons (pv 2) (pa_cons (pv 5) (pa_cons (pv 3) pa_nil)))))
    (pss_one (ps_if (pt_cmpR (op_notInD (room hr)) (pv 6) (pv 4) (by rfl))
      (pss_one (ps_expr (pe_bm PySem.F.plainAttrs_list PySem.F.slot_list_append PySem.F.type_list_append mt_append (pv 4) (pa_cons (pv 6) pa_nil))))
      pss_nil))))
    (pss_one (ps_ret (pe_tup (pa_cons (pe_callTy (T := "tuple") call_tupleF (by rfl) m_tuple (by decide +kernel) (pa_cons (pv 3) pa_nil)) (pa_cons (pe_callTy (T := "tuple") call_tuple_of (by rfl) m_tuple (by decide +kernel) (pa_cons (pe_callB (id := "sorted") (Sd.cr_sortT (room hr)) (by rfl) m_sorted (by decide +kernel) (pa_cons (pv 4) pa_nil)) pa_nil)) pa_nil))))))))), ?_⟩
    walk_at "rd"
    refine ⟨_, _, _, _, rfl, rfl, t1, atI_nat (j := 0) rfl, ?_⟩
    refine ⟨a1, _, rfl, .inr t2.sq, fun N nN => ?_⟩
    have s1 := same_new nN (o := .lst (t.1.map V.str))
    have hN := upd_same (H := H) (a := N) (o := .lst (t.1.map V.str))
    generalize upd H N (.lst (t.1.map V.str)) = H1 at s1 hN ⊢
    walk_at "rd"
    refine ⟨⟨_, sq hN⟩, fun D hD => ?_⟩
    refine lc_it walk_list (fun i H' => H' = upd H1 D (.lst (((t.1.take i).filter fun y => decide (y ≠ z)).map V.str))) rfl (fun i H' _ e => e ▸ sq (same_new hD _ _ hN)) ?_ ?_
    · rintro i v H2a H2 hi rfl ⟨rfl, hx⟩
      obtain ⟨y, hy, rfl⟩ := at_map hx
      refine ⟨rfl, ?_⟩
      walk_at "rd"
      have e3 : ((t.1.take (i + 1)).filter fun y => decide (y ≠ z)) = ((t.1.take i).filter fun y => decide (y ≠ z)) ++ if y = z then [] else [y] := by
        rw [List.take_add_one, hy, List.filter_append]
        congr 1
        by_cases c : y = z <;> simp [c]
      have e4 : ((t.1.take i).filter fun y => decide (y ≠ z)).length ≤ 5 := Nat.le_trans (List.length_filter_le _ _) (Nat.le_trans (List.length_take_le' i _) tl)
      refine ite2 (fun c => ?_) (fun c => ?_)
      · have ne : y ≠ z := fun e => by
          have c2 := ne_t c
          exact c2 (congrArg V.str e)
        walk_at "rd"
        refine ⟨_, upd_same, szl (by rw [List.length_map]; omega), ?_⟩
        rw [upd_upd, e3, if_neg ne, List.map_append]
        rfl
      · have e : y = z := V.str.inj (ne_f c)
        rw [e3, if_pos e, List.append_nil]
    rintro H2 rfl
    rw [List.length_map, List.take_length]
    have s2 := same_new hD (o := .lst ((t.1.filter fun y => decide (y ≠ z)).map V.str))
    have hW := upd_same (H := H1) (a := D) (o := .lst ((t.1.filter fun y => decide (y ≠ z)).map V.str))
    generalize upd H1 D (.lst ((t.1.filter fun y => decide (y ≠ z)).map V.str)) = H2 at s2 hW ⊢
    have s02 := s1.trans s2
    have hN2 := s2 _ _ hN
    walk_at "rd"
    refine ⟨sz (by decide), fun M nM => ?_⟩
    have s3 := same_new nM (o := .lst ([] : List V))
    have hM := upd_same (H := H2) (a := M) (o := .lst ([] : List V))
    generalize upd H2 M (.lst []) = H3 at s3 hM ⊢
    have s03 := s02.trans s3
    have t13 := Bx.Same.tup s03 t1
    have t33 := Bx.Same.tup s03 t3
    have t43 := dpAll_same s03 t4
    have nM0 : H M = none := s02.free nM
    have NM : N ≠ M := fun e => by
      rw [e, nM] at hN2
      cases hN2
    have DM : D ≠ M := fun e => by
      rw [e, nM] at hW
      cases hW
    have hN3 := s3 _ _ hN2
    have hW3 := s3 _ _ hW
    walk_at "rd"
    refine ⟨_, _, _, _, rfl, rfl, t13, atI_nat (j := 1) rfl, ?_⟩
    refine ⟨b1, rfl, ⟨_, t33⟩, for_it walk_tup (fun i σ H' => ∃ (o5 o6 : Option V) (vs : List V), σ = [some (.ref p), some (.str z), some (.ref N), some (.ref D), some (.ref M), o5, o6, none] ∧ SameBut M H3 H' ∧ H' M = some (.lst vs) ∧ DpAll K (mn H' [M]) vs ((once [] ((t.2.take i).map fun r => pk t.1 r (t.1.filter fun y => decide (y ≠ z)))).map rowD))
      ⟨none, none, [], rfl, SameBut.refl _ _, hM, .nil⟩ (fun i σ H' _ ⟨_, _, _, _, s, _⟩ => (kp_but (K := K) hM s).1 _ _ t33) ?_ ?_⟩
    · rintro i x σ H4a H4 hi ⟨o5, o6, vs, rfl, s4, hV, dv⟩ ⟨rfl, hx⟩
      obtain ⟨r, hr0, dr⟩ := da_atM t43 hx
      obtain ⟨rq, rfl, hrq⟩ := row_dp dr
      have rl := ht.len (List.mem_of_getElem? hr0)
      have kp := kp_but (K := K) hM s4
      walk_at "rd"
      show spPick K _ _ _ _
      unfold spPick
      refine ⟨N, rq, D, t.1, r, t.1.filter fun y => decide (y ≠ z), rfl, sq (s4 _ _ NM hN3), kp.1 _ _ hrq, .inl (sq (s4 _ _ DM hW3)), fun y hy => (List.mem_filter.mp hy).1, rl, Nat.le_trans (List.length_filter_le _ _) (by omega), fun T H5 s5 nT hT => ?_⟩
      have hV5 := s5 _ _ hV
      have TM : T ≠ M := fun e => by
        rw [e, hV] at nT
        cases nT
      have dv5 : DpAll K (mn H5 [M]) vs _ := dpAll_same (mn_all s5) dv
      have vl : vs.length ≤ 243 := by
        rw [da_len dv, List.length_map]
        have z1 := once_le ((t.2.take i).map fun r => pk t.1 r (t.1.filter fun y => decide (y ≠ z))) []
        rw [List.length_map] at z1
        have z2 := List.length_take_le' i t.2
        have z3 : ([] : List Row).length = 0 := rfl
        omega
      have es : (t.2.take (i + 1)).map (fun r => pk t.1 r (t.1.filter fun y => decide (y ≠ z))) = ((t.2.take i).map fun r => pk t.1 r (t.1.filter fun y => decide (y ≠ z))) ++ [pk t.1 r (t.1.filter fun y => decide (y ≠ z))] := by
        rw [List.take_add_one, hr0, List.map_append]
        rfl
      rw [es, once_snoc]
      generalize once [] ((t.2.take i).map fun r => pk t.1 r (t.1.filter fun y => decide (y ≠ z))) = O at dv5 ⊢
      walk_at "rd"
      refine ⟨rowD (pk t.1 r (t.1.filter fun y => decide (y ≠ z))), O.map rowD, dp_row (sqt hT), .lst (sq hV5) (dpAll_same mn_same dv5), shape_row _, shape_rowsL _, ?_⟩
      rw [in_rows]
      walk_at "rd"
      refine ite2 (fun c => ?_) (fun c => ?_)
      · have c2 : ¬ pk t.1 r (t.1.filter fun y => decide (y ≠ z)) ∈ O := ne_t c
        rw [if_neg c2]
        walk_at "rd"
        refine ⟨.inl ⟨rfl, _, sq hV5⟩, ?_⟩
        walk_at "rd"
        refine ⟨M, vs, _, rfl, rfl, hV5, szl (by omega), _, _, vs ++ [.ref T], rfl, (s4.trans (Bx.Same.but s5)).trans SameBut.upd, upd_same, ?_⟩
        rw [mn_upd (by simp), List.map_append]
        refine da_app dv5 (da_one (dp_row (sqt ?_)))
        rw [mn_out (by simp [TM])]
        exact hT
      · have c2 : pk t.1 r (t.1.filter fun y => decide (y ≠ z)) ∈ O := ne_f c
        rw [if_pos c2]
        walk_at "rd"
        exact ⟨_, _, vs, rfl, s4.trans (Bx.Same.but s5), hV5, dv5⟩
    · rintro σ H4 ⟨o5, o6, vs, rfl, s4, hV, dv⟩
      rw [l1, List.take_length] at dv
      have eo : once [] (t.2.map fun r => pk t.1 r (t.1.filter fun y => decide (y ≠ z))) = once [] (dropR t z) := rfl
      rw [eo] at dv
      have s04 : Same H H4 := SameBut.same s03 nM0 s4
      walk_at "rd"
      refine ⟨D, _, rfl, sq (s4 _ _ DM hW3), fun x1 o1 nx1 od1 => ?_⟩
      have v1 := same_new nx1 (o := .frz o1 (.tup ((t.1.filter fun y => decide (y ≠ z)).map V.str)))
      have g1 := upd_same (H := H4) (a := x1) (o := .frz o1 (.tup ((t.1.filter fun y => decide (y ≠ z)).map V.str)))
      generalize upd H4 x1 (.frz o1 (.tup ((t.1.filter fun y => decide (y ≠ z)).map V.str))) = H5 at v1 g1 ⊢
      have dv5 : DpAll K H5 vs _ := dpAll_same v1 (dpAll_same mn_same dv)
      have ol := once_le (dropR t z) []
      have dl : (dropR t z).length = t.2.length := List.length_map _
      have z3 : ([] : List Row).length = 0 := rfl
      walk_at "rd"
      refine ⟨M, vs, _, rfl, sq (v1 _ _ hV), dv5, alike_rows _, fun d hd => ?_, by rw [List.length_map]; exact sz (by omega), fun d hd => ?_, fun zs sp nsp dz => ?_⟩
      · obtain ⟨r, _, rfl⟩ := List.mem_map.mp hd
        exact ⟨_, rfl⟩
      · obtain ⟨r, _, rfl⟩ := List.mem_map.mp hd
        exact row_depth r
      rw [rows_sort] at dz
      have s9 := same_new nsp (o := .lst zs)
      have hsp := upd_same (H := H5) (a := sp) (o := .lst zs)
      have dz9 := dpAll_same s9 dz
      generalize upd H5 sp (.lst zs) = H6 at s9 hsp dz9 ⊢
      refine ⟨sp, _, rfl, .inl ⟨sq hsp, fun tp ntp => ?_⟩⟩
      have s10 := same_new ntp (o := .tup zs)
      have htp := upd_same (H := H6) (a := tp) (o := .tup zs)
      generalize upd H6 tp (.tup zs) = H7 at s10 htp ⊢
      refine ⟨sz (by show 2 ≤ 100000; decide), fun R nR => ?_⟩
      have s11 := same_new nR (o := .tup [.ref x1, .ref tp])
      have s511 := s9.trans (s10.trans s11)
      exact q0 R _ (s04.trans (v1.trans s511)) (.tup (sqt upd_same) (.cons (names_dp (PlT.same s511 ⟨o1, g1, od1⟩).sq) (.cons (.tup (sqt (s11 _ _ htp)) (dpAll_same (s10.trans s11) dz9)) .nil)))
@[irreducible] def spSame (K : PySem.W.Frag) : Sp := fun vs H Q _ => ∃ (p q : Addr) (t : Tab), vs = [.ref p, .ref q] ∧ Dp K H (.ref p) (tabD t) ∧ Dp K H (.ref q) (tabD t) ∧ (∀ z ∈ t.1, PyData.strOk z = true) ∧ Q (.bl true) H
set_option maxHeartbeats 2000000 in
theorem ok_same {f : Addr} {fd : FuncData} (F : Fun K "_law_same" "_law_same" s__law_same f fd) (m_isinstance : mg "isinstance" = none) (m_int : mg "int" = none) (m_bool : mg "bool" = none) : FnOk P w K mg base CX0 1 f fd ["_law_actual", "_law_expected"] (spSame K) := by
  refine F.ok sc__law_same (fun vs H Q E h => ?_) (fun cdv A outer s H vs Q E hr h => ?_)
  · unfold spSame at h
    obtain ⟨p, q, t, rfl, _⟩ := h
    rfl
  · unfold spSame at h
    obtain ⟨p, q, t, rfl, hp, hq, ok, q0⟩ := h
    have L := lay_tab ok
    obtain ⟨p', xs, ep, t1, da⟩ := dp_tup hp
    cases ep
    cases da with
    | cons d1 da =>
    cases da with
    | cons d2 da =>
    cases da
    obtain ⟨b, us, rfl, t3, t4⟩ := dp_tup d2
    refine ⟨_, (pss_cons (ps_if (pt_cmpR (op_neD hr.units) (pv 0) (pv 1) (nomark _))
      (pss_one (ps_ret pe_bl))
      pss_nil)
    (pss_cons (ps_for PassesOwn.never rfl (pi_tup (pe_ix ix_tup (pv 0) pe_int (fun _ _ => rfl))) (pg_name (i := 2) sc__law_same.nd rfl (Or.inl rfl))
      (pss_one (ps_for PassesOwn.never rfl (pi_tup (pv 2)) (pg_name (i := 3) sc__law_same.nd rfl (Or.inl rfl))
      (pss_one (ps_if (PW.pt (pw_or (pt_not (pt_val (pe_callB (id := "isinstance") call_isi (by rfl) m_isinstance (by decide +kernel) (pa_cons (pv 3) (pa_cons (pe_bltn (v := .ty "int") (by rfl) m_int (by decide +kernel) rfl) pa_nil))))) (pw_or1 (pt_val (pe_callB (id := "isinstance") call_isi (by rfl) m_isinstance (by decide +kernel) (pa_cons (pv 3) (pa_cons (pe_bltn (v := .ty "bool") (by rfl) m_bool (by decide +kernel) rfl) pa_nil)))))))
      (pss_one (ps_ret pe_bl))
      pss_nil)))))
    (pss_one (ps_ret pe_bl)))), ?_⟩
    walk_at "rd"
    refine ⟨_, _, hp, hq, shape L (by decide), shape L (by decide), ?_⟩
    rw [eq_refl L]
    refine ⟨_, rfl, ?_⟩
    refine ite2 (fun c => absurd c (by decide)) (fun _ => ?_)
    walk_at "rd"
    refine ⟨_, _, _, _, rfl, rfl, t1, atI_nat (j := 1) rfl, ?_⟩
    refine ⟨b, rfl, ⟨_, t3⟩, for_it walk_tup (fun i σ H' => ∃ (o2 o3 : Option V), σ = [some (.ref p), some (.ref q), o2, o3] ∧ H' = H) ⟨none, none, rfl, rfl⟩ (fun i σ H' _ ⟨_, _, _, e⟩ => e ▸ t3) ?_ ?_⟩
    · rintro i x σ H4a H4 hi ⟨o2, o3, rfl, rfl⟩ ⟨e4, hx⟩
      subst e4
      obtain ⟨r, hr0, dr⟩ := da_atM t4 hx
      obtain ⟨rq, rfl, hrq⟩ := row_dp dr
      walk_at "rd"
      refine ⟨⟨_, hrq⟩, for_it walk_tup (fun j σ H' => ∃ (o3 : Option V), σ = [some (.ref p), some (.ref q), some (.ref rq), o3] ∧ H' = H4) ⟨o3, rfl, rfl⟩ (fun i σ H' _ ⟨_, _, e⟩ => e ▸ hrq) ?_ ?_⟩
      · rintro j x σ H5a H5 hj ⟨o3, rfl, rfl⟩ ⟨e5, hx⟩
        subst e5
        obtain ⟨v, hv, rfl⟩ := at_map hx
        walk_at "rd"
        refine ⟨_, _, _, _, true, rfl, .ty "int", .base (.int _), kit_ty (by decide +kernel), ?_⟩
        walk_at "rd"
        refine ⟨_, _, _, _, false, rfl, .ty "bool", .base (.int _), kit_ty (by decide +kernel), ?_⟩
        walk_at "rd"
        rfl
      · rintro σ H5 ⟨o3, rfl, rfl⟩
        walk_at "rd"
        exact ⟨_, _, rfl, rfl⟩
    · rintro σ H4 ⟨o2, o3, rfl, rfl⟩
      walk_at "rd"
      exact q0
end
end K19
namespace K19
local macro_rules | `(tactic| walk_at "rd") => `(tactic| repeat (first | refine ⟨rfl, ?_⟩ | refine ⟨_, rfl, ?_⟩ | refine ⟨_, _, rfl, rfl, ?_⟩ | refine ⟨⟨_, rfl⟩, ?_⟩))
open PySem PySem.Spec PyProof.Rows L2 Bx TL Dx Zx Ow Sup NdefX Px
def put (l : As) (z : Str) (v : Int) : As := l ++ [(z, v)]
theorem perm_asc {ys sh s : List Str} (pm : ys.Perm sh) (st : sortedS ys = true) (nd : sh.Nodup) (as : Asc s) (m : ∀ x, x ∈ s ↔ x ∈ sh) : ys = s :=
  asc_eq (asc_of st (pm.nodup_iff.mpr nd)) as fun x => pm.mem_iff.trans (m x).symm
theorem keys_as (l : As) : (asV l).map (·.1) = (l.map (·.1)).map Sum.inr := by
  unfold asV
  rw [List.map_map, List.map_map]
  rfl
theorem put_as {l : As} {z : Str} {v : Int} (h : z ∉ l.map (·.1)) : putK (asV l) (.inr z) (.int v) = asV (put l z v) := by
  unfold putK
  have e : ((asV l).any fun kv => decide (kv.1 = .inr z)) = false := by
    rw [List.any_eq_false]
    intro kv hk
    unfold asV at hk
    obtain ⟨p, hp, rfl⟩ := List.mem_map.mp hk
    simp only [decide_eq_true_eq]
    intro e
    exact h (List.mem_map.mpr ⟨p, hp, Sum.inr.inj e⟩)
  rw [e]
  show asV l ++ [(.inr z, .int v)] = _
  unfold asV put
  rw [List.map_append]
  rfl
theorem set_gi {te : TE} {i : Nat} {D : Ends} {rest : TS} {σ : List (Option V)} {H : Hp} (R : V → Hp → Prop) (h : ∀ Z : VK, (∀ v H', R v H' → Z v H') → te σ H Z) (k : ∀ v H', R v H' → rest D (σ.set i (some v)) H') : tSeq (tAsg te (gName i)) rest D σ H :=
  h (fun v H' => rest D (σ.set i (some v)) H') k
theorem st_co {t : TS} {D : Ends} {rest : TS} {σ : List (Option V)} {H : Hp} (R : List (Option V) → Hp → Prop) (h : ∀ D' : Ends, (∀ σ' H', R σ' H' → D'.nx σ' H') → t D' σ H) (k : ∀ σ' H', R σ' H' → rest D σ' H') : tSeq t rest D σ H :=
  h { D with nx := rest D } k

def prs (f : Str → PyData) (ys : List Str) : List PyData := ys.map fun z => .tuple [.str z, f z]
theorem tup_prs {f : Str → PyData} (hf : ∀ z, tupD (f z) = true) : ∀ ys : List Str, tupAll (prs f ys) = true
  | [] => rfl
  | z :: r => by
    show (tupD (.tuple [.str z, f z]) && tupAll (prs f r)) = true
    rw [tup_prs hf r]
    show (true && (tupD (f z) && true) && true) = true
    rw [hf z]
    rfl
def pool6 : List Str := ["a", "a1", "b", "b.c", "d", "zz"]
theorem pool6_asc : Asc pool6 := by
  unfold Asc
  decide +kernel
def vl (l : As) (z : Str) : Int := (lk l z).getD 0
def intF (l : As) (z : Str) : PyData := .int (vl l z)
theorem has_as {l : As} {z : Str} (h : z ∈ l.map (·.1)) : valV (asV l) (.inr z) = some (.int (vl l z)) := by
  rw [val_as]
  unfold vl lk
  cases e : l.find? fun p => decide (p.1 = z) with
  | none =>
    obtain ⟨p, hp, rfl⟩ := List.mem_map.mp h
    have := List.find?_eq_none.mp e p hp
    simp at this
  | some p => rfl
abbrev E0 : Str := Str.ofString ""
/-- the decided value at place k is another one -/
def badK (ns : List Str) (l : As) (r : Row) (k : Nat) : Bool := !decide (V.int ((lk l (ns.getD k E0)).getD (r.getD k 0)) = V.int (r.getD k 0))
theorem bad_ok {ns : List Str} {l : As} {r : Row} (nd : ns.Nodup) (hl : r.length = ns.length) : decide (((((List.range r.length).filter (badK ns l r)).length : Nat) : Int) = 0) = okR ns l r := by
  have key : (List.range r.length).filter (badK ns l r) = [] ↔ okR ns l r = true := by
    rw [List.filter_eq_nil_iff]
    unfold okR
    rw [List.all_map, List.all_eq_true]
    constructor
    · intro h x hx
      obtain ⟨z, hz, rfl⟩ := List.mem_map.mp hx
      obtain ⟨hz1, hz2⟩ := List.mem_filter.mp hz
      obtain ⟨y, ey⟩ := Option.isSome_iff_exists.mp hz2
      have lt := List.idxOf_lt_length_of_mem hz1
      have b := h (ns.idxOf z) (List.mem_range.mpr (by omega))
      unfold badK at b
      rw [List.getD_eq_getElem?_getD, (idx_at hz1).1] at b
      simp only [Option.getD_some, ey, Bool.not_eq_true', decide_eq_false_iff_not, Decidable.not_not] at b
      show decide (V.int (r.getD (ns.idxOf z) 0) = V.int ((lk l z).getD 0)) = true
      rw [ey]
      exact decide_eq_true b.symm
    · intro h k hk b
      have lt : k < ns.length := by
        rw [← hl]
        exact List.mem_range.mp hk
      have b2 : ¬ V.int ((lk l (ns.getD k E0)).getD (r.getD k 0)) = V.int (r.getD k 0) := ne_t b
      have eg : ns.getD k E0 = ns[k] := by rw [List.getD_eq_getElem?_getD, List.getElem?_eq_getElem lt]; rfl
      rw [eg] at b2
      cases e : lk l ns[k] with
      | none =>
        rw [e] at b2
        exact b2 rfl
      | some y =>
        rw [e] at b2
        have z := h (k, y) (List.mem_map.mpr ⟨ns[k], List.mem_filter.mpr ⟨List.getElem_mem lt, by rw [e]; rfl⟩, by rw [e, nd.idxOf_getElem k lt]; rfl⟩)
        have z2 : V.int (r.getD k 0) = V.int y := of_decide_eq_true z
        exact b2 z2.symm
  cases e : okR ns l r with
  | true =>
    rw [key.mpr e]
    rfl
  | false =>
    have ne : (List.range r.length).filter (badK ns l r) ≠ [] := fun z => by
      rw [key.mp z] at e
      cases e
    have pos := List.length_pos_iff.mpr ne
    exact decide_eq_false (by omega)
theorem any_take {p : Row → Bool} {L : List Row} {i : Nat} {r : Row} (h : L[i]? = some r) : (L.take (i + 1)).any p = ((L.take i).any p || p r) := by
  rw [List.take_add_one, h, List.any_append]
  simp
theorem lay_prs {ns : List Str} {l : As} (ok : ∀ z ∈ ns, PyData.strOk z = true) : Lay 4 (.list (prs (intF l) ns)) := by
  refine lay_up (lay_list (n := 2) (lays_of fun d hd => ?_)) (by decide)
  obtain ⟨z, hz, rfl⟩ := List.mem_map.mp hd
  exact lay_tuple (lays_cons (lay_str (ok z hz)) (lays_cons lay_int lays_nil))
section
variable {P : Program} {w : World} {K : PySem.W.Frag} {mg : Str → Option Value} {base : Heap}
theorem pairs_lc {tw : TE} {σ : List (Option V)} {H : Hp} {i a : Nat} {d : Addr} {kvs : List (Key × V)} {ks : List Str} {g : Str → V} {f : Str → PyData} {Q : VK} (hi : i < σ.length) (ha : a ≠ i) (hs : σ[a]? = some (some (.ref d))) (hd : H d = some (.dK kvs)) (h64 : ks.length < 64)
    (hv : ∀ z ∈ ks, valV kvs (.inr z) = some (g z)) (hf : ∀ z H', Dp K H' (g z) (f z)) (ht : ∀ z, tupD (f z) = true)
    (hw : ∀ R : VK, (∀ p H1 ys, Same H H1 → H1 p = some (.lst (ys.map V.str)) → ys.Perm ks → sortedS ys = true → R (.ref p) H1) → tw σ H R)
    (q : ∀ D H' us ys, Same H H' → H' D = some (.lst us) → H D = none → DpAll K H' us (prs f ys) → ys.Perm ks → sortedS ys = true → Q (.ref D) H') :
    tLc (iList K tw) (gName i) tYes (tTup (tCons (tVar i) (tCons (tDGet (tVar a) (tVar i)) tNil))) [i] σ H Q := by
  refine hw _ fun p H1 ys s1 hp pm st => ⟨p, rfl, ⟨_, sq hp⟩, fun D hD => ?_⟩
  have yl : ys.length < 64 := by rw [pm.length_eq]; exact h64
  refine lc_it walk_list (fun j H' => ∃ us, H' D = some (.lst us) ∧ DpAll K H' us (prs f (ys.take j)) ∧ us.length = j ∧ Same H1 H') ⟨[], upd_same, .nil, rfl, same_new hD⟩ (fun j H' _ ⟨_, _, _, _, s⟩ => sq (s _ _ hp)) ?_ ?_
  · rintro j v H2 H3 hj ⟨us, hu, hda, hul, s2⟩ ⟨rfl, hx⟩
    rw [List.length_map] at hj
    obtain ⟨z, hz, rfl⟩ := at_map hx
    have hzk : z ∈ ks := pm.mem_iff.mp (List.mem_of_getElem? hz)
    have wl : (wipe σ [i]).length = σ.length := wipe_length σ [i]
    have wi : ((wipe σ [i]).set i (some (V.str z)))[i]? = some (some (V.str z)) := by
      rw [List.getElem?_set_self (by rw [wl]; exact hi)]
    have wa : ((wipe σ [i]).set i (some (V.str z)))[a]? = some (some (V.ref d)) := by
      rw [List.getElem?_set_ne (Ne.symm ha), wipe_out (by simpa using ha)]
      exact hs
    refine ⟨?_, ?_⟩
    · show ((wipe σ []).set i none |>.set i (some (V.str z)) |>.set i none) = (wipe σ []).set i none
      rw [List.set_set, List.set_set]
    have hd3 := s2 _ _ (s1 _ _ hd)
    refine ⟨_, wi, _, wa, _, wi, d, g z, rfl, by rw [← hv z hzk]; exact DGet.k (k := .inr z) hd3, ?_⟩
    refine ⟨sz (by show 2 ≤ 100000; decide), fun T nT => ?_⟩
    have sT := same_new nT (o := .tup [.str z, g z])
    have eT : (upd H3 T (.tup [.str z, g z])) T = some (.tup [.str z, g z]) := upd_same
    have hu2 := sT _ _ hu
    have tk := tk_lst (K := K) (o := .lst (us ++ [.ref T])) hu2
    refine ⟨us, hu2, szl (by omega), us ++ [.ref T], upd_same, ?_, by rw [List.length_append, hul]; rfl, ?_⟩
    · have e : prs f (ys.take (j + 1)) = prs f (ys.take j) ++ [.tuple [.str z, f z]] := by
        unfold prs
        rw [List.take_add_one, hz, List.map_append]
        rfl
      rw [e]
      refine da_app (da_tk tk _ _ (tup_prs ht _) (dpAll_same sT hda)) (da_one ?_)
      exact .tup (sqt (show (upd (upd H3 T (.tup [.str z, g z])) D (.lst (us ++ [.ref T]))) T = some (.tup [.str z, g z]) by rw [upd_ne fun e => by rw [e, hu] at nT; cases nT]; exact eT)) (.cons (.str z) (da_one (hf z _)))
    · intro b o hb
      rw [upd_ne (ne_of_none hb hD)]
      exact sT _ _ (s2 _ _ hb)
  · rintro H2 ⟨us, hu, hda, hul, s2⟩
    rw [List.length_map, List.take_length] at hda
    exact q D H2 us ys (Same.trans s1 s2) hu (s1.free hD) hda pm st
theorem tk_dk {H : Hp} {p : Addr} {ys : List (Key × V)} {o : HO} (hp : H p = some (.dK ys)) : Tk K H (upd H p o) := fun a xs h => by
  rcases h with (h | ⟨u, h⟩) | h
  · exact .inl (.inl (by rw [upd_ne fun z => by rw [z, hp] at h; cases h]; exact h))
  · exact .inl (.inr ⟨u, by rw [upd_ne fun z => by rw [z, hp] at h; cases h]; exact h⟩)
  · exact .inr h
theorem new_put {l : As} {ns : List Str} {i : Nat} {z : Str} (nd : ns.Nodup) (e : l.map (·.1) = ns.take i) (hz : ns[i]? = some z) : z ∉ l.map (·.1) := by
  rw [e]
  intro hm
  obtain ⟨j, hj⟩ := List.mem_iff_getElem?.mp hm
  rw [List.getElem?_take] at hj
  split at hj
  · rename_i hlt
    obtain ⟨hi, ei⟩ := List.getElem?_eq_some_iff.mp hz
    obtain ⟨hj', ej⟩ := List.getElem?_eq_some_iff.mp hj
    exact List.pairwise_iff_getElem.mp nd j i hj' hi hlt (ej.trans ei.symm)
  · cases hj

@[irreducible] def spCR (K : PySem.W.Frag) : Sp := fun vs H Q _ => ∃ (s p : Addr) (t : Tab), vs = [.ref s, .ref p] ∧ Src H s ∧ TabAt K H p t ∧ TOk t ∧ t.1.length ≤ 5 ∧ ∀ H', SameBut s H H' → Src H' s → Q (.bl true) H'
set_option maxHeartbeats 4000000 in
theorem ok_can_right {f : Addr} {fd : FuncData} (F : Fun K "_law_can_hold_right" "_law_can_hold_right" s__law_can_hold_right f fd) (m_len : mg "len" = none) (m_range : mg "range" = none) (m_sorted : mg "sorted" = none) (m_isinstance : mg "isinstance" = none) (m_bool : mg "bool" = none) (C__law_draw : CDraw P w K mg base)
    (C__law_some : Cal P w K mg base "_law_some" 2 ["_law_source_here", "_law_names", "_law_most"] (spSome K)) (C_can_hold : Cal P w K mg base "can_hold" 2 ["constraint", "decided"] (spCan K)) : FnOk P w K mg base CX0 3 f fd ["_law_source_here", "_law_table_here"] (spCR K) := by
  refine F.ok sc__law_can_hold_right (fun vs H Q E h => ?_) (fun cdv A outer s H vs Q E hr h => ?_)
  · unfold spCR at h
    obtain ⟨s, p, t, rfl, _⟩ := h
    rfl
  · unfold spCR at h
    obtain ⟨src, p, t, rfl, hA, hp, ht, tl, q⟩ := h
    have hu := hu_of hr
    refine ⟨_, (pss_cons (ps_set (i := 2) sc__law_can_hold_right.nd rfl (Or.inr rfl) pe_dnewK)
    (pss_cons (ps_for PassesOwn.never rfl (pi_list (pe_cal C__law_some (hr.mono (by decide)) (pa_cons (pv 0) (pa_cons (pe_lst (pa_cons pe_str (pa_cons pe_str (pa_cons pe_str (pa_cons pe_str (pa_cons pe_str (pa_cons pe_str pa_nil))))))) (pa_cons (pe_cal C__law_draw (hr.mono (by decide)) (pa_cons (pv 0) (pa_cons pe_int pa_nil))) pa_nil))))) (pg_name (i := 3) sc__law_can_hold_right.nd rfl (Or.inl rfl))
      (pss_one (ps_dput hu (pv 2) (pv 3) (pe_cal C__law_draw (hr.mono (by decide)) (pa_cons (pv 0) (pa_cons pe_int pa_nil))) rfl)))
    (pss_cons (ps_setLc (i := 4) (own := [("_law_name", 3)]) (tt := tYes) rfl sc__law_can_hold_right.nd rfl rfl (sw_true rfl rfl rfl (by decide +kernel)) (pi_list (pe_callB (id := "sorted") (call_sortedD rfl) (by rfl) m_sorted (by decide +kernel) (pa_cons (pv 2) pa_nil))) (blkOk_by (N := n__law_can_hold_right) (sc := defScope s__law_can_hold_right) (by decide +kernel)) (fun _ _ _ _ _ => pg_name (i := 3) sc__law_can_hold_right.nd rfl (Or.inl rfl)) (fun _ _ _ _ _ => pts_nil) (fun _ _ _ _ _ => (pe_tup (pa_cons (pv 3) (pa_cons (pe_dget hu (pv 2) (pv 3) (fun _ _ => rfl)) pa_nil)))))
    (pss_cons (ps_set (i := 5) sc__law_can_hold_right.nd rfl (Or.inl rfl) pe_bl)
    (pss_cons (ps_for PassesOwn.never rfl (pi_tup (pe_ix ix_tup (pv 1) pe_int (fun _ _ => rfl))) (pg_name (i := 6) sc__law_can_hold_right.nd rfl (Or.inr rfl))
      (pss_cons (ps_setLc (i := 8) (own := [("_law_k", 9)]) rfl sc__law_can_hold_right.nd rfl rfl (sw_true rfl rfl rfl (by decide +kernel)) (pi_range1 (by rfl) m_range (pa_cons (pe_callB call_len_seq (by rfl) m_len PySem.boot_len (pa_cons (pv 6) pa_nil)) pa_nil)) (blkOk_by (N := n__law_can_hold_right) (sc := defScope s__law_can_hold_right) (by decide +kernel)) (fun _ _ _ _ _ => pg_name (i := 9) sc__law_can_hold_right.nd rfl (Or.inl rfl)) (fun _ _ _ _ _ => pts_one (pt_cmpR op_ne (pe_dget2 hu (pv 2) (pe_ix (ix_tupK (K := K) rfl) (pe_ix (ix_tupK (K := K) rfl) (pv 1) pe_int (fun _ _ => rfl)) (pv 9) (fun _ _ => rfl)) (pe_ix (ix_tupK (K := K) rfl) (pv 6) (pv 9) (fun _ _ => rfl)) ⟨rfl, rfl, rfl, rfl⟩) (pe_ix (ix_tupK (K := K) rfl) (pv 6) (pv 9) (fun _ _ => rfl)) (nomark _))) (fun _ _ _ _ _ => (pv 9)))
    (pss_one (ps_if (pt_cmpR op_eq (pe_callB call_len_seq (by rfl) m_len PySem.boot_len (pa_cons (pv 8) pa_nil)) pe_int (nomark _))
      (pss_one (ps_set (i := 5) sc__law_can_hold_right.nd rfl (Or.inl rfl) pe_bl))
      pss_nil))))
    (pss_cons (ps_set (i := 7) sc__law_can_hold_right.nd rfl (Or.inl rfl) (pe_cal C_can_hold (hr.mono (by decide)) (pa_cons (pv 1) (pa_cons (pv 2) pa_nil))))
    (pss_cons (ps_if (PW.pt (pw_or (pt_not (pt_val (pe_callB (id := "isinstance") call_isi (by rfl) m_isinstance (by decide +kernel) (pa_cons (pv 7) (pa_cons (pe_bltn (v := .ty "bool") (by rfl) m_bool (by decide +kernel) rfl) pa_nil))))) (pw_or1 (pt_cmpR op_ne (pv 7) (pv 5) (nomark _)))))
      (pss_one (ps_ret pe_bl))
      pss_nil)
    (pss_one (ps_ret (pe_cmpR (op_eqD hr.units) (pe_lc (own := [("_law_name", 3)]) (tt := tYes) rfl sc__law_can_hold_right.nd (pi_list (pe_callB (id := "sorted") (call_sortedD rfl) (by rfl) m_sorted (by decide +kernel) (pa_cons (pv 2) pa_nil))) (blkOk_by (N := n__law_can_hold_right) (sc := defScope s__law_can_hold_right) (by decide +kernel)) (fun _ _ _ _ _ => pg_name (i := 3) sc__law_can_hold_right.nd rfl (Or.inl rfl)) (fun _ _ _ _ _ => pts_nil) (fun _ _ _ _ _ => (pe_tup (pa_cons (pv 3) (pa_cons (pe_dget hu (pv 2) (pv 3) (fun _ _ => rfl)) pa_nil))))) (pv 4) (nomark _))))))))))), ?_⟩
    walk_at "rd"
    refine fun d nd => ?_
    have nds := src_ne hA nd
    have u0 := same_new nd (o := .dK [])
    have hd0 := upd_same (H := H) (a := d) (o := .dK [])
    have hA0 := src_same hA u0
    generalize upd H d (.dK []) = H0 at u0 hd0 hA0 ⊢
    walk_at "rd"
    refine ⟨sz (by decide), fun L0 n0 => ?_⟩
    have nL0s := src_ne hA0 n0
    have s0 := same_new n0 (o := .lst (pool6.map V.str))
    have hl0 := upd_same (H := H0) (a := L0) (o := .lst (pool6.map V.str))
    have e0 : upd H0 L0 (.lst (pool6.map V.str)) = upd H0 L0 (.lst [V.str "a", V.str "a1", V.str "b", V.str "b.c", V.str "d", V.str "zz"]) := rfl
    rw [← e0]
    have hA1 := src_same hA0 s0
    have hd1 := s0 _ _ hd0
    generalize upd H0 L0 (.lst (pool6.map V.str)) = H1 at s0 hl0 hA1 hd1 ⊢
    walk_at "rd"
    refine draw_of hA1 ⟨by decide, by decide⟩ fun k H2 k0 k1 s2 hA2 => ?_
    have hl2 := s2 _ _ nL0s.symm hl0
    have hd2 := s2 _ _ nds.symm hd1
    show spSome K _ _ _ _
    unfold spSome
    refine ⟨src, L0, pool6, k, rfl, hA2, nL0s.symm, hl2, (by decide), by omega, fun N ns H3 s3 hA3 nN hN hnl hnm => ?_⟩
    have asn : Asc ns := pool6_asc.sublist hnm
    have ndn := asc_nodup asn
    have n6 : ns.length ≤ 6 := hnm.length_le
    have okn : ∀ z ∈ ns, PyData.strOk z = true := fun z hz => (show ∀ z ∈ pool6, PyData.strOk z = true by decide +kernel) z (hnm.subset hz)
    have hd3 := s3 _ _ nds.symm hd2
    have b3 : SameBut src H H3 := (Bx.Same.but (u0.trans s0)).trans (s2.trans s3)
    have nNs : N ≠ src := fun e => by rw [e] at nN; exact (src_ne hA2 nN) rfl
    have nNd : N ≠ d := fun e => by rw [e, hd2] at nN; cases nN
    clear hl2 hd2 hA2 hl0 hd1 hA1 s0 s2 s3 hd0 hA0 u0 e0
    refine ⟨N, rfl, ⟨_, sq hN⟩, ?_⟩
    refine for_it walk_list (fun i σ H' => ∃ (o3 : Option V) (l : As), σ = [some (.ref src), some (.ref p), some (.ref d), o3, none, none, none, none, none, none] ∧ H' d = some (.dK (asV l)) ∧ l.map (·.1) = ns.take i ∧ SameBut src H H' ∧ Src H' src ∧ H' N = some (.lst (ns.map V.str)))
      ⟨none, [], rfl, hd3, rfl, b3, hA3, hN⟩ (fun i σ H' _ h => by obtain ⟨_, _, _, _, _, _, _, hn⟩ := h; exact sq hn) ?_ ?_
    · rintro i v σ H4 H4' hi ⟨o3, l, rfl, hd, hk, b1, hA1, hN4⟩ ⟨rfl, hx⟩
      obtain ⟨z, hz, rfl⟩ := at_map hx
      rw [List.length_map] at hi
      walk_at "rd"
      refine draw_of hA1 ⟨by decide, by decide⟩ fun r H5 r0 r1 s5 hA5 => ?_
      have hd5 := s5 _ _ nds.symm hd
      have zl := new_put ndn hk hz
      have lk6 : l.length ≤ 6 := by
        have e := congrArg List.length hk
        rw [List.length_map] at e
        have := List.length_take_le' i ns
        omega
      walk_at "rd"
      refine ⟨_, _, rfl, DPut.k (k := .inr z) hd5 (by rw [show (asV l).length = l.length from List.length_map _]; exact szl (by omega)), ?_⟩
      rw [put_as zl]
      refine ⟨_, put l z r, rfl, upd_same, ?_, ?_, src_upd hA5 nds, by rw [upd_ne nNd]; exact s5 _ _ nNs hN4⟩
      · unfold put
        rw [List.map_append, hk, List.take_add_one, hz]
        rfl
      · exact but_at nd (b1.trans s5)
    rintro σ H4 ⟨o3, l, rfl, hd, hk, b1, hA1, hN4⟩
    rw [List.length_map, List.take_length] at hk
    have hv : ∀ z ∈ ns, valV (asV l) (.inr z) = some (.int (vl l z)) := fun z hz => has_as (by rw [hk]; exact hz)
    have key : (asV l).map (·.1) = ns.map Sum.inr := by rw [keys_as, hk]
    have lc64 : ns.length < 64 := by omega
    dsimp only
    refine set_gi (te := tLc _ _ _ _ _) (i := 4) (fun v H' => ∃ (D : Addr) (us : List V), v = .ref D ∧ Same H4 H' ∧ H4 D = none ∧ H' D = some (.lst us) ∧ DpAll K H' us (prs (intF l) ns)) (fun Z hZ => ?_) (fun v H5 => ?_)
    · refine pairs_lc (a := 2) (g := fun z => .int (vl l z)) (f := intF l) (by show 3 < 10; decide) (by decide) rfl hd lc64 hv (fun z H' => .int _) (fun z => rfl) (fun R hR => ?_) (fun D H' us ys s h1 h0 h2 pm st => ?_)
      · walk_at "rd"
        exact ⟨d, _, ns, rfl, .inl hd, key, lc64, fun ys p pm st np => hR p _ ys (same_new np) upd_same pm st⟩
      · have e := perm_asc pm st ndn asn (fun _ => Iff.rfl)
        rw [e] at h2
        exact hZ _ _ ⟨D, us, rfl, s, h0, h1, h2⟩
    rintro ⟨D, us, rfl, s5, nD, hD, hda⟩
    have hd5 := s5 _ _ hd
    have hA5 := src_same hA1 s5
    have b5 := b1.trans (Bx.Same.but s5)
    clear hd hA1 b1 hN4
    obtain ⟨n9, c9, hsrc⟩ := hA
    have hp5 := TabAt.kp (kp_but (K := K) hsrc b5) hp
    obtain ⟨a1, b1, us1, t1, t2, t3, t4⟩ := hp5
    have l1 : us1.length = t.2.length := by rw [da_len t4, List.length_map]
    walk_at "rd"
    refine ⟨_, _, _, _, rfl, rfl, t1, atI_nat (j := 1) rfl, ?_⟩
    refine ⟨b1, rfl, ⟨_, t3⟩, for_it walk_tup (fun i σ H' => ∃ (o6 o8 : Option V), σ = [some (.ref src), some (.ref p), some (.ref d), o3, some (.ref D), some (.bl ((t.2.take i).any (okR t.1 l))), o6, none, o8, none] ∧ Same H5 H') ⟨none, none, rfl, Same.refl _⟩ (fun i σ H' _ ⟨_, _, _, s⟩ => Bx.Same.tup s t3) ?_ ?_⟩
    · rintro i x σ H6a H6 hi ⟨o6, o8, rfl, s6⟩ ⟨rfl, hx⟩
      obtain ⟨r, hr0, dr⟩ := da_atM t4 hx
      obtain ⟨rq, rfl, hrq⟩ := row_dp dr
      have rl := ht.len (List.mem_of_getElem? hr0)
      have hrq6 := Bx.Same.tup s6 hrq
      have t16 := Bx.Same.tup s6 t1
      have t26 := PlT.same s6 t2
      have hd6 := s6 _ _ hd5
      walk_at "rd"
      refine ⟨_, _, rfl, .inr hrq6, ?_⟩
      rw [List.length_map]
      refine ⟨_, rfl, by omega, by omega, fun D2 hD2 => ?_⟩
      refine lc_it walk_range (fun j H' => H' = upd H6 D2 (.lst (((List.range j).filter (badK t.1 l r)).map fun k => V.int ((k : Nat) : Int)))) rfl (fun _ _ _ _ => trivial) ?_ ?_
      · rintro j v H7a H7 hj rfl ⟨rfl, hxv⟩
        have hx0 : v = V.int ((j : Nat) : Int) := by
          rw [hxv]
          show V.int (0 + ((j : Nat) : Int)) = _
          rw [Int.zero_add]
        clear hxv
        subst hx0
        have jl : j < r.length := by
          have e : (((r.length : Nat) : Int)).toNat = r.length := Int.toNat_natCast _
          have := hj
          omega
        have jn : j < t.1.length := by omega
        have s7 := same_new hD2 (o := .lst (((List.range j).filter (badK t.1 l r)).map fun k => V.int ((k : Nat) : Int)))
        refine ⟨rfl, ?_⟩
        walk_at "rd"
        refine ⟨.inl ⟨_, .inl (s7 _ _ hd6)⟩, ?_⟩
        walk_at "rd"
        refine ⟨_, _, _, _, rfl, rfl, Bx.Same.tup s7 t16, atI_nat (j := 0) rfl, ?_⟩
        walk_at "rd"
        refine ⟨_, _, _, _, rfl, rfl, (PlT.same s7 t26).sq, atI_nat (j := j) (v := .str (t.1.getD j E0)) (by rw [List.getElem?_map, List.getElem?_eq_getElem jn, List.getD_eq_getElem?_getD, List.getElem?_eq_getElem jn]; rfl), ?_⟩
        walk_at "rd"
        refine ⟨_, _, _, _, rfl, rfl, Bx.Same.tup s7 hrq6, atI_nat (j := j) (v := .int (r.getD j 0)) (by rw [List.getElem?_map, List.getElem?_eq_getElem jl, List.getD_eq_getElem?_getD, List.getElem?_eq_getElem jl]; rfl), ?_⟩
        refine ⟨_, DGet.k (k := .inr (t.1.getD j E0)) (s7 _ _ hd6), ?_⟩
        rw [val_as]
        have eg : ((lk l (t.1.getD j E0)).map V.int).getD (V.int (r.getD j 0)) = V.int ((lk l (t.1.getD j E0)).getD (r.getD j 0)) := by
          cases lk l (t.1.getD j E0) <;> rfl
        rw [eg]
        walk_at "rd"
        refine ⟨_, _, _, _, rfl, rfl, Bx.Same.tup s7 hrq6, atI_nat (j := j) (v := .int (r.getD j 0)) (by rw [List.getElem?_map, List.getElem?_eq_getElem jl, List.getD_eq_getElem?_getD, List.getElem?_eq_getElem jl]; rfl), ?_⟩
        walk_at "rd"
        have e3 : (List.range (j + 1)).filter (badK t.1 l r) = (List.range j).filter (badK t.1 l r) ++ if badK t.1 l r j = true then [j] else [] := by
          rw [List.range_succ, List.filter_append]
          congr 1
          by_cases c : badK t.1 l r j = true <;> simp [c]
        have e4 : ((List.range j).filter (badK t.1 l r)).length ≤ 5 := Nat.le_trans (List.length_filter_le _ _) (by rw [List.length_range]; omega)
        refine ite2 (fun c => ?_) (fun c => ?_)
        · walk_at "rd"
          refine ⟨_, upd_same, szl (by rw [List.length_map]; omega), ?_⟩
          rw [upd_upd, e3, if_pos (show badK t.1 l r j = true from c), List.map_append]
          rfl
        · rw [e3, if_neg (show ¬ badK t.1 l r j = true from c), List.append_nil]
      rintro H7 rfl
      have en : (((r.length : Nat) : Int)).toNat = r.length := Int.toNat_natCast _
      have s7 := same_new hD2 (o := .lst (((List.range r.length).filter (badK t.1 l r)).map fun k => V.int ((k : Nat) : Int)))
      have hW := upd_same (H := H6) (a := D2) (o := .lst (((List.range r.length).filter (badK t.1 l r)).map fun k => V.int ((k : Nat) : Int)))
      try rw [en]
      generalize upd H6 D2 (.lst (((List.range r.length).filter (badK t.1 l r)).map fun k => V.int ((k : Nat) : Int))) = H7 at s7 hW ⊢
      walk_at "rd"
      refine ⟨_, _, rfl, .inl (sq hW), ?_⟩
      rw [List.length_map]
      walk_at "rd"
      have eb : decide (V.int ((((List.range r.length).filter (badK t.1 l r)).length : Nat) : Int) = V.int 0) = okR t.1 l r := by
        rw [← bad_ok ht.nd rl]
        exact decide_eq_decide.mpr ⟨fun h => V.int.inj h, fun h => congrArg V.int h⟩
      rw [eb, any_take hr0]
      refine ite2 (fun c => ?_) (fun c => ?_)
      · walk_at "rd"
        refine ⟨some (.ref rq), some (.ref D2), ?_, s6.trans s7⟩
        rw [c, Bool.or_true]
        rfl
      · refine ⟨some (.ref rq), some (.ref D2), ?_, s6.trans s7⟩
        rw [Bool.eq_false_iff.mpr c, Bool.or_false]
        rfl
    · rintro σ H6 ⟨o6, o8, rfl, s6⟩
      rw [l1, List.take_length]
      walk_at "rd"
      show spCan K _ _ _ _
      unfold spCan
      refine ⟨p, d, t, l, rfl, TabAt.kp (kp_same s6) ⟨a1, b1, us1, t1, t2, t3, t4⟩, ht, tl, s6 _ _ hd5, fun H7 s7 => ?_⟩
      walk_at "rd"
      refine ⟨_, _, _, _, true, rfl, .ty "bool", .base (.bl _), kit_ty (by decide +kernel), ?_⟩
      walk_at "rd"
      rw [show (!decide (V.bl (t.2.any (okR t.1 l)) = V.bl (t.2.any (okR t.1 l)))) = false by simp]
      refine ite2 (fun h => absurd h (by decide)) (fun _ => ?_)
      have s57 := s6.trans s7
      dsimp only [tNext, tRet, tOp]
      refine pairs_lc (a := 2) (g := fun z => .int (vl l z)) (f := intF l) (by show 3 < 10; decide) (by decide) rfl (s57 _ _ hd5) lc64 hv (fun z H' => .int _) (fun z => rfl) (fun R hR => ?_) (fun D2 H9 us2 ys s9 h1 h0 h2 pm st => ?_)
      · walk_at "rd"
        exact ⟨d, _, ns, rfl, .inl (s57 _ _ hd5), key, lc64, fun ys p pm st np => hR p _ ys (same_new np) upd_same pm st⟩
      · have e := perm_asc pm st ndn asn (fun _ => Iff.rfl)
        rw [e] at h2
        have L := lay_prs (l := l) okn
        have s59 := s57.trans s9
        walk_at "rd"
        refine ⟨.list (prs (intF l) ns), .list (prs (intF l) ns), .lst (sq h1) h2, .lst (sq (s59 _ _ hD)) (dpAll_same s59 hda), shape L (by decide), shape L (by decide), ?_⟩
        rw [eq_refl L]
        exact q H9 (b5.trans (Bx.Same.but s59)) (src_same hA5 s59)
end
end K19
namespace K19
local macro_rules | `(tactic| walk_at "rd") => `(tactic| repeat (first | refine ⟨rfl, ?_⟩ | refine ⟨_, rfl, ?_⟩ | refine ⟨_, _, rfl, rfl, ?_⟩ | refine ⟨⟨_, rfl⟩, ?_⟩))
open PySem PySem.Spec PyProof.Rows L2 Bx TL Dx Zx Ow Sup NdefX Px
theorem nmU_asc (t u : Tab) : Asc (nmU t u) := pool_asc.sublist List.filter_sublist
theorem nmU_comm (t u : Tab) : nmU u t = nmU t u := List.filter_congr fun z _ => Bool.or_comm _ _
theorem exp_comm (t u : Tab) : expT u t (nmU u t) = expT t u (nmU t u) := by
  rw [nmU_comm]
  exact congrArg (Prod.mk _) (List.filter_congr fun z _ => Bool.and_comm _ _)
theorem ok_pool {ns : List Str} (h : ∀ z ∈ ns, z ∈ pool5) : ∀ z ∈ ns, PyData.strOk z = true := fun z hz => (show ∀ z ∈ pool5, PyData.strOk z = true by decide +kernel) z (h z hz)
theorem tok_of {t : Tab} (h : t.1.Sublist pool5) (r : t.2.Sublist (rowsN t.1.length)) : TOk t := ⟨asc_nodup (pool_asc.sublist h), r⟩
theorem joined_is {t u : Tab} {ys : List Str} (ht : TOk t) (hu : TOk u) (st : t.1.Sublist pool5) (su : u.1.Sublist pool5) (so : sortedS ys = true) (nd : ys.Nodup) (hy : ∀ z, z ∈ ys ↔ z ∈ t.1 ∨ z ∈ u.1) : (ys, (joinL t u ys).mergeSort rle) = expT t u (nmU t u) := by
  have e : ys = nmU t u := asc_eq (asc_of so nd) (nmU_asc t u) fun z => (hy z).trans (nmU_mem st su z).symm
  rw [← e]
  exact join_eq ht hu hy nd
theorem dropped_is {t : Tab} {z : Str} {L : List Row} (nd : L.Nodup) (m : ∀ x, x ∈ L ↔ x ∈ dropR t z) : L.mergeSort rle = (once [] (dropR t z)).mergeSort rle :=
  same_sorts nd (once_nd _ _ List.nodup_nil) fun x => by
    rw [m, once_mem]
    simp
/-- a table of the law -/
structure LT (K : PySem.W.Frag) (H : Hp) (x : Addr × Tab) : Prop where
  at_ : TabAt K H x.1 x.2
  ok : TOk x.2
  len : x.2.1.length ≤ 5
  sub : ∀ z ∈ x.2.1, z ∈ pool5
theorem LT.kp {K : PySem.W.Frag} {H H' : Hp} {x : Addr × Tab} (k : Kp K H H') (h : LT K H x) : LT K H' x := ⟨h.at_.kp k, h.ok, h.len, h.sub⟩
section
variable {P : Program} {w : World} {K : PySem.W.Frag} {mg : Str → Option Value} {base : Heap}
def spLaw (K : PySem.W.Frag) : Sp := fun vs H Q _ => ∃ (a : Addr) (ns : List Int), vs = [.ref a] ∧ SqL K H a (ns.map V.int) ∧ ns.length ≤ 63 ∧ ∀ H', Q (.bl true) H'
set_option maxHeartbeats 4000000 in
theorem ok_law {f : Addr} {fd : FuncData} (F : Fun K "law" "law" s_law f fd) (m_range : mg "range" = none) (C__law_source : Cal P w K mg base "_law_source" 1 ["_law_script", "_law_k"] (spSource K)) (C__law_table : Cal P w K mg base "_law_table" 3 ["_law_source_here"] (spTable K))
    (C__law_joined : Cal P w K mg base "_law_joined" 2 ["_law_first", "_law_second"] (spLJoin K)) (C__law_same : Cal P w K mg base "_law_same" 1 ["_law_actual", "_law_expected"] (spSame K)) (C_join_tables : Cal P w K mg base "join_tables" 2 ["first", "second"] (spJoin K))
    (C_drop_column : Cal P w K mg base "drop_column" 1 ["constraint", "name"] (spDrop K)) (C__law_dropped : Cal P w K mg base "_law_dropped" 2 ["_law_table_here", "_law_name"] (spLDrop K)) (C__law_can_hold_right : Cal P w K mg base "_law_can_hold_right" 3 ["_law_source_here", "_law_table_here"] (spCR K)) : FnOk P w K mg base CX0 4 f fd ["_law_script"] (spLaw K) := by
  refine F.ok sc_law (fun vs H Q E h => ?_) (fun cdv A outer s H vs Q E hr h => ?_)
  · unfold spLaw at h
    obtain ⟨a, ns, rfl, _⟩ := h
    rfl
  · unfold spLaw at h
    obtain ⟨sa, sc, rfl, hs, hsl, q⟩ := h
    refine ⟨_, (pss_cons (ps_set (i := 1) sc_law.nd rfl (Or.inl rfl) (pe_cal C__law_table (hr.mono (by decide)) (pa_cons (pe_cal C__law_source (hr.mono (by decide)) (pa_cons (pv 0) (pa_cons pe_int pa_nil))) pa_nil)))
    (pss_cons (ps_set (i := 2) sc_law.nd rfl (Or.inl rfl) (pe_cal C__law_table (hr.mono (by decide)) (pa_cons (pe_cal C__law_source (hr.mono (by decide)) (pa_cons (pv 0) (pa_cons pe_int pa_nil))) pa_nil)))
    (pss_cons (ps_set (i := 3) sc_law.nd rfl (Or.inl rfl) (pe_cal C__law_joined (hr.mono (by decide)) (pa_cons (pv 1) (pa_cons (pv 2) pa_nil))))
    (pss_cons (ps_if (PW.pt (pw_or (pt_not (pt_val (pe_cal C__law_same (hr.mono (by decide)) (pa_cons (pe_cal C_join_tables (hr.mono (by decide)) (pa_cons (pv 1) (pa_cons (pv 2) pa_nil))) (pa_cons (pv 3) pa_nil))))) (pw_or1 (pt_not (pt_val (pe_cal C__law_same (hr.mono (by decide)) (pa_cons (pe_cal C_join_tables (hr.mono (by decide)) (pa_cons (pv 2) (pa_cons (pv 1) pa_nil))) (pa_cons (pv 3) pa_nil))))))))
      (pss_one (ps_ret pe_bl))
      pss_nil)
    (pss_cons (ps_for PassesOwn.never rfl (pi_list (pe_lst (pa_cons (pv 1) (pa_cons (pv 2) (pa_cons (pv 3) pa_nil))))) (pg_name (i := 4) sc_law.nd rfl (Or.inl rfl))
      (pss_one (ps_for PassesOwn.never rfl (pi_tup (pe_ix ix_tup (pv 4) pe_int (fun _ _ => rfl))) (pg_name (i := 7) sc_law.nd rfl (Or.inl rfl))
      (pss_one (ps_if (pt_not (pt_val (pe_cal C__law_same (hr.mono (by decide)) (pa_cons (pe_cal C_drop_column (hr.mono (by decide)) (pa_cons (pv 4) (pa_cons (pv 7) pa_nil))) (pa_cons (pe_cal C__law_dropped (hr.mono (by decide)) (pa_cons (pv 4) (pa_cons (pv 7) pa_nil))) pa_nil)))))
      (pss_one (ps_ret pe_bl))
      pss_nil)))))
    (pss_cons (ps_set (i := 5) sc_law.nd rfl (Or.inl rfl) (pe_cal C__law_source (hr.mono (by decide)) (pa_cons (pv 0) (pa_cons pe_int pa_nil))))
    (pss_cons (ps_for PassesOwn.never rfl (pi_range1 (by rfl) m_range (pa_cons pe_int pa_nil)) (pg_name (i := 6) sc_law.nd rfl (Or.inl rfl))
      (pss_one (ps_for PassesOwn.never rfl (pi_list (pe_lst (pa_cons (pv 1) (pa_cons (pv 2) (pa_cons (pv 3) pa_nil))))) (pg_name (i := 4) sc_law.nd rfl (Or.inl rfl))
      (pss_one (ps_if (pt_not (pt_val (pe_cal C__law_can_hold_right (hr.mono (by decide)) (pa_cons (pv 5) (pa_cons (pv 4) pa_nil)))))
      (pss_one (ps_ret pe_bl))
      pss_nil)))))
    (pss_one (ps_ret pe_bl))))))))), ?_⟩
    walk_at "rd"
    refine ⟨sa, sc, 0, rfl, hs, by decide, fun s0 n0 c0 ns0 => ?_⟩
    have u0 := same_new ns0 (o := .lst [.int n0, .int c0])
    have hA0 : Src (upd H s0 (.lst [.int n0, .int c0])) s0 := ⟨n0, c0, upd_same⟩
    generalize upd H s0 (.lst [.int n0, .int c0]) = H1 at u0 hA0 ⊢
    walk_at "rd"
    show spTable K _ _ _ _
    unfold spTable
    refine ⟨s0, rfl, hA0, fun p1 t H2 b2 hA2 tt st tl tr => ?_⟩
    have u2 : Same H H2 := Bx.SameBut.same u0 ns0 b2
    have okt := tok_of st tr
    walk_at "rd"
    refine ⟨sa, sc, 1, rfl, Same.seq u2 hs, by decide, fun s1 n1 c1 ns1 => ?_⟩
    have u3 := same_new ns1 (o := .lst [.int n1, .int c1])
    have hA3 : Src (upd H2 s1 (.lst [.int n1, .int c1])) s1 := ⟨n1, c1, upd_same⟩
    generalize upd H2 s1 (.lst [.int n1, .int c1]) = H3 at u3 hA3 ⊢
    walk_at "rd"
    refine ⟨hA3, fun p2 u H4 b4 hA4 uu su ul ur => ?_⟩
    have u24 : Same H2 H4 := Bx.SameBut.same u3 ns1 b4
    have oku := tok_of su ur
    have tt4 := TabAt.kp (kp_same (K := K) u24) tt
    walk_at "rd"
    show spLJoin K _ _ _ _
    unfold spLJoin
    refine ⟨p1, p2, t, u, rfl, tt4, uu, st, su, fun p3 H5 s5 ee => ?_⟩
    have tt5 := tt4.kp (kp_same s5)
    have uu5 := uu.kp (kp_same s5)
    have ok5 : ∀ z ∈ (expT t u (nmU t u)).1, z ∈ pool5 := fun z hz => (List.mem_filter.mp hz).1
    walk_at "rd"
    show spJoin K _ _ _ _
    unfold spJoin
    refine ⟨p1, p2, t, u, rfl, tt5, uu5, okt, oku, tl, ul, fun r1 ys1 H6 s6 j1 so1 nd1 hy1 => ?_⟩
    rw [joined_is okt oku st su so1 nd1 hy1] at j1
    walk_at "rd"
    show spSame K _ _ _ _
    unfold spSame
    refine ⟨r1, p3, _, rfl, j1.dp, (ee.kp (kp_same s6)).dp, ok_pool ok5, ?_⟩
    walk_at "rd"
    refine ⟨p2, p1, u, t, rfl, uu5.kp (kp_same s6), tt5.kp (kp_same s6), oku, okt, ul, tl, fun r2 ys2 H7 s7 j2 so2 nd2 hy2 => ?_⟩
    rw [joined_is oku okt su st so2 nd2 hy2, exp_comm] at j2
    have s57 := s6.trans s7
    walk_at "rd"
    refine ⟨r2, p3, _, rfl, j2.dp, (ee.kp (kp_same s57)).dp, ok_pool ok5, ?_⟩
    walk_at "rd"
    have all7 : ∀ x ∈ [(p1, t), (p2, u), (p3, expT t u (nmU t u))], LT K H7 x := fun x hx => by
      simp only [List.mem_cons, List.not_mem_nil, or_false] at hx
      rcases hx with rfl | rfl | rfl
      · exact ⟨tt5.kp (kp_same s57), okt, st.length_le, fun z hz => st.subset hz⟩
      · exact ⟨uu5.kp (kp_same s57), oku, su.length_le, fun z hz => su.subset hz⟩
      · exact ⟨ee.kp (kp_same s57), exp_ok (nmU_nd t u), nmU_len t u, ok5⟩
    have u07 : Same H H7 := u2.trans (u24.trans (s5.trans s57))
    clear j1 j2 tt4 tt5 uu5 uu tt ee hA0 hA2 hA3 hA4 u0 u3
    have three : [V.ref p1, V.ref p2, V.ref p3] = ([(p1, t), (p2, u), (p3, expT t u (nmU t u))]).map fun x => V.ref x.1 := rfl
    have t3 : ([(p1, t), (p2, u), (p3, expT t u (nmU t u))]).length = 3 := rfl
    refine ⟨sz (by show 3 ≤ 100000; decide), fun B nB => ?_⟩
    have sB := same_new nB (o := .lst [.ref p1, .ref p2, .ref p3])
    have hB := upd_same (H := H7) (a := B) (o := .lst [.ref p1, .ref p2, .ref p3])
    generalize upd H7 B (.lst [.ref p1, .ref p2, .ref p3]) = H8 at sB hB ⊢
    rw [three] at hB
    generalize [(p1, t), (p2, u), (p3, expT t u (nmU t u))] = TS at all7 hB three t3
    refine ⟨B, rfl, ⟨_, sq hB⟩, for_it walk_list (fun i σ H' => ∃ o4 o7 : Option V, σ = [some (.ref sa), some (.ref p1), some (.ref p2), some (.ref p3), o4, none, none, o7] ∧ Same H8 H') ⟨none, none, rfl, Same.refl _⟩ (fun i σ H' _ ⟨_, _, _, s⟩ => sq (s _ _ hB)) ?_ ?_⟩
    · rintro i x σ H9a H9 hi ⟨o4, o7, rfl, s9⟩ ⟨rfl, hx⟩
      obtain ⟨⟨p, t'⟩, hxt, rfl⟩ := at_map hx
      have lt9 := (all7 _ (List.mem_of_getElem? hxt)).kp (kp_same (K := K) (sB.trans s9))
      obtain ⟨a1, b1, us1, t1, t2, t3', t4⟩ := lt9.at_
      walk_at "rd"
      refine ⟨_, _, _, _, rfl, rfl, t1, atI_nat (j := 0) rfl, ?_⟩
      refine ⟨a1, rfl, ⟨_, t2.sq⟩, for_it walk_tup (fun j σ H' => ∃ o7 : Option V, σ = [some (.ref sa), some (.ref p1), some (.ref p2), some (.ref p3), some (.ref p), none, none, o7] ∧ Same H9 H') ⟨o7, rfl, Same.refl _⟩ (fun i σ H' _ ⟨_, _, s⟩ => (PlT.same s t2).sq) ?_ ?_⟩
      · rintro j x σ H10a H10 hj ⟨o7, rfl, s10⟩ ⟨rfl, hx⟩
        obtain ⟨z, hz, rfl⟩ := at_map hx
        have lt10 := lt9.kp (kp_same s10)
        walk_at "rd"
        show spDrop K _ _ _ _
        unfold spDrop
        refine ⟨p, t', z, rfl, lt10.at_, lt10.ok, lt10.len, List.mem_of_getElem? hz, fun r L H11 s11 d1 nd m => ?_⟩
        rw [dropped_is nd m] at d1
        walk_at "rd"
        show spLDrop K _ _ _ _
        unfold spLDrop
        refine ⟨p, t', z, rfl, lt10.at_.kp (kp_same s11), lt10.ok, lt10.len, fun r' H12 s12 d2 => ?_⟩
        walk_at "rd"
        refine ⟨r, r', _, rfl, dp_same s12 d1, d2, ok_pool fun y hy => lt10.sub y (List.mem_filter.mp hy).1, ?_⟩
        walk_at "rd"
        exact s10.trans (s11.trans s12)
      · rintro σ H10 ⟨o7, rfl, s10⟩
        walk_at "rd"
        exact ⟨_, _, rfl, s9.trans s10⟩
    · rintro σ H9 ⟨o4, o7, rfl, s9⟩
      have s79 := sB.trans s9
      walk_at "rd"
      refine ⟨sa, sc, 2, rfl, Same.seq (u07.trans s79) hs, by decide, fun s2 n2 c2 ns2 => ?_⟩
      have u10 := same_new ns2 (o := .lst [.int n2, .int c2])
      have hS := upd_same (H := H9) (a := s2) (o := .lst [.int n2, .int c2])
      generalize upd H9 s2 (.lst [.int n2, .int c2]) = H10 at u10 hS ⊢
      have all10 : ∀ x ∈ TS, LT K H10 x := fun x hx => (all7 x hx).kp (kp_same (s79.trans u10))
      walk_at "rd"
      refine ⟨by decide, by decide, for_it walk_range (fun k σ H' => ∃ o4 o6 : Option V, σ = [some (.ref sa), some (.ref p1), some (.ref p2), some (.ref p3), o4, some (.ref s2), o6, o7] ∧ SameBut s2 H10 H' ∧ Src H' s2) ⟨o4, none, rfl, SameBut.refl _ _, n2, c2, hS⟩ (fun _ _ _ _ _ => trivial) ?_ ?_⟩
      · rintro k x σ H11a H11 hk ⟨o4, o6, rfl, b11, hA11⟩ ⟨rfl, rfl⟩
        walk_at "rd"
        refine ⟨sz (by show 3 ≤ 100000; decide), fun C nC => ?_⟩
        have nCs := src_ne hA11 nC
        have sC := same_new nC (o := .lst [.ref p1, .ref p2, .ref p3])
        have hC := upd_same (H := H11) (a := C) (o := .lst [.ref p1, .ref p2, .ref p3])
        have hA12 := src_same hA11 sC
        generalize upd H11 C (.lst [.ref p1, .ref p2, .ref p3]) = H12 at sC hC hA12 ⊢
        have b12 : SameBut s2 H10 H12 := b11.trans (Bx.Same.but sC)
        rw [three] at hC
        refine ⟨C, rfl, ⟨_, sq hC⟩, for_it walk_list (fun i σ H' => ∃ o4 : Option V, σ = [some (.ref sa), some (.ref p1), some (.ref p2), some (.ref p3), o4, some (.ref s2), some (.int (0 + (k : Nat))), o7] ∧ SameBut s2 H10 H' ∧ Src H' s2 ∧ H' C = some (.lst (TS.map fun x => V.ref x.1))) ⟨o4, rfl, b12, hA12, hC⟩ (fun i σ H' _ ⟨_, _, _, _, h⟩ => sq h) ?_ ?_⟩
        · rintro i x σ H13a H13 hi ⟨o4, rfl, b13, hA13, hC13⟩ ⟨rfl, hx⟩
          obtain ⟨⟨p, t'⟩, hxt, rfl⟩ := at_map hx
          have lt13 := (all10 _ (List.mem_of_getElem? hxt)).kp (kp_but (K := K) hS b13)
          walk_at "rd"
          show spCR K _ _ _ _
          unfold spCR
          refine ⟨s2, p, t', rfl, hA13, lt13.at_, lt13.ok, lt13.len, fun H14 b14 hA14 => ?_⟩
          walk_at "rd"
          exact ⟨b13.trans b14, hA14, b14 _ _ nCs.symm hC13⟩
        · rintro σ H13 ⟨o4, rfl, b13, hA13, hC13⟩
          walk_at "rd"
          exact ⟨_, _, rfl, b13, hA13⟩
      · rintro σ H11 ⟨o4, o6, rfl, b11, hA11⟩
        walk_at "rd"
        exact q H11
end
end K19
namespace K19
open PySem PySem.Spec PyProof.Rows L2 Bx TL Dx Zx
/-! ### what the top leaves -/
theorem all_mk {l : PySem.W.OpenLaw} {w : World} {K : PySem.W.Frag} {h : Heap} {mg : Str → Option Value} {fa : Addr} (X : K.In h) (G : h.Ns mainGlobals mg) (hfa : mg "law" = some (.ref fa))
    {f_merge_names : Addr} {oc_merge_names kV_merge_names dc_merge_names pm_merge_names cd_merge_names ct_merge_names : Value} {od_merge_names an_merge_names : Option Addr} {sl_merge_names : Array (Option Value)}
    {f__values_of : Addr} {oc__values_of kV__values_of dc__values_of pm__values_of cd__values_of ct__values_of : Value} {od__values_of an__values_of : Option Addr} {sl__values_of : Array (Option Value)}
    {f_join_tables : Addr} {oc_join_tables kV_join_tables dc_join_tables pm_join_tables cd_join_tables ct_join_tables : Value} {od_join_tables an_join_tables : Option Addr} {sl_join_tables : Array (Option Value)}
    {f_drop_column : Addr} {oc_drop_column kV_drop_column dc_drop_column pm_drop_column cd_drop_column ct_drop_column : Value} {od_drop_column an_drop_column : Option Addr} {sl_drop_column : Array (Option Value)}
    {f_agreeing : Addr} {oc_agreeing kV_agreeing dc_agreeing pm_agreeing cd_agreeing ct_agreeing : Value} {od_agreeing an_agreeing : Option Addr} {sl_agreeing : Array (Option Value)}
    {f_can_hold : Addr} {oc_can_hold kV_can_hold dc_can_hold pm_can_hold cd_can_hold ct_can_hold : Value} {od_can_hold an_can_hold : Option Addr} {sl_can_hold : Array (Option Value)}
    {f__law_source : Addr} {oc__law_source kV__law_source dc__law_source pm__law_source cd__law_source ct__law_source : Value} {od__law_source an__law_source : Option Addr} {sl__law_source : Array (Option Value)}
    {f__law_draw : Addr} {oc__law_draw kV__law_draw dc__law_draw pm__law_draw cd__law_draw ct__law_draw : Value} {od__law_draw an__law_draw : Option Addr} {sl__law_draw : Array (Option Value)}
    {f__law_some : Addr} {oc__law_some kV__law_some dc__law_some pm__law_some cd__law_some ct__law_some : Value} {od__law_some an__law_some : Option Addr} {sl__law_some : Array (Option Value)}
    {f__law_rows : Addr} {oc__law_rows kV__law_rows dc__law_rows pm__law_rows cd__law_rows ct__law_rows : Value} {od__law_rows an__law_rows : Option Addr} {sl__law_rows : Array (Option Value)}
    {f__law_table : Addr} {oc__law_table kV__law_table dc__law_table pm__law_table cd__law_table ct__law_table : Value} {od__law_table an__law_table : Option Addr} {sl__law_table : Array (Option Value)}
    {f__law_picked : Addr} {oc__law_picked kV__law_picked dc__law_picked pm__law_picked cd__law_picked ct__law_picked : Value} {od__law_picked an__law_picked : Option Addr} {sl__law_picked : Array (Option Value)}
    {f__law_joined : Addr} {oc__law_joined kV__law_joined dc__law_joined pm__law_joined cd__law_joined ct__law_joined : Value} {od__law_joined an__law_joined : Option Addr} {sl__law_joined : Array (Option Value)}
    {f__law_dropped : Addr} {oc__law_dropped kV__law_dropped dc__law_dropped pm__law_dropped cd__law_dropped ct__law_dropped : Value} {od__law_dropped an__law_dropped : Option Addr} {sl__law_dropped : Array (Option Value)}
    {f__law_same : Addr} {oc__law_same kV__law_same dc__law_same pm__law_same cd__law_same ct__law_same : Value} {od__law_same an__law_same : Option Addr} {sl__law_same : Array (Option Value)}
    {f__law_can_hold_right : Addr} {oc__law_can_hold_right kV__law_can_hold_right dc__law_can_hold_right pm__law_can_hold_right cd__law_can_hold_right ct__law_can_hold_right : Value} {od__law_can_hold_right an__law_can_hold_right : Option Addr} {sl__law_can_hold_right : Array (Option Value)}
    {f_law : Addr} {oc_law kV_law dc_law pm_law cd_law ct_law : Value} {od_law an_law : Option Addr} {sl_law : Array (Option Value)}
    (a_merge_names : PySem.W.nsIn K mainGlobals "merge_names" = some (some (.ref f_merge_names))) (l_merge_names : K.lookup f_merge_names = some ⟨oc_merge_names, od_merge_names, .func (PySem.W.fnOf "merge_names" "merge_names" (defArgs s_merge_names) (defBody s_merge_names) (defScope s_merge_names) .none kV_merge_names dc_merge_names pm_merge_names an_merge_names cd_merge_names ct_merge_names), sl_merge_names⟩) (c_merge_names : PySem.W.codeIn K cd_merge_names "merge_names" = true) (k_merge_names : PySem.W.keepIn K (.ref f_merge_names) = true)
    (a__values_of : PySem.W.nsIn K mainGlobals "_values_of" = some (some (.ref f__values_of))) (l__values_of : K.lookup f__values_of = some ⟨oc__values_of, od__values_of, .func (PySem.W.fnOf "_values_of" "_values_of" (defArgs s__values_of) (defBody s__values_of) (defScope s__values_of) .none kV__values_of dc__values_of pm__values_of an__values_of cd__values_of ct__values_of), sl__values_of⟩) (c__values_of : PySem.W.codeIn K cd__values_of "_values_of" = true) (k__values_of : PySem.W.keepIn K (.ref f__values_of) = true)
    (a_join_tables : PySem.W.nsIn K mainGlobals "join_tables" = some (some (.ref f_join_tables))) (l_join_tables : K.lookup f_join_tables = some ⟨oc_join_tables, od_join_tables, .func (PySem.W.fnOf "join_tables" "join_tables" (defArgs s_join_tables) (defBody s_join_tables) (defScope s_join_tables) .none kV_join_tables dc_join_tables pm_join_tables an_join_tables cd_join_tables ct_join_tables), sl_join_tables⟩) (c_join_tables : PySem.W.codeIn K cd_join_tables "join_tables" = true) (k_join_tables : PySem.W.keepIn K (.ref f_join_tables) = true)
    (a_drop_column : PySem.W.nsIn K mainGlobals "drop_column" = some (some (.ref f_drop_column))) (l_drop_column : K.lookup f_drop_column = some ⟨oc_drop_column, od_drop_column, .func (PySem.W.fnOf "drop_column" "drop_column" (defArgs s_drop_column) (defBody s_drop_column) (defScope s_drop_column) .none kV_drop_column dc_drop_column pm_drop_column an_drop_column cd_drop_column ct_drop_column), sl_drop_column⟩) (c_drop_column : PySem.W.codeIn K cd_drop_column "drop_column" = true) (k_drop_column : PySem.W.keepIn K (.ref f_drop_column) = true)
    (a_agreeing : PySem.W.nsIn K mainGlobals "agreeing" = some (some (.ref f_agreeing))) (l_agreeing : K.lookup f_agreeing = some ⟨oc_agreeing, od_agreeing, .func (PySem.W.fnOf "agreeing" "agreeing" (defArgs s_agreeing) (defBody s_agreeing) (defScope s_agreeing) .none kV_agreeing dc_agreeing pm_agreeing an_agreeing cd_agreeing ct_agreeing), sl_agreeing⟩) (c_agreeing : PySem.W.codeIn K cd_agreeing "agreeing" = true) (k_agreeing : PySem.W.keepIn K (.ref f_agreeing) = true)
    (a_can_hold : PySem.W.nsIn K mainGlobals "can_hold" = some (some (.ref f_can_hold))) (l_can_hold : K.lookup f_can_hold = some ⟨oc_can_hold, od_can_hold, .func (PySem.W.fnOf "can_hold" "can_hold" (defArgs s_can_hold) (defBody s_can_hold) (defScope s_can_hold) .none kV_can_hold dc_can_hold pm_can_hold an_can_hold cd_can_hold ct_can_hold), sl_can_hold⟩) (c_can_hold : PySem.W.codeIn K cd_can_hold "can_hold" = true) (k_can_hold : PySem.W.keepIn K (.ref f_can_hold) = true)
    (a__law_source : PySem.W.nsIn K mainGlobals "_law_source" = some (some (.ref f__law_source))) (l__law_source : K.lookup f__law_source = some ⟨oc__law_source, od__law_source, .func (PySem.W.fnOf "_law_source" "_law_source" (defArgs s__law_source) (defBody s__law_source) (defScope s__law_source) .none kV__law_source dc__law_source pm__law_source an__law_source cd__law_source ct__law_source), sl__law_source⟩) (c__law_source : PySem.W.codeIn K cd__law_source "_law_source" = true) (k__law_source : PySem.W.keepIn K (.ref f__law_source) = true)
    (a__law_draw : PySem.W.nsIn K mainGlobals "_law_draw" = some (some (.ref f__law_draw))) (l__law_draw : K.lookup f__law_draw = some ⟨oc__law_draw, od__law_draw, .func (PySem.W.fnOf "_law_draw" "_law_draw" (defArgs s__law_draw) (defBody s__law_draw) (defScope s__law_draw) .none kV__law_draw dc__law_draw pm__law_draw an__law_draw cd__law_draw ct__law_draw), sl__law_draw⟩) (c__law_draw : PySem.W.codeIn K cd__law_draw "_law_draw" = true) (k__law_draw : PySem.W.keepIn K (.ref f__law_draw) = true)
    (a__law_some : PySem.W.nsIn K mainGlobals "_law_some" = some (some (.ref f__law_some))) (l__law_some : K.lookup f__law_some = some ⟨oc__law_some, od__law_some, .func (PySem.W.fnOf "_law_some" "_law_some" (defArgs s__law_some) (defBody s__law_some) (defScope s__law_some) .none kV__law_some dc__law_some pm__law_some an__law_some cd__law_some ct__law_some), sl__law_some⟩) (c__law_some : PySem.W.codeIn K cd__law_some "_law_some" = true) (k__law_some : PySem.W.keepIn K (.ref f__law_some) = true)
    (a__law_rows : PySem.W.nsIn K mainGlobals "_law_rows" = some (some (.ref f__law_rows))) (l__law_rows : K.lookup f__law_rows = some ⟨oc__law_rows, od__law_rows, .func (PySem.W.fnOf "_law_rows" "_law_rows" (defArgs s__law_rows) (defBody s__law_rows) (defScope s__law_rows) .none kV__law_rows dc__law_rows pm__law_rows an__law_rows cd__law_rows ct__law_rows), sl__law_rows⟩) (c__law_rows : PySem.W.codeIn K cd__law_rows "_law_rows" = true) (k__law_rows : PySem.W.keepIn K (.ref f__law_rows) = true)
    (a__law_table : PySem.W.nsIn K mainGlobals "_law_table" = some (some (.ref f__law_table))) (l__law_table : K.lookup f__law_table = some ⟨oc__law_table, od__law_table, .func (PySem.W.fnOf "_law_table" "_law_table" (defArgs s__law_table) (defBody s__law_table) (defScope s__law_table) .none kV__law_table dc__law_table pm__law_table an__law_table cd__law_table ct__law_table), sl__law_table⟩) (c__law_table : PySem.W.codeIn K cd__law_table "_law_table" = true) (k__law_table : PySem.W.keepIn K (.ref f__law_table) = true)
    (a__law_picked : PySem.W.nsIn K mainGlobals "_law_picked" = some (some (.ref f__law_picked))) (l__law_picked : K.lookup f__law_picked = some ⟨oc__law_picked, od__law_picked, .func (PySem.W.fnOf "_law_picked" "_law_picked" (defArgs s__law_picked) (defBody s__law_picked) (defScope s__law_picked) .none kV__law_picked dc__law_picked pm__law_picked an__law_picked cd__law_picked ct__law_picked), sl__law_picked⟩) (c__law_picked : PySem.W.codeIn K cd__law_picked "_law_picked" = true) (k__law_picked : PySem.W.keepIn K (.ref f__law_picked) = true)
    (a__law_joined : PySem.W.nsIn K mainGlobals "_law_joined" = some (some (.ref f__law_joined))) (l__law_joined : K.lookup f__law_joined = some ⟨oc__law_joined, od__law_joined, .func (PySem.W.fnOf "_law_joined" "_law_joined" (defArgs s__law_joined) (defBody s__law_joined) (defScope s__law_joined) .none kV__law_joined dc__law_joined pm__law_joined an__law_joined cd__law_joined ct__law_joined), sl__law_joined⟩) (c__law_joined : PySem.W.codeIn K cd__law_joined "_law_joined" = true) (k__law_joined : PySem.W.keepIn K (.ref f__law_joined) = true)
    (a__law_dropped : PySem.W.nsIn K mainGlobals "_law_dropped" = some (some (.ref f__law_dropped))) (l__law_dropped : K.lookup f__law_dropped = some ⟨oc__law_dropped, od__law_dropped, .func (PySem.W.fnOf "_law_dropped" "_law_dropped" (defArgs s__law_dropped) (defBody s__law_dropped) (defScope s__law_dropped) .none kV__law_dropped dc__law_dropped pm__law_dropped an__law_dropped cd__law_dropped ct__law_dropped), sl__law_dropped⟩) (c__law_dropped : PySem.W.codeIn K cd__law_dropped "_law_dropped" = true) (k__law_dropped : PySem.W.keepIn K (.ref f__law_dropped) = true)
    (a__law_same : PySem.W.nsIn K mainGlobals "_law_same" = some (some (.ref f__law_same))) (l__law_same : K.lookup f__law_same = some ⟨oc__law_same, od__law_same, .func (PySem.W.fnOf "_law_same" "_law_same" (defArgs s__law_same) (defBody s__law_same) (defScope s__law_same) .none kV__law_same dc__law_same pm__law_same an__law_same cd__law_same ct__law_same), sl__law_same⟩) (c__law_same : PySem.W.codeIn K cd__law_same "_law_same" = true) (k__law_same : PySem.W.keepIn K (.ref f__law_same) = true)
    (a__law_can_hold_right : PySem.W.nsIn K mainGlobals "_law_can_hold_right" = some (some (.ref f__law_can_hold_right))) (l__law_can_hold_right : K.lookup f__law_can_hold_right = some ⟨oc__law_can_hold_right, od__law_can_hold_right, .func (PySem.W.fnOf "_law_can_hold_right" "_law_can_hold_right" (defArgs s__law_can_hold_right) (defBody s__law_can_hold_right) (defScope s__law_can_hold_right) .none kV__law_can_hold_right dc__law_can_hold_right pm__law_can_hold_right an__law_can_hold_right cd__law_can_hold_right ct__law_can_hold_right), sl__law_can_hold_right⟩) (c__law_can_hold_right : PySem.W.codeIn K cd__law_can_hold_right "_law_can_hold_right" = true) (k__law_can_hold_right : PySem.W.keepIn K (.ref f__law_can_hold_right) = true)
    (a_law : PySem.W.nsIn K mainGlobals "law" = some (some (.ref f_law))) (l_law : K.lookup f_law = some ⟨oc_law, od_law, .func (PySem.W.fnOf "law" "law" (defArgs s_law) (defBody s_law) (defScope s_law) .none kV_law dc_law pm_law an_law cd_law ct_law), sl_law⟩) (c_law : PySem.W.codeIn K cd_law "law" = true) (k_law : PySem.W.keepIn K (.ref f_law) = true)
    (z_set : PySem.W.nsIn K mainGlobals "set" = some none)
    (z_sorted : PySem.W.nsIn K mainGlobals "sorted" = some none)
    (z_tuple : PySem.W.nsIn K mainGlobals "tuple" = some none)
    (z_all : PySem.W.nsIn K mainGlobals "all" = some none)
    (z_len : PySem.W.nsIn K mainGlobals "len" = some none)
    (z_int : PySem.W.nsIn K mainGlobals "int" = some none)
    (z_range : PySem.W.nsIn K mainGlobals "range" = some none)
    (z_list : PySem.W.nsIn K mainGlobals "list" = some none)
    (z_isinstance : PySem.W.nsIn K mainGlobals "isinstance" = some none)
    (z_bool : PySem.W.nsIn K mainGlobals "bool" = some none)
    : ∃ fd : FuncData, (∀ (s : Shared) (v : Value), BindsTo s fd ⟨[v], []⟩ [("_law_script", v)]) ∧ ∀ base : Heap, K.In base → base.Ns mainGlobals mg → FnOk l.prog w K mg base CX0 4 fa fd ["_law_script"] (spLaw K) := by
  have e := hfa.symm.trans (PySem.W.mg_of X G a_law)
  cases e
  have F_merge_names := fun_mk (st := s_merge_names) l_merge_names c_merge_names k_merge_names
  have F__values_of := fun_mk (st := s__values_of) l__values_of c__values_of k__values_of
  have b__values_of := F__values_of.binds (ps := ["names", "row", "wanted"]) fun _ _ _ _ _ _ us hl => match us, hl with | [_, _, _], _ => rfl
  have F_join_tables := fun_mk (st := s_join_tables) l_join_tables c_join_tables k_join_tables
  have b_join_tables := F_join_tables.binds (ps := ["first", "second"]) fun _ _ _ _ _ _ us hl => match us, hl with | [_, _], _ => rfl
  have F_drop_column := fun_mk (st := s_drop_column) l_drop_column c_drop_column k_drop_column
  have b_drop_column := F_drop_column.binds (ps := ["constraint", "name"]) fun _ _ _ _ _ _ us hl => match us, hl with | [_, _], _ => rfl
  have F_agreeing := fun_mk (st := s_agreeing) l_agreeing c_agreeing k_agreeing
  have b_agreeing := F_agreeing.binds (ps := ["constraint", "decided"]) fun _ _ _ _ _ _ us hl => match us, hl with | [_, _], _ => rfl
  have F_can_hold := fun_mk (st := s_can_hold) l_can_hold c_can_hold k_can_hold
  have b_can_hold := F_can_hold.binds (ps := ["constraint", "decided"]) fun _ _ _ _ _ _ us hl => match us, hl with | [_, _], _ => rfl
  have F__law_source := fun_mk (st := s__law_source) l__law_source c__law_source k__law_source
  have b__law_source := F__law_source.binds (ps := ["_law_script", "_law_k"]) fun _ _ _ _ _ _ us hl => match us, hl with | [_, _], _ => rfl
  have F__law_draw := fun_mk (st := s__law_draw) l__law_draw c__law_draw k__law_draw
  have b__law_draw := F__law_draw.binds (ps := ["_law_source_here", "_law_limit"]) fun _ _ _ _ _ _ us hl => match us, hl with | [_, _], _ => rfl
  have F__law_some := fun_mk (st := s__law_some) l__law_some c__law_some k__law_some
  have b__law_some := F__law_some.binds (ps := ["_law_source_here", "_law_names", "_law_most"]) fun _ _ _ _ _ _ us hl => match us, hl with | [_, _, _], _ => rfl
  have F__law_rows := fun_mk (st := s__law_rows) l__law_rows c__law_rows k__law_rows
  have b__law_rows := F__law_rows.binds (ps := ["_law_count"]) fun _ _ _ _ _ _ us hl => match us, hl with | [_], _ => rfl
  have F__law_table := fun_mk (st := s__law_table) l__law_table c__law_table k__law_table
  have b__law_table := F__law_table.binds (ps := ["_law_source_here"]) fun _ _ _ _ _ _ us hl => match us, hl with | [_], _ => rfl
  have F__law_picked := fun_mk (st := s__law_picked) l__law_picked c__law_picked k__law_picked
  have b__law_picked := F__law_picked.binds (ps := ["_law_names", "_law_row", "_law_wanted"]) fun _ _ _ _ _ _ us hl => match us, hl with | [_, _, _], _ => rfl
  have F__law_joined := fun_mk (st := s__law_joined) l__law_joined c__law_joined k__law_joined
  have b__law_joined := F__law_joined.binds (ps := ["_law_first", "_law_second"]) fun _ _ _ _ _ _ us hl => match us, hl with | [_, _], _ => rfl
  have F__law_dropped := fun_mk (st := s__law_dropped) l__law_dropped c__law_dropped k__law_dropped
  have b__law_dropped := F__law_dropped.binds (ps := ["_law_table_here", "_law_name"]) fun _ _ _ _ _ _ us hl => match us, hl with | [_, _], _ => rfl
  have F__law_same := fun_mk (st := s__law_same) l__law_same c__law_same k__law_same
  have b__law_same := F__law_same.binds (ps := ["_law_actual", "_law_expected"]) fun _ _ _ _ _ _ us hl => match us, hl with | [_, _], _ => rfl
  have F__law_can_hold_right := fun_mk (st := s__law_can_hold_right) l__law_can_hold_right c__law_can_hold_right k__law_can_hold_right
  have b__law_can_hold_right := F__law_can_hold_right.binds (ps := ["_law_source_here", "_law_table_here"]) fun _ _ _ _ _ _ us hl => match us, hl with | [_, _], _ => rfl
  have F_law := fun_mk (st := s_law) l_law c_law k_law
  have m_set := PySem.W.mg_none_of X G z_set
  have m_sorted := PySem.W.mg_none_of X G z_sorted
  have m_tuple := PySem.W.mg_none_of X G z_tuple
  have m_all := PySem.W.mg_none_of X G z_all
  have m_len := PySem.W.mg_none_of X G z_len
  have m_int := PySem.W.mg_none_of X G z_int
  have m_range := PySem.W.mg_none_of X G z_range
  have m_list := PySem.W.mg_none_of X G z_list
  have m_isinstance := PySem.W.mg_none_of X G z_isinstance
  have m_bool := PySem.W.mg_none_of X G z_bool
  refine ⟨PySem.W.fnOf "law" "law" (defArgs s_law) (defBody s_law) (defScope s_law) .none kV_law dc_law pm_law an_law cd_law ct_law, fun s v => .of_eq rfl, fun base _ _ => ?_⟩
  have C_merge_names : CalR l.prog w K mg base "merge_names" 1 (spMerge K) := ⟨_, ok_merge_names F_merge_names (m_set := m_set) (m_sorted := m_sorted) (m_tuple := m_tuple), PySem.W.mg_of X G a_merge_names, F_merge_names.kp⟩
  have C__values_of : Cal l.prog w K mg base "_values_of" 1 ["names", "row", "wanted"] (spVal K) := ⟨_, _, ok_values_of F__values_of (m_tuple := m_tuple), PySem.W.mg_of X G a__values_of, F__values_of.kp, b__values_of⟩
  have C_join_tables : Cal l.prog w K mg base "join_tables" 2 ["first", "second"] (spJoin K) := ⟨_, _, ok_join F_join_tables (m_tuple := m_tuple) (m_sorted := m_sorted) (C_merge_names := C_merge_names) (C__values_of := C__values_of), PySem.W.mg_of X G a_join_tables, F_join_tables.kp, b_join_tables⟩
  have C_drop_column : Cal l.prog w K mg base "drop_column" 1 ["constraint", "name"] (spDrop K) := ⟨_, _, ok_drop F_drop_column (m_set := m_set) (m_sorted := m_sorted) (m_tuple := m_tuple), PySem.W.mg_of X G a_drop_column, F_drop_column.kp, b_drop_column⟩
  have C_agreeing : Cal l.prog w K mg base "agreeing" 1 ["constraint", "decided"] (spAgree K) := ⟨_, _, ok_agreeing F_agreeing (m_all := m_all) (m_tuple := m_tuple), PySem.W.mg_of X G a_agreeing, F_agreeing.kp, b_agreeing⟩
  have C_can_hold : Cal l.prog w K mg base "can_hold" 2 ["constraint", "decided"] (spCan K) := ⟨_, _, ok_can_hold F_can_hold (C_agreeing := C_agreeing), PySem.W.mg_of X G a_can_hold, F_can_hold.kp, b_can_hold⟩
  have C__law_source : Cal l.prog w K mg base "_law_source" 1 ["_law_script", "_law_k"] (spSource K) := ⟨_, _, ok_source F__law_source (m_len := m_len) (m_int := m_int), PySem.W.mg_of X G a__law_source, F__law_source.kp, b__law_source⟩
  have C__law_draw : Cal l.prog w K mg base "_law_draw" 1 ["_law_source_here", "_law_limit"] spDraw := ⟨_, _, ok_draw F__law_draw (m_int := m_int), PySem.W.mg_of X G a__law_draw, F__law_draw.kp, b__law_draw⟩
  have C__law_some : Cal l.prog w K mg base "_law_some" 2 ["_law_source_here", "_law_names", "_law_most"] (spSome K) := ⟨_, _, ok_some F__law_some (m_len := m_len) (C__law_draw := C__law_draw), PySem.W.mg_of X G a__law_some, F__law_some.kp, b__law_some⟩
  have C__law_rows : Cal l.prog w K mg base "_law_rows" 1 ["_law_count"] (spRows K) := ⟨_, _, ok_rows F__law_rows (m_range := m_range) (m_list := m_list), PySem.W.mg_of X G a__law_rows, F__law_rows.kp, b__law_rows⟩
  have C__law_table : Cal l.prog w K mg base "_law_table" 3 ["_law_source_here"] (spTable K) := ⟨_, _, ok_table F__law_table (m_len := m_len) (m_tuple := m_tuple) (C__law_draw := C__law_draw) (C__law_some := C__law_some) (C__law_rows := C__law_rows), PySem.W.mg_of X G a__law_table, F__law_table.kp, b__law_table⟩
  have C__law_picked : Cal l.prog w K mg base "_law_picked" 1 ["_law_names", "_law_row", "_law_wanted"] (spPick K) := ⟨_, _, ok_picked F__law_picked (m_tuple := m_tuple), PySem.W.mg_of X G a__law_picked, F__law_picked.kp, b__law_picked⟩
  have C__law_joined : Cal l.prog w K mg base "_law_joined" 2 ["_law_first", "_law_second"] (spLJoin K) := ⟨_, _, ok_joined F__law_joined (m_len := m_len) (m_tuple := m_tuple) (C__law_rows := C__law_rows) (C__law_picked := C__law_picked), PySem.W.mg_of X G a__law_joined, F__law_joined.kp, b__law_joined⟩
  have C__law_dropped : Cal l.prog w K mg base "_law_dropped" 2 ["_law_table_here", "_law_name"] (spLDrop K) := ⟨_, _, ok_dropped F__law_dropped (m_list := m_list) (m_sorted := m_sorted) (m_tuple := m_tuple) (C__law_picked := C__law_picked), PySem.W.mg_of X G a__law_dropped, F__law_dropped.kp, b__law_dropped⟩
  have C__law_same : Cal l.prog w K mg base "_law_same" 1 ["_law_actual", "_law_expected"] (spSame K) := ⟨_, _, ok_same F__law_same (m_isinstance := m_isinstance) (m_int := m_int) (m_bool := m_bool), PySem.W.mg_of X G a__law_same, F__law_same.kp, b__law_same⟩
  have C__law_can_hold_right : Cal l.prog w K mg base "_law_can_hold_right" 3 ["_law_source_here", "_law_table_here"] (spCR K) := ⟨_, _, ok_can_right F__law_can_hold_right (m_len := m_len) (m_range := m_range) (m_sorted := m_sorted) (m_isinstance := m_isinstance) (m_bool := m_bool) (C__law_draw := C__law_draw) (C__law_some := C__law_some) (C_can_hold := C_can_hold), PySem.W.mg_of X G a__law_can_hold_right, F__law_can_hold_right.kp, b__law_can_hold_right⟩
  exact ok_law F_law (m_range := m_range) (C__law_source := C__law_source) (C__law_table := C__law_table) (C__law_joined := C__law_joined) (C__law_same := C__law_same) (C_join_tables := C_join_tables) (C_drop_column := C_drop_column) (C__law_dropped := C__law_dropped) (C__law_can_hold_right := C__law_can_hold_right)
end K19
open PySem PySem.W PyProof.Rows
set_option maxRecDepth 100000 in
set_option maxHeartbeats 0 in
theorem PySem.Challenge.cw_shadowlinks_k19_tables_joined_holds : PySem.Challenge.rw_shadowlinks_k19_tables_joined.Holds := by
  w_on; o_law; k_head; (case hw => w_witness2)
  k_fill
  refine L2.walk_of (l := PySem.Challenge.rw_shadowlinks_k19_tables_joined) (n := 63) (k := 4) (x := "_law_script") (CX := fun _ => L2.CX0) (sp := fun w => K19.spLaw _) rfl (by decide) rfl ⟨rfl, by decide, by decide⟩ (fun w h Y => PySem.W.kIn_of Y) ?F (fun _ _ a ns hl _ hS => ⟨a, ns, rfl, hS, hl, fun _ => rfl⟩) (fun _ _ _ _ _ h => h)
  case F =>
    intro w mg fa h KX G hmg
    refine' K19.all_mk KX G hmg ?a_merge_names ?l_merge_names ?c_merge_names ?k_merge_names ?a__values_of ?l__values_of ?c__values_of ?k__values_of ?a_join_tables ?l_join_tables ?c_join_tables ?k_join_tables ?a_drop_column ?l_drop_column ?c_drop_column ?k_drop_column ?a_agreeing ?l_agreeing ?c_agreeing ?k_agreeing ?a_can_hold ?l_can_hold ?c_can_hold ?k_can_hold ?a__law_source ?l__law_source ?c__law_source ?k__law_source ?a__law_draw ?l__law_draw ?c__law_draw ?k__law_draw ?a__law_some ?l__law_some ?c__law_some ?k__law_some ?a__law_rows ?l__law_rows ?c__law_rows ?k__law_rows ?a__law_table ?l__law_table ?c__law_table ?k__law_table ?a__law_picked ?l__law_picked ?c__law_picked ?k__law_picked ?a__law_joined ?l__law_joined ?c__law_joined ?k__law_joined ?a__law_dropped ?l__law_dropped ?c__law_dropped ?k__law_dropped ?a__law_same ?l__law_same ?c__law_same ?k__law_same ?a__law_can_hold_right ?l__law_can_hold_right ?c__law_can_hold_right ?k__law_can_hold_right ?a_law ?l_law ?c_law ?k_law ?z_set ?z_sorted ?z_tuple ?z_all ?z_len ?z_int ?z_range ?z_list ?z_isinstance ?z_bool
    (case a_merge_names => k_is)
    (case l_merge_names => k_is)
    (case c_merge_names => k_is)
    (case k_merge_names => k_is)
    (case a__values_of => k_is)
    (case l__values_of => k_is)
    (case c__values_of => k_is)
    (case k__values_of => k_is)
    (case a_join_tables => k_is)
    (case l_join_tables => k_is)
    (case c_join_tables => k_is)
    (case k_join_tables => k_is)
    (case a_drop_column => k_is)
    (case l_drop_column => k_is)
    (case c_drop_column => k_is)
    (case k_drop_column => k_is)
    (case a_agreeing => k_is)
    (case l_agreeing => k_is)
    (case c_agreeing => k_is)
    (case k_agreeing => k_is)
    (case a_can_hold => k_is)
    (case l_can_hold => k_is)
    (case c_can_hold => k_is)
    (case k_can_hold => k_is)
    (case a__law_source => k_is)
    (case l__law_source => k_is)
    (case c__law_source => k_is)
    (case k__law_source => k_is)
    (case a__law_draw => k_is)
    (case l__law_draw => k_is)
    (case c__law_draw => k_is)
    (case k__law_draw => k_is)
    (case a__law_some => k_is)
    (case l__law_some => k_is)
    (case c__law_some => k_is)
    (case k__law_some => k_is)
    (case a__law_rows => k_is)
    (case l__law_rows => k_is)
    (case c__law_rows => k_is)
    (case k__law_rows => k_is)
    (case a__law_table => k_is)
    (case l__law_table => k_is)
    (case c__law_table => k_is)
    (case k__law_table => k_is)
    (case a__law_picked => k_is)
    (case l__law_picked => k_is)
    (case c__law_picked => k_is)
    (case k__law_picked => k_is)
    (case a__law_joined => k_is)
    (case l__law_joined => k_is)
    (case c__law_joined => k_is)
    (case k__law_joined => k_is)
    (case a__law_dropped => k_is)
    (case l__law_dropped => k_is)
    (case c__law_dropped => k_is)
    (case k__law_dropped => k_is)
    (case a__law_same => k_is)
    (case l__law_same => k_is)
    (case c__law_same => k_is)
    (case k__law_same => k_is)
    (case a__law_can_hold_right => k_is)
    (case l__law_can_hold_right => k_is)
    (case c__law_can_hold_right => k_is)
    (case k__law_can_hold_right => k_is)
    (case a_law => k_is)
    (case l_law => k_is)
    (case c_law => k_is)
    (case k_law => k_is)
    (case z_set => k_is)
    (case z_sorted => k_is)
    (case z_tuple => k_is)
    (case z_all => k_is)
    (case z_len => k_is)
    (case z_int => k_is)
    (case z_range => k_is)
    (case z_list => k_is)
    (case z_isinstance => k_is)
    (case z_bool => k_is)
#print axioms PySem.Challenge.cw_shadowlinks_k19_tables_joined_holds
