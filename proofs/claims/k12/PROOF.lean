import PyProof.Rows.All
import Wide.All
import OpenK.AllK
import Wide.FinOn
import HandS.ForMost
import HandS.ExcInit
import HandS.Nested
import HandS.FStr
import KE.KExcSuper
import KE.KExcIs
import HandS.Wide
import HandS.Style
import HandS.Flow
import PyProof.StrBlockL
import PyProof.ReprRoads
import PySem.Challenge.RW_frameplaces_k12_errors
set_option Elab.async false
set_option linter.all false
set_option maxRecDepth 100000
set_option maxHeartbeats 4000000
/-! Own exception classes (over an own base over ValueError) whose __init__ calls super().__init__: made as values, held, their fields read, asked by isinstance. -/
namespace FP
open PySem PySem.Spec PyProof.Rows L2 NdefX
/-- what the written part says of such a class at C -/
structure ExK (K : W.Frag) (C : Addr) : Prop where
  oex : OexC K C
  ga : W.findIn K (.ref C) "__getattribute__" = some (some (.builtin "BaseException.__getattribute__"))
  gg : W.findIn K (.ref C) "__getattr__" = some none
  hd : W.hasDictIn K C = true
  ca : W.findIn K (.ref C) "__class__" = some (some (.builtin "object.__class__"))
  cn : W.specialIn K (.builtin "object.__class__") "__get__" = some (some (.builtin "getset_descriptor.__get__"))
  ct : W.takesIn K (.builtin "object.__class__") = some true
  cm : W.mroIn K C (.type "object") = some true
  iV : W.subIn K (.ref C) (.type "ValueError") = some true
  sup : W.ks_superIn K C C "__init__" = some (some (.builtin "ValueError.__init__"))
  me : W.mroIn K C (.ref C) = some true
  op : W.nsIn K cStatics "thirdparty.any" = some none
theorem ExK.is {K : W.Frag} {C : Addr} (T : ExK K C) : ∃ cd, W.clsIn K C = some cd := by
  obtain ⟨nm, q, N, bs, bm, sn, sub, ab, col, dd, k0, k1, k2, k3, k5, hC, _⟩ := T.oex.cls
  exact ⟨_, by unfold W.clsIn; rw [hC] <;> rfl⟩
/-- the running __init__ knows its class, its code's record -/
structure SupAt (X : Cx) (C : Addr) : Prop where
  ks : X.env.kindOf "super" = some .globalImplicit
  kc : X.env.kindOf "__class__" = some .free
  fu : ∃ (f : Addr) (fo : Obj) (fd : FuncData) (ar : Arg), X.env.func = some f ∧ X.K.lookup f = some fo ∧ fo.data = .func fd ∧
    (fd.params.posonlyargs ++ fd.params.args).head? = some ar ∧ X.N[0]? = some ar.arg ∧ X.env.kindOf ar.arg = some .local
  co : ∃ (c : Addr) (o : Obj) (vs : Array Value) (file : Str) (tf : Tok), X.env.code = .ref c ∧ X.K.lookup c = some o ∧ o.data = .fields vs ∧ vs[2]? = some (.str file tf) ∧ ((X.prog.main.file : Str) == file) = true
  cell : ∃ (c : Addr) (o : Obj), X.env.cells.lookup ("__class__" : Str) = some c ∧ X.K.lookup c = some o ∧ o.data = .cell (some (.ref C))
  top : (X.prog.main.scope.names.lookup ("super" : Str)).isSome = false
  mg : X.mg "super" = none
section
variable {X : Cx} {pins : List (Addr × Obj)} {σ : L2.St} {H : Hp} {s : Shared} {a C : Addr} {E : Value → Shared → Prop}
/-- where a tracked exception without a dict stands -/
theorem exo_inst (I : Inv X pins σ H s) (e : H a = some (exo a C none)) : ∃ ox, W.InstAt s.heap a ox C none ∧ ∃ t, ox = W.excObj C t none .none := by
  obtain ⟨t, h⟩ := exo_at I.hok e
  exact ⟨_, ⟨h, rfl, rfl, trivial⟩, t, rfl⟩
/-- super() -/
theorem sup_obj (S : SupAt X C) (T : ExK X.K C) (I : Inv X pins σ H s) (h0 : σ[0]? = some (some (.ref a))) (e : H a = some (exo a C none)) {body : List Stmt} {p0 p1 : Pos} {attr : Str} {whole : Sem Value} {Q : Value → Shared → Prop}
    (hat : (attr == ("__class__" : Str)) = false)
    (q : ∀ so s', Inv X pins σ H s' → s'.heap.get? so = some (W.ks_superObj C a C) → Q (.ref so) s') :
    _root_.PySem.wpAt (model X.prog X.w) X.A (.func body X.env) (attributeBase (.Call (.Name "super" p0) [] [] p1) attr X.env whole) Q E s := by
  obtain ⟨f, fo, fd, ar, u1, u2, u3, u4, u5, u6⟩ := S.fu
  obtain ⟨c, oc, vs, file, tf, c1, c2, c3, c4, c5⟩ := S.co
  obtain ⟨cc, occ, d1, d2, d3⟩ := S.cell
  obtain ⟨mb, b1, b2⟩ := I.ok.mod.blt
  refine ks_wpAt_super_base S.ks S.kc hat u1 (I.kIn _ _ u2) u3 u4 c1 (I.kIn _ _ c2) c3 c4 c5 S.top ?_
  refine W.ks_loadName_global I.ok.kind S.ks ?_
  have g1 : s.heap.Ns X.env.globals X.mg := by rw [I.ok.glob]; exact I.ok.mod.glob.keeps I.bk
  have g2 : s.heap.Ns X.env.builtins mb := by rw [I.ok.blt]; exact b1.keeps I.bk
  have g3 : mb "super" = some (.type "super") := (b2 "super" (by decide +kernel)).trans (by decide +kernel)
  refine Calls.loadGlobal_builtin g1 S.mg g2 g3 ⟨rfl, ?_⟩
  refine wpAny_loadName_free I.ok.kind S.kc d1 ⟨_, I.kIn _ _ d2, d3⟩ ?_
  obtain ⟨m, hn, hl⟩ := I.loc
  obtain ⟨u, ru, lk⟩ := hl 0 ar.arg (.ref a) u5 h0 (.inl u6)
  have ru : u = Value.ref a := ru
  subst ru
  have hm : m ar.arg = some (.ref a) := by
    rcases lk with ⟨_, z⟩ | ⟨z, _⟩
    · exact z
    · rw [u6] at z
      rcases z with z | z <;> cases z
  refine wpAny_loadName_local I.ok.kind u6 hn hm ?_
  obtain ⟨ox, J, t0, eo⟩ := exo_inst I e
  obtain ⟨cd, hcd⟩ := T.is
  obtain ⟨oD, D1, D2⟩ : ∃ oD, s.heap.get? C = some oD ∧ oD.data = .cls cd := by
    unfold W.clsIn at hcd
    split at hcd
    · rename_i ho
      cases hcd
      exact ⟨_, I.kIn _ _ ho, rfl⟩
    · cases hcd
  have L := W.looks_mroIn (M := model X.prog X.w) I.kIn T.me
  have K1 := fun (h' : Heap) (k : ∀ b o, s.heap.get? b = some o → h'.get? b = some o) => I.kept (h' := h') (t' := s.toks) k
  obtain ⟨hp, g, d, t, os⟩ := s
  refine ks_wpAny_isType_cls D1 D2 ⟨rfl, ?_⟩
  refine ks_wpAny_call_super D1 D2 J.at_ J.cls (fun c z => ?_) L fun h' e' k => q _ _ (K1 h' k) e'
  rw [eo] at z
  cases z
/-- the bound ValueError.__init__ at u is called with us: the exception stays one without a dict -/
theorem mw_call (T : ExK X.K C) (I : Inv X pins σ H s) (e : H a = some (exo a C none)) {u : Addr} {us : List Value} {Q : Value → Shared → Prop}
    (hu : s.heap.get? u = some (W.kxs_mw "ValueError.__init__" a)) (hl : us.length ≤ sizeLine) (q : ∀ s', Inv X pins σ H s' → Q .none s') :
    wpAny (model X.prog X.w) X.A (call (.ref u) us) Q E s := by
  obtain ⟨nm, qn, N, bs, bm, sn, sub, ab, col, dd, k0, k1, k2, k3, k5, hC, hbm⟩ := T.oex.cls
  obtain ⟨t1, ho⟩ := exo_at I.hok e
  have W1 := fun (h' : Heap) (t2 : Addr) (k : ∀ b o, b ≠ a → s.heap.get? b = some o → h'.get? b = some o) (hx : h'.get? a = some (W.excObj C t2 none .none)) =>
    I.write (t' := s.toks) (x := a) (e := a) (o := exo a C none) (by rw [e]; exact True.intro) (.inl rfl) k ⟨_, hx⟩ (exo_ok hx)
  have same : upd H a (exo a C none) = H := by
    funext b
    by_cases hb : b = a
    · subst hb
      rw [upd_same, e]
    · rw [upd_ne hb]
  have hK := I.kIn _ _ hC
  obtain ⟨hp, g, d, t, os⟩ := s
  refine wpAny_call (codeAny_of_tree ?_)
  show wpAny _ X.A.in1 (callAny (.ref u) ⟨us, []⟩) _ _ _
  unfold callAny
  have m1 : (Value.type "method-wrapper" == Value.type "method" || Value.type "method-wrapper" == Value.type "builtin_function_or_method" ||
    Value.type "method-wrapper" == Value.type "method-wrapper") = true := by decide
  refine wpAny_bind (wpAny_load hu ?_); simp only [W.kxs_mw, m1, if_true]
  refine W.KFB.if_so (by decide) (wpAny_bind (W.check_bound_init F.excBase_ValueError.toExcCallFacts hK ho rfl (wpAny_bind (wpAny_pure (wpAny_pure ?_)))))
  refine ⟨plainId_quiet F.excBase_ValueError.init.plain _, codeAny_builtin F.excBase_ValueError.initEntry ?_⟩
  refine W.exc_init_tree (e := a) (t0 := t1) (cls := .ref C) (dv := none) (c2 := .none) (c3 := .none) (b4 := .bool false) ho hl fun h' k hx ht => ?_
  have J := W1 h' _ k hx
  rw [same] at J
  exact q _ J
/-- a block at the activation of its own def (super() asks for that) -/
structure PSA (X : Cx) (body st : List Stmt) (t : TS) : Prop where
  run : ∀ (pins : List (Addr × Obj)) (s : Shared) (σ : L2.St) (H : Hp) (D : Ends), Inv X pins σ H s → t D σ H →
    _root_.PySem.wpAt (model X.prog X.w) X.A (.func body X.env) (execs st X.env) (SP X pins D) X.xe s
theorem psa_of {body st : List Stmt} {t : TS} (h : PSs X st t) : PSA X body st t := ⟨fun pins s σ H D I q => wpAt_of_wpAny (h.run pins s σ H D I q)⟩
theorem psa_cons {body rest : List Stmt} {st : Stmt} {t u : TS} (h : PS X st t) (r : PSA X body rest u) : PSA X body (st :: rest) (tSeq t u) := by
  refine ⟨fun pins s σ H D I q => ks_wpAt_execs_cons (wpAt_of_wpAny (thn (h.run pins s σ H _ I q) fun f s1 z => ?_))⟩
  cases f with
  | next =>
    obtain ⟨σ', H', I', q⟩ := z
    exact r.run pins s1 σ' H' D I' q
  | ret v => exact z
  | brk => exact z
  | cont => exact z
/-- super().__init__(e, ..), then the rest; a: the exception that is made -/
def tSup (C : Addr) (ta : TA) (u : TS) : TS := fun D σ H => ∃ a : Addr, σ[0]? = some (some (.ref a)) ∧ H a = some (exo a C none) ∧ ta σ H fun vs H1 => vs.length ≤ 1000 ∧ H1 a = some (exo a C none) ∧ u D σ H1
theorem psa_sup {body rest : List Stmt} {e : Expr} {es : List Expr} {p0 p1 p2 pos pos2 : Pos} {ta : TA} {u : TS} {pl : Sem Bool} (S : SupAt X C) (T : ExK X.K C) (ha : PA X (e :: es) ta) (hr : PSA X body rest u)
    (hc : eval (.Call (.Attribute (.Call (.Name "super" p0) [] [] p1) "__init__" p2) (e :: es) [] pos) X.env = (do
      let ov ← attributeBase (.Call (.Name "super" p0) [] [] p1) "__init__" X.env (eval (.Call (.Name "super" p0) [] [] p1) X.env)
      standAt p2.atName
      let (f, first) ← holding [ov] (getMethod ov "__init__" pl)
      callWith pos f first (backTo pos (starEach (e :: es) X.env)) []) := by rfl)
    (he : starEach (e :: es) X.env = (false, eval e X.env) :: starEach es X.env := by rfl) (hpl : (backTo pos (starEach es X.env)).any (·.1) = false := by rfl) :
    PSA X body (.Expr (.Call (.Attribute (.Call (.Name "super" p0) [] [] p1) "__init__" p2) (e :: es) [] pos) pos2 :: rest) (tSup C ta u) := by
  refine ⟨fun pins s σ H D I q => ?_⟩
  obtain ⟨a, h0, ea, q⟩ := q
  refine ks_wpAt_execs_cons (ks_wpAt_Expr_any (ks_wpAt_MethodCall (pl := pl) (sup_obj S T I h0 ea (by decide) fun so s1 I1 hso => ?_) hc) I.quiet)
  obtain ⟨ox, J, t0, eo⟩ := exo_inst I1 ea
  obtain ⟨cd, hcd⟩ := T.is
  have hal : W.alongIn X.K "__init__" ((cd.mro.dropWhile (· != .ref C)).drop 1) = some (some (.builtin "ValueError.__init__")) := by
    have z := T.sup
    unfold W.ks_superIn at z
    rw [hcd] at z
    exact z
  have isV : W.Looks (model X.prog X.w) s1.heap (isInstance (.ref a) (.type "ValueError")) true := J.type.andThen (W.looks_subIn I1.kIn T.iV)
  have mro : W.Looks (model X.prog X.w) s1.heap (mroOf (.ref C)) cd.mro := (W.looks_clsIn I1.kIn hcd).andThen .now
  have opq := W.looks_opaque (M := model X.prog X.w) (C := C) I1.kIn T.op
  have hne : a ≠ C := W.ks_ne I1.kIn J hcd
  have K1 := fun (t' : Nat) => I1.kept (h' := s1.heap.push (W.kxs_mw "ValueError.__init__" a)) (t' := t') fun b o z => Heap.get?_push_of_some _ z
  have lt := I1.lt
  have nfs := I1.nofs (Nat.le_refl s1.heap.objs.size)
  have fresh : H s1.heap.objs.size = none := I1.hok.fresh (Nat.le_refl _)
  have KI := I1.kIn
  obtain ⟨hp, g, d, t, os⟩ := s1
  refine W.kxs_getMethod W.kxs_ValueError hso opq mro rfl KI hal isV hne (by decide) ?_
  have I2 := K1 (t + 1)
  have at_u : (hp.push (W.kxs_mw "ValueError.__init__" a)).get? hp.objs.size = some (W.kxs_mw "ValueError.__init__" a) := Heap.get?_push_at rfl rfl
  have I3 : Inv X ((hp.objs.size, W.kxs_mw "ValueError.__init__" a) :: pins) σ H ⟨hp.push (W.kxs_mw "ValueError.__init__" a), g, d, t + 1, os⟩ := I2.pins_of fun p hp' => by
    rcases List.mem_cons.mp hp' with rfl | hp'
    · exact ⟨at_u, fresh, Nat.ne_of_gt lt, nfs, fun v z => by cases z⟩
    · exact I2.pin p (List.mem_append_right _ hp')
  show wpAny _ _ (callWith pos (.ref hp.objs.size) [] (backTo pos (starEach (e :: es) X.env)) []) _ _ _
  have run := ha.run pos _ _ σ H _ I3 q
  rw [he] at run ⊢
  refine W.kxs_callWith (i := "ValueError.__init__") (x := a) (by show (false || (backTo pos (starEach es X.env)).any (·.1)) = false; rw [hpl]; rfl) (Calls.evalArgs_plain (thn run fun us s4 z => ?_))
  obtain ⟨vs, H1, I4, r4, hz, ea1, q4⟩ := z
  obtain ⟨pin, _⟩ := I4.pin _ (List.mem_append_right _ List.mem_cons_self)
  have hus : us.length ≤ sizeLine := by
    rw [← Paired.length r4, sizeLine_eq]
    omega
  refine ⟨pin, mw_call T I4 ea1 pin hus fun s5 I5 => ?_⟩
  have I6 : Inv X pins σ H1 s5 := I5.pins_of fun p hp' => I5.pin p (List.mem_append.mpr ((List.mem_append.mp (List.mem_append_right X.pn hp')).imp id (List.mem_cons_of_mem _)))
  exact hr.run pins s5 σ H1 D I6 q4
end
section
variable {CX : CXT} {P : Program} {w : World} {K : W.Frag} {mg : Str → Option Value} {base : Heap} {N ps : List Str} {k : Nat} {f cc cda C : Addr} {name qual : Str} {params : Arguments} {body : List Stmt} {scope : Scope} {sp : Sp}
/-- the words of a def over the cell of its class -/
abbrev supF (name qual : Str) (params : Arguments) (body : List Stmt) (scope : Scope) (cc cda : Addr) : NF := ⟨name, qual, params, body, scope, [("__class__", cc)], cda⟩
/-- A DEF THAT SAYS super(), by its body -/
theorem fn_sup {dV kV doc pm ct oc cl : Value} {an od cld : Option Addr} {osl csl : Array (Option Value)}
    (lk : K.lookup f = some ⟨oc, od, .func (W.fnX name qual params body scope [("__class__", cc)] dV kV doc pm an (.ref cda) ct), osl⟩) (hcd : W.codeIn K (.ref cda) qual = true)
    (hcell : K.lookup cc = some ⟨cl, cld, .cell (some (.ref C)), csl⟩) (S : NScope N ps ["__class__"] scope) (len : ∀ vs H Q E, sp vs H Q E → vs.length = ps.length)
    (hbody : ∀ (A : Around) (outer : List Env) (s : Shared) (H : Hp) (vs : List V) (Q : VK) (E : XK), Room k (A.deeper (envF (supF name qual params body scope cc cda) f s.heap.objs.size)) → sp vs H Q E →
      ∃ t, PSA (ncx CX P w K mg base N (supF name qual params body scope cc cda) f A outer s H E) body body t ∧ t { nx := fun _ H' => Q .non H', rt := Q } (startF N vs [none]) H) :
    FnOk P w K mg base CX (k + 1) f (W.fnX name qual params body scope [("__class__", cc)] dV kV doc pm an (.ref cda) ct) ps sp := by
  refine ⟨len, fun A outer s H args us vs Q E hr e0 hb r hsp => ?_⟩
  have hl := len _ _ _ _ hsp
  have KB : ∀ b o, K.lookup b = some o → s.heap.get? b = some o ∧ H b = none := fun b o e => e0.bs b o (e0.mod.kin b o e)
  have KX : K.In s.heap := fun b o e => (KB b o e).1
  have lim : s.heap.NoLimit := e0.mod.nolimit.keeps fun b o e => (e0.bs b o e).1
  have cells : CellsAt [(("__class__" : Str), cc)] ["__class__"] [none] s.heap H := by
    have one : ∀ {y : Str} {c : Addr}, List.lookup y [(("__class__" : Str), cc)] = some c → y = "__class__" ∧ c = cc := fun {y c} z => by
      have m := PySem.mem_of_lookup z
      rw [List.mem_singleton] at m
      exact ⟨congrArg Prod.fst m, congrArg Prod.snd m⟩
    refine ⟨rfl, fun y c z => ?_, fun x y c z1 z2 => (one z1).1.trans (one z2).1.symm, fun i y z => ?_⟩
    · rw [(one z).2]
      exact ⟨(KB _ _ hcell).2, _, _, (KB _ _ hcell).1, rfl⟩
    · match i, z with
      | 0, z =>
        have z : some ("__class__" : Str) = some y := z
        cases z
        exact ⟨cc, by simp [List.lookup], fun v q => by cases q⟩
  refine ks_codeAny_call_defAt hr.depth (KX _ _ lk) rfl lim (W.codeRec_of KX hcd) rfl hb S.nocell (fun ⟨n, _⟩ hy => S.par n (List.of_mem_zip hy).1) (fun h₁ hns kp => ?_) S.co S.gen S.kind
  obtain ⟨t, ht, hq⟩ := hbody A outer s H vs Q E (hr.deeper _) hsp
  have I := inv_startN (CX := CX) (P := P) (w := w) (K := K) (mg := mg) (base := base) (F := supF name qual params body scope cc cda) (f := f) (outer := outer) (E := E) (tk := s.toks + (ps.zip us).length) S hr.hd e0 hl r cells hns kp
  refine ks_wpAt_mono (ht.run [] _ _ H _ I hq) (fun fl s' hs => ?_) fun e s' hs => hs
  have fin : ∀ {σ' : L2.St} {H' : Hp} {v : V} {u : Value}, Inv (ncx CX P w K mg base N (supF name qual params body scope cc cda) f A outer s H E) [] σ' H' s' → L2.RelV v u → Q v H' → CE outer P w H s Q u s' :=
    fun {σ' H' v u} J rv q => ⟨v, H', J.os, J.bare, J.base, J.hok, rv, q⟩
  cases fl with
  | ret u => obtain ⟨v, σ', H', J, rv, q⟩ := hs; exact fin J rv q
  | next => obtain ⟨σ', H', J, q⟩ := hs; exact fin (v := V.non) (u := Value.none) J rfl q
  | brk => exact False.elim hs.choose_spec.choose_spec.2
  | cont => exact False.elim hs.choose_spec.choose_spec.2
end
section
variable {X : Cx} {pins : List (Addr × Obj)} {σ : L2.St} {H : Hp} {s : Shared} {C fI : Addr} {CX : CXT} {k : Nat} {fd : FuncData} {ps : List Str} {sp : Sp} {x : Str} {p pos p' : Pos} {e : Expr} {es : List Expr} {ta : TA} {te : TE} {f : Str}
/-- the class at C is called: its __init__ (which keeps sp) fills the new exception -/
theorem made_run {us : List Value} {vs : List V} {Q : VK} (T : ExK X.K C) (iC : W.findIn X.K (.ref C) "__init__" = some (some (.ref fI))) (tI : W.typeIn X.K (.ref fI) = some (.type "function")) (F : FnOk X.prog X.w X.K X.mg X.base CX k fI fd ps sp)
    (hr : Room (k + 1) X.A) (hb : Binds X.K fd ps []) (hx : Passes CX X (fun _ _ _ => False)) (I : Inv X pins σ H s) (r : Vals vs us) (hz : vs.length ≤ 1000)
    (h : ∀ a, H a = none → sp (.ref a :: vs) (upd H a (exo a C none)) (fun v H2 => v = .non ∧ Q (.ref a) H2) (fun _ _ _ => False)) : wpAny (model X.prog X.w) X.A (call (.ref C) us) (EP X pins σ Q) X.xe s := by
  obtain ⟨nm, q, N, bs, bm, sn, sub, ab, col, dd, k0, k1, k2, k3, k5, hC, hbm⟩ := T.oex.cls
  have hsz : s.heap.objs.size ≤ s.heap.objs.size + 1 := Nat.le_succ _
  have hq := h (s.heap.objs.size + 1) (I.hok.fresh hsz)
  have KC := I.kIn _ _ hC
  have Li := W.looks_findIn (M := model X.prog X.w) I.kIn iC
  have Lb := fun self => W.bind_fn (M := model X.prog X.w) I.kIn self tI
  have I2 : Inv X pins σ (upd H (s.heap.objs.size + 1) (exo (s.heap.objs.size + 1) C none)) { s with heap := (s.heap.push (W.kdv_tup us)).push (HandSPX.excO C s.heap.objs.size), toks := s.toks } :=
    I.laid (t' := s.toks) (fun b o z => Heap.get?_push_of_some _ (Heap.get?_push_of_some _ z)) hsz (exo_ok (t1 := s.heap.objs.size) (by heap_get))
  have r2 : Vals (V.ref (s.heap.objs.size + 1) :: vs) (Value.ref (s.heap.objs.size + 1) :: us) := .cons rfl r
  have hl : (Value.ref (s.heap.objs.size + 1) :: us).length = ps.length := by
    rw [← r2.length]
    exact F.len _ _ _ _ hq
  have hus : us.length ≤ sizeLine := by
    rw [← Paired.length r, sizeLine_eq]
    omega
  have bd := hb _ (Value.ref (s.heap.objs.size + 1) :: us) I2.kIn (by rw [List.append_nil]; exact hl)
  rw [List.append_nil] at bd
  have run := F.run _ X.stack _ _ ⟨Value.ref (s.heap.objs.size + 1) :: us, []⟩ _ _ _ (fun _ _ _ => False) (hr.make C us []) (I2.env0.make C us []) bd r2 hq
  obtain ⟨hp, g, dr, tk, os⟩ := s
  refine wpAny_call (HandSPX.call_own PySem.F.excBase_ValueError (fun Y => HandSPX.refsVE_contains Y bm hbm) KC Li Lb hus (codeAny_mono run fun rs s' z => ?_))
  cases rs with
  | error er => exact hx pins σ _ _ er s' I2 z
  | ok fl =>
    cases fl with
    | ret u =>
      obtain ⟨v, H', I3, rv, ev, q3⟩ := I2.after z
      subst ev
      exact ⟨rv, .ref _, H', I3, rfl, q3⟩
    | next => exact False.elim z
    | brk => exact False.elim z
    | cont => exact False.elim z
def tMkE (C : Addr) (sp : Sp) (ta : TA) : TE := fun σ H Q => ta σ H fun vs H1 => vs.length ≤ 1000 ∧ ∀ a, H1 a = none → sp (.ref a :: vs) (upd H1 a (exo a C none)) (fun v H2 => v = .non ∧ Q (.ref a) H2) (fun _ _ _ => False)
/-- C(e, ..) as a value -/
theorem pe_mkE (T : ExK X.K C) (iC : W.findIn X.K (.ref C) "__init__" = some (some (.ref fI))) (tI : W.typeIn X.K (.ref fI) = some (.type "function")) (F : FnOk X.prog X.w X.K X.mg X.base CX k fI fd ps sp)
    (hr : Room (k + 1) X.A) (hb : Binds X.K fd ps []) (hx : Passes CX X (fun _ _ _ => False)) (hg : Gl X x) (hm : X.mg x = some (.ref C)) (ha : PA X (e :: es) ta)
    (hdb : (x == ("__debug__" : Str)) = false := by decide) (he : starEach (e :: es) X.env = (false, eval e X.env) :: starEach es X.env := by rfl) (hpl : (backTo pos (starEach es X.env)).any (·.1) = false := by rfl) :
    PE X (.Call (.Name x p) (e :: es) [] pos) (tMkE C sp ta) := by
  refine ⟨fun pins s σ H Q I h => wpAny_Call_Name_kw (ld_glob I hg hm ?_ hdb)⟩
  exact W.callWith_K (h₀ := X.base) I.ok.mod.kin T.oex.kC (thn (ha.run pos pins s σ H _ I h) fun us s1 ⟨vs, H1, I1, r1, hz, q1⟩ => ⟨I1.kIn, made_run T iC tI F hr hb hx I1 r1 hz q1⟩) he hpl
/-- C() as a value -/
theorem pe_mkE0 (T : ExK X.K C) (iC : W.findIn X.K (.ref C) "__init__" = some (some (.ref fI))) (tI : W.typeIn X.K (.ref fI) = some (.type "function")) (F : FnOk X.prog X.w X.K X.mg X.base CX k fI fd ps sp)
    (hr : Room (k + 1) X.A) (hb : Binds X.K fd ps []) (hx : Passes CX X (fun _ _ _ => False)) (hg : Gl X x) (hm : X.mg x = some (.ref C)) (hdb : (x == ("__debug__" : Str)) = false := by decide) :
    PE X (.Call (.Name x p) [] [] pos) (tMkE C sp tNil) :=
  ⟨fun pins s σ H Q I h => wpAny_Call_Name_kw (ld_glob I hg hm (W.callWith_K0 I.kIn T.oex.kC (made_run (us := []) T iC tI F hr hb hx I .nil h.1 h.2)) hdb)⟩
/-- e.f, e an exception that is held, f one of its fields -/
def tXat (K : W.Frag) (f : Str) (te : TE) : TE := fun σ H Q => te σ H fun x H1 => ∃ (a C d : Addr) (fs : List (Str × V)) (v : V), x = .ref a ∧ ExK K C ∧ W.findIn K (.ref C) f = some none ∧
  H1 a = some (exo a C (some d)) ∧ H1 d = some (exd d fs) ∧ fs.lookup f = some v ∧ Q v H1
theorem pe_xat (he : PE X e te) (hb : attributeBase e f X.env (eval e X.env) = eval e X.env := by rfl) : PE X (.Attribute e f pos) (tXat X.K f te) := by
  refine ⟨fun pins s σ H Q I h => attr_of hb (thn (he.run pins s σ H _ I h) fun u s1 hh => ?_)⟩
  obtain ⟨y, H1, I1, ry, a, C, d, fs, v, ey, T, hno, ea, ed, hv, q⟩ := hh
  subst ey
  have ry : u = Value.ref a := ry
  subst ry
  obtain ⟨t1, ha⟩ := exo_at I1.hok ea
  obtain ⟨mA, hns, rel⟩ := exd_at I1.hok ed
  obtain ⟨od, ho, hl⟩ := lookIn_ns hns
  obtain ⟨w, hw, rw'⟩ := RelO.some_of (v := v) (o := mA f) (by rw [← hv]; exact rel f)
  exact HandSPX.exc_get (C := C) (od := some od) I1.kIn ⟨ha, rfl, rfl, ho⟩ T.ga T.gg T.oex.exC (W.findObj_own T.hd hno rfl (by rw [hl, hw])) (handed_of rw') ⟨v, H1, I1.tok _, rw', q⟩
/-- isinstance(e, c), e an exception that is held -/
def rIsX (K : W.Frag) : List V → Hp → VK → Prop := fun xs H Q => ∃ (a C : Addr) (d : Option Addr) (c : V) (cv : Value) (b : Bool), xs = [.ref a, c] ∧ ExK K C ∧ H a = some (exo a C d) ∧
  (∀ dx, d = some dx → ∃ fs, H dx = some (exd dx fs)) ∧ (∀ u, RelV c u → u = cv) ∧ W.kitOne K (.ref C) cv = some b ∧ Q (.bl b) H
theorem call_isX : CallR X (.builtin "isinstance") (rIsX X.K) := by
  intro pins s σ H xs us Q I r h
  obtain ⟨a, C, d, c, cv, b, rfl, T, ea, hd, hcv, kt, q⟩ := h
  match us, r with
  | [_, _], .cons rx (.cons rt .nil) =>
    cases rx
    have ec := hcv _ rt
    subst ec
    obtain ⟨t1, ha⟩ := exo_at I.hok ea
    have Z := fun (od : Option Obj) => W.kitx_exc (x := a) (ox := { cls := .ref C, dict := d, data := .fields #[.ref t1, .none, .none, .none, .bool false, .none] }) (od := od)
      (by obtain ⟨cd, z⟩ := T.is; rw [z]; rfl) T.ga T.gg T.oex.exC T.ca T.cn T.ct T.cm
    have fin : ∀ tk, EP X pins σ Q (.bool b) { s with toks := tk } := fun tk => ⟨.bl b, H, I.tok tk, rfl, q⟩
    cases d with
    | none => exact W.kia_one (Z none) I.kIn ⟨ha, rfl, rfl, trivial⟩ kt (fun z => nomatch z) fin
    | some dx =>
      obtain ⟨fs, e2⟩ := hd dx rfl
      obtain ⟨mA, hns, rel⟩ := exd_at I.hok e2
      obtain ⟨od, ho, hl⟩ := lookIn_ns hns
      exact W.kia_one (Z (some od)) I.kIn ⟨ha, rfl, rfl, ho⟩ kt (fun z => nomatch z) fin
end
end FP
set_option Elab.async false
set_option linter.all false
set_option maxRecDepth 100000
set_option maxHeartbeats 4000000
/-! The source of all draws: what a draw, a pick, a shuffle promise. -/
namespace FP
open PySem PySem.Spec PyProof.Rows L2
def top (i : Nat) : Stmt := PySem.Challenge.pw_frameplaces_k12_errors.main.body.getD i (.Pass ⟨0, 0, 0, 0⟩)
abbrev sPen : Stmt := top 13
abbrev sDraw : Stmt := top 14
abbrev sPick : Stmt := top 15
abbrev sShuf : Stmt := top 16
abbrev sNames : Stmt := top 17
/-- the pen's dict -/
def penD (a : Addr) (t l : Int) : List (Key × V) := [(.inr "cells", .ref a), (.inr "turn", .int t), (.inr "left", .int l)]
theorem pen_cells (a : Addr) (t l : Int) : valV (penD a t l) (.inr "cells") = some (.ref a) := rfl
theorem pen_turn (a : Addr) (t l : Int) : valV (penD a t l) (.inr "turn") = some (.int t) := rfl
theorem pen_left (a : Addr) (t l : Int) : valV (penD a t l) (.inr "left") = some (.int l) := rfl
theorem put_turn (a : Addr) (t l t' : Int) : putK (penD a t l) (.inr "turn") (.int t') = penD a t' l := rfl
theorem put_left (a : Addr) (t l l' : Int) : putK (penD a t l) (.inr "left") (.int l') = penD a t l' := rfl
theorem pen_len (a : Addr) (t l : Int) : (penD a t l).length < sizeLine := by
  rw [sizeLine_eq]
  exact (by decide : 3 < 16777216)
/-- all but p stands -/
def But (p : Addr) (H H' : Hp) : Prop := ∀ b o, b ≠ p → H b = some o → H' b = some o
theorem But.refl (p : Addr) (H : Hp) : But p H H := fun _ _ _ e => e
theorem But.trans {p : Addr} {H H1 H2 : Hp} (a : But p H H1) (b : But p H1 H2) : But p H H2 := fun c o n e => b c o n (a c o n e)
theorem But.put {p : Addr} {H H' : Hp} {o : HO} (a : But p H H') : But p H (upd H' p o) := fun c u n e => by
  rw [upd_ne n]
  exact a c u n e
theorem But.new {p x : Addr} {H H' : Hp} {o : HO} (a : But p H H') (hx : H' x = none) : But p H (upd H' x o) := fun c u n e => by
  rw [upd_ne (ne_of_none (a c u n e) hx)]
  exact a c u n e
/-- a pen at p, over the cells at a, in its state t, l -/
structure PenAt (H : Hp) (p a : Addr) (ns : List Int) (t l : Int) : Prop where
  p : H p = some (.dK (penD a t l))
  a : H a = some (.lst (ns.map V.int))
  n : ns.length ≤ 63
  t0 : 0 ≤ t
  l0 : 0 ≤ l
theorem PenAt.ne {H : Hp} {p a : Addr} {ns : List Int} {t l : Int} (h : PenAt H p a ns t l) : a ≠ p := ne_of h.a h.p (by intro z; cases z)
theorem PenAt.new {H : Hp} {p a x : Addr} {ns : List Int} {t l : Int} {o : HO} (h : PenAt H p a ns t l) (hx : H x = none) : PenAt (upd H x o) p a ns t l :=
  ⟨(upd_ne (ne_of_none h.p hx)).trans h.p, (upd_ne (ne_of_none h.a hx)).trans h.a, h.n, h.t0, h.l0⟩
theorem PenAt.put {H : Hp} {p a : Addr} {ns : List Int} {t l t' l' : Int} (h : PenAt H p a ns t l) (h1 : 0 ≤ t') (h2 : 0 ≤ l') : PenAt (upd H p (.dK (penD a t' l'))) p a ns t' l' :=
  ⟨upd_same, (upd_ne h.ne).trans h.a, h.n, h1, h2⟩
/-- a draw by a positive span: some number below it -/
def spDraw : Sp := fun vs H Q _ => ∃ (p a : Addr) (ns : List Int) (t l m : Int), vs = [.ref p, .int m] ∧ PenAt H p a ns t l ∧ t ≤ 1000000 ∧ 0 < m ∧ m.natAbs < 2 ^ 1000 ∧
  ∀ (r t' l' : Int) (H' : Hp), 0 ≤ r → r < m → t ≤ t' → t' ≤ t + 1 → But p H H' → PenAt H' p a ns t' l' → Q (.int r) H'
structure Blt (mg : Str → Option Value) : Prop where
  int : mg "int" = none
  len : mg "len" = none
  abs : mg "abs" = none
  list : mg "list" = none
theorem ints_dp (K : W.Frag) (H : Hp) : ∀ ns : List Int, DpAll K H (ns.map V.int) (ns.map PyData.int)
  | [] => .nil
  | n :: r => .cons (.int n) (ints_dp K H r)
theorem ints_shaped (ns : List Int) : SeqAt.shaped (.list (ns.map PyData.int)) = true := W.shaped_ints ns
theorem PenAt.left {H : Hp} {p a : Addr} {ns : List Int} {t l : Int} (h : PenAt H p a ns t l) : DGet H p (.str "left") (some (.int l)) := DGet.k (k := .inr "left") h.p
theorem PenAt.turn {H : Hp} {p a : Addr} {ns : List Int} {t l : Int} (h : PenAt H p a ns t l) : DGet H p (.str "turn") (some (.int t)) := DGet.k (k := .inr "turn") h.p
theorem PenAt.cells {H : Hp} {p a : Addr} {ns : List Int} {t l : Int} (h : PenAt H p a ns t l) : DGet H p (.str "cells") (some (.ref a)) := DGet.k (k := .inr "cells") h.p
theorem PenAt.putL {H : Hp} {p a : Addr} {ns : List Int} {t l : Int} (h : PenAt H p a ns t l) (l' : Int) : DPut H p (.str "left") (.int l') (upd H p (.dK (penD a t l'))) := DPut.k (k := .inr "left") h.p (pen_len a t l)
theorem PenAt.putT {H : Hp} {p a : Addr} {ns : List Int} {t l : Int} (h : PenAt H p a ns t l) (t' : Int) : DPut H p (.str "turn") (.int t') (upd H p (.dK (penD a t' l))) := DPut.k (k := .inr "turn") h.p (pen_len a t l)
section
variable {P : Program} {w : World} {K : W.Frag} {mg : Str → Option Value} {base : Heap}
theorem scD : FnScope ["_law_pen", "_law_span", "_law_digit", "_law_turn", "_law_cell", "_law_mixed"] ["_law_pen", "_law_span"] (defScope sDraw) := ⟨rfl, rfl, rfl, by decide +kernel, rfl, by decide +kernel, by decide +kernel⟩
theorem ok_draw {f : Addr} {fd : FuncData} (F : Fun K "_law_draw" "_law_draw" sDraw f fd) (B : Blt mg) : FnOk P w K mg base CX0 1 f fd ["_law_pen", "_law_span"] spDraw := by
  refine F.ok scD (fun vs H Q E h => ?_) (fun cdv A outer s H vs Q E hr h => ?_)
  · obtain ⟨p, a, ns, t, l, m, rfl, _⟩ := h
    rfl
  obtain ⟨p, a, ns, t, l, m, rfl, PA0, ht, hm, hmb, k⟩ := h
  have hu := hu_of hr
  refine ⟨_, pss_cons (ps_if (pt_cmpR op_gt (pe_dget hu (pv 0) pe_str (fun _ _ => rfl)) pe_int (nomark _))
      (pss_cons (ps_set (i := 2) scD.nd rfl (.inl rfl) (pe_op op_mod (pe_callTy call_int1 (by rfl) B.int (by decide +kernel) (pa_cons (pe_dget hu (pv 0) pe_str (fun _ _ => rfl)) pa_nil)) (pv 1)))
        (pss_cons (ps_dput hu (pv 0) pe_str (pe_op op_fdivW (pe_dget hu (pv 0) pe_str (fun _ _ => rfl)) (pv 1)) rfl) (pss_one (ps_ret (pv 2))))) pss_nil)
    (pss_cons (ps_set (i := 3) scD.nd rfl (.inl rfl) (pe_dget hu (pv 0) pe_str (fun _ _ => rfl)))
    (pss_cons (ps_dput hu (pv 0) pe_str (pe_op op_add (pv 3) pe_int) rfl)
    (pss_cons (ps_set (i := 4) scD.nd rfl (.inl rfl) (pe_op op_add (pe_op op_mul pe_int (pv 3)) pe_int))
    (pss_cons (ps_if (pt_cmpR (op_neD hr.units) (pe_dget hu (pv 0) pe_str (fun _ _ => rfl)) (pe_lst pa_nil) (nomark _))
      (pss_one (ps_set (i := 4) scD.nd rfl (.inl rfl) (pe_ix ix_list (pe_dget hu (pv 0) pe_str (fun _ _ => rfl))
        (pe_op op_mod (pe_callTy call_int1 (by rfl) B.int (by decide +kernel) (pa_cons (pv 3) pa_nil)) (pe_callB call_len_seq (by rfl) B.len boot_len (pa_cons (pe_dget hu (pv 0) pe_str (fun _ _ => rfl)) pa_nil))) (fun _ _ => rfl)))) pss_nil)
    (pss_cons (ps_if (PW.pt (pw_and (pt_cmpR op_lt (pv 3) (pe_callB call_len_seq (by rfl) B.len boot_len (pa_cons (pe_dget hu (pv 0) pe_str (fun _ _ => rfl)) pa_nil)) (nomark _))
        (pw_and1 (pt_cmpR op_ge (pe_callB call_abs (by rfl) B.abs (by decide +kernel) (pa_cons (pv 4) pa_nil)) (pe_op op_pow pe_int pe_int) (nomark _)))))
      (pss_cons (ps_dput hu (pv 0) pe_str (pe_op op_fdivW (pe_op op_sub (pe_callB call_abs (by rfl) B.abs (by decide +kernel) (pa_cons (pv 4) pa_nil)) (pe_op op_pow pe_int pe_int)) (pv 1)) rfl)
        (pss_one (ps_ret (pe_op op_mod (pe_callTy call_int1 (by rfl) B.int (by decide +kernel) (pa_cons (pe_op op_sub (pe_callB call_abs (by rfl) B.abs (by decide +kernel) (pa_cons (pv 4) pa_nil)) (pe_op op_pow pe_int pe_int)) pa_nil)) (pv 1))))) pss_nil)
    (pss_cons (ps_set (i := 5) scD.nd rfl (.inl rfl) (pe_op op_mul (pe_op op_mod (pe_callTy call_int1 (by rfl) B.int (by decide +kernel) (pa_cons (pv 4) pa_nil)) pe_int) pe_int))
    (pss_cons (ps_set (i := 5) scD.nd rfl (.inl rfl) (pe_op op_mod (pe_callTy call_int1 (by rfl) B.int (by decide +kernel) (pa_cons (pe_op op_add (pe_op op_add (pv 5) (pe_op op_mul (pv 3) (pe_op op_add (pe_op op_mul (pv 3) pe_int) pe_int))) pe_int) pa_nil)) pe_int))
    (pss_cons (ps_set (i := 5) scD.nd rfl (.inl rfl) (pe_op op_mod (pe_callTy call_int1 (by rfl) B.int (by decide +kernel) (pa_cons (pe_op op_mul (pv 5) (pe_op op_add (pv 5) pe_int)) pa_nil)) pe_int))
    (pss_cons (ps_set (i := 5) scD.nd rfl (.inl rfl) (pe_op op_mod (pe_callTy call_int1 (by rfl) B.int (by decide +kernel) (pa_cons (pe_op op_add (pe_op op_add (pe_op op_mul (pv 5) (pv 5)) (pe_op op_mul pe_int (pv 5))) (pe_op op_mul pe_int (pv 3))) pa_nil)) pe_int))
    (pss_one (ps_ret (pe_op op_mod (pe_callTy call_int1 (by rfl) B.int (by decide +kernel) (pa_cons (pe_op op_fdiv (pe_op op_mod (pe_callTy call_int1 (by rfl) B.int (by decide +kernel) (pa_cons (pe_op op_mul (pv 5) (pe_op op_add (pv 5) pe_int)) pa_nil)) pe_int) pe_int) pa_nil)) (pv 1))))))))))))), ?_⟩
  -- the pen's number at hand
  refine ⟨_, rfl, p, _, rfl, PA0.left, _, _, rfl, rfl, _, rfl, ite2 (fun c => ?_) fun c => ?_⟩
  · refine ⟨_, rfl, p, _, rfl, PA0.left, .inl ⟨_, rfl, _, rfl, _, _, rfl, rfl, hm, ?_⟩⟩
    refine ⟨_, rfl, p, _, rfl, PA0.left, _, rfl, _, _, rfl, rfl, wide_div hm hmb (by decide) (by decide), _, rfl, p, _, rfl, PA0.putL _, _, rfl, ?_⟩
    exact k _ t _ _ (Int.emod_nonneg _ (by omega)) (Int.emod_lt_of_pos _ hm) (Int.le_refl _) (by omega) (But.refl p H).put (PA0.put PA0.t0 (Int.ediv_nonneg PA0.l0 (by omega)))
  have t0 := PA0.t0
  have B1 : But p H (upd H p (.dK (penD a (t + 1) l))) := (But.refl p H).put
  have PA1 : PenAt (upd H p (.dK (penD a (t + 1) l))) p a ns (t + 1) l := PA0.put (by omega) PA0.l0
  -- _law_turn, the turn told on, _law_cell
  refine ⟨_, rfl, p, _, rfl, PA0.turn, _, rfl, _, _, rfl, rfl, _, rfl, p, _, rfl, PA0.putT _, _, rfl, _, _, rfl, rfl, .inl ⟨by decide, by decide⟩, _, _, rfl, rfl, ?_⟩
  -- the bounds that products ask
  have bm : ∀ x M : Int, 0 < M → M < 18446744073709551616 → -(2 ^ 64) < x % M ∧ x % M < 2 ^ 64 := fun x M h1 h2 => by
    have := Int.emod_nonneg x (show M ≠ 0 by omega)
    have := Int.emod_lt_of_pos x h1
    omega
  have bt : -(2 ^ 64) < t ∧ t < 2 ^ 64 := by omega
  refine ⟨_, rfl, p, _, rfl, PA1.cells, Nat.zero_le _, fun q hq => ⟨_, _, .lst (SqL.of (PA1.new hq).a) (ints_dp _ _ ns), .lst (SqL.of upd_same) .nil, ints_shaped ns, rfl, _, rfl, ?_⟩⟩
  have B2 : But p H (upd (upd H p (.dK (penD a (t + 1) l))) q (.lst [])) := B1.new hq
  have PA2 := PA1.new (o := .lst []) hq
  have hlen : (ns.map V.int).length = ns.length := List.length_map ..
  refine ite2 (fun c0 => ?_) (fun c0 => ?_)
  all_goals try
    have hns : 0 < ns.length := by
      cases ns with
      | nil => exact absurd c0 (by decide)
      | cons n r => exact Nat.succ_pos _
    have hnl : (0 : Int) < (((ns.map V.int).length : Nat) : Int) := by rw [hlen]; omega
    have i0 := Int.emod_nonneg t (show (((ns.map V.int).length : Nat) : Int) ≠ 0 by omega)
    have i1 := Int.emod_lt_of_pos t hnl
    obtain ⟨j, hj⟩ : ∃ j : Nat, t % (((ns.map V.int).length : Nat) : Int) = (j : Int) := ⟨_, (Int.toNat_of_nonneg i0).symm⟩
    have hj1 : j < ns.length := by rw [hj, hlen] at i1; omega
    have it : (ns.map V.int)[j]? = some (V.int (ns[j])) := by rw [List.getElem?_map, List.getElem?_eq_getElem hj1]; rfl
    refine ⟨_, rfl, p, _, rfl, PA2.cells, _, rfl, .inl ⟨_, rfl, _, rfl, p, _, rfl, PA2.cells, a, _, rfl, .inl (SqL.of PA2.a), _, _, rfl, rfl, hnl, a, _, _, _, rfl, rfl, SqL.of PA2.a, by rw [hj]; exact atI_nat it, ?_⟩⟩
  all_goals
    -- a great number of the script fills the pen anew
    refine ⟨_, rfl, _, rfl, p, _, rfl, PA2.cells, a, _, rfl, .inl (SqL.of PA2.a), _, _, rfl, rfl, _, rfl, ite2 (fun c1 => ?_) fun c1 => ?_⟩
    all_goals try
      refine ⟨_, rfl, _, rfl, _, _, rfl, rfl, ⟨by decide, by decide, by decide⟩, _, _, rfl, rfl, _, rfl, ite2 (fun c2 => ?_) fun c2 => ?_⟩
      all_goals try
        refine ⟨_, rfl, _, rfl, _, _, rfl, rfl, ⟨by decide, by decide, by decide⟩, _, _, rfl, rfl, _, rfl, _, _, rfl, rfl, wide_div hm hmb (by decide) (by decide), _, rfl, p, _, rfl, PA2.putL _, ?_⟩
        refine ⟨_, rfl, _, rfl, _, _, rfl, rfl, ⟨by decide, by decide, by decide⟩, _, _, rfl, rfl, .inl ⟨_, rfl, _, rfl, _, _, rfl, rfl, hm, ?_⟩⟩
        exact k _ (t + 1) _ _ (Int.emod_nonneg _ (by omega)) (Int.emod_lt_of_pos _ hm) (by omega) (Int.le_refl _) B2.put (PA2.put (by omega) (Int.ediv_nonneg (Int.sub_nonneg_of_le (of_decide_eq_true c2)) (by omega)))
    all_goals
      try refine iteF ?_
      -- mixed from the cell
      refine ⟨_, rfl, .inl ⟨_, rfl, _, _, rfl, rfl, (by show (0 : Int) < 4294967087; decide), _, _, rfl, rfl, .inr ⟨by decide, by decide⟩, ?_⟩⟩
      refine ⟨_, rfl, _, rfl, _, rfl, _, _, rfl, rfl, .inr ⟨by decide, by decide⟩, _, _, rfl, rfl, _, _, rfl, rfl, .inl bt, _, _, rfl, rfl, _, _, rfl, rfl, .inl ⟨_, rfl, _, _, rfl, rfl, (by show (0 : Int) < 4294967029; decide), ?_⟩⟩
      refine ⟨_, rfl, _, rfl, _, _, rfl, rfl, _, _, rfl, rfl, .inl (bm _ _ (by decide) (by decide)), .inl ⟨_, rfl, _, _, rfl, rfl, (by show (0 : Int) < 4294966997; decide), ?_⟩⟩
      refine ⟨_, rfl, _, rfl, _, _, rfl, rfl, .inl (bm _ _ (by decide) (by decide)), _, rfl, _, _, rfl, rfl, .inl ⟨by decide, by decide⟩, _, _, rfl, rfl, _, rfl, _, _, rfl, rfl, .inl ⟨by decide, by decide⟩, _, _, rfl, rfl, .inl ⟨_, rfl, _, _, rfl, rfl, (by show (0 : Int) < 4294966981; decide), ?_⟩⟩
      refine ⟨_, rfl, _, rfl, _, _, rfl, rfl, _, _, rfl, rfl, .inl (bm _ _ (by decide) (by decide)), .inl ⟨_, rfl, _, _, rfl, rfl, (by show (0 : Int) < 4294966943; decide), _, _, rfl, rfl, ⟨by decide, by decide⟩, .inl ⟨_, rfl, _, rfl, _, _, rfl, rfl, hm, ?_⟩⟩⟩
      exact k _ (t + 1) _ _ (Int.emod_nonneg _ (by omega)) (Int.emod_lt_of_pos _ hm) (by omega) (Int.le_refl _) B2 PA2
end
end FP
set_option Elab.async false
set_option linter.all false
set_option maxRecDepth 100000
set_option maxHeartbeats 4000000
set_option exponentiation.threshold 2000
namespace FP
open PySem PySem.Spec PyProof.Rows L2
/-- a def of the module and its promise -/
structure Def (P : Program) (w : World) (K : W.Frag) (mg : Str → Option Value) (base : Heap) (x : Str) (k : Nat) (ps : List Str) (sp : Sp) : Prop where
  ex : ∃ (f : Addr) (fd : FuncData), mg x = some (.ref f) ∧ W.keepIn K (.ref f) = true ∧ Binds K fd ps [] ∧ FnOk P w K mg base CX0 k f fd ps sp
theorem strs_dp (K : W.Frag) (H : Hp) : ∀ l : List Str, DpAll K H (l.map V.str) (l.map PyData.str)
  | [] => .nil
  | n :: r => .cons (.str n) (strs_dp K H r)
theorem strs_lay : ∀ l : List Str, (∀ y ∈ l, PyData.strOk y = true) → PyData.canLayAll0 (l.map PyData.str) = true
  | [], _ => rfl
  | x :: r, h => by
    simp only [List.map_cons, PyData.canLayAll0, PyData.canLay0, h x List.mem_cons_self, strs_lay r fun y hy => h y (List.mem_cons_of_mem _ hy), Bool.and_self]
theorem strs_deep : ∀ l : List Str, PyData.depthAll (l.map PyData.str) ≤ 1
  | [] => by simp [PyData.depthAll]
  | _ :: r => by
    have := strs_deep r
    simp only [List.map_cons, PyData.depthAll, PyData.depth]
    omega
theorem strs_shaped (l : List Str) (h : ∀ y ∈ l, PyData.strOk y = true) : SeqAt.shaped (.list (l.map PyData.str)) = true := by
  have h1 := strs_lay l h
  have h2 := strs_deep l
  unfold SeqAt.shaped
  rw [Bool.and_eq_true]
  refine ⟨by simpa only [PyData.canLay0] using h1, decide_eq_true ?_⟩
  simp only [PyData.depth]
  omega
theorem perm_erase {α : Type} : ∀ {l : List α} {j : Nat} (h : j < l.length), (l[j] :: l.eraseIdx j).Perm l
  | _ :: _, 0, _ => .refl _
  | x :: r, j + 1, h => (List.Perm.swap x (r[j]'(Nat.lt_of_succ_lt_succ h)) (r.eraseIdx j)).trans ((perm_erase (l := r) (Nat.lt_of_succ_lt_succ h)).cons x)
theorem map_erase {α β : Type} (f : α → β) : ∀ (l : List α) (j : Nat), (l.map f).eraseIdx j = (l.eraseIdx j).map f
  | [], _ => rfl
  | _ :: _, 0 => rfl
  | x :: r, j + 1 => congrArg (f x :: ·) (map_erase f r j)
/-- one of the options -/
def spPick : Sp := fun vs H Q _ => ∃ (p a o : Addr) (ns : List Int) (t l : Int) (xs : List V), vs = [.ref p, .ref o] ∧ PenAt H p a ns t l ∧ t ≤ 1000000 ∧ o ≠ p ∧ H o = some (.lst xs) ∧ 0 < xs.length ∧ xs.length ≤ 1000 ∧
  ∀ (i : Nat) (v : V) (t' l' : Int) (H' : Hp), xs[i]? = some v → t ≤ t' → t' ≤ t + 1 → But p H H' → PenAt H' p a ns t' l' → Q v H'
/-- the items (texts) in some order, a new list -/
def spShuf : Sp := fun vs H Q _ => ∃ (p a o : Addr) (ns : List Int) (t l : Int) (xs : List Str), vs = [.ref p, .ref o] ∧ PenAt H p a ns t l ∧ t + xs.length ≤ 1000000 ∧ o ≠ p ∧ H o = some (.lst (xs.map V.str)) ∧ xs.length ≤ 1000 ∧ (∀ y ∈ xs, PyData.strOk y = true) ∧
  ∀ (r : Addr) (ys : List Str) (t' l' : Int) (H' : Hp), ys.Perm xs → t ≤ t' → t' ≤ t + xs.length → But p H H' → PenAt H' p a ns t' l' → H r = none → H' r = some (.lst (ys.map V.str)) → Q (.ref r) H'
section
variable {P : Program} {w : World} {K : W.Frag} {mg : Str → Option Value} {base : Heap}
theorem small_abs {n : Nat} (h : n ≤ 1000) : ((n : Nat) : Int).natAbs < 2 ^ 1000 := by
  rw [Int.natAbs_natCast]
  exact Nat.lt_of_le_of_lt h (Nat.lt_of_lt_of_le (by decide : 1000 < 2 ^ 10) (Nat.pow_le_pow_right (by decide) (by decide)))
theorem scP : FnScope ["_law_pen", "_law_options"] ["_law_pen", "_law_options"] (defScope sPick) := ⟨rfl, rfl, rfl, by decide +kernel, rfl, by decide +kernel, by decide +kernel⟩
theorem ok_pick {f : Addr} {fd : FuncData} (F : Fun K "_law_pick" "_law_pick" sPick f fd) (B : Blt mg) (D : Def P w K mg base "_law_draw" 1 ["_law_pen", "_law_span"] spDraw) : FnOk P w K mg base CX0 2 f fd ["_law_pen", "_law_options"] spPick := by
  obtain ⟨fD, fdD, gD, kD, bD, GD⟩ := D.ex
  refine F.ok scP (fun vs H Q E h => ?_) (fun cdv A outer s H vs Q E hr h => ?_)
  · obtain ⟨p, a, o, ns, t, l, xs, rfl, _⟩ := h
    rfl
  obtain ⟨p, a, o, ns, t, l, xs, rfl, PA0, ht, hne, ho, h0, h1, k⟩ := h
  refine ⟨_, pss_one (ps_ret (pe_ix ix_list (pv 1) (pe_call GD hr rfl gD kD bD .nil pass0 (pa_cons (pv 0) (pa_cons (pe_callB call_len_seq (by rfl) B.len boot_len (pa_cons (pv 1) pa_nil)) pa_nil))) (fun _ _ => rfl))), ?_⟩
  refine ⟨_, rfl, _, rfl, _, rfl, o, _, rfl, .inl (SqL.of ho), p, a, ns, t, l, _, rfl, PA0, ht, by omega, small_abs h1, fun r t' l' H' r0 r1 t1 t2 b PA1 => ?_⟩
  obtain ⟨j, rfl⟩ : ∃ j : Nat, r = (j : Int) := ⟨_, (Int.toNat_of_nonneg r0).symm⟩
  have hj : j < xs.length := by omega
  have it : xs[j]? = some xs[j] := List.getElem?_eq_getElem hj
  exact ⟨o, _, _, _, rfl, rfl, SqL.of (b o _ hne ho), atI_nat it, k j _ t' l' H' it t1 t2 b PA1⟩
theorem scS : FnScope ["_law_pen", "_law_items", "_law_rest", "_law_found"] ["_law_pen", "_law_items"] (defScope sShuf) := ⟨rfl, rfl, rfl, by decide +kernel, rfl, by decide +kernel, by decide +kernel⟩
theorem ok_shuf {f : Addr} {fd : FuncData} (F : Fun K "_law_shuffled" "_law_shuffled" sShuf f fd) (B : Blt mg) (D : Def P w K mg base "_law_draw" 1 ["_law_pen", "_law_span"] spDraw) : FnOk P w K mg base CX0 2 f fd ["_law_pen", "_law_items"] spShuf := by
  obtain ⟨fD, fdD, gD, kD, bD, GD⟩ := D.ex
  refine F.ok scS (fun vs H Q E h => ?_) (fun cdv A outer s H vs Q E hr h => ?_)
  · obtain ⟨p, a, o, ns, t, l, xs, rfl, _⟩ := h
    rfl
  obtain ⟨p, a, o, ns, t, l, xs, rfl, PA0, ht, hne, ho, h1, hok, k⟩ := h
  refine ⟨_, pss_cons (ps_par (i := 2) (j := 3) (by rfl) scS.nd rfl rfl (by decide) rfl rfl (pa_cons (pe_callTy call_list_of (by rfl) B.list (by decide +kernel) (pa_cons (pv 1) pa_nil)) (pa_cons (pe_lst pa_nil) pa_nil)) (by rfl))
    (pss_cons (ps_while PassesOwn.never (pt_cmpR (op_neD hr.units) (pv 2) (pe_lst pa_nil) (nomark _))
      (pss_one (ps_expr (pe_bm PySem.F.plainAttrs_list PySem.F.slot_list_append PySem.F.type_list_append mt_append (pv 3)
        (pa_cons (pe_bm PySem.F.plainAttrs_list PySem.F.slot_list_pop PySem.F.type_list_pop mt_popAt (pv 2)
          (pa_cons (pe_call GD hr rfl gD kD bD .nil pass0 (pa_cons (pv 0) (pa_cons (pe_callB call_len_seq (by rfl) B.len boot_len (pa_cons (pv 2) pa_nil)) pa_nil))) pa_nil)) pa_nil)))))
    (pss_one (ps_ret (pv 3)))), ?_⟩
  refine ⟨_, rfl, o, _, rfl, .inl (SqL.of ho), fun r hr0 => ⟨Nat.zero_le _, fun q hq => ⟨_, _, rfl, ?_⟩⟩⟩
  have nrp : r ≠ p := (ne_of_none PA0.p hr0).symm
  have nra : r ≠ a := (ne_of_none PA0.a hr0).symm
  have hq0 : H q = none := by
    by_cases e : q = r
    · rw [e]; exact hr0
    · rwa [upd_ne e] at hq
  have nqr : q ≠ r := fun e => by rw [e, upd_same] at hq; cases hq
  have nqp : q ≠ p := (ne_of_none PA0.p hq0).symm
  -- the invariant: what is left, what is found
  refine while_by (fun σ H' => ∃ (as bs : List Str) (t' l' : Int), σ = [some (.ref p), some (.ref o), some (.ref r), some (.ref q)] ∧ (as ++ bs).Perm xs ∧ t ≤ t' ∧ t' ≤ t + bs.length ∧ But p H H' ∧ PenAt H' p a ns t' l' ∧
      H' r = some (.lst (as.map V.str)) ∧ H' q = some (.lst (bs.map V.str)))
    (fun σ H' => match H' r with
      | some (.lst ys) => ys.length
      | _ => 0) ⟨xs, [], t, l, rfl, by simp, Int.le_refl _, by simp, ((But.refl p H).new hr0).new hq, (PA0.new hr0).new hq, (upd_ne nqr.symm).trans upd_same, upd_same⟩ ?_ ?_
  · rintro σ H' ⟨as, bs, t', l', rfl, pm, t1, t2, b, PA1, ea, eb⟩
    have hl : as.length + bs.length = xs.length := by rw [← List.length_append]; exact pm.length_eq
    refine ⟨_, rfl, Nat.zero_le _, fun z hz => ⟨_, _, .lst (SqL.of ((upd_ne (ne_of_none ea hz)).trans ea)) (strs_dp _ _ as), .lst (SqL.of upd_same) .nil, strs_shaped as fun y hy => hok y (pm.subset (List.mem_append_left _ hy)), rfl, _, rfl, ?_⟩⟩
    have PA2 := PA1.new (o := .lst []) hz
    have b2 := b.new (o := .lst []) hz
    have ea2 := (upd_ne (o := .lst []) (ne_of_none ea hz)).trans ea
    have eb2 := (upd_ne (o := .lst []) (ne_of_none eb hz)).trans eb
    have nzp : z ≠ p := (ne_of_none PA1.p hz).symm
    refine ite2 (fun c => ?_) fun c => ?_
    · have ha : 0 < as.length := by
        cases as with
        | nil => exact absurd c (by decide)
        | cons _ _ => exact Nat.succ_pos _
      have hal : (as.map V.str).length = as.length := List.length_map ..
      refine ⟨_, rfl, .inl ⟨rfl, _, SqL.of eb2⟩, _, rfl, .inl ⟨rfl, _, SqL.of ea2⟩, _, rfl, _, rfl, r, _, rfl, .inl (SqL.of ea2), p, a, ns, t', l', _, rfl, PA2, by omega, by rw [hal]; omega, by rw [hal]; exact small_abs (by omega), ?_⟩
      intro v t3 l3 H3 v0 v1 t4 t5 b3 PA3
      rw [hal] at v1
      obtain ⟨j, rfl⟩ : ∃ j : Nat, v = (j : Int) := ⟨_, (Int.toNat_of_nonneg v0).symm⟩
      have hj : j < as.length := by omega
      have ea3 := b3 r _ nrp ea2
      have eb3 := b3 q _ nqp eb2
      have it : (as.map V.str)[j]? = some (V.str as[j]) := by rw [List.getElem?_map, List.getElem?_eq_getElem hj]; rfl
      refine ⟨r, _, _, j, _, rfl, rfl, ea3, by omega, by omega, ?_, it, ?_⟩
      · rw [hal]
        have := seqIndex_of (k := (j : Int)) (n := as.length) (by omega) (by omega)
        simpa using this
      refine ⟨q, _, _, rfl, rfl, (upd_ne nqr).trans eb3, ?_, ?_⟩
      · rw [List.length_map]
        exact small1000 (by omega)
      refine ⟨⟨as.eraseIdx j, bs ++ [as[j]], t3, l3, rfl, ?_, by omega, ?_, ?_, ?_, ?_, ?_⟩, ?_⟩
      · refine List.Perm.trans ?_ pm
        have e : as.Perm (as[j] :: as.eraseIdx j) := (perm_erase hj).symm
        refine List.Perm.trans ?_ (e.append_right bs).symm
        rw [← List.append_assoc]
        exact (List.perm_append_comm (l₁ := as.eraseIdx j ++ bs) (l₂ := [as[j]])).trans (.refl _)
      · rw [List.length_append, List.length_singleton]; omega
      · intro c u n e
        rw [upd_ne (fun z => by rw [z] at e; rw [e] at hq0; cases hq0), upd_ne (fun z => by rw [z] at e; rw [e] at hr0; cases hr0)]
        exact b3 c u n (b2 c u n e)
      · have n1 : a ≠ q := fun z => by have := PA0.a; rw [z, hq0] at this; cases this
        exact ⟨(upd_ne nqp.symm).trans ((upd_ne nrp.symm).trans PA3.p), (upd_ne n1).trans ((upd_ne nra.symm).trans PA3.a), PA3.n, PA3.t0, PA3.l0⟩
      · rw [upd_ne nqr.symm, upd_same, map_erase]
      · rw [upd_same, List.map_append]
        rfl
      · show (match (upd (upd H3 r _) q _) r with | some (.lst ys) => ys.length | _ => 0) < (match H' r with | some (.lst ys) => ys.length | _ => 0)
        rw [upd_ne nqr.symm, upd_same, ea]
        show ((as.map V.str).eraseIdx j).length < (as.map V.str).length
        rw [List.length_eraseIdx_of_lt (by rw [hal]; exact hj), hal]
        omega
    · have ha : as = [] := by
        cases as with
        | nil => rfl
        | cons x r => exact absurd (by rfl) c
      subst ha
      refine ⟨_, rfl, k q bs t' l' _ ?_ t1 (by simp only [List.length_nil, Nat.zero_add] at hl; omega) b2 PA2 hq0 eb2⟩
      simpa using pm
  · intro σ H' Q1 Q2 hq ⟨v, e1, z, f⟩
    exact ⟨v, e1, z, fun l hl => let ⟨d, e, h1, h2, h3, h4, k, ek, q⟩ := f l hl; ⟨d, e, h1, h2, h3, h4, k, ek, hq _ _ q⟩⟩
end
end FP
set_option Elab.async false
set_option linter.all false
set_option maxRecDepth 100000
set_option maxHeartbeats 4000000
set_option exponentiation.threshold 2000
namespace FP
open PySem PySem.Spec PyProof.Rows L2
def twelve : List Str := ["p", "q", "a", "b", "x", "y", "low", "ends", "pointer", "sames", "callee", "abcdefghijkl"]
theorem twelve_ok : ∀ y ∈ twelve, PyData.strOk y = true := by decide +kernel
/-- some of the twelve names, in some order: a new list -/
def spNames : Sp := fun vs H Q _ => ∃ (p a : Addr) (ns : List Int) (t l m : Int), vs = [.ref p, .int m] ∧ PenAt H p a ns t l ∧ t ≤ 999000 ∧ 0 ≤ m ∧ m ≤ 12 ∧
  ∀ (r : Addr) (ys : List Str) (t' l' : Int) (H' : Hp), ys.Perm twelve → t ≤ t' → t' ≤ t + 12 → But p H H' → PenAt H' p a ns t' l' → H r = none → H' r = some (.lst ((ys.take m.toNat).map V.str)) → Q (.ref r) H'
/-- a new pen over the script -/
def spPen (K : W.Frag) : Sp := fun vs H Q _ => ∃ (o : Addr) (ns : List Int), vs = [.ref o] ∧ SqL K H o (ns.map V.int) ∧ ns.length ≤ 63 ∧
  ∀ (p a : Addr) (H' : Hp), H p = none → Same H H' → PenAt H' p a ns 0 0 → Q (.ref p) H'
section
variable {P : Program} {w : World} {K : W.Frag} {mg : Str → Option Value} {base : Heap}
theorem scN : FnScope ["_law_pen", "_law_many", "_law_found"] ["_law_pen", "_law_many"] (defScope sNames) := ⟨rfl, rfl, rfl, by decide +kernel, rfl, by decide +kernel, by decide +kernel⟩
theorem cut_take (xs : List V) (m : Int) (h : 0 ≤ m) : cutV xs none (some m) = xs.take m.toNat := by
  have e : HT.sIx xs.length 0 none = 0 := rfl
  unfold cutV
  rw [e, List.drop_zero, Nat.sub_zero]
  obtain ⟨n, rfl⟩ : ∃ n : Nat, m = (n : Int) := ⟨_, (Int.toNat_of_nonneg h).symm⟩
  rw [HT.sIx_nat, Int.toNat_natCast]
  rcases Nat.le_total n xs.length with z | z
  · rw [Nat.min_eq_left z]
  · rw [Nat.min_eq_right z, List.take_length, List.take_of_length_le z]
theorem ok_names {f : Addr} {fd : FuncData} (F : Fun K "_law_new_names" "_law_new_names" sNames f fd) (D : Def P w K mg base "_law_shuffled" 2 ["_law_pen", "_law_items"] spShuf) : FnOk P w K mg base CX0 3 f fd ["_law_pen", "_law_many"] spNames := by
  obtain ⟨fD, fdD, gD, kD, bD, GD⟩ := D.ex
  refine F.ok scN (fun vs H Q E h => ?_) (fun cdv A outer s H vs Q E hr h => ?_)
  · obtain ⟨p, a, ns, t, l, m, rfl, _⟩ := h
    rfl
  obtain ⟨p, a, ns, t, l, m, rfl, PA0, ht, h0, h1, k⟩ := h
  refine ⟨_, pss_cons (ps_set (i := 2) scN.nd rfl (.inl rfl) (pe_lst (pa_cons pe_str (pa_cons pe_str (pa_cons pe_str (pa_cons pe_str (pa_cons pe_str (pa_cons pe_str (pa_cons pe_str (pa_cons pe_str (pa_cons pe_str (pa_cons pe_str (pa_cons pe_str (pa_cons pe_str pa_nil))))))))))))))
    (pss_one (ps_ret (pe_slice sl_list (pe_call GD hr rfl gD kD bD .nil pass0 (pa_cons (pv 0) (pa_cons (pv 2) pa_nil))) po_none (po_some (pv 1))))), ?_⟩
  refine ⟨(by rw [sizeLine_eq]; exact (by decide : 12 ≤ 16777216)), fun o ho => ?_⟩
  have nop : o ≠ p := (ne_of_none PA0.p ho).symm
  refine ⟨_, rfl, _, rfl, p, a, o, ns, t, l, twelve, rfl, PA0.new ho, by show t + 12 ≤ 1000000; omega, nop, upd_same, by show 12 ≤ 1000; decide, twelve_ok, ?_⟩
  intro r ys t' l' H' pm t1 t2 b PA1 hr0 er
  have nro : r ≠ o := fun z => by rw [z, upd_same] at hr0; cases hr0
  rw [upd_ne nro] at hr0
  have b0 : But p H H' := fun c u n e => b c u n ((upd_ne (ne_of_none e ho)).trans e)
  refine ⟨_, rfl, m, rfl, r, _, rfl, SqL.of er, fun z hz => ?_⟩
  rw [cut_take _ _ h0, ← List.map_take]
  have hz0 : H z = none := by
    cases e : H z with
    | none => rfl
    | some u => by_cases zp : z = p
                · rw [zp, PA1.p] at hz; cases hz
                · rw [b0 z u zp e] at hz; cases hz
  exact k z ys t' l' _ pm t1 (by have : t' ≤ t + 12 := t2; omega) (b0.new hz) (PA1.new hz) hz0 upd_same
theorem scB : FnScope ["_law_script"] ["_law_script"] (defScope sPen) := ⟨rfl, rfl, rfl, by decide +kernel, rfl, by decide +kernel, by decide +kernel⟩
theorem ok_pen {f : Addr} {fd : FuncData} (F : Fun K "_law_begun_pen" "_law_begun_pen" sPen f fd) (B : Blt mg) : FnOk P w K mg base CX0 1 f fd ["_law_script"] (spPen K) := by
  refine F.ok scB (fun vs H Q E h => ?_) (fun cdv A outer s H vs Q E hr h => ?_)
  · obtain ⟨o, ns, rfl, _⟩ := h
    rfl
  obtain ⟨o, ns, rfl, hS, hl, k⟩ := h
  refine ⟨_, pss_one (ps_ret (pe_disp (pps_cons pe_str (pe_callTy call_list_of (by rfl) B.list (by decide +kernel) (pa_cons (pe_slice sl_list (pv 0) po_none (po_some pe_int)) pa_nil)) (pps_cons pe_str pe_int (pps_cons pe_str pe_int pps_nil)))
    (by rfl) (by rfl) (fun z => by cases z) (by decide))), ?_⟩
  intro p hp
  have S1 : ∀ {b : Addr} {u : HO}, H b = some u → upd H p (.dK []) b = some u := fun {b u} e => (upd_ne (ne_of_none e hp)).trans e
  have S2 : Same H (upd H p (.dK [])) := fun b u e => S1 e
  refine ⟨_, rfl, 63, rfl, o, _, rfl, S2.seq hS, fun z hz => ⟨z, _, rfl, .inl (SqL.of upd_same), fun l hl0 => ?_⟩⟩
  have nzp : z ≠ p := fun e => by rw [e, upd_same] at hz; cases hz
  have nlz : l ≠ z := fun e => by rw [e, upd_same] at hl0; cases hl0
  rw [upd_ne nlz] at hl0
  have nlp : l ≠ p := fun e => by rw [e, upd_same] at hl0; cases hl0
  have hl1 : H l = none := by rwa [upd_ne nlp] at hl0
  have hz1 : H z = none := by rwa [upd_ne nzp] at hz
  have cut : cutV (ns.map V.int) none (some 63) = ns.map V.int := by
    rw [cut_take _ _ (by decide)]
    exact List.take_of_length_le (by rw [List.length_map]; exact hl)
  refine ⟨(upd_ne nlp.symm).trans ((upd_ne nzp.symm).trans upd_same), penD l 0 0, rfl, by show 3 ≤ 15; decide, k p l _ hp (fun b u e => ?_) ⟨upd_same, ?_, hl, Int.le_refl _, Int.le_refl _⟩⟩
  · rw [upd_ne (ne_of_none e hp), upd_ne (ne_of_none e hl1), upd_ne (ne_of_none e hz1), upd_ne (ne_of_none e hp)]
    exact e
  · rw [upd_ne nlp, upd_same, cut]
end
end FP
set_option Elab.async false
set_option linter.all false
set_option maxRecDepth 100000
set_option maxHeartbeats 4000000
set_option exponentiation.threshold 2000
namespace FP
open PySem PySem.Spec PyProof.Rows L2 NdefX
/-- what the written part says of a def that says super(): its function, its code's record, its class's cell -/
structure SupDef (K : W.Frag) (mg : Str → Option Value) (qual : Str) (st : Stmt) (C f : Addr) (fd : FuncData) : Prop where
  ex : ∃ (cc cda : Addr) (dV kV doc pm ct oc cl : Value) (an od cld od2 : Option Addr) (osl csl sl2 : Array (Option Value)) (c2 : Value) (vs : Array Value) (tf : Tok),
    fd = W.fnX "__init__" qual (defArgs st) (defBody st) (defScope st) [("__class__", cc)] dV kV doc pm an (.ref cda) ct ∧ K.lookup f = some ⟨oc, od, .func fd, osl⟩ ∧ W.codeIn K (.ref cda) qual = true ∧
    K.lookup cc = some ⟨cl, cld, .cell (some (.ref C)), csl⟩ ∧ K.lookup cda = some ⟨c2, od2, .fields vs, sl2⟩ ∧ vs[2]? = some (.str "/claim/cut.py" tf)
  mg : mg "super" = none
abbrev PP : Program := PySem.Challenge.pw_frameplaces_k12_errors
theorem short {x y : Str} {a b : Nat} (hx : x.length ≤ a) (hy : y.length ≤ b) : (x ++ y).length ≤ a + b := by
  rw [strLen_append]
  omega
theorem line_of {x : Str} {a : Nat} (hx : x.length ≤ a) (ha : a ≤ 16777216) : x.length ≤ sizeLine := by
  rw [sizeLine_eq]
  omega
theorem int_short {i : Int} (h : i.natAbs.log2 < 1920) : (Str.ofString (toString i)).length ≤ 2000 := by
  have e := int_text_length_le (k := 1920) (by decide) h
  rw [PySem.ofString_length]
  omega
theorem pp_file : ((PP.main.file : Str) == ("/claim/cut.py" : Str)) = true := by decide +kernel
theorem pp_sup : (PP.main.scope.names.lookup ("super" : Str)).isSome = false := by decide +kernel
/-- an __init__ of one field -/
def spE (C : Addr) (f : Str) (ok : V → Prop) : Sp := fun vs H Q _ => ∃ (a : Addr) (v : V), vs = [.ref a, v] ∧ H a = some (exo a C none) ∧ ok v ∧ ∀ dx, H dx = none → dx ≠ a → Q .non (upd (upd H dx (exd dx [(f, v)])) a (exo a C (some dx)))
def okI (v : V) : Prop := ∃ i : Int, v = .int i ∧ i.natAbs.log2 < 1920
def okS (v : V) : Prop := ∃ y : Str, v = .str y ∧ (reprText y).length ≤ 2000

abbrev sBadProgram : Stmt := inClass (top 2) 0
theorem scBadProgram : NScope ["self", "line", "__class__"] ["self", "line"] ["__class__"] (defScope sBadProgram) := nscope_by (by decide +kernel)
theorem ok_BadProgram {w : World} {K : W.Frag} {mg : Str → Option Value} {base : Heap} {C f : Addr} {fd : FuncData} (S : SupDef K mg "BadProgram.__init__" sBadProgram C f fd) (T : ExK K C) (no : W.findIn K (.ref C) "line" = some none) :
    FnOk PP w K mg base CX0 1 f fd ["self", "line"] (spE C "line" okI) := by
  obtain ⟨cc, cda, dV, kV, doc, pm, ct, oc, cl, an, od, cld, od2, osl, csl, sl2, c2, vs, tf, rfl, lk, hcd, hcell, hcode, hfile⟩ := S.ex
  refine fn_sup lk hcd hcell scBadProgram (fun vs H Q E h => ?_) fun A outer s H vs Q E hr h => ?_
  · obtain ⟨a, v, rfl, _⟩ := h
    rfl
  obtain ⟨a, v, rfl, ha, ⟨i, rfl, hz⟩, k⟩ := h
  refine ⟨_, psa_sup (C := C) ⟨rfl, rfl, ⟨f, _, _, _, rfl, lk, rfl, rfl, rfl, rfl⟩, ⟨cda, _, vs, _, tf, rfl, hcode, rfl, hfile, pp_file⟩, ⟨cc, _, by rfl, hcell, rfl⟩, pp_sup, S.mg⟩ T
    (pa_cons (pe_joined (.cons pe_str (.cons (pe_fmt (pv 1)) (.cons pe_str .nil)))) pa_nil) (psa_of (pss_one (ps_ost (pv 0) (pv 1)))), ?_⟩
  refine ⟨a, rfl, ha, ?_⟩
  have z0 : (Str.empty).length ≤ 0 := Nat.le_refl _
  refine ⟨_, rfl, line_of (short z0 (b := 100) (by decide +kernel)) (by decide), _, rfl, .inr ⟨i, rfl, hz, _, rfl, line_of (short (short z0 (b := 100) (by decide +kernel)) (int_short hz)) (by decide), _, rfl, line_of (short (short (short z0 (b := 100) (by decide +kernel)) (int_short hz)) (b := 100) (by decide +kernel)) (by decide), by show 1 ≤ 1000; decide, ha, _, rfl, _, rfl, a, C, rfl, T.oex, no, .inl ⟨ha, fun dx n ne => k dx n ne⟩⟩⟩

abbrev sNoCell : Stmt := inClass (top 3) 0
theorem scNoCell : NScope ["self", "name", "__class__"] ["self", "name"] ["__class__"] (defScope sNoCell) := nscope_by (by decide +kernel)
theorem ok_NoCell {w : World} {K : W.Frag} {mg : Str → Option Value} {base : Heap} {C f : Addr} {fd : FuncData} (S : SupDef K mg "NoCell.__init__" sNoCell C f fd) (T : ExK K C) (no : W.findIn K (.ref C) "name" = some none) :
    FnOk PP w K mg base CX0 1 f fd ["self", "name"] (spE C "name" okS) := by
  obtain ⟨cc, cda, dV, kV, doc, pm, ct, oc, cl, an, od, cld, od2, osl, csl, sl2, c2, vs, tf, rfl, lk, hcd, hcell, hcode, hfile⟩ := S.ex
  refine fn_sup lk hcd hcell scNoCell (fun vs H Q E h => ?_) fun A outer s H vs Q E hr h => ?_
  · obtain ⟨a, v, rfl, _⟩ := h
    rfl
  obtain ⟨a, v, rfl, ha, ⟨i, rfl, hz⟩, k⟩ := h
  refine ⟨_, psa_sup (C := C) ⟨rfl, rfl, ⟨f, _, _, _, rfl, lk, rfl, rfl, rfl, rfl⟩, ⟨cda, _, vs, _, tf, rfl, hcode, rfl, hfile, pp_file⟩, ⟨cc, _, by rfl, hcell, rfl⟩, pp_sup, S.mg⟩ T
    (pa_cons (pe_joined (.cons pe_str (.cons (pe_fmtR (pv 1)) .nil))) pa_nil) (psa_of (pss_one (ps_ost (pv 0) (pv 1)))), ?_⟩
  refine ⟨a, rfl, ha, ?_⟩
  have z0 : (Str.empty).length ≤ 0 := Nat.le_refl _
  refine ⟨_, rfl, line_of (short z0 (b := 100) (by decide +kernel)) (by decide), _, rfl, .inl ⟨i, rfl, (line_of hz (by decide)), _, rfl, line_of (short (short z0 (b := 100) (by decide +kernel)) hz) (by decide), by show 1 ≤ 1000; decide, ha, _, rfl, _, rfl, a, C, rfl, T.oex, no, .inl ⟨ha, fun dx n ne => k dx n ne⟩⟩⟩

abbrev sBadLot : Stmt := inClass (top 4) 0
theorem scBadLot : NScope ["self", "index", "__class__"] ["self", "index"] ["__class__"] (defScope sBadLot) := nscope_by (by decide +kernel)
theorem ok_BadLot {w : World} {K : W.Frag} {mg : Str → Option Value} {base : Heap} {C f : Addr} {fd : FuncData} (S : SupDef K mg "BadLot.__init__" sBadLot C f fd) (T : ExK K C) (no : W.findIn K (.ref C) "index" = some none) :
    FnOk PP w K mg base CX0 1 f fd ["self", "index"] (spE C "index" okI) := by
  obtain ⟨cc, cda, dV, kV, doc, pm, ct, oc, cl, an, od, cld, od2, osl, csl, sl2, c2, vs, tf, rfl, lk, hcd, hcell, hcode, hfile⟩ := S.ex
  refine fn_sup lk hcd hcell scBadLot (fun vs H Q E h => ?_) fun A outer s H vs Q E hr h => ?_
  · obtain ⟨a, v, rfl, _⟩ := h
    rfl
  obtain ⟨a, v, rfl, ha, ⟨i, rfl, hz⟩, k⟩ := h
  refine ⟨_, psa_sup (C := C) ⟨rfl, rfl, ⟨f, _, _, _, rfl, lk, rfl, rfl, rfl, rfl⟩, ⟨cda, _, vs, _, tf, rfl, hcode, rfl, hfile, pp_file⟩, ⟨cc, _, by rfl, hcell, rfl⟩, pp_sup, S.mg⟩ T
    (pa_cons (pe_joined (.cons pe_str (.cons (pe_fmt (pv 1)) (.cons pe_str .nil)))) pa_nil) (psa_of (pss_one (ps_ost (pv 0) (pv 1)))), ?_⟩
  refine ⟨a, rfl, ha, ?_⟩
  have z0 : (Str.empty).length ≤ 0 := Nat.le_refl _
  refine ⟨_, rfl, line_of (short z0 (b := 100) (by decide +kernel)) (by decide), _, rfl, .inr ⟨i, rfl, hz, _, rfl, line_of (short (short z0 (b := 100) (by decide +kernel)) (int_short hz)) (by decide), _, rfl, line_of (short (short (short z0 (b := 100) (by decide +kernel)) (int_short hz)) (b := 100) (by decide +kernel)) (by decide), by show 1 ≤ 1000; decide, ha, _, rfl, _, rfl, a, C, rfl, T.oex, no, .inl ⟨ha, fun dx n ne => k dx n ne⟩⟩⟩

abbrev sOutermost : Stmt := inClass (top 5) 0
theorem scOutermost : NScope ["self", "name", "__class__"] ["self", "name"] ["__class__"] (defScope sOutermost) := nscope_by (by decide +kernel)
theorem ok_Outermost {w : World} {K : W.Frag} {mg : Str → Option Value} {base : Heap} {C f : Addr} {fd : FuncData} (S : SupDef K mg "Outermost.__init__" sOutermost C f fd) (T : ExK K C) (no : W.findIn K (.ref C) "name" = some none) :
    FnOk PP w K mg base CX0 1 f fd ["self", "name"] (spE C "name" okS) := by
  obtain ⟨cc, cda, dV, kV, doc, pm, ct, oc, cl, an, od, cld, od2, osl, csl, sl2, c2, vs, tf, rfl, lk, hcd, hcell, hcode, hfile⟩ := S.ex
  refine fn_sup lk hcd hcell scOutermost (fun vs H Q E h => ?_) fun A outer s H vs Q E hr h => ?_
  · obtain ⟨a, v, rfl, _⟩ := h
    rfl
  obtain ⟨a, v, rfl, ha, ⟨i, rfl, hz⟩, k⟩ := h
  refine ⟨_, psa_sup (C := C) ⟨rfl, rfl, ⟨f, _, _, _, rfl, lk, rfl, rfl, rfl, rfl⟩, ⟨cda, _, vs, _, tf, rfl, hcode, rfl, hfile, pp_file⟩, ⟨cc, _, by rfl, hcell, rfl⟩, pp_sup, S.mg⟩ T
    (pa_cons (pe_joined (.cons pe_str (.cons (pe_fmtR (pv 1)) (.cons pe_str .nil)))) pa_nil) (psa_of (pss_one (ps_ost (pv 0) (pv 1)))), ?_⟩
  refine ⟨a, rfl, ha, ?_⟩
  have z0 : (Str.empty).length ≤ 0 := Nat.le_refl _
  refine ⟨_, rfl, line_of (short z0 (b := 100) (by decide +kernel)) (by decide), _, rfl, .inl ⟨i, rfl, (line_of hz (by decide)), _, rfl, line_of (short (short z0 (b := 100) (by decide +kernel)) hz) (by decide), _, rfl, line_of (short (short (short z0 (b := 100) (by decide +kernel)) hz) (b := 100) (by decide +kernel)) (by decide), by show 1 ≤ 1000; decide, ha, _, rfl, _, rfl, a, C, rfl, T.oex, no, .inl ⟨ha, fun dx n ne => k dx n ne⟩⟩⟩

abbrev sBadName : Stmt := inClass (top 6) 0
theorem scBadName : NScope ["self", "name", "__class__"] ["self", "name"] ["__class__"] (defScope sBadName) := nscope_by (by decide +kernel)
theorem ok_BadName {w : World} {K : W.Frag} {mg : Str → Option Value} {base : Heap} {C f : Addr} {fd : FuncData} (S : SupDef K mg "BadName.__init__" sBadName C f fd) (T : ExK K C) (no : W.findIn K (.ref C) "name" = some none) :
    FnOk PP w K mg base CX0 1 f fd ["self", "name"] (spE C "name" okS) := by
  obtain ⟨cc, cda, dV, kV, doc, pm, ct, oc, cl, an, od, cld, od2, osl, csl, sl2, c2, vs, tf, rfl, lk, hcd, hcell, hcode, hfile⟩ := S.ex
  refine fn_sup lk hcd hcell scBadName (fun vs H Q E h => ?_) fun A outer s H vs Q E hr h => ?_
  · obtain ⟨a, v, rfl, _⟩ := h
    rfl
  obtain ⟨a, v, rfl, ha, ⟨i, rfl, hz⟩, k⟩ := h
  refine ⟨_, psa_sup (C := C) ⟨rfl, rfl, ⟨f, _, _, _, rfl, lk, rfl, rfl, rfl, rfl⟩, ⟨cda, _, vs, _, tf, rfl, hcode, rfl, hfile, pp_file⟩, ⟨cc, _, by rfl, hcell, rfl⟩, pp_sup, S.mg⟩ T
    (pa_cons (pe_joined (.cons (pe_fmtR (pv 1)) (.cons pe_str .nil))) pa_nil) (psa_of (pss_one (ps_ost (pv 0) (pv 1)))), ?_⟩
  refine ⟨a, rfl, ha, ?_⟩
  have z0 : (Str.empty).length ≤ 0 := Nat.le_refl _
  refine ⟨_, rfl, .inl ⟨i, rfl, (line_of hz (by decide)), _, rfl, line_of (short z0 hz) (by decide), _, rfl, line_of (short (short z0 hz) (b := 100) (by decide +kernel)) (by decide), by show 1 ≤ 1000; decide, ha, _, rfl, _, rfl, a, C, rfl, T.oex, no, .inl ⟨ha, fun dx n ne => k dx n ne⟩⟩⟩

abbrev sTaken : Stmt := inClass (top 7) 0
theorem scTaken : NScope ["self", "name", "__class__"] ["self", "name"] ["__class__"] (defScope sTaken) := nscope_by (by decide +kernel)
theorem ok_Taken {w : World} {K : W.Frag} {mg : Str → Option Value} {base : Heap} {C f : Addr} {fd : FuncData} (S : SupDef K mg "Taken.__init__" sTaken C f fd) (T : ExK K C) (no : W.findIn K (.ref C) "name" = some none) :
    FnOk PP w K mg base CX0 1 f fd ["self", "name"] (spE C "name" okS) := by
  obtain ⟨cc, cda, dV, kV, doc, pm, ct, oc, cl, an, od, cld, od2, osl, csl, sl2, c2, vs, tf, rfl, lk, hcd, hcell, hcode, hfile⟩ := S.ex
  refine fn_sup lk hcd hcell scTaken (fun vs H Q E h => ?_) fun A outer s H vs Q E hr h => ?_
  · obtain ⟨a, v, rfl, _⟩ := h
    rfl
  obtain ⟨a, v, rfl, ha, ⟨i, rfl, hz⟩, k⟩ := h
  refine ⟨_, psa_sup (C := C) ⟨rfl, rfl, ⟨f, _, _, _, rfl, lk, rfl, rfl, rfl, rfl⟩, ⟨cda, _, vs, _, tf, rfl, hcode, rfl, hfile, pp_file⟩, ⟨cc, _, by rfl, hcell, rfl⟩, pp_sup, S.mg⟩ T
    (pa_cons (pe_joined (.cons pe_str (.cons (pe_fmtR (pv 1)) (.cons pe_str .nil)))) pa_nil) (psa_of (pss_one (ps_ost (pv 0) (pv 1)))), ?_⟩
  refine ⟨a, rfl, ha, ?_⟩
  have z0 : (Str.empty).length ≤ 0 := Nat.le_refl _
  refine ⟨_, rfl, line_of (short z0 (b := 100) (by decide +kernel)) (by decide), _, rfl, .inl ⟨i, rfl, (line_of hz (by decide)), _, rfl, line_of (short (short z0 (b := 100) (by decide +kernel)) hz) (by decide), _, rfl, line_of (short (short (short z0 (b := 100) (by decide +kernel)) hz) (b := 100) (by decide +kernel)) (by decide), by show 1 ≤ 1000; decide, ha, _, rfl, _, rfl, a, C, rfl, T.oex, no, .inl ⟨ha, fun dx n ne => k dx n ne⟩⟩⟩

abbrev sNoGuard : Stmt := inClass (top 8) 0
theorem scNoGuard : NScope ["self", "name", "__class__"] ["self", "name"] ["__class__"] (defScope sNoGuard) := nscope_by (by decide +kernel)
theorem ok_NoGuard {w : World} {K : W.Frag} {mg : Str → Option Value} {base : Heap} {C f : Addr} {fd : FuncData} (S : SupDef K mg "NoGuard.__init__" sNoGuard C f fd) (T : ExK K C) (no : W.findIn K (.ref C) "name" = some none) :
    FnOk PP w K mg base CX0 1 f fd ["self", "name"] (spE C "name" okS) := by
  obtain ⟨cc, cda, dV, kV, doc, pm, ct, oc, cl, an, od, cld, od2, osl, csl, sl2, c2, vs, tf, rfl, lk, hcd, hcell, hcode, hfile⟩ := S.ex
  refine fn_sup lk hcd hcell scNoGuard (fun vs H Q E h => ?_) fun A outer s H vs Q E hr h => ?_
  · obtain ⟨a, v, rfl, _⟩ := h
    rfl
  obtain ⟨a, v, rfl, ha, ⟨i, rfl, hz⟩, k⟩ := h
  refine ⟨_, psa_sup (C := C) ⟨rfl, rfl, ⟨f, _, _, _, rfl, lk, rfl, rfl, rfl, rfl⟩, ⟨cda, _, vs, _, tf, rfl, hcode, rfl, hfile, pp_file⟩, ⟨cc, _, by rfl, hcell, rfl⟩, pp_sup, S.mg⟩ T
    (pa_cons (pe_joined (.cons pe_str (.cons (pe_fmtR (pv 1)) .nil))) pa_nil) (psa_of (pss_one (ps_ost (pv 0) (pv 1)))), ?_⟩
  refine ⟨a, rfl, ha, ?_⟩
  have z0 : (Str.empty).length ≤ 0 := Nat.le_refl _
  refine ⟨_, rfl, line_of (short z0 (b := 100) (by decide +kernel)) (by decide), _, rfl, .inl ⟨i, rfl, (line_of hz (by decide)), _, rfl, line_of (short (short z0 (b := 100) (by decide +kernel)) hz) (by decide), by show 1 ≤ 1000; decide, ha, _, rfl, _, rfl, a, C, rfl, T.oex, no, .inl ⟨ha, fun dx n ne => k dx n ne⟩⟩⟩

abbrev sNoLine : Stmt := inClass (top 10) 0
theorem scNoLine : NScope ["self", "line", "__class__"] ["self", "line"] ["__class__"] (defScope sNoLine) := nscope_by (by decide +kernel)
theorem ok_NoLine {w : World} {K : W.Frag} {mg : Str → Option Value} {base : Heap} {C f : Addr} {fd : FuncData} (S : SupDef K mg "NoLine.__init__" sNoLine C f fd) (T : ExK K C) (no : W.findIn K (.ref C) "line" = some none) :
    FnOk PP w K mg base CX0 1 f fd ["self", "line"] (spE C "line" okI) := by
  obtain ⟨cc, cda, dV, kV, doc, pm, ct, oc, cl, an, od, cld, od2, osl, csl, sl2, c2, vs, tf, rfl, lk, hcd, hcell, hcode, hfile⟩ := S.ex
  refine fn_sup lk hcd hcell scNoLine (fun vs H Q E h => ?_) fun A outer s H vs Q E hr h => ?_
  · obtain ⟨a, v, rfl, _⟩ := h
    rfl
  obtain ⟨a, v, rfl, ha, ⟨i, rfl, hz⟩, k⟩ := h
  refine ⟨_, psa_sup (C := C) ⟨rfl, rfl, ⟨f, _, _, _, rfl, lk, rfl, rfl, rfl, rfl⟩, ⟨cda, _, vs, _, tf, rfl, hcode, rfl, hfile, pp_file⟩, ⟨cc, _, by rfl, hcell, rfl⟩, pp_sup, S.mg⟩ T
    (pa_cons (pe_joined (.cons pe_str (.cons (pe_fmt (pv 1)) .nil))) pa_nil) (psa_of (pss_one (ps_ost (pv 0) (pv 1)))), ?_⟩
  refine ⟨a, rfl, ha, ?_⟩
  have z0 : (Str.empty).length ≤ 0 := Nat.le_refl _
  refine ⟨_, rfl, line_of (short z0 (b := 100) (by decide +kernel)) (by decide), _, rfl, .inr ⟨i, rfl, hz, _, rfl, line_of (short (short z0 (b := 100) (by decide +kernel)) (int_short hz)) (by decide), by show 1 ≤ 1000; decide, ha, _, rfl, _, rfl, a, C, rfl, T.oex, no, .inl ⟨ha, fun dx n ne => k dx n ne⟩⟩⟩
end FP
set_option Elab.async false
set_option linter.all false
set_option maxRecDepth 100000
set_option maxHeartbeats 4000000
set_option exponentiation.threshold 2000
namespace FP
open PySem PySem.Spec PyProof.Rows L2 NdefX
abbrev sBarred : Stmt := inClass (top 9) 0
abbrev sNothing : Stmt := inClass (top 11) 0
/-- Barred(names): the names, a list of texts, are copied -/
def spBarred (C : Addr) : Sp := fun vs H Q _ => ∃ (a n : Addr) (ys : List Str), vs = [.ref a, .ref n] ∧ H a = some (exo a C none) ∧ H n = some (.lst (ys.map V.str)) ∧ ys.length ≤ 100 ∧ (ys.map (·.length)).sum ≤ 10000 ∧
  ∀ l dx, H l = none → H dx = none → l ≠ dx → dx ≠ a → Q .non (upd (upd (upd H l (.lst (ys.map V.str))) dx (exd dx [("names", .ref l)])) a (exo a C (some dx)))
/-- NothingToUndo() -/
def spNothing (C : Addr) : Sp := fun vs H Q _ => ∃ a : Addr, vs = [.ref a] ∧ H a = some (exo a C none) ∧ Q .non H
theorem scBarred : NScope ["self", "names", "__class__", "told"] ["self", "names"] ["__class__"] (defScope sBarred) := nscope_by (by decide +kernel)
theorem scNothing : NScope ["self", "__class__"] ["self"] ["__class__"] (defScope sNothing) := nscope_by (by decide +kernel)
section
variable {w : World} {K : W.Frag} {mg : Str → Option Value} {base : Heap} {C f : Addr} {fd : FuncData}
theorem ok_Nothing (S : SupDef K mg "NothingToUndo.__init__" sNothing C f fd) (T : ExK K C) : FnOk PP w K mg base CX0 1 f fd ["self"] (spNothing C) := by
  obtain ⟨cc, cda, dV, kV, doc, pm, ct, oc, cl, an, od, cld, od2, osl, csl, sl2, c2, vs, tf, rfl, lk, hcd, hcell, hcode, hfile⟩ := S.ex
  refine fn_sup lk hcd hcell scNothing (fun vs H Q E h => ?_) fun A outer s H vs Q E hr h => ?_
  · obtain ⟨a, rfl, _⟩ := h
    rfl
  obtain ⟨a, rfl, ha, k⟩ := h
  refine ⟨_, psa_sup (C := C) ⟨rfl, rfl, ⟨f, _, _, _, rfl, lk, rfl, rfl, rfl, rfl⟩, ⟨cda, _, vs, _, tf, rfl, hcode, rfl, hfile, pp_file⟩, ⟨cc, _, by rfl, hcell, rfl⟩, pp_sup, S.mg⟩ T
    (pa_cons pe_str pa_nil) (psa_of pss_nil), ?_⟩
  exact ⟨a, rfl, ha, by show 1 ≤ 1000; decide, ha, k⟩
theorem ok_Barred (S : SupDef K mg "Barred.__init__" sBarred C f fd) (T : ExK K C) (no : W.findIn K (.ref C) "names" = some none) (gl : mg "list" = none) : FnOk PP w K mg base CX0 1 f fd ["self", "names"] (spBarred C) := by
  obtain ⟨cc, cda, dV, kV, doc, pm, ct, oc, cl, an, od, cld, od2, osl, csl, sl2, c2, vs, tf, rfl, lk, hcd, hcell, hcode, hfile⟩ := S.ex
  refine fn_sup lk hcd hcell scBarred (fun vs H Q E h => ?_) fun A outer s H vs Q E hr h => ?_
  · obtain ⟨a, n, ys, rfl, _⟩ := h
    rfl
  obtain ⟨a, n, ys, rfl, ha, hn, hl, hz, k⟩ := h
  refine ⟨_, psa_cons (ps_set (i := 3) scBarred.nd rfl (.inl rfl) (pe_join pe_str (pv 1)))
    (psa_sup (C := C) ⟨rfl, rfl, ⟨f, _, _, _, rfl, lk, rfl, rfl, rfl, rfl⟩, ⟨cda, _, vs, _, tf, rfl, hcode, rfl, hfile, pp_file⟩, ⟨cc, _, by rfl, hcell, rfl⟩, pp_sup, S.mg⟩ T
    (pa_cons (pe_joined (.cons pe_str (.cons (pe_fmt (pv 3)) (.cons pe_str .nil)))) pa_nil) (psa_of (pss_one (ps_ost (pv 0) (pe_callTy call_list_of (by rfl) gl (by decide +kernel) (pa_cons (pv 1) pa_nil)))))), ?_⟩
  have two : ((", " : Str)).length = 2 := by decide +kernel
  have hj : (Txt.join ", " ys).length ≤ 12000 := by
    have e := StrLaws.join_length_le ", " ys
    rw [two] at e
    have q : Txt.join ", " ys = Str.join ", " ys := StrLaws.glued_eq_join _ _
    rw [q]
    omega
  have z0 : (Str.empty).length ≤ 0 := Nat.le_refl _
  have nna : n ≠ a := fun z => by
    rw [z, ha] at hn
    have q := Option.some.inj hn
    cases q
  refine ⟨⟨_, rfl⟩, _, rfl, _, n, ys, rfl, rfl, .inl (SqL.of hn), by rw [two]; omega, ?_⟩
  refine ⟨a, rfl, ha, _, rfl, line_of (short z0 (b := 100) (by decide +kernel)) (by decide), _, rfl, .inl ⟨_, rfl, line_of hj (by decide), _, rfl, line_of (short (short z0 (b := 100) (by decide +kernel)) hj) (by decide), _, rfl,
    line_of (short (short (short z0 (b := 100) (by decide +kernel)) hj) (b := 100) (by decide +kernel)) (by decide), by show 1 ≤ 1000; decide, ha, ?_⟩⟩
  refine ⟨_, rfl, n, _, rfl, .inl (SqL.of hn), fun l hl0 => ⟨_, rfl, a, C, rfl, T.oex, no, .inl ⟨(upd_ne (ne_of_none ha hl0)).trans ha, fun dx hd nd => ?_⟩⟩⟩
  have nld : dx ≠ l := fun z => by rw [z, upd_same] at hd; cases hd
  rw [upd_ne nld] at hd
  exact k l dx hl0 hd nld.symm nd
end
end FP
set_option Elab.async false
set_option linter.all false
set_option maxRecDepth 100000
set_option maxHeartbeats 4000000
set_option exponentiation.threshold 2000
namespace FP
open PySem PySem.Spec PyProof.Rows L2 NdefX
theorem Same.new {H H' : Hp} {x : Addr} {o : HO} (a : Same H H') (hx : H' x = none) : Same H (upd H' x o) := fun c u e => (upd_ne (ne_of_none (a c u e) hx)).trans (a c u e)
/-- the ten classes, in the order in which the law asks for them -/
structure Txt10 (K : W.Frag) (mg : Str → Option Value) (cs : Fin 10 → Addr) (FE : Addr) : Prop where
  T : ∀ i, ExK K (cs i)
  g0 : mg "BadLot" = some (.ref (cs 0))
  g1 : mg "BadName" = some (.ref (cs 1))
  g2 : mg "BadProgram" = some (.ref (cs 2))
  g3 : mg "Barred" = some (.ref (cs 3))
  g4 : mg "NoCell" = some (.ref (cs 4))
  g5 : mg "NoGuard" = some (.ref (cs 5))
  g6 : mg "NoLine" = some (.ref (cs 6))
  g7 : mg "Taken" = some (.ref (cs 7))
  g8 : mg "NothingToUndo" = some (.ref (cs 8))
  g9 : mg "Outermost" = some (.ref (cs 9))
  gF : mg "FrameError" = some (.ref FE)
  gV : mg "ValueError" = none
  gI : mg "isinstance" = none
  gL : mg "len" = none
  kit : ∀ i j, W.kitOne K (.ref (cs i)) (.ref (cs j)) = some (decide (i = j))
  kF : ∀ i, W.kitOne K (.ref (cs i)) (.ref FE) = some true
  kV : ∀ i, W.kitOne K (.ref (cs i)) (.type "ValueError") = some true
/-- an error of the i-th class at a -/
structure ErrAt (cs : Fin 10 → Addr) (H : Hp) (a : Addr) (i : Fin 10) (d : Option Addr) : Prop where
  a : H a = some (exo a (cs i) d)
  d : ∀ dx, d = some dx → ∃ fs, H dx = some (exd dx fs)
theorem ErrAt.same {cs : Fin 10 → Addr} {H H' : Hp} {a : Addr} {i : Fin 10} {d : Option Addr} (e : ErrAt cs H a i d) (s : Same H H') : ErrAt cs H' a i d :=
  ⟨s _ _ e.a, fun dx z => let ⟨fs, q⟩ := e.d dx z; ⟨fs, s _ _ q⟩⟩
abbrev sIsOne : Stmt := top 18
def spIs (cs : Fin 10 → Addr) : Sp := fun vs H Q _ => ∃ (a : Addr) (i : Fin 10) (d : Option Addr) (own : Bool), vs = [.ref a, .bl own] ∧ ErrAt cs H a i d ∧ ∀ H', Same H H' → Q (.bl own) H'
section
variable {w : World} {K : W.Frag} {mg : Str → Option Value} {base : Heap} {cs : Fin 10 → Addr} {FE : Addr}
theorem scI1 : FnScope ["_law_e", "_law_is_own", "_law_found", "_law_is_single", "_law_one"] ["_law_e", "_law_is_own"] (defScope sIsOne) := ⟨rfl, rfl, rfl, by decide +kernel, rfl, by decide +kernel, by decide +kernel⟩
/-- the answers for the i-th class -/
def tens (i : Fin 10) : List Bool := [decide (i = 0), decide (i = 1), decide (i = 2), decide (i = 3), decide (i = 4), decide (i = 5), decide (i = 6), decide (i = 7), decide (i = 8), decide (i = 9)]
theorem tens_len (i : Fin 10) : (tens i).length = 10 := rfl
theorem tens_one : ∀ i : Fin 10, ((tens i).filter id).length = 1 := by decide
/-- isinstance(e, C), e in slot i -/
theorem ask {X : Cx} {i : Nat} {x y : Str} {C : Addr} {p1 p2 p3 pos : Pos} (hI : X.mg "isinstance" = none) (hN : X.N[i]? = some x) (hv : Vis X.env.scope x) (hd : (x == ("__debug__" : Str)) = false) (hcd : (x == ("__classdict__" : Str)) = false)
    (hy : Gl X y) (hm : X.mg y = some (.ref C)) (hyd : (y == ("__debug__" : Str)) = false) (hg : Gl X "isinstance")
    (h1 : starEach [.Name x p2, .Name y p3] X.env = (false, eval (.Name x p2) X.env) :: starEach [.Name y p3] X.env := by rfl) (h2 : (backTo pos (starEach [.Name y p3] X.env)).any (·.1) = false := by rfl)
    (h3 : starEach [.Name y p3] X.env = (false, eval (.Name y p3) X.env) :: starEach [] X.env := by rfl) :
    PE X (.Call (.Name "isinstance" p1) [.Name x p2, .Name y p3] [] pos) (tCB (rIsX X.K) (tCons (tVar i) (tCons (tC (.ref C)) tNil))) :=
  pe_callB call_isX hg hI (by decide +kernel) (pa_cons (pv i hN hv hd hcd) (pa_cons (pe_glob hy hm rfl hyd) pa_nil)) (by decide) (by decide) h1 h2
theorem ok_isOne {f : Addr} {fd : FuncData} (F : Fun K "_law_is_one" "_law_is_one" sIsOne f fd) (T : Txt10 K mg cs FE) : FnOk PP w K mg base CX0 1 f fd ["_law_e", "_law_is_own"] (spIs cs) := by
  refine F.ok scI1 (fun vs H Q E h => ?_) (fun cdv A outer s H vs Q E hr h => ?_)
  · obtain ⟨a, i, d, own, rfl, _⟩ := h
    rfl
  obtain ⟨a, i, d, own, rfl, EA, k⟩ := h
  refine ⟨_, pss_cons (ps_set (i := 2) scI1.nd rfl (.inl rfl) (pe_lst (pa_cons (ask (i := 0) T.gI rfl (.inl rfl) (by decide) (by decide) (by rfl) T.g0 (by decide) (by rfl)) (pa_cons (ask (i := 0) T.gI rfl (.inl rfl) (by decide) (by decide) (by rfl) T.g1 (by decide) (by rfl))
        (pa_cons (ask (i := 0) T.gI rfl (.inl rfl) (by decide) (by decide) (by rfl) T.g2 (by decide) (by rfl)) (pa_cons (ask (i := 0) T.gI rfl (.inl rfl) (by decide) (by decide) (by rfl) T.g3 (by decide) (by rfl)) pa_nil))))))
    (pss_cons (ps_set (i := 2) scI1.nd rfl (.inl rfl) (pe_op op_cat (pv 2) (pe_lst (pa_cons (ask (i := 0) T.gI rfl (.inl rfl) (by decide) (by decide) (by rfl) T.g4 (by decide) (by rfl)) (pa_cons (ask (i := 0) T.gI rfl (.inl rfl) (by decide) (by decide) (by rfl) T.g5 (by decide) (by rfl))
        (pa_cons (ask (i := 0) T.gI rfl (.inl rfl) (by decide) (by decide) (by rfl) T.g6 (by decide) (by rfl)) (pa_cons (ask (i := 0) T.gI rfl (.inl rfl) (by decide) (by decide) (by rfl) T.g7 (by decide) (by rfl)) pa_nil)))))))
    (pss_cons (ps_set (i := 2) scI1.nd rfl (.inl rfl) (pe_op op_cat (pv 2) (pe_lst (pa_cons (ask (i := 0) T.gI rfl (.inl rfl) (by decide) (by decide) (by rfl) T.g8 (by decide) (by rfl)) (pa_cons (ask (i := 0) T.gI rfl (.inl rfl) (by decide) (by decide) (by rfl) T.g9 (by decide) (by rfl)) pa_nil)))))
    (pss_cons (ps_set (i := 3) scI1.nd rfl (.inl rfl) (pe_cmpR op_eq (pe_callB call_len_seq (by rfl) T.gL boot_len
        (pa_cons (pe_lc (own := [("_law_one", 4)]) (g := gName 4) (by rfl) scI1.nd (pi_list (pv 2)) (blkOk_by (own := [("_law_one", 4)]) (N := ["_law_e", "_law_is_own", "_law_found", "_law_is_single", "_law_one"]) (sc := defScope sIsOne) (by decide +kernel)) (fun _ _ _ _ _ => pg_name (i := 4) scI1.nd rfl (Or.inl rfl))
          (fun _ _ _ _ _ => pts_one (pt_val (pv 4))) (fun _ _ _ _ _ => pv 4)) pa_nil)) pe_int (nomark _)))
    (pss_one (ps_ret (pe_and (pv 1) (pe_and (pv 3) (pe_and (ask (i := 0) T.gI rfl (.inl rfl) (by decide) (by decide) (by rfl) T.gF (by decide) (by rfl))
      (pe_one (pe_callB call_isX (by rfl) T.gI (by decide +kernel) (pa_cons (pv 0) (pa_cons (pe_bltn (v := .ty "ValueError") (by rfl) T.gV (by decide +kernel) rfl) pa_nil)))))))))))), ?_⟩
  have sz : ∀ n : Nat, n ≤ 1000 → n ≤ sizeLine := fun n h => by rw [sizeLine_eq]; omega
  refine ⟨_, rfl, a, cs i, d, _, _, _, rfl, T.T i, EA.a, EA.d, (fun _ r => r), T.kit i 0, _, rfl, a, cs i, d, _, _, _, rfl, T.T i, EA.a, EA.d, (fun _ r => r), T.kit i 1, _, rfl, a, cs i, d, _, _, _, rfl, T.T i, EA.a, EA.d, (fun _ r => r), T.kit i 2, _, rfl, a, cs i, d, _, _, _, rfl, T.T i, EA.a, EA.d, (fun _ r => r), T.kit i 3, sz _ (by show 4 ≤ 1000; decide), fun l1 h1 => ?_⟩
  have S1 := Same.new (o := .lst [.bl (decide (i = 0)), .bl (decide (i = 1)), .bl (decide (i = 2)), .bl (decide (i = 3))]) (Same.refl H) h1
  have E1 := EA.same S1
  refine ⟨_, rfl, _, rfl, a, cs i, d, _, _, _, rfl, T.T i, E1.a, E1.d, (fun _ r => r), T.kit i 4, _, rfl, a, cs i, d, _, _, _, rfl, T.T i, E1.a, E1.d, (fun _ r => r), T.kit i 5, _, rfl, a, cs i, d, _, _, _, rfl, T.T i, E1.a, E1.d, (fun _ r => r), T.kit i 6, _, rfl, a, cs i, d, _, _, _, rfl, T.T i, E1.a, E1.d, (fun _ r => r), T.kit i 7, sz _ (by show 4 ≤ 1000; decide), fun l2 h2 => ?_⟩
  have n12 : l1 ≠ l2 := fun z => by rw [← z, upd_same] at h2; cases h2
  refine ⟨l1, l2, _, _, rfl, rfl, (upd_ne n12).trans upd_same, upd_same, sz _ (by show 8 ≤ 1000; decide), fun l3 h3 => ?_⟩
  have S3 := Same.new (o := .lst ([.bl (decide (i = 0)), .bl (decide (i = 1)), .bl (decide (i = 2)), .bl (decide (i = 3))] ++ [.bl (decide (i = 4)), .bl (decide (i = 5)), .bl (decide (i = 6)), .bl (decide (i = 7))])) (Same.new (o := .lst [.bl (decide (i = 4)), .bl (decide (i = 5)), .bl (decide (i = 6)), .bl (decide (i = 7))]) S1 h2) h3
  have E3 := EA.same S3
  refine ⟨_, rfl, _, rfl, a, cs i, d, _, _, _, rfl, T.T i, E3.a, E3.d, (fun _ r => r), T.kit i 8, _, rfl, a, cs i, d, _, _, _, rfl, T.T i, E3.a, E3.d, (fun _ r => r), T.kit i 9, sz _ (by show 2 ≤ 1000; decide), fun l4 h4 => ?_⟩
  have n34 : l3 ≠ l4 := fun z => by rw [← z, upd_same] at h4; cases h4
  refine ⟨l3, l4, _, _, rfl, rfl, (upd_ne n34).trans upd_same, upd_same, sz _ (by show 10 ≤ 1000; decide), fun l5 h5 => ?_⟩
  have S5 := Same.new (o := .lst (([.bl (decide (i = 0)), .bl (decide (i = 1)), .bl (decide (i = 2)), .bl (decide (i = 3))] ++ [.bl (decide (i = 4)), .bl (decide (i = 5)), .bl (decide (i = 6)), .bl (decide (i = 7))]) ++ [.bl (decide (i = 8)), .bl (decide (i = 9))]))
    (Same.new (o := .lst [.bl (decide (i = 8)), .bl (decide (i = 9))]) S3 h4) h5
  generalize eH : upd (upd (upd (upd (upd H l1 _) l2 _) l3 _) l4 _) l5 _ = H5 at S5 ⊢
  have at5 : H5 l5 = some (.lst ((tens i).map V.bl)) := by rw [← eH]; exact upd_same
  -- how many of the answers are True
  refine ⟨_, rfl, l5, rfl, ⟨_, SqL.of at5⟩, fun D hD => lc_list (K := K) (a := l5) (xs := (tens i).map V.bl) (fun n H' => Same H5 H' ∧ H' D = some (.lst ((((tens i).take n).filter id).map V.bl))) ⟨Same.new (Same.refl H5) hD, upd_same⟩
    (fun n H' _ z => SqL.of (z.1 _ _ at5)) ?_ ?_⟩
  · rintro n x H' hx ⟨s1, eD⟩
    obtain ⟨b, hb, rfl⟩ : ∃ b, (tens i)[n]? = some b ∧ x = V.bl b := by
      rw [List.getElem?_map] at hx
      cases e : (tens i)[n]? with
      | none => rw [e] at hx; cases hx
      | some b => rw [e] at hx; exact ⟨b, rfl, (Option.some.inj hx).symm⟩
    have tk : (tens i).take (n + 1) = (tens i).take n ++ [b] := by rw [List.take_add_one, hb]; rfl
    refine ⟨rfl, _, rfl, b, rfl, ?_⟩
    cases b with
    | true =>
      refine iteT ⟨_, rfl, _, eD, ?_, ?_⟩
      · rw [List.length_map]
        exact small1000 (Nat.le_trans (List.length_filter_le ..) (by rw [List.length_take, tens_len]; omega))
      · refine ⟨fun c u e => ?_, ?_⟩
        · rw [upd_ne (ne_of_none e hD)]
          exact s1 c u e
        · rw [upd_same, tk, List.filter_append, List.map_append]
          rfl
    | false =>
      refine iteF ⟨s1, ?_⟩
      rw [eD, tk, List.filter_append]
      simp
  · rintro H' ⟨s1, eD⟩
    rw [List.length_map, List.take_length] at eD
    have S6 := S5.trans s1
    have E6 := EA.same S6
    refine ⟨D, _, rfl, .inl (SqL.of eD), rfl, ?_⟩
    have es : decide (V.int ((((((tens i).filter id).map V.bl).length : Nat)) : Int) = V.int 1) = true := by
      rw [List.length_map, tens_one]
      exact decide_eq_true rfl
    refine ⟨_, rfl, own, rfl, ?_⟩
    cases own with
    | false => exact iteF (k _ S6)
    | true =>
      refine iteT ⟨_, rfl, _, rfl, ?_⟩
      rw [if_pos es]
      exact ⟨_, rfl, a, cs i, d, _, _, _, rfl, T.T i, E6.a, E6.d, (fun _ r => r), T.kF i, true, rfl, iteT ⟨_, rfl, a, cs i, d, _, _, _, rfl, T.T i, E6.a, E6.d, (fun _ r => r), T.kV i, k _ S6⟩⟩
end
end FP
set_option Elab.async false
set_option linter.all false
set_option maxRecDepth 100000
set_option maxHeartbeats 4000000
set_option exponentiation.threshold 2000
namespace FP
open PySem PySem.Spec PyProof.Rows L2 NdefX
/-- the __init__ of the class at C keeps sp -/
structure Ini (P : Program) (w : World) (K : W.Frag) (mg : Str → Option Value) (base : Heap) (C : Addr) (ps : List Str) (sp : Sp) : Prop where
  ex : ∃ (fI : Addr) (fd : FuncData), W.findIn K (.ref C) "__init__" = some (some (.ref fI)) ∧ W.typeIn K (.ref fI) = some (.type "function") ∧ Binds K fd ps [] ∧ FnOk P w K mg base CX0 1 fI fd ps sp
theorem pe_new {X : Cx} {C : Addr} {ps : List Str} {sp : Sp} {x : Str} {p pos : Pos} {e : Expr} {es : List Expr} {ta : TA} (D : Ini X.prog X.w X.K X.mg X.base C ps sp) (T : ExK X.K C) (hr : Room 2 X.A) (hx : Passes CX0 X (fun _ _ _ => False)) (hg : Gl X x) (hm : X.mg x = some (.ref C)) (ha : PA X (e :: es) ta)
    (hdb : (x == ("__debug__" : Str)) = false := by decide) (he : starEach (e :: es) X.env = (false, eval e X.env) :: starEach es X.env := by rfl) (hpl : (backTo pos (starEach es X.env)).any (·.1) = false := by rfl) :
    PE X (.Call (.Name x p) (e :: es) [] pos) (tMkE C sp ta) := by
  obtain ⟨fI, fd, iC, tI, bd, ok⟩ := D.ex
  exact pe_mkE T iC tI ok hr bd hx hg hm ha hdb he hpl
theorem pe_new0 {X : Cx} {C : Addr} {ps : List Str} {sp : Sp} {x : Str} {p pos : Pos} (D : Ini X.prog X.w X.K X.mg X.base C ps sp) (T : ExK X.K C) (hr : Room 2 X.A) (hx : Passes CX0 X (fun _ _ _ => False)) (hg : Gl X x) (hm : X.mg x = some (.ref C))
    (hdb : (x == ("__debug__" : Str)) = false := by decide) : PE X (.Call (.Name x p) [] [] pos) (tMkE C sp tNil) := by
  obtain ⟨fI, fd, iC, tI, bd, ok⟩ := D.ex
  exact pe_mkE0 T iC tI ok hr bd hx hg hm hdb
/-- what the classes' __init__ promise, and that no field is an attribute of its class -/
structure Inis (w : World) (K : W.Frag) (mg : Str → Option Value) (base : Heap) (cs : Fin 10 → Addr) : Prop where
  i0 : Ini PP w K mg base (cs 0) ["self", "index"] (spE (cs 0) "index" okI)
  i1 : Ini PP w K mg base (cs 1) ["self", "name"] (spE (cs 1) "name" okS)
  i2 : Ini PP w K mg base (cs 2) ["self", "line"] (spE (cs 2) "line" okI)
  i3 : Ini PP w K mg base (cs 3) ["self", "names"] (spBarred (cs 3))
  i4 : Ini PP w K mg base (cs 4) ["self", "name"] (spE (cs 4) "name" okS)
  i5 : Ini PP w K mg base (cs 5) ["self", "name"] (spE (cs 5) "name" okS)
  i6 : Ini PP w K mg base (cs 6) ["self", "line"] (spE (cs 6) "line" okI)
  i7 : Ini PP w K mg base (cs 7) ["self", "name"] (spE (cs 7) "name" okS)
  i8 : Ini PP w K mg base (cs 8) ["self"] (spNothing (cs 8))
  i9 : Ini PP w K mg base (cs 9) ["self", "name"] (spE (cs 9) "name" okS)
structure Nos (K : W.Frag) (cs : Fin 10 → Addr) : Prop where
  n0 : W.findIn K (.ref (cs 0)) "index" = some none
  n1 : W.findIn K (.ref (cs 1)) "name" = some none
  n2 : W.findIn K (.ref (cs 2)) "line" = some none
  n3 : W.findIn K (.ref (cs 3)) "names" = some none
  n4 : W.findIn K (.ref (cs 4)) "name" = some none
  n5 : W.findIn K (.ref (cs 5)) "name" = some none
  n6 : W.findIn K (.ref (cs 6)) "line" = some none
  n7 : W.findIn K (.ref (cs 7)) "name" = some none
  n9 : W.findIn K (.ref (cs 9)) "name" = some none
theorem made1 {H : Hp} {e d : Addr} {o0 od oe : HO} (he : H e = none) (hd : upd H e o0 d = none) (nd : d ≠ e) :
    Same H (upd (upd (upd H e o0) d od) e oe) ∧ (upd (upd (upd H e o0) d od) e oe) e = some oe ∧ (upd (upd (upd H e o0) d od) e oe) d = some od := by
  rw [upd_ne nd] at hd
  refine ⟨fun c u q => ?_, upd_same, (upd_ne nd).trans upd_same⟩
  rw [upd_ne (ne_of_none q he), upd_ne (ne_of_none q hd), upd_ne (ne_of_none q he)]
  exact q
/-- Barred(..): the copied list beside -/
theorem made2 {H : Hp} {e d l : Addr} {o0 ol od oe : HO} (he : H e = none) (hl : upd H e o0 l = none) (hd : upd H e o0 d = none) (nl : l ≠ d) (nd : d ≠ e) :
    Same H (upd (upd (upd (upd H e o0) l ol) d od) e oe) ∧ (upd (upd (upd (upd H e o0) l ol) d od) e oe) e = some oe ∧ (upd (upd (upd (upd H e o0) l ol) d od) e oe) d = some od ∧ (upd (upd (upd (upd H e o0) l ol) d od) e oe) l = some ol := by
  have nle : l ≠ e := fun z => by rw [z, upd_same] at hl; cases hl
  rw [upd_ne nd] at hd
  rw [upd_ne nle] at hl
  refine ⟨fun c u q => ?_, upd_same, (upd_ne nd).trans upd_same, (upd_ne nle).trans ((upd_ne nl).trans upd_same)⟩
  rw [upd_ne (ne_of_none q he), upd_ne (ne_of_none q hd), upd_ne (ne_of_none q hl), upd_ne (ne_of_none q he)]
  exact q
/-- a row: an error of the i-th class, True, its field f, what it should be -/
structure Row (cs : Fin 10 → Addr) (H : Hp) (v : V) (i : Fin 10) (f : Str) (x due : V) (e d : Addr) : Prop where
  v : ∃ t, v = .ref t ∧ H t = some (.tup [.ref e, .bl true, x, due])
  e : H e = some (exo e (cs i) (some d))
  d : H d = some (exd d [(f, x)])
theorem Row.same {cs : Fin 10 → Addr} {H H' : Hp} {v : V} {i : Fin 10} {f : Str} {x due : V} {e d : Addr} (r : Row cs H v i f x due e d) (s : Same H H') : Row cs H' v i f x due e d :=
  ⟨let ⟨t, h1, h2⟩ := r.v; ⟨t, h1, s _ _ h2⟩, s _ _ r.e, s _ _ r.d⟩
/-- the rows of _law_made -/
structure Rows9 (cs : Fin 10 → Addr) (H : Hp) (vs : List V) (n : Int) (y : Str) (nm : Addr) (ys : List Str) : Prop where
  ex : ∃ (v0 v1 v2 v3 v4 v5 v6 v7 v8 : V) (e0 e1 e2 e3 e4 e5 e6 e7 e8 d0 d1 d2 d3 d4 d5 d6 d7 d8 l : Addr), vs = [v0, v1, v2, v3, v4, v5, v6, v7, v8] ∧
    Row cs H v0 2 "line" (.int n) (.int n) e0 d0 ∧ Row cs H v1 0 "index" (.int n) (.int n) e1 d1 ∧ Row cs H v2 6 "line" (.int n) (.int n) e2 d2 ∧
    Row cs H v3 4 "name" (.str y) (.str y) e3 d3 ∧ Row cs H v4 9 "name" (.str y) (.str y) e4 d4 ∧ Row cs H v5 1 "name" (.str y) (.str y) e5 d5 ∧ Row cs H v6 7 "name" (.str y) (.str y) e6 d6 ∧ Row cs H v7 5 "name" (.str y) (.str y) e7 d7 ∧
    Row cs H v8 3 "names" (.ref l) (.ref nm) e8 d8 ∧ H l = some (.lst (ys.map V.str))
theorem but_at {H H' : Hp} {l c : Addr} {xs : List V} {o : HO} (b : But l H H') (hl : H l = some (.lst xs)) (h : H c = some o) (ne : o ≠ .lst xs) : H' c = some o := b c o (ne_of h hl ne) h
theorem Row.but {cs : Fin 10 → Addr} {H H' : Hp} {v : V} {i : Fin 10} {f : Str} {x due : V} {e d l : Addr} {xs : List V} (r : Row cs H v i f x due e d) (b : But l H H') (hl : H l = some (.lst xs)) : Row cs H' v i f x due e d :=
  ⟨let ⟨t, h1, h2⟩ := r.v; ⟨t, h1, but_at b hl h2 (by intro z; cases z)⟩, but_at b hl r.e (by intro z; cases z), but_at b hl r.d (by intro z; cases z)⟩
theorem Txt10.kitS {K : W.Frag} {mg : Str → Option Value} {cs : Fin 10 → Addr} {FE : Addr} (T : Txt10 K mg cs FE) (i : Fin 10) : W.kitOne K (.ref (cs i)) (.ref (cs i)) = some true := by rw [T.kit, decide_eq_true rfl]
abbrev sMade : Stmt := top 19
def spMade (cs : Fin 10 → Addr) : Sp := fun vs H Q _ => ∃ (n : Int) (y : Str) (nm : Addr) (ys : List Str), vs = [.int n, .str y, .ref nm] ∧ n.natAbs.log2 < 1920 ∧ (reprText y).length ≤ 2000 ∧ H nm = some (.lst (ys.map V.str)) ∧ ys.length ≤ 100 ∧ (ys.map (·.length)).sum ≤ 10000 ∧
  ∀ (r : Addr) (vs : List V) (H' : Hp), Same H H' → H r = none → H' r = some (.lst vs) → Rows9 cs H' vs n y nm ys → Q (.ref r) H'
section
variable {w : World} {K : W.Frag} {mg : Str → Option Value} {base : Heap} {cs : Fin 10 → Addr} {FE : Addr}
theorem scM : FnScope ["_law_number", "_law_name", "_law_names", "_law_one", "_law_two", "_law_three", "_law_found"] ["_law_number", "_law_name", "_law_names"] (defScope sMade) := ⟨rfl, rfl, rfl, by decide +kernel, rfl, by decide +kernel, by decide +kernel⟩
theorem ok_made {f : Addr} {fd : FuncData} (F : Fun K "_law_made" "_law_made" sMade f fd) (T : Txt10 K mg cs FE) (I : Inis w K mg base cs) (N : Nos K cs) : FnOk PP w K mg base CX0 3 f fd ["_law_number", "_law_name", "_law_names"] (spMade cs) := by
  refine F.ok scM (fun vs H Q E h => ?_) (fun cdv A outer s H vs Q E hr h => ?_)
  · obtain ⟨n, y, nm, ys, rfl, _⟩ := h
    rfl
  obtain ⟨n, y, nm, ys, rfl, hn, hy, hnm, hl, hsum, k⟩ := h
  refine ⟨_, (pss_cons (ps_par3 (i := 3) (j := 4) (l := 5) (by rfl) scM.nd rfl rfl rfl (by decide) (by decide) (by decide) rfl rfl rfl (pa_cons (pe_new I.i2 (T.T 2) hr pass0 (by rfl) T.g2 (pa_cons (pv 0) pa_nil)) (pa_cons (pe_new I.i0 (T.T 0) hr pass0 (by rfl) T.g0 (pa_cons (pv 0) pa_nil)) (pa_cons (pe_new I.i6 (T.T 6) hr pass0 (by rfl) T.g6 (pa_cons (pv 0) pa_nil)) pa_nil))) (by rfl))
    (pss_cons (ps_set (i := 6) scM.nd rfl (.inl rfl) (pe_lst (pa_cons (pe_tup (pa_cons (pv 3) (pa_cons (ask (i := 3) T.gI rfl (.inl rfl) (by decide) (by decide) (by rfl) T.g2 (by decide) (by rfl)) (pa_cons (pe_xat (pv 3)) (pa_cons (pv 0) pa_nil))))) (pa_cons (pe_tup (pa_cons (pv 4) (pa_cons (ask (i := 4) T.gI rfl (.inl rfl) (by decide) (by decide) (by rfl) T.g0 (by decide) (by rfl)) (pa_cons (pe_xat (pv 4)) (pa_cons (pv 0) pa_nil))))) pa_nil))))
    (pss_cons (ps_expr (pe_bm PySem.F.plainAttrs_list PySem.F.slot_list_append PySem.F.type_list_append mt_append (pv 6) (pa_cons (pe_tup (pa_cons (pv 5) (pa_cons (ask (i := 5) T.gI rfl (.inl rfl) (by decide) (by decide) (by rfl) T.g6 (by decide) (by rfl)) (pa_cons (pe_xat (pv 5)) (pa_cons (pv 0) pa_nil))))) pa_nil)))
    (pss_cons (ps_par3 (i := 3) (j := 4) (l := 5) (by rfl) scM.nd rfl rfl rfl (by decide) (by decide) (by decide) rfl rfl rfl (pa_cons (pe_new I.i4 (T.T 4) hr pass0 (by rfl) T.g4 (pa_cons (pv 1) pa_nil)) (pa_cons (pe_new I.i9 (T.T 9) hr pass0 (by rfl) T.g9 (pa_cons (pv 1) pa_nil)) (pa_cons (pe_new I.i1 (T.T 1) hr pass0 (by rfl) T.g1 (pa_cons (pv 1) pa_nil)) pa_nil))) (by rfl))
    (pss_cons (ps_set (i := 6) scM.nd rfl (.inl rfl) (pe_op op_cat (pv 6) (pe_lst (pa_cons (pe_tup (pa_cons (pv 3) (pa_cons (ask (i := 3) T.gI rfl (.inl rfl) (by decide) (by decide) (by rfl) T.g4 (by decide) (by rfl)) (pa_cons (pe_xat (pv 3)) (pa_cons (pv 1) pa_nil))))) (pa_cons (pe_tup (pa_cons (pv 4) (pa_cons (ask (i := 4) T.gI rfl (.inl rfl) (by decide) (by decide) (by rfl) T.g9 (by decide) (by rfl)) (pa_cons (pe_xat (pv 4)) (pa_cons (pv 1) pa_nil))))) pa_nil)))))
    (pss_cons (ps_expr (pe_bm PySem.F.plainAttrs_list PySem.F.slot_list_append PySem.F.type_list_append mt_append (pv 6) (pa_cons (pe_tup (pa_cons (pv 5) (pa_cons (ask (i := 5) T.gI rfl (.inl rfl) (by decide) (by decide) (by rfl) T.g1 (by decide) (by rfl)) (pa_cons (pe_xat (pv 5)) (pa_cons (pv 1) pa_nil))))) pa_nil)))
    (pss_cons (ps_par3 (i := 3) (j := 4) (l := 5) (by rfl) scM.nd rfl rfl rfl (by decide) (by decide) (by decide) rfl rfl rfl (pa_cons (pe_new I.i7 (T.T 7) hr pass0 (by rfl) T.g7 (pa_cons (pv 1) pa_nil)) (pa_cons (pe_new I.i5 (T.T 5) hr pass0 (by rfl) T.g5 (pa_cons (pv 1) pa_nil)) (pa_cons (pe_new I.i3 (T.T 3) hr pass0 (by rfl) T.g3 (pa_cons (pv 2) pa_nil)) pa_nil))) (by rfl))
    (pss_cons (ps_set (i := 6) scM.nd rfl (.inl rfl) (pe_op op_cat (pv 6) (pe_lst (pa_cons (pe_tup (pa_cons (pv 3) (pa_cons (ask (i := 3) T.gI rfl (.inl rfl) (by decide) (by decide) (by rfl) T.g7 (by decide) (by rfl)) (pa_cons (pe_xat (pv 3)) (pa_cons (pv 1) pa_nil))))) (pa_cons (pe_tup (pa_cons (pv 4) (pa_cons (ask (i := 4) T.gI rfl (.inl rfl) (by decide) (by decide) (by rfl) T.g5 (by decide) (by rfl)) (pa_cons (pe_xat (pv 4)) (pa_cons (pv 1) pa_nil))))) pa_nil)))))
    (pss_one (ps_ret (pe_op op_cat (pv 6) (pe_lst (pa_cons (pe_tup (pa_cons (pv 5) (pa_cons (ask (i := 5) T.gI rfl (.inl rfl) (by decide) (by decide) (by rfl) T.g3 (by decide) (by rfl)) (pa_cons (pe_xat (pv 5)) (pa_cons (pv 2) pa_nil))))) pa_nil))))))))))))), ?_⟩
  have SH : Same H H := Same.refl H
  have sz : ∀ n : Nat, n ≤ 1000 → n ≤ sizeLine := fun n h => by rw [sizeLine_eq]; omega
  have HN := hnm
  refine ⟨_, rfl, by show 1 ≤ 1000; decide, fun e1 he1 => ⟨e1, _, rfl, upd_same, ⟨n, rfl, hn⟩, fun d1 hd1 nd1 => ⟨rfl, ?_⟩⟩⟩
  obtain ⟨S1, e1a, d1a⟩ := made1 (od := exd d1 [("line", (.int n))]) (oe := exo e1 (cs 2) (some d1)) he1 hd1 nd1
  generalize upd (upd (upd H e1 _) d1 _) e1 _ = H1a at S1 e1a d1a ⊢
  have hnm := S1 _ _ hnm
  have SH := SH.trans S1
  refine ⟨_, rfl, by show 1 ≤ 1000; decide, fun e2 he2 => ⟨e2, _, rfl, upd_same, ⟨n, rfl, hn⟩, fun d2 hd2 nd2 => ⟨rfl, ?_⟩⟩⟩
  obtain ⟨S2, e2a, d2a⟩ := made1 (od := exd d2 [("index", (.int n))]) (oe := exo e2 (cs 0) (some d2)) he2 hd2 nd2
  generalize upd (upd (upd H1a e2 _) d2 _) e2 _ = H2a at S2 e2a d2a ⊢
  have hnm := S2 _ _ hnm
  have e1a := S2 _ _ e1a
  have d1a := S2 _ _ d1a
  have SH := SH.trans S2
  refine ⟨_, rfl, by show 1 ≤ 1000; decide, fun e3 he3 => ⟨e3, _, rfl, upd_same, ⟨n, rfl, hn⟩, fun d3 hd3 nd3 => ⟨rfl, ?_⟩⟩⟩
  obtain ⟨S3, e3a, d3a⟩ := made1 (od := exd d3 [("line", (.int n))]) (oe := exo e3 (cs 6) (some d3)) he3 hd3 nd3
  generalize upd (upd (upd H2a e3 _) d3 _) e3 _ = H3a at S3 e3a d3a ⊢
  have hnm := S3 _ _ hnm
  have e1a := S3 _ _ e1a
  have d1a := S3 _ _ d1a
  have e2a := S3 _ _ e2a
  have d2a := S3 _ _ d2a
  have SH := SH.trans S3
  refine ⟨_, _, _, rfl, ?_⟩
  -- the first two rows
  refine ⟨_, rfl, _, rfl, e1, cs 2, some d1, _, _, _, rfl, T.T 2, e1a, (fun dx z => by cases z; exact ⟨_, d1a⟩), (fun _ r => r), T.kitS 2, _, rfl, e1, cs 2, d1, _, (.int n), rfl, T.T 2, N.n2, e1a, d1a, by simp [List.lookup], _, rfl, sz _ (by show 4 ≤ 1000; decide), fun t1 ht1 => ?_⟩
  generalize qt1 : upd H3a t1 _ = H1b
  have St1 : Same H3a H1b := qt1 ▸ Same.new (Same.refl H3a) ht1
  have t1a := (congrFun qt1 t1).symm.trans upd_same
  have t10 : H t1 = none := SH.free ht1
  have hnm := St1 _ _ hnm
  have e1a := St1 _ _ e1a
  have d1a := St1 _ _ d1a
  have e2a := St1 _ _ e2a
  have d2a := St1 _ _ d2a
  have e3a := St1 _ _ e3a
  have d3a := St1 _ _ d3a
  have SH := SH.trans St1
  clear qt1
  have r1 : Row cs H1b (.ref t1) 2 "line" (.int n) (.int n) e1 d1 := ⟨⟨t1, rfl, t1a⟩, e1a, d1a⟩
  refine ⟨_, rfl, _, rfl, e2, cs 0, some d2, _, _, _, rfl, T.T 0, e2a, (fun dx z => by cases z; exact ⟨_, d2a⟩), (fun _ r => r), T.kitS 0, _, rfl, e2, cs 0, d2, _, (.int n), rfl, T.T 0, N.n0, e2a, d2a, by simp [List.lookup], _, rfl, sz _ (by show 4 ≤ 1000; decide), fun t2 ht2 => ?_⟩
  generalize qt2 : upd H1b t2 _ = H2b
  have St2 : Same H1b H2b := qt2 ▸ Same.new (Same.refl H1b) ht2
  have t2a := (congrFun qt2 t2).symm.trans upd_same
  have t20 : H t2 = none := SH.free ht2
  have hnm := St2 _ _ hnm
  have e2a := St2 _ _ e2a
  have d2a := St2 _ _ d2a
  have e3a := St2 _ _ e3a
  have d3a := St2 _ _ d3a
  have r1 := r1.same St2
  have SH := SH.trans St2
  clear qt2
  have r2 : Row cs H2b (.ref t2) 0 "index" (.int n) (.int n) e2 d2 := ⟨⟨t2, rfl, t2a⟩, e2a, d2a⟩
  refine ⟨sz _ (by show 2 ≤ 1000; decide), fun f1 hf1 => ?_⟩
  generalize qf1 : upd H2b f1 _ = H3b
  have Sf1 : Same H2b H3b := qf1 ▸ Same.new (Same.refl H2b) hf1
  have f1a := (congrFun qf1 f1).symm.trans upd_same
  have f10 : H f1 = none := SH.free hf1
  have hnm := Sf1 _ _ hnm
  have e3a := Sf1 _ _ e3a
  have d3a := Sf1 _ _ d3a
  have r1 := r1.same Sf1
  have r2 := r2.same Sf1
  have SH := SH.trans Sf1
  clear qf1
  refine ⟨_, rfl, .inl ⟨rfl, _, SqL.of f1a⟩, _, rfl, _, rfl, e3, cs 6, some d3, _, _, _, rfl, T.T 6, e3a, (fun dx z => by cases z; exact ⟨_, d3a⟩), (fun _ r => r), T.kitS 6, _, rfl, e3, cs 6, d3, _, (.int n), rfl, T.T 6, N.n6, e3a, d3a, by simp [List.lookup], _, rfl, sz _ (by show 4 ≤ 1000; decide), fun t3 ht3 => ?_⟩
  generalize qt3 : upd H3b t3 _ = H4b
  have St3 : Same H3b H4b := qt3 ▸ Same.new (Same.refl H3b) ht3
  have t3a := (congrFun qt3 t3).symm.trans upd_same
  have t30 : H t3 = none := SH.free ht3
  have hnm := St3 _ _ hnm
  have e3a := St3 _ _ e3a
  have d3a := St3 _ _ d3a
  have r1 := r1.same St3
  have r2 := r2.same St3
  have f1a := St3 _ _ f1a
  have SH := SH.trans St3
  clear qt3
  have r3 : Row cs H4b (.ref t3) 6 "line" (.int n) (.int n) e3 d3 := ⟨⟨t3, rfl, t3a⟩, e3a, d3a⟩
  refine ⟨f1, _, _, rfl, rfl, f1a, small1000 (by show 2 ≤ 1000; decide), ?_⟩
  generalize q : upd H4b f1 _ = H5b
  have B : But f1 H4b H5b := q ▸ (But.refl f1 H4b).put
  have hnm := B _ _ (fun z => by have z1 := HN; rw [z, f10] at z1; cases z1) hnm
  have r1 := r1.but B f1a
  have r2 := r2.but B f1a
  have r3 := r3.but B f1a
  have SH : Same H H5b := fun c u z => B c u (fun e => by rw [e, f10] at z; cases z) (SH c u z)
  have f1a := (congrFun q f1).symm.trans upd_same
  clear q B
  refine ⟨_, rfl, by show 1 ≤ 1000; decide, fun e4 he4 => ⟨e4, _, rfl, upd_same, ⟨y, rfl, hy⟩, fun d4 hd4 nd4 => ⟨rfl, ?_⟩⟩⟩
  obtain ⟨S4, e4a, d4a⟩ := made1 (od := exd d4 [("name", (.str y))]) (oe := exo e4 (cs 4) (some d4)) he4 hd4 nd4
  generalize upd (upd (upd H5b e4 _) d4 _) e4 _ = H4a at S4 e4a d4a ⊢
  have hnm := S4 _ _ hnm
  have r1 := r1.same S4
  have r2 := r2.same S4
  have r3 := r3.same S4
  have f1a := S4 _ _ f1a
  have SH := SH.trans S4
  refine ⟨_, rfl, by show 1 ≤ 1000; decide, fun e5 he5 => ⟨e5, _, rfl, upd_same, ⟨y, rfl, hy⟩, fun d5 hd5 nd5 => ⟨rfl, ?_⟩⟩⟩
  obtain ⟨S5, e5a, d5a⟩ := made1 (od := exd d5 [("name", (.str y))]) (oe := exo e5 (cs 9) (some d5)) he5 hd5 nd5
  generalize upd (upd (upd H4a e5 _) d5 _) e5 _ = H5a at S5 e5a d5a ⊢
  have hnm := S5 _ _ hnm
  have r1 := r1.same S5
  have r2 := r2.same S5
  have r3 := r3.same S5
  have f1a := S5 _ _ f1a
  have e4a := S5 _ _ e4a
  have d4a := S5 _ _ d4a
  have SH := SH.trans S5
  refine ⟨_, rfl, by show 1 ≤ 1000; decide, fun e6 he6 => ⟨e6, _, rfl, upd_same, ⟨y, rfl, hy⟩, fun d6 hd6 nd6 => ⟨rfl, ?_⟩⟩⟩
  obtain ⟨S6, e6a, d6a⟩ := made1 (od := exd d6 [("name", (.str y))]) (oe := exo e6 (cs 1) (some d6)) he6 hd6 nd6
  generalize upd (upd (upd H5a e6 _) d6 _) e6 _ = H6a at S6 e6a d6a ⊢
  have hnm := S6 _ _ hnm
  have r1 := r1.same S6
  have r2 := r2.same S6
  have r3 := r3.same S6
  have f1a := S6 _ _ f1a
  have e4a := S6 _ _ e4a
  have d4a := S6 _ _ d4a
  have e5a := S6 _ _ e5a
  have d5a := S6 _ _ d5a
  have SH := SH.trans S6
  refine ⟨_, _, _, rfl, ?_⟩
  refine ⟨_, rfl, _, rfl, _, rfl, e4, cs 4, some d4, _, _, _, rfl, T.T 4, e4a, (fun dx z => by cases z; exact ⟨_, d4a⟩), (fun _ r => r), T.kitS 4, _, rfl, e4, cs 4, d4, _, (.str y), rfl, T.T 4, N.n4, e4a, d4a, by simp [List.lookup], _, rfl, sz _ (by show 4 ≤ 1000; decide), fun t4 ht4 => ?_⟩
  generalize qt4 : upd H6a t4 _ = H6b
  have St4 : Same H6a H6b := qt4 ▸ Same.new (Same.refl H6a) ht4
  have t4a := (congrFun qt4 t4).symm.trans upd_same
  have t40 : H t4 = none := SH.free ht4
  have hnm := St4 _ _ hnm
  have r1 := r1.same St4
  have r2 := r2.same St4
  have r3 := r3.same St4
  have f1a := St4 _ _ f1a
  have e4a := St4 _ _ e4a
  have d4a := St4 _ _ d4a
  have e5a := St4 _ _ e5a
  have d5a := St4 _ _ d5a
  have e6a := St4 _ _ e6a
  have d6a := St4 _ _ d6a
  have SH := SH.trans St4
  clear qt4
  have r4 : Row cs H6b (.ref t4) 4 "name" (.str y) (.str y) e4 d4 := ⟨⟨t4, rfl, t4a⟩, e4a, d4a⟩
  refine ⟨_, rfl, _, rfl, e5, cs 9, some d5, _, _, _, rfl, T.T 9, e5a, (fun dx z => by cases z; exact ⟨_, d5a⟩), (fun _ r => r), T.kitS 9, _, rfl, e5, cs 9, d5, _, (.str y), rfl, T.T 9, N.n9, e5a, d5a, by simp [List.lookup], _, rfl, sz _ (by show 4 ≤ 1000; decide), fun t5 ht5 => ?_⟩
  generalize qt5 : upd H6b t5 _ = H7b
  have St5 : Same H6b H7b := qt5 ▸ Same.new (Same.refl H6b) ht5
  have t5a := (congrFun qt5 t5).symm.trans upd_same
  have t50 : H t5 = none := SH.free ht5
  have hnm := St5 _ _ hnm
  have r1 := r1.same St5
  have r2 := r2.same St5
  have r3 := r3.same St5
  have f1a := St5 _ _ f1a
  have e5a := St5 _ _ e5a
  have d5a := St5 _ _ d5a
  have e6a := St5 _ _ e6a
  have d6a := St5 _ _ d6a
  have r4 := r4.same St5
  have SH := SH.trans St5
  clear qt5
  have r5 : Row cs H7b (.ref t5) 9 "name" (.str y) (.str y) e5 d5 := ⟨⟨t5, rfl, t5a⟩, e5a, d5a⟩
  refine ⟨sz _ (by show 2 ≤ 1000; decide), fun f2 hf2 => ?_⟩
  generalize qf2 : upd H7b f2 _ = H8b
  have Sf2 : Same H7b H8b := qf2 ▸ Same.new (Same.refl H7b) hf2
  have f2a := (congrFun qf2 f2).symm.trans upd_same
  have f20 : H f2 = none := SH.free hf2
  have hnm := Sf2 _ _ hnm
  have r1 := r1.same Sf2
  have r2 := r2.same Sf2
  have r3 := r3.same Sf2
  have f1a := Sf2 _ _ f1a
  have e6a := Sf2 _ _ e6a
  have d6a := Sf2 _ _ d6a
  have r4 := r4.same Sf2
  have r5 := r5.same Sf2
  have SH := SH.trans Sf2
  clear qf2
  refine ⟨f1, f2, _, _, rfl, rfl, f1a, f2a, sz _ (by show 5 ≤ 1000; decide), fun f3 hf3 => ?_⟩
  generalize qf3 : upd H8b f3 _ = H9b
  have Sf3 : Same H8b H9b := qf3 ▸ Same.new (Same.refl H8b) hf3
  have f3a := (congrFun qf3 f3).symm.trans upd_same
  have f30 : H f3 = none := SH.free hf3
  have hnm := Sf3 _ _ hnm
  have r1 := r1.same Sf3
  have r2 := r2.same Sf3
  have r3 := r3.same Sf3
  have f1a := Sf3 _ _ f1a
  have e6a := Sf3 _ _ e6a
  have d6a := Sf3 _ _ d6a
  have r4 := r4.same Sf3
  have r5 := r5.same Sf3
  have f2a := Sf3 _ _ f2a
  have SH := SH.trans Sf3
  clear qf3
  refine ⟨_, rfl, .inl ⟨rfl, _, SqL.of f3a⟩, _, rfl, _, rfl, e6, cs 1, some d6, _, _, _, rfl, T.T 1, e6a, (fun dx z => by cases z; exact ⟨_, d6a⟩), (fun _ r => r), T.kitS 1, _, rfl, e6, cs 1, d6, _, (.str y), rfl, T.T 1, N.n1, e6a, d6a, by simp [List.lookup], _, rfl, sz _ (by show 4 ≤ 1000; decide), fun t6 ht6 => ?_⟩
  generalize qt6 : upd H9b t6 _ = H10b
  have St6 : Same H9b H10b := qt6 ▸ Same.new (Same.refl H9b) ht6
  have t6a := (congrFun qt6 t6).symm.trans upd_same
  have t60 : H t6 = none := SH.free ht6
  have hnm := St6 _ _ hnm
  have r1 := r1.same St6
  have r2 := r2.same St6
  have r3 := r3.same St6
  have e6a := St6 _ _ e6a
  have d6a := St6 _ _ d6a
  have r4 := r4.same St6
  have r5 := r5.same St6
  have f3a := St6 _ _ f3a
  have SH := SH.trans St6
  clear qt6
  have r6 : Row cs H10b (.ref t6) 1 "name" (.str y) (.str y) e6 d6 := ⟨⟨t6, rfl, t6a⟩, e6a, d6a⟩
  refine ⟨f3, _, _, rfl, rfl, f3a, small1000 (by show 5 ≤ 1000; decide), ?_⟩
  generalize q : upd H10b f3 _ = H11b
  have B : But f3 H10b H11b := q ▸ (But.refl f3 H10b).put
  have hnm := B _ _ (fun z => by have z1 := HN; rw [z, f30] at z1; cases z1) hnm
  have r1 := r1.but B f3a
  have r2 := r2.but B f3a
  have r3 := r3.but B f3a
  have r4 := r4.but B f3a
  have r5 := r5.but B f3a
  have r6 := r6.but B f3a
  have SH : Same H H11b := fun c u z => B c u (fun e => by rw [e, f30] at z; cases z) (SH c u z)
  have f3a := (congrFun q f3).symm.trans upd_same
  clear q B
  refine ⟨_, rfl, by show 1 ≤ 1000; decide, fun e7 he7 => ⟨e7, _, rfl, upd_same, ⟨y, rfl, hy⟩, fun d7 hd7 nd7 => ⟨rfl, ?_⟩⟩⟩
  obtain ⟨S7, e7a, d7a⟩ := made1 (od := exd d7 [("name", (.str y))]) (oe := exo e7 (cs 7) (some d7)) he7 hd7 nd7
  generalize upd (upd (upd H11b e7 _) d7 _) e7 _ = H7a at S7 e7a d7a ⊢
  have hnm := S7 _ _ hnm
  have r1 := r1.same S7
  have r2 := r2.same S7
  have r3 := r3.same S7
  have r4 := r4.same S7
  have r5 := r5.same S7
  have r6 := r6.same S7
  have f3a := S7 _ _ f3a
  have SH := SH.trans S7
  refine ⟨_, rfl, by show 1 ≤ 1000; decide, fun e8 he8 => ⟨e8, _, rfl, upd_same, ⟨y, rfl, hy⟩, fun d8 hd8 nd8 => ⟨rfl, ?_⟩⟩⟩
  obtain ⟨S8, e8a, d8a⟩ := made1 (od := exd d8 [("name", (.str y))]) (oe := exo e8 (cs 5) (some d8)) he8 hd8 nd8
  generalize upd (upd (upd H7a e8 _) d8 _) e8 _ = H8a at S8 e8a d8a ⊢
  have hnm := S8 _ _ hnm
  have r1 := r1.same S8
  have r2 := r2.same S8
  have r3 := r3.same S8
  have r4 := r4.same S8
  have r5 := r5.same S8
  have r6 := r6.same S8
  have f3a := S8 _ _ f3a
  have e7a := S8 _ _ e7a
  have d7a := S8 _ _ d7a
  have SH := SH.trans S8
  refine ⟨_, rfl, by show 1 ≤ 1000; decide, fun e9 he9 => ⟨e9, nm, ys, rfl, upd_same, (upd_ne (ne_of_none hnm he9)).trans hnm, hl, hsum, fun l9 d9 hl9 hd9 nl9 nd9 => ⟨rfl, ?_⟩⟩⟩
  obtain ⟨S9, e9a, d9a, l9a⟩ := made2 (ol := .lst (ys.map V.str)) (od := exd d9 [("names", .ref l9)]) (oe := exo e9 (cs 3) (some d9)) he9 hl9 hd9 nl9 nd9
  generalize upd (upd (upd (upd H8a e9 _) l9 _) d9 _) e9 _ = H9a at S9 e9a d9a l9a ⊢
  have hnm := S9 _ _ hnm
  have r1 := r1.same S9
  have r2 := r2.same S9
  have r3 := r3.same S9
  have r4 := r4.same S9
  have r5 := r5.same S9
  have r6 := r6.same S9
  have f3a := S9 _ _ f3a
  have e7a := S9 _ _ e7a
  have d7a := S9 _ _ d7a
  have e8a := S9 _ _ e8a
  have d8a := S9 _ _ d8a
  have SH := SH.trans S9
  refine ⟨_, _, _, rfl, ?_⟩
  refine ⟨_, rfl, _, rfl, _, rfl, e7, cs 7, some d7, _, _, _, rfl, T.T 7, e7a, (fun dx z => by cases z; exact ⟨_, d7a⟩), (fun _ r => r), T.kitS 7, _, rfl, e7, cs 7, d7, _, (.str y), rfl, T.T 7, N.n7, e7a, d7a, by simp [List.lookup], _, rfl, sz _ (by show 4 ≤ 1000; decide), fun t7 ht7 => ?_⟩
  generalize qt7 : upd H9a t7 _ = H12b
  have St7 : Same H9a H12b := qt7 ▸ Same.new (Same.refl H9a) ht7
  have t7a := (congrFun qt7 t7).symm.trans upd_same
  have t70 : H t7 = none := SH.free ht7
  have hnm := St7 _ _ hnm
  have r1 := r1.same St7
  have r2 := r2.same St7
  have r3 := r3.same St7
  have r4 := r4.same St7
  have r5 := r5.same St7
  have r6 := r6.same St7
  have f3a := St7 _ _ f3a
  have e7a := St7 _ _ e7a
  have d7a := St7 _ _ d7a
  have e8a := St7 _ _ e8a
  have d8a := St7 _ _ d8a
  have e9a := St7 _ _ e9a
  have d9a := St7 _ _ d9a
  have l9a := St7 _ _ l9a
  have SH := SH.trans St7
  clear qt7
  have r7 : Row cs H12b (.ref t7) 7 "name" (.str y) (.str y) e7 d7 := ⟨⟨t7, rfl, t7a⟩, e7a, d7a⟩
  refine ⟨_, rfl, _, rfl, e8, cs 5, some d8, _, _, _, rfl, T.T 5, e8a, (fun dx z => by cases z; exact ⟨_, d8a⟩), (fun _ r => r), T.kitS 5, _, rfl, e8, cs 5, d8, _, (.str y), rfl, T.T 5, N.n5, e8a, d8a, by simp [List.lookup], _, rfl, sz _ (by show 4 ≤ 1000; decide), fun t8 ht8 => ?_⟩
  generalize qt8 : upd H12b t8 _ = H13b
  have St8 : Same H12b H13b := qt8 ▸ Same.new (Same.refl H12b) ht8
  have t8a := (congrFun qt8 t8).symm.trans upd_same
  have t80 : H t8 = none := SH.free ht8
  have hnm := St8 _ _ hnm
  have r1 := r1.same St8
  have r2 := r2.same St8
  have r3 := r3.same St8
  have r4 := r4.same St8
  have r5 := r5.same St8
  have r6 := r6.same St8
  have f3a := St8 _ _ f3a
  have e8a := St8 _ _ e8a
  have d8a := St8 _ _ d8a
  have e9a := St8 _ _ e9a
  have d9a := St8 _ _ d9a
  have l9a := St8 _ _ l9a
  have r7 := r7.same St8
  have SH := SH.trans St8
  clear qt8
  have r8 : Row cs H13b (.ref t8) 5 "name" (.str y) (.str y) e8 d8 := ⟨⟨t8, rfl, t8a⟩, e8a, d8a⟩
  refine ⟨sz _ (by show 2 ≤ 1000; decide), fun f4 hf4 => ?_⟩
  generalize qf4 : upd H13b f4 _ = H14b
  have Sf4 : Same H13b H14b := qf4 ▸ Same.new (Same.refl H13b) hf4
  have f4a := (congrFun qf4 f4).symm.trans upd_same
  have f40 : H f4 = none := SH.free hf4
  have hnm := Sf4 _ _ hnm
  have r1 := r1.same Sf4
  have r2 := r2.same Sf4
  have r3 := r3.same Sf4
  have r4 := r4.same Sf4
  have r5 := r5.same Sf4
  have r6 := r6.same Sf4
  have f3a := Sf4 _ _ f3a
  have e9a := Sf4 _ _ e9a
  have d9a := Sf4 _ _ d9a
  have l9a := Sf4 _ _ l9a
  have r7 := r7.same Sf4
  have r8 := r8.same Sf4
  have SH := SH.trans Sf4
  clear qf4
  refine ⟨f3, f4, _, _, rfl, rfl, f3a, f4a, sz _ (by show 8 ≤ 1000; decide), fun f5 hf5 => ?_⟩
  generalize qf5 : upd H14b f5 _ = H15b
  have Sf5 : Same H14b H15b := qf5 ▸ Same.new (Same.refl H14b) hf5
  have f5a := (congrFun qf5 f5).symm.trans upd_same
  have f50 : H f5 = none := SH.free hf5
  have hnm := Sf5 _ _ hnm
  have r1 := r1.same Sf5
  have r2 := r2.same Sf5
  have r3 := r3.same Sf5
  have r4 := r4.same Sf5
  have r5 := r5.same Sf5
  have r6 := r6.same Sf5
  have f3a := Sf5 _ _ f3a
  have e9a := Sf5 _ _ e9a
  have d9a := Sf5 _ _ d9a
  have l9a := Sf5 _ _ l9a
  have r7 := r7.same Sf5
  have r8 := r8.same Sf5
  have f4a := Sf5 _ _ f4a
  have SH := SH.trans Sf5
  clear qf5
  refine ⟨_, rfl, _, rfl, _, rfl, e9, cs 3, some d9, _, _, _, rfl, T.T 3, e9a, (fun dx z => by cases z; exact ⟨_, d9a⟩), (fun _ r => r), T.kitS 3, _, rfl, e9, cs 3, d9, _, (.ref l9), rfl, T.T 3, N.n3, e9a, d9a, by simp [List.lookup], _, rfl, sz _ (by show 4 ≤ 1000; decide), fun t9 ht9 => ?_⟩
  generalize qt9 : upd H15b t9 _ = H16b
  have St9 : Same H15b H16b := qt9 ▸ Same.new (Same.refl H15b) ht9
  have t9a := (congrFun qt9 t9).symm.trans upd_same
  have t90 : H t9 = none := SH.free ht9
  have hnm := St9 _ _ hnm
  have r1 := r1.same St9
  have r2 := r2.same St9
  have r3 := r3.same St9
  have r4 := r4.same St9
  have r5 := r5.same St9
  have r6 := r6.same St9
  have e9a := St9 _ _ e9a
  have d9a := St9 _ _ d9a
  have l9a := St9 _ _ l9a
  have r7 := r7.same St9
  have r8 := r8.same St9
  have f5a := St9 _ _ f5a
  have SH := SH.trans St9
  clear qt9
  have r9 : Row cs H16b (.ref t9) 3 "names" (.ref l9) (.ref nm) e9 d9 := ⟨⟨t9, rfl, t9a⟩, e9a, d9a⟩
  refine ⟨sz _ (by show 1 ≤ 1000; decide), fun f6 hf6 => ?_⟩
  generalize qf6 : upd H16b f6 _ = H17b
  have Sf6 : Same H16b H17b := qf6 ▸ Same.new (Same.refl H16b) hf6
  have f6a := (congrFun qf6 f6).symm.trans upd_same
  have f60 : H f6 = none := SH.free hf6
  have hnm := Sf6 _ _ hnm
  have r1 := r1.same Sf6
  have r2 := r2.same Sf6
  have r3 := r3.same Sf6
  have r4 := r4.same Sf6
  have r5 := r5.same Sf6
  have r6 := r6.same Sf6
  have l9a := Sf6 _ _ l9a
  have r7 := r7.same Sf6
  have r8 := r8.same Sf6
  have f5a := Sf6 _ _ f5a
  have r9 := r9.same Sf6
  have SH := SH.trans Sf6
  clear qf6
  refine ⟨f5, f6, _, _, rfl, rfl, f5a, f6a, sz _ (by show 9 ≤ 1000; decide), fun f7 hf7 => ?_⟩
  generalize qf7 : upd H17b f7 _ = H18b
  have Sf7 : Same H17b H18b := qf7 ▸ Same.new (Same.refl H17b) hf7
  have f7a := (congrFun qf7 f7).symm.trans upd_same
  have f70 : H f7 = none := SH.free hf7
  have hnm := Sf7 _ _ hnm
  have r1 := r1.same Sf7
  have r2 := r2.same Sf7
  have r3 := r3.same Sf7
  have r4 := r4.same Sf7
  have r5 := r5.same Sf7
  have r6 := r6.same Sf7
  have l9a := Sf7 _ _ l9a
  have r7 := r7.same Sf7
  have r8 := r8.same Sf7
  have f5a := Sf7 _ _ f5a
  have r9 := r9.same Sf7
  have f6a := Sf7 _ _ f6a
  have SH := SH.trans Sf7
  clear qf7
  exact k f7 _ _ SH f70 f7a ⟨_, _, _, _, _, _, _, _, _, _, _, _, _, _, _, _, _, _, _, _, _, _, _, _, _, _, _, l9, rfl, r1, r2, r3, r4, r5, r6, r7, r8, r9, l9a⟩
end
end FP
set_option Elab.async false
set_option linter.all false
set_option maxRecDepth 100000
set_option maxHeartbeats 4000000
/-! repr of ints, texts and lists of texts where nothing else is being shown; a law's def that knows what runs around it. -/
namespace FP
open PySem PySem.Spec PyProof.Rows L2 NdefX
theorem strs_show : ∀ l : List Str, PyData.showableAll (l.map PyData.str) = true
  | [] => rfl
  | _ :: r => by simp [PyData.showableAll, PyData.showable, strs_show r]
theorem strs_nodict : ∀ l : List Str, PyData.hasDictAll (l.map PyData.str) = false
  | [] => rfl
  | _ :: r => by simp [PyData.hasDictAll, PyData.hasDict, strs_nodict r]
theorem strs_dep : ∀ l : List Str, PyData.depthAll (l.map PyData.str) ≤ 1
  | [] => by simp [PyData.depthAll]
  | _ :: r => by
    have := strs_dep r
    simp only [List.map_cons, PyData.depthAll, PyData.depth]
    omega
theorem strs_dpr (K : W.Frag) (H : Hp) : ∀ l : List Str, DpAll K H (l.map V.str) (l.map PyData.str)
  | [] => .nil
  | n :: r => .cons (.str n) (strs_dpr K H r)
/-- the text of a list of texts -/
def showL (ys : List Str) : Str := (PyData.list (ys.map PyData.str)).shown
def rRepr (K : W.Frag) : List V → Hp → VK → Prop := fun xs H Q => (∃ i, xs = [.int i] ∧ i.natAbs.log2 < 1920 ∧ Q (.str (toString i)) H) ∨ (∃ y, xs = [.str y] ∧ (reprText y).length ≤ sizeLine ∧ Q (.str (reprText y)) H) ∨
  ∃ (a : Addr) (ys : List Str), xs = [.ref a] ∧ SqL K H a (ys.map V.str) ∧ (showL ys).length ≤ sizeLine ∧ Q (.str (showL ys)) H
theorem call_repr {X : Cx} (hg : X.A.guards = some []) (hu : X.A.units + 64 < cLine) : CallR X (.builtin "repr") (rRepr X.K) := by
  intro pins s σ H xs us Q I r h
  rcases h with ⟨i, rfl, hz, q⟩ | ⟨y, rfl, hz, q⟩ | ⟨a, ys, rfl, ha, hz, q⟩
  · obtain ⟨u, rfl, t, rfl⟩ := vals1 r
    exact PySem.P.repr_of_int hz ⟨.str _, H, I.tok _, ⟨_, rfl⟩, q⟩
  · obtain ⟨u, rfl, t, rfl⟩ := vals1 r
    exact PySem.P.repr_of_str ⟨.str _, H, I.tok _, ⟨_, rfl⟩, q⟩ hz
  · obtain ⟨u, rfl, ru⟩ := vals1 r
    obtain ⟨as, rd⟩ := Dp.reads I (.list (ys.map PyData.str)) (.ref a) u (.lst ha (strs_dpr _ _ ys)) ru
    have ru : u = Value.ref a := ru
    subst ru
    have dep : (PyData.list (ys.map PyData.str)).depth ≤ 2 := by
      have := strs_dep ys
      simp only [PyData.depth]
      omega
    refine repr_of_reads' rd (by rw [PyData.showable]; exact strs_show ys) (fun z => ?_) hg (by omega) (fun _ _ e => e) (fun h' u tk k => ⟨.str (showL ys), H, I.kept (t' := tk) k, ⟨u, rfl⟩, q⟩) hz
    rw [PyData.hasDict, strs_nodict] at z
    cases z
/-- a law's def, called with nothing being shown around -/
structure LawOk (P : Program) (w : World) (K : W.Frag) (mg : Str → Option Value) (base : Heap) (k : Nat) (f : Addr) (fd : FuncData) (x : Str) (sp : Sp) : Prop where
  len : ∀ vs H Q E, sp vs H Q E → vs.length = 1
  run : ∀ (A : Around) (outer : List Env) (s : Shared) (H : Hp) (u : Value) (v : V) (Q : VK) (E : XK), A.guards = some [] → Room k A → Env0 P w K mg base A outer s H → BindsTo s fd ⟨[u], []⟩ [(x, u)] → RelV v u → sp [v] H Q E →
    codeAny (model P w) A (.call (.ref f) ⟨[u], []⟩) (CR CX0 outer P w H s Q E) s
/-- the words of a plain def -/
abbrev plF (name qual : Str) (params : Arguments) (body : List Stmt) (scope : Scope) (cda : Addr) : NF := ⟨name, qual, params, body, scope, [], cda⟩
theorem law_fn {P : Program} {w : World} {K : W.Frag} {mg : Str → Option Value} {base : Heap} {k : Nat} {f cda : Addr} {name qual x : Str} {params : Arguments} {body : List Stmt} {scope : Scope} {N : List Str} {sp : Sp} {dV kV doc pm ct oc : Value} {an od : Option Addr} {osl : Array (Option Value)}
    (lk : K.lookup f = some ⟨oc, od, .func (W.fnOf name qual params body scope dV kV doc pm an (.ref cda) ct), osl⟩) (hcd : W.codeIn K (.ref cda) qual = true) (S : NScope N [x] [] scope) (len : ∀ vs H Q E, sp vs H Q E → vs.length = 1)
    (hbody : ∀ (A : Around) (outer : List Env) (s : Shared) (H : Hp) (vs : List V) (Q : VK) (E : XK), A.guards = some [] → Room k (A.deeper (envF (plF name qual params body scope cda) f s.heap.objs.size)) → sp vs H Q E →
      ∃ t, PSs (ncx CX0 P w K mg base N (plF name qual params body scope cda) f A outer s H E).nox body t ∧ t { nx := fun _ H' => Q .non H', rt := Q } (startF N vs []) H) :
    LawOk P w K mg base (k + 1) f (W.fnOf name qual params body scope dV kV doc pm an (.ref cda) ct) x sp := by
  refine ⟨len, fun A outer s H u v Q E hg hr e0 hb rv hsp => ?_⟩
  have KX : K.In s.heap := fun b o e => (e0.bs b o (e0.mod.kin b o e)).1
  have lim : s.heap.NoLimit := e0.mod.nolimit.keeps fun b o e => (e0.bs b o e).1
  have cells : CellsAt ([] : List (Str × Addr)) [] [] s.heap H := ⟨rfl, fun y c z => by simp [List.lookup] at z, fun x y c z _ => by simp [List.lookup] at z, fun i y z => by simp at z⟩
  refine ks_codeAny_call_defAt hr.depth (KX _ _ lk) rfl lim (W.codeRec_of KX hcd) rfl hb S.nocell (fun y hy => ?_) (fun h₁ hns kp => ?_) S.co S.gen S.kind
  · rw [List.mem_singleton] at hy
    rw [hy]
    exact S.par x List.mem_cons_self
  obtain ⟨t, ht, hq⟩ := hbody A outer s H [v] Q E hg (hr.deeper _) hsp
  have I := inv_startN (CX := CX0) (P := P) (w := w) (K := K) (mg := mg) (base := base) (F := plF name qual params body scope cda) (f := f) (outer := outer) (E := E) (tk := s.toks + [(x, u)].length) (us := [u]) S hr.hd e0 rfl (.cons rv .nil) cells hns kp
  refine ks_wpAt_mono (wpAt_of_wpAny (ht.nox.run [] _ _ H _ I hq)) (fun fl s' hs => ?_) fun e s' hs => hs
  have fin : ∀ {σ' : L2.St} {H' : Hp} {v : V} {u : Value}, Inv (ncx CX0 P w K mg base N (plF name qual params body scope cda) f A outer s H E) [] σ' H' s' → L2.RelV v u → Q v H' → CE outer P w H s Q u s' :=
    fun {σ' H' v u} J rv q => ⟨v, H', J.os, J.bare, J.base, J.hok, rv, q⟩
  cases fl with
  | ret u => obtain ⟨v, σ', H', J, rv, q⟩ := hs; exact fin J rv q
  | next => obtain ⟨σ', H', J, q⟩ := hs; exact fin (v := V.non) (u := Value.none) J rfl q
  | brk => exact False.elim hs.choose_spec.choose_spec.2
  | cont => exact False.elim hs.choose_spec.choose_spec.2
end FP
set_option Elab.async false
set_option linter.all false
set_option maxRecDepth 100000
set_option maxHeartbeats 4000000
namespace FP
open PySem PySem.Spec PyProof.Rows L2 NdefX
section
variable {P : Program} {w : World} {K : W.Frag} {mg mb : Str → Option Value} {k : Nat} {fa a : Addr} {fd : FuncData} {x : Str} {sp : Sp} {s₁ : Shared} {vs : List Value} {ns : List Int}
/-- the call behind the top, from an abstract heap that tracks nothing but perhaps the script -/
theorem call_from (KX : K.In s₁.heap) (hns : s₁.heap.Ns mainGlobals mg) (hb : s₁.heap.Ns builtinsNs mb) (hbb : ∀ x : Str, x ≠ "__name__" → mb x = bootBuiltins x) (hlim : s₁.heap.NoLimit) (hg : s₁.gens = #[])
    (ha : s₁.heap.get? a = some { cls := .type "list", data := .seq vs.toArray }) (hr : Room k callerA)
    (F : ∀ base : Heap, K.In base → base.Ns mainGlobals mg → LawOk P w K mg base k fa fd x sp) (hbind : ∀ (s : Shared) (u : Value), BindsTo s fd ⟨[u], []⟩ [(x, u)])
    (H : Hp) (hO : Only H) (hq : sp [.ref a] H (fun v _ => v = .bl true) fun _ _ _ => False) (hok : HOk P w H s₁.heap) (only : ∀ b, H b ≠ none → b = a) (apart : H a ≠ none → K.lookup a = none) :
    codeAny (model P w) callerA (.call (.ref fa) ⟨[.ref a], []⟩) (fun r s' => r = .ok (.ret (.bool true)) ∧ OldK s₁.heap s'.heap ∧ s'.os = s₁.os ∧ AllBare s'.gens) s₁ := by
  have un : ∀ b, b ≠ a → H b = none := fun b n => by
    cases q : H b with
    | none => rfl
    | some u => exact absurd (only b (by rw [q]; simp)) n
  have dict : ∀ {b : Addr} {m : Str → Option Value}, s₁.heap.Ns b m → (hidT s₁.heap H).Ns b m := fun {b m} ⟨o, es, ep, e, d, r⟩ => by
    have nb : b ≠ a := fun z => by
      rw [z, ha] at e
      cases e
      cases d
    exact ⟨o, es, ep, hidT_get e (un b nb), d, r⟩
  have KB : K.In (hidT s₁.heap H) := fun b o e => hidT_get (KX b o e) (by
    by_cases z : b = a
    · cases q : H b with
      | none => rfl
      | some u =>
        have y := apart (by rw [← z, q]; simp)
        rw [← z, e] at y
        cases y
    · exact un b z)
  obtain ⟨mc, l1, l2⟩ := hlim
  have M : Mod K mg (hidT s₁.heap H) := ⟨KB, dict hns, ⟨mb, dict hb, hbb⟩, ⟨mc, dict l1, l2⟩⟩
  have e0 : Env0 P w K mg (hidT s₁.heap H) callerA [] s₁ H := ⟨rfl, M, fun b o e => of_hidT e, Nat.le_of_eq (hidT_size _ _), trivial, fun b z => absurd (show b ∈ ([] : List Addr) from z) List.not_mem_nil, hok, .of_eq hg⟩
  refine codeAny_mono ((F _ KB (dict hns)).run callerA [] s₁ H (.ref a) (.ref a) _ _ rfl hr e0 (hbind s₁ (.ref a)) rfl hq) fun r s' z => ?_
  match r, z with
  | .ok (.ret u), ⟨v, H', os, bare, U, hok', rv, qv⟩ =>
    have qv : v = .bl true := qv
    subst qv
    have rv : u = Value.bool true := rv
    subst rv
    refine ⟨rfl, OldK.of_keep fun b o e => ?_, os, bare⟩
    rcases hO b with z | ⟨ob, xs, z⟩
    · exact U.keep b o e z (fun y => absurd (show b ∈ ([] : List Addr) from y) List.not_mem_nil) List.not_mem_nil
    · have y := (hok b _ z).1
      rw [e] at y
      cases y
      exact (hok' b _ (U.frzs b _ _ z)).1
theorem call_law (KX : K.In s₁.heap) (hns : s₁.heap.Ns mainGlobals mg) (hb : s₁.heap.Ns builtinsNs mb) (hbb : ∀ x : Str, x ≠ "__name__" → mb x = bootBuiltins x) (hlim : s₁.heap.NoLimit) (hg : s₁.gens = #[])
    (ha : s₁.heap.get? a = some { cls := .type "list", data := .seq vs.toArray }) (hi : IntsAre vs ns) (hl : ns.length ≤ sizeLine) (hr : Room k callerA)
    (F : ∀ base : Heap, K.In base → base.Ns mainGlobals mg → LawOk P w K mg base k fa fd x sp) (hbind : ∀ (s : Shared) (u : Value), BindsTo s fd ⟨[u], []⟩ [(x, u)])
    (hsp : ∀ H : Hp, SqL K H a (ns.map V.int) → sp [.ref a] H (fun v _ => v = .bl true) fun _ _ _ => False) :
    codeAny (model P w) callerA (.call (.ref fa) ⟨[.ref a], []⟩) (fun r s' => r = .ok (.ret (.bool true)) ∧ OldK s₁.heap s'.heap ∧ s'.os = s₁.os ∧ AllBare s'.gens) s₁ := by
  have rv := vals_ints hi
  have hlen := hi.length
  cases hk : K.lookup a with
  | some o =>
    have e := KX a o hk
    rw [ha] at e
    cases e
    exact call_from KX hns hb hbb hlim hg ha hr F hbind (fun _ => none) (fun _ => .inl rfl) (hsp _ (.inr ⟨_, vs.toArray, _, hk, rfl, rfl, rfl, by rw [List.size_toArray, hlen]; exact hl, by simpa using rv⟩)) (fun b u z => by cases z) (fun b z => absurd rfl z) fun z => absurd rfl z
  | none =>
    have at_a : (upd (fun _ => none) a (.frz { cls := .type "list", data := .seq vs.toArray } (.lst (ns.map V.int))) : Hp) a = some (.frz { cls := .type "list", data := .seq vs.toArray } (.lst (ns.map V.int))) := upd_same
    refine call_from KX hns hb hbb hlim hg ha hr F hbind (upd (fun _ => none) a (.frz { cls := .type "list", data := .seq vs.toArray } (.lst (ns.map V.int)))) (fun b => ?_) (hsp _ (.inl (.inr ⟨_, at_a⟩))) (fun b u z => ?_) (fun b z => ?_) fun _ => hk
    · by_cases h : b = a
      · exact .inr ⟨_, _, by rw [h]; exact at_a⟩
      · exact .inl (upd_ne h)
    · by_cases h : b = a
      · subst h
        rw [upd_same] at z
        cases z
        exact ⟨ha, by rw [List.length_map]; exact hl, vs, _, rv, ha⟩
      · rw [upd_ne h] at z
        cases z
    · by_cases h : b = a
      · exact h
      · exact absurd (upd_ne h) z
end
/-- the end of a law's row -/
theorem walk_law {l : W.OpenLaw} {n k : Nat} {q : Program} {loose : List Str} {XP : (Str → Option Value) → Heap → Prop} {YP : World → Heap → Prop} {d : DefRec} {K : Params → W.Frag} {sp : W.Frag → Sp} {x : Str}
    (hn : l.most = some n) (hn2 : n ≤ sizeLine) (hdf : d.params.defaults = []) (hr : Room k callerA) (hY : ∀ (w : World) (h : Heap), YP w h → (K w.params).In h)
    (F : ∀ (w : World) (mg : Str → Option Value) (fa : Addr) (h : Heap), (K w.params).In h → h.Ns mainGlobals mg → mg d.name = some (.ref fa) →
      ∃ fd : FuncData, (∀ (s : Shared) (u : Value), BindsTo s fd ⟨[u], []⟩ [(x, u)]) ∧ ∀ base : Heap, (K w.params).In base → base.Ns mainGlobals mg → LawOk l.prog w (K w.params) mg base k fa fd x (sp (K w.params)))
    (hsp : ∀ (K : W.Frag) (H : Hp) (a : Addr) (ns : List Int), ns.length ≤ n → SqL K H a (ns.map V.int) → sp K [.ref a] H (fun v _ => v = .bl true) fun _ _ _ => False) :
    W.WalkO q loose XP YP l.row.toRowW d [] (fun f vs => PySem.call f vs) := by
  refine Att.attach_call hn hdf fun w s₀ s₁ mg mb fa o pm cd doc a vs ns G Y ho hd hcd hmg hobj hints hlen hg => ?_
  have KX := hY w _ Y
  obtain ⟨fd, hb, hF⟩ := F w mg fa _ KX G.T.g hmg
  exact call_law KX G.T.g G.T.b G.T.builtins G.T.nolimit hg hobj hints (Nat.le_trans hlen hn2) hr hF hb fun H hS => hsp _ H a ns hlen hS
end FP
set_option Elab.async false
set_option linter.all false
set_option maxRecDepth 100000
set_option maxHeartbeats 4000000
set_option exponentiation.threshold 2000
namespace FP
open PySem PySem.Spec PyProof.Rows L2 NdefX
abbrev sLaw : Stmt := top 20
def spLaw (K : W.Frag) : Sp := fun vs H Q _ => ∃ (a : Addr) (ns : List Int), vs = [.ref a] ∧ SqL K H a (ns.map V.int) ∧ ns.length ≤ 63 ∧ ∀ H', Q (.bl true) H'
/-- two values with one repr -/
inductive Alike (H : Hp) : V → V → Prop
  | int {n : Int} (h : n.natAbs.log2 < 1920) : Alike H (.int n) (.int n)
  | str {y : Str} (h : (reprText y).length ≤ sizeLine) : Alike H (.str y) (.str y)
  | lst {a b : Addr} {ys : List Str} (h1 : H a = some (.lst (ys.map V.str))) (h2 : H b = some (.lst (ys.map V.str))) (h : (showL ys).length ≤ sizeLine) : Alike H (.ref a) (.ref b)
theorem Alike.same {H H' : Hp} {x y : V} (a : Alike H x y) (s : Same H H') : Alike H' x y := by
  cases a with
  | int h => exact .int h
  | str h => exact .str h
  | lst h1 h2 h => exact .lst (s _ _ h1) (s _ _ h2) h
theorem Alike.repr {K : W.Frag} {H : Hp} {x y : V} (a : Alike H x y) : ∃ t : Str, (∀ Q : VK, Q (.str t) H → rRepr K [x] H Q) ∧ ∀ Q : VK, Q (.str t) H → rRepr K [y] H Q := by
  cases a with
  | @int n h => exact ⟨_, fun Q q => .inl ⟨n, rfl, h, q⟩, fun Q q => .inl ⟨n, rfl, h, q⟩⟩
  | @str y h => exact ⟨_, fun Q q => .inr (.inl ⟨y, rfl, h, q⟩), fun Q q => .inr (.inl ⟨y, rfl, h, q⟩)⟩
  | @lst a b ys h1 h2 h => exact ⟨_, fun Q q => .inr (.inr ⟨a, ys, rfl, SqL.of h1, h, q⟩), fun Q q => .inr (.inr ⟨b, ys, rfl, SqL.of h2, h, q⟩)⟩
theorem Alike.read {K : W.Frag} {H : Hp} {x y : V} (a : Alike H x y) : ∃ t : Str, ∀ (σ : L2.St) (i j : Nat) (Q : VK), (σ[i]? = some (some x) → Q (.str t) H → tCB (rRepr K) (tCons (tVar i) tNil) σ H Q) ∧ (σ[j]? = some (some y) → Q (.str t) H → tCB (rRepr K) (tCons (tVar j) tNil) σ H Q) := by
  obtain ⟨t, h1, h2⟩ := a.repr (K := K)
  refine ⟨t, fun σ i j Q => ⟨fun e q => ⟨x, e, ?_⟩, fun e q => ⟨y, e, ?_⟩⟩⟩
  · show rRepr K [x] H Q
    exact h1 Q q
  · show rRepr K [y] H Q
    exact h2 Q q
structure RowOk (cs : Fin 10 → Addr) (H : Hp) (v : V) : Prop where
  ex : ∃ (i : Fin 10) (f : Str) (x due : V) (e d : Addr), Row cs H v i f x due e d ∧ Alike H x due
theorem RowOk.same {cs : Fin 10 → Addr} {H H' : Hp} {v : V} (r : RowOk cs H v) (s : Same H H') : RowOk cs H' v :=
  let ⟨i, f, x, due, e, d, h1, h2⟩ := r.ex
  ⟨i, f, x, due, e, d, h1.same s, h2.same s⟩
theorem rows_ok {cs : Fin 10 → Addr} {H : Hp} {vs : List V} {n : Int} {y : Str} {nm : Addr} {ys : List Str} (R : Rows9 cs H vs n y nm ys) (hn : n.natAbs.log2 < 1920) (hy : (reprText y).length ≤ sizeLine) (hm : H nm = some (.lst (ys.map V.str))) (hs : (showL ys).length ≤ sizeLine) :
    ∀ v ∈ vs, RowOk cs H v := by
  obtain ⟨v0, v1, v2, v3, v4, v5, v6, v7, v8, e0, e1, e2, e3, e4, e5, e6, e7, e8, d0, d1, d2, d3, d4, d5, d6, d7, d8, l, rfl, r0, r1, r2, r3, r4, r5, r6, r7, r8, hl⟩ := R.ex
  intro v hv
  simp only [List.mem_cons, List.not_mem_nil, or_false] at hv
  rcases hv with rfl | rfl | rfl | rfl | rfl | rfl | rfl | rfl | rfl
  · exact ⟨_, _, _, _, _, _, r0, .int hn⟩
  · exact ⟨_, _, _, _, _, _, r1, .int hn⟩
  · exact ⟨_, _, _, _, _, _, r2, .int hn⟩
  · exact ⟨_, _, _, _, _, _, r3, .str hy⟩
  · exact ⟨_, _, _, _, _, _, r4, .str hy⟩
  · exact ⟨_, _, _, _, _, _, r5, .str hy⟩
  · exact ⟨_, _, _, _, _, _, r6, .str hy⟩
  · exact ⟨_, _, _, _, _, _, r7, .str hy⟩
  · exact ⟨_, _, _, _, _, _, r8, .lst hl hm hs⟩
theorem PenAt.same {H H' : Hp} {p a : Addr} {ns : List Int} {t l : Int} (h : PenAt H p a ns t l) (s : Same H H') : PenAt H' p a ns t l := ⟨s _ _ h.p, s _ _ h.a, h.n, h.t0, h.l0⟩
theorem Rows9.same {cs : Fin 10 → Addr} {H H' : Hp} {vs : List V} {n : Int} {y : Str} {nm : Addr} {ys : List Str} (R : Rows9 cs H vs n y nm ys) (s : Same H H') : Rows9 cs H' vs n y nm ys := by
  obtain ⟨v0, v1, v2, v3, v4, v5, v6, v7, v8, e0, e1, e2, e3, e4, e5, e6, e7, e8, d0, d1, d2, d3, d4, d5, d6, d7, d8, l, rfl, r0, r1, r2, r3, r4, r5, r6, r7, r8, hl⟩ := R.ex
  exact ⟨v0, v1, v2, v3, v4, v5, v6, v7, v8, e0, e1, e2, e3, e4, e5, e6, e7, e8, d0, d1, d2, d3, d4, d5, d6, d7, d8, l, rfl, r0.same s, r1.same s, r2.same s, r3.same s, r4.same s, r5.same s, r6.same s, r7.same s, r8.same s, s _ _ hl⟩
theorem rows_len {cs : Fin 10 → Addr} {H : Hp} {vs : List V} {n : Int} {y : Str} {nm : Addr} {ys : List Str} (R : Rows9 cs H vs n y nm ys) : vs.length = 9 := by
  obtain ⟨v0, v1, v2, v3, v4, v5, v6, v7, v8, e0, e1, e2, e3, e4, e5, e6, e7, e8, d0, d1, d2, d3, d4, d5, d6, d7, d8, l, rfl, _⟩ := R.ex
  rfl
/-! the names that are drawn -/
theorem twelve_small : ∀ y ∈ twelve, y.length ≤ 12 ∧ (reprText y).length ≤ 14 := by decide +kernel
theorem sum_small : ∀ l : List Str, (∀ y ∈ l, y.length ≤ 12) → (l.map (·.length)).sum ≤ 12 * l.length
  | [], _ => Nat.zero_le _
  | y :: r, h => by
    have h1 := h y List.mem_cons_self
    have h2 := sum_small r fun z hz => h z (List.mem_cons_of_mem _ hz)
    simp only [List.map_cons, List.sum_cons, List.length_cons]
    omega
theorem show_small (l : List Str) (h : ∀ y ∈ l, (reprText y).length ≤ 14) : (showL l).length ≤ 20 * l.length + 10 := by
  have p : ∀ l : List Str, (∀ y ∈ l, (reprText y).length ≤ 14) → ((PyData.shownAll (l.map PyData.str)).map (·.length)).sum + 2 * (PyData.shownAll (l.map PyData.str)).length ≤ 16 * l.length := by
    intro l
    induction l with
    | nil => intro _; exact Nat.zero_le _
    | cons y r ih =>
      intro h
      have h1 := h y List.mem_cons_self
      have h2 := ih fun z hz => h z (List.mem_cons_of_mem _ hz)
      simp only [List.map_cons, PyData.shownAll, PyData.shown, List.sum_cons, List.length_cons]
      omega
  have h1 := p l h
  have h2 := listText_len_le (PyData.shownAll (l.map PyData.str))
  unfold showL
  rw [PyData.shown]
  omega
structure Blt2 (mg : Str → Option Value) : Prop extends Blt mg where
  range : mg "range" = none
  repr : mg "repr" = none
section
variable {w : World} {K : W.Frag} {mg : Str → Option Value} {base : Heap} {cs : Fin 10 → Addr} {FE : Addr}
abbrev lawN : List Str := ["_law_script", "_law_pen", "_law_turn", "_law_number", "_law_names", "_law_rows", "_law_others", "_law_e", "_law_is_own", "_law_field", "_law_due", "_law_empty"]
theorem scLw : NScope lawN ["_law_script"] [] (defScope sLaw) := nscope_by (by decide +kernel)
/-- repr(e) -/
theorem pe_repr {X : Cx} {e : Expr} {te : TE} {p pos : Pos} (hg : X.A.guards = some []) (hu : X.A.units + 64 < cLine) (hm : X.mg "repr" = none) (he : PE X e te) (hgl : Gl X "repr" := by rfl)
    (h1 : starEach [e] X.env = (false, eval e X.env) :: starEach [] X.env := by rfl) : PE X (.Call (.Name "repr" p) [e] [] pos) (tCB (rRepr X.K) (tCons te tNil)) :=
  pe_callB (call_repr hg hu) hgl hm (by decide +kernel) (pa_cons he pa_nil h1) (by decide) (by decide) h1 (by rfl)
theorem ok_law {f : Addr} {cda : Addr} {dV kV doc pm ct oc : Value} {an od : Option Addr} {osl : Array (Option Value)}
    (lk : K.lookup f = some ⟨oc, od, .func (W.fnOf "law" "law" (defArgs sLaw) (defBody sLaw) (defScope sLaw) dV kV doc pm an (.ref cda) ct), osl⟩) (hcd : W.codeIn K (.ref cda) "law" = true)
    (B : Blt2 mg) (T : Txt10 K mg cs FE) (I : Inis w K mg base cs) (N : Nos K cs)
    (DP : Def PP w K mg base "_law_begun_pen" 1 ["_law_script"] (spPen K)) (DD : Def PP w K mg base "_law_draw" 1 ["_law_pen", "_law_span"] spDraw) (DK : Def PP w K mg base "_law_pick" 2 ["_law_pen", "_law_options"] spPick)
    (DN : Def PP w K mg base "_law_new_names" 3 ["_law_pen", "_law_many"] spNames) (DI : Def PP w K mg base "_law_is_one" 1 ["_law_e", "_law_is_own"] (spIs cs)) (DM : Def PP w K mg base "_law_made" 3 ["_law_number", "_law_name", "_law_names"] (spMade cs)) :
    LawOk PP w K mg base 4 f (W.fnOf "law" "law" (defArgs sLaw) (defBody sLaw) (defScope sLaw) dV kV doc pm an (.ref cda) ct) "_law_script" (spLaw K) := by
  obtain ⟨fP, fdP, gP, kP, bP, GP⟩ := DP.ex
  obtain ⟨fD, fdD, gD, kD, bD, GD⟩ := DD.ex
  obtain ⟨fK, fdK, gK, kK, bK, GK⟩ := DK.ex
  obtain ⟨fN, fdN, gN, kN, bN, GN⟩ := DN.ex
  obtain ⟨fI, fdI, gI, kI, bI, GI⟩ := DI.ex
  obtain ⟨fM, fdM, gM, kM, bM, GM⟩ := DM.ex
  refine law_fn lk hcd scLw (fun vs H Q E h => ?_) fun A outer s H vs Q E hg hr h => ?_
  · obtain ⟨a, ns, rfl, _⟩ := h
    rfl
  obtain ⟨sc, ns, rfl, hS, hns, k⟩ := h
  have hr1 : Room 1 _ := hr.mono (by decide)
  have hr2 : Room 2 _ := hr.mono (by decide)
  have hu := hr.units
  refine ⟨_, pss_cons (ps_set (i := 1) scLw.nd rfl (.inl rfl) (pe_call GP hr1 rfl gP kP bP .nil pass0 (pa_cons (pv 0) pa_nil)))
    (pss_cons (ps_for PassesOwn.never rfl (pi_range1 rfl B.range (pa_cons pe_int pa_nil)) (pg_name (i := 2) scLw.nd rfl (.inl rfl))
      (pss_cons (ps_set (i := 3) scLw.nd rfl (.inl rfl) (pe_op op_sub (pe_call GD hr1 rfl gD kD bD .nil pass0 (pa_cons (pv 1) (pa_cons (pe_op op_pow pe_int pe_int) pa_nil)))
          (pe_call GK hr2 rfl gK kK bK .nil pass0 (pa_cons (pv 1) (pa_cons (pe_lst (pa_cons pe_int (pa_cons pe_int (pa_cons (pe_op op_pow pe_int pe_int) pa_nil)))) pa_nil)))))
      (pss_cons (ps_set (i := 4) scLw.nd rfl (.inl rfl) (pe_call GN hr rfl gN kN bN .nil pass0 (pa_cons (pv 1) (pa_cons (pe_op op_add pe_int (pe_call GD hr1 rfl gD kD bD .nil pass0 (pa_cons (pv 1) (pa_cons pe_int pa_nil)))) pa_nil))))
      (pss_cons (ps_par (i := 5) (j := 6) (by rfl) scLw.nd rfl rfl (by decide) rfl rfl
          (pa_cons (pe_call GM hr rfl gM kM bM .nil pass0 (pa_cons (pv 3) (pa_cons (pe_ix ix_list (pv 4) pe_int (fun _ _ => rfl)) (pa_cons (pe_callTy call_list_of (by rfl) B.list (by decide +kernel) (pa_cons (pv 4) pa_nil)) pa_nil))))
          (pa_cons (pe_call GM hr rfl gM kM bM .nil pass0 (pa_cons (pe_op op_add (pv 3) pe_int) (pa_cons pe_str (pa_cons (pe_lst (pa_cons pe_str pa_nil)) pa_nil)))) pa_nil)) (by rfl))
      (pss_cons (ps_for PassesOwn.never rfl (pi_list (pe_op op_cat (pv 5) (pv 6))) (pg_tup rfl (pgs_cons (pg_name (i := 7) scLw.nd rfl (.inl rfl)) (pgs_cons (pg_name (i := 8) scLw.nd rfl (.inl rfl)) (pgs_cons (pg_name (i := 9) scLw.nd rfl (.inl rfl)) (pgs_cons (pg_name (i := 10) scLw.nd rfl (.inl rfl)) pgs_nil)))))
          (pss_one (ps_if (PW.pt (pw_or (pt_cmpR op_ne (pe_repr hg hu B.repr (pv 9)) (pe_repr hg hu B.repr (pv 10)) (nomark _)) (pw_or1 (pt_not (pt_val (pe_call GI hr1 rfl gI kI bI .nil pass0 (pa_cons (pv 7) (pa_cons (pv 8) pa_nil))))))))
            (pss_one (ps_ret pe_bl)) pss_nil)))
      (pss_cons (ps_if (PW.pt (pw_or (pt_cmpR op_ne (pe_repr hg hu B.repr (pe_xat (pe_ix ix_tup (pe_ix ix_list (pv 5) pe_int (fun _ _ => rfl)) pe_int (fun _ _ => rfl)))) (pe_repr hg hu B.repr (pv 3)) (nomark _))
            (pw_or (pt_cmpR op_ne (pe_xat (pe_ix ix_tup (pe_ix ix_list (pv 5) pe_int (fun _ _ => rfl)) pe_int (fun _ _ => rfl))) (pe_ix ix_list (pv 4) pe_int (fun _ _ => rfl)) (nomark _))
            (pw_or1 (pt_cmpR (op_neD hu) (pe_callTy call_list_of (by rfl) B.list (by decide +kernel) (pa_cons (pe_xat (pe_ix ix_tup (pe_ix ix_list (pv 5) pe_int (fun _ _ => rfl)) pe_int (fun _ _ => rfl))) pa_nil)) (pv 4) (nomark _))))))
          (pss_one (ps_ret pe_bl)) pss_nil)
      (pss_cons (ps_set (i := 11) scLw.nd rfl (.inl rfl) (pe_new0 I.i8 (T.T 8) hr2 pass0 (by rfl) T.g8))
      (pss_one (ps_if (pt_not (pt_val (pe_call GI hr1 rfl gI kI bI .nil pass0 (pa_cons (pv 11) (pa_cons (ask (i := 11) T.gI rfl (.inl rfl) (by decide) (by decide) (by rfl) T.g8 (by decide) (by rfl)) pa_nil)))))
          (pss_one (ps_ret pe_bl)) pss_nil)))))))))
    (pss_one (ps_ret pe_bl))), ?_⟩
  refine ⟨_, rfl, sc, ns, rfl, hS, hns, fun p a H1 hp0 S0 PA0 => ?_⟩
  refine ⟨3, rfl, by decide, by decide, for_range (n := 3) (fun i σ H' => ∃ (t l : Int) (v2 v3 v4 v5 v6 v7 v8 v9 v10 v11 : Option V), σ = [some (.ref sc), some (.ref p), v2, v3, v4, v5, v6, v7, v8, v9, v10, v11] ∧ PenAt H' p a ns t l ∧ t ≤ 20 * i)
    ⟨0, 0, none, none, none, none, none, none, none, none, none, none, rfl, PA0, by decide⟩ ?_ ?_⟩
  · rintro i σ H' hi ⟨t, l, v2, v3, v4, v5, v6, v7, v8, v9, v10, v11, rfl, PA1, ht⟩
    have ht3 : t ≤ 60 := by omega
    have e60 : ((10 : Int) ^ (Int.toNat 60)) = 1000000000000000000000000000000000000000000000000000000000000 := by decide +kernel
    have e59 : ((10 : Int) ^ (Int.toNat 59)) = 100000000000000000000000000000000000000000000000000000000000 := by decide +kernel
    refine ⟨_, rfl, _, _, rfl, rfl, ⟨by decide, by decide, by decide⟩, p, a, ns, t, l, _, rfl, PA1, by omega, by rw [e60]; decide, by rw [e60]; exact Nat.lt_of_lt_of_le (by decide : 1000000000000000000000000000000000000000000000000000000000000 < 2 ^ 200) (Nat.pow_le_pow_right (by decide) (by decide)), ?_⟩
    intro r1 t1 l1 H1 r10 r11 t11 t12 b1 PA2
    rw [e60] at r11
    refine ⟨_, rfl, _, _, rfl, rfl, ⟨by decide, by decide, by decide⟩, (by rw [sizeLine_eq]; exact (by decide : 3 ≤ 16777216)), fun o ho => ?_⟩
    have nop : o ≠ p := (ne_of_none PA2.p ho).symm
    refine ⟨p, a, o, ns, t1, l1, _, rfl, PA2.new ho, by omega, nop, upd_same, by show 0 < 3; decide, by show 3 ≤ 1000; decide, ?_⟩
    intro i2 v t2 l2 H2 hv t21 t22 b2 PA3
    obtain ⟨z, rfl, z0, z1⟩ : ∃ z : Int, v = .int z ∧ 0 ≤ z ∧ z ≤ 100000000000000000000000000000000000000000000000000000000000 := by
      have hv : [V.int 0, V.int 0, V.int ((10 : Int) ^ (Int.toNat 59))][i2]? = some v := hv
      rw [e59] at hv
      match i2, hv with
      | 0, hv => cases hv; exact ⟨_, rfl, by decide, by decide⟩
      | 1, hv => cases hv; exact ⟨_, rfl, by decide, by decide⟩
      | 2, hv => cases hv; exact ⟨_, rfl, by decide, by decide⟩
    refine ⟨_, _, rfl, rfl, ?_⟩
    have nb : (r1 - z).natAbs < 2 ^ 250 := by
      have e : (2 : Nat) ^ 250 = 1809251394333065553493296640760748560207343510400633813116524750123642650624 := by decide +kernel
      rw [e]
      omega
    have nb1 : (r1 - z + 1).natAbs < 2 ^ 250 := by
      have e : (2 : Nat) ^ 250 = 1809251394333065553493296640760748560207343510400633813116524750123642650624 := by decide +kernel
      rw [e]
      omega
    have lg : ∀ m : Int, m.natAbs < 2 ^ 250 → m.natAbs.log2 < 1920 := fun m h => Nat.lt_trans (PySem.Flt.log2_lt_of (by decide) h) (by decide)
    -- the names
    refine ⟨_, rfl, _, rfl, p, a, ns, t2, l2, 4, rfl, PA3, by omega, by decide, by decide, ?_⟩
    intro r2 t3 l3 H3 r20 r21 t31 t32 b3 PA4
    refine ⟨_, _, rfl, rfl, p, a, ns, t3, l3, 1 + r2, rfl, PA4, by omega, by omega, by omega, ?_⟩
    intro nm ys t4 l4 H4 pm t41 t42 b4 PA5 nm0 hnm
    obtain ⟨c, hc, hc1, hc4⟩ : ∃ c : Nat, (1 + r2).toNat = c ∧ 1 ≤ c ∧ c ≤ 4 := ⟨_, rfl, by omega, by omega⟩
    rw [hc] at hnm
    generalize hzs : ys.take c = zs at hnm
    have sub : ∀ y ∈ zs, y ∈ twelve := fun y hy => by
      rw [← hzs] at hy
      exact pm.subset (List.mem_of_mem_take hy)
    have zlen : zs.length ≤ 4 := by rw [← hzs, List.length_take]; omega
    obtain ⟨y0, zr, rfl⟩ : ∃ y0 zr, zs = y0 :: zr := by
      cases zs with
      | nil =>
        have e := pm.length_eq
        have e2 : ys.length = 12 := e
        have e3 := congrArg List.length hzs
        rw [List.length_take, List.length_nil] at e3
        omega
      | cons y0 zr => exact ⟨y0, zr, rfl⟩
    have s0 := twelve_small y0 (sub y0 List.mem_cons_self)
    have ssum := sum_small (y0 :: zr) fun y hy => (twelve_small y (sub y hy)).1
    have sshow := show_small (y0 :: zr) fun y hy => (twelve_small y (sub y hy)).2
    have line : ∀ {m : Nat}, m ≤ 10000 → m ≤ sizeLine := fun h => by rw [sizeLine_eq]; omega
    have zl : (y0 :: zr).length ≤ 100 := Nat.le_trans zlen (by decide)
    have zsum : ((y0 :: zr).map (·.length)).sum ≤ 10000 := by omega
    have st : (reprText "strange").length ≤ 100 ∧ (showL ["strange"]).length ≤ 100 ∧ ([("strange" : Str)].map (·.length)).sum ≤ 100 := by decide +kernel
    -- the rows and the others
    refine ⟨_, rfl, _, rfl, nm, _, _, _, rfl, rfl, SqL.of hnm, atI_nat (j := 0) rfl, _, rfl, nm, _, rfl, .inl (SqL.of hnm), fun lc hlc => ?_⟩
    refine ⟨r1 - z, y0, lc, y0 :: zr, rfl, lg _ nb, Nat.le_trans s0.2 (by decide), upd_same, zl, zsum, ?_⟩
    intro rr vs1 H5 S5 rr0 hrr R1
    refine ⟨_, rfl, _, _, rfl, rfl, (by rw [sizeLine_eq]; exact (by decide : 1 ≤ 16777216)), fun ld hld => ?_⟩
    refine ⟨r1 - z + 1, "strange", ld, ["strange"], rfl, lg _ nb1, Nat.le_trans st.1 (by decide), upd_same, by show 1 ≤ 100; decide, Nat.le_trans st.2.2 (by decide), ?_⟩
    intro rs vs2 H6 S6 rs0 hrs R2
    refine ⟨_, _, rfl, ?_⟩
    have Sa : Same H4 H5 := (Same.new (Same.refl H4) hlc).trans S5
    have Sb : Same H5 H6 := (Same.new (Same.refl H5) hld).trans S6
    have PA6 := PA5.same (Sa.trans Sb)
    have hnm6 := Sb _ _ (Sa _ _ hnm)
    have hlc6 := Sb _ _ (S5 _ _ upd_same)
    have hld6 := S6 _ _ upd_same
    have hrr6 := Sb _ _ hrr
    have R16 := R1.same Sb
    have ok1 := rows_ok R16 (lg _ nb) (line (Nat.le_trans s0.2 (by decide))) hlc6 (line (Nat.le_trans sshow (by omega)))
    have ok2 := rows_ok R2 (lg _ nb1) (line (Nat.le_trans st.1 (by decide))) hld6 (line (Nat.le_trans st.2.1 (by decide)))
    refine ⟨_, rfl, _, rfl, rr, rs, _, _, rfl, rfl, hrr6, hrs, line (by rw [rows_len R1, rows_len R2]; decide), fun L hL => ?_⟩
    have okL : ∀ x ∈ vs1 ++ vs2, RowOk cs (upd H6 L (.lst (vs1 ++ vs2))) x := fun x hx => (List.mem_append.mp hx).elim (fun z => (ok1 x z).same (Same.new (Same.refl H6) hL)) fun z => (ok2 x z).same (Same.new (Same.refl H6) hL)
    have SL : Same H6 (upd H6 L (.lst (vs1 ++ vs2))) := Same.new (Same.refl H6) hL
    have hLL : (upd H6 L (.lst (vs1 ++ vs2)) : Hp) L = some (.lst (vs1 ++ vs2)) := upd_same
    generalize upd H6 L (.lst (vs1 ++ vs2)) = HL at okL SL hLL ⊢
    refine ⟨L, rfl, ⟨_, SqL.of hLL⟩, for_list (K := K) (a := L) (xs := vs1 ++ vs2) (fun j σ H' => ∃ (w7 w8 w9 w10 : Option V), σ = [some (.ref sc), some (.ref p), some (.int (0 + i)), some (.int (r1 - z)), some (.ref nm), some (.ref rr), some (.ref rs), w7, w8, w9, w10, v11] ∧ Same HL H')
      ⟨v7, v8, v9, v10, rfl, Same.refl HL⟩ (fun j σ H' _ ⟨_, _, _, _, _, s7⟩ => SqL.of (s7 _ _ hLL)) ?_ ?_⟩
    · rintro j x σ H7 hx ⟨w7, w8, w9, w10, rfl, S7⟩
      obtain ⟨ci, f', xv, due, e, d, RW, AL⟩ := ((okL x (List.mem_of_getElem? hx)).same S7).ex
      obtain ⟨t', rfl, ht'⟩ := RW.v
      obtain ⟨txt, rp⟩ := AL.read (K := K)
      refine ⟨t', _, rfl, SqT.of ht', rfl, _, _, rfl, _, _, rfl, _, _, rfl, _, _, rfl, rfl, ?_⟩
      refine (rp _ 9 0 _).1 rfl ((rp _ 0 10 _).2 rfl ⟨by rfl, _, rfl, iteNS rfl ?_⟩)
      refine ⟨_, rfl, _, rfl, e, ci, some d, true, rfl, ⟨RW.e, fun dx q => by cases q; exact ⟨_, RW.d⟩⟩, fun H8 S8 => ⟨true, rfl, iteF ?_⟩⟩
      exact ⟨_, _, _, _, rfl, S7.trans S8⟩
    · rintro σ H7 ⟨w7, w8, w9, w10, rfl, S7⟩
      have S8 := SL.trans S7
      have hrr7 := S7 _ _ (SL _ _ hrr6)
      have hnm7 := S8 _ _ hnm6
      have PA7 := PA6.same S8
      obtain ⟨v0, v1, v2', v3', v4', v5', v6', v7', v8', e0, e1, e2, e3, e4, e5, e6, e7, e8, d0, d1, d2, d3, d4, d5, d6, d7, d8, l8, rfl, q0, q1, q2, q3, q4, q5, q6, q7, q8, hl8⟩ := (R16.same S8).ex
      obtain ⟨x0, rfl, hx0⟩ := q0.v
      obtain ⟨x3, rfl, hx3⟩ := q3.v
      obtain ⟨x8, rfl, hx8⟩ := q8.v
      refine ⟨_, rfl, rr, _, _, _, rfl, rfl, SqL.of hrr7, atI_nat (j := 0) rfl, x0, _, _, _, rfl, rfl, SqT.of hx0, atI_nat (j := 0) rfl, e0, cs 2, d0, _, .int (r1 - z), rfl, T.T 2, N.n2, q0.e, q0.d, by simp [List.lookup], .inl ⟨_, rfl, lg _ nb, ?_⟩⟩
      refine ⟨_, rfl, .inl ⟨r1 - z, rfl, lg _ nb, by rfl, _, rfl, iteNS rfl ?_⟩⟩
      refine ⟨_, rfl, rr, _, _, _, rfl, rfl, SqL.of hrr7, atI_nat (j := 3) rfl, x3, _, _, _, rfl, rfl, SqT.of hx3, atI_nat (j := 0) rfl, e3, cs 4, d3, _, .str y0, rfl, T.T 4, N.n4, q3.e, q3.d, by simp [List.lookup], ?_⟩
      refine ⟨_, rfl, nm, _, _, _, rfl, rfl, SqL.of hnm7, atI_nat (j := 0) rfl, by rfl, _, rfl, iteNS rfl ?_⟩
      refine ⟨_, rfl, rr, _, _, _, rfl, rfl, SqL.of hrr7, atI_nat (j := 8) rfl, x8, _, _, _, rfl, rfl, SqT.of hx8, atI_nat (j := 0) rfl, e8, cs 3, d8, _, .ref l8, rfl, T.T 3, N.n3, q8.e, q8.d, by simp [List.lookup], l8, _, rfl, .inl (SqL.of hl8), fun lz hlz => ?_⟩
      have zok : ∀ y ∈ y0 :: zr, PyData.strOk y = true := fun y hy => twelve_ok y (sub y hy)
      have PA8 := PA7.new (o := .lst ((y0 :: zr).map V.str)) hlz
      have hnm8 := (upd_ne (o := .lst ((y0 :: zr).map V.str)) (ne_of_none hnm7 hlz)).trans hnm7
      have ref : (PyData.list ((y0 :: zr).map PyData.str)).eqv (PyData.list ((y0 :: zr).map PyData.str)) = true := SeqAt.eqv_refl _ (by simpa only [PyData.canLay0] using strs_lay _ zok)
      refine ⟨_, rfl, _, _, .lst (SqL.of upd_same) (strs_dp _ _ (y0 :: zr)), .lst (SqL.of hnm8) (strs_dp _ _ (y0 :: zr)), strs_shaped _ zok, strs_shaped _ zok, _, rfl, ?_⟩
      rw [ref]
      refine iteF ?_
      -- NothingToUndo()
      refine ⟨by show 0 ≤ 1000; decide, fun em hem => ⟨em, rfl, upd_same, rfl, ?_⟩⟩
      refine ⟨_, rfl, _, rfl, em, cs 8, none, _, _, _, rfl, T.T 8, upd_same, (fun dx q => by cases q), (fun _ r => r), T.kitS 8, em, 8, none, true, rfl, ⟨upd_same, fun dx q => by cases q⟩, fun H9 S9 => ⟨true, rfl, iteF ?_⟩⟩
      exact ⟨t4, l4, _, _, _, _, _, _, _, _, _, _, rfl, (PA8.new hem).same S9, by omega⟩
  · rintro σ H' ⟨t, l, v2, v3, v4, v5, v6, v7, v8, v9, v10, v11, rfl, PA1, ht⟩
    exact k H'
end
end FP
set_option Elab.async false
set_option linter.all false
set_option maxRecDepth 100000
set_option maxHeartbeats 4000000
set_option exponentiation.threshold 2000
namespace FP
open PySem PySem.Spec PyProof.Rows L2 NdefX
abbrev veT : List Value := [.type "ValueError", .type "Exception", .type "BaseException", .type "object"]
/-- the raw facts of a class over the base at FE -/
structure Cl (K : W.Frag) (C FE : Addr) : Prop where
  x : ∃ nm q N bs sn sub ab col dd k0 k1 k2 k3 k5, K.lookup C = some (excClassObj nm q C N bs (.ref FE :: veT) true sn sub ab col dd k0 k1 k2 k3 k5 "ValueError.__new__")
  sa : W.findIn K (.ref C) "__setattr__" = some (some (.builtin "object.__setattr__"))
  ga : W.findIn K (.ref C) "__getattribute__" = some (some (.builtin "BaseException.__getattribute__"))
  gg : W.findIn K (.ref C) "__getattr__" = some none
  ca : W.findIn K (.ref C) "__class__" = some (some (.builtin "object.__class__"))
  kC : W.keepIn K (.ref C) = true
/-- .. of the base, of the world -/
structure Gen (K : W.Frag) (FE : Addr) : Prop where
  x : ∃ cd, W.clsIn K FE = some cd ∧ cd.mro = .ref FE :: veT
  t : W.typeIn K (.ref FE) = some (.type "type")
  i : W.findIn K (.ref FE) "__init__" = some (some (.builtin "ValueError.__init__"))
  cn : W.specialIn K (.builtin "object.__class__") "__get__" = some (some (.builtin "getset_descriptor.__get__"))
  ct : W.takesIn K (.builtin "object.__class__") = some true
  op : W.nsIn K cStatics "thirdparty.any" = some none
theorem Cl.cls {K : W.Frag} {C FE : Addr} (c : Cl K C FE) : ∃ cd, W.clsIn K C = some cd ∧ cd.mro = .ref C :: .ref FE :: veT ∧ cd.hasDict = true := by
  obtain ⟨nm, q, N, bs, sn, sub, ab, col, dd, k0, k1, k2, k3, k5, h⟩ := c.x
  exact ⟨_, by unfold W.clsIn; rw [h] <;> rfl, rfl, rfl⟩
theorem Cl.ty {K : W.Frag} {C FE : Addr} (c : Cl K C FE) : W.typeIn K (.ref C) = some (.type "type") := by
  obtain ⟨nm, q, N, bs, sn, sub, ab, col, dd, k0, k1, k2, k3, k5, h⟩ := c.x
  show (K.lookup C).map (·.cls) = _
  rw [h]
  rfl
theorem Cl.sub {K : W.Frag} {C FE : Addr} (c : Cl K C FE) (v : Value) : W.subIn K (.ref C) v = some ((Value.ref C :: .ref FE :: veT).contains v) := by
  obtain ⟨cd, h, e, _⟩ := c.cls
  show W.mroIn K C v = _
  unfold W.mroIn
  rw [h, Option.bind_some, e]
  rfl
theorem Cl.exk {K : W.Frag} {C FE : Addr} (c : Cl K C FE) (g : Gen K FE) : ExK K C := by
  have has : ∀ X : String, veT.contains (.type X) = true → (Value.ref C :: .ref FE :: veT).contains (.type X) = true := fun X h => by
    rw [List.contains_cons, List.contains_cons, h, Bool.or_true, Bool.or_true]
  obtain ⟨cd, h, e, hd⟩ := c.cls
  have iB : W.subIn K (.ref C) (.type "BaseException") = some true := by rw [c.sub, has _ (by decide +kernel)]
  refine ⟨⟨?_, c.sa, iB, c.ty, c.kC⟩, c.ga, c.gg, ?_, c.ca, g.cn, g.ct, ?_, ?_, ?_, ?_, g.op⟩
  · obtain ⟨nm, q, N, bs, sn, sub, ab, col, dd, k0, k1, k2, k3, k5, z⟩ := c.x
    exact ⟨nm, q, N, bs, _, sn, sub, ab, col, dd, k0, k1, k2, k3, k5, z, by show HandSPX.refsVE veT = true; decide +kernel⟩
  · unfold W.hasDictIn
    rw [h]
    exact hd
  · have z := c.sub (.type "object")
    rw [has _ (by decide +kernel)] at z
    exact z
  · rw [c.sub, has _ (by decide +kernel)]
  · obtain ⟨cf, h1, h2⟩ := g.x
    have z := g.i
    unfold W.findIn at z
    unfold W.clsIn at h1
    unfold W.ks_superIn
    rw [h, Option.bind_some, e]
    have dr : ((Value.ref C :: .ref FE :: veT).dropWhile (· != .ref C)).drop 1 = .ref FE :: veT := by simp [List.dropWhile_cons]
    rw [dr]
    split at h1
    · rename_i lk
      cases h1
      dsimp only at z
      rw [lk] at z
      rw [← h2]
      exact z
    · cases h1
  · have z := c.sub (.ref C)
    rw [List.contains_cons, beq_self_eq_true, Bool.true_or] at z
    exact z
theorem Cl.kit {K : W.Frag} {C D FE FE' : Addr} (c : Cl K C FE) (d : Cl K D FE') (n : D ≠ C) (nF : D ≠ FE) : W.kitOne K (.ref C) (.ref D) = some false := by
  obtain ⟨cd, h, _, _⟩ := d.cls
  have ne : (Value.ref C == Value.ref D) = false := by simpa using fun z : C = D => n z.symm
  have ne2 : ∀ {A : Addr}, D ≠ A → (Value.ref D == Value.ref A) = false := fun {A} h => by simpa using h
  unfold W.kitOne
  rw [ne, if_neg Bool.false_ne_true]
  show (if ((W.clsIn K D).isSome && W.typeIn K (.ref D) == some (.type "type")) = true then W.subIn K (.ref C) (.ref D) else none) = some false
  rw [h, d.ty, if_pos (by simp), c.sub, List.contains_cons, List.contains_cons, ne2 n, ne2 nF]
  rfl
theorem kit_me {K : W.Frag} {C : Addr} : W.kitOne K (.ref C) (.ref C) = some true := by
  unfold W.kitOne
  rw [beq_self_eq_true, if_pos rfl]
theorem Cl.kitF {K : W.Frag} {C FE : Addr} (c : Cl K C FE) (g : Gen K FE) (n : FE ≠ C) : W.kitOne K (.ref C) (.ref FE) = some true := by
  obtain ⟨cd, h, _⟩ := g.x
  have ne : (Value.ref C == Value.ref FE) = false := by simpa using fun z : C = FE => n z.symm
  unfold W.kitOne
  rw [ne, if_neg Bool.false_ne_true]
  show (if ((W.clsIn K FE).isSome && W.typeIn K (.ref FE) == some (.type "type")) = true then W.subIn K (.ref C) (.ref FE) else none) = some true
  rw [h, g.t, if_pos (by simp), c.sub, List.contains_cons, List.contains_cons, beq_self_eq_true, Bool.true_or, Bool.or_true]
theorem Cl.kitV {K : W.Frag} {C FE : Addr} (c : Cl K C FE) : W.kitOne K (.ref C) (.type "ValueError") = some true := by
  unfold W.kitOne
  rw [if_neg (by intro z; have := beq_iff_eq.mp z; cases this)]
  show (if W.kitMeta "ValueError" = true then W.subIn K (.ref C) (.type "ValueError") else none) = some true
  rw [if_pos (by decide +kernel), c.sub, List.contains_cons, List.contains_cons]
  have : veT.contains (.type "ValueError") = true := by decide +kernel
  rw [this, Bool.or_true, Bool.or_true]
def csOf (c0 c1 c2 c3 c4 c5 c6 c7 c8 c9 : Addr) : Fin 10 → Addr := fun i => [c0, c1, c2, c3, c4, c5, c6, c7, c8, c9].getD i.val 0
theorem ten {p : Fin 10 → Prop} (h0 : p 0) (h1 : p 1) (h2 : p 2) (h3 : p 3) (h4 : p 4) (h5 : p 5) (h6 : p 6) (h7 : p 7) (h8 : p 8) (h9 : p 9) : ∀ i, p i := fun i => match i with
  | 0 => h0 | 1 => h1 | 2 => h2 | 3 => h3 | 4 => h4 | 5 => h5 | 6 => h6 | 7 => h7 | 8 => h8 | 9 => h9
theorem txt_mk {K : W.Frag} {mg : Str → Option Value} {cs : Fin 10 → Addr} {FE : Addr} (cl : ∀ i, Cl K (cs i) FE) (g : Gen K FE) (inj : ∀ i j, cs i = cs j → i = j) (nF : ∀ i, cs i ≠ FE)
    (gm : ∀ i : Fin 10, mg ((["BadLot", "BadName", "BadProgram", "Barred", "NoCell", "NoGuard", "NoLine", "Taken", "NothingToUndo", "Outermost"] : List Str).getD i.val "") = some (.ref (cs i)))
    (gF : mg "FrameError" = some (.ref FE)) (gV : mg "ValueError" = none) (gI : mg "isinstance" = none) (gL : mg "len" = none) : Txt10 K mg cs FE where
  T := fun i => (cl i).exk g
  g0 := gm 0
  g1 := gm 1
  g2 := gm 2
  g3 := gm 3
  g4 := gm 4
  g5 := gm 5
  g6 := gm 6
  g7 := gm 7
  g8 := gm 8
  g9 := gm 9
  gF := gF
  gV := gV
  gI := gI
  gL := gL
  kit := fun i j => by
    by_cases h : i = j
    · subst h
      rw [kit_me, decide_eq_true rfl]
    · rw [(cl i).kit (cl j) (fun z => h (inj _ _ z.symm)) (nF j), decide_eq_false h]
  kF := fun i => (cl i).kitF g (nF i).symm
  kV := fun i => (cl i).kitV
theorem all_mk {w : World} {K : W.Frag} {h : Heap} {mg : Str → Option Value} {fa FE c0 c1 c2 c3 c4 c5 c6 c7 c8 c9 : Addr}
    {nm0 q0 : Str} {N0 : Addr} {bs0 : List Value} {sn0 : List Str} {sub0 : List Value} {ab0 : Bool} {col0 : Option Bool} {dd0 : Option Addr} {ka0 kb0 kc0 kd0 ke0 : Option Value}
    {f0 cc0 cda0 : Addr} {kV0 doc0 pm0 ct0 oc0 cl0 : Value} {an0 od0 cld0 odb0 : Option Addr} {osl0 csl0 slb0 : Array (Option Value)} {cb0 : Value} {vs0 : Array Value} {tf0 : Tok}
    {nm1 q1 : Str} {N1 : Addr} {bs1 : List Value} {sn1 : List Str} {sub1 : List Value} {ab1 : Bool} {col1 : Option Bool} {dd1 : Option Addr} {ka1 kb1 kc1 kd1 ke1 : Option Value}
    {f1 cc1 cda1 : Addr} {kV1 doc1 pm1 ct1 oc1 cl1 : Value} {an1 od1 cld1 odb1 : Option Addr} {osl1 csl1 slb1 : Array (Option Value)} {cb1 : Value} {vs1 : Array Value} {tf1 : Tok}
    {nm2 q2 : Str} {N2 : Addr} {bs2 : List Value} {sn2 : List Str} {sub2 : List Value} {ab2 : Bool} {col2 : Option Bool} {dd2 : Option Addr} {ka2 kb2 kc2 kd2 ke2 : Option Value}
    {f2 cc2 cda2 : Addr} {kV2 doc2 pm2 ct2 oc2 cl2 : Value} {an2 od2 cld2 odb2 : Option Addr} {osl2 csl2 slb2 : Array (Option Value)} {cb2 : Value} {vs2 : Array Value} {tf2 : Tok}
    {nm3 q3 : Str} {N3 : Addr} {bs3 : List Value} {sn3 : List Str} {sub3 : List Value} {ab3 : Bool} {col3 : Option Bool} {dd3 : Option Addr} {ka3 kb3 kc3 kd3 ke3 : Option Value}
    {f3 cc3 cda3 : Addr} {kV3 doc3 pm3 ct3 oc3 cl3 : Value} {an3 od3 cld3 odb3 : Option Addr} {osl3 csl3 slb3 : Array (Option Value)} {cb3 : Value} {vs3 : Array Value} {tf3 : Tok}
    {nm4 q4 : Str} {N4 : Addr} {bs4 : List Value} {sn4 : List Str} {sub4 : List Value} {ab4 : Bool} {col4 : Option Bool} {dd4 : Option Addr} {ka4 kb4 kc4 kd4 ke4 : Option Value}
    {f4 cc4 cda4 : Addr} {kV4 doc4 pm4 ct4 oc4 cl4 : Value} {an4 od4 cld4 odb4 : Option Addr} {osl4 csl4 slb4 : Array (Option Value)} {cb4 : Value} {vs4 : Array Value} {tf4 : Tok}
    {nm5 q5 : Str} {N5 : Addr} {bs5 : List Value} {sn5 : List Str} {sub5 : List Value} {ab5 : Bool} {col5 : Option Bool} {dd5 : Option Addr} {ka5 kb5 kc5 kd5 ke5 : Option Value}
    {f5 cc5 cda5 : Addr} {kV5 doc5 pm5 ct5 oc5 cl5 : Value} {an5 od5 cld5 odb5 : Option Addr} {osl5 csl5 slb5 : Array (Option Value)} {cb5 : Value} {vs5 : Array Value} {tf5 : Tok}
    {nm6 q6 : Str} {N6 : Addr} {bs6 : List Value} {sn6 : List Str} {sub6 : List Value} {ab6 : Bool} {col6 : Option Bool} {dd6 : Option Addr} {ka6 kb6 kc6 kd6 ke6 : Option Value}
    {f6 cc6 cda6 : Addr} {kV6 doc6 pm6 ct6 oc6 cl6 : Value} {an6 od6 cld6 odb6 : Option Addr} {osl6 csl6 slb6 : Array (Option Value)} {cb6 : Value} {vs6 : Array Value} {tf6 : Tok}
    {nm7 q7 : Str} {N7 : Addr} {bs7 : List Value} {sn7 : List Str} {sub7 : List Value} {ab7 : Bool} {col7 : Option Bool} {dd7 : Option Addr} {ka7 kb7 kc7 kd7 ke7 : Option Value}
    {f7 cc7 cda7 : Addr} {kV7 doc7 pm7 ct7 oc7 cl7 : Value} {an7 od7 cld7 odb7 : Option Addr} {osl7 csl7 slb7 : Array (Option Value)} {cb7 : Value} {vs7 : Array Value} {tf7 : Tok}
    {nm8 q8 : Str} {N8 : Addr} {bs8 : List Value} {sn8 : List Str} {sub8 : List Value} {ab8 : Bool} {col8 : Option Bool} {dd8 : Option Addr} {ka8 kb8 kc8 kd8 ke8 : Option Value}
    {f8 cc8 cda8 : Addr} {kV8 doc8 pm8 ct8 oc8 cl8 : Value} {an8 od8 cld8 odb8 : Option Addr} {osl8 csl8 slb8 : Array (Option Value)} {cb8 : Value} {vs8 : Array Value} {tf8 : Tok}
    {nm9 q9 : Str} {N9 : Addr} {bs9 : List Value} {sn9 : List Str} {sub9 : List Value} {ab9 : Bool} {col9 : Option Bool} {dd9 : Option Addr} {ka9 kb9 kc9 kd9 ke9 : Option Value}
    {f9 cc9 cda9 : Addr} {kV9 doc9 pm9 ct9 oc9 cl9 : Value} {an9 od9 cld9 odb9 : Option Addr} {osl9 csl9 slb9 : Array (Option Value)} {cb9 : Value} {vs9 : Array Value} {tf9 : Tok}
    {hP : Addr} {odP anP : Option Addr} {slP : Array (Option Value)} {ocP kVP dcP pmP cdP ctP : Value}
    {hD : Addr} {odD anD : Option Addr} {slD : Array (Option Value)} {ocD kVD dcD pmD cdD ctD : Value}
    {hK : Addr} {odK anK : Option Addr} {slK : Array (Option Value)} {ocK kVK dcK pmK cdK ctK : Value}
    {hS : Addr} {odS anS : Option Addr} {slS : Array (Option Value)} {ocS kVS dcS pmS cdS ctS : Value}
    {hN : Addr} {odN anN : Option Addr} {slN : Array (Option Value)} {ocN kVN dcN pmN cdN ctN : Value}
    {hI : Addr} {odI anI : Option Addr} {slI : Array (Option Value)} {ocI kVI dcI pmI cdI ctI : Value}
    {hM : Addr} {odM anM : Option Addr} {slM : Array (Option Value)} {ocM kVM dcM pmM cdM ctM : Value}
    {hL cdL : Addr} {odL anL : Option Addr} {slL : Array (Option Value)} {ocL kVL dcL pmL ctL : Value}
    {cdF : ClassData}
    (X : K.In h) (G : h.Ns mainGlobals mg) (hfa : mg "law" = some (.ref fa))
    (g0 : W.nsIn K mainGlobals "BadLot" = some (some (.ref c0)))
    (x0 : K.lookup c0 = some (excClassObj nm0 q0 c0 N0 bs0 (.ref FE :: veT) true sn0 sub0 ab0 col0 dd0 ka0 kb0 kc0 kd0 ke0 "ValueError.__new__"))
    (sa0 : W.findIn K (.ref c0) "__setattr__" = some (some (.builtin "object.__setattr__")))
    (ga0 : W.findIn K (.ref c0) "__getattribute__" = some (some (.builtin "BaseException.__getattribute__")))
    (gg0 : W.findIn K (.ref c0) "__getattr__" = some none)
    (ca0 : W.findIn K (.ref c0) "__class__" = some (some (.builtin "object.__class__")))
    (kc0_ : W.keepIn K (.ref c0) = true)
    (i0 : W.findIn K (.ref c0) "__init__" = some (some (.ref f0)))
    (ti0 : W.typeIn K (.ref f0) = some (.type "function"))
    (l0 : K.lookup f0 = some ⟨oc0, od0, .func (W.fnX "__init__" "BadLot.__init__" (defArgs sBadLot) (defBody sBadLot) (defScope sBadLot) [("__class__", cc0)] .none kV0 doc0 pm0 an0 (.ref cda0) ct0), osl0⟩)
    (cd0 : W.codeIn K (.ref cda0) "BadLot.__init__" = true)
    (ce0 : K.lookup cc0 = some ⟨cl0, cld0, .cell (some (.ref c0)), csl0⟩)
    (cr0 : K.lookup cda0 = some ⟨cb0, odb0, .fields vs0, slb0⟩)
    (v0 : vs0[2]? = some (.str "/claim/cut.py" tf0))
    (no0 : W.findIn K (.ref c0) "index" = some none)
    (g1 : W.nsIn K mainGlobals "BadName" = some (some (.ref c1)))
    (x1 : K.lookup c1 = some (excClassObj nm1 q1 c1 N1 bs1 (.ref FE :: veT) true sn1 sub1 ab1 col1 dd1 ka1 kb1 kc1 kd1 ke1 "ValueError.__new__"))
    (sa1 : W.findIn K (.ref c1) "__setattr__" = some (some (.builtin "object.__setattr__")))
    (ga1 : W.findIn K (.ref c1) "__getattribute__" = some (some (.builtin "BaseException.__getattribute__")))
    (gg1 : W.findIn K (.ref c1) "__getattr__" = some none)
    (ca1 : W.findIn K (.ref c1) "__class__" = some (some (.builtin "object.__class__")))
    (kc1_ : W.keepIn K (.ref c1) = true)
    (i1 : W.findIn K (.ref c1) "__init__" = some (some (.ref f1)))
    (ti1 : W.typeIn K (.ref f1) = some (.type "function"))
    (l1 : K.lookup f1 = some ⟨oc1, od1, .func (W.fnX "__init__" "BadName.__init__" (defArgs sBadName) (defBody sBadName) (defScope sBadName) [("__class__", cc1)] .none kV1 doc1 pm1 an1 (.ref cda1) ct1), osl1⟩)
    (cd1 : W.codeIn K (.ref cda1) "BadName.__init__" = true)
    (ce1 : K.lookup cc1 = some ⟨cl1, cld1, .cell (some (.ref c1)), csl1⟩)
    (cr1 : K.lookup cda1 = some ⟨cb1, odb1, .fields vs1, slb1⟩)
    (v1 : vs1[2]? = some (.str "/claim/cut.py" tf1))
    (no1 : W.findIn K (.ref c1) "name" = some none)
    (g2 : W.nsIn K mainGlobals "BadProgram" = some (some (.ref c2)))
    (x2 : K.lookup c2 = some (excClassObj nm2 q2 c2 N2 bs2 (.ref FE :: veT) true sn2 sub2 ab2 col2 dd2 ka2 kb2 kc2 kd2 ke2 "ValueError.__new__"))
    (sa2 : W.findIn K (.ref c2) "__setattr__" = some (some (.builtin "object.__setattr__")))
    (ga2 : W.findIn K (.ref c2) "__getattribute__" = some (some (.builtin "BaseException.__getattribute__")))
    (gg2 : W.findIn K (.ref c2) "__getattr__" = some none)
    (ca2 : W.findIn K (.ref c2) "__class__" = some (some (.builtin "object.__class__")))
    (kc2_ : W.keepIn K (.ref c2) = true)
    (i2 : W.findIn K (.ref c2) "__init__" = some (some (.ref f2)))
    (ti2 : W.typeIn K (.ref f2) = some (.type "function"))
    (l2 : K.lookup f2 = some ⟨oc2, od2, .func (W.fnX "__init__" "BadProgram.__init__" (defArgs sBadProgram) (defBody sBadProgram) (defScope sBadProgram) [("__class__", cc2)] .none kV2 doc2 pm2 an2 (.ref cda2) ct2), osl2⟩)
    (cd2 : W.codeIn K (.ref cda2) "BadProgram.__init__" = true)
    (ce2 : K.lookup cc2 = some ⟨cl2, cld2, .cell (some (.ref c2)), csl2⟩)
    (cr2 : K.lookup cda2 = some ⟨cb2, odb2, .fields vs2, slb2⟩)
    (v2 : vs2[2]? = some (.str "/claim/cut.py" tf2))
    (no2 : W.findIn K (.ref c2) "line" = some none)
    (g3 : W.nsIn K mainGlobals "Barred" = some (some (.ref c3)))
    (x3 : K.lookup c3 = some (excClassObj nm3 q3 c3 N3 bs3 (.ref FE :: veT) true sn3 sub3 ab3 col3 dd3 ka3 kb3 kc3 kd3 ke3 "ValueError.__new__"))
    (sa3 : W.findIn K (.ref c3) "__setattr__" = some (some (.builtin "object.__setattr__")))
    (ga3 : W.findIn K (.ref c3) "__getattribute__" = some (some (.builtin "BaseException.__getattribute__")))
    (gg3 : W.findIn K (.ref c3) "__getattr__" = some none)
    (ca3 : W.findIn K (.ref c3) "__class__" = some (some (.builtin "object.__class__")))
    (kc3_ : W.keepIn K (.ref c3) = true)
    (i3 : W.findIn K (.ref c3) "__init__" = some (some (.ref f3)))
    (ti3 : W.typeIn K (.ref f3) = some (.type "function"))
    (l3 : K.lookup f3 = some ⟨oc3, od3, .func (W.fnX "__init__" "Barred.__init__" (defArgs sBarred) (defBody sBarred) (defScope sBarred) [("__class__", cc3)] .none kV3 doc3 pm3 an3 (.ref cda3) ct3), osl3⟩)
    (cd3 : W.codeIn K (.ref cda3) "Barred.__init__" = true)
    (ce3 : K.lookup cc3 = some ⟨cl3, cld3, .cell (some (.ref c3)), csl3⟩)
    (cr3 : K.lookup cda3 = some ⟨cb3, odb3, .fields vs3, slb3⟩)
    (v3 : vs3[2]? = some (.str "/claim/cut.py" tf3))
    (no3 : W.findIn K (.ref c3) "names" = some none)
    (g4 : W.nsIn K mainGlobals "NoCell" = some (some (.ref c4)))
    (x4 : K.lookup c4 = some (excClassObj nm4 q4 c4 N4 bs4 (.ref FE :: veT) true sn4 sub4 ab4 col4 dd4 ka4 kb4 kc4 kd4 ke4 "ValueError.__new__"))
    (sa4 : W.findIn K (.ref c4) "__setattr__" = some (some (.builtin "object.__setattr__")))
    (ga4 : W.findIn K (.ref c4) "__getattribute__" = some (some (.builtin "BaseException.__getattribute__")))
    (gg4 : W.findIn K (.ref c4) "__getattr__" = some none)
    (ca4 : W.findIn K (.ref c4) "__class__" = some (some (.builtin "object.__class__")))
    (kc4_ : W.keepIn K (.ref c4) = true)
    (i4 : W.findIn K (.ref c4) "__init__" = some (some (.ref f4)))
    (ti4 : W.typeIn K (.ref f4) = some (.type "function"))
    (l4 : K.lookup f4 = some ⟨oc4, od4, .func (W.fnX "__init__" "NoCell.__init__" (defArgs sNoCell) (defBody sNoCell) (defScope sNoCell) [("__class__", cc4)] .none kV4 doc4 pm4 an4 (.ref cda4) ct4), osl4⟩)
    (cd4 : W.codeIn K (.ref cda4) "NoCell.__init__" = true)
    (ce4 : K.lookup cc4 = some ⟨cl4, cld4, .cell (some (.ref c4)), csl4⟩)
    (cr4 : K.lookup cda4 = some ⟨cb4, odb4, .fields vs4, slb4⟩)
    (v4 : vs4[2]? = some (.str "/claim/cut.py" tf4))
    (no4 : W.findIn K (.ref c4) "name" = some none)
    (g5 : W.nsIn K mainGlobals "NoGuard" = some (some (.ref c5)))
    (x5 : K.lookup c5 = some (excClassObj nm5 q5 c5 N5 bs5 (.ref FE :: veT) true sn5 sub5 ab5 col5 dd5 ka5 kb5 kc5 kd5 ke5 "ValueError.__new__"))
    (sa5 : W.findIn K (.ref c5) "__setattr__" = some (some (.builtin "object.__setattr__")))
    (ga5 : W.findIn K (.ref c5) "__getattribute__" = some (some (.builtin "BaseException.__getattribute__")))
    (gg5 : W.findIn K (.ref c5) "__getattr__" = some none)
    (ca5 : W.findIn K (.ref c5) "__class__" = some (some (.builtin "object.__class__")))
    (kc5_ : W.keepIn K (.ref c5) = true)
    (i5 : W.findIn K (.ref c5) "__init__" = some (some (.ref f5)))
    (ti5 : W.typeIn K (.ref f5) = some (.type "function"))
    (l5 : K.lookup f5 = some ⟨oc5, od5, .func (W.fnX "__init__" "NoGuard.__init__" (defArgs sNoGuard) (defBody sNoGuard) (defScope sNoGuard) [("__class__", cc5)] .none kV5 doc5 pm5 an5 (.ref cda5) ct5), osl5⟩)
    (cd5 : W.codeIn K (.ref cda5) "NoGuard.__init__" = true)
    (ce5 : K.lookup cc5 = some ⟨cl5, cld5, .cell (some (.ref c5)), csl5⟩)
    (cr5 : K.lookup cda5 = some ⟨cb5, odb5, .fields vs5, slb5⟩)
    (v5 : vs5[2]? = some (.str "/claim/cut.py" tf5))
    (no5 : W.findIn K (.ref c5) "name" = some none)
    (g6 : W.nsIn K mainGlobals "NoLine" = some (some (.ref c6)))
    (x6 : K.lookup c6 = some (excClassObj nm6 q6 c6 N6 bs6 (.ref FE :: veT) true sn6 sub6 ab6 col6 dd6 ka6 kb6 kc6 kd6 ke6 "ValueError.__new__"))
    (sa6 : W.findIn K (.ref c6) "__setattr__" = some (some (.builtin "object.__setattr__")))
    (ga6 : W.findIn K (.ref c6) "__getattribute__" = some (some (.builtin "BaseException.__getattribute__")))
    (gg6 : W.findIn K (.ref c6) "__getattr__" = some none)
    (ca6 : W.findIn K (.ref c6) "__class__" = some (some (.builtin "object.__class__")))
    (kc6_ : W.keepIn K (.ref c6) = true)
    (i6 : W.findIn K (.ref c6) "__init__" = some (some (.ref f6)))
    (ti6 : W.typeIn K (.ref f6) = some (.type "function"))
    (l6 : K.lookup f6 = some ⟨oc6, od6, .func (W.fnX "__init__" "NoLine.__init__" (defArgs sNoLine) (defBody sNoLine) (defScope sNoLine) [("__class__", cc6)] .none kV6 doc6 pm6 an6 (.ref cda6) ct6), osl6⟩)
    (cd6 : W.codeIn K (.ref cda6) "NoLine.__init__" = true)
    (ce6 : K.lookup cc6 = some ⟨cl6, cld6, .cell (some (.ref c6)), csl6⟩)
    (cr6 : K.lookup cda6 = some ⟨cb6, odb6, .fields vs6, slb6⟩)
    (v6 : vs6[2]? = some (.str "/claim/cut.py" tf6))
    (no6 : W.findIn K (.ref c6) "line" = some none)
    (g7 : W.nsIn K mainGlobals "Taken" = some (some (.ref c7)))
    (x7 : K.lookup c7 = some (excClassObj nm7 q7 c7 N7 bs7 (.ref FE :: veT) true sn7 sub7 ab7 col7 dd7 ka7 kb7 kc7 kd7 ke7 "ValueError.__new__"))
    (sa7 : W.findIn K (.ref c7) "__setattr__" = some (some (.builtin "object.__setattr__")))
    (ga7 : W.findIn K (.ref c7) "__getattribute__" = some (some (.builtin "BaseException.__getattribute__")))
    (gg7 : W.findIn K (.ref c7) "__getattr__" = some none)
    (ca7 : W.findIn K (.ref c7) "__class__" = some (some (.builtin "object.__class__")))
    (kc7_ : W.keepIn K (.ref c7) = true)
    (i7 : W.findIn K (.ref c7) "__init__" = some (some (.ref f7)))
    (ti7 : W.typeIn K (.ref f7) = some (.type "function"))
    (l7 : K.lookup f7 = some ⟨oc7, od7, .func (W.fnX "__init__" "Taken.__init__" (defArgs sTaken) (defBody sTaken) (defScope sTaken) [("__class__", cc7)] .none kV7 doc7 pm7 an7 (.ref cda7) ct7), osl7⟩)
    (cd7 : W.codeIn K (.ref cda7) "Taken.__init__" = true)
    (ce7 : K.lookup cc7 = some ⟨cl7, cld7, .cell (some (.ref c7)), csl7⟩)
    (cr7 : K.lookup cda7 = some ⟨cb7, odb7, .fields vs7, slb7⟩)
    (v7 : vs7[2]? = some (.str "/claim/cut.py" tf7))
    (no7 : W.findIn K (.ref c7) "name" = some none)
    (g8 : W.nsIn K mainGlobals "NothingToUndo" = some (some (.ref c8)))
    (x8 : K.lookup c8 = some (excClassObj nm8 q8 c8 N8 bs8 (.ref FE :: veT) true sn8 sub8 ab8 col8 dd8 ka8 kb8 kc8 kd8 ke8 "ValueError.__new__"))
    (sa8 : W.findIn K (.ref c8) "__setattr__" = some (some (.builtin "object.__setattr__")))
    (ga8 : W.findIn K (.ref c8) "__getattribute__" = some (some (.builtin "BaseException.__getattribute__")))
    (gg8 : W.findIn K (.ref c8) "__getattr__" = some none)
    (ca8 : W.findIn K (.ref c8) "__class__" = some (some (.builtin "object.__class__")))
    (kc8_ : W.keepIn K (.ref c8) = true)
    (i8 : W.findIn K (.ref c8) "__init__" = some (some (.ref f8)))
    (ti8 : W.typeIn K (.ref f8) = some (.type "function"))
    (l8 : K.lookup f8 = some ⟨oc8, od8, .func (W.fnX "__init__" "NothingToUndo.__init__" (defArgs sNothing) (defBody sNothing) (defScope sNothing) [("__class__", cc8)] .none kV8 doc8 pm8 an8 (.ref cda8) ct8), osl8⟩)
    (cd8 : W.codeIn K (.ref cda8) "NothingToUndo.__init__" = true)
    (ce8 : K.lookup cc8 = some ⟨cl8, cld8, .cell (some (.ref c8)), csl8⟩)
    (cr8 : K.lookup cda8 = some ⟨cb8, odb8, .fields vs8, slb8⟩)
    (v8 : vs8[2]? = some (.str "/claim/cut.py" tf8))
    (g9 : W.nsIn K mainGlobals "Outermost" = some (some (.ref c9)))
    (x9 : K.lookup c9 = some (excClassObj nm9 q9 c9 N9 bs9 (.ref FE :: veT) true sn9 sub9 ab9 col9 dd9 ka9 kb9 kc9 kd9 ke9 "ValueError.__new__"))
    (sa9 : W.findIn K (.ref c9) "__setattr__" = some (some (.builtin "object.__setattr__")))
    (ga9 : W.findIn K (.ref c9) "__getattribute__" = some (some (.builtin "BaseException.__getattribute__")))
    (gg9 : W.findIn K (.ref c9) "__getattr__" = some none)
    (ca9 : W.findIn K (.ref c9) "__class__" = some (some (.builtin "object.__class__")))
    (kc9_ : W.keepIn K (.ref c9) = true)
    (i9 : W.findIn K (.ref c9) "__init__" = some (some (.ref f9)))
    (ti9 : W.typeIn K (.ref f9) = some (.type "function"))
    (l9 : K.lookup f9 = some ⟨oc9, od9, .func (W.fnX "__init__" "Outermost.__init__" (defArgs sOutermost) (defBody sOutermost) (defScope sOutermost) [("__class__", cc9)] .none kV9 doc9 pm9 an9 (.ref cda9) ct9), osl9⟩)
    (cd9 : W.codeIn K (.ref cda9) "Outermost.__init__" = true)
    (ce9 : K.lookup cc9 = some ⟨cl9, cld9, .cell (some (.ref c9)), csl9⟩)
    (cr9 : K.lookup cda9 = some ⟨cb9, odb9, .fields vs9, slb9⟩)
    (v9 : vs9[2]? = some (.str "/claim/cut.py" tf9))
    (no9 : W.findIn K (.ref c9) "name" = some none)
    (aP : W.nsIn K mainGlobals "_law_begun_pen" = some (some (.ref hP)))
    (lP : K.lookup hP = some ⟨ocP, odP, .func (W.fnOf "_law_begun_pen" "_law_begun_pen" (defArgs sPen) (defBody sPen) (defScope sPen) .none kVP dcP pmP anP cdP ctP), slP⟩)
    (wP : W.codeIn K cdP "_law_begun_pen" = true)
    (kP : W.keepIn K (.ref hP) = true)
    (aD : W.nsIn K mainGlobals "_law_draw" = some (some (.ref hD)))
    (lD : K.lookup hD = some ⟨ocD, odD, .func (W.fnOf "_law_draw" "_law_draw" (defArgs sDraw) (defBody sDraw) (defScope sDraw) .none kVD dcD pmD anD cdD ctD), slD⟩)
    (wD : W.codeIn K cdD "_law_draw" = true)
    (kD : W.keepIn K (.ref hD) = true)
    (aK : W.nsIn K mainGlobals "_law_pick" = some (some (.ref hK)))
    (lK : K.lookup hK = some ⟨ocK, odK, .func (W.fnOf "_law_pick" "_law_pick" (defArgs sPick) (defBody sPick) (defScope sPick) .none kVK dcK pmK anK cdK ctK), slK⟩)
    (wK : W.codeIn K cdK "_law_pick" = true)
    (kK : W.keepIn K (.ref hK) = true)
    (aS : W.nsIn K mainGlobals "_law_shuffled" = some (some (.ref hS)))
    (lS : K.lookup hS = some ⟨ocS, odS, .func (W.fnOf "_law_shuffled" "_law_shuffled" (defArgs sShuf) (defBody sShuf) (defScope sShuf) .none kVS dcS pmS anS cdS ctS), slS⟩)
    (wS : W.codeIn K cdS "_law_shuffled" = true)
    (kS : W.keepIn K (.ref hS) = true)
    (aN : W.nsIn K mainGlobals "_law_new_names" = some (some (.ref hN)))
    (lN : K.lookup hN = some ⟨ocN, odN, .func (W.fnOf "_law_new_names" "_law_new_names" (defArgs sNames) (defBody sNames) (defScope sNames) .none kVN dcN pmN anN cdN ctN), slN⟩)
    (wN : W.codeIn K cdN "_law_new_names" = true)
    (kN : W.keepIn K (.ref hN) = true)
    (aI : W.nsIn K mainGlobals "_law_is_one" = some (some (.ref hI)))
    (lI : K.lookup hI = some ⟨ocI, odI, .func (W.fnOf "_law_is_one" "_law_is_one" (defArgs sIsOne) (defBody sIsOne) (defScope sIsOne) .none kVI dcI pmI anI cdI ctI), slI⟩)
    (wI : W.codeIn K cdI "_law_is_one" = true)
    (kI : W.keepIn K (.ref hI) = true)
    (aM : W.nsIn K mainGlobals "_law_made" = some (some (.ref hM)))
    (lM : K.lookup hM = some ⟨ocM, odM, .func (W.fnOf "_law_made" "_law_made" (defArgs sMade) (defBody sMade) (defScope sMade) .none kVM dcM pmM anM cdM ctM), slM⟩)
    (wM : W.codeIn K cdM "_law_made" = true)
    (kM : W.keepIn K (.ref hM) = true)
    (aL : W.nsIn K mainGlobals "law" = some (some (.ref hL)))
    (lL : K.lookup hL = some ⟨ocL, odL, .func (W.fnOf "law" "law" (defArgs sLaw) (defBody sLaw) (defScope sLaw) .none kVL dcL pmL anL (.ref cdL) ctL), slL⟩)
    (wL : W.codeIn K (.ref cdL) "law" = true)
    (aF : W.nsIn K mainGlobals "FrameError" = some (some (.ref FE)))
    (xF : W.clsIn K FE = some cdF)
    (mF : cdF.mro = .ref FE :: veT)
    (tF : W.typeIn K (.ref FE) = some (.type "type"))
    (iF : W.findIn K (.ref FE) "__init__" = some (some (.builtin "ValueError.__init__")))
    (cn : W.specialIn K (.builtin "object.__class__") "__get__" = some (some (.builtin "getset_descriptor.__get__")))
    (ct : W.takesIn K (.builtin "object.__class__") = some true)
    (op : W.nsIn K cStatics "thirdparty.any" = some none)
    (zV : W.nsIn K mainGlobals "ValueError" = some none)
    (zI : W.nsIn K mainGlobals "isinstance" = some none)
    (zL : W.nsIn K mainGlobals "len" = some none)
    (zi : W.nsIn K mainGlobals "int" = some none)
    (za : W.nsIn K mainGlobals "abs" = some none)
    (zl : W.nsIn K mainGlobals "list" = some none)
    (zr : W.nsIn K mainGlobals "range" = some none)
    (zp : W.nsIn K mainGlobals "repr" = some none)
    (zs : W.nsIn K mainGlobals "super" = some none)
    (nd : [c0, c1, c2, c3, c4, c5, c6, c7, c8, c9, FE].Nodup) :
    ∃ fd : FuncData, (∀ (s : Shared) (v : Value), BindsTo s fd ⟨[v], []⟩ [("_law_script", v)]) ∧ ∀ base : Heap, K.In base → base.Ns mainGlobals mg → LawOk PP w K mg base 4 fa fd "_law_script" (spLaw K) := by
  have e := hfa.symm.trans (W.mg_of X G aL)
  cases e
  have M := fun {n : Str} {v : Value} (e : W.nsIn K mainGlobals n = some (some v)) => W.mg_of X G e
  have Z := fun {n : Str} (e : W.nsIn K mainGlobals n = some none) => W.mg_none_of X G e
  have g : Gen K FE := ⟨⟨cdF, xF, mF⟩, tF, iF, cn, ct, op⟩
  have cl : ∀ i, Cl K (csOf c0 c1 c2 c3 c4 c5 c6 c7 c8 c9 i) FE := ten ⟨⟨_, _, _, _, _, _, _, _, _, _, _, _, _, _, x0⟩, sa0, ga0, gg0, ca0, kc0_⟩ ⟨⟨_, _, _, _, _, _, _, _, _, _, _, _, _, _, x1⟩, sa1, ga1, gg1, ca1, kc1_⟩ ⟨⟨_, _, _, _, _, _, _, _, _, _, _, _, _, _, x2⟩, sa2, ga2, gg2, ca2, kc2_⟩ ⟨⟨_, _, _, _, _, _, _, _, _, _, _, _, _, _, x3⟩, sa3, ga3, gg3, ca3, kc3_⟩ ⟨⟨_, _, _, _, _, _, _, _, _, _, _, _, _, _, x4⟩, sa4, ga4, gg4, ca4, kc4_⟩ ⟨⟨_, _, _, _, _, _, _, _, _, _, _, _, _, _, x5⟩, sa5, ga5, gg5, ca5, kc5_⟩ ⟨⟨_, _, _, _, _, _, _, _, _, _, _, _, _, _, x6⟩, sa6, ga6, gg6, ca6, kc6_⟩ ⟨⟨_, _, _, _, _, _, _, _, _, _, _, _, _, _, x7⟩, sa7, ga7, gg7, ca7, kc7_⟩ ⟨⟨_, _, _, _, _, _, _, _, _, _, _, _, _, _, x8⟩, sa8, ga8, gg8, ca8, kc8_⟩ ⟨⟨_, _, _, _, _, _, _, _, _, _, _, _, _, _, x9⟩, sa9, ga9, gg9, ca9, kc9_⟩
  have l : ∀ i : Fin 10, i.val < [c0, c1, c2, c3, c4, c5, c6, c7, c8, c9].length := fun i => i.isLt
  have ndq : [c0, c1, c2, c3, c4, c5, c6, c7, c8, c9].Nodup ∧ [FE].Nodup ∧ ∀ a ∈ [c0, c1, c2, c3, c4, c5, c6, c7, c8, c9], ∀ b ∈ [FE], a ≠ b := by
    have q := nd
    rw [show [c0, c1, c2, c3, c4, c5, c6, c7, c8, c9, FE] = [c0, c1, c2, c3, c4, c5, c6, c7, c8, c9] ++ [FE] from rfl] at q
    exact List.nodup_append.mp q
  have at_ : ∀ i, (csOf c0 c1 c2 c3 c4 c5 c6 c7 c8 c9) i = [c0, c1, c2, c3, c4, c5, c6, c7, c8, c9][i.val]'(l i) := fun i => by
    unfold csOf
    rw [List.getD_eq_getElem?_getD, List.getElem?_eq_getElem (l i)]
    rfl
  have nF : ∀ i, (csOf c0 c1 c2 c3 c4 c5 c6 c7 c8 c9) i ≠ FE := fun i => ndq.2.2 _ (by rw [at_]; exact List.getElem_mem _) FE List.mem_cons_self
  have inj : ∀ i j, (csOf c0 c1 c2 c3 c4 c5 c6 c7 c8 c9) i = (csOf c0 c1 c2 c3 c4 c5 c6 c7 c8 c9) j → i = j := fun i j e => by
    rw [at_, at_] at e
    exact Fin.ext ((List.getElem_inj ndq.1).mp e)
  have T : Txt10 K mg (csOf c0 c1 c2 c3 c4 c5 c6 c7 c8 c9) FE := txt_mk cl g inj nF (ten (M g0) (M g1) (M g2) (M g3) (M g4) (M g5) (M g6) (M g7) (M g8) (M g9)) (M aF) (Z zV) (Z zI) (Z zL)
  have sd0 : SupDef K mg "BadLot.__init__" sBadLot c0 f0 _ := ⟨⟨_, _, _, _, _, _, _, _, _, _, _, _, _, _, _, _, _, _, _, rfl, l0, cd0, ce0, cr0, v0⟩, Z zs⟩
  have sd1 : SupDef K mg "BadName.__init__" sBadName c1 f1 _ := ⟨⟨_, _, _, _, _, _, _, _, _, _, _, _, _, _, _, _, _, _, _, rfl, l1, cd1, ce1, cr1, v1⟩, Z zs⟩
  have sd2 : SupDef K mg "BadProgram.__init__" sBadProgram c2 f2 _ := ⟨⟨_, _, _, _, _, _, _, _, _, _, _, _, _, _, _, _, _, _, _, rfl, l2, cd2, ce2, cr2, v2⟩, Z zs⟩
  have sd3 : SupDef K mg "Barred.__init__" sBarred c3 f3 _ := ⟨⟨_, _, _, _, _, _, _, _, _, _, _, _, _, _, _, _, _, _, _, rfl, l3, cd3, ce3, cr3, v3⟩, Z zs⟩
  have sd4 : SupDef K mg "NoCell.__init__" sNoCell c4 f4 _ := ⟨⟨_, _, _, _, _, _, _, _, _, _, _, _, _, _, _, _, _, _, _, rfl, l4, cd4, ce4, cr4, v4⟩, Z zs⟩
  have sd5 : SupDef K mg "NoGuard.__init__" sNoGuard c5 f5 _ := ⟨⟨_, _, _, _, _, _, _, _, _, _, _, _, _, _, _, _, _, _, _, rfl, l5, cd5, ce5, cr5, v5⟩, Z zs⟩
  have sd6 : SupDef K mg "NoLine.__init__" sNoLine c6 f6 _ := ⟨⟨_, _, _, _, _, _, _, _, _, _, _, _, _, _, _, _, _, _, _, rfl, l6, cd6, ce6, cr6, v6⟩, Z zs⟩
  have sd7 : SupDef K mg "Taken.__init__" sTaken c7 f7 _ := ⟨⟨_, _, _, _, _, _, _, _, _, _, _, _, _, _, _, _, _, _, _, rfl, l7, cd7, ce7, cr7, v7⟩, Z zs⟩
  have sd8 : SupDef K mg "NothingToUndo.__init__" sNothing c8 f8 _ := ⟨⟨_, _, _, _, _, _, _, _, _, _, _, _, _, _, _, _, _, _, _, rfl, l8, cd8, ce8, cr8, v8⟩, Z zs⟩
  have sd9 : SupDef K mg "Outermost.__init__" sOutermost c9 f9 _ := ⟨⟨_, _, _, _, _, _, _, _, _, _, _, _, _, _, _, _, _, _, _, rfl, l9, cd9, ce9, cr9, v9⟩, Z zs⟩
  have FP := fun_mk (st := sPen) lP wP kP
  have FD := fun_mk (st := sDraw) lD wD kD
  have FK := fun_mk (st := sPick) lK wK kK
  have FS := fun_mk (st := sShuf) lS wS kS
  have FN := fun_mk (st := sNames) lN wN kN
  have FI := fun_mk (st := sIsOne) lI wI kI
  have FM := fun_mk (st := sMade) lM wM kM
  have bP := FP.binds (ps := ["_law_script"]) fun _ _ _ _ _ _ us hl => match us, hl with | [_], _ => rfl
  have bD := FD.binds (ps := ["_law_pen", "_law_span"]) fun _ _ _ _ _ _ us hl => match us, hl with | [_, _], _ => rfl
  have bK := FK.binds (ps := ["_law_pen", "_law_options"]) fun _ _ _ _ _ _ us hl => match us, hl with | [_, _], _ => rfl
  have bS := FS.binds (ps := ["_law_pen", "_law_items"]) fun _ _ _ _ _ _ us hl => match us, hl with | [_, _], _ => rfl
  have bN := FN.binds (ps := ["_law_pen", "_law_many"]) fun _ _ _ _ _ _ us hl => match us, hl with | [_, _], _ => rfl
  have bI := FI.binds (ps := ["_law_e", "_law_is_own"]) fun _ _ _ _ _ _ us hl => match us, hl with | [_, _], _ => rfl
  have bM := FM.binds (ps := ["_law_number", "_law_name", "_law_names"]) fun _ _ _ _ _ _ us hl => match us, hl with | [_, _, _], _ => rfl
  refine ⟨W.fnOf "law" "law" (defArgs sLaw) (defBody sLaw) (defScope sLaw) .none kVL dcL pmL anL (.ref cdL) ctL, fun s v => .of_eq rfl, fun base KB GB => ?_⟩
  have B : Blt2 mg := ⟨⟨Z zi, Z zL, Z za, Z zl⟩, Z zr, Z zp⟩
  have I : Inis w K mg base (csOf c0 c1 c2 c3 c4 c5 c6 c7 c8 c9) := ⟨⟨f0, _, i0, ti0, .all (fun us hl => match us, hl with | [_, _], _ => rfl), ok_BadLot sd0 (T.T 0) no0⟩,
    ⟨f1, _, i1, ti1, .all (fun us hl => match us, hl with | [_, _], _ => rfl), ok_BadName sd1 (T.T 1) no1⟩,
    ⟨f2, _, i2, ti2, .all (fun us hl => match us, hl with | [_, _], _ => rfl), ok_BadProgram sd2 (T.T 2) no2⟩,
    ⟨f3, _, i3, ti3, .all (fun us hl => match us, hl with | [_, _], _ => rfl), ok_Barred sd3 (T.T 3) no3 (Z zl)⟩,
    ⟨f4, _, i4, ti4, .all (fun us hl => match us, hl with | [_, _], _ => rfl), ok_NoCell sd4 (T.T 4) no4⟩,
    ⟨f5, _, i5, ti5, .all (fun us hl => match us, hl with | [_, _], _ => rfl), ok_NoGuard sd5 (T.T 5) no5⟩,
    ⟨f6, _, i6, ti6, .all (fun us hl => match us, hl with | [_, _], _ => rfl), ok_NoLine sd6 (T.T 6) no6⟩,
    ⟨f7, _, i7, ti7, .all (fun us hl => match us, hl with | [_, _], _ => rfl), ok_Taken sd7 (T.T 7) no7⟩,
    ⟨f8, _, i8, ti8, .all (fun us hl => match us, hl with | [_], _ => rfl), ok_Nothing sd8 (T.T 8)⟩,
    ⟨f9, _, i9, ti9, .all (fun us hl => match us, hl with | [_, _], _ => rfl), ok_Outermost sd9 (T.T 9) no9⟩⟩
  have N : Nos K (csOf c0 c1 c2 c3 c4 c5 c6 c7 c8 c9) := ⟨no0, no1, no2, no3, no4, no5, no6, no7, no9⟩
  have DD : Def PP w K mg base "_law_draw" 1 ["_law_pen", "_law_span"] spDraw := ⟨_, _, M aD, kD, bD, ok_draw FD B.toBlt⟩
  have DS : Def PP w K mg base "_law_shuffled" 2 ["_law_pen", "_law_items"] spShuf := ⟨_, _, M aS, kS, bS, ok_shuf FS B.toBlt DD⟩
  exact ok_law lL wL B T I N ⟨_, _, M aP, kP, bP, ok_pen FP B.toBlt⟩ DD ⟨_, _, M aK, kK, bK, ok_pick FK B.toBlt DD⟩ ⟨_, _, M aN, kN, bN, ok_names FN DS⟩ ⟨_, _, M aI, kI, bI, ok_isOne FI T⟩ ⟨_, _, M aM, kM, bM, ok_made FM T I N⟩
end FP
set_option Elab.async false

open PySem PySem.W PyProof.Rows in
set_option maxRecDepth 100000 in
set_option maxHeartbeats 0 in
theorem PySem.Challenge.cw_frameplaces_k12_errors_holds : PySem.Challenge.rw_frameplaces_k12_errors.Holds := by
  w_on; o_law; k_head; (case hw => w_witness2)
  k_fill
  refine FP.walk_law (l := PySem.Challenge.rw_frameplaces_k12_errors) (k := 4) (sp := FP.spLaw) (x := "_law_script") rfl (by decide) rfl ⟨rfl, by decide, by decide⟩ (fun w h Y => PySem.W.kIn_of Y) ?F (fun K H a ns hl hS => ⟨a, ns, rfl, hS, hl, fun _ => rfl⟩)
  case F =>
    intro w mg fa h KX G hmg
    refine' FP.all_mk KX G hmg ?fq_g0 ?fq_x0 ?fq_sa0 ?fq_ga0 ?fq_gg0 ?fq_ca0 ?fq_kc0_ ?fq_i0 ?fq_ti0 ?fq_l0 ?fq_cd0 ?fq_ce0 ?fq_cr0 ?fq_v0 ?fq_no0 ?fq_g1 ?fq_x1 ?fq_sa1 ?fq_ga1 ?fq_gg1 ?fq_ca1 ?fq_kc1_ ?fq_i1 ?fq_ti1 ?fq_l1 ?fq_cd1 ?fq_ce1 ?fq_cr1 ?fq_v1 ?fq_no1 ?fq_g2 ?fq_x2 ?fq_sa2 ?fq_ga2 ?fq_gg2 ?fq_ca2 ?fq_kc2_ ?fq_i2 ?fq_ti2 ?fq_l2 ?fq_cd2 ?fq_ce2 ?fq_cr2 ?fq_v2 ?fq_no2 ?fq_g3 ?fq_x3 ?fq_sa3 ?fq_ga3 ?fq_gg3 ?fq_ca3 ?fq_kc3_ ?fq_i3 ?fq_ti3 ?fq_l3 ?fq_cd3 ?fq_ce3 ?fq_cr3 ?fq_v3 ?fq_no3 ?fq_g4 ?fq_x4 ?fq_sa4 ?fq_ga4 ?fq_gg4 ?fq_ca4 ?fq_kc4_ ?fq_i4 ?fq_ti4 ?fq_l4 ?fq_cd4 ?fq_ce4 ?fq_cr4 ?fq_v4 ?fq_no4 ?fq_g5 ?fq_x5 ?fq_sa5 ?fq_ga5 ?fq_gg5 ?fq_ca5 ?fq_kc5_ ?fq_i5 ?fq_ti5 ?fq_l5 ?fq_cd5 ?fq_ce5 ?fq_cr5 ?fq_v5 ?fq_no5 ?fq_g6 ?fq_x6 ?fq_sa6 ?fq_ga6 ?fq_gg6 ?fq_ca6 ?fq_kc6_ ?fq_i6 ?fq_ti6 ?fq_l6 ?fq_cd6 ?fq_ce6 ?fq_cr6 ?fq_v6 ?fq_no6 ?fq_g7 ?fq_x7 ?fq_sa7 ?fq_ga7 ?fq_gg7 ?fq_ca7 ?fq_kc7_ ?fq_i7 ?fq_ti7 ?fq_l7 ?fq_cd7 ?fq_ce7 ?fq_cr7 ?fq_v7 ?fq_no7 ?fq_g8 ?fq_x8 ?fq_sa8 ?fq_ga8 ?fq_gg8 ?fq_ca8 ?fq_kc8_ ?fq_i8 ?fq_ti8 ?fq_l8 ?fq_cd8 ?fq_ce8 ?fq_cr8 ?fq_v8 ?fq_g9 ?fq_x9 ?fq_sa9 ?fq_ga9 ?fq_gg9 ?fq_ca9 ?fq_kc9_ ?fq_i9 ?fq_ti9 ?fq_l9 ?fq_cd9 ?fq_ce9 ?fq_cr9 ?fq_v9 ?fq_no9 ?fq_aP ?fq_lP ?fq_wP ?fq_kP ?fq_aD ?fq_lD ?fq_wD ?fq_kD ?fq_aK ?fq_lK ?fq_wK ?fq_kK ?fq_aS ?fq_lS ?fq_wS ?fq_kS ?fq_aN ?fq_lN ?fq_wN ?fq_kN ?fq_aI ?fq_lI ?fq_wI ?fq_kI ?fq_aM ?fq_lM ?fq_wM ?fq_kM ?fq_aL ?fq_lL ?fq_wL ?fq_aF ?fq_xF ?fq_mF ?fq_tF ?fq_iF ?fq_cn ?fq_ct ?fq_op ?fq_zV ?fq_zI ?fq_zL ?fq_zi ?fq_za ?fq_zl ?fq_zr ?fq_zp ?fq_zs ?fq_nd
    (case fq_g0 => k_is)
    (case fq_x0 => k_is)
    (case fq_sa0 => k_is)
    (case fq_ga0 => k_is)
    (case fq_gg0 => k_is)
    (case fq_ca0 => k_is)
    (case fq_kc0_ => k_is)
    (case fq_i0 => k_is)
    (case fq_ti0 => k_is)
    (case fq_l0 => k_is)
    (case fq_cd0 => k_is)
    (case fq_ce0 => k_is)
    (case fq_cr0 => k_is)
    (case fq_v0 => rfl)
    (case fq_no0 => k_is)
    (case fq_g1 => k_is)
    (case fq_x1 => k_is)
    (case fq_sa1 => k_is)
    (case fq_ga1 => k_is)
    (case fq_gg1 => k_is)
    (case fq_ca1 => k_is)
    (case fq_kc1_ => k_is)
    (case fq_i1 => k_is)
    (case fq_ti1 => k_is)
    (case fq_l1 => k_is)
    (case fq_cd1 => k_is)
    (case fq_ce1 => k_is)
    (case fq_cr1 => k_is)
    (case fq_v1 => rfl)
    (case fq_no1 => k_is)
    (case fq_g2 => k_is)
    (case fq_x2 => k_is)
    (case fq_sa2 => k_is)
    (case fq_ga2 => k_is)
    (case fq_gg2 => k_is)
    (case fq_ca2 => k_is)
    (case fq_kc2_ => k_is)
    (case fq_i2 => k_is)
    (case fq_ti2 => k_is)
    (case fq_l2 => k_is)
    (case fq_cd2 => k_is)
    (case fq_ce2 => k_is)
    (case fq_cr2 => k_is)
    (case fq_v2 => rfl)
    (case fq_no2 => k_is)
    (case fq_g3 => k_is)
    (case fq_x3 => k_is)
    (case fq_sa3 => k_is)
    (case fq_ga3 => k_is)
    (case fq_gg3 => k_is)
    (case fq_ca3 => k_is)
    (case fq_kc3_ => k_is)
    (case fq_i3 => k_is)
    (case fq_ti3 => k_is)
    (case fq_l3 => k_is)
    (case fq_cd3 => k_is)
    (case fq_ce3 => k_is)
    (case fq_cr3 => k_is)
    (case fq_v3 => rfl)
    (case fq_no3 => k_is)
    (case fq_g4 => k_is)
    (case fq_x4 => k_is)
    (case fq_sa4 => k_is)
    (case fq_ga4 => k_is)
    (case fq_gg4 => k_is)
    (case fq_ca4 => k_is)
    (case fq_kc4_ => k_is)
    (case fq_i4 => k_is)
    (case fq_ti4 => k_is)
    (case fq_l4 => k_is)
    (case fq_cd4 => k_is)
    (case fq_ce4 => k_is)
    (case fq_cr4 => k_is)
    (case fq_v4 => rfl)
    (case fq_no4 => k_is)
    (case fq_g5 => k_is)
    (case fq_x5 => k_is)
    (case fq_sa5 => k_is)
    (case fq_ga5 => k_is)
    (case fq_gg5 => k_is)
    (case fq_ca5 => k_is)
    (case fq_kc5_ => k_is)
    (case fq_i5 => k_is)
    (case fq_ti5 => k_is)
    (case fq_l5 => k_is)
    (case fq_cd5 => k_is)
    (case fq_ce5 => k_is)
    (case fq_cr5 => k_is)
    (case fq_v5 => rfl)
    (case fq_no5 => k_is)
    (case fq_g6 => k_is)
    (case fq_x6 => k_is)
    (case fq_sa6 => k_is)
    (case fq_ga6 => k_is)
    (case fq_gg6 => k_is)
    (case fq_ca6 => k_is)
    (case fq_kc6_ => k_is)
    (case fq_i6 => k_is)
    (case fq_ti6 => k_is)
    (case fq_l6 => k_is)
    (case fq_cd6 => k_is)
    (case fq_ce6 => k_is)
    (case fq_cr6 => k_is)
    (case fq_v6 => rfl)
    (case fq_no6 => k_is)
    (case fq_g7 => k_is)
    (case fq_x7 => k_is)
    (case fq_sa7 => k_is)
    (case fq_ga7 => k_is)
    (case fq_gg7 => k_is)
    (case fq_ca7 => k_is)
    (case fq_kc7_ => k_is)
    (case fq_i7 => k_is)
    (case fq_ti7 => k_is)
    (case fq_l7 => k_is)
    (case fq_cd7 => k_is)
    (case fq_ce7 => k_is)
    (case fq_cr7 => k_is)
    (case fq_v7 => rfl)
    (case fq_no7 => k_is)
    (case fq_g8 => k_is)
    (case fq_x8 => k_is)
    (case fq_sa8 => k_is)
    (case fq_ga8 => k_is)
    (case fq_gg8 => k_is)
    (case fq_ca8 => k_is)
    (case fq_kc8_ => k_is)
    (case fq_i8 => k_is)
    (case fq_ti8 => k_is)
    (case fq_l8 => k_is)
    (case fq_cd8 => k_is)
    (case fq_ce8 => k_is)
    (case fq_cr8 => k_is)
    (case fq_v8 => rfl)
    (case fq_g9 => k_is)
    (case fq_x9 => k_is)
    (case fq_sa9 => k_is)
    (case fq_ga9 => k_is)
    (case fq_gg9 => k_is)
    (case fq_ca9 => k_is)
    (case fq_kc9_ => k_is)
    (case fq_i9 => k_is)
    (case fq_ti9 => k_is)
    (case fq_l9 => k_is)
    (case fq_cd9 => k_is)
    (case fq_ce9 => k_is)
    (case fq_cr9 => k_is)
    (case fq_v9 => rfl)
    (case fq_no9 => k_is)
    (case fq_aP => k_is)
    (case fq_lP => k_is)
    (case fq_wP => k_is)
    (case fq_kP => k_is)
    (case fq_aD => k_is)
    (case fq_lD => k_is)
    (case fq_wD => k_is)
    (case fq_kD => k_is)
    (case fq_aK => k_is)
    (case fq_lK => k_is)
    (case fq_wK => k_is)
    (case fq_kK => k_is)
    (case fq_aS => k_is)
    (case fq_lS => k_is)
    (case fq_wS => k_is)
    (case fq_kS => k_is)
    (case fq_aN => k_is)
    (case fq_lN => k_is)
    (case fq_wN => k_is)
    (case fq_kN => k_is)
    (case fq_aI => k_is)
    (case fq_lI => k_is)
    (case fq_wI => k_is)
    (case fq_kI => k_is)
    (case fq_aM => k_is)
    (case fq_lM => k_is)
    (case fq_wM => k_is)
    (case fq_kM => k_is)
    (case fq_aL => k_is)
    (case fq_lL => k_is)
    (case fq_wL => k_is)
    (case fq_aF => k_is)
    (case fq_xF => k_is)
    (case fq_mF => rfl)
    (case fq_tF => k_is)
    (case fq_iF => k_is)
    (case fq_cn => k_is)
    (case fq_ct => k_is)
    (case fq_op => k_is)
    (case fq_zV => k_is)
    (case fq_zI => k_is)
    (case fq_zL => k_is)
    (case fq_zi => k_is)
    (case fq_za => k_is)
    (case fq_zl => k_is)
    (case fq_zr => k_is)
    (case fq_zp => k_is)
    (case fq_zs => k_is)
    (case fq_nd => decide)
