import PyProof.Rows.All
import Wide.All
import OpenK.AllK
import Wide.FinOn
import HandS.ForMost
import HandS.IsInst
import HandS.StrMore
import HandS.Style
import HandS.Strs
import HandS.SetBool
import HandS.SetKeys
import HandS.DictComp
import HandS.Conv
import HandS.TupAny
import HandS.Defaults
import HandS.Head0
import HandS.Head1
import HandS.Head2
import HandS.HeadEnd
import HandS.HeadHook1
import HandS.HeadHook2
import HandS.Flow
import HandS.Zip
import KE.LtData
import KE.KExcIs
import HandS.Exc
import HandS.ExcInit
import HandS.ExcOwn
import HandS.ExcField
import HandS.ExcIs
import HandS.FStr
import HandS.Star
import HandS.ClsMeth
import HandS.HeadNt
import HandS.Property
import PySem.Challenge.RW_bytegrove_k13_whole_every_row_is_read_or
import HandS.Walk
import KE.GoesMore
import KE.SortData
import HandS.Dict
import KE.KDictPairs
import HandS.HotCalls
import HandS.RaiseMore
import HandS.Small
import HandS.More
import HandS.SuiteRaise
import PyProof.Rows.StrStrike
import PyProof.StrLawsAffix
import HandS.Replace
import HandS.ReplaceDef
import HandS.ReplaceLit
import PyProof.Rows.StrBin
import PyProof.Rows.StrIntSpec
import HandS.IterVal
import KE.KOwnIter
import HandS.Text
import PyProof.StrLawsRepr
import HandS.TryMany
set_option Elab.async false
set_option linter.all false
set_option maxRecDepth 100000
set_option maxHeartbeats 8000000
namespace Bg
open PySem PySem.Spec PyProof.Rows L2
/-! ### what a class of errors must say -/
def oexB (K : PySem.W.Frag) (C : Addr) : Bool := match K.lookup C with
  | some ⟨.type "type", _, .cls cd, sl⟩ => (match cd.mro, sl.toList with
    | .ref C' :: bm, [_, _, _, _, some (.builtin n), _] => C' == C && (n == "ValueError.__new__" && (!cd.hasDel && (cd.hasDict && PySem.HandSPX.refsVE bm)))
    | _, _ => false)
  | _ => false
theorem oexB_ok {K : PySem.W.Frag} {C : Addr} (q : oexB K C = true) : ∃ nm q N bs bm sn sub ab col dd k0 k1 k2 k3 k5, K.lookup C = some (excClassObj nm q C N bs bm true sn sub ab col dd k0 k1 k2 k3 k5 "ValueError.__new__") ∧ PySem.HandSPX.refsVE bm = true := by
  unfold oexB at q
  split at q
  · rename_i dd cd sl ho
    split at q
    · rename_i C' bm k0 k1 k2 k3 n k5 hm hs
      simp only [Bool.and_eq_true, beq_iff_eq, Bool.not_eq_true'] at q
      obtain ⟨rfl, rfl, hdel, hdict, ht⟩ := q
      obtain ⟨nm, bs, mro, ns, qn, hd, sn, sub, ab, col, del⟩ := cd
      dsimp only at hm hdel hdict
      subst hm hdel hdict
      have hsl : sl = #[k0, k1, k2, k3, some (.builtin "ValueError.__new__"), k5] := by
        obtain ⟨l⟩ := sl
        simp only at hs
        rw [hs]
      subst hsl
      exact ⟨nm, qn, ns, bs, bm, sn, sub, ab, col, dd, k0, k1, k2, k3, k5, ho, ht⟩
    · cases q
  · cases q
structure ExT (K : PySem.W.Frag) (C : Addr) : Prop where
  oex : OexC K C
  xf : XfC K C
  cl : (PySem.W.clsIn K C).isSome = true
  ha : PySem.W.findIn K (.ref C) "__class__" = some (some (.builtin "object.__class__"))
  hn : PySem.W.specialIn K (.builtin "object.__class__") "__get__" = some (some (.builtin "getset_descriptor.__get__"))
  tk : PySem.W.takesIn K (.builtin "object.__class__") = some true
  hm : PySem.W.mroIn K C (.type "object") = some true
def exB (K : PySem.W.Frag) (C : Addr) : Bool := oexB K C && (He.eqO (PySem.W.findIn K (.ref C) "__setattr__") (some (some (.builtin "object.__setattr__"))) && (decide (PySem.W.subIn K (.ref C) (.type "BaseException") = some true) && (decide (PySem.W.typeIn K (.ref C) = some (.type "type")) &&
  (PySem.W.keepIn K (.ref C) && (xfB K C && ((PySem.W.clsIn K C).isSome && (He.eqO (PySem.W.findIn K (.ref C) "__class__") (some (some (.builtin "object.__class__"))) && (He.eqO (PySem.W.specialIn K (.builtin "object.__class__") "__get__") (some (some (.builtin "getset_descriptor.__get__"))) &&
  (decide (PySem.W.takesIn K (.builtin "object.__class__") = some true) && decide (PySem.W.mroIn K C (.type "object") = some true))))))))))
theorem exB_ok {K : PySem.W.Frag} {C : Addr} (h : exB K C = true) : ExT K C := by
  obtain ⟨h1, h⟩ := He.ba h
  obtain ⟨h2, h⟩ := He.ba h
  obtain ⟨h3, h⟩ := He.ba h
  obtain ⟨h4, h⟩ := He.ba h
  obtain ⟨h5, h⟩ := He.ba h
  obtain ⟨h6, h⟩ := He.ba h
  obtain ⟨h7, h⟩ := He.ba h
  obtain ⟨h8, h⟩ := He.ba h
  obtain ⟨h9, h⟩ := He.ba h
  obtain ⟨h10, h11⟩ := He.ba h
  exact ⟨⟨oexB_ok h1, He.eqO_ok h2, of_decide_eq_true h3, of_decide_eq_true h4, h5⟩, xfB_ok h6, h7, He.eqO_ok h8, He.eqO_ok h9, of_decide_eq_true h10, of_decide_eq_true h11⟩
/-- G.__init__ is ValueError's own -/
structure GiT (K : PySem.W.Frag) (G : Addr) : Prop where
  rd : PySem.W.readsIn K G (.type "type") = true
  ga : PySem.W.specialIn K (.ref G) "__getattribute__" = some (some (.builtin "type.__getattribute__"))
  at_ : PySem.W.findCls K (.ref G) (.type "type") "__init__" = some (.val (.builtin "ValueError.__init__"))
def giB (K : PySem.W.Frag) (G : Addr) : Bool := PySem.W.readsIn K G (.type "type") && (He.eqO (PySem.W.specialIn K (.ref G) "__getattribute__") (some (some (.builtin "type.__getattribute__"))) && (match PySem.W.findCls K (.ref G) (.type "type") "__init__" with
  | some (.val (.builtin n)) => n == "ValueError.__init__"
  | _ => false))
theorem giB_ok {K : PySem.W.Frag} {G : Addr} (h : giB K G = true) : GiT K G := by
  obtain ⟨h1, h⟩ := He.ba h
  obtain ⟨h2, h3⟩ := He.ba h
  refine ⟨h1, He.eqO_ok h2, ?_⟩
  split at h3
  · rename_i n e
    rw [e, beq_iff_eq.mp h3]
  · cases h3
/-! ### the hook: the statics beside what the globals reach -/
def asE (g : Addr → Option Obj) (n : Nat) : List Addr := PySem.cStatics :: He.asD g n
def obsE (n : Nat) (fa : List He.Fa) (fn : List He.DefD) (ex : PySem.W.Frag → Bool) (g : Addr → Option Obj) : He.AlD × Bool := (He.obsD fa fn (He.frG g (asE g n)), ex (He.frG g (asE g n)))
def hookE (n : Nat) (fa : List He.Fa) (fn : List He.DefD) (ex : PySem.W.Frag → Bool) : PySem.W.Hook where
  α := He.AlD × Bool
  obs := fun s => obsE n fa fn ex s.heap.get?
  val := fun _ => (He.valD fn, true)
  says := fun _ h => ∃ K : PySem.W.Frag, K.In h ∧ He.SaysD fa fn K ∧ ex K = true
  of := fun _ _ e => ⟨_, He.frG_in, congrArg (fun z : He.AlD × Bool => z.1) e, congrArg (fun z : He.AlD × Bool => z.2) e⟩
  keeps := fun _ _ _ ⟨K, hK, c⟩ k => ⟨K, PySem.W.Frag.In.keeps hK k, c⟩
theorem obsE_eq {n : Nat} {fa : List He.Fa} {fn : List He.DefD} {ex : PySem.W.Frag → Bool} {g : Addr → Option Obj} {s : Shared} (h : ∀ a, g a = s.heap.get? a) : obsE n fa fn ex g = (hookE n fa fn ex).obs s := by
  have e : g = s.heap.get? := funext h
  rw [e] <;> rfl
/-! ### rules -/
section
variable {X : Cx} {o e : Expr} {es : List Expr} {ta : TA} {p p1 p2 pos : Pos} {G : Addr} {x : Str}
/-- G.__init__(self, ..), G an own class that has ValueError's -/
theorem pe_ginit {pl : Sem Bool} (T : GiT X.K G) (hg : Gl X x) (hm : X.mg x = some (.ref G)) (ha : PA X (e :: es) ta)
    (hdb : (x == ("__debug__" : Str)) = false := by decide)
    (hc : eval (.Call (.Attribute (.Name x p1) "__init__" p2) (e :: es) [] pos) X.env = (do
      let ov ← eval (.Name x p1) X.env
      standAt p2.atName
      let (f, first) ← holding [ov] (getMethod ov "__init__" pl)
      callWith pos f first (backTo pos (starEach (e :: es) X.env)) (backToKw pos (keywordEach [] X.env))) := by rfl)
    (he : starEach (e :: es) X.env = (false, eval e X.env) :: starEach es X.env := by rfl) (hpl : (backTo pos (starEach es X.env)).any (·.1) = false := by rfl) :
    PE X (.Call (.Attribute (.Name x p1) "__init__" p2) (e :: es) [] pos) (tVeI X.K ta) := by
  refine ⟨fun pins s σ H Q I h => ?_⟩
  refine PySem.W.methodCall_KW (ld_glob I hg hm ?_ hdb) hc
  refine PySem.W.method_cls I.kIn T.ga ?_
  refine PySem.W.cls_value I.kIn T.rd T.at_ (by decide +kernel) ?_
  show wpAny _ _ (callWith pos (Value.builtin "ValueError.__init__") [] (backTo pos (starEach (e :: es) X.env)) []) _ _ _
  refine PyProof.Rows.callWith_method1 (thn (ha.run pos pins _ σ H _ (I.tok _) h) fun us s1 ⟨vs, H1, I1, r1, a, C, ws, ev, hl, T, ea, q⟩ => ?_) he hpl
  subst ev
  cases r1 with
  | @cons _ u0 _ ur ra rw' =>
    obtain rfl : u0 = Value.ref a := ra
    have hlen : ur.length ≤ sizeLine := by
      rw [← Paired.length rw', sizeLine_eq]
      omega
    exact oinit_ok T I1 ea hlen fun s' J => ⟨.non, H1, J, rfl, q⟩
end
section
variable {X : Cx} {a D : Addr} {oe : Obj} {pn : List (Addr × Obj)} {cls : Value} {d : Option Addr}
theorem exc_inst {pins : List (Addr × Obj)} {σ : L2.St} {H : Hp} {s : Shared} {dd : Addr} {fs : List (Str × V)} (I : Inv (X.suite a ((a, oe) :: pn)) pins σ H s) (hz : Zc (.ref D) (some dd) oe) (hf : ∃ vs, oe.data = .fields vs) (ea : H dd = some (.xd fs)) :
    ∃ od, PySem.W.InstAt s.heap a oe D (some od) := by
  obtain ⟨ha, _⟩ := I.pin (a, oe) (List.mem_append_left _ List.mem_cons_self)
  obtain ⟨vs, hd⟩ := hf
  have hx : ObjOk X.prog X.w H s.heap dd (.xd fs) := I.hok dd _ ea
  obtain ⟨mA, hns, hr⟩ := hx
  obtain ⟨od, ho, hl⟩ := lookIn_ns hns
  exact ⟨od, ha, hz.1, by unfold PySem.W.notCls; rw [hd] <;> rfl, by rw [hz.2]; exact ho⟩
/-- isinstance(e, c), e the error that the suite holds, its class D, its dict d -/
def rIsD (K : PySem.W.Frag) (a : Addr) (cls : Value) (d : Option Addr) : List V → Hp → VK → Prop := fun xs H Q => ∃ (c : V) (cv : Value) (b : Bool) (D dd : Addr) (fs : List (Str × V)), xs = [.ref a, c] ∧ cls = .ref D ∧ d = some dd ∧ H dd = some (.xd fs) ∧ ExT K D ∧ ClsV c cv ∧ PySem.W.kitOne K (.ref D) cv = some b ∧ Q (.bl b) H
theorem call_isD (hz : Zc cls d oe) (hf : ∃ vs, oe.data = .fields vs) : CallR (X.suite a ((a, oe) :: pn)) (.builtin "isinstance") (rIsD X.K a cls d) := by
  intro pins s σ H xs us Q I r h
  obtain ⟨c, cv, b, D, dd, fs, rfl, rfl, rfl, ea, T, hcv, e, q⟩ := h
  cases r with
  | cons rx rr =>
    cases rr with
    | cons rt rr =>
      cases rr
      cases rx
      have ec := ClsV.eq hcv rt
      subst ec
      obtain ⟨od, J⟩ := exc_inst I hz hf ea
      exact PySem.W.kia_one (PySem.W.kitx_exc T.cl T.xf.ga T.xf.gg T.xf.exC T.ha T.hn T.tk T.hm) I.kIn J e (fun z => nomatch z) fun tk => ⟨.bl b, H, I.kept (t' := tk) fun _ _ z => z, rfl, q⟩
/-- isinstance(e, (c, ..)) -/
def rIsDT (K : PySem.W.Frag) (a : Addr) (cls : Value) (d : Option Addr) : List V → Hp → VK → Prop := fun xs H Q => ∃ (tp : Addr) (cs : List V) (us : List Value) (b : Bool) (D dd : Addr) (fs : List (Str × V)), xs = [.ref a, .ref tp] ∧ cls = .ref D ∧ d = some dd ∧ H dd = some (.xd fs) ∧ ExT K D ∧ H tp = some (.tup cs) ∧ Paired ClsV cs us ∧ PySem.W.kitAny K (.ref D) us = some b ∧ Q (.bl b) H
theorem call_isDT (hz : Zc cls d oe) (hf : ∃ vs, oe.data = .fields vs) : CallR (X.suite a ((a, oe) :: pn)) (.builtin "isinstance") (rIsDT X.K a cls d) := by
  intro pins s σ H xs us Q I r h
  obtain ⟨tp, cs, ws, b, D, dd, fs, rfl, rfl, rfl, ea, T, hT, k, e, q⟩ := h
  cases r with
  | cons rx rr =>
    cases rr with
    | cons rt rr =>
      cases rr
      cases rx
      cases rt
      obtain ⟨od, J⟩ := exc_inst I hz hf ea
      obtain ⟨_, its, rv, o, h1, h2, n, h3⟩ := (show ObjOk (X.suite a ((a, oe) :: pn)).prog (X.suite a ((a, oe) :: pn)).w H s.heap tp (.tup cs) from I.hok tp _ hT)
      have e3 := ClsV.all k rv
      subst e3
      obtain ⟨oc, od', dt, sl⟩ := o
      simp only at h2 h3
      subst h2 h3
      exact PySem.W.kia_tup (PySem.W.kitx_exc T.cl T.xf.ga T.xf.gg T.xf.exC T.ha T.hn T.tk T.hm) I.kIn J h1 e (fun z => nomatch z) fun tk => ⟨.bl b, H, I.kept (t' := tk) fun _ _ z => z, rfl, q⟩
/-- what comes behind a sure raise -/
theorem pss_never {X : Cx} {st : List Stmt} : PSs X st (fun _ _ _ => False) := ⟨fun _ _ _ _ _ _ h => h.elim⟩
end
end Bg
set_option Elab.async false
set_option linter.all false
set_option maxRecDepth 100000
set_option maxHeartbeats 2000000
/-! the hook with defs at any address -/
namespace Bg
open PySem PySem.Spec PyProof.Rows L2
def obsF (n : Nat) (fa : List He.Fa) (fn : List He.DefD) (ex : PySem.W.Frag → Bool) (fn2 : List He5.DefA) (g : Addr → Option Obj) : He.AlD × Bool × He.AlD := (He.obsD fa fn (He.frG g (asE g n)), ex (He.frG g (asE g n)), He5.obsA [] fn2 (He.frG g (asE g n)))
def hookF (n : Nat) (fa : List He.Fa) (fn : List He.DefD) (ex : PySem.W.Frag → Bool) (fn2 : List He5.DefA) : PySem.W.Hook where
  α := He.AlD × Bool × He.AlD
  obs := fun s => obsF n fa fn ex fn2 s.heap.get?
  val := fun _ => (He.valD fn, true, He5.valA fn2)
  says := fun _ h => ∃ K : PySem.W.Frag, K.In h ∧ He.SaysD fa fn K ∧ ex K = true ∧ He5.SaysA [] fn2 K
  of := fun _ _ e => ⟨_, He.frG_in, congrArg (fun z : He.AlD × Bool × He.AlD => z.1) e, congrArg (fun z : He.AlD × Bool × He.AlD => z.2.1) e, congrArg (fun z : He.AlD × Bool × He.AlD => z.2.2) e⟩
  keeps := fun _ _ _ ⟨K, hK, c⟩ k => ⟨K, PySem.W.Frag.In.keeps hK k, c⟩
theorem obsF_eq {n : Nat} {fa : List He.Fa} {fn : List He.DefD} {ex : PySem.W.Frag → Bool} {fn2 : List He5.DefA} {g : Addr → Option Obj} {s : Shared} (h : ∀ a, g a = s.heap.get? a) : obsF n fa fn ex fn2 g = (hookF n fa fn ex fn2).obs s := by
  have e : g = s.heap.get? := funext h
  rw [e] <;> rfl
/-- a class read for its class- and staticmethods -/
theorem cread_ok {K : PySem.W.Frag} {C : Addr} (h0 : PySem.W.readsIn K C (.type "type") = true) : ClX.CRead K C (.type "type") := by
  refine ⟨h0, ?_⟩
  have h := h0
  unfold PySem.W.readsIn at h
  simp only [Bool.and_eq_true] at h
  obtain ⟨⟨⟨_, h2⟩, h3⟩, _⟩ := h.1
  unfold PySem.W.specialIn
  rw [beq_iff_eq.mp h2, Option.bind_some]
  exact beq_iff_eq.mp h3
theorem cmet_ok {K : PySem.W.Frag} {C : Addr} {m : Str} (h : He5.wrapB K C "classmethod" "classmethod.__get__" m = true) (hf : PySem.W.fnIn K (He5.wf K C "classmethod" m) = true) : ClX.CMet K C (.type "type") m (He.ma K C m) (He5.wf K C "classmethod" m) := He5.cmet_of h hf
/-- a property: its record, its getter -/
def propB (K : PySem.W.Frag) (C : Addr) (f : Str) : Bool := (match PySem.W.findIn K (.ref C) f with
    | some (some (.ref _)) => true
    | _ => false) && (He.eqO (PySem.W.specialIn K (.ref (He.ma K C f)) "__get__") (some (some (.builtin "property.__get__"))) && (decide (PySem.W.takesIn K (.ref (He.ma K C f)) = some true) && (match PySem.W.recIn K (He.ma K C f) "property" with
    | some (.ref _ :: _) => true
    | _ => false)))
theorem prop_ok {K : PySem.W.Frag} {C : Addr} {f : Str} (h : propB K C f = true) : PropOf K C f (He.ma K C f) (He5.wf K C "property" f) := by
  unfold propB at h
  simp only [Bool.and_eq_true] at h
  obtain ⟨h1, h2, h3, h4⟩ := h
  refine ⟨?_, He.eqO_ok h2, of_decide_eq_true h3, ?_⟩
  · clear h2 h3 h4
    unfold He.ma
    split at h1
    · rename_i p e; rw [e]
    · cases h1
  · clear h1 h2 h3
    unfold He5.wf
    split at h4
    · rename_i g r e; exact ⟨r, by rw [e]⟩
    · cases h4
structure SMet (K : PySem.W.Frag) (C : Addr) (m : Str) (p g : Addr) : Prop where
  at_ : PySem.W.findCls K (.ref C) (.type "type") m = some (.get (.builtin "staticmethod.__get__") (.ref p) .none (.ref C))
  rc : ∃ rest, PySem.W.recIn K p "staticmethod" = some (.ref g :: rest)
theorem smet_ok {K : PySem.W.Frag} {C : Addr} {m : Str} (h : He5.wrapB K C "staticmethod" "staticmethod.__get__" m = true) : SMet K C m (He.ma K C m) (He5.wf K C "staticmethod" m) := by
  obtain ⟨h1, h2⟩ := He5.wrapB_ok h
  exact ⟨h1, h2⟩
theorem cmet_ok2 {K : PySem.W.Frag} {C : Addr} {m : Str} (h : (He5.wrapB K C "classmethod" "classmethod.__get__" m && PySem.W.fnIn K (He5.wf K C "classmethod" m)) = true) : ClX.CMet K C (.type "type") m (He.ma K C m) (He5.wf K C "classmethod" m) := by
  rw [Bool.and_eq_true] at h
  exact cmet_ok h.1 h.2
end Bg
set_option Elab.async false
set_option linter.all false
set_option maxRecDepth 100000
set_option maxHeartbeats 8000000
namespace Bg
open PySem PySem.Spec PyProof.Rows L2
abbrev prg : Program := PySem.Challenge.pw_bytegrove_k13_whole_every_row_is_read_or
def top (i : Nat) : Stmt := prg.main.body.getD i (.Pass ⟨0, 0, 0, 0⟩)
abbrev FnP (K : PySem.W.Frag) (p : Str × Option Str) (x qual : Str) (st : Stmt) (fd : FuncData) : Prop := FunD K x qual (defArgs st) (defBody st) (defScope st) [] [] (He.fAd K p) fd
abbrev s__wall : Stmt := top 0
theorem sc__wall : FnScope ["k"] ["k"] (defScope s__wall) := ⟨rfl, rfl, rfl, by decide +kernel, rfl, by decide +kernel, by decide +kernel⟩
abbrev s_BadKinds_init : Stmt := inClass (top 3) 0
theorem sc_BadKinds_init : FnScope ["self", "row"] ["self", "row"] (defScope s_BadKinds_init) := ⟨rfl, rfl, rfl, by decide +kernel, rfl, by decide +kernel, by decide +kernel⟩
abbrev s_BadFunctions_init : Stmt := inClass (top 4) 0
theorem sc_BadFunctions_init : FnScope ["self", "row"] ["self", "row"] (defScope s_BadFunctions_init) := ⟨rfl, rfl, rfl, by decide +kernel, rfl, by decide +kernel, by decide +kernel⟩
abbrev s_BadLayout_init : Stmt := inClass (top 6) 0
theorem sc_BadLayout_init : FnScope ["self", "maker"] ["self", "maker"] (defScope s_BadLayout_init) := ⟨rfl, rfl, rfl, by decide +kernel, rfl, by decide +kernel, by decide +kernel⟩
abbrev s_BadRow_init : Stmt := inClass (top 7) 0
theorem sc_BadRow_init : FnScope ["self", "at"] ["self", "at"] (defScope s_BadRow_init) := ⟨rfl, rfl, rfl, by decide +kernel, rfl, by decide +kernel, by decide +kernel⟩
abbrev s_NotThere_init : Stmt := inClass (top 8) 0
theorem sc_NotThere_init : FnScope ["self", "name"] ["self", "name"] (defScope s_NotThere_init) := ⟨rfl, rfl, rfl, by decide +kernel, rfl, by decide +kernel, by decide +kernel⟩
abbrev s_Stuck_init : Stmt := inClass (top 9) 0
theorem sc_Stuck_init : FnScope ["self", "function", "maker", "part"] ["self", "function", "maker", "part"] (defScope s_Stuck_init) := ⟨rfl, rfl, rfl, by decide +kernel, rfl, by decide +kernel, by decide +kernel⟩
abbrev s_WrongLayout_init : Stmt := inClass (top 10) 0
theorem sc_WrongLayout_init : FnScope ["self", "start", "tree"] ["self", "start", "tree"] (defScope s_WrongLayout_init) := ⟨rfl, rfl, rfl, by decide +kernel, rfl, by decide +kernel, by decide +kernel⟩
abbrev s_NoLayout_init : Stmt := inClass (top 11) 0
theorem sc_NoLayout_init : FnScope ["self", "maker", "cycle"] ["self", "maker", "cycle"] (defScope s_NoLayout_init) := ⟨rfl, rfl, rfl, by decide +kernel, rfl, by decide +kernel, by decide +kernel⟩
abbrev s_is_name : Stmt := top 20
theorem sc_is_name : FnScope ["value"] ["value"] (defScope s_is_name) := ⟨rfl, rfl, rfl, by decide +kernel, rfl, by decide +kernel, by decide +kernel⟩
abbrev s_is_kind_name : Stmt := top 21
theorem sc_is_kind_name : FnScope ["value"] ["value"] (defScope s_is_kind_name) := ⟨rfl, rfl, rfl, by decide +kernel, rfl, by decide +kernel, by decide +kernel⟩
abbrev s_is_number : Stmt := top 22
theorem sc_is_number : FnScope ["value", "low", "high"] ["value", "low", "high"] (defScope s_is_number) := ⟨rfl, rfl, rfl, by decide +kernel, rfl, by decide +kernel, by decide +kernel⟩
abbrev s_is_part : Stmt := top 23
theorem sc_is_part : FnScope ["value"] ["value"] (defScope s_is_part) := ⟨rfl, rfl, rfl, by decide +kernel, rfl, by decide +kernel, by decide +kernel⟩
abbrev s_are_parts : Stmt := top 24
theorem sc_are_parts : FnScope ["value", "part"] ["value"] (defScope s_are_parts) := ⟨rfl, rfl, rfl, by decide +kernel, rfl, by decide +kernel, by decide +kernel⟩
abbrev s_check_each_row : Stmt := top 25
theorem sc_check_each_row : FnScope ["rows", "kinds", "makers", "at", "kind", "maker", "parts"] ["rows"] (defScope s_check_each_row) := ⟨rfl, rfl, rfl, by decide +kernel, rfl, by decide +kernel, by decide +kernel⟩
abbrev s_check_inner_kinds : Stmt := top 26
theorem sc_check_inner_kinds : FnScope ["rows", "kind", "maker", "parts", "known", "at", "part"] ["rows"] (defScope s_check_inner_kinds) := ⟨rfl, rfl, rfl, by decide +kernel, rfl, by decide +kernel, by decide +kernel⟩
abbrev s_check_finite : Stmt := top 27
theorem sc_check_finite : FnScope ["rows", "least", "at", "kind", "maker", "parts"] ["rows", "least"] (defScope s_check_finite) := ⟨rfl, rfl, rfl, by decide +kernel, rfl, by decide +kernel, by decide +kernel⟩
abbrev s_makers_by_kind : Stmt := top 28
theorem sc_makers_by_kind : FnScope ["rows", "makers", "kind", "maker", "parts"] ["rows"] (defScope s_makers_by_kind) := ⟨rfl, rfl, rfl, by decide +kernel, rfl, by decide +kernel, by decide +kernel⟩
abbrev s_holdings : Stmt := top 29
theorem sc_holdings : FnScope ["parts", "part"] ["parts"] (defScope s_holdings) := ⟨rfl, rfl, rfl, by decide +kernel, rfl, by decide +kernel, by decide +kernel⟩
abbrev s_least_node : Stmt := top 30
theorem sc_least_node : FnScope ["tag", "maker", "parts", "least", "row", "tree", "part"] ["tag", "maker", "parts", "least"] (defScope s_least_node) := ⟨rfl, rfl, rfl, by decide +kernel, rfl, by decide +kernel, by decide +kernel⟩
abbrev s_least_trees : Stmt := top 31
theorem sc_least_trees : FnScope ["rows", "makers", "least", "_", "kind", "maker", "parts", "node"] ["rows"] (defScope s_least_trees) := ⟨rfl, rfl, rfl, by decide +kernel, rfl, by decide +kernel, by decide +kernel⟩
abbrev s_Kinds_init : Stmt := inClass (top 32) 0
theorem sc_Kinds_init : FnScope ["self", "rows", "least", "kind", "maker", "parts"] ["self", "rows"] (defScope s_Kinds_init) := ⟨rfl, rfl, rfl, by decide +kernel, rfl, by decide +kernel, by decide +kernel⟩
abbrev s_Kinds_contains : Stmt := inClass (top 32) 1
theorem sc_Kinds_contains : FnScope ["self", "x"] ["self", "x"] (defScope s_Kinds_contains) := ⟨rfl, rfl, rfl, by decide +kernel, rfl, by decide +kernel, by decide +kernel⟩
abbrev s_Kinds_makers : Stmt := inClass (top 32) 2
theorem sc_Kinds_makers : FnScope ["self", "kind"] ["self", "kind"] (defScope s_Kinds_makers) := ⟨rfl, rfl, rfl, by decide +kernel, rfl, by decide +kernel, by decide +kernel⟩
abbrev s_Kinds_kind_of : Stmt := inClass (top 32) 3
theorem sc_Kinds_kind_of : FnScope ["self", "maker"] ["self", "maker"] (defScope s_Kinds_kind_of) := ⟨rfl, rfl, rfl, by decide +kernel, rfl, by decide +kernel, by decide +kernel⟩
abbrev s_Kinds_tag : Stmt := inClass (top 32) 4
theorem sc_Kinds_tag : FnScope ["self", "maker"] ["self", "maker"] (defScope s_Kinds_tag) := ⟨rfl, rfl, rfl, by decide +kernel, rfl, by decide +kernel, by decide +kernel⟩
abbrev s_Kinds_parts : Stmt := inClass (top 32) 5
theorem sc_Kinds_parts : FnScope ["self", "maker"] ["self", "maker"] (defScope s_Kinds_parts) := ⟨rfl, rfl, rfl, by decide +kernel, rfl, by decide +kernel, by decide +kernel⟩
abbrev s_Kinds_inner : Stmt := inClass (top 32) 6
theorem sc_Kinds_inner : FnScope ["self", "maker", "part"] ["self", "maker", "part"] (defScope s_Kinds_inner) := ⟨rfl, rfl, rfl, by decide +kernel, rfl, by decide +kernel, by decide +kernel⟩
abbrev s_Kinds_price_of : Stmt := inClass (top 32) 7
theorem sc_Kinds_price_of : FnScope ["self", "maker", "part"] ["self", "maker", "part"] (defScope s_Kinds_price_of) := ⟨rfl, rfl, rfl, by decide +kernel, rfl, by decide +kernel, by decide +kernel⟩
abbrev s_Kinds_holding : Stmt := inClass (top 32) 8
theorem sc_Kinds_holding : FnScope ["self", "maker", "part"] ["self", "maker", "part"] (defScope s_Kinds_holding) := ⟨rfl, rfl, rfl, by decide +kernel, rfl, by decide +kernel, by decide +kernel⟩
abbrev s_Kinds_fits : Stmt := inClass (top 32) 9
theorem sc_Kinds_fits : FnScope ["self", "tree", "kind"] ["self", "tree", "kind"] (defScope s_Kinds_fits) := ⟨rfl, rfl, rfl, by decide +kernel, rfl, by decide +kernel, by decide +kernel⟩
abbrev s_Kinds_tree_fits : Stmt := inClass (top 32) 10
theorem sc_Kinds_tree_fits : FnScope ["self", "tree", "kind", "levels", "parts", "part", "value"] ["self", "tree", "kind", "levels"] (defScope s_Kinds_tree_fits) := ⟨rfl, rfl, rfl, by decide +kernel, rfl, by decide +kernel, by decide +kernel⟩
abbrev s_Kinds_value_fits : Stmt := inClass (top 32) 11
theorem sc_Kinds_value_fits : FnScope ["self", "value", "inner", "levels"] ["self", "value", "inner", "levels"] (defScope s_Kinds_value_fits) := ⟨rfl, rfl, rfl, by decide +kernel, rfl, by decide +kernel, by decide +kernel⟩
abbrev s_Kinds_node : Stmt := inClass (top 32) 12
theorem sc_Kinds_node : FnScope ["self", "maker", "parts", "kind", "tree"] ["self", "maker", "parts"] (defScope s_Kinds_node) := ⟨rfl, rfl, rfl, by decide +kernel, rfl, by decide +kernel, by decide +kernel⟩
abbrev s_Kinds_least : Stmt := inClass (top 32) 13
theorem sc_Kinds_least : FnScope ["self", "kind"] ["self", "kind"] (defScope s_Kinds_least) := ⟨rfl, rfl, rfl, by decide +kernel, rfl, by decide +kernel, by decide +kernel⟩
abbrev s_part_of : Stmt := top 35
theorem sc_part_of : FnScope ["slot"] ["slot"] (defScope s_part_of) := ⟨rfl, rfl, rfl, by decide +kernel, rfl, by decide +kernel, by decide +kernel⟩
abbrev s_has_length : Stmt := top 36
theorem sc_has_length : FnScope ["slot"] ["slot"] (defScope s_has_length) := ⟨rfl, rfl, rfl, by decide +kernel, rfl, by decide +kernel, by decide +kernel⟩
abbrev s_is_spec : Stmt := top 37
theorem sc_is_spec : FnScope ["kinds", "maker", "spec", "parts", "stored", "part", "slot"] ["kinds", "maker", "spec"] (defScope s_is_spec) := ⟨rfl, rfl, rfl, by decide +kernel, rfl, by decide +kernel, by decide +kernel⟩
abbrev s_spec_with : Stmt := top 38
theorem sc_spec_with : FnScope ["spec", "part", "slot", "old"] ["spec", "part", "slot"] (defScope s_spec_with) := ⟨rfl, rfl, rfl, by decide +kernel, rfl, by decide +kernel, by decide +kernel⟩
abbrev s_spec_price : Stmt := top 39
theorem sc_spec_price : FnScope ["kinds", "maker", "spec", "slot"] ["kinds", "maker", "spec"] (defScope s_spec_price) := ⟨rfl, rfl, rfl, by decide +kernel, rfl, by decide +kernel, by decide +kernel⟩
abbrev s_specs_price : Stmt := top 40
theorem sc_specs_price : FnScope ["kinds", "pairs", "maker", "spec"] ["kinds", "pairs"] (defScope s_specs_price) := ⟨rfl, rfl, rfl, by decide +kernel, rfl, by decide +kernel, by decide +kernel⟩
abbrev s_tree_parts : Stmt := top 41
theorem sc_tree_parts : FnScope ["kinds", "maker", "part"] ["kinds", "maker"] (defScope s_tree_parts) := ⟨rfl, rfl, rfl, by decide +kernel, rfl, by decide +kernel, by decide +kernel⟩
abbrev s_all_marks : Stmt := top 42
theorem sc_all_marks : FnScope ["kinds", "maker", "part"] ["kinds"] (defScope s_all_marks) := ⟨rfl, rfl, rfl, by decide +kernel, rfl, by decide +kernel, by decide +kernel⟩
abbrev s_measured_spec : Stmt := top 43
theorem sc_measured_spec : FnScope ["kinds", "maker", "inside", "part"] ["kinds", "maker"] (defScope s_measured_spec) := ⟨rfl, rfl, rfl, by decide +kernel, rfl, by decide +kernel, by decide +kernel⟩
abbrev s_split_mark : Stmt := top 44
theorem sc_split_mark : FnScope ["kinds", "text", "maker", "_", "part"] ["kinds", "text"] (defScope s_split_mark) := ⟨rfl, rfl, rfl, by decide +kernel, rfl, by decide +kernel, by decide +kernel⟩
abbrev s_Layout_init : Stmt := inClass (top 45) 0
theorem sc_Layout_init : FnScope ["self", "kinds", "specs", "maker"] ["self", "kinds", "specs"] (defScope s_Layout_init) := ⟨rfl, rfl, rfl, by decide +kernel, rfl, by decide +kernel, by decide +kernel⟩
abbrev s_Layout_plain : Stmt := inClass (top 45) 1
theorem sc_Layout_plain : FnScope ["cls", "kinds", "maker"] ["cls", "kinds"] (defScope s_Layout_plain) := ⟨rfl, rfl, rfl, by decide +kernel, rfl, by decide +kernel, by decide +kernel⟩
abbrev s_Layout_measured : Stmt := inClass (top 45) 2
theorem sc_Layout_measured : FnScope ["cls", "kinds", "maker"] ["cls", "kinds"] (defScope s_Layout_measured) := ⟨rfl, rfl, rfl, by decide +kernel, rfl, by decide +kernel, by decide +kernel⟩
abbrev s_Layout_mark : Stmt := inClass (top 45) 3
theorem sc_Layout_mark : FnScope ["maker", "part"] ["maker", "part"] (defScope s_Layout_mark) := ⟨rfl, rfl, rfl, by decide +kernel, rfl, by decide +kernel, by decide +kernel⟩
abbrev s_Layout_price : Stmt := inClass (top 45) 4
theorem sc_Layout_price : FnScope ["self"] ["self"] (defScope s_Layout_price) := ⟨rfl, rfl, rfl, by decide +kernel, rfl, by decide +kernel, by decide +kernel⟩
abbrev s_Layout_iter : Stmt := inClass (top 45) 5
theorem sc_Layout_iter : FnScope ["self"] ["self"] (defScope s_Layout_iter) := ⟨rfl, rfl, rfl, by decide +kernel, rfl, by decide +kernel, by decide +kernel⟩
abbrev s_Layout_getitem : Stmt := inClass (top 45) 6
theorem sc_Layout_getitem : FnScope ["self", "at"] ["self", "at"] (defScope s_Layout_getitem) := ⟨rfl, rfl, rfl, by decide +kernel, rfl, by decide +kernel, by decide +kernel⟩
abbrev s_Layout_setitem : Stmt := inClass (top 45) 7
theorem sc_Layout_setitem : FnScope ["self", "at", "worth", "maker", "spec"] ["self", "at", "worth"] (defScope s_Layout_setitem) := ⟨rfl, rfl, rfl, by decide +kernel, rfl, by decide +kernel, by decide +kernel⟩
abbrev s_Layout_place : Stmt := inClass (top 45) 8
theorem sc_Layout_place : FnScope ["self"] ["self"] (defScope s_Layout_place) := ⟨rfl, rfl, rfl, by decide +kernel, rfl, by decide +kernel, by decide +kernel⟩
abbrev s_Layout_lt : Stmt := inClass (top 45) 9
theorem sc_Layout_lt : FnScope ["self", "other"] ["self", "other"] (defScope s_Layout_lt) := ⟨rfl, rfl, rfl, by decide +kernel, rfl, by decide +kernel, by decide +kernel⟩
abbrev s_Layout_le : Stmt := inClass (top 45) 10
theorem sc_Layout_le : FnScope ["self", "other"] ["self", "other"] (defScope s_Layout_le) := ⟨rfl, rfl, rfl, by decide +kernel, rfl, by decide +kernel, by decide +kernel⟩
abbrev s_Layout_eq : Stmt := inClass (top 45) 11
theorem sc_Layout_eq : FnScope ["self", "other"] ["self", "other"] (defScope s_Layout_eq) := ⟨rfl, rfl, rfl, by decide +kernel, rfl, by decide +kernel, by decide +kernel⟩
abbrev s_Layout_contains : Stmt := inClass (top 45) 12
theorem sc_Layout_contains : FnScope ["self", "x", "maker", "spec", "slot"] ["self", "x"] (defScope s_Layout_contains) := ⟨rfl, rfl, rfl, by decide +kernel, rfl, by decide +kernel, by decide +kernel⟩
abbrev s_Layout_add : Stmt := inClass (top 45) 13
theorem sc_Layout_add : FnScope ["self", "other", "maker", "part"] ["self", "other"] (defScope s_Layout_add) := ⟨rfl, rfl, rfl, by decide +kernel, rfl, by decide +kernel, by decide +kernel⟩
abbrev s_Layout_sub : Stmt := inClass (top 45) 14
theorem sc_Layout_sub : FnScope ["self", "other", "maker", "part"] ["self", "other"] (defScope s_Layout_sub) := ⟨rfl, rfl, rfl, by decide +kernel, rfl, by decide +kernel, by decide +kernel⟩
abbrev s_Layout_changed : Stmt := inClass (top 45) 15
theorem sc_Layout_changed : FnScope ["self", "maker", "part", "slot", "specs"] ["self", "maker", "part", "slot"] (defScope s_Layout_changed) := ⟨rfl, rfl, rfl, by decide +kernel, rfl, by decide +kernel, by decide +kernel⟩
abbrev s_Layout_iadd : Stmt := inClass (top 45) 16
theorem sc_Layout_iadd : FnScope ["self", "other", "maker", "part"] ["self", "other"] (defScope s_Layout_iadd) := ⟨rfl, rfl, rfl, by decide +kernel, rfl, by decide +kernel, by decide +kernel⟩
abbrev s_Layout_isub : Stmt := inClass (top 45) 17
theorem sc_Layout_isub : FnScope ["self", "other", "maker", "part"] ["self", "other"] (defScope s_Layout_isub) := ⟨rfl, rfl, rfl, by decide +kernel, rfl, by decide +kernel, by decide +kernel⟩
abbrev s_Layout_xor : Stmt := inClass (top 45) 18
theorem sc_Layout_xor : FnScope ["self", "other", "mark"] ["self", "other"] (defScope s_Layout_xor) := ⟨rfl, rfl, rfl, by decide +kernel, rfl, by decide +kernel, by decide +kernel⟩
abbrev s_Layout_lines : Stmt := inClass (top 45) 19
theorem sc_Layout_lines : FnScope ["self"] ["self"] (defScope s_Layout_lines) := ⟨rfl, rfl, rfl, by decide +kernel, rfl, by decide +kernel, by decide +kernel⟩
abbrev s_unpack : Stmt := top 47
theorem sc_unpack : FnScope ["layout", "kind", "row", "tree", "end"] ["layout", "kind", "row"] (defScope s_unpack) := ⟨rfl, rfl, rfl, by decide +kernel, rfl, by decide +kernel, by decide +kernel⟩
abbrev s_read_node : Stmt := top 48
theorem sc_read_node : FnScope ["layout", "kind", "row", "at", "level", "kinds", "makers", "maker", "values", "end", "slot", "part", "inner", "tree"] ["layout", "kind", "row", "at", "level"] (defScope s_read_node) := ⟨rfl, rfl, rfl, by decide +kernel, rfl, by decide +kernel, by decide +kernel⟩
abbrev s_read_byte : Stmt := top 49
theorem sc_read_byte : FnScope ["row", "at"] ["row", "at"] (defScope s_read_byte) := ⟨rfl, rfl, rfl, by decide +kernel, rfl, by decide +kernel, by decide +kernel⟩
abbrev s_read_measured : Stmt := top 50
theorem sc_read_measured : FnScope ["layout", "kind", "row", "at", "level", "start", "tree", "end"] ["layout", "kind", "row", "at", "level"] (defScope s_read_measured) := ⟨rfl, rfl, rfl, by decide +kernel, rfl, by decide +kernel, by decide +kernel⟩
abbrev s__law_take : Stmt := top 52
theorem sc__law_take : FnScope ["_law_pool_here", "_law_many"] ["_law_pool_here", "_law_many"] (defScope s__law_take) := ⟨rfl, rfl, rfl, by decide +kernel, rfl, by decide +kernel, by decide +kernel⟩
abbrev s__law_pool : Stmt := top 53
theorem sc__law_pool : FnScope ["_law_script", "_law_pool_here", "_law_cell", "_law_number", "_law_turn", "_law_mixed"] ["_law_script"] (defScope s__law_pool) := ⟨rfl, rfl, rfl, by decide +kernel, rfl, by decide +kernel, by decide +kernel⟩
abbrev s__law_name : Stmt := top 54
theorem sc__law_name : FnScope ["_law_seed", "_law_k", "_law_taken", "_law_letters", "_law_number", "_law_name_here", "_law_turn"] ["_law_seed", "_law_k", "_law_taken"] (defScope s__law_name) := ⟨rfl, rfl, rfl, by decide +kernel, rfl, by decide +kernel, by decide +kernel⟩
abbrev s__law_parts : Stmt := top 55
theorem sc__law_parts : FnScope ["_law_pool_here", "_law_seed", "_law_names", "_law_base_here", "_law_parts_here", "_law_taken", "_law_trees", "_law_at", "_law_pick", "_law_price"] ["_law_pool_here", "_law_seed", "_law_names", "_law_base_here"] (defScope s__law_parts) := ⟨rfl, rfl, rfl, by decide +kernel, rfl, by decide +kernel, by decide +kernel⟩
abbrev s__law_rows : Stmt := top 56
theorem sc__law_rows : FnScope ["_law_pool_here", "_law_seed", "_law_names", "_law_k", "_law_rows_here", "_law_count", "_law_base_here", "_law_at", "_law_maker", "_law_inner", "_law_turn", "_law_row"] ["_law_pool_here"] (defScope s__law_rows) := ⟨rfl, rfl, rfl, by decide +kernel, rfl, by decide +kernel, by decide +kernel⟩
abbrev s__law_shuffle : Stmt := top 57
theorem sc__law_shuffle : FnScope ["_law_pool_here", "_law_items", "_law_left", "_law_out", "_law_turn"] ["_law_pool_here", "_law_items"] (defScope s__law_shuffle) := ⟨rfl, rfl, rfl, by decide +kernel, rfl, by decide +kernel, by decide +kernel⟩
abbrev s__law_hidden : Stmt := top 58
theorem sc__law_hidden : FnScope ["_law_pool_here", "_law_rows_here", "_law_hidden_here", "_law_row"] ["_law_pool_here", "_law_rows_here"] (defScope s__law_hidden) := ⟨rfl, rfl, rfl, by decide +kernel, rfl, by decide +kernel, by decide +kernel⟩
abbrev s__law_specs : Stmt := top 59
theorem sc__law_specs : FnScope ["_law_pool_here", "_law_rows_here", "_law_hidden_here", "_law_style", "_law_specs_here", "_law_row", "_law_parts_here", "_law_slots", "_law_part", "_law_plus"] ["_law_pool_here", "_law_rows_here", "_law_hidden_here"] (defScope s__law_specs) := ⟨rfl, rfl, rfl, by decide +kernel, rfl, by decide +kernel, by decide +kernel⟩
abbrev s__law_base : Stmt := top 60
theorem sc__law_base : FnScope ["_law_rows_here", "_law_base_here", "_law_turn", "_law_row", "_law_open_kinds", "_law_part"] ["_law_rows_here"] (defScope s__law_base) := ⟨rfl, rfl, rfl, by decide +kernel, rfl, by decide +kernel, by decide +kernel⟩
abbrev s__law_tree : Stmt := top 61
theorem sc__law_tree : FnScope ["_law_pool_here", "_law_rows_here", "_law_base_here", "_law_kind", "_law_cut", "_law_fuel", "_law_row", "_law_choices", "_law_left", "_law_tree_here", "_law_part", "_law_share"] ["_law_pool_here", "_law_rows_here", "_law_base_here", "_law_kind", "_law_cut", "_law_fuel"] (defScope s__law_tree) := ⟨rfl, rfl, rfl, by decide +kernel, rfl, by decide +kernel, by decide +kernel⟩
abbrev s__law_pack : Stmt := top 62
theorem sc__law_pack : FnScope ["_law_rows_here", "_law_specs_here", "_law_tree_here", "_law_row", "_law_family", "_law_names", "_law_out", "_law_slot", "_law_value", "_law_inner", "_law_other", "_law_part"] ["_law_rows_here", "_law_specs_here", "_law_tree_here"] (defScope s__law_pack) := ⟨rfl, rfl, rfl, by decide +kernel, rfl, by decide +kernel, by decide +kernel⟩
abbrev s__law_int : Stmt := top 63
theorem sc__law_int : FnScope ["_law_value"] ["_law_value"] (defScope s__law_int) := ⟨rfl, rfl, rfl, by decide +kernel, rfl, by decide +kernel, by decide +kernel⟩
abbrev s__law_same : Stmt := top 64
theorem sc__law_same : FnScope ["_law_value", "_law_due", "_law_k"] ["_law_value", "_law_due"] (defScope s__law_same) := ⟨rfl, rfl, rfl, by decide +kernel, rfl, by decide +kernel, by decide +kernel⟩
abbrev s__law_read : Stmt := top 65
theorem sc__law_read : FnScope ["_law_rows_here", "_law_specs_here", "_law_kind", "_law_row", "_law_at", "_law_depth", "_law_family", "_law_maker", "_law_values", "_law_slot", "_law_name_here", "_law_part", "_law_inner", "_law_first", "_law_got", "_law_tree_here", "_law_other"] ["_law_rows_here", "_law_specs_here", "_law_kind", "_law_row", "_law_at", "_law_depth"] (defScope s__law_read) := ⟨rfl, rfl, rfl, by decide +kernel, rfl, by decide +kernel, by decide +kernel⟩
abbrev s__law_unpacked : Stmt := top 66
theorem sc__law_unpacked : FnScope ["_law_layout", "_law_kind", "_law_row", "e"] ["_law_layout", "_law_kind", "_law_row"] (defScope s__law_unpacked) := ⟨rfl, rfl, rfl, by decide +kernel, rfl, by decide +kernel, by decide +kernel⟩
abbrev s__law_right : Stmt := top 67
theorem sc__law_right : FnScope ["_law_rows_here", "_law_specs_here", "_law_layout", "_law_kind", "_law_row", "_law_due", "_law_answer"] ["_law_rows_here", "_law_specs_here", "_law_layout", "_law_kind", "_law_row"] (defScope s__law_right) := ⟨rfl, rfl, rfl, by decide +kernel, rfl, by decide +kernel, by decide +kernel⟩
abbrev s__law_spoilt : Stmt := top 68
theorem sc__law_spoilt : FnScope ["_law_pool_here", "_law_row", "_law_other", "_law_way", "_law_at", "_law_turn"] ["_law_pool_here", "_law_row", "_law_other", "_law_way"] (defScope s__law_spoilt) := ⟨rfl, rfl, rfl, by decide +kernel, rfl, by decide +kernel, by decide +kernel⟩
abbrev s_law : Stmt := top 69
theorem sc_law : FnScope ["_law_script", "_law_pool_here", "_law_rows_here", "_law_specs_here", "_law_layout", "_law_kind", "_law_base_here", "_law_tree_here", "_law_row", "_law_other", "_law_way", "_law_chains", "_law_plain", "_law_many", "_law_chain", "_law_turn"] ["_law_script"] (defScope s_law) := ⟨rfl, rfl, rfl, by decide +kernel, rfl, by decide +kernel, by decide +kernel⟩
def d__wall : He.DefD := ⟨("_wall", none), "_wall", "_wall", defArgs s__wall, defBody s__wall, defScope s__wall, [], []⟩
def d_BadKinds_init : He.DefD := ⟨("BadKinds", some "__init__"), "__init__", "BadKinds.__init__", defArgs s_BadKinds_init, defBody s_BadKinds_init, defScope s_BadKinds_init, [], []⟩
def d_BadFunctions_init : He.DefD := ⟨("BadFunctions", some "__init__"), "__init__", "BadFunctions.__init__", defArgs s_BadFunctions_init, defBody s_BadFunctions_init, defScope s_BadFunctions_init, [], []⟩
def d_BadLayout_init : He.DefD := ⟨("BadLayout", some "__init__"), "__init__", "BadLayout.__init__", defArgs s_BadLayout_init, defBody s_BadLayout_init, defScope s_BadLayout_init, [], []⟩
def d_BadRow_init : He.DefD := ⟨("BadRow", some "__init__"), "__init__", "BadRow.__init__", defArgs s_BadRow_init, defBody s_BadRow_init, defScope s_BadRow_init, [], []⟩
def d_NotThere_init : He.DefD := ⟨("NotThere", some "__init__"), "__init__", "NotThere.__init__", defArgs s_NotThere_init, defBody s_NotThere_init, defScope s_NotThere_init, [], []⟩
def d_Stuck_init : He.DefD := ⟨("Stuck", some "__init__"), "__init__", "Stuck.__init__", defArgs s_Stuck_init, defBody s_Stuck_init, defScope s_Stuck_init, [], []⟩
def d_WrongLayout_init : He.DefD := ⟨("WrongLayout", some "__init__"), "__init__", "WrongLayout.__init__", defArgs s_WrongLayout_init, defBody s_WrongLayout_init, defScope s_WrongLayout_init, [], []⟩
def d_NoLayout_init : He.DefD := ⟨("NoLayout", some "__init__"), "__init__", "NoLayout.__init__", defArgs s_NoLayout_init, defBody s_NoLayout_init, defScope s_NoLayout_init, [], []⟩
def d_is_name : He.DefD := ⟨("is_name", none), "is_name", "is_name", defArgs s_is_name, defBody s_is_name, defScope s_is_name, [], []⟩
def d_is_kind_name : He.DefD := ⟨("is_kind_name", none), "is_kind_name", "is_kind_name", defArgs s_is_kind_name, defBody s_is_kind_name, defScope s_is_kind_name, [], []⟩
def d_is_number : He.DefD := ⟨("is_number", none), "is_number", "is_number", defArgs s_is_number, defBody s_is_number, defScope s_is_number, [], []⟩
def d_is_part : He.DefD := ⟨("is_part", none), "is_part", "is_part", defArgs s_is_part, defBody s_is_part, defScope s_is_part, [], []⟩
def d_are_parts : He.DefD := ⟨("are_parts", none), "are_parts", "are_parts", defArgs s_are_parts, defBody s_are_parts, defScope s_are_parts, [], []⟩
def d_check_each_row : He.DefD := ⟨("check_each_row", none), "check_each_row", "check_each_row", defArgs s_check_each_row, defBody s_check_each_row, defScope s_check_each_row, [], []⟩
def d_check_inner_kinds : He.DefD := ⟨("check_inner_kinds", none), "check_inner_kinds", "check_inner_kinds", defArgs s_check_inner_kinds, defBody s_check_inner_kinds, defScope s_check_inner_kinds, [], []⟩
def d_check_finite : He.DefD := ⟨("check_finite", none), "check_finite", "check_finite", defArgs s_check_finite, defBody s_check_finite, defScope s_check_finite, [], []⟩
def d_makers_by_kind : He.DefD := ⟨("makers_by_kind", none), "makers_by_kind", "makers_by_kind", defArgs s_makers_by_kind, defBody s_makers_by_kind, defScope s_makers_by_kind, [], []⟩
def d_holdings : He.DefD := ⟨("holdings", none), "holdings", "holdings", defArgs s_holdings, defBody s_holdings, defScope s_holdings, [], []⟩
def d_least_node : He.DefD := ⟨("least_node", none), "least_node", "least_node", defArgs s_least_node, defBody s_least_node, defScope s_least_node, [], []⟩
def d_least_trees : He.DefD := ⟨("least_trees", none), "least_trees", "least_trees", defArgs s_least_trees, defBody s_least_trees, defScope s_least_trees, [], []⟩
def d_Kinds_init : He.DefD := ⟨("Kinds", some "__init__"), "__init__", "Kinds.__init__", defArgs s_Kinds_init, defBody s_Kinds_init, defScope s_Kinds_init, [], []⟩
def d_Kinds_contains : He.DefD := ⟨("Kinds", some "__contains__"), "__contains__", "Kinds.__contains__", defArgs s_Kinds_contains, defBody s_Kinds_contains, defScope s_Kinds_contains, [], []⟩
def d_Kinds_makers : He.DefD := ⟨("Kinds", some "makers"), "makers", "Kinds.makers", defArgs s_Kinds_makers, defBody s_Kinds_makers, defScope s_Kinds_makers, [], []⟩
def d_Kinds_kind_of : He.DefD := ⟨("Kinds", some "kind_of"), "kind_of", "Kinds.kind_of", defArgs s_Kinds_kind_of, defBody s_Kinds_kind_of, defScope s_Kinds_kind_of, [], []⟩
def d_Kinds_tag : He.DefD := ⟨("Kinds", some "tag"), "tag", "Kinds.tag", defArgs s_Kinds_tag, defBody s_Kinds_tag, defScope s_Kinds_tag, [], []⟩
def d_Kinds_parts : He.DefD := ⟨("Kinds", some "parts"), "parts", "Kinds.parts", defArgs s_Kinds_parts, defBody s_Kinds_parts, defScope s_Kinds_parts, [], []⟩
def d_Kinds_inner : He.DefD := ⟨("Kinds", some "inner"), "inner", "Kinds.inner", defArgs s_Kinds_inner, defBody s_Kinds_inner, defScope s_Kinds_inner, [], []⟩
def d_Kinds_price_of : He.DefD := ⟨("Kinds", some "price_of"), "price_of", "Kinds.price_of", defArgs s_Kinds_price_of, defBody s_Kinds_price_of, defScope s_Kinds_price_of, [], []⟩
def d_Kinds_holding : He.DefD := ⟨("Kinds", some "_holding"), "_holding", "Kinds._holding", defArgs s_Kinds_holding, defBody s_Kinds_holding, defScope s_Kinds_holding, [], []⟩
def d_Kinds_fits : He.DefD := ⟨("Kinds", some "fits"), "fits", "Kinds.fits", defArgs s_Kinds_fits, defBody s_Kinds_fits, defScope s_Kinds_fits, [], []⟩
def d_Kinds_tree_fits : He.DefD := ⟨("Kinds", some "_tree_fits"), "_tree_fits", "Kinds._tree_fits", defArgs s_Kinds_tree_fits, defBody s_Kinds_tree_fits, defScope s_Kinds_tree_fits, [], []⟩
def d_Kinds_value_fits : He.DefD := ⟨("Kinds", some "_value_fits"), "_value_fits", "Kinds._value_fits", defArgs s_Kinds_value_fits, defBody s_Kinds_value_fits, defScope s_Kinds_value_fits, [], []⟩
def d_Kinds_node : He.DefD := ⟨("Kinds", some "node"), "node", "Kinds.node", defArgs s_Kinds_node, defBody s_Kinds_node, defScope s_Kinds_node, [], []⟩
def d_Kinds_least : He.DefD := ⟨("Kinds", some "least"), "least", "Kinds.least", defArgs s_Kinds_least, defBody s_Kinds_least, defScope s_Kinds_least, [], []⟩
def d_part_of : He.DefD := ⟨("part_of", none), "part_of", "part_of", defArgs s_part_of, defBody s_part_of, defScope s_part_of, [], []⟩
def d_has_length : He.DefD := ⟨("has_length", none), "has_length", "has_length", defArgs s_has_length, defBody s_has_length, defScope s_has_length, [], []⟩
def d_is_spec : He.DefD := ⟨("is_spec", none), "is_spec", "is_spec", defArgs s_is_spec, defBody s_is_spec, defScope s_is_spec, [], []⟩
def d_spec_with : He.DefD := ⟨("spec_with", none), "spec_with", "spec_with", defArgs s_spec_with, defBody s_spec_with, defScope s_spec_with, [], []⟩
def d_spec_price : He.DefD := ⟨("spec_price", none), "spec_price", "spec_price", defArgs s_spec_price, defBody s_spec_price, defScope s_spec_price, [], []⟩
def d_specs_price : He.DefD := ⟨("specs_price", none), "specs_price", "specs_price", defArgs s_specs_price, defBody s_specs_price, defScope s_specs_price, [], []⟩
def d_tree_parts : He.DefD := ⟨("tree_parts", none), "tree_parts", "tree_parts", defArgs s_tree_parts, defBody s_tree_parts, defScope s_tree_parts, [], []⟩
def d_all_marks : He.DefD := ⟨("all_marks", none), "all_marks", "all_marks", defArgs s_all_marks, defBody s_all_marks, defScope s_all_marks, [], []⟩
def d_measured_spec : He.DefD := ⟨("measured_spec", none), "measured_spec", "measured_spec", defArgs s_measured_spec, defBody s_measured_spec, defScope s_measured_spec, [], []⟩
def d_split_mark : He.DefD := ⟨("split_mark", none), "split_mark", "split_mark", defArgs s_split_mark, defBody s_split_mark, defScope s_split_mark, [], []⟩
def d_Layout_init : He.DefD := ⟨("Layout", some "__init__"), "__init__", "Layout.__init__", defArgs s_Layout_init, defBody s_Layout_init, defScope s_Layout_init, [], []⟩
def d_Layout_plain : He.DefD := ⟨("Layout", some "plain"), "plain", "Layout.plain", defArgs s_Layout_plain, defBody s_Layout_plain, defScope s_Layout_plain, [], []⟩
def d_Layout_measured : He.DefD := ⟨("Layout", some "measured"), "measured", "Layout.measured", defArgs s_Layout_measured, defBody s_Layout_measured, defScope s_Layout_measured, [], []⟩
def d_Layout_mark : He.DefD := ⟨("Layout", some "mark"), "mark", "Layout.mark", defArgs s_Layout_mark, defBody s_Layout_mark, defScope s_Layout_mark, [], []⟩
def d_Layout_price : He.DefD := ⟨("Layout", some "price"), "price", "Layout.price", defArgs s_Layout_price, defBody s_Layout_price, defScope s_Layout_price, [], []⟩
def d_Layout_iter : He.DefD := ⟨("Layout", some "__iter__"), "__iter__", "Layout.__iter__", defArgs s_Layout_iter, defBody s_Layout_iter, defScope s_Layout_iter, [], []⟩
def d_Layout_getitem : He.DefD := ⟨("Layout", some "__getitem__"), "__getitem__", "Layout.__getitem__", defArgs s_Layout_getitem, defBody s_Layout_getitem, defScope s_Layout_getitem, [], []⟩
def d_Layout_setitem : He.DefD := ⟨("Layout", some "__setitem__"), "__setitem__", "Layout.__setitem__", defArgs s_Layout_setitem, defBody s_Layout_setitem, defScope s_Layout_setitem, [], []⟩
def d_Layout_place : He.DefD := ⟨("Layout", some "place"), "place", "Layout.place", defArgs s_Layout_place, defBody s_Layout_place, defScope s_Layout_place, [], []⟩
def d_Layout_lt : He.DefD := ⟨("Layout", some "__lt__"), "__lt__", "Layout.__lt__", defArgs s_Layout_lt, defBody s_Layout_lt, defScope s_Layout_lt, [], []⟩
def d_Layout_le : He.DefD := ⟨("Layout", some "__le__"), "__le__", "Layout.__le__", defArgs s_Layout_le, defBody s_Layout_le, defScope s_Layout_le, [], []⟩
def d_Layout_eq : He.DefD := ⟨("Layout", some "__eq__"), "__eq__", "Layout.__eq__", defArgs s_Layout_eq, defBody s_Layout_eq, defScope s_Layout_eq, [], []⟩
def d_Layout_contains : He.DefD := ⟨("Layout", some "__contains__"), "__contains__", "Layout.__contains__", defArgs s_Layout_contains, defBody s_Layout_contains, defScope s_Layout_contains, [], []⟩
def d_Layout_add : He.DefD := ⟨("Layout", some "__add__"), "__add__", "Layout.__add__", defArgs s_Layout_add, defBody s_Layout_add, defScope s_Layout_add, [], []⟩
def d_Layout_sub : He.DefD := ⟨("Layout", some "__sub__"), "__sub__", "Layout.__sub__", defArgs s_Layout_sub, defBody s_Layout_sub, defScope s_Layout_sub, [], []⟩
def d_Layout_changed : He.DefD := ⟨("Layout", some "_changed"), "_changed", "Layout._changed", defArgs s_Layout_changed, defBody s_Layout_changed, defScope s_Layout_changed, [], []⟩
def d_Layout_iadd : He.DefD := ⟨("Layout", some "__iadd__"), "__iadd__", "Layout.__iadd__", defArgs s_Layout_iadd, defBody s_Layout_iadd, defScope s_Layout_iadd, [], []⟩
def d_Layout_isub : He.DefD := ⟨("Layout", some "__isub__"), "__isub__", "Layout.__isub__", defArgs s_Layout_isub, defBody s_Layout_isub, defScope s_Layout_isub, [], []⟩
def d_Layout_xor : He.DefD := ⟨("Layout", some "__xor__"), "__xor__", "Layout.__xor__", defArgs s_Layout_xor, defBody s_Layout_xor, defScope s_Layout_xor, [], []⟩
def d_Layout_lines : He.DefD := ⟨("Layout", some "lines"), "lines", "Layout.lines", defArgs s_Layout_lines, defBody s_Layout_lines, defScope s_Layout_lines, [], []⟩
def d_unpack : He.DefD := ⟨("unpack", none), "unpack", "unpack", defArgs s_unpack, defBody s_unpack, defScope s_unpack, [], []⟩
def d_read_node : He.DefD := ⟨("read_node", none), "read_node", "read_node", defArgs s_read_node, defBody s_read_node, defScope s_read_node, [], []⟩
def d_read_byte : He.DefD := ⟨("read_byte", none), "read_byte", "read_byte", defArgs s_read_byte, defBody s_read_byte, defScope s_read_byte, [], []⟩
def d_read_measured : He.DefD := ⟨("read_measured", none), "read_measured", "read_measured", defArgs s_read_measured, defBody s_read_measured, defScope s_read_measured, [], []⟩
def d__law_take : He.DefD := ⟨("_law_take", none), "_law_take", "_law_take", defArgs s__law_take, defBody s__law_take, defScope s__law_take, [], []⟩
def d__law_pool : He.DefD := ⟨("_law_pool", none), "_law_pool", "_law_pool", defArgs s__law_pool, defBody s__law_pool, defScope s__law_pool, [], []⟩
def d__law_name : He.DefD := ⟨("_law_name", none), "_law_name", "_law_name", defArgs s__law_name, defBody s__law_name, defScope s__law_name, [], []⟩
def d__law_parts : He.DefD := ⟨("_law_parts", none), "_law_parts", "_law_parts", defArgs s__law_parts, defBody s__law_parts, defScope s__law_parts, [], []⟩
def d__law_rows : He.DefD := ⟨("_law_rows", none), "_law_rows", "_law_rows", defArgs s__law_rows, defBody s__law_rows, defScope s__law_rows, [], []⟩
def d__law_shuffle : He.DefD := ⟨("_law_shuffle", none), "_law_shuffle", "_law_shuffle", defArgs s__law_shuffle, defBody s__law_shuffle, defScope s__law_shuffle, [], []⟩
def d__law_hidden : He.DefD := ⟨("_law_hidden", none), "_law_hidden", "_law_hidden", defArgs s__law_hidden, defBody s__law_hidden, defScope s__law_hidden, [], []⟩
def d__law_specs : He.DefD := ⟨("_law_specs", none), "_law_specs", "_law_specs", defArgs s__law_specs, defBody s__law_specs, defScope s__law_specs, [], []⟩
def d__law_base : He.DefD := ⟨("_law_base", none), "_law_base", "_law_base", defArgs s__law_base, defBody s__law_base, defScope s__law_base, [], []⟩
def d__law_tree : He.DefD := ⟨("_law_tree", none), "_law_tree", "_law_tree", defArgs s__law_tree, defBody s__law_tree, defScope s__law_tree, [], []⟩
def d__law_pack : He.DefD := ⟨("_law_pack", none), "_law_pack", "_law_pack", defArgs s__law_pack, defBody s__law_pack, defScope s__law_pack, [], []⟩
def d__law_int : He.DefD := ⟨("_law_int", none), "_law_int", "_law_int", defArgs s__law_int, defBody s__law_int, defScope s__law_int, [], []⟩
def d__law_same : He.DefD := ⟨("_law_same", none), "_law_same", "_law_same", defArgs s__law_same, defBody s__law_same, defScope s__law_same, [], []⟩
def d__law_read : He.DefD := ⟨("_law_read", none), "_law_read", "_law_read", defArgs s__law_read, defBody s__law_read, defScope s__law_read, [], []⟩
def d__law_unpacked : He.DefD := ⟨("_law_unpacked", none), "_law_unpacked", "_law_unpacked", defArgs s__law_unpacked, defBody s__law_unpacked, defScope s__law_unpacked, [], []⟩
def d__law_right : He.DefD := ⟨("_law_right", none), "_law_right", "_law_right", defArgs s__law_right, defBody s__law_right, defScope s__law_right, [], []⟩
def d__law_spoilt : He.DefD := ⟨("_law_spoilt", none), "_law_spoilt", "_law_spoilt", defArgs s__law_spoilt, defBody s__law_spoilt, defScope s__law_spoilt, [], []⟩
def d_law : He.DefD := ⟨("law", none), "law", "law", defArgs s_law, defBody s_law, defScope s_law, [], []⟩
abbrev p__wall : List Str := ["k"]
abbrev p_BadKinds_init : List Str := ["self", "row"]
abbrev p_BadFunctions_init : List Str := ["self", "row"]
abbrev p_BadLayout_init : List Str := ["self", "maker"]
abbrev p_BadRow_init : List Str := ["self", "at"]
abbrev p_NotThere_init : List Str := ["self", "name"]
abbrev p_Stuck_init : List Str := ["self", "function", "maker", "part"]
abbrev p_WrongLayout_init : List Str := ["self", "start", "tree"]
abbrev p_NoLayout_init : List Str := ["self", "maker", "cycle"]
abbrev p_is_name : List Str := ["value"]
abbrev p_is_kind_name : List Str := ["value"]
abbrev p_is_number : List Str := ["value", "low", "high"]
abbrev p_is_part : List Str := ["value"]
abbrev p_are_parts : List Str := ["value"]
abbrev p_check_each_row : List Str := ["rows"]
abbrev p_check_inner_kinds : List Str := ["rows"]
abbrev p_check_finite : List Str := ["rows", "least"]
abbrev p_makers_by_kind : List Str := ["rows"]
abbrev p_holdings : List Str := ["parts"]
abbrev p_least_node : List Str := ["tag", "maker", "parts", "least"]
abbrev p_least_trees : List Str := ["rows"]
abbrev p_Kinds_init : List Str := ["self", "rows"]
abbrev p_Kinds_contains : List Str := ["self", "x"]
abbrev p_Kinds_makers : List Str := ["self", "kind"]
abbrev p_Kinds_kind_of : List Str := ["self", "maker"]
abbrev p_Kinds_tag : List Str := ["self", "maker"]
abbrev p_Kinds_parts : List Str := ["self", "maker"]
abbrev p_Kinds_inner : List Str := ["self", "maker", "part"]
abbrev p_Kinds_price_of : List Str := ["self", "maker", "part"]
abbrev p_Kinds_holding : List Str := ["self", "maker", "part"]
abbrev p_Kinds_fits : List Str := ["self", "tree", "kind"]
abbrev p_Kinds_tree_fits : List Str := ["self", "tree", "kind", "levels"]
abbrev p_Kinds_value_fits : List Str := ["self", "value", "inner", "levels"]
abbrev p_Kinds_node : List Str := ["self", "maker", "parts"]
abbrev p_Kinds_least : List Str := ["self", "kind"]
abbrev p_part_of : List Str := ["slot"]
abbrev p_has_length : List Str := ["slot"]
abbrev p_is_spec : List Str := ["kinds", "maker", "spec"]
abbrev p_spec_with : List Str := ["spec", "part", "slot"]
abbrev p_spec_price : List Str := ["kinds", "maker", "spec"]
abbrev p_specs_price : List Str := ["kinds", "pairs"]
abbrev p_tree_parts : List Str := ["kinds", "maker"]
abbrev p_all_marks : List Str := ["kinds"]
abbrev p_measured_spec : List Str := ["kinds", "maker"]
abbrev p_split_mark : List Str := ["kinds", "text"]
abbrev p_Layout_init : List Str := ["self", "kinds", "specs"]
abbrev p_Layout_plain : List Str := ["cls", "kinds"]
abbrev p_Layout_measured : List Str := ["cls", "kinds"]
abbrev p_Layout_mark : List Str := ["maker", "part"]
abbrev p_Layout_price : List Str := ["self"]
abbrev p_Layout_iter : List Str := ["self"]
abbrev p_Layout_getitem : List Str := ["self", "at"]
abbrev p_Layout_setitem : List Str := ["self", "at", "worth"]
abbrev p_Layout_place : List Str := ["self"]
abbrev p_Layout_lt : List Str := ["self", "other"]
abbrev p_Layout_le : List Str := ["self", "other"]
abbrev p_Layout_eq : List Str := ["self", "other"]
abbrev p_Layout_contains : List Str := ["self", "x"]
abbrev p_Layout_add : List Str := ["self", "other"]
abbrev p_Layout_sub : List Str := ["self", "other"]
abbrev p_Layout_changed : List Str := ["self", "maker", "part", "slot"]
abbrev p_Layout_iadd : List Str := ["self", "other"]
abbrev p_Layout_isub : List Str := ["self", "other"]
abbrev p_Layout_xor : List Str := ["self", "other"]
abbrev p_Layout_lines : List Str := ["self"]
abbrev p_unpack : List Str := ["layout", "kind", "row"]
abbrev p_read_node : List Str := ["layout", "kind", "row", "at", "level"]
abbrev p_read_byte : List Str := ["row", "at"]
abbrev p_read_measured : List Str := ["layout", "kind", "row", "at", "level"]
abbrev p__law_take : List Str := ["_law_pool_here", "_law_many"]
abbrev p__law_pool : List Str := ["_law_script"]
abbrev p__law_name : List Str := ["_law_seed", "_law_k", "_law_taken"]
abbrev p__law_parts : List Str := ["_law_pool_here", "_law_seed", "_law_names", "_law_base_here"]
abbrev p__law_rows : List Str := ["_law_pool_here"]
abbrev p__law_shuffle : List Str := ["_law_pool_here", "_law_items"]
abbrev p__law_hidden : List Str := ["_law_pool_here", "_law_rows_here"]
abbrev p__law_specs : List Str := ["_law_pool_here", "_law_rows_here", "_law_hidden_here"]
abbrev p__law_base : List Str := ["_law_rows_here"]
abbrev p__law_tree : List Str := ["_law_pool_here", "_law_rows_here", "_law_base_here", "_law_kind", "_law_cut", "_law_fuel"]
abbrev p__law_pack : List Str := ["_law_rows_here", "_law_specs_here", "_law_tree_here"]
abbrev p__law_int : List Str := ["_law_value"]
abbrev p__law_same : List Str := ["_law_value", "_law_due"]
abbrev p__law_read : List Str := ["_law_rows_here", "_law_specs_here", "_law_kind", "_law_row", "_law_at", "_law_depth"]
abbrev p__law_unpacked : List Str := ["_law_layout", "_law_kind", "_law_row"]
abbrev p__law_right : List Str := ["_law_rows_here", "_law_specs_here", "_law_layout", "_law_kind", "_law_row"]
abbrev p__law_spoilt : List Str := ["_law_pool_here", "_law_row", "_law_other", "_law_way"]
abbrev p_law : List Str := ["_law_script"]
def fn : List He.DefD := [d_BadLayout_init, d_BadRow_init, d_NotThere_init, d_is_name, d_is_kind_name, d_is_number, d_is_part, d_are_parts, d_check_each_row, d_check_inner_kinds, d_check_finite, d_makers_by_kind, d_holdings, d_least_node, d_least_trees, d_Kinds_init, d_Kinds_contains, d_Kinds_makers, d_Kinds_kind_of, d_Kinds_parts, d_Kinds_inner, d_Kinds_price_of, d_Kinds_holding, d_part_of, d_has_length, d_is_spec, d_spec_with, d_spec_price, d_specs_price, d_tree_parts, d_all_marks, d_measured_spec, d_split_mark, d_Layout_init, d_Layout_getitem, d_Layout_setitem, d_Layout_contains, d_Layout_changed, d_unpack, d_read_node, d_read_byte, d_read_measured, d__law_take, d__law_pool, d__law_name, d__law_parts, d__law_rows, d__law_shuffle, d__law_hidden, d__law_specs, d__law_base, d__law_tree, d__law_pack, d__law_int, d__law_same, d__law_read, d__law_unpacked, d__law_right, d__law_spoilt, d_law]
def e_Layout_mark : He5.DefA := ⟨fun K => He5.wf K (He.ga K "Layout") "staticmethod" "mark", "mark", "Layout.mark", defArgs s_Layout_mark, defBody s_Layout_mark, defScope s_Layout_mark, [], []⟩
def fn2 : List He5.DefA := [e_Layout_mark]
def fa : List He.Fa := [.glo "is_name", .glo "is_kind_name", .glo "is_number", .glo "is_part", .glo "are_parts", .glo "check_each_row", .glo "check_inner_kinds", .glo "check_finite", .glo "makers_by_kind", .glo "holdings", .glo "least_node", .glo "least_trees", .glo "part_of", .glo "has_length", .glo "is_spec", .glo "spec_with", .glo "spec_price", .glo "specs_price", .glo "tree_parts", .glo "all_marks", .glo "measured_spec", .glo "split_mark", .glo "unpack", .glo "read_node", .glo "read_byte", .glo "read_measured", .glo "_law_take", .glo "_law_pool", .glo "_law_name", .glo "_law_parts", .glo "_law_rows", .glo "_law_shuffle", .glo "_law_hidden", .glo "_law_specs", .glo "_law_base", .glo "_law_tree", .glo "_law_pack", .glo "_law_int", .glo "_law_same", .glo "_law_read", .glo "_law_unpacked", .glo "_law_right", .glo "_law_spoilt", .glo "law", .glo "GroveError", .glo "BadKinds", .glo "BadFunctions", .glo "BadTree", .glo "BadLayout", .glo "BadRow", .glo "NotThere", .glo "Stuck", .glo "WrongLayout", .glo "NoLayout", .glo "Kinds", .glo "Layout", .keep "is_name", .keep "is_kind_name", .keep "is_number", .keep "is_part", .keep "are_parts", .keep "check_each_row", .keep "check_inner_kinds", .keep "check_finite", .keep "makers_by_kind", .keep "holdings", .keep "least_node", .keep "least_trees", .keep "part_of", .keep "has_length", .keep "is_spec", .keep "spec_with", .keep "spec_price", .keep "specs_price", .keep "tree_parts", .keep "all_marks", .keep "measured_spec", .keep "split_mark", .keep "unpack", .keep "read_node", .keep "read_byte", .keep "read_measured", .keep "_law_take", .keep "_law_pool", .keep "_law_name", .keep "_law_parts", .keep "_law_rows", .keep "_law_shuffle", .keep "_law_hidden", .keep "_law_specs", .keep "_law_base", .keep "_law_tree", .keep "_law_pack", .keep "_law_int", .keep "_law_same", .keep "_law_read", .keep "_law_unpacked", .keep "_law_right", .keep "_law_spoilt", .free "ValueError", .free "bool", .free "dict", .free "enumerate", .free "int", .free "isinstance", .free "iter", .free "len", .free "list", .free "range", .free "str", .free "sum", .free "tuple", .free "zip", .str "BYTE" "byte", .int "MOST_LETTERS" 24, .int "MOST_PARTS" 4, .int "MOST_PRICE" 1000, .int "MOST_ROWS" 12, .int "MOST_KINDS" 4, .int "MOST_LEVELS" 40, .str "PLUS" "+", .cls "Kinds", .mkr "Kinds", .noat "Kinds" "_makers", .noat "Kinds" "_kinds", .noat "Kinds" "_parts", .noat "Kinds" "_least", .noat "Kinds" "names", .noat "Kinds" "order", .meth "Kinds" "__contains__", .meth "Kinds" "makers", .meth "Kinds" "kind_of", .meth "Kinds" "parts", .meth "Kinds" "inner", .meth "Kinds" "price_of", .meth "Kinds" "_holding", .meth "Kinds" "_tree_fits", .meth "Kinds" "_value_fits", .cls "Layout", .mkr "Layout", .noat "Layout" "kinds", .noat "Layout" "_pairs", .noat "Layout" "_price", .meth "Layout" "__getitem__", .meth "Layout" "__setitem__", .meth "Layout" "__contains__", .meth "Layout" "_changed", .meth "BadLayout" "__init__", .noat "BadLayout" "maker", .meth "BadRow" "__init__", .noat "BadRow" "at", .meth "NotThere" "__init__", .noat "NotThere" "name", .exm "BadRow" "GroveError" true]
def exs (K : PySem.W.Frag) : Bool := giB K (He.ga K "GroveError") && exB K (He.ga K "BadLayout") && exB K (He.ga K "BadRow") && exB K (He.ga K "NotThere") && decide (PySem.W.kitAny K (.ref (He.ga K "BadRow")) [.ref (He.ga K "BadFunctions"), .ref (He.ga K "BadKinds"), .ref (He.ga K "BadLayout"), .ref (He.ga K "BadTree"), .ref (He.ga K "NoLayout"), .ref (He.ga K "NotThere"), .ref (He.ga K "Stuck"), .ref (He.ga K "WrongLayout")] = some false) && decide (PySem.W.kitOne K (.ref (He.ga K "BadRow")) (.type "ValueError") = some true) && PySem.W.readsIn K (He.ga K "Layout") (.type "type") && PySem.W.noSeq K (He.ga K "Layout") && He5.wrapB K (He.ga K "Layout") "staticmethod" "staticmethod.__get__" "mark"
structure Tx (K : PySem.W.Frag) (mg : Str → Option Value) : Prop where
  c : He.SaysD fa fn K
  e : exs K = true
  c2 : He5.SaysA [] fn2 K
  hh : ∃ h : Heap, K.In h ∧ h.Ns mainGlobals mg
theorem Tx.use {K : PySem.W.Frag} {mg : Str → Option Value} {A : Prop} (T : Tx K mg) (f : ∀ h : Heap, K.In h → h.Ns mainGlobals mg → A) : A := let ⟨h, a, b⟩ := T.hh; f h a b
namespace Tx
variable {K : PySem.W.Frag} {mg : Str → Option Value} (T : Tx K mg)
include T
theorem g_is_name : mg "is_name" = some (.ref (He.ga K "is_name")) := T.use fun _ X G => He.glo_ok X G (T.c.fact 0 (f := .glo "is_name") rfl)
theorem g_is_kind_name : mg "is_kind_name" = some (.ref (He.ga K "is_kind_name")) := T.use fun _ X G => He.glo_ok X G (T.c.fact 1 (f := .glo "is_kind_name") rfl)
theorem g_is_number : mg "is_number" = some (.ref (He.ga K "is_number")) := T.use fun _ X G => He.glo_ok X G (T.c.fact 2 (f := .glo "is_number") rfl)
theorem g_is_part : mg "is_part" = some (.ref (He.ga K "is_part")) := T.use fun _ X G => He.glo_ok X G (T.c.fact 3 (f := .glo "is_part") rfl)
theorem g_are_parts : mg "are_parts" = some (.ref (He.ga K "are_parts")) := T.use fun _ X G => He.glo_ok X G (T.c.fact 4 (f := .glo "are_parts") rfl)
theorem g_check_each_row : mg "check_each_row" = some (.ref (He.ga K "check_each_row")) := T.use fun _ X G => He.glo_ok X G (T.c.fact 5 (f := .glo "check_each_row") rfl)
theorem g_check_inner_kinds : mg "check_inner_kinds" = some (.ref (He.ga K "check_inner_kinds")) := T.use fun _ X G => He.glo_ok X G (T.c.fact 6 (f := .glo "check_inner_kinds") rfl)
theorem g_check_finite : mg "check_finite" = some (.ref (He.ga K "check_finite")) := T.use fun _ X G => He.glo_ok X G (T.c.fact 7 (f := .glo "check_finite") rfl)
theorem g_makers_by_kind : mg "makers_by_kind" = some (.ref (He.ga K "makers_by_kind")) := T.use fun _ X G => He.glo_ok X G (T.c.fact 8 (f := .glo "makers_by_kind") rfl)
theorem g_holdings : mg "holdings" = some (.ref (He.ga K "holdings")) := T.use fun _ X G => He.glo_ok X G (T.c.fact 9 (f := .glo "holdings") rfl)
theorem g_least_node : mg "least_node" = some (.ref (He.ga K "least_node")) := T.use fun _ X G => He.glo_ok X G (T.c.fact 10 (f := .glo "least_node") rfl)
theorem g_least_trees : mg "least_trees" = some (.ref (He.ga K "least_trees")) := T.use fun _ X G => He.glo_ok X G (T.c.fact 11 (f := .glo "least_trees") rfl)
theorem g_part_of : mg "part_of" = some (.ref (He.ga K "part_of")) := T.use fun _ X G => He.glo_ok X G (T.c.fact 12 (f := .glo "part_of") rfl)
theorem g_has_length : mg "has_length" = some (.ref (He.ga K "has_length")) := T.use fun _ X G => He.glo_ok X G (T.c.fact 13 (f := .glo "has_length") rfl)
theorem g_is_spec : mg "is_spec" = some (.ref (He.ga K "is_spec")) := T.use fun _ X G => He.glo_ok X G (T.c.fact 14 (f := .glo "is_spec") rfl)
theorem g_spec_with : mg "spec_with" = some (.ref (He.ga K "spec_with")) := T.use fun _ X G => He.glo_ok X G (T.c.fact 15 (f := .glo "spec_with") rfl)
theorem g_spec_price : mg "spec_price" = some (.ref (He.ga K "spec_price")) := T.use fun _ X G => He.glo_ok X G (T.c.fact 16 (f := .glo "spec_price") rfl)
theorem g_specs_price : mg "specs_price" = some (.ref (He.ga K "specs_price")) := T.use fun _ X G => He.glo_ok X G (T.c.fact 17 (f := .glo "specs_price") rfl)
theorem g_tree_parts : mg "tree_parts" = some (.ref (He.ga K "tree_parts")) := T.use fun _ X G => He.glo_ok X G (T.c.fact 18 (f := .glo "tree_parts") rfl)
theorem g_all_marks : mg "all_marks" = some (.ref (He.ga K "all_marks")) := T.use fun _ X G => He.glo_ok X G (T.c.fact 19 (f := .glo "all_marks") rfl)
theorem g_measured_spec : mg "measured_spec" = some (.ref (He.ga K "measured_spec")) := T.use fun _ X G => He.glo_ok X G (T.c.fact 20 (f := .glo "measured_spec") rfl)
theorem g_split_mark : mg "split_mark" = some (.ref (He.ga K "split_mark")) := T.use fun _ X G => He.glo_ok X G (T.c.fact 21 (f := .glo "split_mark") rfl)
theorem g_unpack : mg "unpack" = some (.ref (He.ga K "unpack")) := T.use fun _ X G => He.glo_ok X G (T.c.fact 22 (f := .glo "unpack") rfl)
theorem g_read_node : mg "read_node" = some (.ref (He.ga K "read_node")) := T.use fun _ X G => He.glo_ok X G (T.c.fact 23 (f := .glo "read_node") rfl)
theorem g_read_byte : mg "read_byte" = some (.ref (He.ga K "read_byte")) := T.use fun _ X G => He.glo_ok X G (T.c.fact 24 (f := .glo "read_byte") rfl)
theorem g_read_measured : mg "read_measured" = some (.ref (He.ga K "read_measured")) := T.use fun _ X G => He.glo_ok X G (T.c.fact 25 (f := .glo "read_measured") rfl)
theorem g_law_take : mg "_law_take" = some (.ref (He.ga K "_law_take")) := T.use fun _ X G => He.glo_ok X G (T.c.fact 26 (f := .glo "_law_take") rfl)
theorem g_law_pool : mg "_law_pool" = some (.ref (He.ga K "_law_pool")) := T.use fun _ X G => He.glo_ok X G (T.c.fact 27 (f := .glo "_law_pool") rfl)
theorem g_law_name : mg "_law_name" = some (.ref (He.ga K "_law_name")) := T.use fun _ X G => He.glo_ok X G (T.c.fact 28 (f := .glo "_law_name") rfl)
theorem g_law_parts : mg "_law_parts" = some (.ref (He.ga K "_law_parts")) := T.use fun _ X G => He.glo_ok X G (T.c.fact 29 (f := .glo "_law_parts") rfl)
theorem g_law_rows : mg "_law_rows" = some (.ref (He.ga K "_law_rows")) := T.use fun _ X G => He.glo_ok X G (T.c.fact 30 (f := .glo "_law_rows") rfl)
theorem g_law_shuffle : mg "_law_shuffle" = some (.ref (He.ga K "_law_shuffle")) := T.use fun _ X G => He.glo_ok X G (T.c.fact 31 (f := .glo "_law_shuffle") rfl)
theorem g_law_hidden : mg "_law_hidden" = some (.ref (He.ga K "_law_hidden")) := T.use fun _ X G => He.glo_ok X G (T.c.fact 32 (f := .glo "_law_hidden") rfl)
theorem g_law_specs : mg "_law_specs" = some (.ref (He.ga K "_law_specs")) := T.use fun _ X G => He.glo_ok X G (T.c.fact 33 (f := .glo "_law_specs") rfl)
theorem g_law_base : mg "_law_base" = some (.ref (He.ga K "_law_base")) := T.use fun _ X G => He.glo_ok X G (T.c.fact 34 (f := .glo "_law_base") rfl)
theorem g_law_tree : mg "_law_tree" = some (.ref (He.ga K "_law_tree")) := T.use fun _ X G => He.glo_ok X G (T.c.fact 35 (f := .glo "_law_tree") rfl)
theorem g_law_pack : mg "_law_pack" = some (.ref (He.ga K "_law_pack")) := T.use fun _ X G => He.glo_ok X G (T.c.fact 36 (f := .glo "_law_pack") rfl)
theorem g_law_int : mg "_law_int" = some (.ref (He.ga K "_law_int")) := T.use fun _ X G => He.glo_ok X G (T.c.fact 37 (f := .glo "_law_int") rfl)
theorem g_law_same : mg "_law_same" = some (.ref (He.ga K "_law_same")) := T.use fun _ X G => He.glo_ok X G (T.c.fact 38 (f := .glo "_law_same") rfl)
theorem g_law_read : mg "_law_read" = some (.ref (He.ga K "_law_read")) := T.use fun _ X G => He.glo_ok X G (T.c.fact 39 (f := .glo "_law_read") rfl)
theorem g_law_unpacked : mg "_law_unpacked" = some (.ref (He.ga K "_law_unpacked")) := T.use fun _ X G => He.glo_ok X G (T.c.fact 40 (f := .glo "_law_unpacked") rfl)
theorem g_law_right : mg "_law_right" = some (.ref (He.ga K "_law_right")) := T.use fun _ X G => He.glo_ok X G (T.c.fact 41 (f := .glo "_law_right") rfl)
theorem g_law_spoilt : mg "_law_spoilt" = some (.ref (He.ga K "_law_spoilt")) := T.use fun _ X G => He.glo_ok X G (T.c.fact 42 (f := .glo "_law_spoilt") rfl)
theorem g_law : mg "law" = some (.ref (He.ga K "law")) := T.use fun _ X G => He.glo_ok X G (T.c.fact 43 (f := .glo "law") rfl)
theorem g_GroveError : mg "GroveError" = some (.ref (He.ga K "GroveError")) := T.use fun _ X G => He.glo_ok X G (T.c.fact 44 (f := .glo "GroveError") rfl)
theorem g_BadKinds : mg "BadKinds" = some (.ref (He.ga K "BadKinds")) := T.use fun _ X G => He.glo_ok X G (T.c.fact 45 (f := .glo "BadKinds") rfl)
theorem g_BadFunctions : mg "BadFunctions" = some (.ref (He.ga K "BadFunctions")) := T.use fun _ X G => He.glo_ok X G (T.c.fact 46 (f := .glo "BadFunctions") rfl)
theorem g_BadTree : mg "BadTree" = some (.ref (He.ga K "BadTree")) := T.use fun _ X G => He.glo_ok X G (T.c.fact 47 (f := .glo "BadTree") rfl)
theorem g_BadLayout : mg "BadLayout" = some (.ref (He.ga K "BadLayout")) := T.use fun _ X G => He.glo_ok X G (T.c.fact 48 (f := .glo "BadLayout") rfl)
theorem g_BadRow : mg "BadRow" = some (.ref (He.ga K "BadRow")) := T.use fun _ X G => He.glo_ok X G (T.c.fact 49 (f := .glo "BadRow") rfl)
theorem g_NotThere : mg "NotThere" = some (.ref (He.ga K "NotThere")) := T.use fun _ X G => He.glo_ok X G (T.c.fact 50 (f := .glo "NotThere") rfl)
theorem g_Stuck : mg "Stuck" = some (.ref (He.ga K "Stuck")) := T.use fun _ X G => He.glo_ok X G (T.c.fact 51 (f := .glo "Stuck") rfl)
theorem g_WrongLayout : mg "WrongLayout" = some (.ref (He.ga K "WrongLayout")) := T.use fun _ X G => He.glo_ok X G (T.c.fact 52 (f := .glo "WrongLayout") rfl)
theorem g_NoLayout : mg "NoLayout" = some (.ref (He.ga K "NoLayout")) := T.use fun _ X G => He.glo_ok X G (T.c.fact 53 (f := .glo "NoLayout") rfl)
theorem g_Kinds : mg "Kinds" = some (.ref (He.ga K "Kinds")) := T.use fun _ X G => He.glo_ok X G (T.c.fact 54 (f := .glo "Kinds") rfl)
theorem g_Layout : mg "Layout" = some (.ref (He.ga K "Layout")) := T.use fun _ X G => He.glo_ok X G (T.c.fact 55 (f := .glo "Layout") rfl)
theorem k_is_name : PySem.W.keepIn K (.ref (He.ga K "is_name")) = true := He.keep_ok (T.c.fact 56 (f := .keep "is_name") rfl)
theorem k_is_kind_name : PySem.W.keepIn K (.ref (He.ga K "is_kind_name")) = true := He.keep_ok (T.c.fact 57 (f := .keep "is_kind_name") rfl)
theorem k_is_number : PySem.W.keepIn K (.ref (He.ga K "is_number")) = true := He.keep_ok (T.c.fact 58 (f := .keep "is_number") rfl)
theorem k_is_part : PySem.W.keepIn K (.ref (He.ga K "is_part")) = true := He.keep_ok (T.c.fact 59 (f := .keep "is_part") rfl)
theorem k_are_parts : PySem.W.keepIn K (.ref (He.ga K "are_parts")) = true := He.keep_ok (T.c.fact 60 (f := .keep "are_parts") rfl)
theorem k_check_each_row : PySem.W.keepIn K (.ref (He.ga K "check_each_row")) = true := He.keep_ok (T.c.fact 61 (f := .keep "check_each_row") rfl)
theorem k_check_inner_kinds : PySem.W.keepIn K (.ref (He.ga K "check_inner_kinds")) = true := He.keep_ok (T.c.fact 62 (f := .keep "check_inner_kinds") rfl)
theorem k_check_finite : PySem.W.keepIn K (.ref (He.ga K "check_finite")) = true := He.keep_ok (T.c.fact 63 (f := .keep "check_finite") rfl)
theorem k_makers_by_kind : PySem.W.keepIn K (.ref (He.ga K "makers_by_kind")) = true := He.keep_ok (T.c.fact 64 (f := .keep "makers_by_kind") rfl)
theorem k_holdings : PySem.W.keepIn K (.ref (He.ga K "holdings")) = true := He.keep_ok (T.c.fact 65 (f := .keep "holdings") rfl)
theorem k_least_node : PySem.W.keepIn K (.ref (He.ga K "least_node")) = true := He.keep_ok (T.c.fact 66 (f := .keep "least_node") rfl)
theorem k_least_trees : PySem.W.keepIn K (.ref (He.ga K "least_trees")) = true := He.keep_ok (T.c.fact 67 (f := .keep "least_trees") rfl)
theorem k_part_of : PySem.W.keepIn K (.ref (He.ga K "part_of")) = true := He.keep_ok (T.c.fact 68 (f := .keep "part_of") rfl)
theorem k_has_length : PySem.W.keepIn K (.ref (He.ga K "has_length")) = true := He.keep_ok (T.c.fact 69 (f := .keep "has_length") rfl)
theorem k_is_spec : PySem.W.keepIn K (.ref (He.ga K "is_spec")) = true := He.keep_ok (T.c.fact 70 (f := .keep "is_spec") rfl)
theorem k_spec_with : PySem.W.keepIn K (.ref (He.ga K "spec_with")) = true := He.keep_ok (T.c.fact 71 (f := .keep "spec_with") rfl)
theorem k_spec_price : PySem.W.keepIn K (.ref (He.ga K "spec_price")) = true := He.keep_ok (T.c.fact 72 (f := .keep "spec_price") rfl)
theorem k_specs_price : PySem.W.keepIn K (.ref (He.ga K "specs_price")) = true := He.keep_ok (T.c.fact 73 (f := .keep "specs_price") rfl)
theorem k_tree_parts : PySem.W.keepIn K (.ref (He.ga K "tree_parts")) = true := He.keep_ok (T.c.fact 74 (f := .keep "tree_parts") rfl)
theorem k_all_marks : PySem.W.keepIn K (.ref (He.ga K "all_marks")) = true := He.keep_ok (T.c.fact 75 (f := .keep "all_marks") rfl)
theorem k_measured_spec : PySem.W.keepIn K (.ref (He.ga K "measured_spec")) = true := He.keep_ok (T.c.fact 76 (f := .keep "measured_spec") rfl)
theorem k_split_mark : PySem.W.keepIn K (.ref (He.ga K "split_mark")) = true := He.keep_ok (T.c.fact 77 (f := .keep "split_mark") rfl)
theorem k_unpack : PySem.W.keepIn K (.ref (He.ga K "unpack")) = true := He.keep_ok (T.c.fact 78 (f := .keep "unpack") rfl)
theorem k_read_node : PySem.W.keepIn K (.ref (He.ga K "read_node")) = true := He.keep_ok (T.c.fact 79 (f := .keep "read_node") rfl)
theorem k_read_byte : PySem.W.keepIn K (.ref (He.ga K "read_byte")) = true := He.keep_ok (T.c.fact 80 (f := .keep "read_byte") rfl)
theorem k_read_measured : PySem.W.keepIn K (.ref (He.ga K "read_measured")) = true := He.keep_ok (T.c.fact 81 (f := .keep "read_measured") rfl)
theorem k_law_take : PySem.W.keepIn K (.ref (He.ga K "_law_take")) = true := He.keep_ok (T.c.fact 82 (f := .keep "_law_take") rfl)
theorem k_law_pool : PySem.W.keepIn K (.ref (He.ga K "_law_pool")) = true := He.keep_ok (T.c.fact 83 (f := .keep "_law_pool") rfl)
theorem k_law_name : PySem.W.keepIn K (.ref (He.ga K "_law_name")) = true := He.keep_ok (T.c.fact 84 (f := .keep "_law_name") rfl)
theorem k_law_parts : PySem.W.keepIn K (.ref (He.ga K "_law_parts")) = true := He.keep_ok (T.c.fact 85 (f := .keep "_law_parts") rfl)
theorem k_law_rows : PySem.W.keepIn K (.ref (He.ga K "_law_rows")) = true := He.keep_ok (T.c.fact 86 (f := .keep "_law_rows") rfl)
theorem k_law_shuffle : PySem.W.keepIn K (.ref (He.ga K "_law_shuffle")) = true := He.keep_ok (T.c.fact 87 (f := .keep "_law_shuffle") rfl)
theorem k_law_hidden : PySem.W.keepIn K (.ref (He.ga K "_law_hidden")) = true := He.keep_ok (T.c.fact 88 (f := .keep "_law_hidden") rfl)
theorem k_law_specs : PySem.W.keepIn K (.ref (He.ga K "_law_specs")) = true := He.keep_ok (T.c.fact 89 (f := .keep "_law_specs") rfl)
theorem k_law_base : PySem.W.keepIn K (.ref (He.ga K "_law_base")) = true := He.keep_ok (T.c.fact 90 (f := .keep "_law_base") rfl)
theorem k_law_tree : PySem.W.keepIn K (.ref (He.ga K "_law_tree")) = true := He.keep_ok (T.c.fact 91 (f := .keep "_law_tree") rfl)
theorem k_law_pack : PySem.W.keepIn K (.ref (He.ga K "_law_pack")) = true := He.keep_ok (T.c.fact 92 (f := .keep "_law_pack") rfl)
theorem k_law_int : PySem.W.keepIn K (.ref (He.ga K "_law_int")) = true := He.keep_ok (T.c.fact 93 (f := .keep "_law_int") rfl)
theorem k_law_same : PySem.W.keepIn K (.ref (He.ga K "_law_same")) = true := He.keep_ok (T.c.fact 94 (f := .keep "_law_same") rfl)
theorem k_law_read : PySem.W.keepIn K (.ref (He.ga K "_law_read")) = true := He.keep_ok (T.c.fact 95 (f := .keep "_law_read") rfl)
theorem k_law_unpacked : PySem.W.keepIn K (.ref (He.ga K "_law_unpacked")) = true := He.keep_ok (T.c.fact 96 (f := .keep "_law_unpacked") rfl)
theorem k_law_right : PySem.W.keepIn K (.ref (He.ga K "_law_right")) = true := He.keep_ok (T.c.fact 97 (f := .keep "_law_right") rfl)
theorem k_law_spoilt : PySem.W.keepIn K (.ref (He.ga K "_law_spoilt")) = true := He.keep_ok (T.c.fact 98 (f := .keep "_law_spoilt") rfl)
theorem n_ValueError : mg "ValueError" = none := T.use fun _ X G => He.free_ok X G (T.c.fact 99 (f := .free "ValueError") rfl)
theorem n_bool : mg "bool" = none := T.use fun _ X G => He.free_ok X G (T.c.fact 100 (f := .free "bool") rfl)
theorem n_dict : mg "dict" = none := T.use fun _ X G => He.free_ok X G (T.c.fact 101 (f := .free "dict") rfl)
theorem n_enumerate : mg "enumerate" = none := T.use fun _ X G => He.free_ok X G (T.c.fact 102 (f := .free "enumerate") rfl)
theorem n_int : mg "int" = none := T.use fun _ X G => He.free_ok X G (T.c.fact 103 (f := .free "int") rfl)
theorem n_isinstance : mg "isinstance" = none := T.use fun _ X G => He.free_ok X G (T.c.fact 104 (f := .free "isinstance") rfl)
theorem n_iter : mg "iter" = none := T.use fun _ X G => He.free_ok X G (T.c.fact 105 (f := .free "iter") rfl)
theorem n_len : mg "len" = none := T.use fun _ X G => He.free_ok X G (T.c.fact 106 (f := .free "len") rfl)
theorem n_list : mg "list" = none := T.use fun _ X G => He.free_ok X G (T.c.fact 107 (f := .free "list") rfl)
theorem n_range : mg "range" = none := T.use fun _ X G => He.free_ok X G (T.c.fact 108 (f := .free "range") rfl)
theorem n_str : mg "str" = none := T.use fun _ X G => He.free_ok X G (T.c.fact 109 (f := .free "str") rfl)
theorem n_sum : mg "sum" = none := T.use fun _ X G => He.free_ok X G (T.c.fact 110 (f := .free "sum") rfl)
theorem n_tuple : mg "tuple" = none := T.use fun _ X G => He.free_ok X G (T.c.fact 111 (f := .free "tuple") rfl)
theorem n_zip : mg "zip" = none := T.use fun _ X G => He.free_ok X G (T.c.fact 112 (f := .free "zip") rfl)
theorem c_BYTE : ∃ t, mg "BYTE" = some (.str "byte" t) := T.use fun _ X G => He.str_ok X G (T.c.fact 113 (f := .str "BYTE" "byte") rfl)
theorem c_MOST_LETTERS : ∃ t, mg "MOST_LETTERS" = some (.int 24 t) := T.use fun _ X G => He.int_ok X G (T.c.fact 114 (f := .int "MOST_LETTERS" 24) rfl)
theorem c_MOST_PARTS : ∃ t, mg "MOST_PARTS" = some (.int 4 t) := T.use fun _ X G => He.int_ok X G (T.c.fact 115 (f := .int "MOST_PARTS" 4) rfl)
theorem c_MOST_PRICE : ∃ t, mg "MOST_PRICE" = some (.int 1000 t) := T.use fun _ X G => He.int_ok X G (T.c.fact 116 (f := .int "MOST_PRICE" 1000) rfl)
theorem c_MOST_ROWS : ∃ t, mg "MOST_ROWS" = some (.int 12 t) := T.use fun _ X G => He.int_ok X G (T.c.fact 117 (f := .int "MOST_ROWS" 12) rfl)
theorem c_MOST_KINDS : ∃ t, mg "MOST_KINDS" = some (.int 4 t) := T.use fun _ X G => He.int_ok X G (T.c.fact 118 (f := .int "MOST_KINDS" 4) rfl)
theorem c_MOST_LEVELS : ∃ t, mg "MOST_LEVELS" = some (.int 40 t) := T.use fun _ X G => He.int_ok X G (T.c.fact 119 (f := .int "MOST_LEVELS" 40) rfl)
theorem c_PLUS : ∃ t, mg "PLUS" = some (.str "+" t) := T.use fun _ X G => He.str_ok X G (T.c.fact 120 (f := .str "PLUS" "+") rfl)
theorem cl_Kinds : Cls K (He.ga K "Kinds") := He.cls_ok (T.c.fact 121 (f := .cls "Kinds") rfl)
theorem mk_Kinds : Mk K (He.ga K "Kinds") (He.ma K (He.ga K "Kinds") "__init__") := He.mkr_ok (T.c.fact 122 (f := .mkr "Kinds") rfl)
theorem na_Kinds_makers_ : NoAttr K (He.ga K "Kinds") "_makers" := He.noat_ok (T.c.fact 123 (f := .noat "Kinds" "_makers") rfl)
theorem na_Kinds_kinds_ : NoAttr K (He.ga K "Kinds") "_kinds" := He.noat_ok (T.c.fact 124 (f := .noat "Kinds" "_kinds") rfl)
theorem na_Kinds_parts_ : NoAttr K (He.ga K "Kinds") "_parts" := He.noat_ok (T.c.fact 125 (f := .noat "Kinds" "_parts") rfl)
theorem na_Kinds_least_ : NoAttr K (He.ga K "Kinds") "_least" := He.noat_ok (T.c.fact 126 (f := .noat "Kinds" "_least") rfl)
theorem na_Kinds_names : NoAttr K (He.ga K "Kinds") "names" := He.noat_ok (T.c.fact 127 (f := .noat "Kinds" "names") rfl)
theorem na_Kinds_order : NoAttr K (He.ga K "Kinds") "order" := He.noat_ok (T.c.fact 128 (f := .noat "Kinds" "order") rfl)
theorem m_Kinds_contains : Meth K (He.ga K "Kinds") "__contains__" (He.ma K (He.ga K "Kinds") "__contains__") := He.meth_ok (T.c.fact 129 (f := .meth "Kinds" "__contains__") rfl)
theorem m_Kinds_makers : Meth K (He.ga K "Kinds") "makers" (He.ma K (He.ga K "Kinds") "makers") := He.meth_ok (T.c.fact 130 (f := .meth "Kinds" "makers") rfl)
theorem m_Kinds_kind_of : Meth K (He.ga K "Kinds") "kind_of" (He.ma K (He.ga K "Kinds") "kind_of") := He.meth_ok (T.c.fact 131 (f := .meth "Kinds" "kind_of") rfl)
theorem m_Kinds_parts : Meth K (He.ga K "Kinds") "parts" (He.ma K (He.ga K "Kinds") "parts") := He.meth_ok (T.c.fact 132 (f := .meth "Kinds" "parts") rfl)
theorem m_Kinds_inner : Meth K (He.ga K "Kinds") "inner" (He.ma K (He.ga K "Kinds") "inner") := He.meth_ok (T.c.fact 133 (f := .meth "Kinds" "inner") rfl)
theorem m_Kinds_price_of : Meth K (He.ga K "Kinds") "price_of" (He.ma K (He.ga K "Kinds") "price_of") := He.meth_ok (T.c.fact 134 (f := .meth "Kinds" "price_of") rfl)
theorem m_Kinds_holding : Meth K (He.ga K "Kinds") "_holding" (He.ma K (He.ga K "Kinds") "_holding") := He.meth_ok (T.c.fact 135 (f := .meth "Kinds" "_holding") rfl)
theorem m_Kinds_tree_fits : Meth K (He.ga K "Kinds") "_tree_fits" (He.ma K (He.ga K "Kinds") "_tree_fits") := He.meth_ok (T.c.fact 136 (f := .meth "Kinds" "_tree_fits") rfl)
theorem m_Kinds_value_fits : Meth K (He.ga K "Kinds") "_value_fits" (He.ma K (He.ga K "Kinds") "_value_fits") := He.meth_ok (T.c.fact 137 (f := .meth "Kinds" "_value_fits") rfl)
theorem cl_Layout : Cls K (He.ga K "Layout") := He.cls_ok (T.c.fact 138 (f := .cls "Layout") rfl)
theorem mk_Layout : Mk K (He.ga K "Layout") (He.ma K (He.ga K "Layout") "__init__") := He.mkr_ok (T.c.fact 139 (f := .mkr "Layout") rfl)
theorem na_Layout_kinds : NoAttr K (He.ga K "Layout") "kinds" := He.noat_ok (T.c.fact 140 (f := .noat "Layout" "kinds") rfl)
theorem na_Layout_pairs_ : NoAttr K (He.ga K "Layout") "_pairs" := He.noat_ok (T.c.fact 141 (f := .noat "Layout" "_pairs") rfl)
theorem na_Layout_price_ : NoAttr K (He.ga K "Layout") "_price" := He.noat_ok (T.c.fact 142 (f := .noat "Layout" "_price") rfl)
theorem m_Layout_getitem : Meth K (He.ga K "Layout") "__getitem__" (He.ma K (He.ga K "Layout") "__getitem__") := He.meth_ok (T.c.fact 143 (f := .meth "Layout" "__getitem__") rfl)
theorem m_Layout_setitem : Meth K (He.ga K "Layout") "__setitem__" (He.ma K (He.ga K "Layout") "__setitem__") := He.meth_ok (T.c.fact 144 (f := .meth "Layout" "__setitem__") rfl)
theorem m_Layout_contains : Meth K (He.ga K "Layout") "__contains__" (He.ma K (He.ga K "Layout") "__contains__") := He.meth_ok (T.c.fact 145 (f := .meth "Layout" "__contains__") rfl)
theorem m_Layout_changed : Meth K (He.ga K "Layout") "_changed" (He.ma K (He.ga K "Layout") "_changed") := He.meth_ok (T.c.fact 146 (f := .meth "Layout" "_changed") rfl)
theorem m_BadLayout_init : Meth K (He.ga K "BadLayout") "__init__" (He.ma K (He.ga K "BadLayout") "__init__") := He.meth_ok (T.c.fact 147 (f := .meth "BadLayout" "__init__") rfl)
theorem na_BadLayout_maker : NoAttr K (He.ga K "BadLayout") "maker" := He.noat_ok (T.c.fact 148 (f := .noat "BadLayout" "maker") rfl)
theorem m_BadRow_init : Meth K (He.ga K "BadRow") "__init__" (He.ma K (He.ga K "BadRow") "__init__") := He.meth_ok (T.c.fact 149 (f := .meth "BadRow" "__init__") rfl)
theorem na_BadRow_at : NoAttr K (He.ga K "BadRow") "at" := He.noat_ok (T.c.fact 150 (f := .noat "BadRow" "at") rfl)
theorem m_NotThere_init : Meth K (He.ga K "NotThere") "__init__" (He.ma K (He.ga K "NotThere") "__init__") := He.meth_ok (T.c.fact 151 (f := .meth "NotThere" "__init__") rfl)
theorem na_NotThere_name : NoAttr K (He.ga K "NotThere") "name" := He.noat_ok (T.c.fact 152 (f := .noat "NotThere" "name") rfl)
theorem e_BadRow_GroveError : PySem.W.exmOne K (.ref (He.ga K "BadRow")) (.ref (He.ga K "GroveError")) = some true := He.exm_ok (T.c.fact 153 (f := .exm "BadRow" "GroveError" true) rfl)
theorem gi : GiT K (He.ga K "GroveError") := giB_ok ((He.ba ((He.ba (He.ba (He.ba (He.ba (He.ba (He.ba (He.ba T.e).1).1).1).1).1).1).1)).1)
theorem x_BadLayout : ExT K (He.ga K "BadLayout") := exB_ok ((He.ba ((He.ba (He.ba (He.ba (He.ba (He.ba (He.ba (He.ba T.e).1).1).1).1).1).1).1)).2)
theorem x_BadRow : ExT K (He.ga K "BadRow") := exB_ok ((He.ba ((He.ba (He.ba (He.ba (He.ba (He.ba (He.ba T.e).1).1).1).1).1).1)).2)
theorem x_NotThere : ExT K (He.ga K "NotThere") := exB_ok ((He.ba ((He.ba (He.ba (He.ba (He.ba (He.ba T.e).1).1).1).1).1)).2)
theorem kit_BadRow_any : PySem.W.kitAny K (.ref (He.ga K "BadRow")) [.ref (He.ga K "BadFunctions"), .ref (He.ga K "BadKinds"), .ref (He.ga K "BadLayout"), .ref (He.ga K "BadTree"), .ref (He.ga K "NoLayout"), .ref (He.ga K "NotThere"), .ref (He.ga K "Stuck"), .ref (He.ga K "WrongLayout")] = some false := of_decide_eq_true ((He.ba ((He.ba (He.ba (He.ba (He.ba T.e).1).1).1).1)).2)
theorem kit_BadRow_ValueError : PySem.W.kitOne K (.ref (He.ga K "BadRow")) (.type "ValueError") = some true := of_decide_eq_true ((He.ba ((He.ba (He.ba (He.ba T.e).1).1).1)).2)
theorem rd_Layout : ClX.CRead K (He.ga K "Layout") (.type "type") := cread_ok ((He.ba ((He.ba (He.ba T.e).1).1)).2)
theorem ns_Layout : PySem.W.noSeq K (He.ga K "Layout") = true := (He.ba ((He.ba T.e).1)).2
theorem sm_Layout_mark : SMet K (He.ga K "Layout") "mark" (He.ma K (He.ga K "Layout") "mark") (He5.wf K (He.ga K "Layout") "staticmethod" "mark") := smet_ok ((He.ba T.e).2)
theorem F_BadLayout_init : ∃ fd, FnP K ("BadLayout", some "__init__") "__init__" "BadLayout.__init__" s_BadLayout_init fd := T.c.def_ 0 (d := d_BadLayout_init) rfl
theorem F_BadRow_init : ∃ fd, FnP K ("BadRow", some "__init__") "__init__" "BadRow.__init__" s_BadRow_init fd := T.c.def_ 1 (d := d_BadRow_init) rfl
theorem F_NotThere_init : ∃ fd, FnP K ("NotThere", some "__init__") "__init__" "NotThere.__init__" s_NotThere_init fd := T.c.def_ 2 (d := d_NotThere_init) rfl
theorem F_is_name : ∃ fd, FnP K ("is_name", none) "is_name" "is_name" s_is_name fd := T.c.def_ 3 (d := d_is_name) rfl
theorem F_is_kind_name : ∃ fd, FnP K ("is_kind_name", none) "is_kind_name" "is_kind_name" s_is_kind_name fd := T.c.def_ 4 (d := d_is_kind_name) rfl
theorem F_is_number : ∃ fd, FnP K ("is_number", none) "is_number" "is_number" s_is_number fd := T.c.def_ 5 (d := d_is_number) rfl
theorem F_is_part : ∃ fd, FnP K ("is_part", none) "is_part" "is_part" s_is_part fd := T.c.def_ 6 (d := d_is_part) rfl
theorem F_are_parts : ∃ fd, FnP K ("are_parts", none) "are_parts" "are_parts" s_are_parts fd := T.c.def_ 7 (d := d_are_parts) rfl
theorem F_check_each_row : ∃ fd, FnP K ("check_each_row", none) "check_each_row" "check_each_row" s_check_each_row fd := T.c.def_ 8 (d := d_check_each_row) rfl
theorem F_check_inner_kinds : ∃ fd, FnP K ("check_inner_kinds", none) "check_inner_kinds" "check_inner_kinds" s_check_inner_kinds fd := T.c.def_ 9 (d := d_check_inner_kinds) rfl
theorem F_check_finite : ∃ fd, FnP K ("check_finite", none) "check_finite" "check_finite" s_check_finite fd := T.c.def_ 10 (d := d_check_finite) rfl
theorem F_makers_by_kind : ∃ fd, FnP K ("makers_by_kind", none) "makers_by_kind" "makers_by_kind" s_makers_by_kind fd := T.c.def_ 11 (d := d_makers_by_kind) rfl
theorem F_holdings : ∃ fd, FnP K ("holdings", none) "holdings" "holdings" s_holdings fd := T.c.def_ 12 (d := d_holdings) rfl
theorem F_least_node : ∃ fd, FnP K ("least_node", none) "least_node" "least_node" s_least_node fd := T.c.def_ 13 (d := d_least_node) rfl
theorem F_least_trees : ∃ fd, FnP K ("least_trees", none) "least_trees" "least_trees" s_least_trees fd := T.c.def_ 14 (d := d_least_trees) rfl
theorem F_Kinds_init : ∃ fd, FnP K ("Kinds", some "__init__") "__init__" "Kinds.__init__" s_Kinds_init fd := T.c.def_ 15 (d := d_Kinds_init) rfl
theorem F_Kinds_contains : ∃ fd, FnP K ("Kinds", some "__contains__") "__contains__" "Kinds.__contains__" s_Kinds_contains fd := T.c.def_ 16 (d := d_Kinds_contains) rfl
theorem F_Kinds_makers : ∃ fd, FnP K ("Kinds", some "makers") "makers" "Kinds.makers" s_Kinds_makers fd := T.c.def_ 17 (d := d_Kinds_makers) rfl
theorem F_Kinds_kind_of : ∃ fd, FnP K ("Kinds", some "kind_of") "kind_of" "Kinds.kind_of" s_Kinds_kind_of fd := T.c.def_ 18 (d := d_Kinds_kind_of) rfl
theorem F_Kinds_parts : ∃ fd, FnP K ("Kinds", some "parts") "parts" "Kinds.parts" s_Kinds_parts fd := T.c.def_ 19 (d := d_Kinds_parts) rfl
theorem F_Kinds_inner : ∃ fd, FnP K ("Kinds", some "inner") "inner" "Kinds.inner" s_Kinds_inner fd := T.c.def_ 20 (d := d_Kinds_inner) rfl
theorem F_Kinds_price_of : ∃ fd, FnP K ("Kinds", some "price_of") "price_of" "Kinds.price_of" s_Kinds_price_of fd := T.c.def_ 21 (d := d_Kinds_price_of) rfl
theorem F_Kinds_holding : ∃ fd, FnP K ("Kinds", some "_holding") "_holding" "Kinds._holding" s_Kinds_holding fd := T.c.def_ 22 (d := d_Kinds_holding) rfl
theorem F_part_of : ∃ fd, FnP K ("part_of", none) "part_of" "part_of" s_part_of fd := T.c.def_ 23 (d := d_part_of) rfl
theorem F_has_length : ∃ fd, FnP K ("has_length", none) "has_length" "has_length" s_has_length fd := T.c.def_ 24 (d := d_has_length) rfl
theorem F_is_spec : ∃ fd, FnP K ("is_spec", none) "is_spec" "is_spec" s_is_spec fd := T.c.def_ 25 (d := d_is_spec) rfl
theorem F_spec_with : ∃ fd, FnP K ("spec_with", none) "spec_with" "spec_with" s_spec_with fd := T.c.def_ 26 (d := d_spec_with) rfl
theorem F_spec_price : ∃ fd, FnP K ("spec_price", none) "spec_price" "spec_price" s_spec_price fd := T.c.def_ 27 (d := d_spec_price) rfl
theorem F_specs_price : ∃ fd, FnP K ("specs_price", none) "specs_price" "specs_price" s_specs_price fd := T.c.def_ 28 (d := d_specs_price) rfl
theorem F_tree_parts : ∃ fd, FnP K ("tree_parts", none) "tree_parts" "tree_parts" s_tree_parts fd := T.c.def_ 29 (d := d_tree_parts) rfl
theorem F_all_marks : ∃ fd, FnP K ("all_marks", none) "all_marks" "all_marks" s_all_marks fd := T.c.def_ 30 (d := d_all_marks) rfl
theorem F_measured_spec : ∃ fd, FnP K ("measured_spec", none) "measured_spec" "measured_spec" s_measured_spec fd := T.c.def_ 31 (d := d_measured_spec) rfl
theorem F_split_mark : ∃ fd, FnP K ("split_mark", none) "split_mark" "split_mark" s_split_mark fd := T.c.def_ 32 (d := d_split_mark) rfl
theorem F_Layout_init : ∃ fd, FnP K ("Layout", some "__init__") "__init__" "Layout.__init__" s_Layout_init fd := T.c.def_ 33 (d := d_Layout_init) rfl
theorem F_Layout_getitem : ∃ fd, FnP K ("Layout", some "__getitem__") "__getitem__" "Layout.__getitem__" s_Layout_getitem fd := T.c.def_ 34 (d := d_Layout_getitem) rfl
theorem F_Layout_setitem : ∃ fd, FnP K ("Layout", some "__setitem__") "__setitem__" "Layout.__setitem__" s_Layout_setitem fd := T.c.def_ 35 (d := d_Layout_setitem) rfl
theorem F_Layout_contains : ∃ fd, FnP K ("Layout", some "__contains__") "__contains__" "Layout.__contains__" s_Layout_contains fd := T.c.def_ 36 (d := d_Layout_contains) rfl
theorem F_Layout_changed : ∃ fd, FnP K ("Layout", some "_changed") "_changed" "Layout._changed" s_Layout_changed fd := T.c.def_ 37 (d := d_Layout_changed) rfl
theorem F_unpack : ∃ fd, FnP K ("unpack", none) "unpack" "unpack" s_unpack fd := T.c.def_ 38 (d := d_unpack) rfl
theorem F_read_node : ∃ fd, FnP K ("read_node", none) "read_node" "read_node" s_read_node fd := T.c.def_ 39 (d := d_read_node) rfl
theorem F_read_byte : ∃ fd, FnP K ("read_byte", none) "read_byte" "read_byte" s_read_byte fd := T.c.def_ 40 (d := d_read_byte) rfl
theorem F_read_measured : ∃ fd, FnP K ("read_measured", none) "read_measured" "read_measured" s_read_measured fd := T.c.def_ 41 (d := d_read_measured) rfl
theorem F__law_take : ∃ fd, FnP K ("_law_take", none) "_law_take" "_law_take" s__law_take fd := T.c.def_ 42 (d := d__law_take) rfl
theorem F__law_pool : ∃ fd, FnP K ("_law_pool", none) "_law_pool" "_law_pool" s__law_pool fd := T.c.def_ 43 (d := d__law_pool) rfl
theorem F__law_name : ∃ fd, FnP K ("_law_name", none) "_law_name" "_law_name" s__law_name fd := T.c.def_ 44 (d := d__law_name) rfl
theorem F__law_parts : ∃ fd, FnP K ("_law_parts", none) "_law_parts" "_law_parts" s__law_parts fd := T.c.def_ 45 (d := d__law_parts) rfl
theorem F__law_rows : ∃ fd, FnP K ("_law_rows", none) "_law_rows" "_law_rows" s__law_rows fd := T.c.def_ 46 (d := d__law_rows) rfl
theorem F__law_shuffle : ∃ fd, FnP K ("_law_shuffle", none) "_law_shuffle" "_law_shuffle" s__law_shuffle fd := T.c.def_ 47 (d := d__law_shuffle) rfl
theorem F__law_hidden : ∃ fd, FnP K ("_law_hidden", none) "_law_hidden" "_law_hidden" s__law_hidden fd := T.c.def_ 48 (d := d__law_hidden) rfl
theorem F__law_specs : ∃ fd, FnP K ("_law_specs", none) "_law_specs" "_law_specs" s__law_specs fd := T.c.def_ 49 (d := d__law_specs) rfl
theorem F__law_base : ∃ fd, FnP K ("_law_base", none) "_law_base" "_law_base" s__law_base fd := T.c.def_ 50 (d := d__law_base) rfl
theorem F__law_tree : ∃ fd, FnP K ("_law_tree", none) "_law_tree" "_law_tree" s__law_tree fd := T.c.def_ 51 (d := d__law_tree) rfl
theorem F__law_pack : ∃ fd, FnP K ("_law_pack", none) "_law_pack" "_law_pack" s__law_pack fd := T.c.def_ 52 (d := d__law_pack) rfl
theorem F__law_int : ∃ fd, FnP K ("_law_int", none) "_law_int" "_law_int" s__law_int fd := T.c.def_ 53 (d := d__law_int) rfl
theorem F__law_same : ∃ fd, FnP K ("_law_same", none) "_law_same" "_law_same" s__law_same fd := T.c.def_ 54 (d := d__law_same) rfl
theorem F__law_read : ∃ fd, FnP K ("_law_read", none) "_law_read" "_law_read" s__law_read fd := T.c.def_ 55 (d := d__law_read) rfl
theorem F__law_unpacked : ∃ fd, FnP K ("_law_unpacked", none) "_law_unpacked" "_law_unpacked" s__law_unpacked fd := T.c.def_ 56 (d := d__law_unpacked) rfl
theorem F__law_right : ∃ fd, FnP K ("_law_right", none) "_law_right" "_law_right" s__law_right fd := T.c.def_ 57 (d := d__law_right) rfl
theorem F__law_spoilt : ∃ fd, FnP K ("_law_spoilt", none) "_law_spoilt" "_law_spoilt" s__law_spoilt fd := T.c.def_ 58 (d := d__law_spoilt) rfl
theorem F_law : ∃ fd, FnP K ("law", none) "law" "law" s_law fd := T.c.def_ 59 (d := d_law) rfl
theorem F_Layout_mark : ∃ fd, FunD K "mark" "Layout.mark" (defArgs s_Layout_mark) (defBody s_Layout_mark) (defScope s_Layout_mark) [] [] (He5.wf K (He.ga K "Layout") "staticmethod" "mark") fd := T.c2.def_ 0 (d := e_Layout_mark) rfl
end Tx
theorem b__wall {K : PySem.W.Frag} {fd : FuncData} (F : FnP K ("_wall", none) "_wall" "_wall" s__wall fd) : Binds K fd ["k"] [] := F.bindsN fun _ _ _ _ _ _ us hl => match us, hl with | [_], _ => rfl
theorem b_BadKinds_init {K : PySem.W.Frag} {fd : FuncData} (F : FnP K ("BadKinds", some "__init__") "__init__" "BadKinds.__init__" s_BadKinds_init fd) : Binds K fd ["self", "row"] [] := F.bindsN fun _ _ _ _ _ _ us hl => match us, hl with | [_, _], _ => rfl
theorem b_BadFunctions_init {K : PySem.W.Frag} {fd : FuncData} (F : FnP K ("BadFunctions", some "__init__") "__init__" "BadFunctions.__init__" s_BadFunctions_init fd) : Binds K fd ["self", "row"] [] := F.bindsN fun _ _ _ _ _ _ us hl => match us, hl with | [_, _], _ => rfl
theorem b_BadLayout_init {K : PySem.W.Frag} {fd : FuncData} (F : FnP K ("BadLayout", some "__init__") "__init__" "BadLayout.__init__" s_BadLayout_init fd) : Binds K fd ["self", "maker"] [] := F.bindsN fun _ _ _ _ _ _ us hl => match us, hl with | [_, _], _ => rfl
theorem b_BadRow_init {K : PySem.W.Frag} {fd : FuncData} (F : FnP K ("BadRow", some "__init__") "__init__" "BadRow.__init__" s_BadRow_init fd) : Binds K fd ["self", "at"] [] := F.bindsN fun _ _ _ _ _ _ us hl => match us, hl with | [_, _], _ => rfl
theorem b_NotThere_init {K : PySem.W.Frag} {fd : FuncData} (F : FnP K ("NotThere", some "__init__") "__init__" "NotThere.__init__" s_NotThere_init fd) : Binds K fd ["self", "name"] [] := F.bindsN fun _ _ _ _ _ _ us hl => match us, hl with | [_, _], _ => rfl
theorem b_Stuck_init {K : PySem.W.Frag} {fd : FuncData} (F : FnP K ("Stuck", some "__init__") "__init__" "Stuck.__init__" s_Stuck_init fd) : Binds K fd ["self", "function", "maker", "part"] [] := F.bindsN fun _ _ _ _ _ _ us hl => match us, hl with | [_, _, _, _], _ => rfl
theorem b_WrongLayout_init {K : PySem.W.Frag} {fd : FuncData} (F : FnP K ("WrongLayout", some "__init__") "__init__" "WrongLayout.__init__" s_WrongLayout_init fd) : Binds K fd ["self", "start", "tree"] [] := F.bindsN fun _ _ _ _ _ _ us hl => match us, hl with | [_, _, _], _ => rfl
theorem b_NoLayout_init {K : PySem.W.Frag} {fd : FuncData} (F : FnP K ("NoLayout", some "__init__") "__init__" "NoLayout.__init__" s_NoLayout_init fd) : Binds K fd ["self", "maker", "cycle"] [] := F.bindsN fun _ _ _ _ _ _ us hl => match us, hl with | [_, _, _], _ => rfl
theorem b_is_name {K : PySem.W.Frag} {fd : FuncData} (F : FnP K ("is_name", none) "is_name" "is_name" s_is_name fd) : Binds K fd ["value"] [] := F.bindsN fun _ _ _ _ _ _ us hl => match us, hl with | [_], _ => rfl
theorem b_is_kind_name {K : PySem.W.Frag} {fd : FuncData} (F : FnP K ("is_kind_name", none) "is_kind_name" "is_kind_name" s_is_kind_name fd) : Binds K fd ["value"] [] := F.bindsN fun _ _ _ _ _ _ us hl => match us, hl with | [_], _ => rfl
theorem b_is_number {K : PySem.W.Frag} {fd : FuncData} (F : FnP K ("is_number", none) "is_number" "is_number" s_is_number fd) : Binds K fd ["value", "low", "high"] [] := F.bindsN fun _ _ _ _ _ _ us hl => match us, hl with | [_, _, _], _ => rfl
theorem b_is_part {K : PySem.W.Frag} {fd : FuncData} (F : FnP K ("is_part", none) "is_part" "is_part" s_is_part fd) : Binds K fd ["value"] [] := F.bindsN fun _ _ _ _ _ _ us hl => match us, hl with | [_], _ => rfl
theorem b_are_parts {K : PySem.W.Frag} {fd : FuncData} (F : FnP K ("are_parts", none) "are_parts" "are_parts" s_are_parts fd) : Binds K fd ["value"] [] := F.bindsN fun _ _ _ _ _ _ us hl => match us, hl with | [_], _ => rfl
theorem b_check_each_row {K : PySem.W.Frag} {fd : FuncData} (F : FnP K ("check_each_row", none) "check_each_row" "check_each_row" s_check_each_row fd) : Binds K fd ["rows"] [] := F.bindsN fun _ _ _ _ _ _ us hl => match us, hl with | [_], _ => rfl
theorem b_check_inner_kinds {K : PySem.W.Frag} {fd : FuncData} (F : FnP K ("check_inner_kinds", none) "check_inner_kinds" "check_inner_kinds" s_check_inner_kinds fd) : Binds K fd ["rows"] [] := F.bindsN fun _ _ _ _ _ _ us hl => match us, hl with | [_], _ => rfl
theorem b_check_finite {K : PySem.W.Frag} {fd : FuncData} (F : FnP K ("check_finite", none) "check_finite" "check_finite" s_check_finite fd) : Binds K fd ["rows", "least"] [] := F.bindsN fun _ _ _ _ _ _ us hl => match us, hl with | [_, _], _ => rfl
theorem b_makers_by_kind {K : PySem.W.Frag} {fd : FuncData} (F : FnP K ("makers_by_kind", none) "makers_by_kind" "makers_by_kind" s_makers_by_kind fd) : Binds K fd ["rows"] [] := F.bindsN fun _ _ _ _ _ _ us hl => match us, hl with | [_], _ => rfl
theorem b_holdings {K : PySem.W.Frag} {fd : FuncData} (F : FnP K ("holdings", none) "holdings" "holdings" s_holdings fd) : Binds K fd ["parts"] [] := F.bindsN fun _ _ _ _ _ _ us hl => match us, hl with | [_], _ => rfl
theorem b_least_node {K : PySem.W.Frag} {fd : FuncData} (F : FnP K ("least_node", none) "least_node" "least_node" s_least_node fd) : Binds K fd ["tag", "maker", "parts", "least"] [] := F.bindsN fun _ _ _ _ _ _ us hl => match us, hl with | [_, _, _, _], _ => rfl
theorem b_least_trees {K : PySem.W.Frag} {fd : FuncData} (F : FnP K ("least_trees", none) "least_trees" "least_trees" s_least_trees fd) : Binds K fd ["rows"] [] := F.bindsN fun _ _ _ _ _ _ us hl => match us, hl with | [_], _ => rfl
theorem b_Kinds_init {K : PySem.W.Frag} {fd : FuncData} (F : FnP K ("Kinds", some "__init__") "__init__" "Kinds.__init__" s_Kinds_init fd) : Binds K fd ["self", "rows"] [] := F.bindsN fun _ _ _ _ _ _ us hl => match us, hl with | [_, _], _ => rfl
theorem b_Kinds_contains {K : PySem.W.Frag} {fd : FuncData} (F : FnP K ("Kinds", some "__contains__") "__contains__" "Kinds.__contains__" s_Kinds_contains fd) : Binds K fd ["self", "x"] [] := F.bindsN fun _ _ _ _ _ _ us hl => match us, hl with | [_, _], _ => rfl
theorem b_Kinds_makers {K : PySem.W.Frag} {fd : FuncData} (F : FnP K ("Kinds", some "makers") "makers" "Kinds.makers" s_Kinds_makers fd) : Binds K fd ["self", "kind"] [] := F.bindsN fun _ _ _ _ _ _ us hl => match us, hl with | [_, _], _ => rfl
theorem b_Kinds_kind_of {K : PySem.W.Frag} {fd : FuncData} (F : FnP K ("Kinds", some "kind_of") "kind_of" "Kinds.kind_of" s_Kinds_kind_of fd) : Binds K fd ["self", "maker"] [] := F.bindsN fun _ _ _ _ _ _ us hl => match us, hl with | [_, _], _ => rfl
theorem b_Kinds_tag {K : PySem.W.Frag} {fd : FuncData} (F : FnP K ("Kinds", some "tag") "tag" "Kinds.tag" s_Kinds_tag fd) : Binds K fd ["self", "maker"] [] := F.bindsN fun _ _ _ _ _ _ us hl => match us, hl with | [_, _], _ => rfl
theorem b_Kinds_parts {K : PySem.W.Frag} {fd : FuncData} (F : FnP K ("Kinds", some "parts") "parts" "Kinds.parts" s_Kinds_parts fd) : Binds K fd ["self", "maker"] [] := F.bindsN fun _ _ _ _ _ _ us hl => match us, hl with | [_, _], _ => rfl
theorem b_Kinds_inner {K : PySem.W.Frag} {fd : FuncData} (F : FnP K ("Kinds", some "inner") "inner" "Kinds.inner" s_Kinds_inner fd) : Binds K fd ["self", "maker", "part"] [] := F.bindsN fun _ _ _ _ _ _ us hl => match us, hl with | [_, _, _], _ => rfl
theorem b_Kinds_price_of {K : PySem.W.Frag} {fd : FuncData} (F : FnP K ("Kinds", some "price_of") "price_of" "Kinds.price_of" s_Kinds_price_of fd) : Binds K fd ["self", "maker", "part"] [] := F.bindsN fun _ _ _ _ _ _ us hl => match us, hl with | [_, _, _], _ => rfl
theorem b_Kinds_holding {K : PySem.W.Frag} {fd : FuncData} (F : FnP K ("Kinds", some "_holding") "_holding" "Kinds._holding" s_Kinds_holding fd) : Binds K fd ["self", "maker", "part"] [] := F.bindsN fun _ _ _ _ _ _ us hl => match us, hl with | [_, _, _], _ => rfl
theorem b_Kinds_fits {K : PySem.W.Frag} {fd : FuncData} (F : FnP K ("Kinds", some "fits") "fits" "Kinds.fits" s_Kinds_fits fd) : Binds K fd ["self", "tree", "kind"] [] := F.bindsN fun _ _ _ _ _ _ us hl => match us, hl with | [_, _, _], _ => rfl
theorem b_Kinds_tree_fits {K : PySem.W.Frag} {fd : FuncData} (F : FnP K ("Kinds", some "_tree_fits") "_tree_fits" "Kinds._tree_fits" s_Kinds_tree_fits fd) : Binds K fd ["self", "tree", "kind", "levels"] [] := F.bindsN fun _ _ _ _ _ _ us hl => match us, hl with | [_, _, _, _], _ => rfl
theorem b_Kinds_value_fits {K : PySem.W.Frag} {fd : FuncData} (F : FnP K ("Kinds", some "_value_fits") "_value_fits" "Kinds._value_fits" s_Kinds_value_fits fd) : Binds K fd ["self", "value", "inner", "levels"] [] := F.bindsN fun _ _ _ _ _ _ us hl => match us, hl with | [_, _, _, _], _ => rfl
theorem b_Kinds_least {K : PySem.W.Frag} {fd : FuncData} (F : FnP K ("Kinds", some "least") "least" "Kinds.least" s_Kinds_least fd) : Binds K fd ["self", "kind"] [] := F.bindsN fun _ _ _ _ _ _ us hl => match us, hl with | [_, _], _ => rfl
theorem b_part_of {K : PySem.W.Frag} {fd : FuncData} (F : FnP K ("part_of", none) "part_of" "part_of" s_part_of fd) : Binds K fd ["slot"] [] := F.bindsN fun _ _ _ _ _ _ us hl => match us, hl with | [_], _ => rfl
theorem b_has_length {K : PySem.W.Frag} {fd : FuncData} (F : FnP K ("has_length", none) "has_length" "has_length" s_has_length fd) : Binds K fd ["slot"] [] := F.bindsN fun _ _ _ _ _ _ us hl => match us, hl with | [_], _ => rfl
theorem b_is_spec {K : PySem.W.Frag} {fd : FuncData} (F : FnP K ("is_spec", none) "is_spec" "is_spec" s_is_spec fd) : Binds K fd ["kinds", "maker", "spec"] [] := F.bindsN fun _ _ _ _ _ _ us hl => match us, hl with | [_, _, _], _ => rfl
theorem b_spec_with {K : PySem.W.Frag} {fd : FuncData} (F : FnP K ("spec_with", none) "spec_with" "spec_with" s_spec_with fd) : Binds K fd ["spec", "part", "slot"] [] := F.bindsN fun _ _ _ _ _ _ us hl => match us, hl with | [_, _, _], _ => rfl
theorem b_spec_price {K : PySem.W.Frag} {fd : FuncData} (F : FnP K ("spec_price", none) "spec_price" "spec_price" s_spec_price fd) : Binds K fd ["kinds", "maker", "spec"] [] := F.bindsN fun _ _ _ _ _ _ us hl => match us, hl with | [_, _, _], _ => rfl
theorem b_specs_price {K : PySem.W.Frag} {fd : FuncData} (F : FnP K ("specs_price", none) "specs_price" "specs_price" s_specs_price fd) : Binds K fd ["kinds", "pairs"] [] := F.bindsN fun _ _ _ _ _ _ us hl => match us, hl with | [_, _], _ => rfl
theorem b_tree_parts {K : PySem.W.Frag} {fd : FuncData} (F : FnP K ("tree_parts", none) "tree_parts" "tree_parts" s_tree_parts fd) : Binds K fd ["kinds", "maker"] [] := F.bindsN fun _ _ _ _ _ _ us hl => match us, hl with | [_, _], _ => rfl
theorem b_all_marks {K : PySem.W.Frag} {fd : FuncData} (F : FnP K ("all_marks", none) "all_marks" "all_marks" s_all_marks fd) : Binds K fd ["kinds"] [] := F.bindsN fun _ _ _ _ _ _ us hl => match us, hl with | [_], _ => rfl
theorem b_measured_spec {K : PySem.W.Frag} {fd : FuncData} (F : FnP K ("measured_spec", none) "measured_spec" "measured_spec" s_measured_spec fd) : Binds K fd ["kinds", "maker"] [] := F.bindsN fun _ _ _ _ _ _ us hl => match us, hl with | [_, _], _ => rfl
theorem b_split_mark {K : PySem.W.Frag} {fd : FuncData} (F : FnP K ("split_mark", none) "split_mark" "split_mark" s_split_mark fd) : Binds K fd ["kinds", "text"] [] := F.bindsN fun _ _ _ _ _ _ us hl => match us, hl with | [_, _], _ => rfl
theorem b_Layout_init {K : PySem.W.Frag} {fd : FuncData} (F : FnP K ("Layout", some "__init__") "__init__" "Layout.__init__" s_Layout_init fd) : Binds K fd ["self", "kinds", "specs"] [] := F.bindsN fun _ _ _ _ _ _ us hl => match us, hl with | [_, _, _], _ => rfl
theorem b_Layout_plain {K : PySem.W.Frag} {fd : FuncData} {f : Addr} (F : FunD K "plain" "Layout.plain" (defArgs s_Layout_plain) (defBody s_Layout_plain) (defScope s_Layout_plain) [] [] f fd) : Binds K fd ["cls", "kinds"] [] := F.bindsN fun _ _ _ _ _ _ us hl => match us, hl with | [_, _], _ => rfl
theorem b_Layout_measured {K : PySem.W.Frag} {fd : FuncData} {f : Addr} (F : FunD K "measured" "Layout.measured" (defArgs s_Layout_measured) (defBody s_Layout_measured) (defScope s_Layout_measured) [] [] f fd) : Binds K fd ["cls", "kinds"] [] := F.bindsN fun _ _ _ _ _ _ us hl => match us, hl with | [_, _], _ => rfl
theorem b_Layout_mark {K : PySem.W.Frag} {fd : FuncData} {f : Addr} (F : FunD K "mark" "Layout.mark" (defArgs s_Layout_mark) (defBody s_Layout_mark) (defScope s_Layout_mark) [] [] f fd) : Binds K fd ["maker", "part"] [] := F.bindsN fun _ _ _ _ _ _ us hl => match us, hl with | [_, _], _ => rfl
theorem b_Layout_price {K : PySem.W.Frag} {fd : FuncData} {f : Addr} (F : FunD K "price" "Layout.price" (defArgs s_Layout_price) (defBody s_Layout_price) (defScope s_Layout_price) [] [] f fd) : Binds K fd ["self"] [] := F.bindsN fun _ _ _ _ _ _ us hl => match us, hl with | [_], _ => rfl
theorem b_Layout_iter {K : PySem.W.Frag} {fd : FuncData} (F : FnP K ("Layout", some "__iter__") "__iter__" "Layout.__iter__" s_Layout_iter fd) : Binds K fd ["self"] [] := F.bindsN fun _ _ _ _ _ _ us hl => match us, hl with | [_], _ => rfl
theorem b_Layout_getitem {K : PySem.W.Frag} {fd : FuncData} (F : FnP K ("Layout", some "__getitem__") "__getitem__" "Layout.__getitem__" s_Layout_getitem fd) : Binds K fd ["self", "at"] [] := F.bindsN fun _ _ _ _ _ _ us hl => match us, hl with | [_, _], _ => rfl
theorem b_Layout_setitem {K : PySem.W.Frag} {fd : FuncData} (F : FnP K ("Layout", some "__setitem__") "__setitem__" "Layout.__setitem__" s_Layout_setitem fd) : Binds K fd ["self", "at", "worth"] [] := F.bindsN fun _ _ _ _ _ _ us hl => match us, hl with | [_, _, _], _ => rfl
theorem b_Layout_place {K : PySem.W.Frag} {fd : FuncData} (F : FnP K ("Layout", some "place") "place" "Layout.place" s_Layout_place fd) : Binds K fd ["self"] [] := F.bindsN fun _ _ _ _ _ _ us hl => match us, hl with | [_], _ => rfl
theorem b_Layout_lt {K : PySem.W.Frag} {fd : FuncData} (F : FnP K ("Layout", some "__lt__") "__lt__" "Layout.__lt__" s_Layout_lt fd) : Binds K fd ["self", "other"] [] := F.bindsN fun _ _ _ _ _ _ us hl => match us, hl with | [_, _], _ => rfl
theorem b_Layout_le {K : PySem.W.Frag} {fd : FuncData} (F : FnP K ("Layout", some "__le__") "__le__" "Layout.__le__" s_Layout_le fd) : Binds K fd ["self", "other"] [] := F.bindsN fun _ _ _ _ _ _ us hl => match us, hl with | [_, _], _ => rfl
theorem b_Layout_eq {K : PySem.W.Frag} {fd : FuncData} (F : FnP K ("Layout", some "__eq__") "__eq__" "Layout.__eq__" s_Layout_eq fd) : Binds K fd ["self", "other"] [] := F.bindsN fun _ _ _ _ _ _ us hl => match us, hl with | [_, _], _ => rfl
theorem b_Layout_contains {K : PySem.W.Frag} {fd : FuncData} (F : FnP K ("Layout", some "__contains__") "__contains__" "Layout.__contains__" s_Layout_contains fd) : Binds K fd ["self", "x"] [] := F.bindsN fun _ _ _ _ _ _ us hl => match us, hl with | [_, _], _ => rfl
theorem b_Layout_add {K : PySem.W.Frag} {fd : FuncData} (F : FnP K ("Layout", some "__add__") "__add__" "Layout.__add__" s_Layout_add fd) : Binds K fd ["self", "other"] [] := F.bindsN fun _ _ _ _ _ _ us hl => match us, hl with | [_, _], _ => rfl
theorem b_Layout_sub {K : PySem.W.Frag} {fd : FuncData} (F : FnP K ("Layout", some "__sub__") "__sub__" "Layout.__sub__" s_Layout_sub fd) : Binds K fd ["self", "other"] [] := F.bindsN fun _ _ _ _ _ _ us hl => match us, hl with | [_, _], _ => rfl
theorem b_Layout_changed {K : PySem.W.Frag} {fd : FuncData} (F : FnP K ("Layout", some "_changed") "_changed" "Layout._changed" s_Layout_changed fd) : Binds K fd ["self", "maker", "part", "slot"] [] := F.bindsN fun _ _ _ _ _ _ us hl => match us, hl with | [_, _, _, _], _ => rfl
theorem b_Layout_iadd {K : PySem.W.Frag} {fd : FuncData} (F : FnP K ("Layout", some "__iadd__") "__iadd__" "Layout.__iadd__" s_Layout_iadd fd) : Binds K fd ["self", "other"] [] := F.bindsN fun _ _ _ _ _ _ us hl => match us, hl with | [_, _], _ => rfl
theorem b_Layout_isub {K : PySem.W.Frag} {fd : FuncData} (F : FnP K ("Layout", some "__isub__") "__isub__" "Layout.__isub__" s_Layout_isub fd) : Binds K fd ["self", "other"] [] := F.bindsN fun _ _ _ _ _ _ us hl => match us, hl with | [_, _], _ => rfl
theorem b_Layout_xor {K : PySem.W.Frag} {fd : FuncData} (F : FnP K ("Layout", some "__xor__") "__xor__" "Layout.__xor__" s_Layout_xor fd) : Binds K fd ["self", "other"] [] := F.bindsN fun _ _ _ _ _ _ us hl => match us, hl with | [_, _], _ => rfl
theorem b_Layout_lines {K : PySem.W.Frag} {fd : FuncData} (F : FnP K ("Layout", some "lines") "lines" "Layout.lines" s_Layout_lines fd) : Binds K fd ["self"] [] := F.bindsN fun _ _ _ _ _ _ us hl => match us, hl with | [_], _ => rfl
theorem b_unpack {K : PySem.W.Frag} {fd : FuncData} (F : FnP K ("unpack", none) "unpack" "unpack" s_unpack fd) : Binds K fd ["layout", "kind", "row"] [] := F.bindsN fun _ _ _ _ _ _ us hl => match us, hl with | [_, _, _], _ => rfl
theorem b_read_node {K : PySem.W.Frag} {fd : FuncData} (F : FnP K ("read_node", none) "read_node" "read_node" s_read_node fd) : Binds K fd ["layout", "kind", "row", "at", "level"] [] := F.bindsN fun _ _ _ _ _ _ us hl => match us, hl with | [_, _, _, _, _], _ => rfl
theorem b_read_byte {K : PySem.W.Frag} {fd : FuncData} (F : FnP K ("read_byte", none) "read_byte" "read_byte" s_read_byte fd) : Binds K fd ["row", "at"] [] := F.bindsN fun _ _ _ _ _ _ us hl => match us, hl with | [_, _], _ => rfl
theorem b_read_measured {K : PySem.W.Frag} {fd : FuncData} (F : FnP K ("read_measured", none) "read_measured" "read_measured" s_read_measured fd) : Binds K fd ["layout", "kind", "row", "at", "level"] [] := F.bindsN fun _ _ _ _ _ _ us hl => match us, hl with | [_, _, _, _, _], _ => rfl
theorem b__law_take {K : PySem.W.Frag} {fd : FuncData} (F : FnP K ("_law_take", none) "_law_take" "_law_take" s__law_take fd) : Binds K fd ["_law_pool_here", "_law_many"] [] := F.bindsN fun _ _ _ _ _ _ us hl => match us, hl with | [_, _], _ => rfl
theorem b__law_pool {K : PySem.W.Frag} {fd : FuncData} (F : FnP K ("_law_pool", none) "_law_pool" "_law_pool" s__law_pool fd) : Binds K fd ["_law_script"] [] := F.bindsN fun _ _ _ _ _ _ us hl => match us, hl with | [_], _ => rfl
theorem b__law_name {K : PySem.W.Frag} {fd : FuncData} (F : FnP K ("_law_name", none) "_law_name" "_law_name" s__law_name fd) : Binds K fd ["_law_seed", "_law_k", "_law_taken"] [] := F.bindsN fun _ _ _ _ _ _ us hl => match us, hl with | [_, _, _], _ => rfl
theorem b__law_parts {K : PySem.W.Frag} {fd : FuncData} (F : FnP K ("_law_parts", none) "_law_parts" "_law_parts" s__law_parts fd) : Binds K fd ["_law_pool_here", "_law_seed", "_law_names", "_law_base_here"] [] := F.bindsN fun _ _ _ _ _ _ us hl => match us, hl with | [_, _, _, _], _ => rfl
theorem b__law_rows {K : PySem.W.Frag} {fd : FuncData} (F : FnP K ("_law_rows", none) "_law_rows" "_law_rows" s__law_rows fd) : Binds K fd ["_law_pool_here"] [] := F.bindsN fun _ _ _ _ _ _ us hl => match us, hl with | [_], _ => rfl
theorem b__law_shuffle {K : PySem.W.Frag} {fd : FuncData} (F : FnP K ("_law_shuffle", none) "_law_shuffle" "_law_shuffle" s__law_shuffle fd) : Binds K fd ["_law_pool_here", "_law_items"] [] := F.bindsN fun _ _ _ _ _ _ us hl => match us, hl with | [_, _], _ => rfl
theorem b__law_hidden {K : PySem.W.Frag} {fd : FuncData} (F : FnP K ("_law_hidden", none) "_law_hidden" "_law_hidden" s__law_hidden fd) : Binds K fd ["_law_pool_here", "_law_rows_here"] [] := F.bindsN fun _ _ _ _ _ _ us hl => match us, hl with | [_, _], _ => rfl
theorem b__law_specs {K : PySem.W.Frag} {fd : FuncData} (F : FnP K ("_law_specs", none) "_law_specs" "_law_specs" s__law_specs fd) : Binds K fd ["_law_pool_here", "_law_rows_here", "_law_hidden_here"] [] := F.bindsN fun _ _ _ _ _ _ us hl => match us, hl with | [_, _, _], _ => rfl
theorem b__law_base {K : PySem.W.Frag} {fd : FuncData} (F : FnP K ("_law_base", none) "_law_base" "_law_base" s__law_base fd) : Binds K fd ["_law_rows_here"] [] := F.bindsN fun _ _ _ _ _ _ us hl => match us, hl with | [_], _ => rfl
theorem b__law_tree {K : PySem.W.Frag} {fd : FuncData} (F : FnP K ("_law_tree", none) "_law_tree" "_law_tree" s__law_tree fd) : Binds K fd ["_law_pool_here", "_law_rows_here", "_law_base_here", "_law_kind", "_law_cut", "_law_fuel"] [] := F.bindsN fun _ _ _ _ _ _ us hl => match us, hl with | [_, _, _, _, _, _], _ => rfl
theorem b__law_pack {K : PySem.W.Frag} {fd : FuncData} (F : FnP K ("_law_pack", none) "_law_pack" "_law_pack" s__law_pack fd) : Binds K fd ["_law_rows_here", "_law_specs_here", "_law_tree_here"] [] := F.bindsN fun _ _ _ _ _ _ us hl => match us, hl with | [_, _, _], _ => rfl
theorem b__law_int {K : PySem.W.Frag} {fd : FuncData} (F : FnP K ("_law_int", none) "_law_int" "_law_int" s__law_int fd) : Binds K fd ["_law_value"] [] := F.bindsN fun _ _ _ _ _ _ us hl => match us, hl with | [_], _ => rfl
theorem b__law_same {K : PySem.W.Frag} {fd : FuncData} (F : FnP K ("_law_same", none) "_law_same" "_law_same" s__law_same fd) : Binds K fd ["_law_value", "_law_due"] [] := F.bindsN fun _ _ _ _ _ _ us hl => match us, hl with | [_, _], _ => rfl
theorem b__law_read {K : PySem.W.Frag} {fd : FuncData} (F : FnP K ("_law_read", none) "_law_read" "_law_read" s__law_read fd) : Binds K fd ["_law_rows_here", "_law_specs_here", "_law_kind", "_law_row", "_law_at", "_law_depth"] [] := F.bindsN fun _ _ _ _ _ _ us hl => match us, hl with | [_, _, _, _, _, _], _ => rfl
theorem b__law_unpacked {K : PySem.W.Frag} {fd : FuncData} (F : FnP K ("_law_unpacked", none) "_law_unpacked" "_law_unpacked" s__law_unpacked fd) : Binds K fd ["_law_layout", "_law_kind", "_law_row"] [] := F.bindsN fun _ _ _ _ _ _ us hl => match us, hl with | [_, _, _], _ => rfl
theorem b__law_right {K : PySem.W.Frag} {fd : FuncData} (F : FnP K ("_law_right", none) "_law_right" "_law_right" s__law_right fd) : Binds K fd ["_law_rows_here", "_law_specs_here", "_law_layout", "_law_kind", "_law_row"] [] := F.bindsN fun _ _ _ _ _ _ us hl => match us, hl with | [_, _, _, _, _], _ => rfl
theorem b__law_spoilt {K : PySem.W.Frag} {fd : FuncData} (F : FnP K ("_law_spoilt", none) "_law_spoilt" "_law_spoilt" s__law_spoilt fd) : Binds K fd ["_law_pool_here", "_law_row", "_law_other", "_law_way"] [] := F.bindsN fun _ _ _ _ _ _ us hl => match us, hl with | [_, _, _, _], _ => rfl
theorem b_law {K : PySem.W.Frag} {fd : FuncData} (F : FnP K ("law", none) "law" "law" s_law fd) : Binds K fd ["_law_script"] [] := F.bindsN fun _ _ _ _ _ _ us hl => match us, hl with | [_], _ => rfl
def Good (P : Program) (w : World) (K : PySem.W.Frag) (mg : Str → Option Value) (base : Heap) (CX : CXT) (k : Nat) (f : Addr) (ps : List Str) (sp : Sp) : Prop := ∃ fd, FnOk P w K mg base CX k f fd ps sp ∧ Binds K fd ps []
end Bg
set_option Elab.async false
set_option linter.all false
set_option maxRecDepth 100000
set_option maxHeartbeats 0
namespace Bg
open PySem PySem.Spec PyProof.Rows L2
abbrev R : PySem.W.OpenRow := PySem.W.OpenLaw.row PySem.Challenge.rw_bytegrove_k13_whole_every_row_is_read_or
abbrev hk : PySem.W.Hook := hookF 5 fa fn exs fn2
def ob (s : PySem.W.SharedT) : He.AlD × Bool × He.AlD := obsF 5 fa fn exs fn2 (HandSHeadRun.getT s)
theorem ob_eq (s : PySem.W.SharedT) : ob s = hk.obs s.abs := obsF_eq (HandSHeadRun.getT_eq s)
def loose : List PySem.Str := (["_wall", "GroveError", "BadKinds", "BadFunctions", "BadTree", "BadLayout", "BadRow", "NotThere", "Stuck", "WrongLayout", "NoLayout", "BYTE", "MOST_LETTERS", "MOST_PARTS", "MOST_PRICE", "MOST_ROWS", "MOST_KINDS", "MOST_LEVELS", "is_name", "is_kind_name"] : List PySem.Str) ++ (["is_number", "is_part", "are_parts", "check_each_row", "check_inner_kinds", "check_finite", "makers_by_kind", "holdings", "least_node", "least_trees", "Kinds", "PLUS", "part_of", "has_length", "is_spec", "spec_with", "spec_price", "specs_price", "tree_parts", "all_marks"] : List PySem.Str) ++ (["measured_spec", "split_mark", "Layout", "unpack", "read_node", "read_byte", "read_measured", "_law_take", "_law_pool", "_law_name", "_law_parts", "_law_rows", "_law_shuffle", "_law_hidden", "_law_specs", "_law_base", "_law_tree", "_law_pack", "_law_int", "_law_same"] : List PySem.Str) ++ (["_law_read", "_law_unpacked", "_law_right", "_law_spoilt"] : List PySem.Str)
theorem map_two {α β γ δ : Type} {x : Option α} {f : α → β} {g : α → γ} {h : α → δ} {a : β} {b : γ} {c : δ} (h1 : x.map (fun s => (f s, g s)) = some (a, b)) (h2 : x.map h = some c) : x.map (fun s => (f s, g s, h s)) = some (a, b, c) := by
  cases x with
  | none => cases h1
  | some s =>
    have e1 := Option.some.inj h1
    have e2 := Option.some.inj h2
    have e3 := congrArg Prod.fst e1
    have e4 := congrArg Prod.snd e1
    dsimp only at e2 e3 e4
    show some (f s, g s, h s) = _
    rw [e2, e3, e4]
section
open PySem.W HandSHeadRun
theorem runA (w : World) (os : OsState) : (endF (stepQ (denQ tabQ) R.prog w) 8000 R.prog w os).map (fun s => (looksF R.prog (boot_heap w.params) s.abs, seenQ (PySem.W.view R.prog [69]) loose (importedModules R.prog.main.body) (fun s => xlAt (PySem.W.view R.prog [69]) [] s && recOk R.toRowW.records s) s.abs)) = some (true, openGood (PySem.W.view R.prog [69]) loose) := by
  kernel_rfl
theorem runB (w : World) (os : OsState) : (endF (stepQ (denQ tabQ) R.prog w) 8000 R.prog w os).map ob = some (hk.val w) := by
  kernel_rfl
end
theorem run (w : World) : HandSHeadRun.RunEq R (PySem.W.view R.prog [69]) hk ob 8000 loose w := fun os => map_two (runA w os) (runB w os)
end Bg
set_option Elab.async false
set_option linter.all false
set_option maxRecDepth 100000
set_option maxHeartbeats 4000000
namespace Bg
open PySem PySem.Spec PyProof.Rows L2

/-! ### heaps -/
/-- what never changes: a tuple, also one whose object is told -/
def Fixed : HO → Prop
  | .tup _ => True
  | .frz _ (.tup _) => True
  | _ => False
/-- every tuple stays -/
def Tups (H H' : Hp) : Prop := ∀ b u, Fixed u → H b = some u → H' b = some u
theorem Tups.refl (H : Hp) : Tups H H := fun _ _ _ h => h
theorem Tups.trans {H H1 H2 : Hp} (a : Tups H H1) (b : Tups H1 H2) : Tups H H2 := fun c o f h => b c o f (a c o f h)
theorem tups_of {H H' : Hp} (s : Same H H') : Tups H H' := fun b u _ h => s b _ h
/-- an object that is no tuple is written -/
theorem tups_upd {H : Hp} {p : Addr} {o : HO} (h : ∀ u, Fixed u → H p ≠ some u) : Tups H (upd H p o) := fun b u f e => by
  rw [upd_ne (show b ≠ p from fun z => h u f (by rw [← z]; exact e))]; exact e
theorem tups_new {H : Hp} {p : Addr} {o : HO} (h : H p = none) : Tups H (upd H p o) := tups_upd fun u _ z => by rw [h] at z; cases z
theorem same_new {H : Hp} {p : Addr} {o : HO} (h : H p = none) : Same H (upd H p o) := fun b u e => by
  rw [upd_ne (ne_of_none e h)]; exact e
/-- all but the object at a -/
def But (a : Addr) (H H' : Hp) : Prop := ∀ b o, b ≠ a → H b = some o → H' b = some o
theorem But.refl (a : Addr) (H : Hp) : But a H H := fun _ _ _ h => h
theorem But.trans {a : Addr} {H H1 H2 : Hp} (x : But a H H1) (y : But a H1 H2) : But a H H2 := fun c o n h => y c o n (x c o n h)
theorem but_of {a : Addr} {H H' : Hp} (s : Same H H') : But a H H' := fun b o _ h => s b o h
theorem but_upd {a : Addr} {H : Hp} {o : HO} : But a H (upd H a o) := fun b u n e => by rw [upd_ne n]; exact e
/-- written at a place that the first heap did not have -/
theorem same_mut {H H' : Hp} {p : Addr} {o : HO} (s : Same H H') (h : H p = none) : Same H (upd H' p o) := fun b u e => by
  rw [upd_ne (ne_of_none e h)]; exact s b u e
theorem but_mut {a : Addr} {H H' : Hp} {p : Addr} {o : HO} (s : But a H H') (h : H p = none) : But a H (upd H' p o) := fun b u n e => by
  rw [upd_ne (ne_of_none e h)]; exact s b u n e
theorem but_tups {a : Addr} {H H' : Hp} (s : But a H H') (h : ∀ u, Fixed u → H a ≠ some u) : Tups H H' := fun b u f e => s b _ (fun z => h u f (by rw [← z]; exact e)) e

/-! ### lists item by item -/
def All2 {α β : Type} (R : α → β → Prop) (vs : List α) (xs : List β) : Prop := vs.length = xs.length ∧ ∀ (i : Nat) v x, vs[i]? = some v → xs[i]? = some x → R v x
section
variable {α β : Type} {R R' : α → β → Prop} {vs : List α} {xs : List β}
theorem All2.mono (h : All2 R vs xs) (f : ∀ v x, R v x → R' v x) : All2 R' vs xs := ⟨h.1, fun i v x a b => f v x (h.2 i v x a b)⟩
theorem All2.nil : All2 R [] [] := ⟨rfl, fun i v x a _ => by simp at a⟩
theorem All2.get (h : All2 R vs xs) {i : Nat} {v : α} (e : vs[i]? = some v) : ∃ x, xs[i]? = some x ∧ R v x := by
  have l := (List.getElem?_eq_some_iff.mp e).1
  have l2 : i < xs.length := h.1 ▸ l
  exact ⟨xs[i], List.getElem?_eq_getElem l2, h.2 i v _ e (List.getElem?_eq_getElem l2)⟩
theorem All2.get' (h : All2 R vs xs) {i : Nat} {x : β} (e : xs[i]? = some x) : ∃ v, vs[i]? = some v ∧ R v x := by
  have l := (List.getElem?_eq_some_iff.mp e).1
  have l2 : i < vs.length := h.1.symm ▸ l
  exact ⟨vs[i], List.getElem?_eq_getElem l2, h.2 i _ x (List.getElem?_eq_getElem l2) e⟩
theorem All2.snoc (h : All2 R vs xs) {v : α} {x : β} (r : R v x) : All2 R (vs ++ [v]) (xs ++ [x]) := by
  refine ⟨by simp [h.1], fun i u y a b => ?_⟩
  by_cases hi : i < vs.length
  · rw [List.getElem?_append_left hi] at a
    rw [List.getElem?_append_left (h.1 ▸ hi)] at b
    exact h.2 i u y a b
  · rw [List.getElem?_append_right (by omega)] at a
    rw [List.getElem?_append_right (by rw [← h.1]; omega), ← h.1] at b
    cases e : i - vs.length with
    | zero =>
      rw [e] at a b
      simp at a b
      subst a; subst b
      exact r
    | succ n => rw [e] at a; simp at a
end

/-! ### rows of a kinds table -/
abbrev Part := Str × Str × Option Int
abbrev Row := Str × Str × List Part
def partVs : Part → List V
  | (n, k, none) => [.str n, .str k]
  | (n, k, some c) => [.str n, .str k, .int c]
def PartAt (H : Hp) (v : V) (p : Part) : Prop := ∃ a, v = .ref a ∧ H a = some (.tup (partVs p))
def PartsAt (H : Hp) (v : V) (ps : List Part) : Prop := ∃ a vs, v = .ref a ∧ H a = some (.tup vs) ∧ All2 (PartAt H) vs ps
def RowAt (H : Hp) (v : V) (r : Row) : Prop := ∃ a u, v = .ref a ∧ H a = some (.tup [.str r.1, .str r.2.1, u]) ∧ PartsAt H u r.2.2
def RowsAt (H : Hp) (a : Addr) (rs : List Row) : Prop := ∃ vs, H a = some (.lst vs) ∧ All2 (RowAt H) vs rs
section
variable {H H' : Hp}
theorem PartAt.mono (t : Tups H H') {v : V} {p : Part} (h : PartAt H v p) : PartAt H' v p := by
  obtain ⟨a, e, x⟩ := h; exact ⟨a, e, t _ _ trivial x⟩
theorem PartsAt.mono (t : Tups H H') {v : V} {p : List Part} (h : PartsAt H v p) : PartsAt H' v p := by
  obtain ⟨a, vs, e, x, y⟩ := h; exact ⟨a, vs, e, t _ _ trivial x, y.mono fun _ _ z => z.mono t⟩
theorem RowAt.mono (t : Tups H H') {v : V} {r : Row} (h : RowAt H v r) : RowAt H' v r := by
  obtain ⟨a, u, e, x, y⟩ := h; exact ⟨a, u, e, t _ _ trivial x, y.mono t⟩
theorem RowsAt.mono (s : Same H H') {a : Addr} {rs : List Row} (h : RowsAt H a rs) : RowsAt H' a rs := by
  obtain ⟨vs, x, y⟩ := h; exact ⟨vs, s _ _ x, y.mono fun _ _ z => z.mono (tups_of s)⟩
theorem RowsAt.but {b : Addr} (s : But b H H') (hb : ∀ u, Fixed u → H b ≠ some u) {a : Addr} (n : a ≠ b) {rs : List Row} (h : RowsAt H a rs) : RowsAt H' a rs := by
  obtain ⟨vs, x, y⟩ := h; exact ⟨vs, s _ _ n x, y.mono fun _ _ z => z.mono (but_tups s hb)⟩
end

/-! ### what the program says of names, parts -/
def nameB (x : Str) : Bool := decide (1 ≤ x.length) && (decide (x.length ≤ 24) && (Txt.isascii x && (Txt.isalnum x && Txt.isalpha ⟨#[x.cps.toList.headD 0]⟩)))
def kindB (x : Str) : Bool := nameB x && !decide (x = ("byte" : Str))
def partB : Part → Bool
  | (n, k, none) => nameB n && decide (k = ("byte" : Str))
  | (n, k, some c) => nameB n && (kindB k && (decide (1 ≤ c) && decide (c ≤ 1000)))
/-- put behind, if it is new -/
def addNew {α : Type} [DecidableEq α] (l : List α) (k : α) : List α := if k ∈ l then l else l ++ [k]
def distinct {α : Type} [DecidableEq α] (l : List α) : List α := l.foldl addNew []
def partsB (ps : List Part) : Bool := decide (ps.length ≤ 4) && (ps.all partB && decide ((distinct (ps.map (·.1))).length = ps.length))
end Bg
set_option Elab.async false
set_option linter.all false
set_option maxRecDepth 100000
set_option maxHeartbeats 4000000
namespace Bg
open PySem PySem.Spec PyProof.Rows L2
section
variable {P : Program} {w : World} {K : PySem.W.Frag} {mg : Str → Option Value} {base : Heap} {fd : FuncData}
theorem sz_of {n : Nat} (h : n ≤ 100000) : n ≤ sizeLine := Nat.le_trans h (by decide)
theorem sz_lt {n : Nat} (h : n ≤ 100000) : n < sizeLine := Nat.lt_of_le_of_lt h (by decide)
theorem len_pos_str {x : Str} (h : 1 ≤ x.length) : x.cps.toList[0]? = some (x.cps.toList.headD 0) := by
  unfold Str.length at h
  rw [← Array.length_toList] at h
  cases e : x.cps.toList with
  | nil => rw [e] at h; simp at h
  | cons a r => rfl
def spIsName : Sp := fun vs H Q _ => ∃ x : Str, vs = [.str x] ∧ x.length ≤ 100000 ∧ Q (.bl (nameB x)) H
theorem ok_is_name (T : Tx K mg) (F : FnP K ("is_name", none) "is_name" "is_name" s_is_name fd) : FnOk P w K mg base CX0 1 (He.fAd K ("is_name", none)) fd ["value"] spIsName := by
  refine F.ok sc_is_name (fun vs H Q E h => ?_) (fun cdv A outer s H vs Q E hr h => ?_)
  · obtain ⟨x, rfl, _⟩ := h; rfl
  obtain ⟨x, rfl, hx, q⟩ := h
  obtain ⟨t24, m24⟩ := T.c_MOST_LETTERS
  refine ⟨_, PSs.nox (pss_cons (ps_if (PW.pt (pw_or
        (pt_not (pt_val (pe_callB call_isi (by rfl) T.n_isinstance (by decide +kernel) (pa_cons (pv 0) (pa_cons (pe_bltn (v := .ty "str") (by rfl) T.n_str (by decide +kernel) rfl) pa_nil)))))
        (pw_or1 (pt_not (pt_chain op_le op_le pe_int (pe_callB call_len_str (by rfl) T.n_len PySem.boot_len (pa_cons (pv 0) pa_nil)) (pe_glob (v := .int 24) (by rfl) m24 ⟨_, rfl⟩))))))
      (pss_one (ps_ret pe_bl)) pss_nil)
    (pss_one (ps_ret (pe_and (pe_m0 PySem.F.slot_str_isascii PySem.F.type_str_isascii mt_isascii (pv 0)) (pe_and (pe_m0 PySem.F.slot_str_isalnum PySem.F.type_str_isalnum mt_isalnum (pv 0))
      (pe_one (pe_m0 PySem.F.slot_str_isalpha PySem.F.type_str_isalpha mt_isalpha (pe_ix ix_str (pv 0) pe_int (fun _ _ => rfl))))))))), ?_⟩
  have hs : x.length ≤ sizeLine := sz_of hx
  refine ⟨_, rfl, .str x, .ty "str", .type "str", .type "str", true, rfl, ClsV.ty _, TyX.base (TyOf.str x), kit_ty (by decide +kernel), true, rfl, iteF ?_⟩
  refine ⟨_, rfl, x, rfl, hs, _, _, rfl, rfl, _, rfl, ite2 (fun h1 => ?_) (fun h1 => ?_)⟩
  · refine ⟨_, _, rfl, rfl, _, rfl, ?_⟩
    have e1 : (1 : Int) ≤ (x.length : Int) := of_decide_eq_true h1
    refine ite2 (fun h2 => ?_) (fun h2 => ?_)
    · have e2 : ¬ (x.length : Int) ≤ 24 := fun z => by simp [z] at h2
      have : nameB x = false := by unfold nameB; simp; intro _ z; omega
      rw [this] at q; exact q
    · have e2 : (x.length : Int) ≤ 24 := Decidable.byContradiction fun z => h2 (by simp [z])
      have b1 : decide (1 ≤ x.length) = true := decide_eq_true (by omega)
      have b2 : decide (x.length ≤ 24) = true := decide_eq_true (by omega)
      have hq : nameB x = (Txt.isascii x && (Txt.isalnum x && Txt.isalpha ⟨#[x.cps.toList.headD 0]⟩)) := by unfold nameB; rw [b1, b2]; rfl
      rw [hq] at q
      refine ⟨_, rfl, ⟨x, rfl⟩, x, rfl, rfl, trivial, _, rfl, ite2 (fun h3 => ?_) (fun h3 => ?_)⟩
      · rw [h3] at q
        refine ⟨_, rfl, ⟨x, rfl⟩, x, rfl, rfl, trivial, _, rfl, ite2 (fun h4 => ?_) (fun h4 => ?_)⟩
        · rw [h4] at q
          exact ⟨_, rfl, x, 0, x.cps.toList.headD 0, rfl, rfl, hs, atI_nat (len_pos_str (by omega)), ⟨_, rfl⟩, _, rfl, rfl, trivial, q⟩
        · rw [Bool.eq_false_iff.mpr h4] at q; exact q
      · rw [Bool.eq_false_iff.mpr h3] at q; exact q
  · have e1 : ¬ (1 : Int) ≤ (x.length : Int) := fun z => h1 (decide_eq_true z)
    refine ⟨_, rfl, iteT ?_⟩
    have : nameB x = false := by unfold nameB; simp; intro z; omega
    rw [this] at q; exact q
end
end Bg
set_option Elab.async false
set_option linter.all false
set_option maxRecDepth 100000
set_option maxHeartbeats 4000000
namespace Bg
open PySem PySem.Spec PyProof.Rows L2
section
variable {P : Program} {w : World} {K : PySem.W.Frag} {mg : Str → Option Value} {base : Heap} {fd : FuncData}
def spIsKind : Sp := fun vs H Q _ => ∃ x : Str, vs = [.str x] ∧ x.length ≤ 100000 ∧ Q (.bl (kindB x)) H
theorem ok_is_kind_name (T : Tx K mg) (F : FnP K ("is_kind_name", none) "is_kind_name" "is_kind_name" s_is_kind_name fd) : FnOk P w K mg base CX0 2 (He.fAd K ("is_kind_name", none)) fd ["value"] spIsKind := by
  obtain ⟨f1, F1⟩ := T.F_is_name
  obtain ⟨tB, mB⟩ := T.c_BYTE
  refine F.ok sc_is_kind_name (fun vs H Q E h => ?_) (fun cdv A outer s H vs Q E hr h => ?_)
  · obtain ⟨x, rfl, _⟩ := h; rfl
  obtain ⟨x, rfl, hx, q⟩ := h
  refine ⟨_, PSs.nox (pss_one (ps_ret (pe_and (pe_call (ok_is_name T F1) hr (by rfl) T.g_is_name T.k_is_name (b_is_name F1) .nil pass0 (pa_cons (pv 0) pa_nil))
    (pe_one (pe_cmpR op_ne (pv 0) (pe_glob (v := .str "byte") (by rfl) mB ⟨_, rfl⟩) (nomark _)))))), ?_⟩
  refine ⟨_, rfl, x, rfl, hx, _, rfl, ite2 (fun h1 => ?_) (fun h1 => ?_)⟩
  · unfold kindB at q
    rw [h1] at q
    refine ⟨_, rfl, rfl, ?_⟩
    have e : decide (V.str x = V.str ("byte" : Str)) = decide (x = ("byte" : Str)) := by simp
    show Q (V.bl (!decide (V.str x = V.str ("byte" : Str)))) H
    rw [e]; exact q
  · unfold kindB at q
    rw [Bool.eq_false_iff.mpr h1] at q; exact q
def spIsNumber : Sp := fun vs H Q _ => ∃ v lo hi : Int, vs = [.int v, .int lo, .int hi] ∧ Q (.bl (decide (lo ≤ v) && decide (v ≤ hi))) H
theorem ok_is_number (T : Tx K mg) (F : FnP K ("is_number", none) "is_number" "is_number" s_is_number fd) : FnOk P w K mg base CX0 1 (He.fAd K ("is_number", none)) fd ["value", "low", "high"] spIsNumber := by
  refine F.ok sc_is_number (fun vs H Q E h => ?_) (fun cdv A outer s H vs Q E hr h => ?_)
  · obtain ⟨x, lo, hi, rfl, _⟩ := h; rfl
  obtain ⟨v, lo, hi, rfl, q⟩ := h
  refine ⟨_, PSs.nox (pss_one (ps_ret (pe_and (pe_callB call_isi (by rfl) T.n_isinstance (by decide +kernel) (pa_cons (pv 0) (pa_cons (pe_bltn (v := .ty "int") (by rfl) T.n_int (by decide +kernel) rfl) pa_nil)))
    (pe_and (pe_not (pe_callB call_isi (by rfl) T.n_isinstance (by decide +kernel) (pa_cons (pv 0) (pa_cons (pe_bltn (v := .ty "bool") (by rfl) T.n_bool (by decide +kernel) rfl) pa_nil))))
      (pe_one (pe_chain op_le op_le (pv 1) (pv 0) (pv 2))))))), ?_⟩
  refine ⟨_, rfl, .int v, .ty "int", .type "int", .type "int", true, rfl, ClsV.ty _, TyX.base (TyOf.int v), kit_ty (by decide +kernel), _, rfl, iteT ?_⟩
  refine ⟨_, rfl, .int v, .ty "bool", .type "int", .type "bool", false, rfl, ClsV.ty _, TyX.base (TyOf.int v), kit_ty (by decide +kernel), _, rfl, _, rfl, iteT ?_⟩
  refine ⟨_, rfl, _, rfl, _, _, rfl, rfl, _, rfl, ite2 (fun h1 => ?_) (fun h1 => ?_)⟩
  · rw [h1] at q
    exact ⟨_, rfl, _, _, rfl, rfl, q⟩
  · rw [Bool.eq_false_iff.mpr h1] at q; exact q
theorem partB_n (n k : Str) : partB (n, k, none) = (nameB n && decide (k = ("byte" : Str))) := rfl
theorem partB_s (n k : Str) (c : Int) : partB (n, k, some c) = (nameB n && (kindB k && (decide (1 ≤ c) && decide (c ≤ 1000)))) := rfl
/-- the strings of a part, a row are not too long for the machine -/
def PartShort (p : Part) : Prop := p.1.length ≤ 100000 ∧ p.2.1.length ≤ 100000
def spIsPart : Sp := fun vs H Q _ => ∃ (v : V) (p : Part), vs = [v] ∧ PartAt H v p ∧ PartShort p ∧ ∀ H', Same H H' → Q (.bl (partB p)) H'
theorem ok_is_part (T : Tx K mg) (F : FnP K ("is_part", none) "is_part" "is_part" s_is_part fd) : FnOk P w K mg base CX0 3 (He.fAd K ("is_part", none)) fd ["value"] spIsPart := by
  obtain ⟨f1, F1⟩ := T.F_is_name
  obtain ⟨f2, F2⟩ := T.F_is_kind_name
  obtain ⟨f3, F3⟩ := T.F_is_number
  obtain ⟨tB, mB⟩ := T.c_BYTE
  obtain ⟨tP, mP⟩ := T.c_MOST_PRICE
  refine F.ok sc_is_part (fun vs H Q E h => ?_) (fun cdv A outer s H vs Q E hr h => ?_)
  · obtain ⟨x, p, rfl, _⟩ := h; rfl
  obtain ⟨v, ⟨n, kd, c⟩, rfl, ⟨a, rfl, ha⟩, ⟨s1, s2⟩, q⟩ := h
  refine ⟨_, PSs.nox (pss_cons (ps_if (PW.pt (pw_or (pt_not (pt_val (pe_callB call_isi (by rfl) T.n_isinstance (by decide +kernel) (pa_cons (pv 0) (pa_cons (pe_bltn (v := .ty "tuple") (by rfl) T.n_tuple (by decide +kernel) rfl) pa_nil)))))
        (pw_or (pt_cmpR op_notIn_seq (pe_callB call_len_seq (by rfl) T.n_len PySem.boot_len (pa_cons (pv 0) pa_nil)) (pe_tup (pa_cons pe_int (pa_cons pe_int pa_nil))) (by rfl))
          (pw_or1 (pt_not (pt_val (pe_call (ok_is_name T F1) (hr.mono (by decide)) (by rfl) T.g_is_name T.k_is_name (b_is_name F1) .nil pass0 (pa_cons (pe_ix ix_tup (pv 0) pe_int (fun _ _ => rfl)) pa_nil))))))))
      (pss_one (ps_ret pe_bl)) pss_nil)
    (pss_cons (ps_if (pt_cmpR op_eq (pe_callB call_len_seq (by rfl) T.n_len PySem.boot_len (pa_cons (pv 0) pa_nil)) pe_int (nomark _))
      (pss_one (ps_ret (pe_cmpR op_eq (pe_ix ix_tup (pv 0) pe_int (fun _ _ => rfl)) (pe_glob (v := .str "byte") (by rfl) mB ⟨_, rfl⟩) (nomark _)))) pss_nil)
    (pss_one (ps_ret (pe_and (pe_call (ok_is_kind_name T F2) hr (by rfl) T.g_is_kind_name T.k_is_kind_name (b_is_kind_name F2) .nil pass0 (pa_cons (pe_ix ix_tup (pv 0) pe_int (fun _ _ => rfl)) pa_nil))
      (pe_one (pe_call (ok_is_number T F3) (hr.mono (by decide)) (by rfl) T.g_is_number T.k_is_number (b_is_number F3) .nil pass0 (pa_cons (pe_ix ix_tup (pv 0) pe_int (fun _ _ => rfl)) (pa_cons pe_int (pa_cons (pe_glob (v := .int 1000) (by rfl) mP ⟨_, rfl⟩) pa_nil)))))))))), ?_⟩
  refine ⟨_, rfl, .ref a, .ty "tuple", .type "tuple", .type "tuple", true, rfl, ClsV.ty _, TyX.base (TyOf.tup ha), kit_ty (by decide +kernel), _, rfl, iteF ?_⟩
  cases c with
  | none =>
    refine ⟨_, rfl, a, _, rfl, .inr (SqT.of ha), by show 2 ≤ sizeLine; decide, fun p np => ?_⟩
    have sm : Same H (upd H p (.tup [.int 2, .int 3])) := same_new np
    have ha' := sm _ _ ha
    refine ⟨p, _, rfl, .inr (SqT.of upd_same), rfl, rfl, _, rfl, iteF ?_⟩
    refine ⟨_, rfl, a, _, _, .str n, rfl, rfl, SqT.of ha', rfl, n, rfl, s1, _, rfl, ite2 (fun h1 => ?_) (fun h1 => ?_)⟩
    · have := q _ sm
      rw [partB_n] at this
      have e : nameB n = false := by simpa using h1
      rw [e] at this; exact this
    · have e : nameB n = true := by simpa using h1
      refine ⟨_, rfl, a, _, rfl, .inr (SqT.of ha'), rfl, _, rfl, iteT ?_⟩
      refine ⟨_, rfl, a, _, _, .str kd, rfl, rfl, SqT.of ha', rfl, rfl, ?_⟩
      have := q _ sm
      rw [partB_n] at this
      rw [e] at this
      have e : decide (V.str kd = V.str ("byte" : Str)) = decide (kd = ("byte" : Str)) := by simp
      show Q (V.bl (decide (V.str kd = V.str ("byte" : Str)))) _
      rw [e]; exact this
  | some c =>
    refine ⟨_, rfl, a, _, rfl, .inr (SqT.of ha), by show 2 ≤ sizeLine; decide, fun p np => ?_⟩
    have sm : Same H (upd H p (.tup [.int 2, .int 3])) := same_new np
    have ha' := sm _ _ ha
    refine ⟨p, _, rfl, .inr (SqT.of upd_same), rfl, rfl, _, rfl, iteF ?_⟩
    refine ⟨_, rfl, a, _, _, .str n, rfl, rfl, SqT.of ha', rfl, n, rfl, s1, _, rfl, ite2 (fun h1 => ?_) (fun h1 => ?_)⟩
    · have := q _ sm
      rw [partB_s] at this
      have e : nameB n = false := by simpa using h1
      rw [e] at this; exact this
    · have e : nameB n = true := by simpa using h1
      have qq := q _ sm
      rw [partB_s] at qq
      rw [e] at qq
      refine ⟨_, rfl, a, _, rfl, .inr (SqT.of ha'), rfl, _, rfl, iteF ?_⟩
      refine ⟨_, rfl, a, _, _, .str kd, rfl, rfl, SqT.of ha', rfl, kd, rfl, s2, _, rfl, ite2 (fun h2 => ?_) (fun h2 => ?_)⟩
      · rw [h2] at qq
        exact ⟨_, rfl, a, _, _, .int c, rfl, rfl, SqT.of ha', rfl, c, 1, 1000, rfl, qq⟩
      · rw [Bool.eq_false_iff.mpr h2] at qq; exact qq
end
end Bg
set_option Elab.async false
set_option linter.all false
set_option maxRecDepth 100000
set_option maxHeartbeats 4000000
namespace Bg
open PySem PySem.Spec PyProof.Rows L2 PpSet
/-! the set comprehension whose members are keys (texts, ints): the road of the list's, told anew for sets of keys -/
def tScK (P : Program) (w : World) (wi : TI) (g : TG) (te : TE) (vs : List Nat) : TE := fun σ H Q => wi σ H fun J H1 => ∀ D, H1 D = none →
  ∃ W : Nat → Nat → Hp → Prop, (∃ m, W 0 m (upd H1 D (SetK P w D (fun _ => false) 0))) ∧ ∀ i m H, W i m H → (J.stop i H ∧ Q (.ref D) H) ∨
    (J.go i H ∧ ∃ N : Hp → Prop, (∀ H', N H' → ∃ m', m' < m ∧ W (i + 1) m' H') ∧ ∀ x H', J.yld i H x H' → g x (wipe σ vs) H' fun σ2 H2 => wipe σ2 vs = wipe σ vs ∧
      te σ2 H2 fun y H4 => ∃ (k : Key) (S : Key → Bool) (n : Nat), y = kV k ∧ H4 D = some (SetK P w D S n) ∧ n + 1 < scanBound ∧ N (upd H4 D (SetK P w D (fun j => S j || decide (j = k)) (if S k = true then n else n + 1))))
section
variable {X : Cx}
theorem fresh_setK (P : Program) (w : World) (h : Heap) : (h.push { cls := .type "set", dict := none, data := .set #[] 0 (.fresh 0 0 (!w.params.followText "set-order")) }).SetOf (mixKind P w) h.objs.size (fun _ => false) 0 := by
  refine ⟨_, #[], 0, _, Heap.get?_push_size _ rfl, ⟨rfl, rfl, rfl⟩, rfl, ?_, ?_, by decide, by rfl, rfl⟩
  · intro e he
    simp at he
  · intro k
    simp
abbrev keyed (X : Cx) (D : Addr) : HO := SetK X.prog X.w D (fun _ => false) 0
theorem pe_scK {elt tg iter : Expr} {scope : Scope} {own : List (PySem.Str × Nat)} {pos : Pos} {wi : TI} {g : TG} {te : TE} (calm : X.calm = true) (nodup : X.N.Nodup) (walk : PI X tg iter wi) (blk : BlkOk X.N X.env.scope scope own)
    (targ : ∀ (s₀ : Shared) (H₀ : Hp) (C₀ : Addr) (cs : List (PySem.Str × Addr)) (its : List Addr), PG (X.blk s₀ H₀ scope (compEnvC scope cs C₀ X.env) its) tg g)
    (memb : ∀ (s₀ : Shared) (H₀ : Hp) (C₀ : Addr) (cs : List (PySem.Str × Addr)) (its : List Addr), PE (X.blk s₀ H₀ scope (compEnvC scope cs C₀ X.env) its) elt te)
    (fold : ∀ x, foldedSetIterable iter X.env x = pure x := by intro _; rfl) : PE X (.SetComp elt [⟨tg, iter, [], 0⟩] scope pos) (tScK X.prog X.w wi g te (own.map (·.2))) := by
  constructor
  intro pins s σ H Q I want
  rw [eval_SetComp]
  have captured : ∀ y ∈ scope.names, y.2 = .free → ∃ c, X.env.cells.lookup y.1 = some c := by
    intro y hy e
    exact (blk.free y hy e).elim (fun k => I.ok.has _ (.inl k)) (fun k => I.ok.has _ (.inr k))
  refine wpAny_comprehension_free (use := none) rfl fold (closure_ok captured) blk.kind (fun y hy e => by rw [blk.uniq y hy, e]) ?_
  refine thn (walk.run pins s σ H _ I want) fun _ _ begun => thn begun fun _ t2 got => ?_
  obtain ⟨it, its, stands, J, H2, rfl, I2, turns, here, apart, rest⟩ := got
  refine newSet_ok (newEnv_comp ?_)
  obtain ⟨D, hD⟩ : ∃ D, t2.heap.objs.size = D := ⟨_, rfl⟩
  rw [hD]
  have free : H2 D = none := I2.hok.fresh (Nat.le_of_eq hD)
  obtain ⟨W, ⟨m0, w0⟩, each⟩ := rest D free
  generalize ht3 : ({ t2 with heap := t2.heap.push { cls := .type "set", dict := none, data := .set #[] 0 (.fresh 0 0 (!X.w.params.followText "set-order")) } } : Shared) = t3
  have heap3 : t3.heap = t2.heap.push { cls := .type "set", dict := none, data := .set #[] 0 (.fresh 0 0 (!X.w.params.followText "set-order")) } := by rw [← ht3]
  have I3 : Inv X pins σ (upd H2 D (keyed X D)) t3 := by
    have z := fresh_setK X.prog X.w t2.heap
    rw [hD] at z
    rw [← ht3]
    exact I2.laid (t' := t2.toks) (fun b o e => Heap.get?_push_of_some _ e) (Nat.le_of_eq hD) (setK_new z)
  have below : ∀ b ∈ its, b < t2.heap.objs.size := by
    intro b hb
    obtain ⟨o, e, _⟩ := turns.obj _ _ here b hb
    exact Heap.lt_size e
  have apart3 : ∀ b ∈ its, FpOk X pins (upd H2 D (keyed X D)) b ∧ b < t3.heap.objs.size := by
    intro b hb
    have ne : b ≠ D := by rw [← hD]; exact Nat.ne_of_lt (below b hb)
    refine ⟨⟨by rw [upd_ne ne]; exact (apart b hb).1, (apart b hb).2⟩, ?_⟩
    rw [heap3, Heap.size_push]
    exact Nat.lt_succ_of_lt (below b hb)
  have here3 : stands 0 t3.heap := turns.keep _ _ _ here fun b _ o e => by rw [heap3]; exact Heap.get?_push_of_some _ e
  have I4 := block_start I3 blk nodup apart3
  obtain ⟨H3, hH3⟩ : ∃ H3, upd H2 D (keyed X D) = H3 := ⟨_, rfl⟩
  rw [hH3] at I3 I4 apart3 w0
  have g1 := targ t3 H3 t3.heap.objs.size (cellsFrom (t3.heap.objs.size + 1) scope.names (cloFrom X.env.cells scope.names [])) its
  have e1 := memb t3 H3 t3.heap.objs.size (cellsFrom (t3.heap.objs.size + 1) scope.names (cloFrom X.env.cells scope.names [])) its
  show codeAny (model X.prog X.w) X.A (.compStart (.SetComp elt [⟨tg, iter, [], 0⟩] scope pos) 0 (.ref it) (.ref D) (compEnvC scope (cellsFrom (t3.heap.objs.size + 1) scope.names (cloFrom X.env.cells scope.names [])) t3.heap.objs.size X.env))
    (compPost (model X.prog X.w) X.A X.xe none (EP X pins σ Q) (.ref D) t3.heap.objs.size) { t3 with heap := pushCells (t3.heap.push { cls := .type "dict", data := .dict #[] }) scope.names }
  generalize hce : compEnvC scope (cellsFrom (t3.heap.objs.size + 1) scope.names (cloFrom X.env.cells scope.names [])) t3.heap.objs.size X.env = ce at I4 g1 e1 ⊢
  generalize ht4 : ({ t3 with heap := pushCells (t3.heap.push { cls := .type "dict", data := .dict #[] }) scope.names } : Shared) = t4 at I4 ⊢
  have here4 : stands 0 t4.heap := turns.keep _ _ _ here3 fun b _ o e => by rw [← ht4]; exact pushCells_keeps _ _ _ _ (Heap.get?_push_of_some _ e)
  have local3 : ce.locals = t3.heap.objs.size := by rw [← hce] <;> rfl
  have ok5 : ∀ {σ' : L2.St} {H' : Hp} {s' : Shared}, Inv (X.blk t3 H3 scope ce its) [] σ' H' s' → (∀ b ∈ its, H' b = none) → ∀ b ∈ its, FpOk (X.blk t3 H3 scope ce its) [] H' b := by
    intro σ' H' s' I' none' b hb
    refine ⟨none' b hb, (I'.ok.exf b hb).1, I'.ok.exfs b hb, .inl hb, (fun x c e => (I'.ok.exf b hb).2 x c e), fun p hp => ?_⟩
    simp at hp
  refine codeAny_compStart_set ?_ ?_
  all_goals
    have go : codeAny (model X.prog X.w) X.A (.compLoop (.SetComp elt [⟨tg, iter, [], 0⟩] scope pos) 0 (.ref it) (.ref D) ce) (compPost (model X.prog X.w) X.A X.xe none (EP X pins σ Q) (.ref D) t3.heap.objs.size) t4 := by
      refine compLoopS_any (fun n s' => ∃ i H', Inv (X.blk t3 H3 scope ce its) [] (wipe σ (own.map (·.2))) H' s' ∧ stands i s'.heap ∧ (∀ b ∈ its, H' b = none) ∧ W i n H') ?_ m0 ⟨0, H3, I4, here4, fun b hb => (apart3 b hb).1.1, w0⟩
      rintro n t5 ⟨i, H5, I5, at5, no5, w5⟩
      rcases each i n H5 w5 with ⟨stop, done⟩ | ⟨more, N, hN, step⟩
      · refine thnF (turns.done (X.blk t3 H3 scope ce its) rfl rfl rfl calm i [] t5 _ H5 (fun _ _ => False) I5 (ok5 I5 no5) at5 stop) fun r t6 z => ?_
        obtain ⟨rfl, I6⟩ := z
        have I7 : Inv X pins σ H5 t6 := I3.call' (ch := its) I6.os I6.base I6.hok I6.bare fun b hb => by
          obtain ⟨q0, q1, q2, q3, q4, q5⟩ := (apart3 b hb).1
          exact ⟨q3, q1, q4, q5⟩
        have noC : H5 t3.heap.objs.size = none := local3 ▸ (show H5 ce.locals = none from I6.free)
        obtain ⟨m, hm, _⟩ := I6.loc
        have hm : t6.heap.Ns t3.heap.objs.size m := local3 ▸ (show t6.heap.Ns ce.locals m from hm)
        obtain ⟨q0, q1, q2, q3, q4, q5⟩ := I3.fpOk (Nat.le_refl _) noC
        exact ⟨m, hm, fun h' sb => ⟨.ref D, H5, I7.turned (t' := t6.toks) (fun b o hb e => (sb.2 b hb).trans e) q0 q1 q3 q4 q5, rfl, done⟩⟩
      · refine thnF (turns.item (X.blk t3 H3 scope ce its) rfl rfl rfl calm i [] t5 _ H5 (fun _ _ => False) I5 (ok5 I5 no5) at5 more) fun r t6 z => ?_
        obtain ⟨u, rfl, z⟩ := z
        refine thnF z fun _ t7 z => ?_
        obtain ⟨x, H7, I7, r7, y7, at7, no7⟩ := z
        refine thnF (g1.run _ t7 _ H7 x u _ (I7.pinned (ok5 I7 no7) (turns.obj _ _ at7)) r7 (step x H7 y7)) fun _ t8 z => ?_
        obtain ⟨σ8, H8, I8, same8, q8⟩ := z
        refine thnF ((pts_nil (X := X.blk t3 H3 scope ce its)).run _ t8 σ8 H8 (fun b H' => b = true ∧ te σ8 H' _) I8 ⟨rfl, q8⟩) fun b t9 z => ?_
        obtain ⟨H9, I9, rfl, q9⟩ := z
        simp only [if_true]
        refine thnF (e1.run _ t9 σ8 H9 _ I9 q9) fun v t10 z => ?_
        obtain ⟨y, H10, I10, rv, k, S, n0, rfl, hk, room, next⟩ := z
        refine thnF (mt_saddK (X := X.blk t3 H3 scope ce its) _ t10 σ8 H10 (.ref D) [kV k] (.ref D) [v] (fun _ H' => N H') I10 rfl (.cons rv .nil) ⟨D, k, S, n0, rfl, rfl, hk, room, next⟩) fun _ t11 z => ?_
        obtain ⟨_, H11, I11, _, nx⟩ := z
        obtain ⟨m', lt, w'⟩ := hN H11 nx
        have len8 : (wipe σ (own.map (·.2))).length = σ8.length := by rw [← same8, wipe_length]
        have stay : ∀ b ∈ its, ∀ o, t7.heap.get? b = some o → t11.heap.get? b = some o ∧ H11 b = none := by
          intro b hb o e
          have q := I11.pin (b, o) (List.mem_append_right _ (List.mem_append_right _ (mem_pinsAt hb e)))
          exact ⟨q.1, q.2.1⟩
        refine ⟨m', lt, i + 1, H11, (I11.unpinned (pins := [])).weak len8 ?_, turns.keep _ _ _ at7 (fun b hb o e => (stay b hb o e).1), ?_, w'⟩
        · intro j v e
          rw [← same8] at e
          exact (wipe_some e).1
        · intro b hb
          obtain ⟨o, e, _⟩ := turns.obj _ _ at7 b hb
          exact (stay b hb o e).2
  · exact go
  · exact turns.self X.A 0 _ _ _ here4 go
end
end Bg
set_option Elab.async false
set_option linter.all false
set_option maxRecDepth 100000
set_option maxHeartbeats 4000000
namespace Bg
open PySem PySem.Spec PyProof.Rows L2
/-! ### distinct -/
section
variable {α : Type} [DecidableEq α]
theorem distinct_snoc (l : List α) (k : α) : distinct (l ++ [k]) = addNew (distinct l) k := by
  unfold distinct; rw [List.foldl_append]; rfl
theorem mem_addNew {l : List α} {k j : α} : j ∈ addNew l k ↔ j ∈ l ∨ j = k := by
  unfold addNew
  split
  · rename_i h
    exact ⟨.inl, fun z => z.elim id fun e => e ▸ h⟩
  · simp
theorem mem_foldNew : ∀ (l acc : List α) (j : α), j ∈ l.foldl addNew acc ↔ j ∈ acc ∨ j ∈ l
  | [], acc, j => by simp
  | a :: r, acc, j => by
    rw [List.foldl_cons, mem_foldNew r, mem_addNew, List.mem_cons]
    exact or_assoc
theorem mem_distinct {l : List α} {j : α} : j ∈ distinct l ↔ j ∈ l := by
  unfold distinct; rw [mem_foldNew]; simp
theorem nodup_addNew {l : List α} {k : α} (h : l.Nodup) : (addNew l k).Nodup := by
  unfold addNew
  split
  · exact h
  · rename_i hk
    rw [List.nodup_append]
    exact ⟨h, by simp, fun a ha b hb e => hk (by simp at hb; rw [← hb, ← e]; exact ha)⟩
theorem nodup_foldNew : ∀ (l acc : List α), acc.Nodup → (l.foldl addNew acc).Nodup
  | [], acc, h => h
  | a :: r, acc, h => nodup_foldNew r _ (nodup_addNew h)
theorem nodup_distinct (l : List α) : (distinct l).Nodup := nodup_foldNew l [] List.nodup_nil
theorem foldNew_of_nodup : ∀ (l acc : List α), (acc ++ l).Nodup → l.foldl addNew acc = acc ++ l
  | [], acc, _ => by simp
  | a :: r, acc, h => by
    have ha : a ∉ acc := fun z => (List.nodup_append.mp h).2.2 a z a (List.mem_cons_self ..) rfl
    have e : addNew acc a = acc ++ [a] := by unfold addNew; rw [if_neg ha]
    rw [List.foldl_cons, e, foldNew_of_nodup r]
    · simp
    · simpa using h
theorem distinct_of_nodup {l : List α} (h : l.Nodup) : distinct l = l := by
  unfold distinct; rw [foldNew_of_nodup l [] (by simpa using h)]; simp
theorem length_addNew (l : List α) (k : α) : (addNew l k).length = if k ∈ l then l.length else l.length + 1 := by
  unfold addNew; split <;> simp
theorem length_foldNew : ∀ (l acc : List α), (l.foldl addNew acc).length ≤ acc.length + l.length
  | [], acc => by simp
  | a :: r, acc => by
    have h1 := length_foldNew r (addNew acc a)
    have h2 : (addNew acc a).length ≤ acc.length + 1 := by rw [length_addNew]; split <;> omega
    rw [List.foldl_cons, List.length_cons]; omega
theorem length_distinct (l : List α) : (distinct l).length ≤ l.length := by
  have := length_foldNew l []; simpa [distinct] using this
end
section
variable {P : Program} {w : World} {K : PySem.W.Frag} {mg : Str → Option Value} {base : Heap} {fd : FuncData}
theorem call_lenK {X : Cx} : CallR X (.builtin "len") (fun xs H Q => ∃ a S n, xs = [V.ref a] ∧ H a = some (SetK X.prog X.w a S n) ∧ Q (.int (n : Nat)) H) := by
  intro pins s σ H xs us Q I r h
  obtain ⟨a, S, n, rfl, ha, q⟩ := h
  obtain ⟨u, rfl, ru⟩ := vals1 r
  cases ru
  obtain ⟨o, es, ep, t, ho, hex, hd, _, _, hb, hf, hn⟩ := setK_get I ha
  exact call_len_set ho hex hd hf (by have : scanBound ≤ 2 ^ 62 := by decide
                                      omega) ⟨.int n, H, I.tok _, ⟨_, by rw [hn]⟩, q⟩
/-- a set comprehension over a tuple -/
theorem scK_tup {a : Addr} {xs : List V} {g : TG} {te : TE} {vs : List Nat} {σ : L2.St} {H1 : Hp} {D : Addr} {Qd : Hp → Prop} (Pv : Nat → Hp → Prop) (start : Pv 0 (upd H1 D (SetK P w D (fun _ => false) 0))) (stays : ∀ i H, i ≤ xs.length → Pv i H → SqT K H a xs)
    (turn : ∀ i x H, xs[i]? = some x → Pv i H → g x (wipe σ vs) H fun σ2 H2 => wipe σ2 vs = wipe σ vs ∧
      te σ2 H2 fun y H4 => ∃ (k : Key) (S : Key → Bool) (n : Nat), y = kV k ∧ H4 D = some (SetK P w D S n) ∧ n + 1 < scanBound ∧ Pv (i + 1) (upd H4 D (SetK P w D (fun j => S j || decide (j = k)) (if S k = true then n else n + 1)))) (fin : ∀ H, Pv xs.length H → Qd H) :
    ∃ W : Nat → Nat → Hp → Prop, (∃ m, W 0 m (upd H1 D (SetK P w D (fun _ => false) 0))) ∧ ∀ i m H, W i m H → ((Itt K a).stop i H ∧ Qd H) ∨
    ((Itt K a).go i H ∧ ∃ N : Hp → Prop, (∀ H', N H' → ∃ m', m' < m ∧ W (i + 1) m' H') ∧ ∀ x H', (Itt K a).yld i H x H' → g x (wipe σ vs) H' fun σ2 H2 => wipe σ2 vs = wipe σ vs ∧
      te σ2 H2 fun y H4 => ∃ (k : Key) (S : Key → Bool) (n : Nat), y = kV k ∧ H4 D = some (SetK P w D S n) ∧ n + 1 < scanBound ∧ N (upd H4 D (SetK P w D (fun j => S j || decide (j = k)) (if S k = true then n else n + 1)))) := by
  refine ⟨fun i m H => m + i = xs.length ∧ Pv i H, ⟨xs.length, rfl, start⟩, fun i m H h => ?_⟩
  obtain ⟨e, p⟩ := h
  have q := stays i H (by omega) p
  rcases Nat.lt_or_ge i xs.length with lt | ge
  · refine .inr ⟨⟨xs, xs[i], q, List.getElem?_eq_getElem lt⟩, Pv (i + 1), fun H' p' => ⟨m - 1, by omega, by omega, p'⟩, fun x H' y => ?_⟩
    obtain ⟨rfl, y⟩ := y
    exact turn i x _ (y xs q) p
  · have : i = xs.length := by omega
    subst this
    exact .inl ⟨⟨xs, q, Nat.le_refl _⟩, fin H p⟩
theorem partAt_ix {H : Hp} {v : V} {p : Part} (h : PartAt H v p) : ∃ a xs, v = .ref a ∧ H a = some (.tup xs) ∧ xs[0]? = some (.str p.1) ∧ xs[1]? = some (.str p.2.1) := by
  obtain ⟨a, e, x⟩ := h
  obtain ⟨n, k, c⟩ := p
  cases c with
  | none => exact ⟨a, _, e, x, rfl, rfl⟩
  | some c => exact ⟨a, _, e, x, rfl, rfl⟩
def PartsShort (ps : List Part) : Prop := ps.length ≤ 1000 ∧ ∀ p ∈ ps, PartShort p
theorem take_succ_of {α : Type} {l : List α} {i : Nat} {x : α} (h : l[i]? = some x) : l.take (i + 1) = l.take i ++ [x] := by
  rw [List.take_add_one, h]; rfl
def spAreParts : Sp := fun vs H Q _ => ∃ (v : V) (ps : List Part), vs = [v] ∧ PartsAt H v ps ∧ PartsShort ps ∧ ∀ H', Same H H' → Q (.bl (partsB ps)) H'
theorem ok_are_parts (T : Tx K mg) (F : FnP K ("are_parts", none) "are_parts" "are_parts" s_are_parts fd) : FnOk P w K mg base CX0 4 (He.fAd K ("are_parts", none)) fd ["value"] spAreParts := by
  obtain ⟨f1, F1⟩ := T.F_is_part
  obtain ⟨t4, m4⟩ := T.c_MOST_PARTS
  refine F.ok sc_are_parts (fun vs H Q E h => ?_) (fun cdv A outer s H vs Q E hr h => ?_)
  · obtain ⟨x, p, rfl, _⟩ := h; rfl
  obtain ⟨v, ps, rfl, ⟨a, us, rfl, ha, al⟩, ⟨sh1, sh2⟩, q⟩ := h
  refine ⟨_, PSs.nox (pss_cons (ps_if (PW.pt (pw_or (pt_not (pt_val (pe_callB call_isi (by rfl) T.n_isinstance (by decide +kernel) (pa_cons (pv 0) (pa_cons (pe_bltn (v := .ty "tuple") (by rfl) T.n_tuple (by decide +kernel) rfl) pa_nil)))))
        (pw_or1 (pt_cmpR op_gt (pe_callB call_len_seq (by rfl) T.n_len PySem.boot_len (pa_cons (pv 0) pa_nil)) (pe_glob (v := .int 4) (by rfl) m4 ⟨_, rfl⟩) (nomark _)))))
      (pss_one (ps_ret pe_bl)) pss_nil)
    (pss_cons (ps_for PassesOwn.never rfl (pi_tup (pv 0)) (pg_name (i := 1) sc_are_parts.nd rfl (Or.inl rfl))
      (pss_one (ps_if (pt_not (pt_val (pe_call (ok_is_part T F1) hr (by rfl) T.g_is_part T.k_is_part (b_is_part F1) .nil pass0 (pa_cons (pv 1) pa_nil)))) (pss_one (ps_ret pe_bl)) pss_nil)))
    (pss_one (ps_ret (pe_cmpR op_eq (pe_callB call_lenK (by rfl) T.n_len PySem.boot_len (pa_cons (pe_scK (own := [("part", 1)]) rfl sc_are_parts.nd (pi_tup (pv 0)) (blkOk_by (N := ["value", "part"]) (sc := defScope s_are_parts) (by decide +kernel))
        (fun _ _ _ _ _ => pg_name (i := 1) sc_are_parts.nd rfl (Or.inl rfl)) (fun _ _ _ _ _ => pe_ix (r := rIxT K) ix_tup (pv 1) pe_int (fun _ _ => rfl))) pa_nil))
      (pe_callB call_len_seq (by rfl) T.n_len PySem.boot_len (pa_cons (pv 0) pa_nil)) (nomark _)))))), ?_⟩
  refine ⟨_, rfl, .ref a, .ty "tuple", .type "tuple", .type "tuple", true, rfl, ClsV.ty _, TyX.base (TyOf.tup ha), kit_ty (by decide +kernel), _, rfl, iteF ?_⟩
  refine ⟨_, rfl, a, _, rfl, .inr (SqT.of ha), _, _, rfl, rfl, _, rfl, ite2 (fun h1 => ?_) (fun h1 => ?_)⟩
  · have l4 : ¬ ps.length ≤ 4 := by
      have e1 : (4 : Int) < (us.length : Int) := of_decide_eq_true h1
      rw [al.1] at e1; omega
    have := q H (Same.refl H)
    unfold partsB at this
    rw [decide_eq_false l4] at this; exact this
  have l4 : ps.length ≤ 4 := by
    have e1 : ¬ (4 : Int) < (us.length : Int) := fun z => h1 (decide_eq_true z)
    rw [al.1] at e1; omega
  -- for part in value
  refine ⟨_, rfl, a, rfl, ⟨_, SqT.of ha⟩, for_tup (K := K) (a := a) (xs := us) (fun i σ H2 => (∃ v1, σ = [some (.ref a), v1]) ∧ Same H H2 ∧ (ps.take i).all partB = true) ⟨⟨none, rfl⟩, Same.refl H, rfl⟩ (fun i σ H2 _ z => SqT.of (z.2.1 _ _ ha)) ?_ ?_⟩
  · rintro i x σ H2 hx ⟨⟨v1, rfl⟩, sm, hall⟩
    obtain ⟨p, hp, pa⟩ := al.get hx
    refine ⟨_, rfl, x, p, rfl, pa.mono (tups_of sm), sh2 p (List.mem_of_getElem? hp), fun H3 sm3 => ⟨_, rfl, ite2 (fun h2 => ?_) (fun h2 => ?_)⟩⟩
    · have e : partB p = false := by simpa using h2
      have hn : ps.all partB = false := Bool.eq_false_iff.mpr fun z => by
        have := List.all_eq_true.mp z p (List.mem_of_getElem? hp); rw [e] at this; cases this
      have := q H3 (sm.trans sm3)
      unfold partsB at this
      rw [decide_eq_true l4, hn] at this; exact this
    · have e : partB p = true := by simpa using h2
      refine ⟨⟨some x, rfl⟩, sm.trans sm3, ?_⟩
      rw [take_succ_of hp, List.all_append, hall, List.all_cons, e] <;> rfl
  · rintro σ H2 ⟨⟨v1, rfl⟩, sm, hall⟩
    rw [al.1, List.take_length] at hall
    -- the set of the names
    refine ⟨_, rfl, a, rfl, ⟨_, SqT.of (sm _ _ ha)⟩, fun D hD => ?_⟩
    refine scK_tup (K := K) (a := a) (xs := us) (fun i H3 => Same H2 H3 ∧ ∃ S, H3 D = some (SetK P w D S (distinct ((ps.take i).map (·.1))).length) ∧ ∀ j, S (Sum.inr j) = true ↔ j ∈ (ps.take i).map (·.1)) ?_ ?_ ?_ ?_
    · exact ⟨same_new hD, fun _ => false, upd_same, by simp⟩
    · rintro i H3 _ ⟨s3, _⟩
      exact SqT.of (s3 _ _ (sm _ _ ha))
    · rintro i x H3 hx ⟨s3, S, hS, hmem⟩
      obtain ⟨p, hp, pa⟩ := al.get hx
      obtain ⟨b, xs, rfl, hb, x0, x1⟩ := partAt_ix pa
      refine ⟨rfl, _, rfl, b, _, 0, _, rfl, rfl, SqT.of (s3 _ _ (sm _ _ hb)), atI_nat x0, Sum.inr p.1, S, _, rfl, hS, ?_, ?_, ?_⟩
      · have h3 := length_distinct ((ps.take i).map (·.1))
        rw [List.length_map, List.length_take] at h3
        have : 2000 < scanBound := by decide
        omega
      · exact same_mut s3 hD
      · refine ⟨fun j => S j || decide (j = Sum.inr p.1), ?_, fun j => ?_⟩
        · have en : (distinct ((ps.take (i + 1)).map (·.1))).length = if S (Sum.inr p.1) = true then (distinct ((ps.take i).map (·.1))).length else (distinct ((ps.take i).map (·.1))).length + 1 := by
            have em : (S (Sum.inr p.1) = true) = (p.1 ∈ distinct ((ps.take i).map (·.1))) := propext ((hmem _).trans mem_distinct.symm)
            rw [take_succ_of hp, List.map_append, List.map_cons, List.map_nil, distinct_snoc, length_addNew]
            simp only [em]
          rw [en, upd_same] <;> rfl
        · rw [take_succ_of hp, List.map_append]
          simp only [Bool.or_eq_true, hmem, decide_eq_true_eq, Sum.inr.injEq, List.mem_append, List.map_cons, List.map_nil, List.mem_singleton]
    · rintro H3 ⟨s3, S, hS, hmem⟩
      rw [al.1, List.take_length] at hS
      refine ⟨D, S, _, rfl, hS, _, rfl, a, _, rfl, .inr (SqT.of (s3 _ _ (sm _ _ ha))), rfl, ?_⟩
      have := q H3 (sm.trans s3)
      unfold partsB at this
      rw [decide_eq_true l4, hall] at this
      have e : decide (V.int ((distinct (ps.map (·.1))).length : Nat) = V.int (us.length : Nat)) = decide ((distinct (ps.map (·.1))).length = ps.length) := by
        rw [al.1]; simp <;> omega
      show Q (V.bl (decide (V.int ((distinct (ps.map (·.1))).length : Nat) = V.int (us.length : Nat)))) H3
      rw [e]; exact this
end
end Bg
set_option Elab.async false
set_option linter.all false
set_option maxRecDepth 100000
set_option maxHeartbeats 4000000
namespace Bg
open PySem PySem.Spec PyProof.Rows L2
/-! ### dicts whose keys are texts -/
def KD (kvs : List (Key × V)) (ks : List Str) (R : Str → V → Prop) : Prop := kvs.map (·.1) = ks.map Sum.inr ∧ ∀ k v, valV kvs (Sum.inr k) = some v → R k v
theorem mem_of_valV {kvs : List (Key × V)} {k : Key} {v : V} (h : valV kvs k = some v) : (k, v) ∈ kvs := by
  unfold valV at h
  cases e : kvs.find? (fun kv => decide (kv.1 = k)) with
  | none => rw [e] at h; cases h
  | some p =>
    rw [e] at h
    have h1 := List.find?_some e
    have h2 := List.mem_of_find?_eq_some e
    simp at h h1
    rw [← h, ← h1]
    exact h2
theorem valV_some_iff {kvs : List (Key × V)} {k : Key} : (∃ v, valV kvs k = some v) ↔ k ∈ kvs.map (·.1) := by
  constructor
  · rintro ⟨v, h⟩; exact List.mem_map.mpr ⟨_, mem_of_valV h, rfl⟩
  · intro h
    cases e : valV kvs k with
    | some v => exact ⟨v, rfl⟩
    | none => exact absurd h (valV_not e)
section
variable {kvs : List (Key × V)} {ks : List Str} {R R' : Str → V → Prop} {k : Str} {v : V}
theorem KD.nil : KD [] [] R := ⟨rfl, fun k v h => by cases h⟩
theorem KD.mono (h : KD kvs ks R) (f : ∀ k v, R k v → R' k v) : KD kvs ks R' := ⟨h.1, fun k v e => f k v (h.2 k v e)⟩
theorem KD.has (h : KD kvs ks R) : (∃ v, valV kvs (Sum.inr k) = some v) ↔ k ∈ ks := by
  rw [valV_some_iff, h.1]; simp
theorem KD.some (h : KD kvs ks R) (hk : k ∈ ks) : ∃ v, valV kvs (Sum.inr k) = some v ∧ R k v := by
  obtain ⟨v, e⟩ := h.has.mpr hk; exact ⟨v, e, h.2 k v e⟩
theorem KD.none (h : KD kvs ks R) (hk : k ∉ ks) : valV kvs (Sum.inr k) = none := by
  cases e : valV kvs (Sum.inr k) with
  | none => rfl
  | some v => exact absurd (h.has.mp ⟨v, e⟩) hk
theorem KD.isSome (h : KD kvs ks R) : (valV kvs (Sum.inr k)).isSome = decide (k ∈ ks) := by
  by_cases hk : k ∈ ks
  · obtain ⟨v, e, _⟩ := h.some hk; rw [e, decide_eq_true hk]; rfl
  · rw [h.none hk, decide_eq_false hk]; rfl
theorem KD.length (h : KD kvs ks R) : kvs.length = ks.length := by
  have := congrArg List.length h.1; simpa using this
theorem KD.put (h : KD kvs ks R) (f : ∀ j u, j ≠ k → R j u → R' j u) (hv : R' k v) : KD (putK kvs (Sum.inr k) v) (addNew ks k) R' := by
  constructor
  · by_cases hk : k ∈ ks
    · obtain ⟨u, e, _⟩ := h.some hk
      unfold putK addNew
      rw [if_pos hk, if_pos (by
        have := mem_of_valV e
        exact List.any_eq_true.mpr ⟨_, this, by simp⟩), List.map_map, ← h.1]
      refine List.map_congr_left fun p _ => ?_
      show (if p.1 = Sum.inr k then (p.1, v) else p).1 = p.1
      split <;> rfl
    · rw [putK_new _ (h.none hk)]
      unfold addNew
      rw [if_neg hk, List.map_append, List.map_append, h.1]
      rfl
  · intro j u e
    by_cases hj : j = k
    · subst hj
      have : valV (putK kvs (Sum.inr j) v) (Sum.inr j) = Option.some v := by rw [valV_put, if_pos rfl]
      rw [this] at e; cases e; exact hv
    · have : valV (putK kvs (Sum.inr k) v) (Sum.inr j) = valV kvs (Sum.inr j) := by rw [valV_put, if_neg (fun z => hj (Sum.inr.inj z))]
      rw [this] at e
      exact f j u hj (h.2 j u e)
theorem KD.at (h : KD kvs ks R) {i : Nat} {p : Key × V} (e : kvs[i]? = Option.some p) : ∃ j, ks[i]? = Option.some j ∧ p.1 = Sum.inr j := by
  have h1 : (kvs.map (·.1))[i]? = Option.some p.1 := by rw [List.getElem?_map, e]; rfl
  rw [h.1, List.getElem?_map] at h1
  cases q : ks[i]? with
  | none => rw [q] at h1; cases h1
  | some j => rw [q] at h1; exact ⟨j, rfl, (Option.some.inj h1).symm⟩
end
/-- a dict comprehension over a walk -/
theorem dc_it {J : It} {n : Nat} {G : Hp → Prop} {Y : Nat → Hp → V → Hp → Prop} (wk : Walk J n G Y) {g : TG} {tt : TT} {tk tv : TE} {vs : List Nat} {σ : L2.St} {H1 : Hp} {D : Addr} {Qd : Hp → Prop} (Pv : Nat → Hp → Prop) (start : Pv 0 (upd H1 D (.dK [])))
    (stays : ∀ i H, i ≤ n → Pv i H → G H)
    (turn : ∀ i x H H', i < n → Pv i H → Y i H x H' → g x (wipe σ vs) H' fun σ2 H2 => wipe σ2 vs = wipe σ vs ∧ tt σ2 H2 fun b H3 =>
      if b = true then tk σ2 H3 fun y H4 => tv σ2 H4 fun z H5 => ∃ kvs k, y = kV k ∧ H5 D = some (.dK kvs) ∧ kvs.length < sizeLine ∧ Pv (i + 1) (upd H5 D (.dK (putK kvs k z))) else Pv (i + 1) H3) (fin : ∀ H, Pv n H → Qd H) :
    ∃ W : Nat → Nat → Hp → Prop, (∃ m, W 0 m (upd H1 D (.dK []))) ∧ ∀ i m H, W i m H → (J.stop i H ∧ Qd H) ∨ (J.go i H ∧ ∃ N : Hp → Prop, (∀ H', N H' → ∃ m', m' < m ∧ W (i + 1) m' H') ∧ ∀ x H', J.yld i H x H' → g x (wipe σ vs) H' fun σ2 H2 =>
      wipe σ2 vs = wipe σ vs ∧ tt σ2 H2 fun b H3 => if b = true then tk σ2 H3 fun y H4 => tv σ2 H4 fun z H5 => ∃ kvs k, y = kV k ∧ H5 D = some (.dK kvs) ∧ kvs.length < sizeLine ∧ N (upd H5 D (.dK (putK kvs k z))) else N H3) := by
  refine ⟨fun i m H => m + i = n ∧ Pv i H, ⟨n, rfl, start⟩, fun i m H h => ?_⟩
  obtain ⟨e, p⟩ := h
  have q := stays i H (by omega) p
  rcases Nat.lt_or_ge i n with lt | ge
  · exact .inr ⟨wk.goes i H lt q, Pv (i + 1), fun H' p' => ⟨m - 1, by omega, by omega, p'⟩, fun x H' y => turn i x H H' lt p (wk.yields i H x H' lt q y)⟩
  · have : i = n := by omega
    subst this
    exact .inl ⟨wk.stops H q, fin H p⟩
end Bg
set_option Elab.async false
set_option linter.all false
set_option maxRecDepth 100000
set_option maxHeartbeats 4000000
namespace Bg
open PySem PySem.Spec PyProof.Rows L2
def rkinds (rs : List Row) : List Str := rs.map fun r => r.1
def rmakers (rs : List Row) : List Str := rs.map fun r => r.2.1
def RowShort (r : Row) : Prop := r.1.length ≤ 100000 ∧ r.2.1.length ≤ 100000 ∧ PartsShort r.2.2
def RowsShort (rs : List Row) : Prop := rs.length ≤ 1000 ∧ ∀ r ∈ rs, RowShort r
structure EachOk (rs : List Row) : Prop where
  good : ∀ r ∈ rs, kindB r.1 = true ∧ nameB r.2.1 = true ∧ partsB r.2.2 = true
  nd : (rmakers rs).Nodup
  few : rs.length ≤ 12
  kinds : (distinct (rkinds rs)).length ≤ 4
theorem foldNew_len_ge {α : Type} [DecidableEq α] : ∀ (l acc : List α), acc.length ≤ (l.foldl addNew acc).length
  | [], acc => Nat.le_refl _
  | a :: r, acc => by
    rw [List.foldl_cons]
    refine Nat.le_trans ?_ (foldNew_len_ge r _)
    rw [length_addNew]; split <;> omega
theorem distinct_take_len {α : Type} [DecidableEq α] (l : List α) (i : Nat) : (distinct (l.take i)).length ≤ (distinct l).length := by
  have e : distinct l = (l.drop i).foldl addNew (distinct (l.take i)) := by
    unfold distinct; rw [← List.foldl_append, List.take_append_drop]
  rw [e]; exact foldNew_len_ge _ _
theorem rkinds_take_succ {rs : List Row} {i : Nat} {r : Row} (h : rs[i]? = some r) : rkinds (rs.take (i + 1)) = rkinds (rs.take i) ++ [r.1] := by
  rw [take_succ_of h]; simp [rkinds]
theorem rmakers_take_succ {rs : List Row} {i : Nat} {r : Row} (h : rs[i]? = some r) : rmakers (rs.take (i + 1)) = rmakers (rs.take i) ++ [r.2.1] := by
  rw [take_succ_of h]; simp [rmakers]
theorem rkinds_take (rs : List Row) (i : Nat) : rkinds (rs.take i) = (rkinds rs).take i := by simp [rkinds, List.map_take]
theorem rmakers_take (rs : List Row) (i : Nat) : rmakers (rs.take i) = (rmakers rs).take i := by simp [rmakers, List.map_take]
theorem addNew_of_not {α : Type} [DecidableEq α] {l : List α} {k : α} (h : k ∉ l) : addNew l k = l ++ [k] := by unfold addNew; rw [if_neg h]
theorem addNew_of_mem {α : Type} [DecidableEq α] {l : List α} {k : α} (h : k ∈ l) : addNew l k = l := by unfold addNew; rw [if_pos h]
theorem not_mem_take_of_nodup {α : Type} {l : List α} (nd : l.Nodup) {i : Nat} {x : α} (h : l[i]? = some x) : x ∉ l.take i := by
  intro m
  obtain ⟨j, hj⟩ := List.getElem?_of_mem m
  have lt : j < i := by
    have := (List.getElem?_eq_some_iff.mp hj).1
    rw [List.length_take] at this; omega
  rw [List.getElem?_take_of_lt lt] at hj
  exact absurd (nd_ix nd hj h) (by omega)
/-- the unpacking of a row into three names -/
theorem row_open {H : Hp} {v : V} {r : Row} (h : RowAt H v r) : ∃ a u, v = .ref a ∧ H a = some (.tup [.str r.1, .str r.2.1, u]) ∧ PartsAt H u r.2.2 := h
section
variable {P : Program} {w : World} {K : PySem.W.Frag} {mg : Str → Option Value} {base : Heap} {fd : FuncData}
abbrev TrueR : Str → V → Prop := fun _ _ => True
def spCheckEach : Sp := fun vs H Q _ => ∃ (a : Addr) (rs : List Row), vs = [.ref a] ∧ RowsAt H a rs ∧ RowsShort rs ∧ EachOk rs ∧ ∀ H', Same H H' → Q .non H'
theorem ok_check_each_row (T : Tx K mg) (F : FnP K ("check_each_row", none) "check_each_row" "check_each_row" s_check_each_row fd) : FnOk P w K mg base CX0 5 (He.fAd K ("check_each_row", none)) fd ["rows"] spCheckEach := by
  obtain ⟨f1, F1⟩ := T.F_is_name
  obtain ⟨f2, F2⟩ := T.F_is_kind_name
  obtain ⟨f3, F3⟩ := T.F_are_parts
  obtain ⟨t4, m4⟩ := T.c_MOST_KINDS
  obtain ⟨t12, m12⟩ := T.c_MOST_ROWS
  refine F.ok sc_check_each_row (fun vs H Q E h => ?_) (fun cdv A outer s H vs Q E hr h => ?_)
  · obtain ⟨x, p, rfl, _⟩ := h; rfl
  obtain ⟨a, rs, rfl, ⟨us, ha, al⟩, ⟨n1000, sh⟩, ok, q⟩ := h
  have hu := hu_of hr
  have nd := sc_check_each_row.nd
  refine ⟨_, PSs.nox (pss_cons (ps_set (i := 1) nd rfl (.inl rfl) pe_dnewK) (pss_cons (ps_set (i := 2) nd rfl (.inl rfl) pe_dnewK)
    (pss_one (ps_for PassesOwn.never rfl (pi_enum (by rfl) T.n_enumerate (pa_cons (pv 0) pa_nil))
      (pg_tup rfl (pgs_cons (pg_name (i := 3) nd rfl (.inl rfl)) (pgs_cons (pg_tup rfl (pgs_cons (pg_name (i := 4) nd rfl (.inl rfl)) (pgs_cons (pg_name (i := 5) nd rfl (.inl rfl)) (pgs_cons (pg_name (i := 6) nd rfl (.inl rfl)) pgs_nil)))) pgs_nil)))
      (pss_cons (ps_if (PW.pt (pw_or (pt_not (pt_val (pe_call (ok_is_kind_name T F2) (hr.mono (by decide)) (by rfl) T.g_is_kind_name T.k_is_kind_name (b_is_kind_name F2) .nil pass0 (pa_cons (pv 4) pa_nil))))
          (pw_or (pt_not (pt_val (pe_call (ok_is_name T F1) (hr.mono (by decide)) (by rfl) T.g_is_name T.k_is_name (b_is_name F1) .nil pass0 (pa_cons (pv 5) pa_nil))))
            (pw_or1 (pt_not (pt_val (pe_call (ok_are_parts T F3) hr (by rfl) T.g_are_parts T.k_are_parts (b_are_parts F3) .nil pass0 (pa_cons (pv 6) pa_nil)))))))) (pss_one ps_never) pss_nil)
      (pss_cons (ps_dput hu (pv 1) (pv 4) pe_bl rfl)
      (pss_cons (ps_if (PW.pt (pw_or (pt_cmp (pc_din hu (pv 5) (pv 2))) (pw_or (pt_cmpR op_ge (pv 3) (pe_glob (v := .int 12) (by rfl) m12 ⟨_, rfl⟩) (nomark _))
          (pw_or1 (pt_cmpR op_gt (pe_callB call_lenD (by rfl) T.n_len PySem.boot_len (pa_cons (pv 1) pa_nil)) (pe_glob (v := .int 4) (by rfl) m4 ⟨_, rfl⟩) (nomark _)))))) (pss_one ps_never) pss_nil)
      (pss_one (ps_dput hu (pv 2) (pv 5) pe_bl rfl))))))))), ?_⟩
  intro dk hdk dm hdm
  have hdm0 : H dm = none := (same_new hdk).free hdm
  have kne : dk ≠ dm := ne_of_none upd_same hdm
  have s1 : Same H (upd (upd H dk (.dK [])) dm (.dK [])) := (same_new hdk).trans (same_new hdm)
  refine ⟨_, rfl, a, us, rfl, .inl (.inl (s1 _ _ ha)), for_it (walk_enum (K := K) (a := a) (xs := us)) (fun i σ H2 => (∃ v3 v4 v5 v6, σ = [some (.ref a), some (.ref dk), some (.ref dm), v3, v4, v5, v6]) ∧ Same H H2 ∧
    (∃ kvs, H2 dk = some (.dK kvs) ∧ KD kvs (distinct (rkinds (rs.take i))) TrueR) ∧ ∃ kvs, H2 dm = some (.dK kvs) ∧ KD kvs (rmakers (rs.take i)) TrueR) ?_ (fun i σ H2 _ z => .inl (.inl (z.2.1 _ _ ha))) ?_ ?_⟩
  · exact ⟨⟨none, none, none, none, rfl⟩, s1, ⟨[], by rw [upd_ne kne, upd_same], KD.nil⟩, [], upd_same, KD.nil⟩
  · rintro i x σ H2 H3 hi ⟨⟨v3, v4, v5, v6, rfl⟩, sm, ⟨kvs, hk, kd⟩, mvs, hm, md⟩ ⟨tp, x1, x2, rfl, ntp, rfl, e1, e2⟩
    cases e1
    obtain ⟨r, hrr, ra⟩ := al.get e2
    obtain ⟨b, u, rfl, hb, pa⟩ := ra
    obtain ⟨g1, g2, g3⟩ := ok.good r (List.mem_of_getElem? hrr)
    obtain ⟨l1, l2, l3⟩ := sh r (List.mem_of_getElem? hrr)
    have s3 : Same H (upd H2 tp (.tup [.int (i : Nat), .ref b])) := sm.trans (same_new ntp)
    refine ⟨tp, _, rfl, .inl (.inl upd_same), rfl, _, _, rfl, _, _, rfl, ⟨b, _, rfl, .inl (.inl (s3 _ _ hb)), rfl, _, _, rfl, _, _, rfl, _, _, rfl, rfl, rfl, ?_⟩⟩
    refine ⟨_, rfl, _, rfl, l1, _, rfl, ?_⟩
    rw [g1]
    refine iteF ⟨_, rfl, _, rfl, l2, _, rfl, ?_⟩
    rw [g2]
    refine iteF ⟨_, rfl, u, _, rfl, pa.mono (tups_of s3), l3, fun H4 s4 => ⟨_, rfl, ?_⟩⟩
    rw [g3]
    have s04 : Same H H4 := s3.trans s4
    have hk4 : H4 dk = some (.dK kvs) := s4 _ _ ((same_new ntp) _ _ hk)
    have hm4 : H4 dm = some (.dK mvs) := s4 _ _ ((same_new ntp) _ _ hm)
    have kl : kvs.length ≤ 1000 := by
      rw [kd.length]
      have := length_distinct (rkinds (rs.take i))
      unfold rkinds at this
      rw [List.length_map, List.length_take] at this
      unfold rkinds; omega
    have ml : mvs.length ≤ 1000 := by
      rw [md.length]; unfold rmakers; rw [List.length_map, List.length_take]; omega
    refine iteF ⟨_, rfl, _, rfl, dk, _, rfl, DPut.k (k := Sum.inr r.1) hk4 (small1000 kl), ?_⟩
    have kd' := kd.put (k := r.1) (v := .bl true) (R' := TrueR) (fun _ _ _ _ => trivial) trivial
    rw [← distinct_snoc, ← rkinds_take_succ hrr] at kd'
    have hm5 : (upd H4 dk (.dK (putK kvs (Sum.inr r.1) (.bl true)))) dm = some (.dK mvs) := by rw [upd_ne kne.symm]; exact hm4
    have notin : r.2.1 ∉ rmakers (rs.take i) := by
      rw [rmakers_take]
      exact not_mem_take_of_nodup ok.nd (by unfold rmakers; rw [List.getElem?_map, hrr]; rfl)
    refine ⟨_, rfl, _, rfl, dm, _, rfl, DGet.k (k := Sum.inr r.2.1) hm5, _, rfl, ?_⟩
    rw [md.none notin]
    refine iteF ⟨_, rfl, _, _, rfl, rfl, _, rfl, ?_⟩
    have lti : i < rs.length := (List.getElem?_eq_some_iff.mp hrr).1
    have few := ok.few
    have d1 : decide ((12 : Int) ≤ ((i : Nat) : Int)) = false := decide_eq_false (by omega)
    rw [d1]
    refine iteF ⟨_, rfl, dk, _, rfl, upd_same, _, _, rfl, rfl, _, rfl, ?_⟩
    have kl' : (putK kvs (Sum.inr r.1) (V.bl true)).length ≤ 4 := by
      rw [kd'.length, rkinds_take]; exact Nat.le_trans (distinct_take_len _ _) ok.kinds
    have d2 : decide ((4 : Int) < ((putK kvs (Sum.inr r.1) (V.bl true)).length : Int)) = false := decide_eq_false (by omega)
    rw [d2]
    refine iteF ⟨_, rfl, _, rfl, dm, _, rfl, DPut.k (k := Sum.inr r.2.1) hm5 (small1000 ml), ?_⟩
    have md' := md.put (k := r.2.1) (v := .bl true) (R' := TrueR) (fun _ _ _ _ => trivial) trivial
    rw [addNew_of_not notin, ← rmakers_take_succ hrr] at md'
    refine ⟨⟨_, _, _, _, rfl⟩, same_mut (same_mut s04 hdk) hdm0, ⟨_, by rw [upd_ne kne, upd_same], kd'⟩, _, upd_same, md'⟩
  · rintro σ H2 ⟨_, sm, _⟩
    exact q H2 sm
end
end Bg
set_option Elab.async false
set_option linter.all false
set_option maxRecDepth 100000
set_option maxHeartbeats 4000000
namespace Bg
open PySem PySem.Spec PyProof.Rows L2
theorem inV_strs (k : Str) (ks : List Str) : inV (.str k) (ks.map V.str) = decide (k ∈ ks) := by
  induction ks with
  | nil => rfl
  | cons a r ih =>
    have e : inV (.str k) ((a :: r).map V.str) = ((a == k) || inV (.str k) (r.map V.str)) := rfl
    rw [e, ih]
    by_cases h : a = k
    · subst h; simp
    · have h2 : ¬ k = a := fun z => h z.symm
      simp [h, h2, List.mem_cons]
theorem flat_str (ks : List Str) : (ks.map V.str).all flatV = true := by
  rw [List.all_eq_true]; intro v hv
  obtain ⟨x, _, rfl⟩ := List.mem_map.mp hv; rfl
def InnerOk (rs : List Row) : Prop := ∀ r ∈ rs, ∀ p ∈ r.2.2, p.2.1 = ("byte" : Str) ∨ p.2.1 ∈ rkinds rs
section
variable {P : Program} {w : World} {K : PySem.W.Frag} {mg : Str → Option Value} {base : Heap} {fd : FuncData}
/-- three names out of a row -/
abbrev gRow (K : PySem.W.Frag) (i j l : Nat) : TG := gTup K 3 (gCons (gName i) (gCons (gName j) (gCons (gName l) gNil)))
def spCheckInner : Sp := fun vs H Q _ => ∃ (a : Addr) (rs : List Row), vs = [.ref a] ∧ RowsAt H a rs ∧ RowsShort rs ∧ InnerOk rs ∧ ∀ H', Same H H' → Q .non H'
theorem ok_check_inner_kinds (T : Tx K mg) (F : FnP K ("check_inner_kinds", none) "check_inner_kinds" "check_inner_kinds" s_check_inner_kinds fd) : FnOk P w K mg base CX0 1 (He.fAd K ("check_inner_kinds", none)) fd ["rows"] spCheckInner := by
  obtain ⟨tB, mB⟩ := T.c_BYTE
  refine F.ok sc_check_inner_kinds (fun vs H Q E h => ?_) (fun cdv A outer s H vs Q E hr h => ?_)
  · obtain ⟨x, p, rfl, _⟩ := h; rfl
  obtain ⟨a, rs, rfl, ⟨us, ha, al⟩, ⟨n1000, sh⟩, ok, q⟩ := h
  have nd := sc_check_inner_kinds.nd
  refine ⟨_, PSs.nox (pss_cons (ps_setLc (i := 4) (own := [("kind", 1), ("maker", 2), ("parts", 3)]) (g := gRow K 1 2 3) (by rfl) nd rfl rfl (sw_true rfl rfl rfl (by decide +kernel)) (pi_list (pv 0))
      (blkOk_by (N := ["rows", "kind", "maker", "parts", "known", "at", "part"]) (sc := defScope s_check_inner_kinds) (by decide +kernel))
      (fun _ _ _ _ _ => pg_tup rfl (pgs_cons (pg_name (i := 1) nd rfl (Or.inl rfl)) (pgs_cons (pg_name (i := 2) nd rfl (Or.inl rfl)) (pgs_cons (pg_name (i := 3) nd rfl (Or.inl rfl)) pgs_nil)))) (fun _ _ _ _ _ => pts_nil) (fun _ _ _ _ _ => pv 1))
    (pss_one (ps_for PassesOwn.never rfl (pi_enum (by rfl) T.n_enumerate (pa_cons (pv 0) pa_nil))
      (pg_tup rfl (pgs_cons (pg_name (i := 5) nd rfl (.inl rfl)) (pgs_cons (pg_tup rfl (pgs_cons (pg_name (i := 1) nd rfl (.inl rfl)) (pgs_cons (pg_name (i := 2) nd rfl (.inl rfl)) (pgs_cons (pg_name (i := 3) nd rfl (.inl rfl)) pgs_nil)))) pgs_nil)))
      (pss_one (ps_for PassesOwn.never rfl (pi_tup (pv 3)) (pg_name (i := 6) nd rfl (.inl rfl))
        (pss_one (ps_if (PW.pt (pw_and (pt_cmpR op_ne (pe_ix ix_tup (pv 6) pe_int (fun _ _ => rfl)) (pe_glob (v := .str "byte") (by rfl) mB ⟨_, rfl⟩) (nomark _))
          (pw_and1 (pt_cmpR op_notIn_seq (pe_ix ix_tup (pv 6) pe_int (fun _ _ => rfl)) (pv 4) (by rfl))))) (pss_one ps_never) pss_nil))))))), ?_⟩
  refine ⟨_, rfl, a, rfl, ⟨_, .inl (.inl ha)⟩, fun D hD => lc_it (walk_list (K := K) (a := a) (xs := us)) (fun i H2 => Same H H2 ∧ H2 D = some (.lst ((rkinds (rs.take i)).map V.str))) ⟨same_new hD, upd_same⟩ (fun i H2 _ z => .inl (.inl (z.1 _ _ ha))) ?_ ?_⟩
  · rintro i x H2 H3 hi ⟨sm, hDi⟩ ⟨rfl, hx⟩
    obtain ⟨r, hrr, b, u, rfl, hb, pa⟩ := al.get hx
    refine ⟨b, _, rfl, .inl (.inl (sm _ _ hb)), rfl, _, _, rfl, _, _, rfl, _, _, rfl, rfl, rfl, _, rfl, _, hDi, ?_, same_mut sm hD, ?_⟩
    · unfold rkinds; rw [List.length_map, List.length_map, List.length_take]; exact small1000 (by omega)
    · rw [upd_same, rkinds_take_succ hrr, List.map_append] <;> rfl
  · rintro H2 ⟨sm, hDi⟩
    rw [al.1, List.take_length] at hDi
    have s2 : Same H2 H2 := Same.refl _
    refine ⟨_, rfl, a, us, rfl, .inl (.inl (sm _ _ ha)), for_it (walk_enum (K := K) (a := a) (xs := us)) (fun i σ H3 => (∃ v1 v2 v3 v5 v6, σ = [some (.ref a), v1, v2, v3, some (.ref D), v5, v6]) ∧ Same H2 H3) ⟨⟨_, _, _, _, _, rfl⟩, s2⟩ (fun i σ H3 _ z => .inl (.inl (z.2 _ _ (sm _ _ ha)))) ?_ ?_⟩
    · rintro i x σ H3 H4 hi ⟨⟨v1, v2, v3, v5, v6, rfl⟩, s3⟩ ⟨tp, x1, x2, rfl, ntp, rfl, e1, e2⟩
      cases e1
      obtain ⟨r, hrr, b, u, rfl, hb, pa⟩ := al.get e2
      have s4 : Same H2 (upd H3 tp (.tup [.int (i : Nat), .ref b])) := s3.trans (same_new ntp)
      have pa4 : PartsAt (upd H3 tp (.tup [.int (i : Nat), .ref b])) u r.2.2 := pa.mono (tups_of (sm.trans s4))
      obtain ⟨c, ws, rfl, hc, wl⟩ := pa4
      refine ⟨tp, _, rfl, .inl (.inl upd_same), rfl, _, _, rfl, _, _, rfl, ⟨b, _, rfl, .inl (.inl (s4 _ _ (sm _ _ hb))), rfl, _, _, rfl, _, _, rfl, _, _, rfl, rfl, rfl, ?_⟩⟩
      refine ⟨_, rfl, c, rfl, ⟨_, SqT.of hc⟩, for_it (walk_tup (K := K) (a := c) (xs := ws)) (fun j σ H5 => (∃ v1 v2 v5 v6, σ = [some (.ref a), v1, v2, some (.ref c), some (.ref D), v5, v6]) ∧ H5 = upd H3 tp (.tup [.int (i : Nat), .ref b])) ⟨⟨_, _, _, _, rfl⟩, rfl⟩ (fun j σ H5 _ z => by rw [z.2]; exact SqT.of hc) ?_ ?_⟩
      · rintro j y σ H5 H6 hj ⟨⟨v1, v2, v5, v6, rfl⟩, rfl⟩ ⟨rfl, hy⟩
        obtain ⟨p, hp, ppa⟩ := wl.get hy
        obtain ⟨d, xs, rfl, hd, x0, x1⟩ := partAt_ix ppa
        refine ⟨_, rfl, d, _, _, _, rfl, rfl, SqT.of hd, atI_nat (j := 1) x1, rfl, _, rfl, ite2 (fun h1 => ?_) (fun h1 => ⟨⟨_, _, _, _, rfl⟩, rfl⟩)⟩
        have nb : ¬ p.2.1 = ("byte" : Str) := by
          intro z; rw [z] at h1; simp at h1
        have kin : p.2.1 ∈ rkinds rs := (ok r (List.mem_of_getElem? hrr) p (List.mem_of_getElem? hp)).resolve_left nb
        refine ⟨_, rfl, d, _, _, _, rfl, rfl, SqT.of hd, atI_nat (j := 1) x1, _, rfl, D, _, rfl, .inl (SqL.of (s4 _ _ hDi)), rfl, flat_str _, _, rfl, ?_⟩
        rw [inV_strs, decide_eq_true kin]
        exact iteF ⟨⟨_, _, _, _, rfl⟩, rfl⟩
      · rintro σ H5 ⟨⟨v1, v2, v5, v6, rfl⟩, rfl⟩
        exact ⟨⟨_, _, _, _, _, rfl⟩, s4⟩
    · rintro σ H3 ⟨_, s3⟩
      exact q H3 (sm.trans s3)
def spCheckFinite : Sp := fun vs H Q _ => ∃ (a d : Addr) (rs : List Row) (kvs : List (Key × V)) (ks : List Str), vs = [.ref a, .ref d] ∧ RowsAt H a rs ∧ H d = some (.dK kvs) ∧ KD kvs ks TrueR ∧ (∀ r ∈ rs, r.1 ∈ ks) ∧ ∀ H', Same H H' → Q .non H'
theorem ok_check_finite (T : Tx K mg) (F : FnP K ("check_finite", none) "check_finite" "check_finite" s_check_finite fd) : FnOk P w K mg base CX0 1 (He.fAd K ("check_finite", none)) fd ["rows", "least"] spCheckFinite := by
  refine F.ok sc_check_finite (fun vs H Q E h => ?_) (fun cdv A outer s H vs Q E hr h => ?_)
  · obtain ⟨x, p, _, _, _, rfl, _⟩ := h; rfl
  obtain ⟨a, d, rs, kvs, ks, rfl, ⟨us, ha, al⟩, hd, kd, ok, q⟩ := h
  have hu := hu_of hr
  have nd := sc_check_finite.nd
  refine ⟨_, PSs.nox (pss_one (ps_for PassesOwn.never rfl (pi_enum (by rfl) T.n_enumerate (pa_cons (pv 0) pa_nil))
      (pg_tup rfl (pgs_cons (pg_name (i := 2) nd rfl (.inl rfl)) (pgs_cons (pg_tup rfl (pgs_cons (pg_name (i := 3) nd rfl (.inl rfl)) (pgs_cons (pg_name (i := 4) nd rfl (.inl rfl)) (pgs_cons (pg_name (i := 5) nd rfl (.inl rfl)) pgs_nil)))) pgs_nil)))
      (pss_one (ps_if (pt_cmp (pc_dnotin hu (pv 3) (pv 1))) (pss_one ps_never) pss_nil)))), ?_⟩
  refine ⟨_, rfl, a, us, rfl, .inl (.inl ha), for_it (walk_enum (K := K) (a := a) (xs := us)) (fun i σ H3 => (∃ v2 v3 v4 v5, σ = [some (.ref a), some (.ref d), v2, v3, v4, v5]) ∧ Same H H3) ⟨⟨_, _, _, _, rfl⟩, Same.refl _⟩ (fun i σ H3 _ z => .inl (.inl (z.2 _ _ ha))) ?_ ?_⟩
  · rintro i x σ H3 H4 hi ⟨⟨v2, v3, v4, v5, rfl⟩, s3⟩ ⟨tp, x1, x2, rfl, ntp, rfl, e1, e2⟩
    cases e1
    obtain ⟨r, hrr, b, u, rfl, hb, pa⟩ := al.get e2
    have s4 : Same H (upd H3 tp (.tup [.int (i : Nat), .ref b])) := s3.trans (same_new ntp)
    refine ⟨tp, _, rfl, .inl (.inl upd_same), rfl, _, _, rfl, _, _, rfl, ⟨b, _, rfl, .inl (.inl (s4 _ _ hb)), rfl, _, _, rfl, _, _, rfl, _, _, rfl, rfl, rfl, ?_⟩⟩
    refine ⟨_, rfl, _, rfl, d, _, rfl, DGet.k (k := Sum.inr r.1) (s4 _ _ hd), _, rfl, ?_⟩
    rw [kd.isSome, decide_eq_true (ok r (List.mem_of_getElem? hrr))]
    exact iteF ⟨⟨_, _, _, _, rfl⟩, s4⟩
  · rintro σ H3 ⟨_, s3⟩
    exact q H3 s3
end
end Bg
set_option Elab.async false
set_option linter.all false
set_option maxRecDepth 100000
set_option maxHeartbeats 4000000
namespace Bg
open PySem PySem.Spec PyProof.Rows L2
def makersOf (rs : List Row) (k : Str) : List Str := (rs.filter fun r => decide (r.1 = k)).map fun r => r.2.1
theorem makersOf_snoc (rs : List Row) (r : Row) (k : Str) : makersOf (rs ++ [r]) k = makersOf rs k ++ (if r.1 = k then [r.2.1] else []) := by
  unfold makersOf
  rw [List.filter_append, List.map_append]
  by_cases h : r.1 = k
  · simp [h]
  · simp [h]
theorem makersOf_ne {rs : List Row} {k : Str} (h : k ∈ rkinds rs) : makersOf rs k ≠ [] := by
  unfold rkinds at h
  obtain ⟨r, hr, e⟩ := List.mem_map.mp h
  unfold makersOf
  intro z
  have : r ∈ rs.filter fun r => decide (r.1 = k) := List.mem_filter.mpr ⟨hr, by simp [e]⟩
  have z2 := List.map_eq_nil_iff.mp z
  rw [z2] at this; cases this
theorem makersOf_nil {rs : List Row} {k : Str} (h : k ∉ rkinds rs) : makersOf rs k = [] := by
  unfold makersOf
  rw [List.map_eq_nil_iff, List.filter_eq_nil_iff]
  intro r hr z
  exact h (List.mem_map.mpr ⟨r, hr, by simpa using z⟩)
theorem makersOf_len (rs : List Row) (k : Str) : (makersOf rs k).length ≤ rs.length := by
  unfold makersOf; rw [List.length_map]; exact List.length_filter_le _ _
/-- a text's tuple -/
def TextsAt (H : Hp) (v : V) (ks : List Str) : Prop := ∃ t o, v = .ref t ∧ o.dict = none ∧ H t = some (.frz o (.tup (ks.map V.str)))
theorem TextsAt.mono {H H' : Hp} (t : Tups H H') {v : V} {ks : List Str} (h : TextsAt H v ks) : TextsAt H' v ks := by
  obtain ⟨a, o, e, d, x⟩ := h; exact ⟨a, o, e, d, t _ _ trivial x⟩
theorem sqT_frz {K : PySem.W.Frag} {H : Hp} {a : Addr} {o : Obj} {xs : List V} (h : H a = some (.frz o (.tup xs))) : SqT K H a xs := .inl (.inr ⟨o, h⟩)
/-! ### tuples whose object is told, for their methods -/
section
variable {X : Cx} {es : List Expr} {pos : Pos} {t : TA}
def tTupF (t : TA) : TE := fun σ H Q => t σ H fun xs H1 => xs.length ≤ sizeLine ∧ ∀ (p : Addr) (o : Obj), H1 p = none → o.dict = none → Q (.ref p) (upd H1 p (.frz o (.tup xs)))
theorem pe_tupF {x1} (h : PA X es t) : PE X (.Tuple es x1 pos) (tTupF t) := by
  constructor
  intro pins s σ H Q I hq
  refine wpAny_Tuple_spliced (thn (h.run pos pins s σ H _ I hq) fun us s1 got => ?_)
  obtain ⟨xs, H1, I1, r, z, q⟩ := got
  refine ⟨by rw [← r.length]; exact z, .ref s1.heap.objs.size, _, I1.laid (t' := s1.toks) (o := .frz { cls := .type "tuple", data := .seq us.toArray } (.tup xs)) (fun b u e => Heap.get?_push_of_some _ e) (Nat.le_refl _) ?told, rfl, q _ _ (I1.hok.fresh (Nat.le_refl _)) ?bare⟩
  case told => exact ⟨Heap.get?_push_size _ rfl, z, us, r, IsTup.new _ _⟩
  case bare => rfl
def rCatF (K : PySem.W.Frag) : R2 := fun x y H Q => ∃ a b xs ys, x = .ref a ∧ y = .ref b ∧ SqT K H a xs ∧ SqT K H b ys ∧ xs.length + ys.length ≤ sizeLine ∧ ys ≠ [] ∧
  (xs = [] → Q (.ref b) H) ∧ (xs ≠ [] → ∀ (p : Addr) (o : Obj), H p = none → o.dict = none → Q (.ref p) (upd H p (.frz o (.tup (xs ++ ys)))))
theorem op_catF : OpR X (binaryOp .Add) (rCatF X.K) := by
  intro pins s σ H x y v u Q I rx ry h
  obtain ⟨a, b, xs, ys, rfl, rfl, ha, hb, hz, hy, q0, q2⟩ := h
  by_cases hx : xs = []
  · exact op_catA pins s σ H _ _ v u Q I rx ry ⟨a, b, xs, ys, rfl, rfl, ha, hb, hz, q0, fun z => absurd hx z, fun z => absurd hx z⟩
  · cases rx
    cases ry
    obtain ⟨its, r1, p1, _⟩ := I.tuple ha
    obtain ⟨its2, r2, p2, _⟩ := I.tuple hb
    refine HT.cat_tup p1 p2 (fun z => hx (r1.nil_iff.mp z)) (fun z => absurd (r2.nil_iff.mp z) hy) (fun z => ?_) (by rw [← r1.length, ← r2.length]; exact hz)
    refine ⟨.ref s.heap.objs.size, _, I.laid (t' := s.toks) (o := .frz { cls := .type "tuple", data := .seq (its ++ its2).toArray } (.tup (xs ++ ys))) (fun b ob q => Heap.get?_push_of_some _ q) (Nat.le_refl _) ?told, rfl, q2 hx _ _ (I.hok.fresh (Nat.le_refl _)) ?bare⟩
    case told => exact ⟨Heap.get?_push_size _ rfl, by rw [List.length_append]; exact hz, _, r1.append r2, IsTup.new _ _⟩
    case bare => rfl
def tTM1 (r : V → List V → Hp → VK → Prop) (to te : TE) : TE := fun σ H Q => to σ H fun x H1 => (∃ a o xs, x = .ref a ∧ o.dict = none ∧ H1 a = some (.frz o (.tup xs))) ∧ te σ H1 fun y H2 => r x [y] H2 Q
/-- t.m(e), t a tuple whose object is told -/
theorem pe_tm1 {o e : Expr} {to te : TE} {id : String} {name : Str} {apos pos : Pos} {r : V → List V → Hp → VK → Prop} (slot : Slot "tuple" name id) (ty : typeOf (.builtin id) = pure (.type "method_descriptor")) (rule : MtR X id r) (ho : PE X o to) (he : PE X e te)
    (hs : starEach [e] X.env = [(false, eval e X.env)] := by rfl) (hbase : attributeBase o name X.env (eval o X.env) = eval o X.env := by rfl) (hline : (apos.endLine == pos.line) = true := by rfl) :
    PE X (.Call (.Attribute o name apos) [e] [] pos) (tTM1 r to te) := by
  constructor
  intro pins s σ H Q I h
  refine PySem.Call_method1 hbase hs hline (thn (ho.run pins s σ H _ I h) fun v s1 got => ?_)
  obtain ⟨x, H1, I1, r1, ⟨a, ob, xs, rfl, hd, hx⟩, q1⟩ := got
  cases r1
  obtain ⟨e1, _, its, _, t0⟩ := I1.hok a _ hx
  refine ⟨"tuple", id, PySem.F.plainAttrs_tuple, slot, ty, t0.typeIs, fun c e => by cases e; exact ⟨ob, e1, hd⟩, Calls.callWith_builtin rfl (Calls.evalArgs_plain (Calls.spliced_cons ?_))⟩
  exact thn (he.run pins s1 σ H1 _ I1 q1) fun u s2 got => by
    obtain ⟨y, H2, I2, r2, q2⟩ := got
    exact Calls.spliced_nil (rule pins s2 σ H2 (.ref a) [y] _ [u] Q I2 rfl (.cons r2 .nil) q2)
end
def MkD (H : Hp) (kvs : List (Key × V)) (rs : List Row) : Prop := KD kvs (distinct (rkinds rs)) fun k v => TextsAt H v (makersOf rs k)
theorem MkD.mono {H H' : Hp} (t : Tups H H') {kvs : List (Key × V)} {rs : List Row} (h : MkD H kvs rs) : MkD H' kvs rs := KD.mono h fun _ _ z => z.mono t
def holdOf : Part → Str × Int
  | (_, _, none) => ("byte", 0)
  | (_, k, some c) => (k, c)
def HoldAt (H : Hp) (v : V) (p : Part) : Prop := ∃ t, v = .ref t ∧ H t = some (.tup [.str (holdOf p).1, .int (holdOf p).2])
def HoldD (H : Hp) (kvs : List (Key × V)) (ps : List Part) : Prop := KD kvs (distinct (ps.map (·.1))) fun n v => ∃ p ∈ ps, p.1 = n ∧ HoldAt H v p
theorem HoldD.mono {H H' : Hp} (t : Tups H H') {kvs : List (Key × V)} {ps : List Part} (h : HoldD H kvs ps) : HoldD H' kvs ps := KD.mono h fun _ _ z => by
  obtain ⟨p, m, e, a, x, y⟩ := z; exact ⟨p, m, e, a, x, t _ _ trivial y⟩
section
variable {P : Program} {w : World} {K : PySem.W.Frag} {mg : Str → Option Value} {base : Heap} {fd : FuncData}
def spMakersBy : Sp := fun vs H Q _ => ∃ (a : Addr) (rs : List Row), vs = [.ref a] ∧ RowsAt H a rs ∧ rs.length ≤ 1000 ∧ ∀ d kvs H', Same H H' → H d = none → H' d = some (.dK kvs) → MkD H' kvs rs → Q (.ref d) H'
theorem ok_makers_by_kind (T : Tx K mg) (F : FnP K ("makers_by_kind", none) "makers_by_kind" "makers_by_kind" s_makers_by_kind fd) : FnOk P w K mg base CX0 1 (He.fAd K ("makers_by_kind", none)) fd ["rows"] spMakersBy := by
  refine F.ok sc_makers_by_kind (fun vs H Q E h => ?_) (fun cdv A outer s H vs Q E hr h => ?_)
  · obtain ⟨x, p, rfl, _⟩ := h; rfl
  obtain ⟨a, rs, rfl, ⟨us, ha, al⟩, n1000, q⟩ := h
  have hu := hu_of hr
  have nd := sc_makers_by_kind.nd
  refine ⟨_, PSs.nox (pss_cons (ps_set (i := 1) nd rfl (.inl rfl) pe_dnewK)
    (pss_cons (ps_for PassesOwn.never rfl (pi_list (pv 0)) (pg_tup rfl (pgs_cons (pg_name (i := 2) nd rfl (.inl rfl)) (pgs_cons (pg_name (i := 3) nd rfl (.inl rfl)) (pgs_cons (pg_name (i := 4) nd rfl (.inl rfl)) pgs_nil))))
      (pss_one (ps_dput hu (pv 1) (pv 2) (pe_op op_catF (pe_dget2 hu (pv 1) (pv 2) (pe_tup pa_nil) ⟨rfl, rfl, rfl, rfl⟩) (pe_tupF (pa_cons (pv 3) pa_nil))) rfl)))
    (pss_one (ps_ret (pv 1))))), ?_⟩
  intro d hd
  refine ⟨_, rfl, a, rfl, ⟨_, .inl (.inl ((same_new hd) _ _ ha))⟩, for_it (walk_list (K := K) (a := a) (xs := us)) (fun i σ H2 => (∃ v2 v3 v4, σ = [some (.ref a), some (.ref d), v2, v3, v4]) ∧ Same H H2 ∧ ∃ kvs, H2 d = some (.dK kvs) ∧ MkD H2 kvs (rs.take i))
    ⟨⟨_, _, _, rfl⟩, same_new hd, [], upd_same, KD.nil⟩ (fun i σ H2 _ z => .inl (.inl (z.2.1 _ _ ha))) ?_ ?_⟩
  · rintro i x σ H2 H3 hi ⟨⟨v2, v3, v4, rfl⟩, sm, kvs, hk, kd⟩ ⟨rfl, hx⟩
    obtain ⟨r, hrr, b, u, rfl, hb, pa⟩ := al.get hx
    refine ⟨b, _, rfl, .inl (.inl (sm _ _ hb)), rfl, _, _, rfl, _, _, rfl, _, _, rfl, rfl, ?_⟩
    refine ⟨_, rfl, d, rfl, .inl ⟨kvs, .inl hk⟩, _, rfl, Nat.zero_le _, fun e he => ?_⟩
    have hk2 : (upd H3 e (.tup [])) d = some (.dK kvs) := (same_new he) _ _ hk
    refine ⟨_, DGet.k (k := Sum.inr r.1) hk2, ?_⟩
    refine ⟨_, rfl, (by show 1 ≤ sizeLine; decide), fun f fo hf hfo => ?_⟩
    have s2 : Same H3 (upd (upd H3 e (.tup [])) f (.frz fo (.tup [.str r.2.1]))) := (same_new he).trans (same_new hf)
    have hk3 := s2 _ _ hk
    have kl : kvs.length ≤ 1000 := by
      rw [kd.length]
      have := length_distinct (rkinds (rs.take i))
      unfold rkinds at this
      rw [List.length_map, List.length_take] at this
      unfold rkinds; omega
    have done : ∀ (H5 : Hp) (v : V), Same H3 H5 → TextsAt H5 v (makersOf (rs.take (i + 1)) r.1) → ∃ kvs', (upd H5 d (.dK (putK kvs (Sum.inr r.1) v))) d = some (.dK kvs') ∧ MkD (upd H5 d (.dK (putK kvs (Sum.inr r.1) v))) kvs' (rs.take (i + 1)) := by
      intro H5 v s5 hv
      have tp : Tups H5 (upd H5 d (.dK (putK kvs (Sum.inr r.1) v))) := tups_upd fun u f z => by rw [s5 _ _ hk] at z; cases z; exact f
      refine ⟨_, upd_same, ?_⟩
      have z := KD.put (k := r.1) (v := v) (R' := fun k v' => TextsAt (upd H5 d (.dK (putK kvs (Sum.inr r.1) v))) v' (makersOf (rs.take (i + 1)) k)) (kd.mono (tups_of s5)) (fun j u hj hu => ?_) (hv.mono tp)
      · rw [← distinct_snoc, ← rkinds_take_succ hrr] at z; exact z
      · rw [take_succ_of hrr, makersOf_snoc, if_neg (fun z => hj z.symm), List.append_nil]
        exact TextsAt.mono tp hu
    by_cases hin : r.1 ∈ rkinds (rs.take i)
    · obtain ⟨v, e1, t, to, rfl, hto, ht⟩ := kd.some (mem_distinct.mpr hin)
      rw [e1]
      have ne : (makersOf (rs.take i) r.1).map V.str ≠ [] := fun z => makersOf_ne hin (List.map_eq_nil_iff.mp z)
      refine ⟨t, f, _, _, rfl, rfl, sqT_frz (s2 _ _ ht), sqT_frz upd_same, ?_, by simp, fun z => absurd z ne, fun _ p po hp hpo => ?_⟩
      · have := makersOf_len (rs.take i) r.1
        rw [List.length_map]
        rw [List.length_take] at this
        exact sz_of (by show _ + 1 ≤ _; omega)
      have s5 := s2.trans (same_new (o := .frz po (.tup ((makersOf (rs.take i) r.1).map V.str ++ [.str r.2.1]))) hp)
      refine ⟨_, rfl, _, rfl, d, _, rfl, DPut.k (k := Sum.inr r.1) (s5 _ _ hk) (small1000 kl), ⟨_, _, _, rfl⟩, same_mut (sm.trans s5) hd, ?_⟩
      refine done _ _ s5 ⟨p, po, rfl, hpo, ?_⟩
      rw [upd_same, take_succ_of hrr, makersOf_snoc, if_pos rfl, List.map_append] <;> rfl
    · rw [kd.none (fun z => hin (mem_distinct.mp z))]
      refine ⟨e, f, [], _, rfl, rfl, SqT.of ((same_new hf) _ _ upd_same), sqT_frz upd_same, (by show 1 ≤ sizeLine; decide), by simp, fun _ => ?_, fun z => absurd rfl z⟩
      refine ⟨_, rfl, _, rfl, d, _, rfl, DPut.k (k := Sum.inr r.1) hk3 (small1000 kl), ⟨_, _, _, rfl⟩, same_mut (sm.trans s2) hd, ?_⟩
      refine done _ _ s2 ⟨f, fo, rfl, hfo, ?_⟩
      rw [upd_same, take_succ_of hrr, makersOf_snoc, if_pos rfl, makersOf_nil hin] <;> rfl
  · rintro σ H2 ⟨⟨v2, v3, v4, rfl⟩, sm, kvs, hk, kd⟩
    rw [al.1, List.take_length] at kd
    exact ⟨_, rfl, q d kvs H2 sm hd hk kd⟩
abbrev rLenQ (K : PySem.W.Frag) : List V → Hp → VK → Prop := fun xs H Q => ∃ p ys, xs = [V.ref p] ∧ (SqL K H p ys ∨ SqT K H p ys) ∧ Q (.int ys.length) H
def spHoldings : Sp := fun vs H Q _ => ∃ (v : V) (ps : List Part), vs = [v] ∧ PartsAt H v ps ∧ ps.length ≤ 1000 ∧ ∀ d kvs H', Same H H' → H d = none → H' d = some (.dK kvs) → HoldD H' kvs ps → Q (.ref d) H'
theorem ok_holdings (T : Tx K mg) (F : FnP K ("holdings", none) "holdings" "holdings" s_holdings fd) : FnOk P w K mg base CX0 1 (He.fAd K ("holdings", none)) fd ["parts"] spHoldings := by
  obtain ⟨tB, mB⟩ := T.c_BYTE
  refine F.ok sc_holdings (fun vs H Q E h => ?_) (fun cdv A outer s H vs Q E hr h => ?_)
  · obtain ⟨x, p, rfl, _⟩ := h; rfl
  obtain ⟨v, ps, rfl, ⟨a, us, rfl, ha, al⟩, n1000, q⟩ := h
  have nd := sc_holdings.nd
  refine ⟨_, PSs.nox (pss_one (ps_ret (pe_dc (own := [("part", 1)]) (g := gName 1) rfl nd (pi_tup (pv 0)) (blkOk_by (N := ["parts", "part"]) (sc := defScope s_holdings) (by decide +kernel)) (fun _ _ _ _ _ => pg_name (i := 1) nd rfl (Or.inl rfl)) (fun _ _ _ _ _ => pts_nil)
    (fun _ _ _ _ _ => pe_ix (r := rIxT K) ix_tup (pv 1) pe_int (fun _ _ => rfl))
    (fun _ _ _ _ _ => pe_ifExp (pt_cmpR op_eq (pe_callB (r := rLenQ K) call_len_seq (by rfl) T.n_len PySem.boot_len (pa_cons (pv 1) pa_nil)) pe_int (nomark _))
      (pe_slice (r := rSlA K) sl_tupA (pv 1) (po_some pe_int) po_none) (pe_tup (pa_cons (pe_glob (v := .str "byte") (by rfl) mB ⟨_, rfl⟩) (pa_cons pe_int pa_nil))))))), ?_⟩
  refine ⟨_, rfl, a, rfl, ⟨_, SqT.of ha⟩, fun D hD => dc_it (walk_tup (K := K) (a := a) (xs := us)) (fun i H2 => Same H H2 ∧ ∃ kvs, H2 D = some (.dK kvs) ∧ HoldD H2 kvs (ps.take i)) ⟨same_new hD, [], upd_same, KD.nil⟩ (fun i H2 _ z => SqT.of (z.1 _ _ ha)) ?_ ?_⟩
  · rintro i x H2 H3 hi ⟨sm, kvs, hk, kd⟩ ⟨rfl, hx⟩
    obtain ⟨⟨n, kd', c⟩, hp, b, rfl, hb⟩ := al.get hx
    have kl : kvs.length ≤ 1000 := by
      rw [kd.length]
      have := length_distinct ((ps.take i).map (·.1))
      rw [List.length_map, List.length_take] at this
      omega
    have done : ∀ (H5 : Hp) (v : V), Same H3 H5 → HoldAt H5 v (n, kd', c) → ∃ kvs', (upd H5 D (.dK (putK kvs (Sum.inr n) v))) D = some (.dK kvs') ∧ HoldD (upd H5 D (.dK (putK kvs (Sum.inr n) v))) kvs' (ps.take (i + 1)) := by
      intro H5 v s5 hv
      have tp : Tups H5 (upd H5 D (.dK (putK kvs (Sum.inr n) v))) := tups_upd fun u f z => by rw [s5 _ _ hk] at z; cases z; exact f
      refine ⟨_, upd_same, ?_⟩
      have z := KD.put (k := n) (v := v) (R' := fun n' v' => ∃ p ∈ ps.take (i + 1), p.1 = n' ∧ HoldAt (upd H5 D (.dK (putK kvs (Sum.inr n) v))) v' p) (kd.mono (tups_of s5)) (fun j u hj hu => ?_) ?_
      · have e : (ps.take (i + 1)).map (·.1) = (ps.take i).map (·.1) ++ [n] := by rw [take_succ_of hp, List.map_append]; rfl
        unfold HoldD
        rw [e, distinct_snoc]; exact z
      · obtain ⟨p, m, e, t, rfl, ht⟩ := hu
        exact ⟨p, by rw [take_succ_of hp]; exact List.mem_append_left _ m, e, t, rfl, tp _ _ trivial ht⟩
      · obtain ⟨t, rfl, ht⟩ := hv
        exact ⟨_, by rw [take_succ_of hp]; exact List.mem_append_right _ (List.mem_singleton.mpr rfl), rfl, t, rfl, tp _ _ trivial ht⟩
    have sb := sm _ _ hb
    cases c with
    | none =>
      refine ⟨rfl, _, rfl, b, _, _, _, rfl, rfl, SqT.of sb, atI_nat (j := 0) rfl, _, rfl, b, _, rfl, .inr (SqT.of sb), rfl, _, rfl, iteF ⟨by show 2 ≤ sizeLine; decide, fun p hp' => ⟨kvs, Sum.inr n, rfl, (same_new hp') _ _ hk, small1000 kl, same_mut (sm.trans (same_new hp')) hD, done _ _ (same_new hp') ⟨p, rfl, upd_same⟩⟩⟩⟩
    | some c =>
      refine ⟨rfl, _, rfl, b, _, _, _, rfl, rfl, SqT.of sb, atI_nat (j := 0) rfl, _, rfl, b, _, rfl, .inr (SqT.of sb), rfl, _, rfl, iteT ⟨_, rfl, _, rfl, b, _, rfl, SqT.of sb, fun z => absurd (show HT.sIx 3 0 (some 1) = 0 from z.1) (by decide), fun _ p hp' => ⟨kvs, Sum.inr n, rfl, (same_new hp') _ _ hk, small1000 kl, same_mut (sm.trans (same_new hp')) hD, done _ _ (same_new hp') ⟨p, rfl, ?_⟩⟩⟩⟩
      rw [upd_same] <;> rfl
  · rintro H2 ⟨sm, kvs, hk, kd⟩
    rw [al.1, List.take_length] at kd
    exact q D kvs H2 sm hD hk kd
end
end Bg
set_option Elab.async false
set_option linter.all false
set_option maxRecDepth 100000
set_option maxHeartbeats 4000000
namespace Bg
open PySem PySem.Spec PyProof.Rows L2
/-! ### data of tuples, texts, ints -/
mutual
inductive Td (H : Hp) : V → PyData → Prop
  | bl (b : Bool) : Td H (.bl b) (.bool b)
  | int (i : Int) : Td H (.int i) (.int i)
  | str (x : Str) : Td H (.str x) (.str x)
  | tup {a : Addr} {xs : List V} {ds : List PyData} (e : H a = some (.tup xs)) (h : TdAll H xs ds) : Td H (.ref a) (.tuple ds)
inductive TdAll (H : Hp) : List V → List PyData → Prop
  | nil : TdAll H [] []
  | cons {v : V} {vs : List V} {d : PyData} {ds : List PyData} (h : Td H v d) (r : TdAll H vs ds) : TdAll H (v :: vs) (d :: ds)
end
mutual
theorem Td.mono {H H' : Hp} (t : Tups H H') : ∀ {v : V} {d : PyData}, Td H v d → Td H' v d
  | _, _, .bl b => .bl b
  | _, _, .int i => .int i
  | _, _, .str x => .str x
  | _, _, .tup e h => .tup (t _ _ trivial e) (TdAll.mono t h)
theorem TdAll.mono {H H' : Hp} (t : Tups H H') : ∀ {vs : List V} {ds : List PyData}, TdAll H vs ds → TdAll H' vs ds
  | _, _, .nil => .nil
  | _, _, .cons h r => .cons (Td.mono t h) (TdAll.mono t r)
end
mutual
theorem Td.dp {K : PySem.W.Frag} {H : Hp} : ∀ {v : V} {d : PyData}, Td H v d → Dp K H v d
  | _, _, .bl b => .bl b
  | _, _, .int i => .int i
  | _, _, .str x => .str x
  | _, _, .tup e h => .tup (SqT.of e) (TdAll.dp h)
theorem TdAll.dp {K : PySem.W.Frag} {H : Hp} : ∀ {vs : List V} {ds : List PyData}, TdAll H vs ds → DpAll K H vs ds
  | _, _, .nil => .nil
  | _, _, .cons h r => .cons (Td.dp h) (TdAll.dp r)
end
theorem TdAll.snoc {H : Hp} : ∀ {vs : List V} {ds : List PyData} {v : V} {d : PyData}, TdAll H vs ds → Td H v d → TdAll H (vs ++ [v]) (ds ++ [d])
  | _, _, _, _, .nil, h => .cons h .nil
  | _, _, _, _, .cons a r, h => .cons a (TdAll.snoc r h)
theorem TdAll.length {H : Hp} : ∀ {vs : List V} {ds : List PyData}, TdAll H vs ds → vs.length = ds.length
  | _, _, .nil => rfl
  | _, _, .cons _ r => congrArg Nat.succ (TdAll.length r)
/-! ### a least tree: its plain row, the tree -/
abbrev Ent := List Int × PyData
def EntAt (H : Hp) (v : V) (e : Ent) : Prop := ∃ t l tr, v = .ref t ∧ H t = some (.tup [.int (e.1.length : Nat), .ref l, tr]) ∧ H l = some (.lst (e.1.map V.int)) ∧ Td H tr e.2
theorem EntAt.mono {H H' : Hp} (s : Same H H') {v : V} {e : Ent} (h : EntAt H v e) : EntAt H' v e := by
  obtain ⟨t, l, tr, a, b, c, d⟩ := h
  exact ⟨t, l, tr, a, s _ _ b, s _ _ c, d.mono (tups_of s)⟩
def LeastD (H : Hp) (kvs : List (Key × V)) (ks : List Str) (L : Str → Ent) : Prop := KD kvs ks fun k v => EntAt H v (L k)
def nodeGo (ks : List Str) (L : Str → Ent) : List Part → List Int → List PyData → Option (List Int × List PyData)
  | [], row, ts => some (row, ts)
  | p :: ps, row, ts => if p.2.1 = ("byte" : Str) then nodeGo ks L ps (row ++ [0]) (ts ++ [.int 0]) else
    if p.2.1 ∈ ks then nodeGo ks L ps (row ++ (L p.2.1).1) (ts ++ [(L p.2.1).2]) else none
def nodeOf (ks : List Str) (L : Str → Ent) (tag : Int) (m : Str) (ps : List Part) : Option Ent := (nodeGo ks L ps [tag] [.str m]).map fun z => (z.1, .tuple z.2)
def NodeAt (H : Hp) (v : V) : Option Ent → Prop
  | none => v = .non
  | some e => EntAt H v e
section
variable {P : Program} {w : World} {K : PySem.W.Frag} {mg : Str → Option Value} {base : Heap} {fd : FuncData}
def spLeastNode : Sp := fun vs H Q _ => ∃ (tag : Int) (m : Str) (v : V) (d : Addr) (ps : List Part) (kvs : List (Key × V)) (ks : List Str) (L : Str → Ent), vs = [.int tag, .str m, v, .ref d] ∧ PartsAt H v ps ∧ ps.length ≤ 4 ∧ H d = some (.dK kvs) ∧ LeastD H kvs ks L ∧
  (∀ k ∈ ks, (L k).1.length ≤ 10000) ∧ ∀ r H', Same H H' → NodeAt H' r (nodeOf ks L tag m ps) → Q r H'
theorem ok_least_node (T : Tx K mg) (F : FnP K ("least_node", none) "least_node" "least_node" s_least_node fd) : FnOk P w K mg base CX0 1 (He.fAd K ("least_node", none)) fd ["tag", "maker", "parts", "least"] spLeastNode := by
  obtain ⟨tB, mB⟩ := T.c_BYTE
  refine F.ok sc_least_node (fun vs H Q E h => ?_) (fun cdv A outer s H vs Q E hr h => ?_)
  · obtain ⟨_, _, _, _, _, _, _, _, rfl, _⟩ := h; rfl
  obtain ⟨tag, m, v, d, ps, kvs, ks, L, rfl, ⟨a, us, rfl, ha, al⟩, n4, hd, kd, bd, q⟩ := h
  have hu := hu_of hr
  have nd := sc_least_node.nd
  refine ⟨_, PSs.nox (pss_cons (ps_set (i := 4) nd rfl (.inl rfl) (pe_lst (pa_cons (pv 0) pa_nil))) (pss_cons (ps_set (i := 5) nd rfl (.inl rfl) (pe_lst (pa_cons (pv 1) pa_nil)))
    (pss_cons (ps_for PassesOwn.never rfl (pi_tup (pv 2)) (pg_name (i := 6) nd rfl (.inl rfl))
      (pss_one (ps_if (pt_cmpR op_eq (pe_ix ix_tup (pv 6) pe_int (fun _ _ => rfl)) (pe_glob (v := .str "byte") (by rfl) mB ⟨_, rfl⟩) (nomark _))
        (pss_cons (ps_expr (pe_bm PySem.F.plainAttrs_list PySem.F.slot_list_append PySem.F.type_list_append mt_append (pv 4) (pa_cons pe_int pa_nil)))
          (pss_one (ps_expr (pe_bm PySem.F.plainAttrs_list PySem.F.slot_list_append PySem.F.type_list_append mt_append (pv 5) (pa_cons pe_int pa_nil)))))
        (pss_one (ps_if (pt_cmp (pc_din hu (pe_ix ix_tup (pv 6) pe_int (fun _ _ => rfl)) (pv 3)))
          (pss_cons (ps_expr (pe_bm PySem.F.plainAttrs_list PySem.F.slot_list_extend PySem.F.type_list_extend mt_extend (pv 4) (pa_cons (pe_ix ix_tup (pe_dget hu (pv 3) (pe_ix ix_tup (pv 6) pe_int (fun _ _ => rfl)) (fun _ _ => rfl)) pe_int (fun _ _ => rfl)) pa_nil)))
            (pss_one (ps_expr (pe_bm PySem.F.plainAttrs_list PySem.F.slot_list_append PySem.F.type_list_append mt_append (pv 5) (pa_cons (pe_ix ix_tup (pe_dget hu (pv 3) (pe_ix ix_tup (pv 6) pe_int (fun _ _ => rfl)) (fun _ _ => rfl)) pe_int (fun _ _ => rfl)) pa_nil)))))
          (pss_one (ps_ret pe_non)))))))
    (pss_one (ps_ret (pe_tup (pa_cons (pe_callB call_len_seq (by rfl) T.n_len PySem.boot_len (pa_cons (pv 4) pa_nil)) (pa_cons (pv 4) (pa_cons (pe_callTy call_tuple_of (by rfl) T.n_tuple (by decide +kernel) (pa_cons (pv 5) pa_nil)) pa_nil))))))))), ?_⟩
  refine ⟨_, rfl, (by show 1 ≤ sizeLine; decide), fun rw' hrw => ⟨_, rfl, (by show 1 ≤ sizeLine; decide), fun tw htw => ?_⟩⟩
  have htw0 : H tw = none := (same_new hrw).free htw
  have kne : rw' ≠ tw := ne_of_none upd_same htw
  have s1 : Same H (upd (upd H rw' (.lst [.int tag])) tw (.lst [.str m])) := (same_new hrw).trans (same_new htw)
  refine ⟨_, rfl, a, rfl, ⟨_, SqT.of (s1 _ _ ha)⟩, for_it (walk_tup (K := K) (a := a) (xs := us)) (fun i σ H2 => (∃ v6, σ = [some (.int tag), some (.str m), some (.ref a), some (.ref d), some (.ref rw'), some (.ref tw), v6]) ∧ Same H H2 ∧
    ∃ row ts vs, H2 rw' = some (.lst (row.map V.int)) ∧ H2 tw = some (.lst vs) ∧ TdAll H2 vs ts ∧ row.length ≤ 1 + i * 10000 ∧ vs.length = 1 + i ∧ nodeGo ks L ps [tag] [.str m] = nodeGo ks L (ps.drop i) row ts) ?_ (fun i σ H2 _ z => SqT.of (z.2.1 _ _ ha)) ?_ ?_⟩
  · exact ⟨⟨_, rfl⟩, s1, [tag], [.str m], [.str m], by rw [upd_ne kne, upd_same] <;> rfl, upd_same, .cons (.str m) .nil, by show 1 ≤ _; omega, rfl, rfl⟩
  · rintro i x σ H2 H3 hi ⟨⟨v6, rfl⟩, sm, row, ts, ws, hR, hT, td, lr, lw, eq⟩ ⟨rfl, hx⟩
    obtain ⟨p, hp, pa⟩ := al.get hx
    have lti : i < ps.length := (List.getElem?_eq_some_iff.mp hp).1
    have ed : ps.drop i = p :: ps.drop (i + 1) := by
      rw [List.drop_eq_getElem_cons lti]
      have := List.getElem?_eq_getElem lti
      rw [hp] at this; rw [← Option.some.inj this]
    rw [ed] at eq
    have l1 : row.length ≤ 50000 := by omega
    obtain ⟨b, xs, rfl, hb, x0, x1⟩ := partAt_ix (pa.mono (tups_of sm))
    refine ⟨_, rfl, b, _, _, _, rfl, rfl, SqT.of hb, atI_nat (j := 1) x1, rfl, _, rfl, ite2 (fun h1 => ?_) (fun h1 => ?_)⟩
    · have eb : p.2.1 = ("byte" : Str) := by simpa using h1
      refine ⟨_, rfl, .inl ⟨rfl, _, SqL.of hR⟩, rw', _, _, rfl, rfl, hR, (by rw [List.length_map]; exact sz_lt (by omega)), ?_⟩
      have hT2 : (upd H3 rw' (.lst (row.map V.int ++ [.int 0]))) tw = some (.lst ws) := by rw [upd_ne kne.symm]; exact hT
      refine ⟨_, rfl, .inl ⟨rfl, _, SqL.of hT2⟩, tw, _, _, rfl, rfl, hT2, (by exact small1000 (by omega)), ⟨_, rfl⟩, same_mut (same_mut sm hrw) htw0, row ++ [0], ts ++ [.int 0], ws ++ [.int 0], ?_, upd_same, ?_, ?_, ?_, ?_⟩
      · rw [upd_ne kne, upd_same, List.map_append] <;> rfl
      · refine TdAll.snoc (TdAll.mono (Tups.trans (tups_upd fun u f z => by rw [hR] at z; cases z; exact f) (tups_upd fun u f z => by rw [hT2] at z; cases z; exact f)) td) (.int 0)
      · rw [List.length_append, List.length_singleton]; omega
      · rw [List.length_append, List.length_singleton]; omega
      · rw [eq]
        show (if p.2.1 = _ then _ else _) = _
        rw [if_pos eb]
    · have eb : ¬ p.2.1 = ("byte" : Str) := by simpa using h1
      have hd3 := sm _ _ hd
      refine ⟨_, rfl, b, _, _, _, rfl, rfl, SqT.of hb, atI_nat (j := 1) x1, _, rfl, d, _, rfl, DGet.k (k := Sum.inr p.2.1) hd3, _, rfl, ?_⟩
      rw [KD.isSome kd]
      refine ite2 (fun h2 => ?_) (fun h2 => ?_)
      · have ek : p.2.1 ∈ ks := of_decide_eq_true h2
        obtain ⟨v, ev, t, l, tr, rfl, ht, hl, htr⟩ := KD.some kd ek
        have ht3 := sm _ _ ht
        have hl3 := sm _ _ hl
        have nlr : l ≠ rw' := ne_of_none hl hrw
        refine ⟨_, rfl, .inl ⟨rfl, _, SqL.of hR⟩, _, rfl, _, rfl, b, _, _, _, rfl, rfl, SqT.of hb, atI_nat (j := 1) x1, d, _, rfl, (by rw [← ev]; exact DGet.k (k := Sum.inr p.2.1) hd3), t, _, _, _, rfl, rfl, SqT.of ht3, atI_nat (j := 1) rfl, rw', l, _, _, rfl, rfl, hR, hl3, ?_, ?_⟩
        · rw [List.length_map, List.length_map]; have := bd _ ek; exact sz_of (by omega)
        have tp : Tups H3 (upd H3 rw' (.lst (row.map V.int ++ (L p.2.1).1.map V.int))) := tups_upd fun u f z => by rw [hR] at z; cases z; exact f
        have hT2 : (upd H3 rw' (.lst (row.map V.int ++ (L p.2.1).1.map V.int))) tw = some (.lst ws) := by rw [upd_ne kne.symm]; exact hT
        have hd4 : (upd H3 rw' (.lst (row.map V.int ++ (L p.2.1).1.map V.int))) d = some (.dK kvs) := by rw [upd_ne (ne_of_none hd hrw)]; exact hd3
        refine ⟨_, rfl, .inl ⟨rfl, _, SqL.of hT2⟩, _, rfl, _, rfl, b, _, _, _, rfl, rfl, SqT.of (tp _ _ trivial hb), atI_nat (j := 1) x1, d, _, rfl, (by rw [← ev]; exact DGet.k (k := Sum.inr p.2.1) hd4), t, _, _, _, rfl, rfl, SqT.of (tp _ _ trivial ht3), atI_nat (j := 2) rfl, tw, _, _, rfl, rfl, hT2, (by exact small1000 (by omega)),
          ⟨_, rfl⟩, same_mut (same_mut sm hrw) htw0, row ++ (L p.2.1).1, ts ++ [(L p.2.1).2], ws ++ [tr], ?_, upd_same, ?_, ?_, ?_, ?_⟩
        · rw [upd_ne kne, upd_same, List.map_append]
        · exact TdAll.snoc (TdAll.mono (Tups.trans tp (tups_upd fun u f z => by rw [hT2] at z; cases z; exact f)) td) (htr.mono (Tups.trans (tups_of sm) (Tups.trans tp (tups_upd fun u f z => by rw [hT2] at z; cases z; exact f))))
        · rw [List.length_append]; have := bd _ ek; omega
        · rw [List.length_append, List.length_singleton]; omega
        · rw [eq]
          show (if p.2.1 = _ then _ else if p.2.1 ∈ ks then _ else _) = _
          rw [if_neg eb, if_pos ek]
      · have ek : ¬ p.2.1 ∈ ks := fun z => h2 (decide_eq_true z)
        refine q _ _ sm ?_
        have e0 : nodeOf ks L tag m ps = none := by
          unfold nodeOf
          rw [eq]
          show Option.map _ (if p.2.1 = _ then _ else if p.2.1 ∈ ks then _ else _) = _
          rw [if_neg eb, if_neg ek] <;> rfl
        rw [e0] <;> rfl
  · rintro σ H2 ⟨⟨v6, rfl⟩, sm, row, ts, ws, hR, hT, td, lr, lw, eq⟩
    rw [al.1, List.drop_length] at eq
    have l1 : row.length ≤ 50000 := by rw [al.1] at lr; omega
    refine ⟨_, rfl, rw', _, rfl, .inl (SqL.of hR), _, rfl, _, rfl, tw, _, rfl, .inl ⟨SqL.of hT, fun tt htt => ?_⟩⟩
    have s2 : Same H2 (upd H2 tt (.tup ws)) := same_new htt
    refine ⟨by show 3 ≤ sizeLine; decide, fun ot hot => ?_⟩
    have s3 := s2.trans (same_new (o := .tup [.int ((row.map V.int).length : Nat), .ref rw', .ref tt]) hot)
    refine q _ _ (sm.trans s3) ?_
    have e0 : nodeOf ks L tag m ps = some (row, .tuple ts) := by unfold nodeOf; rw [eq] <;> rfl
    rw [e0]
    exact ⟨ot, rw', .ref tt, rfl, by rw [upd_same, List.length_map], s3 _ _ hR, .tup ((same_new hot) _ _ upd_same) (TdAll.mono (tups_of s3) td)⟩
end
end Bg
set_option Elab.async false
set_option linter.all false
set_option maxRecDepth 100000
set_option maxHeartbeats 4000000
namespace Bg
open PySem PySem.Spec PyProof.Rows L2
theorem nodup_sub_len {α : Type} [DecidableEq α] : ∀ (l l' : List α), l.Nodup → (∀ x ∈ l, x ∈ l') → l.length ≤ l'.length
  | [], l', _, _ => Nat.zero_le _
  | a :: r, l', nd, h => by
    obtain ⟨na, nr⟩ := List.nodup_cons.mp nd
    have ha : a ∈ l' := h a (List.mem_cons_self ..)
    have ih := nodup_sub_len r (l'.erase a) nr fun x hx => by
      have ne : x ≠ a := fun z => na (z ▸ hx)
      exact (List.mem_erase_of_ne ne).mpr (h x (List.mem_cons_of_mem _ hx))
    have el := List.length_erase_of_mem ha
    have pos : 0 < l'.length := List.length_pos_of_mem ha
    rw [List.length_cons]; omega
/-- the two items of an entry that are compared -/
def entD (e : Ent) : PyData := .tuple [.int (e.1.length : Nat), .list (e.1.map PyData.int)]
def entLt (e f : Ent) : Bool := PySem.W.dataLt (entD e) (entD f)
theorem entLt_len {e f : Ent} (h : entLt e f = true) : e.1.length ≤ f.1.length := by
  rcases Nat.lt_or_ge f.1.length e.1.length with lt | ge
  · exfalso
    unfold entLt PySem.W.dataLt entD at h
    simp only [PySem.W.keyToks, PySem.W.keyToksAll] at h
    rw [show (Sum.inl (1:Int) :: ([Sum.inl ((e.1.length : Nat) : Int)] ++ (Sum.inl (1:Int) :: (PySem.W.keyToksAll (e.1.map PyData.int) ++ [Sum.inl (0:Int)]))) : List (Int ⊕ List Nat)) = [Sum.inl 1] ++ (Sum.inl ((e.1.length : Nat) : Int) :: (Sum.inl (1:Int) :: (PySem.W.keyToksAll (e.1.map PyData.int) ++ [Sum.inl (0:Int)]))) from rfl,
      show (Sum.inl (1:Int) :: ([Sum.inl ((f.1.length : Nat) : Int)] ++ (Sum.inl (1:Int) :: (PySem.W.keyToksAll (f.1.map PyData.int) ++ [Sum.inl (0:Int)]))) : List (Int ⊕ List Nat)) = [Sum.inl 1] ++ (Sum.inl ((f.1.length : Nat) : Int) :: (Sum.inl (1:Int) :: (PySem.W.keyToksAll (f.1.map PyData.int) ++ [Sum.inl (0:Int)]))) from rfl,
      PySem.W.lex_pre, PySem.W.lex_atom (fun z => by have := Sum.inl.inj z; omega)] at h
    have e1 := PySem.W.dataLt_int (e.1.length : Int) (f.1.length : Int)
    unfold PySem.W.dataLt at e1
    simp only [PySem.W.keyToks] at e1
    rw [e1] at h
    have := of_decide_eq_true h
    omega
  · exact ge
/-! ### what least_trees does -/
abbrev LS := List Str × (Str → Ent)
def setL (L : Str → Ent) (k : Str) (e : Ent) : Str → Ent := fun j => if j = k then e else L j
def tagOf (rs : List Row) (r : Row) : Nat := (makersOf rs r.1).idxOf r.2.1
def stepL (rs : List Row) (s : LS) (r : Row) : LS := match nodeOf s.1 s.2 (tagOf rs r) r.2.1 r.2.2 with
  | none => s
  | some e => if r.1 ∉ s.1 ∨ entLt e (s.2 r.1) = true then (addNew s.1 r.1, setL s.2 r.1 e) else s
def roundL (rs : List Row) (s : LS) : LS := rs.foldl (stepL rs) s
def noEnt : Ent := ([], .none)
def leastN (rs : List Row) : Nat → LS
  | 0 => ([], fun _ => noEnt)
  | n + 1 => roundL rs (leastN rs n)
def leastOf (rs : List Row) : LS := leastN rs (distinct (rkinds rs)).length
def bnd : Nat → Nat
  | 0 => 1
  | n + 1 => 1 + 4 * bnd n
theorem bnd_pos : ∀ n, 1 ≤ bnd n
  | 0 => Nat.le_refl _
  | n + 1 => by unfold bnd; omega
theorem bnd_succ (n : Nat) : bnd n ≤ bnd (n + 1) := by show _ ≤ 1 + 4 * bnd n; omega
theorem bnd_mono {a b : Nat} (h : a ≤ b) : bnd a ≤ bnd b := by
  induction h with
  | refl => exact Nat.le_refl _
  | step _ ih => exact Nat.le_trans ih (bnd_succ _)
theorem nodeGo_len {ks : List Str} {L : Str → Ent} {B : Nat} (hB : 1 ≤ B) (hL : ∀ k ∈ ks, (L k).1.length ≤ B) : ∀ (ps : List Part) (row : List Int) (ts : List PyData) (z : List Int × List PyData), nodeGo ks L ps row ts = some z → z.1.length ≤ row.length + ps.length * B
  | [], row, ts, z, h => by
    have : (row, ts) = z := Option.some.inj h
    rw [← this]; simp
  | p :: ps, row, ts, z, h => by
    have h : (if p.2.1 = ("byte" : Str) then nodeGo ks L ps (row ++ [0]) (ts ++ [.int 0]) else if p.2.1 ∈ ks then nodeGo ks L ps (row ++ (L p.2.1).1) (ts ++ [(L p.2.1).2]) else none) = some z := h
    have em : (ps.length + 1) * B = ps.length * B + B := Nat.succ_mul _ _
    rw [List.length_cons, em]
    split at h
    · have := nodeGo_len hB hL ps _ _ z h
      rw [List.length_append, List.length_singleton] at this; omega
    · split at h
      · rename_i hk
        have := nodeGo_len hB hL ps _ _ z h
        have := hL _ hk
        rw [List.length_append] at *; omega
      · cases h
theorem nodeOf_len {ks : List Str} {L : Str → Ent} {B : Nat} (hB : 1 ≤ B) (hL : ∀ k ∈ ks, (L k).1.length ≤ B) {tag : Int} {m : Str} {ps : List Part} {e : Ent} (h4 : ps.length ≤ 4) (h : nodeOf ks L tag m ps = some e) : e.1.length ≤ 1 + 4 * B := by
  unfold nodeOf at h
  obtain ⟨z, hz, rfl⟩ := Option.map_eq_some_iff.mp h
  have := nodeGo_len hB hL ps _ _ z hz
  have h2 : ps.length * B ≤ 4 * B := Nat.mul_le_mul_right _ h4
  simp at this ⊢; omega
theorem nodeGo_some {ks : List Str} {L : Str → Ent} : ∀ (ps : List Part) (row : List Int) (ts : List PyData), (∀ p ∈ ps, p.2.1 = ("byte" : Str) ∨ p.2.1 ∈ ks) → ∃ z, nodeGo ks L ps row ts = some z
  | [], row, ts, _ => ⟨_, rfl⟩
  | p :: ps, row, ts, h => by
    show ∃ z, (if p.2.1 = ("byte" : Str) then nodeGo ks L ps (row ++ [0]) (ts ++ [.int 0]) else if p.2.1 ∈ ks then nodeGo ks L ps (row ++ (L p.2.1).1) (ts ++ [(L p.2.1).2]) else none) = some z
    have hr : ∀ q ∈ ps, q.2.1 = ("byte" : Str) ∨ q.2.1 ∈ ks := fun q hq => h q (List.mem_cons_of_mem _ hq)
    split
    · exact nodeGo_some ps _ _ hr
    · rename_i hb
      rw [if_pos ((h p (List.mem_cons_self ..)).resolve_left hb)]
      exact nodeGo_some ps _ _ hr
/-- what holds of the state between two rows -/
structure LInv (rs : List Row) (s : LS) : Prop where
  nd : s.1.Nodup
  sub : ∀ k ∈ s.1, k ∈ rkinds rs
  len : ∀ k ∈ s.1, (s.2 k).1.length ≤ bnd s.1.length
theorem LInv.small {rs : List Row} {s : LS} (h : LInv rs s) (h4 : (distinct (rkinds rs)).length ≤ 4) : ∀ k ∈ s.1, (s.2 k).1.length ≤ 10000 := by
  intro k hk
  have h1 : s.1.length ≤ 4 := Nat.le_trans (nodup_sub_len _ _ h.nd fun x hx => mem_distinct.mpr (h.sub x hx)) h4
  have := h.len k hk
  have := bnd_mono h1
  have : bnd 4 = 341 := rfl
  omega
theorem LInv.step {rs : List Row} {s : LS} (h : LInv rs s) {r : Row} (hr : r.1 ∈ rkinds rs) (h4 : r.2.2.length ≤ 4) : LInv rs (stepL rs s r) := by
  unfold stepL
  split
  · exact h
  · rename_i e he
    split
    · rename_i hc
      refine ⟨nodup_addNew h.nd, fun k hk => ?_, fun k hk => ?_⟩
      · rcases mem_addNew.mp hk with z | z
        · exact h.sub k z
        · rw [z]; exact hr
      · show (setL s.2 r.1 e k).1.length ≤ bnd (addNew s.1 r.1).length
        unfold setL
        by_cases hin : r.1 ∈ s.1
        · rw [addNew_of_mem hin]
          split
          · rename_i hk
            have lt : entLt e (s.2 r.1) = true := hc.resolve_left fun z => z hin
            exact Nat.le_trans (entLt_len lt) (h.len _ hin)
          · rename_i hk'
            rw [addNew_of_mem hin] at hk
            exact h.len k hk
        · rw [addNew_of_not hin, List.length_append]
          split
          · exact nodeOf_len (bnd_pos _) h.len h4 he
          · rename_i hk'
            rw [addNew_of_not hin] at hk
            have hk2 : k ∈ s.1 := by
              rcases List.mem_append.mp hk with z | z
              · exact z
              · exact absurd (List.mem_singleton.mp z) hk'
            exact Nat.le_trans (h.len k hk2) (bnd_succ _)
    · exact h
theorem LInv.zero (rs : List Row) : LInv rs (leastN rs 0) := by
  refine ⟨List.nodup_nil, ?_, ?_⟩
  · intro k hk; exact absurd (show k ∈ ([] : List Str) from hk) (List.not_mem_nil)
  · intro k hk; exact absurd (show k ∈ ([] : List Str) from hk) (List.not_mem_nil)
theorem stepL_mono (rs : List Row) (s : LS) (r : Row) : ∀ k ∈ s.1, k ∈ (stepL rs s r).1 := by
  intro k hk
  unfold stepL
  split
  · exact hk
  · split
    · exact mem_addNew.mpr (.inl hk)
    · exact hk
theorem foldL_mono (rs : List Row) : ∀ (l : List Row) (s : LS), ∀ k ∈ s.1, k ∈ (l.foldl (stepL rs) s).1
  | [], s, k, hk => hk
  | r :: l, s, k, hk => foldL_mono rs l _ k (stepL_mono rs s r k hk)
theorem stepL_has (rs : List Row) (s : LS) (r : Row) (h : ∀ p ∈ r.2.2, p.2.1 = ("byte" : Str) ∨ p.2.1 ∈ s.1) : r.1 ∈ (stepL rs s r).1 := by
  unfold stepL
  obtain ⟨z, hz⟩ := nodeGo_some (ks := s.1) (L := s.2) r.2.2 [(tagOf rs r : Int)] [.str r.2.1] h
  have e : nodeOf s.1 s.2 (tagOf rs r) r.2.1 r.2.2 = some (z.1, .tuple z.2) := by unfold nodeOf; rw [hz]; rfl
  rw [e]
  dsimp only
  split
  · exact mem_addNew.mpr (.inr rfl)
  · rename_i hc
    exact Decidable.byContradiction fun z => hc (.inl z)
theorem foldL_has (rs : List Row) : ∀ (l : List Row) (s : LS) (r : Row), r ∈ l → (∀ p ∈ r.2.2, p.2.1 = ("byte" : Str) ∨ p.2.1 ∈ s.1) → r.1 ∈ (l.foldl (stepL rs) s).1
  | [], s, r, hr, _ => by cases hr
  | a :: l, s, r, hr, h => by
    rcases List.mem_cons.mp hr with e | hr
    · subst e
      exact foldL_mono rs l _ _ (stepL_has rs s r h)
    · exact foldL_has rs l _ r hr fun p hp => (h p hp).imp id (stepL_mono rs s a _)
/-- each kind has a maker whose tree parts are of kinds of lower rank -/
structure FinOk (rs : List Row) (rank : Str → Nat) : Prop where
  lt : ∀ k ∈ rkinds rs, rank k < (distinct (rkinds rs)).length
  base : ∀ k ∈ rkinds rs, ∃ r ∈ rs, r.1 = k ∧ ∀ p ∈ r.2.2, p.2.1 = ("byte" : Str) ∨ (p.2.1 ∈ rkinds rs ∧ rank p.2.1 < rank k)
theorem leastN_has {rs : List Row} {rank : Str → Nat} (f : FinOk rs rank) : ∀ n k, k ∈ rkinds rs → rank k < n → k ∈ (leastN rs n).1
  | 0, k, _, h => absurd h (Nat.not_lt_zero _)
  | n + 1, k, hk, h => by
    obtain ⟨r, hr, e, hp⟩ := f.base k hk
    subst e
    exact foldL_has rs rs _ r hr fun p hpp => (hp p hpp).imp id fun z => leastN_has f n _ z.1 (by omega)
theorem least_all {rs : List Row} {rank : Str → Nat} (f : FinOk rs rank) : ∀ r ∈ rs, r.1 ∈ (leastOf rs).1 := fun r hr =>
  have hk : r.1 ∈ rkinds rs := List.mem_map.mpr ⟨r, hr, rfl⟩
  leastN_has f _ _ hk (f.lt _ hk)
end Bg
set_option Elab.async false
set_option linter.all false
set_option maxRecDepth 100000
set_option maxHeartbeats 4000000
namespace Bg
open PySem PySem.Spec PyProof.Rows L2
section
variable {P : Program} {w : World} {K : PySem.W.Frag} {mg : Str → Option Value} {base : Heap} {fd : FuncData}
/-- < of data that are alike -/
def rLtD (K : PySem.W.Frag) : R2 := fun x y H Q => ∃ d e, Dp K H x d ∧ Dp K H y e ∧ PySem.W.alike d e = true ∧ d ≠ .none ∧ min d.depth e.depth ≤ 60 ∧ Q (.bl (PySem.W.dataLt d e)) H
theorem op_ltD {X : Cx} (hu : X.A.units + 64 < cLine) : OpR X (compareOp .Lt) (rLtD X.K) := by
  intro pins s σ H x y v u Q I rx ry h
  obtain ⟨d, e, hd, he, al, nn, dp, q⟩ := h
  obtain ⟨as, r1⟩ := Dp.reads I d x v hd rx
  obtain ⟨bs, r2⟩ := Dp.reads I e y u he ry
  exact PySem.W.rcLt_alike d e X.A s v u as bs r1 r2 al nn (by omega) X.prog X.w X.xe _ ⟨.bl _, H, I, rfl, q⟩
theorem dpAll_ints {K : PySem.W.Frag} {H : Hp} : ∀ ns : List Int, DpAll K H (ns.map V.int) (ns.map PyData.int)
  | [] => .nil
  | n :: r => .cons (.int n) (dpAll_ints r)
theorem alikeAll_ints : ∀ (a b : List Int), PySem.W.alikeAll (a.map PyData.int) (b.map PyData.int) = true
  | [], _ => by simp [PySem.W.alikeAll]
  | _ :: _, [] => by simp [PySem.W.alikeAll]
  | x :: r, y :: t => by
    have := alikeAll_ints r t
    simp only [List.map_cons, PySem.W.alikeAll, PySem.W.alike, this] <;> rfl
theorem depthAll_ints : ∀ (a : List Int), PyData.depthAll (a.map PyData.int) ≤ 1
  | [] => by simp [PyData.depthAll]
  | x :: r => by
    have := depthAll_ints r
    simp only [List.map_cons, PyData.depthAll, PyData.depth]; omega
theorem entD_alike (e f : Ent) : PySem.W.alike (entD e) (entD f) = true := by
  unfold entD; simp only [PySem.W.alike, PySem.W.alikeAll, alikeAll_ints] <;> rfl
theorem entD_depth (e : Ent) : (entD e).depth ≤ 60 := by
  unfold entD
  have := depthAll_ints e.1
  simp only [PyData.depth, PyData.depthAll]; omega
theorem mem_idxOf {ks : List Str} {k : Str} (h : k ∈ ks) : ks[ks.idxOf k]? = some k ∧ ∀ m, m < ks.idxOf k → ks[m]? ≠ some k := by
  have lt := List.idxOf_lt_length_of_mem h
  refine ⟨by rw [List.getElem?_eq_getElem lt, List.getElem_idxOf], fun m hm z => ?_⟩
  have hm2 : m < ks.length := by omega
  have := List.not_of_lt_findIdx (p := (· == k)) hm
  rw [List.getElem?_eq_getElem hm2] at z
  have e := Option.some.inj z
  simp [e] at this
/-- the state of least_trees, in the heap -/
def LsAt (H : Hp) (d : Addr) (s : LS) : Prop := ∃ kvs, H d = some (.dK kvs) ∧ LeastD H kvs s.1 s.2
def spLeastTrees : Sp := fun vs H Q _ => ∃ (a : Addr) (rs : List Row), vs = [.ref a] ∧ RowsAt H a rs ∧ rs.length ≤ 1000 ∧ (∀ r ∈ rs, r.2.2.length ≤ 4) ∧ (distinct (rkinds rs)).length ≤ 4 ∧ ∀ d H', Same H H' → H d = none → LsAt H' d (leastOf rs) → Q (.ref d) H'
theorem ok_least_trees (T : Tx K mg) (F : FnP K ("least_trees", none) "least_trees" "least_trees" s_least_trees fd) : FnOk P w K mg base CX0 2 (He.fAd K ("least_trees", none)) fd ["rows"] spLeastTrees := by
  obtain ⟨f1, F1⟩ := T.F_makers_by_kind
  obtain ⟨f2, F2⟩ := T.F_least_node
  refine F.ok sc_least_trees (fun vs H Q E h => ?_) (fun cdv A outer s H vs Q E hr h => ?_)
  · obtain ⟨x, p, rfl, _⟩ := h; rfl
  obtain ⟨a, rs, rfl, ⟨us, ha, al⟩, n1000, n4, k4, q⟩ := h
  have hu := hu_of hr
  have nd := sc_least_trees.nd
  refine ⟨_, PSs.nox (pss_cons (ps_set (i := 1) nd rfl (.inl rfl) (pe_call (ok_makers_by_kind T F1) (hr.mono (by decide)) (by rfl) T.g_makers_by_kind T.k_makers_by_kind (b_makers_by_kind F1) .nil pass0 (pa_cons (pv 0) pa_nil)))
    (pss_cons (ps_set (i := 2) nd rfl (.inl rfl) pe_dnewK)
    (pss_cons (ps_lock (ps_for PassesOwn.never rfl (pi_keys (pv 1)) (pg_name (i := 3) nd rfl (.inl rfl))
      (pss_one (ps_for PassesOwn.never rfl (pi_list (pv 0)) (pg_tup rfl (pgs_cons (pg_name (i := 4) nd rfl (.inl rfl)) (pgs_cons (pg_name (i := 5) nd rfl (.inl rfl)) (pgs_cons (pg_name (i := 6) nd rfl (.inl rfl)) pgs_nil))))
        (pss_cons (ps_set (i := 7) nd rfl (.inl rfl) (pe_call (ok_least_node T F2) (hr.mono (by decide)) (by rfl) T.g_least_node T.k_least_node (b_least_node F2) .nil pass0
            (pa_cons (pe_tm1 PySem.F.slot_tuple_index PySem.F.type_tuple_index mt_tup_index (pe_dget hu (pv 1) (pv 4) (fun _ _ => rfl)) (pv 5)) (pa_cons (pv 5) (pa_cons (pv 6) (pa_cons (pv 2) pa_nil))))))
        (pss_one (ps_if (PW.pt (pw_and (pt_cmpR op_notN (pv 7) pe_non (nomark _)) (pw_and1 (PW.pt (pw_or (pt_cmp (pc_dnotin hu (pv 4) (pv 2)))
            (pw_or1 (pt_cmpR (op_ltD hr.units) (pe_slice sl_tup (pv 7) po_none (po_some pe_int)) (pe_slice sl_tup (pe_dget hu (pv 2) (pv 4) (fun _ _ => rfl)) po_none (po_some pe_int)) (nomark _))))))))
          (pss_one (ps_dput hu (pv 2) (pv 4) (pv 7) rfl)) pss_nil)))))))
    (pss_one (ps_ret (pv 2)))))), ?_⟩
  refine ⟨_, rfl, a, rs, rfl, ⟨us, ha, al⟩, n1000, fun dm mvs H1 s1 hdm hM mkd => ?_⟩
  intro dl hdl
  have hdl0 : H dl = none := s1.free hdl
  have kne : dm ≠ dl := ne_of_none hM hdl
  have s2 : Same H (upd H1 dl (.dK [])) := s1.trans (same_new hdl)
  have hM2 := (same_new (o := .dK []) hdl) _ _ hM
  refine ⟨dm, _, hM2, trivial, fun od => ?_⟩
  have s3 : Same H (upd (upd H1 dl (.dK [])) dm (.frz od (.dK mvs))) := same_mut s2 hdm
  have kl : mvs.length = (distinct (rkinds rs)).length := KD.length mkd
  -- what stands within the loops
  refine ⟨_, rfl, dm, od, rfl, .inl ⟨mvs, upd_same, for_it (walk_keys (d := dm) (o := od) (kvs := mvs)) (fun i σ H2 => (∃ v3 v4 v5 v6 v7, σ = [some (.ref a), some (.ref dm), some (.ref dl), v3, v4, v5, v6, v7]) ∧ Same H H2 ∧ H2 dm = some (.frz od (.dK mvs)) ∧ MkD H2 mvs rs ∧
    LsAt H2 dl (leastN rs i) ∧ LInv rs (leastN rs i)) ?_ (fun i σ H2 _ z => z.2.2.1) ?_ ?_⟩⟩
  · refine ⟨⟨_, _, _, _, _, rfl⟩, s3, upd_same, mkd.mono ?_, ⟨[], by rw [upd_ne kne.symm, upd_same], KD.nil⟩, LInv.zero rs⟩
    exact (tups_new hdl).trans (tups_upd fun u f z => by rw [hM2] at z; cases z; exact f)
  · rintro j x σ H2 H3 hj ⟨⟨v3, v4, v5, v6, v7, rfl⟩, sm, hfz, mk2, ls, li⟩ ⟨rfl, k, v, hkv, rfl⟩
    refine ⟨_, rfl, a, rfl, ⟨_, .inl (.inl (sm _ _ ha))⟩, for_it (walk_list (K := K) (a := a) (xs := us)) (fun i σ H4 => (∃ v3 v4 v5 v6 v7, σ = [some (.ref a), some (.ref dm), some (.ref dl), v3, v4, v5, v6, v7]) ∧ Same H H4 ∧ H4 dm = some (.frz od (.dK mvs)) ∧ MkD H4 mvs rs ∧
      LsAt H4 dl ((rs.take i).foldl (stepL rs) (leastN rs j)) ∧ LInv rs ((rs.take i).foldl (stepL rs) (leastN rs j))) ⟨⟨_, _, _, _, _, rfl⟩, sm, hfz, mk2, ls, li⟩ (fun i σ H4 _ z => .inl (.inl (z.2.1 _ _ ha))) ?_ ?_⟩
    · rintro i x σ H4 H5 hi ⟨⟨v3, v4, v5, v6, v7, rfl⟩, sm, hfz, mk2, ⟨lvs, hL, kd⟩, li⟩ ⟨rfl, hx⟩
      obtain ⟨r, hrr, b, u, rfl, hb, pa⟩ := al.get hx
      have hmem := List.mem_of_getElem? hrr
      have hk : r.1 ∈ rkinds rs := List.mem_map.mpr ⟨r, hmem, rfl⟩
      generalize hs : (rs.take i).foldl (stepL rs) (leastN rs j) = st at kd li
      have est : (rs.take (i + 1)).foldl (stepL rs) (leastN rs j) = stepL rs st r := by
        rw [take_succ_of hrr, List.foldl_append, hs] <;> rfl
      have li' : LInv rs (stepL rs st r) := li.step hk (n4 r hmem)
      refine ⟨b, _, rfl, .inl (.inl (sm _ _ hb)), rfl, _, _, rfl, _, _, rfl, _, _, rfl, rfl, ?_⟩
      obtain ⟨mv, emv, t, to, rfl, hto, ht⟩ := KD.some mk2 (mem_distinct.mpr hk)
      have hmk : r.2.1 ∈ makersOf rs r.1 := List.mem_map.mpr ⟨r, List.mem_filter.mpr ⟨hmem, by simp⟩, rfl⟩
      obtain ⟨ix1, ix2⟩ := mem_idxOf hmk
      refine ⟨_, rfl, _, rfl, dm, _, rfl, .inl ⟨mvs, Sum.inr r.1, .inr ⟨od, hfz⟩, rfl, emv.symm⟩, ⟨t, to, _, rfl, hto, ht⟩, _, rfl, t, _, r.2.1, _, rfl, rfl, sqT_frz ht, ix1, ix2, _, rfl, _, rfl, _, rfl,
        (tagOf rs r : Int), r.2.1, u, dl, r.2.2, lvs, st.1, st.2, rfl, pa.mono (tups_of sm), n4 r hmem, hL, kd, li.small k4, fun nv H6 s6 hn => ?_⟩
      have sm6 : Same H H6 := sm.trans s6
      have hfz6 := s6 _ _ hfz
      have hL6 := s6 _ _ hL
      have mk6 : MkD H6 mvs rs := mk2.mono (tups_of s6)
      have kd6 : LeastD H6 lvs st.1 st.2 := KD.mono kd fun _ _ z => z.mono s6
      have ll : lvs.length ≤ 1000 := by
        rw [KD.length kd]
        have := nodup_sub_len _ _ li.nd fun x hx => mem_distinct.mpr (li.sub x hx)
        omega
      refine ⟨_, rfl, rfl, _, rfl, ?_⟩
      cases hnode : nodeOf st.1 st.2 (tagOf rs r) r.2.1 r.2.2 with
      | none =>
        rw [hnode] at hn
        have hn : nv = .non := hn
        subst hn
        refine iteF ⟨⟨_, _, _, _, _, rfl⟩, sm6, hfz6, mk6, ?_, ?_⟩
        · rw [est]; unfold stepL; rw [hnode]; exact ⟨lvs, hL6, kd6⟩
        · rw [est]; exact li'
      | some e =>
        rw [hnode] at hn
        obtain ⟨nt, nl, ntr, rfl, hnt, hnl, htd⟩ := hn
        refine iteT ?_
        -- the entry is stored
        have put : ∀ H7, Same H6 H7 → (r.1 ∉ st.1 ∨ entLt e (st.2 r.1) = true) → Same H (upd H7 dl (.dK (putK lvs (Sum.inr r.1) (.ref nt)))) ∧ (upd H7 dl (.dK (putK lvs (Sum.inr r.1) (.ref nt)))) dm = some (.frz od (.dK mvs)) ∧ MkD (upd H7 dl (.dK (putK lvs (Sum.inr r.1) (.ref nt)))) mvs rs ∧
            LsAt (upd H7 dl (.dK (putK lvs (Sum.inr r.1) (.ref nt)))) dl ((rs.take (i + 1)).foldl (stepL rs) (leastN rs j)) ∧ LInv rs ((rs.take (i + 1)).foldl (stepL rs) (leastN rs j)) := by
          intro H7 s7 hc
          have tp : Tups H7 (upd H7 dl (.dK (putK lvs (Sum.inr r.1) (.ref nt)))) := tups_upd fun u f z => by rw [s7 _ _ hL6] at z; cases z; exact f
          have up : ∀ b o, b ≠ dl → H7 b = some o → (upd H7 dl (.dK (putK lvs (Sum.inr r.1) (.ref nt)))) b = some o := fun b o nb e => by rw [upd_ne nb]; exact e
          have ent : ∀ v e', EntAt H6 v e' → EntAt (upd H7 dl (.dK (putK lvs (Sum.inr r.1) (.ref nt)))) v e' := by
            rintro v e' ⟨a1, a2, a3, rfl, h1, h2, h3⟩
            have n1 : a1 ≠ dl := ne_of h1 hL6 (by intro z; cases z)
            have n2 : a2 ≠ dl := ne_of h2 hL6 (by intro z; cases z)
            exact ⟨a1, a2, a3, rfl, up _ _ n1 (s7 _ _ h1), up _ _ n2 (s7 _ _ h2), h3.mono ((tups_of s7).trans tp)⟩
          refine ⟨same_mut (sm6.trans s7) hdl0, up _ _ kne (s7 _ _ hfz6), mk6.mono ((tups_of s7).trans tp), ?_, by rw [est]; exact li'⟩
          have e2 : stepL rs st r = (addNew st.1 r.1, setL st.2 r.1 e) := by unfold stepL; rw [hnode]; exact if_pos hc
          rw [est, e2]
          refine ⟨_, upd_same, KD.put (k := r.1) kd6 (fun k' u' hk' hu' => ?_) ?_⟩
          · show EntAt _ u' (setL st.2 r.1 e k')
            unfold setL; rw [if_neg hk']; exact ent _ _ hu'
          · show EntAt _ (.ref nt) (setL st.2 r.1 e r.1)
            unfold setL; rw [if_pos rfl]; exact ent _ _ ⟨nt, nl, ntr, rfl, hnt, hnl, htd⟩
        refine ⟨_, rfl, _, rfl, dl, _, rfl, DGet.k (k := Sum.inr r.1) hL6, _, rfl, ?_⟩
        rw [KD.isSome kd6]
        by_cases hin : r.1 ∈ st.1
        · rw [decide_eq_true hin]
          obtain ⟨lv, elv, lt, lq, ltr, rfl, hlt, hlq, hltd⟩ := KD.some kd6 hin
          refine iteF ⟨_, rfl, _, rfl, nt, _, rfl, SqT.of hnt, (by show ¬ (HT.sIx 3 0 none = 0 ∧ HT.sIx 3 3 (some 2) = 3); decide), fun p1 hp1 => ?_⟩
          have s61 := same_new (o := .tup (cutV [.int (e.1.length : Nat), .ref nl, ntr] none (some 2))) hp1
          refine ⟨_, rfl, _, rfl, dl, _, rfl, (by rw [← elv]; exact DGet.k (k := Sum.inr r.1) (s61 _ _ hL6)), _, rfl, lt, _, rfl, SqT.of (s61 _ _ hlt), (by show ¬ (HT.sIx 3 0 none = 0 ∧ HT.sIx 3 3 (some 2) = 3); decide), fun p2 hp2 => ?_⟩
          have s62 := s61.trans (same_new (o := .tup (cutV [.int ((st.2 r.1).1.length : Nat), .ref lq, ltr] none (some 2))) hp2)
          refine ⟨entD e, entD (st.2 r.1), .tup (SqT.of ((same_new hp2) _ _ upd_same)) (.cons (.int _) (.cons (.lst (SqL.of (s62 _ _ hnl)) (dpAll_ints _)) .nil)), .tup (SqT.of upd_same) (.cons (.int _) (.cons (.lst (SqL.of (s62 _ _ hlq)) (dpAll_ints _)) .nil)),
            entD_alike _ _, (by intro z; cases z), Nat.le_trans (Nat.min_le_left _ _) (entD_depth _), _, rfl, ite2 (fun h1 => ?_) (fun h1 => ?_)⟩
          · obtain ⟨z1, z2⟩ := put _ s62 (.inr h1)
            exact ⟨_, rfl, _, rfl, _, rfl, dl, _, rfl, DPut.k (k := Sum.inr r.1) (s62 _ _ hL6) (small1000 ll), ⟨_, _, _, _, _, rfl⟩, z1, z2⟩
          · refine ⟨⟨_, _, _, _, _, rfl⟩, sm6.trans s62, s62 _ _ hfz6, mk6.mono (tups_of s62), ?_, by rw [est]; exact li'⟩
            have e2 : stepL rs st r = st := by
              unfold stepL; rw [hnode]
              exact if_neg fun z => z.elim (fun y => y hin) h1
            rw [est, e2]
            exact ⟨lvs, s62 _ _ hL6, KD.mono kd6 fun _ _ z => z.mono s62⟩
        · rw [decide_eq_false hin]
          obtain ⟨z1, z2⟩ := put _ (Same.refl _) (.inl hin)
          exact iteT (iteT ⟨_, rfl, _, rfl, _, rfl, dl, _, rfl, DPut.k (k := Sum.inr r.1) hL6 (small1000 ll), ⟨_, _, _, _, _, rfl⟩, z1, z2⟩)
    · rintro σ H4 ⟨⟨v3, v4, v5, v6, v7, rfl⟩, z⟩
      rw [al.1, List.take_length] at z
      exact ⟨⟨_, _, _, _, _, rfl⟩, z⟩
  · rintro σ H2 ⟨⟨v3, v4, v5, v6, v7, rfl⟩, sm, hfz, mk2, ls, li⟩
    rw [kl] at ls
    obtain ⟨lvs, hL, kd⟩ := ls
    have up : ∀ b o, b ≠ dm → H2 b = some o → (upd H2 dm (.dK mvs)) b = some o := fun b o nb e => by rw [upd_ne nb]; exact e
    have tp : Tups H2 (upd H2 dm (.dK mvs)) := tups_upd fun u f z => by rw [hfz] at z; cases z; exact f
    refine ⟨hfz, _, rfl, q dl _ (same_mut sm hdm) hdl0 ⟨lvs, up _ _ kne.symm hL, KD.mono kd fun k v z => ?_⟩⟩
    obtain ⟨a1, a2, a3, rfl, h1, h2, h3⟩ := z
    exact ⟨a1, a2, a3, rfl, up _ _ (ne_of h1 hfz (by intro z; cases z)) h1, up _ _ (ne_of h2 hfz (by intro z; cases z)) h2, h3.mono tp⟩
end
end Bg
set_option Elab.async false
set_option linter.all false
set_option maxRecDepth 100000
set_option maxHeartbeats 4000000
/-! tuple(d), d a dict: the keys in their order -/
namespace Bg
open PySem PySem.Spec PyProof.Rows L2 PySem.W
section
variable {prog : Program} {w : World} {T : String} {r d : Addr} {n : Nat} {Pk : Nat → Value → Prop} {OK : Heap → Prop}
theorem gather {A : Around} {E : Value → Shared → Prop} {s : Shared} {Q : List Value → Shared → Prop} (src : KdlSrc prog w T r d n Pk OK) (calm : A.handled = none) (ok : OK s.heap) (few : n ≤ sizeLine)
    (want : ∀ (h' : Heap) (tk : Nat) (got : Array Value), (∀ b o, s.heap.get? b = some o → h'.get? b = some o) → ItemsOf Pk got n → Q got.toList { s with heap := h', toks := tk }) : wpAny (model prog w) A (collect (.ref r)) Q E s := by
  obtain ⟨hr, hd⟩ := src.there _ ok
  unfold collect
  refine wpAny_bind (wpAny_runValue (codeAny_builtin PySem.F.entry_proto_collect ?_))
  rw [Around.under_plainId PySem.F.plain_proto_collect _]
  show wpAny _ A.in1 (newList [] >>= fun l => again (.builtin "list.__iadd__" ⟨[l, .ref r], []⟩)) _ _ s
  refine wpAny_bind (wpAny_newObj_type (wpAny_pure ⟨plainId_quiet PySem.F.plain_list_iadd _, codeAny_builtin PySem.F.entry_list_iadd ?_⟩))
  rw [Around.under_plainId PySem.F.plain_list_iadd _]
  show wpAny _ A.in1 (Builtin.List.listExtendWith (.ref s.heap.objs.size) (.ref r) (.ref s.heap.objs.size)) _ _ _
  have kept : ∀ b o, s.heap.get? b = some o → (s.heap.push { cls := .type "list", data := .seq ([] : List Value).toArray }).get? b = some o := fun b o e => Heap.get?_push_of_some _ e
  have end' : ∀ (h' : Heap) (tk : Nat) (got : Array Value) (c : Nat), (∀ b o, b ≠ s.heap.objs.size → (s.heap.push { cls := .type "list", data := .seq ([] : List Value).toArray }).get? b = some o → h'.get? b = some o) →
      h'.get? s.heap.objs.size = some { cls := .type "list", dict := none, data := .seq got c, slots := #[] } → ItemsOf Pk got n →
      wpAny (model prog w) A (load s.heap.objs.size >>= fun o => match o.data with | .seq items _ => pure items.toList | _ => pure []) Q E { s with heap := h', toks := tk } := fun h' tk got c hk e hi =>
    wpAny_bind (wpAny_load e (wpAny_pure (want h' tk got (fun b o q => hk b o (Nat.ne_of_lt (Heap.lt_size q)) (kept b o q)) hi)))
  refine wpAny_mono (kdl_extend (A := A) (R := fun res s' => res = .ok (.ret (.ref s.heap.objs.size)) ∧ ∃ (h' : Heap) (tk : Nat) (got : Array Value) (c : Nat), s' = { s with heap := h', toks := tk } ∧ (∀ b o, s.heap.get? b = some o → h'.get? b = some o) ∧
      h'.get? s.heap.objs.size = some { cls := .type "list", dict := none, data := .seq got c, slots := #[] } ∧ ItemsOf Pk got n) (s := { s with heap := s.heap.push { cls := .type "list", data := .seq ([] : List Value).toArray } }) src calm
    (src.keep _ _ ok fun b _ o e => kept b o e) s.heap.objs.size (Nat.ne_of_gt hr) (Nat.ne_of_gt hd) _ 0 (Heap.get?_push_size _ rfl) (fun h' tk got c hk e hi => ⟨rfl, h', tk, got, c, rfl, fun b o q => hk b o (Nat.ne_of_lt (Heap.lt_size q)) (kept b o q), e, hi⟩) few)
    (fun fin s' z => ?_) (fun e s' z => absurd z.1 (by simp))
  cases fin with
  | done f =>
    obtain ⟨e, h', tk, got, c, rfl, hk, hS, hi⟩ := z
    cases e
    show wpAny _ A (load s.heap.objs.size >>= _) _ _ _
    exact wpAny_bind (wpAny_load hS (wpAny_pure (want h' tk got hk hi)))
  | again c' =>
    refine ⟨z.1, codeAny_mono z.2 fun res s'' y => ?_⟩
    obtain ⟨rfl, h', tk, got, c, rfl, hk, hS, hi⟩ := y
    show wpAny _ A (load s.heap.objs.size >>= _) _ _ _
    exact wpAny_bind (wpAny_load hS (wpAny_pure (want h' tk got hk hi)))
theorem tuple_new {A : Around} {E : Value → Shared → Prop} {s : Shared} {Q₁ : Value → Shared → Prop} (src : KdlSrc prog w T r d n Pk OK) (calm : A.handled = none) (ok : OK s.heap) (few : n ≤ sizeLine)
    (want : ∀ (h' : Heap) (tk : Nat) (got : Array Value), (∀ b o, s.heap.get? b = some o → h'.get? b = some o) → ItemsOf Pk got n → Q₁ (.ref h'.objs.size) { s with heap := h'.push { cls := .type "tuple", data := .seq got }, toks := tk }) :
    codeAny (model prog w) A (.call (.builtin "tuple.__new__") ⟨[.type "tuple", .ref r], []⟩) (wants Q₁ E) s := by
  refine codeAny_of_tree ?_
  show wpAny _ A.in1 (do checkBuiltinCall "tuple.__new__" ⟨[.type "tuple", .ref r], []⟩; again (.builtin "tuple.__new__" ⟨[.type "tuple", .ref r], []⟩)) _ _ s
  refine wpAny_bind (wpAny_of_eq (PySem.F.newCall_tuple_1 _) (wpAny_pure ⟨plainId_quiet PySem.F.plain_tuple_new _, codeAny_builtin PySem.F.entry_tuple_new ?_⟩))
  rw [Around.under_plainId PySem.F.plain_tuple_new _]
  have q1 := sub_tuple_self
  have q2 := init_tuple_lookup
  have q3 := madeHere_tuple
  have q4 : A.in1.handled = none := calm
  have q5 := src.notTuple
  have q6 := src.type s ok
  wp_walk using wpAny_typeOf q6, gather (A := A.in1) src q4 ok few
  intro h' tk got hk hi
  show wpAny _ _ (Builtin.Tuple.tupleExact got.toList.toArray >>= fun v => ret v) _ _ _
  unfold Builtin.Tuple.tupleExact
  rw [Array.toArray_toList]
  exact wpAny_bind (wpAny_newObj_type (wpAny_pure (want h' tk got hk hi)) (by show got.size ≤ sizeLine; rw [hi.1]; exact few))
theorem tuple_of {A : Around} {E : Value → Shared → Prop} {s : Shared} {Q : Value → Shared → Prop} (src : KdlSrc prog w T r d n Pk OK) (calm : A.handled = none) (ok : OK s.heap) (few : n ≤ sizeLine)
    (want : ∀ (h' : Heap) (tk : Nat) (got : Array Value), (∀ b o, s.heap.get? b = some o → h'.get? b = some o) → ItemsOf Pk got n → Q (.ref h'.objs.size) { s with heap := h'.push { cls := .type "tuple", data := .seq got }, toks := tk }) :
    wpAny (model prog w) A (call (.type "tuple") [.ref r]) Q E s := by
  refine callType_codes (Q₁ := fun obj s₁ => s₁.TypeIs obj "tuple" ∧ Q obj s₁) PySem.F.called_tuple (PySem.F.typeCall_tuple_1 _) PySem.F.entry_object_init (tuple_new (A := A.in1) src calm ok few fun h' tk got hk hi => ⟨⟨_, Heap.get?_push_size _ rfl, rfl⟩, want h' tk got hk hi⟩) fun obj s₁ y => ?_
  exact ⟨y.1, PySem.F.args_object_init_2 obj _, object_init_meets PySem.F.called_tuple.init.lookup PySem.F.called_tuple.made (by decide) prog w A.in1 _ s₁ ⟨y.1, rfl, y.2⟩⟩
end
def rTupD : List V → Hp → VK → Prop := fun xs H Q => ∃ p kvs, xs = [.ref p] ∧ H p = some (.dK kvs) ∧ ∀ q o, H q = none → o.dict = none → Q (.ref q) (upd H q (.frz o (.tup (kvs.map fun kv => kV kv.1))))
theorem call_tuple_dK {X : Cx} (calm : X.calm = true) : CallR X (.type "tuple") rTupD := by
  intro pins s σ H xs us Q I r h
  obtain ⟨p, kvs, rfl, hk, q⟩ := h
  obtain ⟨u, rfl, rx⟩ := vals1 r
  obtain rfl : u = Value.ref p := rx
  obtain ⟨z, lo, vs, rk, hd⟩ := (show ObjOk X.prog X.w H s.heap p (.dK kvs) from I.hok p _ hk)
  obtain ⟨ep, hat⟩ := hd.dictAt
  have hl : kvs.length = vs.length := Paired.length rk
  refine tuple_of (kdl_dict (knd := mixKind X.prog X.w) (kvs := vs) (ep := ep) lo) (I.ok.hd calm) hat (by rw [← hl]; exact z) fun h' tk got keep items => ?_
  have I' : Inv X pins σ H { s with heap := h', toks := tk } := I.kept keep
  have len : (kvs.map fun kv => kV kv.1).length = got.toList.length := by
    rw [List.length_map]
    have z1 : got.toList.length = got.size := by simp
    rw [z1, items.1, hl]
  have rel : Vals (kvs.map fun kv => kV kv.1) got.toList := by
    refine vals_of_at len fun j x w h1 h2 => ?_
    obtain ⟨k, y, hky, hi⟩ := items.2 j w (by rw [← Array.getElem?_toList]; exact h2)
    have e1 : (kvs.map (·.1))[j]? = some k := by rw [KV.keys rk, List.getElem?_map, hky]; rfl
    have e2 : (kvs.map fun kv => kV kv.1) = (kvs.map (·.1)).map kV := by rw [List.map_map]; rfl
    rw [e2, List.getElem?_map, e1] at h1
    cases h1
    exact keyIs_rel hi
  refine ⟨.ref h'.objs.size, _, I'.laid (t' := tk) (o := .frz { cls := .type "tuple", data := .seq got } (.tup (kvs.map fun kv => kV kv.1))) (fun b u e => Heap.get?_push_of_some _ e) (Nat.le_refl _) ?_, rfl, q _ _ (I'.hok.fresh (Nat.le_refl _)) rfl⟩
  refine ⟨Heap.get?_push_size _ rfl, by rw [List.length_map]; exact z, got.toList, rel, ?_⟩
  rw [Array.toArray_toList]
  exact IsTup.new _ _
end Bg
set_option Elab.async false
set_option linter.all false
set_option maxRecDepth 100000
set_option maxHeartbeats 4000000
namespace Bg
open PySem PySem.Spec PyProof.Rows L2
/-- all but lists stays -/
def Still (H H' : Hp) : Prop := ∀ b o, (∀ xs, o ≠ .lst xs) → H b = some o → H' b = some o
theorem Still.refl (H : Hp) : Still H H := fun _ _ _ h => h
theorem Still.trans {H H1 H2 : Hp} (a : Still H H1) (b : Still H1 H2) : Still H H2 := fun c o n h => b c o n (a c o n h)
theorem still_of {H H' : Hp} (s : Same H H') : Still H H' := fun b o _ h => s b o h
theorem still_but {a : Addr} {H H' : Hp} (s : But a H H') {xs : List V} (h : H a = some (.lst xs)) : Still H H' := fun b o n e => s b o (fun z => n xs (by rw [z, h] at e; exact (Option.some.inj e).symm)) e
theorem Still.tups {H H' : Hp} (s : Still H H') : Tups H H' := fun b u f e => s b u (fun xs z => by rw [z] at f; exact f) e
abbrev CK (K : PySem.W.Frag) : Addr := He.ga K "Kinds"
def kF1 (dm : Addr) : List (Str × V) := putF "_makers" (.ref dm) []
def kF2 (dm dk : Addr) : List (Str × V) := putF "_kinds" (.ref dk) (kF1 dm)
def kF3 (dm dk dp : Addr) : List (Str × V) := putF "_parts" (.ref dp) (kF2 dm dk)
def kF4 (dm dk dp dl : Addr) : List (Str × V) := putF "_least" (.ref dl) (kF3 dm dk dp)
def kF5 (dm dk dp dl tn : Addr) : List (Str × V) := putF "names" (.ref tn) (kF4 dm dk dp dl)
def kF6 (dm dk dp dl tn to : Addr) : List (Str × V) := putF "order" (.ref to) (kF5 dm dk dp dl tn)
theorem putF_len (f : Str) (v : V) : ∀ fs : List (Str × V), (putF f v fs).length ≤ fs.length + 1
  | [] => Nat.le_refl _
  | p :: r => by
    have ih := putF_len f v r
    show (if p.1 = f then (p.1, v) :: r else p :: putF f v r).length ≤ _
    split
    · exact Nat.le_succ _
    · rw [List.length_cons, List.length_cons]; omega
section
variable {dm dk dp dl tn to : Addr}
theorem kF_makers : (kF6 dm dk dp dl tn to).lookup ("_makers" : Str) = some (.ref dm) := by
  unfold kF6 kF5 kF4 kF3 kF2 kF1
  rw [lookup_putF, if_neg (by decide +kernel), lookup_putF, if_neg (by decide +kernel), lookup_putF, if_neg (by decide +kernel), lookup_putF, if_neg (by decide +kernel), lookup_putF, if_neg (by decide +kernel), lookup_putF, if_pos rfl]
theorem kF_kinds : (kF6 dm dk dp dl tn to).lookup ("_kinds" : Str) = some (.ref dk) := by
  unfold kF6 kF5 kF4 kF3 kF2
  rw [lookup_putF, if_neg (by decide +kernel), lookup_putF, if_neg (by decide +kernel), lookup_putF, if_neg (by decide +kernel), lookup_putF, if_neg (by decide +kernel), lookup_putF, if_pos rfl]
theorem kF_parts : (kF6 dm dk dp dl tn to).lookup ("_parts" : Str) = some (.ref dp) := by
  unfold kF6 kF5 kF4 kF3
  rw [lookup_putF, if_neg (by decide +kernel), lookup_putF, if_neg (by decide +kernel), lookup_putF, if_neg (by decide +kernel), lookup_putF, if_pos rfl]
theorem kF_least : (kF6 dm dk dp dl tn to).lookup ("_least" : Str) = some (.ref dl) := by
  unfold kF6 kF5 kF4
  rw [lookup_putF, if_neg (by decide +kernel), lookup_putF, if_neg (by decide +kernel), lookup_putF, if_pos rfl]
theorem kF_names : (kF6 dm dk dp dl tn to).lookup ("names" : Str) = some (.ref tn) := by
  unfold kF6 kF5
  rw [lookup_putF, if_neg (by decide +kernel), lookup_putF, if_pos rfl]
theorem kF_order : (kF6 dm dk dp dl tn to).lookup ("order" : Str) = some (.ref to) := by
  unfold kF6
  rw [lookup_putF, if_pos rfl]
theorem kF_no {m : Str} (h1 : ¬ m = "order") (h2 : ¬ m = "names") (h3 : ¬ m = "_least") (h4 : ¬ m = "_parts") (h5 : ¬ m = "_kinds") (h6 : ¬ m = "_makers") : (kF6 dm dk dp dl tn to).lookup m = none := by
  unfold kF6 kF5 kF4 kF3 kF2 kF1
  rw [lookup_putF, if_neg h1, lookup_putF, if_neg h2, lookup_putF, if_neg h3, lookup_putF, if_neg h4, lookup_putF, if_neg h5, lookup_putF, if_neg h6]
  rfl
theorem kF4_makers : (kF3 dm dk dp).lookup ("_makers" : Str) = some (.ref dm) := by
  unfold kF3 kF2 kF1
  rw [lookup_putF, if_neg (by decide +kernel), lookup_putF, if_neg (by decide +kernel), lookup_putF, if_pos rfl]
theorem kF4_makers' : (kF4 dm dk dp dl).lookup ("_makers" : Str) = some (.ref dm) := by
  unfold kF4
  rw [lookup_putF, if_neg (by decide +kernel), kF4_makers]
theorem kF5_kinds : (kF5 dm dk dp dl tn).lookup ("_kinds" : Str) = some (.ref dk) := by
  unfold kF5 kF4 kF3 kF2
  rw [lookup_putF, if_neg (by decide +kernel), lookup_putF, if_neg (by decide +kernel), lookup_putF, if_neg (by decide +kernel), lookup_putF, if_pos rfl]
theorem kF_len5 : (kF5 dm dk dp dl tn).length < 1000 := by
  have h1 := putF_len "_makers" (.ref dm) []
  have h2 := putF_len "_kinds" (.ref dk) (kF1 dm)
  have h3 := putF_len "_parts" (.ref dp) (kF2 dm dk)
  have h4 := putF_len "_least" (.ref dl) (kF3 dm dk dp)
  have h5 := putF_len "names" (.ref tn) (kF4 dm dk dp dl)
  unfold kF5 kF4 kF3 kF2 kF1 at *
  simp at h1; omega
theorem kF_len4 : (kF4 dm dk dp dl).length < 1000 := by
  have h1 := putF_len "_makers" (.ref dm) []
  have h2 := putF_len "_kinds" (.ref dk) (kF1 dm)
  have h3 := putF_len "_parts" (.ref dp) (kF2 dm dk)
  have h4 := putF_len "_least" (.ref dl) (kF3 dm dk dp)
  unfold kF4 kF3 kF2 kF1 at *
  simp at h1; omega
theorem kF_len3 : (kF3 dm dk dp).length < 1000 := by
  have h1 := putF_len "_makers" (.ref dm) []
  have h2 := putF_len "_kinds" (.ref dk) (kF1 dm)
  have h3 := putF_len "_parts" (.ref dp) (kF2 dm dk)
  unfold kF3 kF2 kF1 at *
  simp at h1; omega
theorem kF_len2 : (kF2 dm dk).length < 1000 := by
  have h1 := putF_len "_makers" (.ref dm) []
  have h2 := putF_len "_kinds" (.ref dk) (kF1 dm)
  unfold kF2 kF1 at *
  simp at h1; omega
theorem kF_len1 : (kF1 dm).length < 1000 := by
  have h1 := putF_len "_makers" (.ref dm) []
  unfold kF1
  simp at h1; omega
end
def KindD (kvs : List (Key × V)) (rs : List Row) : Prop := KD kvs (distinct (rmakers rs)) fun m v => ∃ r ∈ rs, r.2.1 = m ∧ v = .str r.1
def PartsD (H : Hp) (pvs : List (Key × V)) (rs : List Row) : Prop := KD pvs (distinct (rmakers rs)) fun m v => ∃ r ∈ rs, r.2.1 = m ∧ ∃ d hv, v = .ref d ∧ H d = some (.dK hv) ∧ HoldD H hv r.2.2
def LeastT (H : Hp) (lvs : List (Key × V)) (rs : List Row) : Prop := KD lvs (distinct (rkinds rs)) fun k v => Td H v ((leastOf rs).2 k).2
def KindsAt (K : PySem.W.Frag) (H : Hp) (x : Addr) (rs : List Row) : Prop := ∃ dx dm dk dp dl tn to mvs kvs pvs lvs, H x = some (.ins (CK K) dx (kF6 dm dk dp dl tn to)) ∧ (H dm = some (.dK mvs) ∧ MkD H mvs rs) ∧ (H dk = some (.dK kvs) ∧ KindD kvs rs) ∧
  (H dp = some (.dK pvs) ∧ PartsD H pvs rs) ∧ (H dl = some (.dK lvs) ∧ LeastT H lvs rs) ∧ TextsAt H (.ref tn) (distinct (rkinds rs)) ∧ TextsAt H (.ref to) (distinct (rmakers rs))
theorem PartsD.mono {H H' : Hp} (s : Still H H') {pvs : List (Key × V)} {rs : List Row} (h : PartsD H pvs rs) : PartsD H' pvs rs := KD.mono h fun _ _ z => by
  obtain ⟨r, m, e, d, hv, e2, hd, hh⟩ := z
  exact ⟨r, m, e, d, hv, e2, s _ _ (by intro _ z; cases z) hd, hh.mono s.tups⟩
theorem LeastT.mono {H H' : Hp} (s : Tups H H') {lvs : List (Key × V)} {rs : List Row} (h : LeastT H lvs rs) : LeastT H' lvs rs := KD.mono h fun _ _ z => z.mono s
theorem KindsAt.mono {K : PySem.W.Frag} {H H' : Hp} (s : Still H H') {x : Addr} {rs : List Row} (h : KindsAt K H x rs) : KindsAt K H' x rs := by
  obtain ⟨dx, dm, dk, dp, dl, tn, to, mvs, kvs, pvs, lvs, h0, ⟨h1, h2⟩, ⟨h3, h4⟩, ⟨h5, h6⟩, ⟨h7, h8⟩, h9, h10⟩ := h
  have nl : ∀ o, (∀ xs, o ≠ HO.lst xs) → ∀ b, H b = some o → H' b = some o := fun o n b e => s b o n e
  exact ⟨dx, dm, dk, dp, dl, tn, to, mvs, kvs, pvs, lvs, s _ _ (by intro _ z; cases z) h0, ⟨s _ _ (by intro _ z; cases z) h1, h2.mono s.tups⟩, ⟨s _ _ (by intro _ z; cases z) h3, h4⟩, ⟨s _ _ (by intro _ z; cases z) h5, h6.mono s⟩, ⟨s _ _ (by intro _ z; cases z) h7, h8.mono s.tups⟩, h9.mono s.tups, h10.mono s.tups⟩
structure ValidT (rs : List Row) : Prop where
  short : RowsShort rs
  ne : rs ≠ []
  each : EachOk rs
  inner : InnerOk rs
  fin : ∃ rank, FinOk rs rank
theorem ValidT.four {rs : List Row} (v : ValidT rs) : ∀ r ∈ rs, r.2.2.length ≤ 4 := fun r hr => by
  have := (v.each.good r hr).2.2
  unfold partsB at this
  simp at this
  exact this.1
end Bg
set_option Elab.async false
set_option linter.all false
set_option maxRecDepth 100000
set_option maxHeartbeats 4000000
namespace Bg
open PySem PySem.Spec PyProof.Rows L2
section
variable {P : Program} {w : World} {K : PySem.W.Frag} {mg : Str → Option Value} {base : Heap} {fd : FuncData}
theorem rmakers_len {rs : List Row} (i : Nat) : (distinct (rmakers (rs.take i))).length ≤ rs.length := by
  have := length_distinct (rmakers (rs.take i))
  unfold rmakers at *
  rw [List.length_map, List.length_take] at this
  omega
def spInit (K : PySem.W.Frag) : Sp := fun vs H Q _ => ∃ (x dx a : Addr) (rs : List Row), vs = [.ref x, .ref a] ∧ H x = some (.ins (CK K) dx []) ∧ RowsAt H a rs ∧ ValidT rs ∧ ∀ H', But x H H' → KindsAt K H' x rs → Q .non H'
theorem ok_init (T : Tx K mg) (F : FnP K ("Kinds", some "__init__") "__init__" "Kinds.__init__" s_Kinds_init fd) : FnOk P w K mg base CX0 6 (He.fAd K ("Kinds", some "__init__")) fd ["self", "rows"] (spInit K) := by
  obtain ⟨f1, F1⟩ := T.F_check_each_row
  obtain ⟨f2, F2⟩ := T.F_check_inner_kinds
  obtain ⟨f3, F3⟩ := T.F_least_trees
  obtain ⟨f4, F4⟩ := T.F_check_finite
  obtain ⟨f5, F5⟩ := T.F_makers_by_kind
  obtain ⟨f6, F6⟩ := T.F_holdings
  refine F.ok sc_Kinds_init (fun vs H Q E h => ?_) (fun cdv A outer s H vs Q E hr h => ?_)
  · obtain ⟨x, _, _, _, rfl, _⟩ := h; rfl
  obtain ⟨x, dx, a, rs, rfl, hx, hra, val, q⟩ := h
  obtain ⟨us, ha, al⟩ := id hra
  have hu := hu_of hr
  have nd := sc_Kinds_init.nd
  have cl := T.cl_Kinds
  refine ⟨_, PSs.nox (pss_cons (ps_if (pt_cmpR op_eq (pe_callB call_len_seq (by rfl) T.n_len PySem.boot_len (pa_cons (pv 1) pa_nil)) pe_int (nomark _)) (pss_one ps_never) pss_nil)
    (pss_cons (ps_expr (pe_call (ok_check_each_row T F1) hr (by rfl) T.g_check_each_row T.k_check_each_row (b_check_each_row F1) .nil pass0 (pa_cons (pv 1) pa_nil)))
    (pss_cons (ps_expr (pe_call (ok_check_inner_kinds T F2) (hr.mono (by decide)) (by rfl) T.g_check_inner_kinds T.k_check_inner_kinds (b_check_inner_kinds F2) .nil pass0 (pa_cons (pv 1) pa_nil)))
    (pss_cons (ps_set (i := 2) nd rfl (Or.inr rfl) (pe_call (ok_least_trees T F3) (hr.mono (by decide)) (by rfl) T.g_least_trees T.k_least_trees (b_least_trees F3) .nil pass0 (pa_cons (pv 1) pa_nil)))
    (pss_cons (ps_expr (pe_call (ok_check_finite T F4) (hr.mono (by decide)) (by rfl) T.g_check_finite T.k_check_finite (b_check_finite F4) .nil pass0 (pa_cons (pv 1) (pa_cons (pv 2) pa_nil))))
    (pss_cons (ps_fld (pv 0) (pe_call (ok_makers_by_kind T F5) (hr.mono (by decide)) (by rfl) T.g_makers_by_kind T.k_makers_by_kind (b_makers_by_kind F5) .nil pass0 (pa_cons (pv 1) pa_nil)) rfl)
    (pss_cons (ps_fld (pv 0) (pe_dc (own := [("kind", 3), ("maker", 4), ("parts", 5)]) (g := gRow K 3 4 5) rfl nd (pi_list (pv 1)) (blkOk_by (N := ["self", "rows", "least", "kind", "maker", "parts"]) (sc := defScope s_Kinds_init) (by decide +kernel))
      (fun _ _ _ _ _ => pg_tup rfl (pgs_cons (pg_name (i := 3) nd rfl (Or.inl rfl)) (pgs_cons (pg_name (i := 4) nd rfl (Or.inl rfl)) (pgs_cons (pg_name (i := 5) nd rfl (Or.inl rfl)) pgs_nil)))) (fun _ _ _ _ _ => pts_nil) (fun _ _ _ _ _ => pv 4) (fun _ _ _ _ _ => pv 3)) rfl)
    (pss_cons (ps_fld (pv 0) (pe_dc (own := [("kind", 3), ("maker", 4), ("parts", 5)]) (g := gRow K 3 4 5) rfl nd (pi_list (pv 1)) (blkOk_by (N := ["self", "rows", "least", "kind", "maker", "parts"]) (sc := defScope s_Kinds_init) (by decide +kernel))
      (fun _ _ _ _ _ => pg_tup rfl (pgs_cons (pg_name (i := 3) nd rfl (Or.inl rfl)) (pgs_cons (pg_name (i := 4) nd rfl (Or.inl rfl)) (pgs_cons (pg_name (i := 5) nd rfl (Or.inl rfl)) pgs_nil)))) (fun _ _ _ _ _ => pts_nil) (fun _ _ _ _ _ => pv 4)
      (fun _ _ _ _ _ => pe_call (sp := spHoldings) (E := E0) (ok_holdings T F6) (hr.mono (by decide)) (by rfl) T.g_holdings T.k_holdings (b_holdings F6) .nil pass0 (pa_cons (pv 5) pa_nil))) rfl)
    (pss_cons (ps_fld (pv 0) (pe_lock (pe_dc (own := [("kind", 3)]) (g := gName 3) rfl nd (pi_keys (pe_fld (pv 0) rfl)) (blkOk_by (N := ["self", "rows", "least", "kind", "maker", "parts"]) (sc := defScope s_Kinds_init) (by decide +kernel))
      (fun _ _ _ _ _ => pg_name (i := 3) nd rfl (Or.inl rfl)) (fun _ _ _ _ _ => pts_nil) (fun _ _ _ _ _ => pv 3) (fun _ _ _ _ _ => pe_ix (r := rIxT K) ix_tup (pe_dget hu (pv 2) (pv 3) (fun _ _ => rfl)) pe_int (fun _ _ => rfl)))) rfl)
    (pss_cons (ps_fld (pv 0) (pe_callTy (call_tuple_dK rfl) (by rfl) T.n_tuple (by decide +kernel) (pa_cons (pe_fld (pv 0) rfl) pa_nil)) rfl)
    (pss_one (ps_fld (pv 0) (pe_callTy (call_tuple_dK rfl) (by rfl) T.n_tuple (by decide +kernel) (pa_cons (pe_fld (pv 0) rfl) pa_nil)) rfl)))))))))))), ?_⟩
  -- the checks
  have nz : decide (V.int ((us.length : Nat) : Int) = V.int 0) = false := by
    have : us.length ≠ 0 := by rw [al.1]; intro z; exact val.ne (List.length_eq_zero_iff.mp z)
    exact decide_eq_false fun z => this (by have := V.int.inj z; omega)
  refine ⟨_, rfl, a, _, rfl, .inl (SqL.of ha), rfl, _, rfl, ?_⟩
  rw [nz]
  refine iteF ⟨_, rfl, a, rs, rfl, hra, val.short, val.each, fun H1 s1 => ?_⟩
  refine ⟨_, rfl, a, rs, rfl, hra.mono s1, val.short, val.inner, fun H2 s2 => ?_⟩
  have s02 := s1.trans s2
  refine ⟨_, rfl, a, rs, rfl, hra.mono s02, val.short.1, val.four, val.each.kinds, fun dl0 H3 s3 hdl0 ⟨lvs0, hl0, ld0⟩ => ?_⟩
  have s03 := s02.trans s3
  obtain ⟨rank, fin⟩ := val.fin
  refine ⟨_, rfl, _, rfl, a, dl0, rs, lvs0, _, rfl, hra.mono s03, hl0, KD.mono ld0 (fun _ _ _ => trivial), least_all fin, fun H4 s4 => ?_⟩
  have s04 := s03.trans s4
  have hl4 := s4 _ _ hl0
  have ld4 : LeastD H4 lvs0 (leastOf rs).1 (leastOf rs).2 := KD.mono ld0 fun _ _ z => z.mono s4
  have hx4 := s04 _ _ hx
  have ndl0 : dl0 ≠ x := ne_of hl4 hx4 (by intro z; cases z)
  -- self._makers
  refine ⟨_, rfl, a, rs, rfl, hra.mono s04, val.short.1, fun dm mvs H5 s5 hdm hm5 mk5 => ?_⟩
  have s45 : Same H4 H5 := s5
  have hx5 := s5 _ _ hx4
  refine ⟨_, rfl, x, CK K, dx, [], rfl, hx5, cl, T.na_Kinds_makers_, by decide, ?_⟩
  generalize hH6 : upd H5 x (.ins (CK K) dx (putF "_makers" (.ref dm) [])) = H6
  have hx6 : H6 x = some (.ins (CK K) dx (kF1 dm)) := by rw [← hH6]; exact upd_same
  have b6 : But x H H6 := fun b o n e => by rw [← hH6, upd_ne n]; exact s5 _ _ (s04 _ _ e)
  have o6 : ∀ b o, b ≠ x → H5 b = some o → H6 b = some o := fun b o n e => by rw [← hH6, upd_ne n]; exact e
  have ndm : dm ≠ x := ne_of hm5 hx5 (by intro z; cases z)
  have t56 : Tups H5 H6 := by rw [← hH6]; exact tups_upd fun u f z => by rw [hx5] at z; cases z; exact f
  have hm6 := o6 _ _ ndm hm5
  have mk6 : MkD H6 mvs rs := mk5.mono t56
  have hl6 := o6 _ _ ndl0 (s5 _ _ hl4)
  have nax : a ≠ x := ne_of ha hx (by intro z; cases z)
  have al6 : All2 (RowAt H6) us rs := al.mono fun _ _ z => z.mono (Tups.trans (tups_of (s04.trans s5)) t56)
  have ha6 : H6 a = some (.lst us) := b6 _ _ nax ha
  have ent6 : LeastD H6 lvs0 (leastOf rs).1 (leastOf rs).2 := KD.mono ld4 fun _ _ z => by
    obtain ⟨a1, a2, a3, rfl, h1, h2, h3⟩ := z.mono s5
    exact ⟨a1, a2, a3, rfl, o6 _ _ (ne_of h1 hx5 (by intro z; cases z)) h1, o6 _ _ (ne_of h2 hx5 (by intro z; cases z)) h2, h3.mono t56⟩
  clear hH6
  -- self._kinds
  refine ⟨_, rfl, a, rfl, ⟨_, .inl (.inl ha6)⟩, fun dk hdk => dc_it (walk_list (K := K) (a := a) (xs := us)) (fun i H7 => Same H6 H7 ∧ ∃ kvs, H7 dk = some (.dK kvs) ∧ KD kvs (distinct (rmakers (rs.take i))) fun m v => ∃ r ∈ rs, r.2.1 = m ∧ v = .str r.1)
    ⟨same_new hdk, [], upd_same, KD.nil⟩ (fun i H7 _ z => .inl (.inl (z.1 _ _ ha6))) ?_ ?_⟩
  · rintro i y H7 H8 hi ⟨s7, kvs, hk, kd⟩ ⟨rfl, hy⟩
    obtain ⟨r, hrr, b, u, rfl, hb, pa⟩ := al6.get hy
    have kl : kvs.length ≤ 1000 := by rw [kd.length]; exact Nat.le_trans (rmakers_len i) val.short.1
    refine ⟨b, _, rfl, .inl (.inl (s7 _ _ hb)), rfl, _, _, rfl, _, _, rfl, _, _, rfl, rfl, rfl, _, rfl, _, rfl, kvs, Sum.inr r.2.1, rfl, hk, small1000 kl, same_mut s7 hdk, _, upd_same, ?_⟩
    rw [rmakers_take_succ hrr, distinct_snoc]
    exact kd.put (fun j u _ hu => hu) ⟨r, List.mem_of_getElem? hrr, rfl, rfl⟩
  rintro H7 ⟨s7, kvs, hk7, kd7⟩
  rw [al.1, List.take_length] at kd7
  have hx7 := s7 _ _ hx6
  refine ⟨_, rfl, x, CK K, dx, _, rfl, hx7, cl, T.na_Kinds_kinds_, kF_len1, ?_⟩
  generalize hH8 : upd H7 x (.ins (CK K) dx (putF "_kinds" (.ref dk) (kF1 dm))) = H8
  have hx8 : H8 x = some (.ins (CK K) dx (kF2 dm dk)) := by rw [← hH8]; exact upd_same
  have o8 : ∀ b o, b ≠ x → H7 b = some o → H8 b = some o := fun b o n e => by rw [← hH8, upd_ne n]; exact e
  have b8 : But x H6 H8 := fun b o n e => o8 b o n (s7 _ _ e)
  have st8 : Still H7 H8 → True := fun _ => trivial
  have t68 : Tups H6 H8 := Tups.trans (tups_of s7) (by rw [← hH8]; exact tups_upd fun u f z => by rw [hx7] at z; cases z; exact f)
  have ndk : dk ≠ x := fun z => by rw [z, hx6] at hdk; cases hdk
  have hk8 := o8 _ _ ndk hk7
  have ha8 := b8 _ _ nax ha6
  clear hH8
  -- self._parts
  refine ⟨_, rfl, a, rfl, ⟨_, .inl (.inl ha8)⟩, fun dp hdp => dc_it (walk_list (K := K) (a := a) (xs := us)) (fun i H9 => Same H8 H9 ∧ ∃ pvs, H9 dp = some (.dK pvs) ∧ KD pvs (distinct (rmakers (rs.take i))) fun m v => ∃ r ∈ rs, r.2.1 = m ∧ ∃ d hv, v = .ref d ∧ H9 d = some (.dK hv) ∧ d ≠ dp ∧ HoldD H9 hv r.2.2)
    ⟨same_new hdp, [], upd_same, KD.nil⟩ (fun i H9 _ z => .inl (.inl (z.1 _ _ ha8))) ?_ ?_⟩
  · rintro i y H9 H10 hi ⟨s9, pvs, hp, kd⟩ ⟨rfl, hy⟩
    obtain ⟨r, hrr, b, u, rfl, hb, pa⟩ := al6.get hy
    have hmem := List.mem_of_getElem? hrr
    have kl : pvs.length ≤ 1000 := by rw [kd.length]; exact Nat.le_trans (rmakers_len i) val.short.1
    have t610 := Tups.trans t68 (tups_of s9)
    refine ⟨b, _, rfl, .inl (.inl (t610 _ _ trivial hb)), rfl, _, _, rfl, _, _, rfl, _, _, rfl, rfl, rfl, _, rfl, _, rfl, u, r.2.2, rfl, pa.mono t610, (by have := val.four r hmem; omega), fun d hv H11 s11 hd hd11 hold => ?_⟩
    have hp11 := s11 _ _ hp
    have ndp : d ≠ dp := fun z => by rw [z] at hd; rw [hd] at hp; cases hp
    have tp : ∀ v, Tups H11 (upd H11 dp (.dK (putK pvs (Sum.inr r.2.1) v))) := fun v => tups_upd fun u f z => by rw [hp11] at z; cases z; exact f
    refine ⟨pvs, Sum.inr r.2.1, rfl, hp11, small1000 kl, same_mut (s9.trans s11) hdp, _, upd_same, ?_⟩
    rw [rmakers_take_succ hrr, distinct_snoc]
    refine kd.put (fun j u' _ hu' => ?_) ⟨r, hmem, rfl, d, hv, rfl, by rw [upd_ne ndp]; exact hd11, ndp, hold.mono (tp _)⟩
    obtain ⟨r', m', e', d', hv', e2', hd', n', hh'⟩ := hu'
    exact ⟨r', m', e', d', hv', e2', by rw [upd_ne n']; exact s11 _ _ hd', n', (hh'.mono (tups_of s11)).mono (tp _)⟩
  rintro H9 ⟨s9, pvs, hp9, kd9⟩
  rw [al.1, List.take_length] at kd9
  have hx9 := s9 _ _ hx8
  refine ⟨_, rfl, x, CK K, dx, _, rfl, hx9, cl, T.na_Kinds_parts_, kF_len2, ?_⟩
  generalize hH10 : upd H9 x (.ins (CK K) dx (putF "_parts" (.ref dp) (kF2 dm dk))) = H10
  have hx10 : H10 x = some (.ins (CK K) dx (kF3 dm dk dp)) := by rw [← hH10]; exact upd_same
  have o10 : ∀ b o, b ≠ x → H9 b = some o → H10 b = some o := fun b o n e => by rw [← hH10, upd_ne n]; exact e
  have b10 : But x H8 H10 := fun b o n e => o10 b o n (s9 _ _ e)
  have t910 : Tups H9 H10 := by rw [← hH10]; exact tups_upd fun u f z => by rw [hx9] at z; cases z; exact f
  have t610 : Tups H6 H10 := Tups.trans t68 (Tups.trans (tups_of s9) t910)
  have ndp : dp ≠ x := fun z => by rw [z, hx8] at hdp; cases hdp
  have hp10 := o10 _ _ ndp hp9
  have pd10 : PartsD H10 pvs rs := KD.mono kd9 fun _ _ z => by
    obtain ⟨r, m, e, d, hv, e2, hd, n, hh⟩ := z
    exact ⟨r, m, e, d, hv, e2, o10 _ _ (ne_of hd hx9 (by intro z; cases z)) hd, hh.mono t910⟩
  have hk10 := b10 _ _ ndk hk8
  have hm10 := b10 _ _ ndm (b8 _ _ ndm hm6)
  have mk10 : MkD H10 mvs rs := mk6.mono t610
  have hl10 := b10 _ _ ndl0 (b8 _ _ ndl0 hl6)
  have ent10 : LeastD H10 lvs0 (leastOf rs).1 (leastOf rs).2 := KD.mono ent6 fun _ _ z => by
    obtain ⟨a1, a2, a3, rfl, h1, h2, h3⟩ := z
    have n2 : a2 ≠ x := ne_of h2 hx6 (by intro z; cases z)
    exact ⟨a1, a2, a3, rfl, t610 _ _ trivial h1, b10 _ _ n2 (b8 _ _ n2 h2), h3.mono t610⟩
  clear hH10
  -- self._least
  refine ⟨dm, _, hm10, trivial, fun od => ?_⟩
  have nml : dl0 ≠ dm := fun z => by rw [z] at hl4; rw [hl4] at hdm; cases hdm
  have hxl : (upd H10 dm (.frz od (.dK mvs))) x = some (.ins (CK K) dx (kF3 dm dk dp)) := by rw [upd_ne ndm.symm]; exact hx10
  refine ⟨_, rfl, x, CK K, dx, _, _, rfl, hxl, cl, T.na_Kinds_makers_, kF4_makers, dm, od, rfl, .inl ⟨mvs, upd_same, fun dl hdl => ?_⟩⟩
  have ndl : dl ≠ dm := fun z => by rw [z, upd_same] at hdl; cases hdl
  have hdl10 : H10 dl = none := by rw [upd_ne ndl] at hdl; exact hdl
  refine dc_it (walk_keys (d := dm) (o := od) (kvs := mvs)) (fun i H11 => Same (upd H10 dm (.frz od (.dK mvs))) H11 ∧ ∃ lvs, H11 dl = some (.dK lvs) ∧ KD lvs (distinct ((distinct (rkinds rs)).take i)) fun k v => Td H11 v ((leastOf rs).2 k).2)
    ⟨same_new hdl, [], upd_same, KD.nil⟩ (fun i H11 _ z => z.1 _ _ upd_same) ?_ ?_
  · rintro i y H11 H12 hi ⟨s11, lvs, hl, kd⟩ ⟨rfl, k, v, hkv, rfl⟩
    obtain ⟨j, hj, ej⟩ := KD.at mk10 hkv
    cases (show k = Sum.inr j from ej)
    have kl : lvs.length ≤ 1000 := by
      rw [kd.length]
      have h1 := length_distinct ((distinct (rkinds rs)).take i)
      rw [List.length_take] at h1
      have := val.each.kinds
      omega
    have jin : j ∈ (leastOf rs).1 := by
      have jk : j ∈ rkinds rs := mem_distinct.mp (List.mem_of_getElem? hj)
      obtain ⟨r, hr', e⟩ := List.mem_map.mp jk
      rw [← e]; exact least_all fin r hr'
    obtain ⟨ev, e1, t, l, tr, rfl, ht, hlq, htd⟩ := KD.some ent10 jin
    have t0 : Tups H10 (upd H10 dm (.frz od (.dK mvs))) := tups_upd fun u f z => by rw [hm10] at z; cases z; exact f
    have t11 := Tups.trans t0 (tups_of s11)
    have hl11 : H12 dl0 = some (.dK lvs0) := s11 _ _ (by rw [upd_ne nml]; exact hl10)
    refine ⟨rfl, _, rfl, _, rfl, _, rfl, dl0, _, rfl, (by rw [← e1]; exact DGet.k (k := Sum.inr j) hl11), t, _, _, _, rfl, rfl, SqT.of (t11 _ _ trivial ht), atI_nat (j := 2) rfl, lvs, Sum.inr j, rfl, hl, small1000 kl, same_mut s11 hdl, _, upd_same, ?_⟩
    have tp : Tups H12 (upd H12 dl (.dK (putK lvs (Sum.inr j) tr))) := tups_upd fun u f z => by rw [hl] at z; cases z; exact f
    rw [take_succ_of hj, distinct_snoc]
    exact kd.put (fun j' u' _ hu' => hu'.mono tp) ((htd.mono t11).mono tp)
  rintro H11 ⟨s11, lvs, hl11, kd11⟩
  have ml : mvs.length = (distinct (rkinds rs)).length := KD.length mk10
  rw [ml, List.take_length, distinct_of_nodup (nodup_distinct _)] at kd11
  refine ⟨s11 _ _ upd_same, ?_⟩
  generalize hH12 : upd H11 dm (.dK mvs) = H12
  have hm12 : H12 dm = some (.dK mvs) := by rw [← hH12]; exact upd_same
  have s12 : Same H10 H12 := fun b o e => by
    rw [← hH12]
    by_cases hb : b = dm
    · rw [hb] at e ⊢; rw [hm10] at e; rw [upd_same]; exact e
    · rw [upd_ne hb]; exact s11 _ _ (by rw [upd_ne hb]; exact e)
  have t1112 : Tups H11 H12 := by rw [← hH12]; exact tups_upd fun u f z => by rw [s11 _ _ upd_same] at z; cases z; exact f
  have hl12 : H12 dl = some (.dK lvs) := by rw [← hH12, upd_ne ndl]; exact hl11
  have lt12 : LeastT H12 lvs rs := KD.mono kd11 fun _ _ z => z.mono t1112
  have hx12 := s12 _ _ hx10
  clear hH12
  refine ⟨_, rfl, x, CK K, dx, _, rfl, hx12, cl, T.na_Kinds_least_, kF_len3, ?_⟩
  generalize hH13 : upd H12 x (.ins (CK K) dx (putF "_least" (.ref dl) (kF3 dm dk dp))) = H13
  have hx13 : H13 x = some (.ins (CK K) dx (kF4 dm dk dp dl)) := by rw [← hH13]; exact upd_same
  have o13 : ∀ b o, b ≠ x → H12 b = some o → H13 b = some o := fun b o n e => by rw [← hH13, upd_ne n]; exact e
  have t1213 : Tups H12 H13 := by rw [← hH13]; exact tups_upd fun u f z => by rw [hx12] at z; cases z; exact f
  have ndl' : dl ≠ x := ne_of hl12 hx12 (by intro z; cases z)
  have pd13 : PartsD H13 pvs rs := KD.mono (pd10.mono (still_of s12)) fun _ _ z => by
    obtain ⟨r, m, e, d, hv, e2, hd, hh⟩ := z
    exact ⟨r, m, e, d, hv, e2, o13 _ _ (ne_of hd hx12 (by intro z; cases z)) hd, hh.mono t1213⟩
  have hm13 := o13 _ _ ndm hm12
  have hk13 := o13 _ _ ndk (s12 _ _ hk10)
  have hp13 := o13 _ _ ndp (s12 _ _ hp10)
  have hl13 := o13 _ _ ndl' hl12
  have mk13 : MkD H13 mvs rs := (mk10.mono (tups_of s12)).mono t1213
  have lt13 : LeastT H13 lvs rs := lt12.mono t1213
  have b13 : But x H H13 := fun b o n e => o13 _ _ n (s12 _ _ (b10 _ _ n (b8 _ _ n (b6 _ _ n e))))
  clear hH13
  -- names
  refine ⟨_, rfl, x, CK K, dx, _, _, rfl, hx13, cl, T.na_Kinds_makers_, kF4_makers', dm, _, rfl, hm13, fun tn on htn hon => ?_⟩
  have s14 := same_new (o := .frz on (.tup (mvs.map fun kv => kV kv.1))) htn
  have hx14 := s14 _ _ hx13
  refine ⟨_, rfl, x, CK K, dx, _, rfl, hx14, cl, T.na_Kinds_names, kF_len4, ?_⟩
  have ntn : tn ≠ x := fun z => by rw [z, hx13] at htn; cases htn
  generalize hH15 : upd (upd H13 tn (.frz on (.tup (mvs.map fun kv => kV kv.1)))) x (.ins (CK K) dx (putF "names" (.ref tn) (kF4 dm dk dp dl))) = H15
  have hx15 : H15 x = some (.ins (CK K) dx (kF5 dm dk dp dl tn)) := by rw [← hH15]; exact upd_same
  have o15 : ∀ b o, b ≠ x → H13 b = some o → H15 b = some o := fun b o n e => by rw [← hH15, upd_ne n]; exact s14 _ _ e
  have htn15 : H15 tn = some (.frz on (.tup (mvs.map fun kv => kV kv.1))) := by rw [← hH15, upd_ne ntn, upd_same]
  have t15 : Tups H13 H15 := Tups.trans (tups_of s14) (by rw [← hH15]; exact tups_upd fun u f z => by rw [hx14] at z; cases z; exact f)
  clear hH15
  -- order
  have hk15 := o15 _ _ ndk hk13
  refine ⟨_, rfl, x, CK K, dx, _, _, rfl, hx15, cl, T.na_Kinds_kinds_, kF5_kinds, dk, _, rfl, hk15, fun to oo hto hoo => ?_⟩
  have s16 := same_new (o := .frz oo (.tup (kvs.map fun kv => kV kv.1))) hto
  have hx16 := s16 _ _ hx15
  refine ⟨_, rfl, x, CK K, dx, _, rfl, hx16, cl, T.na_Kinds_order, kF_len5, ?_⟩
  have nto : to ≠ x := fun z => by rw [z, hx15] at hto; cases hto
  have o17 : ∀ b o, b ≠ x → H15 b = some o → (upd (upd H15 to (.frz oo (.tup (kvs.map fun kv => kV kv.1)))) x (.ins (CK K) dx (putF "order" (.ref to) (kF5 dm dk dp dl tn)))) b = some o := fun b o n e => by rw [upd_ne n]; exact s16 _ _ e
  have t17 : Tups H15 (upd (upd H15 to (.frz oo (.tup (kvs.map fun kv => kV kv.1)))) x (.ins (CK K) dx (putF "order" (.ref to) (kF5 dm dk dp dl tn)))) := Tups.trans (tups_of s16) (tups_upd fun u f z => by rw [hx16] at z; cases z; exact f)
  have tx := Tups.trans t15 t17
  have keysOf : ∀ {kvs : List (Key × V)} {ks : List Str} {R : Str → V → Prop}, KD kvs ks R → (kvs.map fun kv => kV kv.1) = ks.map V.str := fun {kvs ks R} h => by
    have : (kvs.map fun kv => kV kv.1) = (kvs.map (·.1)).map kV := by rw [List.map_map]; rfl
    rw [this, h.1, List.map_map]; rfl
  refine q _ (fun b o n e => o17 _ _ n (o15 _ _ n (b13 _ _ n e))) ⟨dx, dm, dk, dp, dl, tn, to, mvs, kvs, pvs, lvs, upd_same, ⟨o17 _ _ ndm (o15 _ _ ndm hm13), mk13.mono tx⟩, ⟨o17 _ _ ndk hk15, kd7⟩, ⟨o17 _ _ ndp (o15 _ _ ndp hp13), KD.mono pd13 fun _ _ z => ?_⟩, ⟨o17 _ _ ndl' (o15 _ _ ndl' hl13), lt13.mono tx⟩, ⟨tn, on, rfl, hon, ?_⟩, ⟨to, oo, rfl, hoo, ?_⟩⟩
  · obtain ⟨r, m, e, d, hv, e2, hd, hh⟩ := z
    have nd' : d ≠ x := ne_of hd hx13 (by intro z; cases z)
    exact ⟨r, m, e, d, hv, e2, o17 _ _ nd' (o15 _ _ nd' hd), hh.mono tx⟩
  · rw [← keysOf mk13]; exact o17 _ _ ntn htn15
  · rw [upd_ne nto, upd_same, keysOf kd7]
end
end Bg
set_option Elab.async false
set_option linter.all false
set_option maxRecDepth 100000
set_option maxHeartbeats 4000000
/-! dicts that are never changed any more, told so for good; a kinds table of such dicts -/
namespace Bg
open PySem PySem.Spec PyProof.Rows L2
/-- what never changes: a tuple, and each thing whose object is told -/
def Imm : HO → Prop
  | .tup _ => True
  | .frz _ _ => True
  | _ => False
def Imms (H H' : Hp) : Prop := ∀ b u, Imm u → H b = some u → H' b = some u
theorem Fixed.imm : ∀ {u : HO}, Fixed u → Imm u
  | .tup _, _ => trivial
  | .frz _ _, _ => trivial
theorem Imms.refl (H : Hp) : Imms H H := fun _ _ _ h => h
theorem Imms.trans {H H1 H2 : Hp} (a : Imms H H1) (b : Imms H1 H2) : Imms H H2 := fun c o f h => b c o f (a c o f h)
theorem Imms.tups {H H' : Hp} (s : Imms H H') : Tups H H' := fun b u f e => s b u f.imm e
theorem imms_of {H H' : Hp} (s : Same H H') : Imms H H' := fun b u _ h => s b _ h
theorem imms_but {a : Addr} {H H' : Hp} (s : But a H H') (h : ∀ u, Imm u → H a ≠ some u) : Imms H H' := fun b u f e => s b _ (fun z => h u f (by rw [← z]; exact e)) e
theorem imms_upd {H : Hp} {p : Addr} {o : HO} (h : ∀ u, Imm u → H p ≠ some u) : Imms H (upd H p o) := fun b u f e => by
  rw [upd_ne (show b ≠ p from fun z => h u f (by rw [← z]; exact e))]; exact e
theorem imms_new {H : Hp} {p : Addr} {o : HO} (h : H p = none) : Imms H (upd H p o) := imms_of (same_new h)
theorem notImm_lst {H : Hp} {a : Addr} {xs : List V} (h : H a = some (.lst xs)) : ∀ u, Imm u → H a ≠ some u := fun u f z => by rw [h] at z; cases z; exact f
theorem notImm_dK {H : Hp} {a : Addr} {kvs : List (Key × V)} (h : H a = some (.dK kvs)) : ∀ u, Imm u → H a ≠ some u := fun u f z => by rw [h] at z; cases z; exact f
theorem notImm_ins {H : Hp} {a C dx : Addr} {fs : List (Str × V)} (h : H a = some (.ins C dx fs)) : ∀ u, Imm u → H a ≠ some u := fun u f z => by rw [h] at z; cases z; exact f
/-- the dicts at as are told -/
structure Told (as : List Addr) (H H' : Hp) : Prop where
  out : ∀ b, b ∉ as → H' b = H b
  at_ : ∀ a ∈ as, ∀ kvs, H a = some (.dK kvs) → ∃ o, H' a = some (.frz o (.dK kvs))
def Dicts (as : List Addr) (H : Hp) : Prop := ∀ a ∈ as, ∃ kvs, H a = some (.dK kvs)
def tTell (t : TS) : TS := fun D σ H => ∃ as : List Addr, Dicts as H ∧ ∀ H', Told as H H' → t D σ H'
theorem told_inv {X : Cx} {pins : List (Addr × Obj)} {σ : L2.St} {H : Hp} {s : Shared} (I : Inv X pins σ H s) : ∀ as : List Addr, Dicts as H → ∃ H', Told as H H' ∧ Inv X pins σ H' s
  | [], _ => ⟨H, ⟨fun _ _ => rfl, fun a h => absurd h List.not_mem_nil⟩, I⟩
  | a :: r, d => by
    obtain ⟨H1, t, I1⟩ := told_inv I r fun b hb => d b (List.mem_cons_of_mem _ hb)
    by_cases h : a ∈ r
    · refine ⟨H1, ⟨fun b hb => t.out b fun z => hb (List.mem_cons_of_mem _ z), fun b hb => ?_⟩, I1⟩
      rcases List.mem_cons.mp hb with e | e
      · rw [e]; exact t.at_ a h
      · exact t.at_ b e
    · obtain ⟨kvs, e⟩ := d a (List.mem_cons_self ..)
      have e1 : H1 a = some (.dK kvs) := by rw [t.out a h]; exact e
      obtain ⟨o, I2⟩ := I1.lock e1 (show Mut (some (.dK kvs)) from trivial)
      refine ⟨_, ⟨fun b hb => ?_, fun b hb k2 e2 => ?_⟩, I2⟩
      · rw [upd_ne (fun z => hb (by rw [z]; exact List.mem_cons_self ..))]
        exact t.out b fun z => hb (List.mem_cons_of_mem _ z)
      · by_cases n : b = a
        · rw [n] at e2 ⊢
          rw [e] at e2; cases e2
          exact ⟨o, upd_same⟩
        · obtain ⟨o2, q⟩ := t.at_ b ((List.mem_cons.mp hb).resolve_left n) k2 e2
          exact ⟨o2, by rw [upd_ne n]; exact q⟩
theorem pss_tell {X : Cx} {st : List Stmt} {t : TS} (h : PSs X st t) : PSs X st (tTell t) := by
  refine ⟨fun pins s σ H D I hw => ?_⟩
  obtain ⟨as, d, q⟩ := hw
  obtain ⟨H', t, I'⟩ := told_inv I as d
  exact h.run pins s σ H' D I' (q H' t)
theorem Told.still {as : List Addr} {H H' : Hp} (t : Told as H H') (d : Dicts as H) {b : Addr} {u : HO} (n : ∀ kvs, u ≠ .dK kvs) (e : H b = some u) : H' b = some u := by
  rw [t.out b fun z => ?_]
  · exact e
  · obtain ⟨kvs, q⟩ := d b z
    rw [q] at e; exact n _ (Option.some.inj e).symm
theorem Told.imms {as : List Addr} {H H' : Hp} (t : Told as H H') (d : Dicts as H) : Imms H H' := fun b u f e => t.still d (fun kvs z => by rw [z] at f; exact f) e
/-! ### a kinds table whose dicts are told -/
def FzAt (H : Hp) (d : Addr) (kvs : List (Key × V)) : Prop := ∃ o, H d = some (.frz o (.dK kvs))
theorem FzAt.mono {H H' : Hp} (s : Imms H H') {d : Addr} {kvs : List (Key × V)} (h : FzAt H d kvs) : FzAt H' d kvs := by
  obtain ⟨o, e⟩ := h; exact ⟨o, s _ _ trivial e⟩
theorem FzAt.get {H : Hp} {d : Addr} {kvs : List (Key × V)} (h : FzAt H d kvs) (k : Key) : DGet H d (kV k) (valV kvs k) := by
  obtain ⟨o, e⟩ := h; exact .inl ⟨kvs, k, .inr ⟨o, e⟩, rfl, rfl⟩
def PartsF (H : Hp) (pvs : List (Key × V)) (rs : List Row) : Prop := KD pvs (distinct (rmakers rs)) fun m v => ∃ r ∈ rs, r.2.1 = m ∧ ∃ d hv, v = .ref d ∧ FzAt H d hv ∧ HoldD H hv r.2.2
theorem PartsF.mono {H H' : Hp} (s : Imms H H') {pvs : List (Key × V)} {rs : List Row} (h : PartsF H pvs rs) : PartsF H' pvs rs := KD.mono h fun _ _ z => by
  obtain ⟨r, m, e, d, hv, e2, hd, hh⟩ := z
  exact ⟨r, m, e, d, hv, e2, hd.mono s, hh.mono s.tups⟩
/-- the parts of a kinds table behind its object -/
def KindsIn (H : Hp) (dm dk dp dl tn to : Addr) (rs : List Row) : Prop := ∃ mvs kvs pvs lvs, (FzAt H dm mvs ∧ MkD H mvs rs) ∧ (FzAt H dk kvs ∧ KindD kvs rs) ∧ (FzAt H dp pvs ∧ PartsF H pvs rs) ∧ (FzAt H dl lvs ∧ LeastT H lvs rs) ∧
  TextsAt H (.ref tn) (distinct (rkinds rs)) ∧ TextsAt H (.ref to) (distinct (rmakers rs))
theorem KindsIn.mono {H H' : Hp} (s : Imms H H') {dm dk dp dl tn to : Addr} {rs : List Row} (h : KindsIn H dm dk dp dl tn to rs) : KindsIn H' dm dk dp dl tn to rs := by
  obtain ⟨mvs, kvs, pvs, lvs, ⟨h1, h2⟩, ⟨h3, h4⟩, ⟨h5, h6⟩, ⟨h7, h8⟩, h9, h10⟩ := h
  exact ⟨mvs, kvs, pvs, lvs, ⟨h1.mono s, h2.mono s.tups⟩, ⟨h3.mono s, h4⟩, ⟨h5.mono s, h6.mono s⟩, ⟨h7.mono s, h8.mono s.tups⟩, h9.mono s.tups, h10.mono s.tups⟩
def KindsF (K : PySem.W.Frag) (H : Hp) (x : Addr) (rs : List Row) : Prop := ∃ dx dm dk dp dl tn to, H x = some (.ins (CK K) dx (kF6 dm dk dp dl tn to)) ∧ KindsIn H dm dk dp dl tn to rs
theorem KindsF.mono {K : PySem.W.Frag} {H H' : Hp} (s : Imms H H') {x : Addr} (e : ∀ o, H x = some o → H' x = some o) {rs : List Row} (h : KindsF K H x rs) : KindsF K H' x rs := by
  obtain ⟨dx, dm, dk, dp, dl, tn, to, h0, h1⟩ := h
  exact ⟨dx, dm, dk, dp, dl, tn, to, e _ h0, h1.mono s⟩
theorem KindsF.same {K : PySem.W.Frag} {H H' : Hp} (s : Same H H') {x : Addr} {rs : List Row} (h : KindsF K H x rs) : KindsF K H' x rs := h.mono (imms_of s) fun o e => s _ _ e
theorem KindsF.ne_lst {K : PySem.W.Frag} {H : Hp} {x a : Addr} {rs : List Row} {xs : List V} (h : KindsF K H x rs) (e : H a = some (.lst xs)) : x ≠ a := by
  obtain ⟨dx, dm, dk, dp, dl, tn, to, h0, _⟩ := h
  exact ne_of h0 e (by intro z; cases z)
/-- all but a list -/
theorem KindsF.but {K : PySem.W.Frag} {H H' : Hp} {a : Addr} {xs : List V} (e : H a = some (.lst xs)) (s : But a H H') {x : Addr} {rs : List Row} (h : KindsF K H x rs) : KindsF K H' x rs :=
  h.mono (imms_but s (notImm_lst e)) fun o q => s _ _ (h.ne_lst e) q
/-- the addresses of the dicts of the parts -/
def refsOf (pvs : List (Key × V)) : List Addr := pvs.filterMap fun kv => match kv.2 with
  | .ref d => some d
  | _ => none
theorem mem_refsOf {pvs : List (Key × V)} {k : Key} {d : Addr} (h : (k, V.ref d) ∈ pvs) : d ∈ refsOf pvs := List.mem_filterMap.mpr ⟨_, h, rfl⟩
theorem nodup_inr {l : List Str} (h : l.Nodup) : (l.map (Sum.inr : Str → Key)).Nodup := by
  rw [List.nodup_iff_pairwise_ne] at h ⊢
  rw [List.pairwise_map]
  exact h.imp fun n z => n (Sum.inr.inj z)
theorem valV_of_mem {kvs : List (Key × V)} : (kvs.map (·.1)).Nodup → ∀ {k : Key} {v : V}, (k, v) ∈ kvs → valV kvs k = some v := by
  induction kvs with
  | nil => intro _ k v h; cases h
  | cons a r ih =>
    intro nd k v h
    rw [List.map_cons, List.nodup_cons] at nd
    unfold valV
    rw [List.find?_cons]
    by_cases e : a.1 = k
    · rw [decide_eq_true e]
      rcases List.mem_cons.mp h with z | z
      · rw [← z]; rfl
      · exact absurd (List.mem_map.mpr ⟨_, z, e.symm⟩) nd.1
    · rw [decide_eq_false e]
      rcases List.mem_cons.mp h with z | z
      · exact absurd (by rw [← z]) e
      · exact ih nd.2 z
/-- told once for all: each dict of a kinds table -/
theorem KindsAt.told {K : PySem.W.Frag} {H : Hp} {x : Addr} {rs : List Row} (h : KindsAt K H x rs) : ∃ as, Dicts as H ∧ ∀ H', Told as H H' → KindsF K H' x rs := by
  obtain ⟨dx, dm, dk, dp, dl, tn, to, mvs, kvs, pvs, lvs, h0, ⟨h1, h2⟩, ⟨h3, h4⟩, ⟨h5, h6⟩, ⟨h7, h8⟩, h9, h10⟩ := h
  have inn : ∀ d ∈ refsOf pvs, ∃ hv, H d = some (.dK hv) := by
    intro d hd
    obtain ⟨⟨k, v⟩, hm, e⟩ := List.mem_filterMap.mp hd
    obtain ⟨i, hi⟩ := List.getElem?_of_mem hm
    obtain ⟨j, hj, ej⟩ := KD.at h6 hi
    cases ej
    have nd : (pvs.map (·.1)).Nodup := by
      rw [h6.1]
      exact nodup_inr (nodup_distinct _)
    obtain ⟨r, _, _, d', hv, e2, hd', _⟩ := h6.2 j v (valV_of_mem nd hm)
    subst e2
    cases e
    exact ⟨hv, hd'⟩
  refine ⟨dm :: dk :: dp :: dl :: refsOf pvs, ?_, fun H' t => ?_⟩
  · intro a ha
    simp only [List.mem_cons] at ha
    rcases ha with e | e | e | e | e
    · rw [e]; exact ⟨_, h1⟩
    · rw [e]; exact ⟨_, h3⟩
    · rw [e]; exact ⟨_, h5⟩
    · rw [e]; exact ⟨_, h7⟩
    · exact inn a e
  have d : Dicts (dm :: dk :: dp :: dl :: refsOf pvs) H := by
    intro a ha
    simp only [List.mem_cons] at ha
    rcases ha with e | e | e | e | e
    · rw [e]; exact ⟨_, h1⟩
    · rw [e]; exact ⟨_, h3⟩
    · rw [e]; exact ⟨_, h5⟩
    · rw [e]; exact ⟨_, h7⟩
    · exact inn a e
  have im := t.imms d
  refine ⟨dx, dm, dk, dp, dl, tn, to, t.still d (by intro _ z; cases z) h0, mvs, kvs, pvs, lvs, ⟨t.at_ _ (by simp) _ h1, h2.mono im.tups⟩, ⟨t.at_ _ (by simp) _ h3, h4⟩, ⟨t.at_ _ (by simp) _ h5, ?_⟩, ⟨t.at_ _ (by simp) _ h7, h8.mono im.tups⟩, h9.mono im.tups, h10.mono im.tups⟩
  refine ⟨h6.1, fun k v e => ?_⟩
  obtain ⟨r, hr, e1, d', hv, e2, hd', hh⟩ := h6.2 k v e
  subst e2
  exact ⟨r, hr, e1, d', hv, rfl, t.at_ d' (by simp [mem_refsOf (mem_of_valV e)]) _ hd', hh.mono im.tups⟩
end Bg
set_option Elab.async false
set_option linter.all false
set_option maxRecDepth 100000
set_option maxHeartbeats 4000000
namespace Bg
open PySem PySem.Spec PyProof.Rows L2
section
variable {P : Program} {w : World} {K : PySem.W.Frag} {mg : Str → Option Value} {base : Heap} {fd : FuncData}
theorem canLay_ints : ∀ ns : List Int, PyData.canLayAll0 (ns.map PyData.int) = true
  | [] => by simp [PyData.canLayAll0]
  | n :: r => by
    have := canLay_ints r
    simp only [List.map_cons, PyData.canLayAll0, PyData.canLay0, this] <;> rfl
theorem shaped_ints (ns : List Int) : SeqAt.shaped (.list (ns.map PyData.int)) = true := by
  have := depthAll_ints ns
  unfold SeqAt.shaped
  rw [Bool.and_eq_true]
  refine ⟨by rw [PyData.canLay0, canLay_ints], decide_eq_true ?_⟩
  rw [PyData.depth]; omega
theorem eqv_ints_nil : ∀ ns : List Int, PyData.eqv (.list (ns.map PyData.int)) (.list []) = ns.isEmpty
  | [] => by simp [PyData.eqv, PyData.eqvAll]
  | _ :: _ => by simp [PyData.eqv, PyData.eqvAll]
theorem notFixed_lst {H : Hp} {a : Addr} {xs : List V} (h : H a = some (.lst xs)) : ∀ u, Fixed u → H a ≠ some u := fun u f z => by rw [h] at z; cases z; exact f
/-- the pool of drawn numbers -/
def PoolAt (H : Hp) (a : Addr) : Prop := ∃ ns : List Int, H a = some (.lst (ns.map V.int)) ∧ ns.length ≤ 50000
def spTake : Sp := fun vs H Q _ => ∃ (a : Addr) (m : Int), vs = [.ref a, .int m] ∧ PoolAt H a ∧ 0 < m ∧ ∀ z H', 0 ≤ z → z < m → But a H H' → PoolAt H' a → Q (.int z) H'
theorem ok_take (T : Tx K mg) (F : FnP K ("_law_take", none) "_law_take" "_law_take" s__law_take fd) : FnOk P w K mg base CX0 1 (He.fAd K ("_law_take", none)) fd ["_law_pool_here", "_law_many"] spTake := by
  refine F.ok sc__law_take (fun vs H Q E h => ?_) (fun cdv A outer s H vs Q E hr h => ?_)
  · obtain ⟨_, _, rfl, _⟩ := h; rfl
  obtain ⟨a, m, rfl, ⟨ns, ha, hl⟩, hm, q⟩ := h
  refine ⟨_, PSs.nox (pss_cons (ps_if (pt_cmpR (op_eqD hr.units) (pv 0) (pe_lst pa_nil) (nomark _)) (pss_one (ps_ret pe_int)) pss_nil)
    (pss_one (ps_ret (pe_op op_mod (pe_callTy call_int1 (by rfl) T.n_int (by decide +kernel) (pa_cons (pe_bm0 PySem.F.plainAttrs_list PySem.F.slot_list_pop PySem.F.type_list_pop mt_pop (pv 0)) pa_nil)) (pv 1))))), ?_⟩
  refine ⟨_, rfl, Nat.zero_le _, fun p hp => ?_⟩
  have s1 := same_new (o := .lst []) hp
  have ha1 := s1 _ _ ha
  refine ⟨.list (ns.map PyData.int), .list [], .lst (SqL.of ha1) (dpAll_ints _), .lst (SqL.of upd_same) .nil, shaped_ints _, shaped_ints [], _, rfl, ?_⟩
  rw [eqv_ints_nil]
  cases ns with
  | nil => exact iteT (q 0 _ (Int.le_refl _) hm (but_of s1) ⟨[], ha1, hl⟩)
  | cons n r =>
    refine iteF ⟨_, rfl, .inl ⟨rfl, _, SqL.of ha1⟩, a, _, .int ((n :: r).getLast (by simp)), rfl, rfl, ha1, ?_, ?_⟩
    · rw [List.length_map, List.getElem?_map]
      have : (n :: r)[(n :: r).length - 1]? = some ((n :: r).getLast (by simp)) := by
        rw [List.getLast_eq_getElem, List.getElem?_eq_getElem]
      rw [this]; rfl
    · refine .inl ⟨_, rfl, _, rfl, _, _, rfl, rfl, hm, ?_⟩
      refine q _ _ (Int.emod_nonneg _ (by omega)) (Int.emod_lt_of_pos _ hm) ((but_of s1).trans but_upd) ⟨(n :: r).dropLast, ?_, ?_⟩
      · rw [upd_same, List.map_dropLast]
      · rw [List.length_dropLast]; exact Nat.le_trans (Nat.sub_le _ _) hl
end
end Bg
set_option Elab.async false
set_option linter.all false
set_option maxRecDepth 100000
set_option maxHeartbeats 4000000
namespace Bg
open PySem PySem.Spec PyProof.Rows L2
section
variable {P : Program} {w : World} {K : PySem.W.Frag} {mg : Str → Option Value} {base : Heap} {fd : FuncData}
theorem cutV_ints (ns : List Int) (lo hi : Option Int) : ∃ ms : List Int, cutV (ns.map V.int) lo hi = ms.map V.int ∧ ms.length ≤ ns.length := by
  refine ⟨(ns.drop _).take _, by unfold cutV; rw [List.map_take, List.map_drop], ?_⟩
  rw [List.length_take, List.length_drop]; omega
theorem int_item {ms : List Int} {i : Nat} {x : V} (h : (ms.map V.int)[i]? = some x) : ∃ n, x = .int n := by
  rw [List.getElem?_map] at h
  cases e : ms[i]? with
  | none => rw [e] at h; cases h
  | some n => rw [e] at h; exact ⟨n, (Option.some.inj h).symm⟩
def PoolLen (H : Hp) (a : Addr) (n : Nat) : Prop := ∃ ns : List Int, H a = some (.lst (ns.map V.int)) ∧ ns.length ≤ n
def spPool (K : PySem.W.Frag) : Sp := fun vs H Q _ => ∃ (a : Addr) (ns : List Int), vs = [.ref a] ∧ SqL K H a (ns.map V.int) ∧ ns.length ≤ 63 ∧ ∀ p H', Same H H' → H p = none → PoolAt H' p → Q (.ref p) H'
theorem ok_pool (T : Tx K mg) (F : FnP K ("_law_pool", none) "_law_pool" "_law_pool" s__law_pool fd) : FnOk P w K mg base CX0 1 (He.fAd K ("_law_pool", none)) fd ["_law_script"] (spPool K) := by
  refine F.ok sc__law_pool (fun vs H Q E h => ?_) (fun cdv A outer s H vs Q E hr h => ?_)
  · obtain ⟨_, _, rfl, _⟩ := h; rfl
  obtain ⟨a, ns, rfl, hS, h63, q⟩ := h
  have nd := sc__law_pool.nd
  refine ⟨_, PSs.nox (pss_cons (ps_set (i := 1) nd rfl (.inl rfl) (pe_lst pa_nil))
    (pss_cons (ps_for PassesOwn.never rfl (pi_list (pe_slice sl_list (pv 0) po_none (po_some pe_int))) (pg_name (i := 2) nd rfl (.inl rfl))
      (pss_cons (ps_set (i := 3) nd rfl (.inl rfl) (pe_callTy call_int1 (by rfl) T.n_int (by decide +kernel) (pa_cons (pv 2) pa_nil)))
      (pss_one (ps_if (pt_cmpR op_ge (pv 3) (pe_op op_pow pe_int pe_int) (nomark _))
        (pss_one (ps_for PassesOwn.never rfl (pi_range1 rfl T.n_range (pa_cons pe_int pa_nil)) (pg_name (i := 4) nd rfl (.inl rfl))
          (pss_one (ps_if (pt_cmpR op_gt (pv 3) pe_int (nomark _))
            (pss_cons (ps_expr (pe_bm PySem.F.plainAttrs_list PySem.F.slot_list_append PySem.F.type_list_append mt_append (pv 1) (pa_cons (pe_op op_mod (pv 3) pe_int) pa_nil)))
            (pss_one (ps_set (i := 3) nd rfl (.inl rfl) (pe_op op_fdiv (pv 3) pe_int)))) pss_nil))))
        (pss_cons (ps_set (i := 5) nd rfl (.inl rfl) (pe_op op_mod (pe_callTy call_int1 (by rfl) T.n_int (by decide +kernel) (pa_cons (pe_op op_add (pe_op op_mul (pv 3) pe_int) pe_int) pa_nil)) pe_int))
        (pss_one (ps_for PassesOwn.never rfl (pi_range1 rfl T.n_range (pa_cons pe_int pa_nil)) (pg_name (i := 4) nd rfl (.inl rfl))
          (pss_cons (ps_set (i := 5) nd rfl (.inl rfl) (pe_op op_mod (pe_callTy call_int1 (by rfl) T.n_int (by decide +kernel) (pa_cons (pe_op op_add (pe_op op_add (pe_op op_mul (pv 5) pe_int) (pe_op op_mul pe_int (pv 4))) pe_int) pa_nil)) pe_int))
          (pss_one (ps_expr (pe_bm PySem.F.plainAttrs_list PySem.F.slot_list_append PySem.F.type_list_append mt_append (pv 1)
            (pa_cons (pe_op op_mod (pe_callTy call_int1 (by rfl) T.n_int (by decide +kernel) (pa_cons (pe_op op_fdiv (pe_op op_mul (pv 5) (pv 5)) pe_int) pa_nil)) pe_int) pa_nil))))))))))))
    (pss_one (ps_ret (pe_revL (pv 1)))))), ?_⟩
  refine ⟨Nat.zero_le _, fun p hp => ?_⟩
  have s1 := same_new (o := .lst []) hp
  refine ⟨_, rfl, _, rfl, a, _, rfl, s1.seq hS, fun c hc => ?_⟩
  obtain ⟨ms, em, hm⟩ := cutV_ints ns none (some 63)
  have s2 := s1.trans (same_new (o := .lst (cutV (ns.map V.int) none (some 63))) hc)
  have npc : p ≠ c := ne_of_none upd_same hc
  have hc0 : H c = none := s1.free hc
  refine ⟨c, rfl, ⟨_, SqL.of upd_same⟩, for_it (walk_list (K := K) (a := c) (xs := ms.map V.int)) (fun i σ H2 => (∃ v2 v3 v4 v5, σ = [some (.ref a), some (.ref p), v2, v3, v4, v5]) ∧ Same H H2 ∧ H2 c = some (.lst (ms.map V.int)) ∧ PoolLen H2 p (60 * i)) ?_ (fun i σ H2 _ z => SqL.of z.2.2.1) ?_ ?_⟩
  · exact ⟨⟨_, _, _, _, rfl⟩, s2, by rw [upd_same, em], [], by rw [upd_ne npc, upd_same] <;> rfl, Nat.zero_le _⟩
  · rintro i x σ H2 H3 hi ⟨⟨v2, v3, v4, v5, rfl⟩, sm, hcc, ps, hps, hpl⟩ ⟨rfl, hx⟩
    obtain ⟨n, rfl⟩ := int_item hx
    rw [List.length_map] at hi
    have i63 : i < 63 := by omega
    refine ⟨_, rfl, .inl ⟨_, rfl, ?_⟩⟩
    refine ⟨_, rfl, _, _, rfl, rfl, ⟨by decide, by decide, by decide⟩, _, _, rfl, rfl, _, rfl, ite2 (fun h1 => ?_) (fun h1 => ?_)⟩
    · refine ⟨_, rfl, by decide, by decide, for_it walk_range (fun j σ H4 => (∃ v2 z v4 v5, σ = [some (.ref a), some (.ref p), v2, some (.int z), v4, v5]) ∧ Same H H4 ∧ H4 c = some (.lst (ms.map V.int)) ∧ PoolLen H4 p (60 * i + j)) ⟨⟨_, _, _, _, rfl⟩, sm, hcc, ps, hps, hpl⟩ (fun _ _ _ _ _ => trivial) ?_ ?_⟩
      · rintro j y σ H4 H5 hj ⟨⟨v2, z, v4, v5, rfl⟩, sm, hcc, ps, hps, hpl⟩ ⟨rfl, rfl⟩
        refine ⟨_, rfl, _, _, rfl, rfl, _, rfl, ite2 (fun h2 => ?_) (fun h2 => ?_)⟩
        · refine ⟨_, rfl, .inl ⟨rfl, _, SqL.of hps⟩, _, rfl, _, _, rfl, rfl, (by show (0 : Int) < 1000000; decide), p, _, _, rfl, rfl, hps, (by rw [List.length_map]; exact sz_lt (by have : j < 60 := hj; omega)), ?_⟩
          refine ⟨_, rfl, _, _, rfl, rfl, ⟨by decide, by decide⟩, ⟨_, _, _, _, rfl⟩, same_mut sm hp, by rw [upd_ne npc.symm]; exact hcc, ps ++ [z % 1000000], by rw [upd_same, List.map_append] <;> rfl, ?_⟩
          rw [List.length_append, List.length_singleton]; omega
        · exact ⟨⟨_, _, _, _, rfl⟩, sm, hcc, ps, hps, by omega⟩
      · rintro σ H4 ⟨⟨v2, z, v4, v5, rfl⟩, sm, hcc, ps, hps, hpl⟩
        exact ⟨⟨_, _, _, _, rfl⟩, sm, hcc, ps, hps, by have : ((60 : Int)).toNat = 60 := rfl; omega⟩
    · refine ⟨_, rfl, _, _, rfl, rfl, .inr ⟨by decide, by decide⟩, _, _, rfl, rfl, .inl ⟨_, rfl, _, _, rfl, rfl, (by show (0 : Int) < 2147483647; decide), ?_⟩⟩
      have m0 : 0 ≤ (n * 48271 + 12345) % 2147483647 ∧ (n * 48271 + 12345) % 2147483647 < 2147483647 := ⟨Int.emod_nonneg _ (by decide), Int.emod_lt_of_pos _ (by decide)⟩
      refine ⟨_, rfl, by decide, by decide, for_it walk_range (fun j σ H4 => (∃ v2 v3 v4 m, σ = [some (.ref a), some (.ref p), v2, v3, v4, some (.int m)] ∧ 0 ≤ m ∧ m < 2147483647) ∧ Same H H4 ∧ H4 c = some (.lst (ms.map V.int)) ∧ PoolLen H4 p (60 * i + j)) ⟨⟨_, _, _, _, rfl, m0.1, m0.2⟩, sm, hcc, ps, hps, hpl⟩ (fun _ _ _ _ _ => trivial) ?_ ?_⟩
      · rintro j y σ H4 H5 hj ⟨⟨v2, v3, v4, m, rfl, m1, m2⟩, sm, hcc, ps, hps, hpl⟩ ⟨rfl, rfl⟩
        refine ⟨_, rfl, _, _, rfl, rfl, .inr ⟨by decide, by decide⟩, _, rfl, _, _, rfl, rfl, .inl ⟨by decide, by decide⟩, _, _, rfl, rfl, _, _, rfl, rfl, .inl ⟨_, rfl, _, _, rfl, rfl, (by show (0 : Int) < 2147483629; decide), ?_⟩⟩
        have m3 : 0 ≤ (m * 69621 + 7 * (0 + (j : Int)) + 1) % 2147483629 ∧ (m * 69621 + 7 * (0 + (j : Int)) + 1) % 2147483629 < 2147483629 := ⟨Int.emod_nonneg _ (by decide), Int.emod_lt_of_pos _ (by decide)⟩
        refine ⟨_, rfl, .inl ⟨rfl, _, SqL.of hps⟩, _, rfl, _, rfl, _, _, rfl, rfl, .inl ⟨by have := m3.1; omega, by have := m3.2; omega⟩, _, _, rfl, rfl, ⟨by decide, by decide⟩, .inl ⟨_, rfl, _, _, rfl, rfl, (by show (0 : Int) < 1000000; decide), p, _, _, rfl, rfl, hps, (by rw [List.length_map]; exact sz_lt (by have : j < 12 := hj; omega)), ?_⟩⟩
        exact ⟨⟨_, _, _, _, rfl, m3.1, by have := m3.2; omega⟩, same_mut sm hp, by rw [upd_ne npc.symm]; exact hcc, ps ++ [_], by rw [upd_same, List.map_append] <;> rfl, by rw [List.length_append, List.length_singleton]; omega⟩
      · rintro σ H4 ⟨⟨v2, v3, v4, m, rfl, m1, m2⟩, sm, hcc, ps, hps, hpl⟩
        exact ⟨⟨_, _, _, _, rfl⟩, sm, hcc, ps, hps, by have : ((12 : Int)).toNat = 12 := rfl; omega⟩
  · rintro σ H2 ⟨⟨v2, v3, v4, v5, rfl⟩, sm, hcc, ps, hps, hpl⟩
    rw [List.length_map] at hpl
    refine ⟨_, rfl, p, _, rfl, SqL.of hps, fun r hr' => ?_⟩
    refine q r _ (sm.trans (same_new hr')) (sm.free hr') ⟨ps.reverse, by rw [upd_same, List.map_reverse], by rw [List.length_reverse]; omega⟩
end
end Bg
set_option Elab.async false
set_option linter.all false
set_option maxRecDepth 100000
set_option maxHeartbeats 4000000
namespace Bg
open PySem PySem.Spec PyProof.Rows L2
/-! ### drawn names -/
def goodC (c : Nat) : Bool := decide (c < 128) && Unicode.isAlnum c
def lets : Str := "abcdefghijklmnopqrstuvwxyzABCDEFGHIJKLMNOPQRSTUVWXYZ0123456789"
theorem lets_len : lets.cps.toList.length = 62 := by decide +kernel
theorem lets_good : ∀ i, i < 62 → goodC (lets.cps.toList.getD i 0) = true := by decide +kernel
theorem lets_alpha : ∀ i, i < 52 → Unicode.isAlpha (lets.cps.toList.getD i 0) = true := by decide +kernel
theorem x_good : goodC 120 = true := by decide +kernel
/-- a drawn name of at most n signs -/
structure GN (x : Str) (n : Nat) : Prop where
  all : ∀ c ∈ x.cps.toList, goodC c = true
  head : ∃ c r, x.cps.toList = c :: r ∧ Unicode.isAlpha c = true
  len : x.cps.toList.length ≤ n
theorem str_len (x : Str) : x.length = x.cps.toList.length := by unfold Str.length; simp
theorem GN.mono {x : Str} {n m : Nat} (h : GN x n) (l : n ≤ m) : GN x m := ⟨h.all, h.head, Nat.le_trans h.len l⟩
theorem app_cps (x y : Str) : (x ++ y).cps.toList = x.cps.toList ++ y.cps.toList := by
  show (Str.append x y).cps.toList = _
  unfold Str.append; simp
theorem str_ext {x y : Str} (h : x.cps.toList = y.cps.toList) : x = y := PySem.W.str_of_cps h
theorem GN.app {x : Str} {n : Nat} (h : GN x n) {c : Nat} (hc : goodC c = true) : GN (x ++ (⟨#[c]⟩ : Str)) (n + 1) := by
  have e : (x ++ (⟨#[c]⟩ : Str)).cps.toList = x.cps.toList ++ [c] := app_cps _ _
  refine ⟨fun d hd => ?_, ?_, ?_⟩
  · rw [e] at hd
    rcases List.mem_append.mp hd with z | z
    · exact h.all d z
    · rw [List.mem_singleton.mp z]; exact hc
  · obtain ⟨a, r, e2, ha⟩ := h.head
    exact ⟨a, r ++ [c], by rw [e, e2]; rfl, ha⟩
  · rw [e, List.length_append, List.length_singleton]; have := h.len; omega
theorem GN.nameB {x : Str} {n : Nat} (h : GN x n) (hn : n ≤ 24) : nameB x = true := by
  obtain ⟨c, r, e, ha⟩ := h.head
  have hl := h.len
  have l1 : 1 ≤ x.cps.toList.length := by rw [e]; simp
  unfold Bg.nameB Txt.isascii Txt.isalnum Txt.isalpha
  have a1 : x.cps.all (fun z => decide (z < 128)) = true := by
    rw [← Array.all_toList, List.all_eq_true]
    intro d hd
    have := h.all d hd
    unfold goodC at this; simp at this; simpa using this.1
  have a2 : x.cps.all Unicode.isAlnum = true := by
    rw [← Array.all_toList, List.all_eq_true]
    intro d hd
    have := h.all d hd
    unfold goodC at this; simp at this; exact this.2
  have a3 : x.cps.toList.headD 0 = c := by rw [e]; rfl
  have l2 : x.length = x.cps.toList.length := str_len x
  rw [a1, a2, a3]
  have l3 : 0 < x.length := by omega
  simp only [l3, gt_iff_lt, decide_true, Bool.true_and, Bool.and_true]
  rw [decide_eq_true (show 1 ≤ x.length by omega), decide_eq_true (show x.length ≤ 24 by omega)]
  show (true && (true && (decide (0 < (⟨#[c]⟩ : Str).length) && (#[c] : Array Nat).all Unicode.isAlpha))) = true
  simp [ha, Str.length]
/-- base and j times x -/
def withX (b : Str) (j : Nat) : Str := ⟨(b.cps.toList ++ List.replicate j 120).toArray⟩
theorem withX_zero (b : Str) : withX b 0 = b := str_ext (by simp [withX])
theorem withX_succ (b : Str) (j : Nat) : withX b j ++ (⟨#[120]⟩ : Str) = withX b (j + 1) := str_ext (by
  rw [app_cps]
  simp [withX, List.replicate_succ'])
theorem withX_inj {b : Str} {i j : Nat} (h : withX b i = withX b j) : i = j := by
  have := congrArg (fun z : Str => z.cps.toList.length) h
  simp [withX] at this; exact this
theorem withX_out {b : Str} {ks : List Str} (h : ∀ j, j < ks.length → withX b j ∈ ks) : withX b ks.length ∉ ks := by
  intro hm
  have nd : ((List.range (ks.length + 1)).map (withX b)).Nodup := by
    rw [List.nodup_iff_pairwise_ne, List.pairwise_map]
    exact List.Pairwise.imp (fun {i j} ne z => ne (withX_inj z)) (List.nodup_iff_pairwise_ne.mp List.nodup_range)
  have := nodup_sub_len _ ks nd fun x hx => by
    obtain ⟨j, hj, rfl⟩ := List.mem_map.mp hx
    have hj := List.mem_range.mp hj
    by_cases e : j = ks.length
    · rw [e]; exact hm
    · exact h j (by omega)
  simp at this
  omega
theorem x_lit : ("x" : Str) = (⟨#[120]⟩ : Str) := by decide +kernel
theorem at_nat {α : Type} {l : List α} {z : Int} {j : Nat} {x : α} (e : z = (j : Int)) (h : l[j]? = some x) : atI l z = some x := by
  rw [e]; exact atI_nat h
theorem at_lets {z : Int} (h0 : 0 ≤ z) (h1 : z < 62) : atI lets.cps.toList z = some (lets.cps.toList.getD z.toNat 0) := by
  have lt : z.toNat < lets.cps.toList.length := by rw [lets_len]; omega
  refine at_nat (Int.toNat_of_nonneg h0).symm ?_
  rw [List.getD_eq_getElem?_getD, List.getElem?_eq_getElem lt] <;> rfl
section
variable {P : Program} {w : World} {K : PySem.W.Frag} {mg : Str → Option Value} {base : Heap} {fd : FuncData}
def spName (K : PySem.W.Frag) : Sp := fun vs H Q _ => ∃ (sd k : Int) (t : Addr) (ks : List Str), vs = [.int sd, .int k, .ref t] ∧ (0 ≤ sd ∧ sd ≤ 10000000) ∧ (0 ≤ k ∧ k ≤ 1000) ∧ SqL K H t (ks.map V.str) ∧ ks.length ≤ 20 ∧ ∀ x, GN x (4 + ks.length) → x ∉ ks → Q (.str x) H
theorem ok_name (T : Tx K mg) (F : FnP K ("_law_name", none) "_law_name" "_law_name" s__law_name fd) : FnOk P w K mg base CX0 1 (He.fAd K ("_law_name", none)) fd ["_law_seed", "_law_k", "_law_taken"] (spName K) := by
  refine F.ok sc__law_name (fun vs H Q E h => ?_) (fun cdv A outer s H vs Q E hr h => ?_)
  · obtain ⟨_, _, _, _, rfl, _⟩ := h; rfl
  obtain ⟨sd, k, t, ks, rfl, ⟨s0, s1⟩, ⟨k0, k1⟩, hS, h20, q⟩ := h
  have nd := sc__law_name.nd
  refine ⟨_, PSs.nox (pss_cons (ps_set (i := 3) nd rfl (.inl rfl) pe_str)
    (pss_cons (ps_set (i := 4) nd rfl (.inl rfl) (pe_op op_mod (pe_callTy call_int1 (by rfl) T.n_int (by decide +kernel) (pa_cons (pe_op op_mul (pe_op op_mul (pe_op op_add (pv 0) pe_int) (pe_op op_add (pv 1) pe_int)) pe_int) pa_nil)) pe_int))
    (pss_cons (ps_set (i := 5) nd rfl (.inl rfl) (pe_ix ix_str (pv 3) (pe_op op_mod (pv 4) pe_int) (fun _ _ => rfl)))
    (pss_cons (ps_for PassesOwn.never rfl (pi_range1 rfl T.n_range (pa_cons (pe_op op_mod (pe_op op_fdiv (pv 4) pe_int) pe_int) pa_nil)) (pg_name (i := 6) nd rfl (.inl rfl))
      (pss_cons (ps_set (i := 4) nd rfl (.inl rfl) (pe_op op_mod (pe_callTy call_int1 (by rfl) T.n_int (by decide +kernel) (pa_cons (pe_op op_add (pe_op op_mul (pv 4) pe_int) pe_int) pa_nil)) pe_int))
      (pss_one (ps_set (i := 5) nd rfl (.inl rfl) (pe_op op_add_str (pv 5) (pe_ix ix_str (pv 3) (pe_op op_mod (pe_op op_fdiv (pv 4) pe_int) pe_int) (fun _ _ => rfl)))))))
    (pss_cons (ps_for PassesOwn.never rfl (pi_range1 rfl T.n_range (pa_cons (pe_callB call_len_seq (by rfl) T.n_len PySem.boot_len (pa_cons (pv 2) pa_nil)) pa_nil)) (pg_name (i := 6) nd rfl (.inl rfl))
      (pss_one (ps_if (pt_cmpR op_in_seq (pv 5) (pv 2) (by rfl)) (pss_one (ps_set (i := 5) nd rfl (.inl rfl) (pe_op op_add_str (pv 5) pe_str))) pss_nil)))
    (pss_one (ps_ret (pv 5)))))))), ?_⟩
  have m0 : 0 ≤ (sd + 1) * (k + 5) * 48271 % 2147483647 := Int.emod_nonneg _ (by decide)
  have m1 : (sd + 1) * (k + 5) * 48271 % 2147483647 < 2147483647 := Int.emod_lt_of_pos _ (by decide)
  refine ⟨_, rfl, _, _, rfl, rfl, _, rfl, _, _, rfl, rfl, _, _, rfl, rfl, .inl ⟨by omega, by omega⟩, _, _, rfl, rfl, .inr ⟨by decide, by decide⟩, .inl ⟨_, rfl, _, _, rfl, rfl, (by show (0 : Int) < 2147483647; decide), ?_⟩⟩
  have c0 : 0 ≤ ((sd + 1) * (k + 5) * 48271 % 2147483647) % 52 := Int.emod_nonneg _ (by decide)
  have c1 : ((sd + 1) * (k + 5) * 48271 % 2147483647) % 52 < 52 := Int.emod_lt_of_pos _ (by decide)
  have ll : lets.length ≤ sizeLine := by rw [str_len, lets_len]; decide
  refine ⟨_, rfl, _, rfl, _, _, rfl, rfl, (by show (0 : Int) < 52; decide), lets, _, _, rfl, rfl, ll, at_lets c0 (by omega), ?_⟩
  have g1 : GN (⟨#[lets.cps.toList.getD (((sd + 1) * (k + 5) * 48271 % 2147483647) % 52).toNat 0]⟩ : Str) 1 := by
    have a := lets_good (((sd + 1) * (k + 5) * 48271 % 2147483647) % 52).toNat (by omega)
    have b := lets_alpha (((sd + 1) * (k + 5) * 48271 % 2147483647) % 52).toNat (by omega)
    refine ⟨fun c hc => ?_, ⟨_, [], rfl, b⟩, Nat.le_refl _⟩
    have : c = lets.cps.toList.getD (((sd + 1) * (k + 5) * 48271 % 2147483647) % 52).toNat 0 := by simpa using hc
    rw [this]; exact a
  have d0 : 0 ≤ ((sd + 1) * (k + 5) * 48271 % 2147483647) / 52 % 4 := Int.emod_nonneg _ (by decide)
  have d1 : ((sd + 1) * (k + 5) * 48271 % 2147483647) / 52 % 4 < 4 := Int.emod_lt_of_pos _ (by decide)
  refine ⟨_, rfl, _, _, rfl, rfl, ⟨by decide, by decide⟩, _, _, rfl, rfl, (by show (0 : Int) < 4; decide), _, rfl, ?_, ?_, for_it walk_range (fun i σ H2 => (∃ n x v6, σ = [some (.int sd), some (.int k), some (.ref t), some (.str lets), some (.int n), some (.str x), v6] ∧ 0 ≤ n ∧ n < 2147483647 ∧ GN x (1 + i)) ∧ H2 = H) ⟨⟨_, _, _, rfl, m0, m1, g1⟩, rfl⟩ (fun _ _ _ _ _ => trivial) ?_ ?_⟩
  · show -(2 ^ 62) ≤ ((sd + 1) * (k + 5) * 48271 % 2147483647) / 52 % 4; omega
  · show ((sd + 1) * (k + 5) * 48271 % 2147483647) / 52 % 4 < 2 ^ 62; omega
  · rintro i y σ H2 H3 hi ⟨⟨n, x, v6, rfl, n1, n2, gx⟩, rfl⟩ ⟨rfl, rfl⟩
    have e0 : 0 ≤ (n * 69621 + 1) % 2147483629 := Int.emod_nonneg _ (by decide)
    have e1 : (n * 69621 + 1) % 2147483629 < 2147483629 := Int.emod_lt_of_pos _ (by decide)
    refine ⟨_, rfl, _, _, rfl, rfl, .inr ⟨by decide, by decide⟩, _, _, rfl, rfl, .inl ⟨_, rfl, _, _, rfl, rfl, (by show (0 : Int) < 2147483629; decide), ?_⟩⟩
    have f0 : 0 ≤ ((n * 69621 + 1) % 2147483629) / 64 % 62 := Int.emod_nonneg _ (by decide)
    have f1 : ((n * 69621 + 1) % 2147483629) / 64 % 62 < 62 := Int.emod_lt_of_pos _ (by decide)
    have lx := gx.len
    have i4 : i < 4 := by have z : i < (((sd + 1) * (k + 5) * 48271 % 2147483647) / 52 % 4).toNat := hi; omega
    refine ⟨_, rfl, _, rfl, _, rfl, _, _, rfl, rfl, ⟨by decide, by decide⟩, _, _, rfl, rfl, (by show (0 : Int) < 62; decide), lets, _, _, rfl, rfl, ll, at_lets f0 f1, _, _, rfl, rfl, ?_, ?_⟩
    · rw [str_len]; show x.cps.toList.length + 1 ≤ sizeLine; exact sz_of (by omega)
    · exact ⟨⟨_, _, _, rfl, e0, by omega, by have := gx.app (lets_good (((n * 69621 + 1) % 2147483629) / 64 % 62).toNat (by omega)); rw [Nat.add_assoc] at this; exact this⟩, rfl⟩
  · rintro σ H2 ⟨⟨n, x, v6, rfl, n1, n2, gx⟩, rfl⟩
    have gx4 : GN x 4 := gx.mono (by omega)
    refine ⟨_, rfl, t, _, rfl, .inl hS, _, rfl, ?_, ?_, for_it walk_range (fun i σ H3 => (∃ y v6, σ = [some (.int sd), some (.int k), some (.ref t), some (.str lets), some (.int n), some (.str y), v6] ∧ GN y (4 + i) ∧ (y ∉ ks ∨ (y = withX x i ∧ ∀ j, j < i → withX x j ∈ ks))) ∧ H3 = H2) ?_ (fun _ _ _ _ _ => trivial) ?_ ?_⟩
    · show -(2 ^ 62) ≤ (((ks.map V.str).length : Nat) : Int); omega
    · show (((ks.map V.str).length : Nat) : Int) < 2 ^ 62; rw [List.length_map]; omega
    · exact ⟨⟨x, _, rfl, gx4, .inr ⟨(withX_zero x).symm, fun j hj => absurd hj (Nat.not_lt_zero _)⟩⟩, rfl⟩
    · rintro i y σ H3 H4 hi ⟨⟨z, v6, rfl, gz, hz⟩, rfl⟩ ⟨rfl, rfl⟩
      have ilt : i < ks.length := by have : i < (((ks.map V.str).length : Nat) : Int).toNat := hi; rw [List.length_map] at this; omega
      refine ⟨_, rfl, _, rfl, t, _, rfl, .inl hS, rfl, flat_str _, _, rfl, ?_⟩
      rw [inV_strs]
      refine ite2 (fun h1 => ?_) (fun h1 => ?_)
      · have hin : z ∈ ks := of_decide_eq_true h1
        obtain ⟨e1, e2⟩ := hz.resolve_left fun w => w hin
        have lz := gz.len
        refine ⟨_, rfl, _, _, rfl, rfl, ?_, ⟨_, _, rfl, ?_, .inr ⟨?_, fun j hj => ?_⟩⟩, rfl⟩
        · rw [str_len, str_len, x_lit]; show z.cps.toList.length + 1 ≤ sizeLine; exact sz_of (by omega)
        · rw [x_lit]; exact gz.app x_good
        · rw [x_lit, e1, withX_succ]
        · by_cases e : j = i
          · rw [e, ← e1]; exact hin
          · exact e2 j (by omega)
      · exact ⟨⟨_, _, rfl, gz.mono (by omega), .inl fun w => h1 (decide_eq_true w)⟩, rfl⟩
    · rintro σ H3 ⟨⟨z, v6, rfl, gz, hz⟩, rfl⟩
      have en : (((ks.map V.str).length : Nat) : Int).toNat = ks.length := by rw [List.length_map]; omega
      rw [en] at gz hz
      refine ⟨_, rfl, q z gz ?_⟩
      rcases hz with hz | ⟨e1, e2⟩
      · exact hz
      · rw [e1]; exact withX_out e2
end
end Bg
set_option Elab.async false
set_option linter.all false
set_option maxRecDepth 100000
set_option maxHeartbeats 4000000
namespace Bg
open PySem PySem.Spec PyProof.Rows L2
/-- drawn parts, of tree kinds ks -/
structure GP (ks : List Str) (ps : List Part) : Prop where
  few : ps.length ≤ 4
  nd : (ps.map (·.1)).Nodup
  each : ∀ p ∈ ps, GN p.1 8 ∧ (p.2 = (("byte" : Str), none) ∨ ∃ k ∈ ks, ∃ c : Int, p.2 = (k, some c) ∧ 1 ≤ c ∧ c ≤ 1000)
theorem but_at {a : Addr} {H H' : Hp} (s : But a H H') {b : Addr} {o : HO} (h : H b = some o) (n : b ≠ a) : H' b = some o := s b o n h
theorem PoolAt.not {H : Hp} {a : Addr} (h : PoolAt H a) : ∀ u, Fixed u → H a ≠ some u := by
  obtain ⟨ns, ha, _⟩ := h; exact notFixed_lst ha
theorem PoolAt.ne_new {H : Hp} {a p : Addr} (h : PoolAt H a) (hp : H p = none) : a ≠ p := by
  obtain ⟨ns, ha, _⟩ := h; exact ne_of_none ha hp
theorem PoolAt.same {H H' : Hp} {a : Addr} (s : Same H H') (h : PoolAt H a) : PoolAt H' a := by
  obtain ⟨ns, ha, l⟩ := h; exact ⟨ns, s _ _ ha, l⟩
theorem PoolAt.upd {H : Hp} {a p : Addr} {o : HO} (h : PoolAt H a) (n : a ≠ p) : PoolAt (upd H p o) a := by
  obtain ⟨ns, ha, l⟩ := h; exact ⟨ns, by rw [upd_ne n]; exact ha, l⟩
section
variable {P : Program} {w : World} {K : PySem.W.Frag} {mg : Str → Option Value} {base : Heap} {fd : FuncData}
def spLParts : Sp := fun vs H Q _ => ∃ (a tn : Addr) (sd : Int) (b : Bool) (ks : List Str), vs = [.ref a, .int sd, .ref tn, .bl b] ∧ PoolAt H a ∧ (0 ≤ sd ∧ sd ≤ 10000000) ∧ H tn = some (.lst (ks.map V.str)) ∧ tn ≠ a ∧ ks.length ≤ 10 ∧
  ∀ v ps H', But a H H' → PoolAt H' a → PartsAt H' v ps → GP ks ps → Q v H'
theorem ok_lparts (T : Tx K mg) (F : FnP K ("_law_parts", none) "_law_parts" "_law_parts" s__law_parts fd) : FnOk P w K mg base CX0 2 (He.fAd K ("_law_parts", none)) fd ["_law_pool_here", "_law_seed", "_law_names", "_law_base_here"] spLParts := by
  obtain ⟨f1, F1⟩ := T.F__law_take
  obtain ⟨f2, F2⟩ := T.F__law_name
  refine F.ok sc__law_parts (fun vs H Q E h => ?_) (fun cdv A outer s H vs Q E hr h => ?_)
  · obtain ⟨_, _, _, _, _, rfl, _⟩ := h; rfl
  obtain ⟨a, tn, sd, b, ks, rfl, hP, hsd, hn, nta, hk, q⟩ := h
  have nd := sc__law_parts.nd
  refine ⟨_, PSs.nox (pss_cons (ps_set (i := 4) nd rfl (.inl rfl) (pe_lst pa_nil)) (pss_cons (ps_set (i := 5) nd rfl (.inl rfl) (pe_lst pa_nil)) (pss_cons (ps_set (i := 6) nd rfl (.inl rfl) pe_int)
    (pss_cons (ps_for PassesOwn.never rfl (pi_range1 rfl T.n_range (pa_cons (pe_op op_mod (pe_callTy call_int1 (by rfl) T.n_int (by decide +kernel) (pa_cons (pe_op op_add pe_int (pe_call (ok_take T F1) hr (by rfl) T.g_law_take T.k_law_take (b__law_take F1) .nil pass0 (pa_cons (pv 0) (pa_cons pe_int pa_nil)))) pa_nil)) pe_int) pa_nil)) (pg_name (i := 7) nd rfl (.inl rfl))
      (pss_cons (ps_expr (pe_bm PySem.F.plainAttrs_list PySem.F.slot_list_append PySem.F.type_list_append mt_append (pv 5) (pa_cons (pe_call (ok_name T F2) hr (by rfl) T.g_law_name T.k_law_name (b__law_name F2) .nil pass0 (pa_cons (pv 1) (pa_cons (pv 7) (pa_cons (pv 5) pa_nil)))) pa_nil)))
      (pss_cons (ps_set (i := 8) nd rfl (.inl rfl) (pe_call (ok_take T F1) hr (by rfl) T.g_law_take T.k_law_take (b__law_take F1) .nil pass0 (pa_cons (pv 0) (pa_cons (pe_op op_add (pe_callB call_len_seq (by rfl) T.n_len PySem.boot_len (pa_cons (pv 2) pa_nil)) pe_int) pa_nil))))
      (pss_cons (ps_set (i := 9) nd rfl (.inl rfl) (pe_op op_add pe_int (pe_call (ok_take T F1) hr (by rfl) T.g_law_take T.k_law_take (b__law_take F1) .nil pass0 (pa_cons (pv 0) (pa_cons (pe_ix ix_list (pe_lst (pa_cons pe_int (pa_cons pe_int pa_nil)))
          (pe_call (ok_take T F1) hr (by rfl) T.g_law_take T.k_law_take (b__law_take F1) .nil pass0 (pa_cons (pv 0) (pa_cons pe_int pa_nil))) (fun _ _ => rfl)) pa_nil)))))
      (pss_one (ps_if (PW.pt (pw_or (pt_cmpR op_eq (pv 8) (pe_callB call_len_seq (by rfl) T.n_len PySem.boot_len (pa_cons (pv 2) pa_nil)) (nomark _)) (pw_or1 (PW.pt (pw_and (pt_val (pv 3)) (pw_and1 (pt_cmpR op_eq (pv 6) pe_int (nomark _))))))))
        (pss_one (ps_expr (pe_bm PySem.F.plainAttrs_list PySem.F.slot_list_append PySem.F.type_list_append mt_append (pv 4) (pa_cons (pe_tup (pa_cons (pe_ix ix_list (pv 5) (pv 7) (fun _ _ => rfl)) (pa_cons pe_str pa_nil))) pa_nil))))
        (pss_cons (ps_set (i := 6) nd rfl (.inl rfl) (pe_op op_add (pv 6) pe_int))
        (pss_one (ps_expr (pe_bm PySem.F.plainAttrs_list PySem.F.slot_list_append PySem.F.type_list_append mt_append (pv 4) (pa_cons (pe_tup (pa_cons (pe_ix ix_list (pv 5) (pv 7) (fun _ _ => rfl)) (pa_cons (pe_ix ix_list (pv 2) (pv 8) (fun _ _ => rfl)) (pa_cons (pv 9) pa_nil)))) pa_nil)))))))))))
    (pss_one (ps_ret (pe_callTy call_tuple_of (by rfl) T.n_tuple (by decide +kernel) (pa_cons (pv 4) pa_nil)))))))), ?_⟩
  refine ⟨Nat.zero_le _, fun p4 hp4 => ⟨Nat.zero_le _, fun p5 hp5 => ?_⟩⟩
  have s1 := (same_new (o := .lst []) hp4).trans (same_new (o := .lst []) hp5)
  have hp50 : H p5 = none := (same_new hp4).free hp5
  have n45 : p4 ≠ p5 := ne_of_none upd_same hp5
  have na4 : a ≠ p4 := hP.ne_new hp4
  have na5 : a ≠ p5 := hP.ne_new hp50
  have nt4 : tn ≠ p4 := ne_of_none hn hp4
  have nt5 : tn ≠ p5 := ne_of_none hn hp50
  refine ⟨_, rfl, a, 5, rfl, hP.same s1, by decide, fun z H1 z0 z1 b1 hP1 => ⟨_, _, rfl, rfl, .inl ⟨_, rfl, _, _, rfl, rfl, (by show (0 : Int) < 5; decide), ?_⟩⟩⟩
  have y0 : 0 ≤ (2 + z) % 5 := Int.emod_nonneg _ (by decide)
  have y1 : (2 + z) % 5 < 5 := Int.emod_lt_of_pos _ (by decide)
  refine ⟨_, rfl, (by show -(2 ^ 62) ≤ (2 + z) % 5; omega), (by show (2 + z) % 5 < 2 ^ 62; omega), for_it walk_range (fun i σ H2 => (∃ tr v7 v8 v9, σ = [some (.ref a), some (.int sd), some (.ref tn), some (.bl b), some (.ref p4), some (.ref p5), some (.int tr), v7, v8, v9]) ∧ But a H H2 ∧ PoolAt H2 a ∧
    ∃ vs ps, H2 p4 = some (.lst vs) ∧ H2 p5 = some (.lst (ps.map fun p => V.str p.1)) ∧ All2 (PartAt H2) vs ps ∧ ps.length = i ∧ (ps.map (·.1)).Nodup ∧ ∀ p ∈ ps, GN p.1 8 ∧ (p.2 = (("byte" : Str), none) ∨ ∃ k ∈ ks, ∃ c : Int, p.2 = (k, some c) ∧ 1 ≤ c ∧ c ≤ 1000)) ?_ (fun _ _ _ _ _ => trivial) ?_ ?_⟩
  · refine ⟨⟨_, _, _, _, rfl⟩, (but_of s1).trans b1, hP1, [], [], b1 _ _ na4.symm (by rw [upd_ne n45, upd_same]), b1 _ _ na5.symm upd_same, All2.nil, rfl, List.nodup_nil, fun p hp => absurd hp (List.not_mem_nil)⟩
  · rintro i y σ H2 H3 hi ⟨⟨tr, v7, v8, v9, rfl⟩, bu, hP2, vs, ps, h4, h5, al, len, ndp, each⟩ ⟨rfl, rfl⟩
    have i4 : i < 4 := by have w : i < ((2 + z) % 5).toNat := hi; omega
    have vl : vs.length = i := by rw [al.1, len]
    have e5 : (ps.map fun p => V.str p.1) = (ps.map (·.1)).map V.str := by rw [List.map_map]; rfl
    refine ⟨_, rfl, .inl ⟨rfl, _, SqL.of h5⟩, _, rfl, _, rfl, _, rfl, sd, _, p5, ps.map (·.1), rfl, hsd, ⟨by omega, by omega⟩, by rw [← e5]; exact SqL.of h5, by rw [List.length_map]; omega, fun x gx hx => ⟨p5, _, _, rfl, rfl, h5, by rw [List.length_map]; exact small1000 (by omega), ?_⟩⟩
    have gx8 : GN x 8 := gx.mono (by rw [List.length_map]; omega)
    -- the pick
    have hn3 : H3 tn = some (.lst (ks.map V.str)) := bu _ _ nta hn
    have hn4 : (upd H3 p5 (.lst ((ps.map fun p => V.str p.1) ++ [.str x]))) tn = some (.lst (ks.map V.str)) := by rw [upd_ne nt5]; exact hn3
    refine ⟨_, rfl, _, rfl, tn, _, rfl, .inl (SqL.of hn4), _, _, rfl, rfl, a, _, rfl, hP2.upd na5, (by rw [List.length_map]; omega), fun pick H5 k0 k1 b5 hP5 => ?_⟩
    rw [List.length_map] at k1
    -- the price
    refine ⟨_, rfl, (by show 2 ≤ sizeLine; decide), fun l hl => ?_⟩
    have nal : a ≠ l := hP5.ne_new hl
    have s6 := same_new (o := .lst [.int 4, .int 1000]) hl
    refine ⟨_, rfl, a, 2, rfl, hP5.same s6, by decide, fun zz H6 zz0 zz1 b6 hP6 => ?_⟩
    have hl6 : H6 l = some (.lst [.int 4, .int 1000]) := b6 _ _ nal.symm upd_same
    obtain ⟨mx, hmx, mx0, mx1⟩ : ∃ mx : Int, atI [V.int 4, V.int 1000] zz = some (.int mx) ∧ 0 < mx ∧ mx ≤ 1000 := by
      have : zz = 0 ∨ zz = 1 := by omega
      rcases this with e | e
      · rw [e]; exact ⟨4, rfl, by decide, by decide⟩
      · rw [e]; exact ⟨1000, rfl, by decide, by decide⟩
    refine ⟨l, _, _, _, rfl, rfl, SqL.of hl6, hmx, a, mx, rfl, hP6, mx0, fun pr H7 pr0 pr1 b7 hP7 => ⟨_, _, rfl, rfl, ?_⟩⟩
    have b57 : But a (upd H3 p5 (.lst ((ps.map fun p => V.str p.1) ++ [.str x]))) H7 := b5.trans ((but_of s6).trans (b6.trans b7))
    have b37 : ∀ c o, c ≠ a → c ≠ p5 → H3 c = some o → H7 c = some o := fun c o n1 n2 e => b57 _ _ n1 (by rw [upd_ne n2]; exact e)
    have bu7 : But a H H7 := fun c o n e => b37 c o n (ne_of_none e hp50) (bu _ _ n e)
    have h57 : H7 p5 = some (.lst ((ps.map fun p => V.str p.1) ++ [.str x])) := b57 _ _ na5.symm upd_same
    have h47 : H7 p4 = some (.lst vs) := b37 _ _ na4.symm n45 h4
    have hn7 : H7 tn = some (.lst (ks.map V.str)) := b37 _ _ nta nt5 hn3
    have t37 : Tups H3 H7 := fun c u f e => b37 c u (fun w => hP2.not u f (w ▸ e)) (fun w => notFixed_lst h5 u f (w ▸ e)) e
    have al7 : All2 (PartAt H7) vs ps := al.mono fun _ _ w => w.mono t37
    have atx : atI ((ps.map fun p => V.str p.1) ++ [V.str x]) ((0 : Int) + (i : Nat)) = some (V.str x) := by
      refine at_nat (j := i) (by omega) ?_
      rw [List.getElem?_append_right (by rw [List.length_map]; omega), List.length_map, len, Nat.sub_self] <;> rfl
    -- one more part
    have more : ∀ (c : Str × Option Int) (t : Addr), H7 t = none → (c = (("byte" : Str), none) ∨ ∃ k ∈ ks, ∃ e : Int, c = (k, some e) ∧ 1 ≤ e ∧ e ≤ 1000) →
        But a H (upd (upd H7 t (.tup (partVs (x, c)))) p4 (.lst (vs ++ [.ref t]))) ∧ PoolAt (upd (upd H7 t (.tup (partVs (x, c)))) p4 (.lst (vs ++ [.ref t]))) a ∧
        ∃ vs' ps', (upd (upd H7 t (.tup (partVs (x, c)))) p4 (.lst (vs ++ [.ref t]))) p4 = some (.lst vs') ∧ (upd (upd H7 t (.tup (partVs (x, c)))) p4 (.lst (vs ++ [.ref t]))) p5 = some (.lst (ps'.map fun p => V.str p.1)) ∧
        All2 (PartAt (upd (upd H7 t (.tup (partVs (x, c)))) p4 (.lst (vs ++ [.ref t])))) vs' ps' ∧ ps'.length = i + 1 ∧ (ps'.map (·.1)).Nodup ∧ ∀ p ∈ ps', GN p.1 8 ∧ (p.2 = (("byte" : Str), none) ∨ ∃ k ∈ ks, ∃ c : Int, p.2 = (k, some c) ∧ 1 ≤ c ∧ c ≤ 1000) := by
      intro c t ht hc
      have n4t : p4 ≠ t := ne_of_none h47 ht
      have n5t : p5 ≠ t := ne_of_none h57 ht
      have nat : a ≠ t := hP7.ne_new ht
      have s8 := same_new (o := .tup (partVs (x, c))) ht
      have t8 : Tups H7 (upd (upd H7 t (.tup (partVs (x, c)))) p4 (.lst (vs ++ [.ref t]))) := Tups.trans (tups_of s8) (tups_upd fun u f w => by rw [upd_ne n4t, h47] at w; cases w; exact f)
      refine ⟨fun d o n e => ?_, (hP7.upd nat).upd na4, vs ++ [.ref t], ps ++ [(x, c)], upd_same, ?_, ?_, ?_, ?_, ?_⟩
      · rw [upd_ne (ne_of_none e hp4)]; exact s8 _ _ (bu7 _ _ n e)
      · rw [upd_ne n45.symm, upd_ne n5t, h57, List.map_append] <;> rfl
      · exact (al7.mono fun _ _ w => w.mono t8).snoc ⟨t, rfl, by rw [upd_ne n4t.symm, upd_same]⟩
      · rw [List.length_append, List.length_singleton, len]
      · rw [List.map_append]
        exact List.nodup_append.mpr ⟨ndp, by simp, fun u hu w hw e => hx (by simp at hw; rw [← hw, ← e]; exact hu)⟩
      · intro p hp
        rcases List.mem_append.mp hp with w | w
        · exact each p w
        · rw [List.mem_singleton.mp w]; exact ⟨gx8, hc⟩
    refine ⟨_, rfl, _, rfl, tn, _, rfl, .inl (SqL.of hn7), rfl, _, rfl, ?_⟩
    have ep : decide (V.int pick = V.int (((ks.map V.str).length : Nat) : Int)) = decide (pick = (ks.length : Int)) := by rw [List.length_map]; simp
    show (if decide (V.int pick = V.int (((ks.map V.str).length : Nat) : Int)) = true then _ else _)
    rw [ep]
    have vlt : vs.length < sizeLine := small1000 (by omega)
    by_cases hpk : pick = (ks.length : Int)
    · rw [decide_eq_true hpk]
      refine iteT (iteT ⟨_, rfl, .inl ⟨rfl, _, SqL.of h47⟩, _, rfl, _, rfl, p5, _, _, _, rfl, rfl, SqL.of h57, atx, (by show 2 ≤ sizeLine; decide), fun t ht => ⟨p4, _, _, rfl, rfl, (same_new ht) _ _ h47, vlt, ⟨_, _, _, _, rfl⟩, more (_, none) t ht (.inl rfl)⟩⟩)
    · rw [decide_eq_false hpk]
      refine iteF ⟨_, rfl, b, rfl, ?_⟩
      have picked : ∃ k, k ∈ ks ∧ atI (ks.map V.str) pick = some (.str k) := by
        have lt : pick.toNat < ks.length := by omega
        refine ⟨ks[pick.toNat], List.getElem_mem lt, at_nat (Int.toNat_of_nonneg k0).symm ?_⟩
        rw [List.getElem?_map, List.getElem?_eq_getElem lt] <;> rfl
      obtain ⟨k, hkin, hka⟩ := picked
      cases b with
      | false =>
        refine iteF (iteF ⟨_, rfl, _, _, rfl, rfl, _, rfl, .inl ⟨rfl, _, SqL.of h47⟩, _, rfl, _, rfl, p5, _, _, _, rfl, rfl, SqL.of h57, atx, _, rfl, _, rfl, tn, _, _, _, rfl, rfl, SqL.of hn7, hka, _, rfl, (by show 3 ≤ sizeLine; decide), fun t ht => ⟨p4, _, _, rfl, rfl, (same_new ht) _ _ h47, vlt, ⟨_, _, _, _, rfl⟩, more (k, some (1 + pr)) t ht (.inr ⟨k, hkin, _, rfl, by omega, by omega⟩)⟩⟩)
      | true =>
        refine iteT ⟨_, rfl, rfl, _, rfl, ite2 (fun h1 => ?_) (fun h1 => ?_)⟩
        · exact ⟨_, rfl, .inl ⟨rfl, _, SqL.of h47⟩, _, rfl, _, rfl, p5, _, _, _, rfl, rfl, SqL.of h57, atx, (by show 2 ≤ sizeLine; decide), fun t ht => ⟨p4, _, _, rfl, rfl, (same_new ht) _ _ h47, vlt, ⟨_, _, _, _, rfl⟩, more (_, none) t ht (.inl rfl)⟩⟩
        · exact ⟨_, rfl, _, _, rfl, rfl, _, rfl, .inl ⟨rfl, _, SqL.of h47⟩, _, rfl, _, rfl, p5, _, _, _, rfl, rfl, SqL.of h57, atx, _, rfl, _, rfl, tn, _, _, _, rfl, rfl, SqL.of hn7, hka, _, rfl, (by show 3 ≤ sizeLine; decide), fun t ht => ⟨p4, _, _, rfl, rfl, (same_new ht) _ _ h47, vlt, ⟨_, _, _, _, rfl⟩, more (k, some (1 + pr)) t ht (.inr ⟨k, hkin, _, rfl, by omega, by omega⟩)⟩⟩
  · rintro σ H2 ⟨⟨tr, v7, v8, v9, rfl⟩, bu, hP2, vs, ps, h4, h5, al, len, ndp, each⟩
    refine ⟨_, rfl, p4, _, rfl, .inl ⟨SqL.of h4, fun t ht => ?_⟩⟩
    have s8 := same_new (o := .tup vs) ht
    exact q (.ref t) ps _ (bu.trans (but_of s8)) (hP2.same s8) ⟨t, vs, rfl, upd_same, al.mono fun _ _ w => w.mono (tups_of s8)⟩ ⟨by rw [len]; omega, ndp, each⟩
end
end Bg
set_option Elab.async false
set_option linter.all false
set_option maxRecDepth 100000
set_option maxHeartbeats 4000000
namespace Bg
open PySem PySem.Spec PyProof.Rows L2
theorem cutV_drop (xs : List V) (j : Nat) : cutV xs (some (j : Int)) none = xs.drop j := by
  unfold cutV
  rw [HT.sIx_nat, HT.sIx_none]
  by_cases h : j ≤ xs.length
  · rw [Nat.min_eq_left h]
    exact List.take_of_length_le (by rw [List.length_drop]; omega)
  · rw [Nat.min_eq_right (by omega), List.drop_of_length_le (Nat.le_refl _), List.drop_of_length_le (by omega), List.take_nil]
theorem cutV_take (xs : List V) (j : Nat) : cutV xs none (some (j : Int)) = xs.take j := by
  unfold cutV
  rw [HT.sIx_nat, HT.sIx_none, List.drop_zero, Nat.sub_zero]
  by_cases h : j ≤ xs.length
  · rw [Nat.min_eq_left h]
  · rw [Nat.min_eq_right (by omega), List.take_of_length_le (Nat.le_refl _), List.take_of_length_le (by omega)]
end Bg
set_option Elab.async false
set_option linter.all false
set_option maxRecDepth 100000
set_option maxHeartbeats 4000000
namespace Bg
open PySem PySem.Spec PyProof.Rows L2
/-! ### a drawn table is valid -/
structure Draw (ns : List Str) (rs : List Row) : Prop where
  n3 : ns.length ≤ 3
  n1 : ns ≠ []
  nd : ns.Nodup
  names : ∀ k ∈ ns, GN k 8 ∧ k ≠ ("byte" : Str)
  each : ∀ r ∈ rs, r.1 ∈ ns ∧ GN r.2.1 13 ∧ GP ns r.2.2
  makers : (rmakers rs).Nodup
  nine : rs.length ≤ 9
  base : ∀ j k, ns[j]? = some k → ∃ r ∈ rs, r.1 = k ∧ GP (ns.drop (j + 1)) r.2.2
theorem GN.short {x : Str} {n : Nat} (h : GN x n) (l : n ≤ 100000) : x.length ≤ 100000 := by rw [str_len]; have := h.len; omega
theorem byte_len : ("byte" : Str).length ≤ 100000 := by decide +kernel
theorem GP.partsB {ks : List Str} {ps : List Part} (h : GP ks ps) (hk : ∀ k ∈ ks, GN k 8 ∧ k ≠ ("byte" : Str)) : partsB ps = true := by
  unfold Bg.partsB
  have e1 : ps.all partB = true := by
    rw [List.all_eq_true]
    intro p hp
    obtain ⟨g, z⟩ := h.each p hp
    obtain ⟨n, k, c⟩ := p
    rcases z with z | ⟨k', hk', c', z, c0, c1⟩
    · cases z; rw [partB_n, g.nameB (by decide), decide_eq_true rfl]; rfl
    · cases z
      obtain ⟨gk, nk⟩ := hk k hk'
      rw [partB_s, g.nameB (by decide)]
      unfold kindB
      rw [gk.nameB (by decide), decide_eq_false nk, decide_eq_true c0, decide_eq_true c1]; rfl
  have e2 : (distinct (ps.map (·.1))).length = ps.length := by rw [distinct_of_nodup h.nd, List.length_map]
  rw [e1, decide_eq_true h.few, decide_eq_true e2]; rfl
theorem Draw.mem {ns : List Str} {rs : List Row} (d : Draw ns rs) {k : Str} (h : k ∈ ns) : k ∈ rkinds rs := by
  obtain ⟨j, hj⟩ := List.getElem?_of_mem h
  obtain ⟨r, hr, e, _⟩ := d.base j k hj
  exact List.mem_map.mpr ⟨r, hr, e⟩
theorem Draw.valid {ns : List Str} {rs : List Row} (d : Draw ns rs) : ValidT rs where
  short := by
    refine ⟨by have := d.nine; omega, fun r hr => ?_⟩
    obtain ⟨h1, h2, h3⟩ := d.each r hr
    refine ⟨(d.names _ h1).1.short (by decide), h2.short (by decide), by have := h3.few; omega, fun p hp => ?_⟩
    obtain ⟨g, z⟩ := h3.each p hp
    refine ⟨g.short (by decide), ?_⟩
    rcases z with z | ⟨k', hk', c', z, _⟩
    · rw [z]; exact byte_len
    · rw [z]; exact (d.names _ hk').1.short (by decide)
  ne := by
    intro z
    obtain ⟨k, r, e⟩ := List.exists_cons_of_ne_nil d.n1
    obtain ⟨r, hr, _⟩ := d.base 0 k (by rw [e]; rfl)
    rw [z] at hr; cases hr
  each := by
    refine ⟨fun r hr => ?_, d.makers, by have := d.nine; omega, ?_⟩
    · obtain ⟨h1, h2, h3⟩ := d.each r hr
      obtain ⟨gk, nk⟩ := d.names _ h1
      refine ⟨?_, h2.nameB (by decide), h3.partsB d.names⟩
      unfold kindB
      rw [gk.nameB (by decide), decide_eq_false nk]; rfl
    · refine Nat.le_trans (nodup_sub_len _ ns (nodup_distinct _) fun k hk => ?_) (by have := d.n3; omega)
      obtain ⟨r, hr, e⟩ := List.mem_map.mp (mem_distinct.mp hk)
      rw [← e]; exact (d.each r hr).1
  inner := fun r hr p hp => by
    rcases ((d.each r hr).2.2.each p hp).2 with z | ⟨k, hk, c, z, _⟩
    · rw [z]; exact .inl rfl
    · rw [z]; exact .inr (d.mem hk)
  fin := by
    refine ⟨fun k => ns.length - 1 - ns.idxOf k, fun k hk => ?_, fun k hk => ?_⟩
    · have h1 : ns.length ≤ (distinct (rkinds rs)).length := nodup_sub_len _ _ d.nd fun x hx => mem_distinct.mpr (d.mem hx)
      have : 0 < ns.length := List.length_pos_iff.mpr d.n1
      show ns.length - 1 - ns.idxOf k < _
      omega
    · obtain ⟨r0, hr0, e0⟩ := List.mem_map.mp hk
      have hkn : k ∈ ns := by rw [← e0]; exact (d.each r0 hr0).1
      obtain ⟨j, hj⟩ := List.getElem?_of_mem hkn
      obtain ⟨r, hr, e, gp⟩ := d.base j k hj
      have ej : ns.idxOf k = j := nd_ix d.nd (mem_idxOf hkn).1 hj
      refine ⟨r, hr, e, fun p hp => ?_⟩
      rcases (gp.each p hp).2 with z | ⟨k', hk', c, z, _⟩
      · rw [z]; exact .inl rfl
      · rw [z]
        have hk2 : k' ∈ ns := List.mem_of_mem_drop hk'
        refine .inr ⟨d.mem hk2, ?_⟩
        obtain ⟨i, hi⟩ := List.getElem?_of_mem hk'
        rw [List.getElem?_drop] at hi
        have ei : ns.idxOf k' = j + 1 + i := nd_ix d.nd (mem_idxOf hk2).1 hi
        have lt := (List.getElem?_eq_some_iff.mp hi).1
        show ns.length - 1 - ns.idxOf k' < ns.length - 1 - ns.idxOf k
        rw [ei, ej]; omega
theorem mem_rot {α : Type} {l : List α} {t : Nat} {x : α} : x ∈ l.drop t ++ l.take t ↔ x ∈ l := by
  rw [List.mem_append]
  constructor
  · intro h
    rcases h with h | h
    · exact List.mem_of_mem_drop h
    · exact List.mem_of_mem_take h
  · intro h
    rw [← List.take_append_drop t l, List.mem_append] at h
    exact h.symm
theorem nodup_rot {α : Type} {l : List α} (h : l.Nodup) (t : Nat) : (l.drop t ++ l.take t).Nodup := by
  rw [← List.take_append_drop t l] at h
  rw [List.nodup_append] at h ⊢
  exact ⟨h.2.1, h.1, fun a ha b hb e => h.2.2 b hb a ha e.symm⟩
theorem Draw.rot {ns : List Str} {rs : List Row} (d : Draw ns rs) (t : Nat) : Draw ns (rs.drop t ++ rs.take t) where
  n3 := d.n3
  n1 := d.n1
  nd := d.nd
  names := d.names
  each := fun r hr => d.each r (mem_rot.mp hr)
  makers := by
    have := nodup_rot d.makers t
    unfold rmakers at *
    rw [List.map_append, List.map_drop, List.map_take]; exact this
  nine := by
    have := d.nine
    rw [List.length_append, List.length_drop, List.length_take]; omega
  base := fun j k h => by
    obtain ⟨r, hr, z⟩ := d.base j k h
    exact ⟨r, mem_rot.mpr hr, z⟩
theorem GP.mono {ks ks' : List Str} (h : ∀ k ∈ ks, k ∈ ks') {ps : List Part} (g : GP ks ps) : GP ks' ps := ⟨g.few, g.nd, fun p hp => ⟨(g.each p hp).1, (g.each p hp).2.imp id fun ⟨k, hk, z⟩ => ⟨k, h k hk, z⟩⟩⟩
theorem All2.drop {α β : Type} {R : α → β → Prop} {vs : List α} {xs : List β} (h : All2 R vs xs) (t : Nat) : All2 R (vs.drop t) (xs.drop t) := ⟨by rw [List.length_drop, List.length_drop, h.1], fun i v x a b => by
  rw [List.getElem?_drop] at a b
  exact h.2 _ v x a b⟩
theorem All2.take {α β : Type} {R : α → β → Prop} {vs : List α} {xs : List β} (h : All2 R vs xs) (t : Nat) : All2 R (vs.take t) (xs.take t) := by
  refine ⟨by rw [List.length_take, List.length_take, h.1], fun i v x a b => ?_⟩
  have lt : i < t := by
    have := (List.getElem?_eq_some_iff.mp a).1
    rw [List.length_take] at this; omega
  rw [List.getElem?_take_of_lt lt] at a b
  exact h.2 _ v x a b
theorem All2.app {α β : Type} {R : α → β → Prop} {vs ws : List α} {xs ys : List β} (h : All2 R vs xs) (h' : All2 R ws ys) : All2 R (vs ++ ws) (xs ++ ys) := by
  refine ⟨by rw [List.length_append, List.length_append, h.1, h'.1], fun i v x a b => ?_⟩
  by_cases hi : i < vs.length
  · rw [List.getElem?_append_left hi] at a
    rw [List.getElem?_append_left (h.1 ▸ hi)] at b
    exact h.2 i v x a b
  · rw [List.getElem?_append_right (by omega)] at a
    rw [List.getElem?_append_right (by rw [← h.1]; omega), ← h.1] at b
    exact h'.2 _ v x a b
end Bg
set_option Elab.async false
set_option linter.all false
set_option maxRecDepth 100000
set_option maxHeartbeats 8000000
namespace Bg
open PySem PySem.Spec PyProof.Rows L2
/-- the rows so far: n kinds done, and of the next one m makers, the base one among them or not -/
structure Half (ns : List Str) (rs : List Row) (n m : Nat) (b : Bool) : Prop where
  each : ∀ r ∈ rs, r.1 ∈ ns ∧ GN r.2.1 13 ∧ GP ns r.2.2
  makers : (rmakers rs).Nodup
  few : rs.length ≤ 3 * n + m
  base : ∀ j k, (j < n ∨ (j = n ∧ b = true)) → ns[j]? = some k → ∃ r ∈ rs, r.1 = k ∧ GP (ns.drop (j + 1)) r.2.2
section
variable {P : Program} {w : World} {K : PySem.W.Frag} {mg : Str → Option Value} {base : Heap} {fd : FuncData}
def spRows : Sp := fun vs H Q _ => ∃ (a : Addr), vs = [.ref a] ∧ PoolAt H a ∧ ∀ l rs ns H', But a H H' → PoolAt H' a → H l = none → RowsAt H' l rs → Draw ns rs → Q (.ref l) H'
theorem ok_rows (T : Tx K mg) (F : FnP K ("_law_rows", none) "_law_rows" "_law_rows" s__law_rows fd) : FnOk P w K mg base CX0 3 (He.fAd K ("_law_rows", none)) fd ["_law_pool_here"] spRows := by
  obtain ⟨f1, F1⟩ := T.F__law_take
  obtain ⟨f2, F2⟩ := T.F__law_name
  obtain ⟨f3, F3⟩ := T.F__law_parts
  refine F.ok sc__law_rows (fun vs H Q E h => ?_) (fun cdv A outer s H vs Q E hr h => ?_)
  · obtain ⟨_, rfl, _⟩ := h; rfl
  obtain ⟨a, rfl, hP, q⟩ := h
  have nd := sc__law_rows.nd
  have hr1 : Room 1 _ := hr.mono (by decide)
  refine ⟨_, PSs.nox (pss_cons (ps_set (i := 1) nd rfl (.inl rfl) (pe_call (ok_take T F1) hr1 (by rfl) T.g_law_take T.k_law_take (b__law_take F1) .nil pass0 (pa_cons (pv 0) (pa_cons pe_int pa_nil))))
    (pss_cons (ps_set (i := 2) nd rfl (.inl rfl) (pe_lst pa_nil))
    (pss_cons (ps_for PassesOwn.never rfl (pi_range1 rfl T.n_range (pa_cons (pe_op op_add pe_int (pe_call (ok_take T F1) hr1 (by rfl) T.g_law_take T.k_law_take (b__law_take F1) .nil pass0 (pa_cons (pv 0) (pa_cons pe_int pa_nil)))) pa_nil)) (pg_name (i := 3) nd rfl (.inl rfl))
      (pss_one (ps_expr (pe_bm PySem.F.plainAttrs_list PySem.F.slot_list_append PySem.F.type_list_append mt_append (pv 2)
        (pa_cons (pe_call (ok_name T F2) hr1 (by rfl) T.g_law_name T.k_law_name (b__law_name F2) .nil pass0 (pa_cons (pv 1) (pa_cons (pv 3) (pa_cons (pe_op op_cat (pe_lst (pa_cons pe_str pa_nil)) (pv 2)) pa_nil)))) pa_nil)))))
    (pss_cons (ps_set (i := 4) nd rfl (.inl rfl) (pe_lst pa_nil))
    (pss_cons (ps_for PassesOwn.never rfl (pi_range1 rfl T.n_range (pa_cons (pe_callB call_len_seq (by rfl) T.n_len PySem.boot_len (pa_cons (pv 2) pa_nil)) pa_nil)) (pg_name (i := 3) nd rfl (.inl rfl))
      (pss_cons (ps_set (i := 5) nd rfl (.inl rfl) (pe_op op_add pe_int (pe_op op_mod (pe_callTy call_int1 (by rfl) T.n_int (by decide +kernel) (pa_cons (pe_op op_add pe_int (pe_call (ok_take T F1) hr1 (by rfl) T.g_law_take T.k_law_take (b__law_take F1) .nil pass0 (pa_cons (pv 0) (pa_cons pe_int pa_nil)))) pa_nil)) pe_int)))
      (pss_cons (ps_set (i := 6) nd rfl (.inl rfl) (pe_call (ok_take T F1) hr1 (by rfl) T.g_law_take T.k_law_take (b__law_take F1) .nil pass0 (pa_cons (pv 0) (pa_cons (pv 5) pa_nil))))
      (pss_one (ps_for PassesOwn.never rfl (pi_range1 rfl T.n_range (pa_cons (pv 5) pa_nil)) (pg_name (i := 7) nd rfl (.inl rfl))
        (pss_cons (ps_set (i := 8) nd rfl (.inl rfl) (pe_call (ok_name T F2) hr1 (by rfl) T.g_law_name T.k_law_name (b__law_name F2) .nil pass0 (pa_cons (pe_op op_fdiv (pv 1) pe_int) (pa_cons (pe_callB call_len_seq (by rfl) T.n_len PySem.boot_len (pa_cons (pv 4) pa_nil))
            (pa_cons (pe_lc (own := [("_law_row", 11)]) (g := gName 11) (tt := tYes) (te := tOp (rIxT K) (tVar 11) (tC (.int 1))) rfl nd (pi_list (pv 4)) (blkOk_by (N := ["_law_pool_here", "_law_seed", "_law_names", "_law_k", "_law_rows_here", "_law_count", "_law_base_here", "_law_at", "_law_maker", "_law_inner", "_law_turn", "_law_row"]) (sc := defScope s__law_rows) (by decide +kernel))
              (fun _ _ _ _ _ => pg_name (i := 11) nd rfl (Or.inl rfl)) (fun _ _ _ _ _ => pts_nil) (fun _ _ _ _ _ => pe_ix (r := rIxT K) ix_tup (pv 11) pe_int (fun _ _ => rfl))) pa_nil)))))
        (pss_cons (ps_set (i := 9) nd rfl (.inl rfl) (pv 2))
        (pss_cons (ps_if (pt_cmpR op_eq (pv 7) (pv 6) (nomark _)) (pss_one (ps_set (i := 9) nd rfl (.inl rfl) (pe_slice sl_list (pv 2) (po_some (pe_op op_add (pv 3) pe_int)) po_none))) pss_nil)
        (pss_one (ps_expr (pe_bm PySem.F.plainAttrs_list PySem.F.slot_list_append PySem.F.type_list_append mt_append (pv 4) (pa_cons (pe_tup (pa_cons (pe_ix ix_list (pv 2) (pv 3) (fun _ _ => rfl)) (pa_cons (pv 8)
          (pa_cons (pe_call (ok_lparts T F3) hr (by rfl) T.g_law_parts T.k_law_parts (b__law_parts F3) .nil pass0 (pa_cons (pv 0) (pa_cons (pe_op op_add (pe_op op_fdiv (pv 1) pe_int) (pe_op op_fdiv (pe_callB call_len_seq (by rfl) T.n_len PySem.boot_len (pa_cons (pv 4) pa_nil)) pe_int))
            (pa_cons (pv 9) (pa_cons (pe_cmpR op_eq (pv 7) (pv 6) (nomark _)) pa_nil))))) pa_nil)))) pa_nil))))))))))))
    (pss_cons (ps_set (i := 10) nd rfl (.inl rfl) (pe_call (ok_take T F1) hr1 (by rfl) T.g_law_take T.k_law_take (b__law_take F1) .nil pass0 (pa_cons (pv 0) (pa_cons (pe_callB call_len_seq (by rfl) T.n_len PySem.boot_len (pa_cons (pv 4) pa_nil)) pa_nil))))
    (pss_one (ps_ret (pe_op op_cat (pe_slice sl_list (pv 4) (po_some (pv 10)) po_none) (pe_slice sl_list (pv 4) po_none (po_some (pv 10)))))))))))), ?_⟩
  -- seed, names
  refine ⟨_, rfl, a, _, rfl, hP, by decide, fun sd H1 sd0 sd1 b1 hP1 => ?_⟩
  refine ⟨Nat.zero_le _, fun tn htn => ?_⟩
  have nat : a ≠ tn := hP1.ne_new htn
  have bt : But a H (upd H1 tn (.lst [])) := b1.trans (but_of (same_new htn))
  have hP2 : PoolAt (upd H1 tn (.lst [])) a := hP1.upd nat
  have htn0 : H tn = none := by
    cases e : H tn with
    | none => rfl
    | some o => exact absurd (b1 _ _ nat.symm e) (by rw [htn]; exact fun z => nomatch z)
  refine ⟨_, rfl, a, 3, rfl, hP2, by decide, fun z3 H3 z30 z31 b3 hP3 => ⟨_, _, rfl, rfl, _, rfl, by show -(2 ^ 62) ≤ 1 + z3; omega, by show 1 + z3 < 2 ^ 62; omega, ?_⟩⟩
  refine for_it walk_range (fun i σ H4 => (∃ v3 v4 v5 v6 v7 v8 v9 v10 v11, σ = [some (.ref a), some (.int sd), some (.ref tn), v3, v4, v5, v6, v7, v8, v9, v10, v11]) ∧ But a H H4 ∧ PoolAt H4 a ∧
    ∃ ns : List Str, H4 tn = some (.lst (ns.map V.str)) ∧ ns.length = i ∧ ns.Nodup ∧ ∀ k ∈ ns, GN k 8 ∧ k ≠ ("byte" : Str)) ?_ (fun _ _ _ _ _ => trivial) ?_ ?_
  · exact ⟨⟨_, _, _, _, _, _, _, _, _, rfl⟩, bt.trans b3, hP3, [], b3 _ _ nat.symm upd_same, rfl, List.nodup_nil, fun k hk => absurd hk List.not_mem_nil⟩
  · rintro i y σ H4 H5 hi ⟨⟨v3, v4, v5, v6, v7, v8, v9, v10, v11, rfl⟩, bu, hP4, ns, hn, len, nnd, each⟩ ⟨rfl, rfl⟩
    have i3 : i < 3 := by have z : i < (1 + z3).toNat := hi; omega
    refine ⟨_, rfl, .inl ⟨rfl, _, SqL.of hn⟩, _, rfl, _, rfl, (by show 1 ≤ sizeLine; decide), fun l1 hl1 => ?_⟩
    have s5 := same_new (o := .lst [.str ("byte" : Str)]) hl1
    have hn5 := s5 _ _ hn
    refine ⟨_, rfl, l1, tn, _, _, rfl, rfl, upd_same, hn5, ?_, fun l2 hl2 => ?_⟩
    · show 1 + (ns.map V.str).length ≤ sizeLine
      rw [List.length_map]; exact sz_of (by omega)
    have s6 := same_new (o := .lst ([.str ("byte" : Str)] ++ ns.map V.str)) hl2
    refine ⟨sd, _, l2, ("byte" : Str) :: ns, rfl, ⟨sd0, by omega⟩, ⟨by omega, by omega⟩, SqL.of upd_same, by rw [List.length_cons]; omega, fun x gx hx => ?_⟩
    have gx8 : GN x 8 := gx.mono (by rw [List.length_cons]; omega)
    have hn6 := s6 _ _ hn5
    refine ⟨tn, _, _, rfl, rfl, hn6, (by rw [List.length_map]; exact small1000 (by omega)), ⟨_, _, _, _, _, _, _, _, _, rfl⟩, ?_, ?_, ns ++ [x], ?_, ?_, ?_, ?_⟩
    · intro c o n e
      rw [upd_ne (ne_of_none e htn0)]; exact s6 _ _ (s5 _ _ (bu _ _ n e))
    · exact ((hP4.same s5).same s6).upd nat
    · rw [upd_same, List.map_append] <;> rfl
    · rw [List.length_append, List.length_singleton, len]
    · exact List.nodup_append.mpr ⟨nnd, by simp, fun u hu w hw e => hx (by simp at hw; rw [← hw, ← e]; exact List.mem_cons_of_mem _ hu)⟩
    · intro k hk
      rcases List.mem_append.mp hk with w | w
      · exact each k w
      · rw [List.mem_singleton.mp w]; exact ⟨gx8, fun e => hx (by rw [e]; exact List.mem_cons_self ..)⟩
  rintro σ H4 ⟨⟨v3, v4, v5, v6, v7, v8, v9, v10, v11, rfl⟩, bu4, hP4, ns, hn4, len, nnd, names⟩
  have n3 : ns.length ≤ 3 := by rw [len]; omega
  have n1 : ns ≠ [] := by intro z; rw [z] at len; have : (0 : Nat) = (1 + z3).toNat := len; omega
  -- rows
  refine ⟨Nat.zero_le _, fun rl hrl => ?_⟩
  have nar : a ≠ rl := hP4.ne_new hrl
  have ntr : tn ≠ rl := ne_of_none hn4 hrl
  have hrl0 : H rl = none := by
    cases e : H rl with
    | none => rfl
    | some o => exact absurd (bu4 _ _ nar.symm e) (by rw [hrl]; exact fun z => nomatch z)
  have hn4' : (upd H4 rl (.lst [])) tn = some (.lst (ns.map V.str)) := by rw [upd_ne ntr]; exact hn4
  refine ⟨_, rfl, tn, _, rfl, .inl (SqL.of hn4'), _, rfl, by show -(2 ^ 62) ≤ (((ns.map V.str).length : Nat) : Int); omega, by show (((ns.map V.str).length : Nat) : Int) < 2 ^ 62; rw [List.length_map]; omega, ?_⟩
  have elen : (((ns.map V.str).length : Nat) : Int).toNat = ns.length := by rw [List.length_map]; omega
  refine for_it walk_range (fun i σ H5 => (∃ v3 v5 v6 v7 v8 v9 v10 v11, σ = [some (.ref a), some (.int sd), some (.ref tn), v3, some (.ref rl), v5, v6, v7, v8, v9, v10, v11]) ∧ But a H H5 ∧ PoolAt H5 a ∧ H5 tn = some (.lst (ns.map V.str)) ∧
    ∃ vs rs, H5 rl = some (.lst vs) ∧ All2 (RowAt H5) vs rs ∧ Half ns rs i 0 false) ?_ (fun _ _ _ _ _ => trivial) ?_ ?_
  · exact ⟨⟨_, _, _, _, _, _, _, _, rfl⟩, bu4.trans (but_of (same_new hrl)), hP4.upd nar, hn4', [], [], upd_same, All2.nil, ⟨fun r hr => absurd hr List.not_mem_nil, List.nodup_nil, Nat.zero_le _, fun j k hj _ => by rcases hj with z | z; exact absurd z (Nat.not_lt_zero _); exact absurd z.2 (by decide)⟩⟩
  · rintro i y σ H5 H6 hi ⟨⟨v3, v5, v6, v7, v8, v9, v10, v11, rfl⟩, bu5, hP5, hn5, vs, rs, hl5, al5, half⟩ ⟨rfl, rfl⟩
    have ilt : i < ns.length := by have z : i < (((ns.map V.str).length : Nat) : Int).toNat := hi; rw [elen] at z; exact z
    -- count
    refine ⟨_, rfl, a, 3, rfl, hP5, by decide, fun ct H7 ct0 ct1 b7 hP7 => ⟨_, _, rfl, rfl, .inl ⟨_, rfl, _, _, rfl, rfl, (by show (0 : Int) < 3; decide), _, _, rfl, rfl, ?_⟩⟩⟩
    have c0 : 0 ≤ (1 + ct) % 3 := Int.emod_nonneg _ (by decide)
    have c1 : (1 + ct) % 3 < 3 := Int.emod_lt_of_pos _ (by decide)
    -- base
    refine ⟨_, rfl, _, rfl, a, _, rfl, hP7, (by show (0 : Int) < 1 + (1 + ct) % 3; omega), fun bs H8 bs0 bs1 b8 hP8 => ?_⟩
    have b68 := b7.trans b8
    refine ⟨_, rfl, _, rfl, by show -(2 ^ 62) ≤ 1 + (1 + ct) % 3; omega, by show 1 + (1 + ct) % 3 < 2 ^ 62; omega, ?_⟩
    have t68 : Tups H6 H8 := but_tups b68 hP5.not
    refine for_it walk_range (fun m σ H9 => (∃ v7 v8 v9 v10 v11, σ = [some (.ref a), some (.int sd), some (.ref tn), some (.int (0 + (i : Nat))), some (.ref rl), some (.int (1 + (1 + ct) % 3)), some (.int bs), v7, v8, v9, v10, v11]) ∧ But a H H9 ∧ PoolAt H9 a ∧ H9 tn = some (.lst (ns.map V.str)) ∧
      ∃ vs rs, H9 rl = some (.lst vs) ∧ All2 (RowAt H9) vs rs ∧ Half ns rs i m (decide (bs < (m : Int)))) ?_ (fun _ _ _ _ _ => trivial) ?_ ?_
    · refine ⟨⟨_, _, _, _, _, rfl⟩, bu5.trans b68, hP8, b68 _ _ nat.symm hn5, vs, rs, b68 _ _ nar.symm hl5, al5.mono fun _ _ w => w.mono t68, half.each, half.makers, half.few, fun j k hj hk => ?_⟩
      refine half.base j k (hj.imp id fun z => ?_) hk
      have z2 : bs < ((0 : Nat) : Int) := of_decide_eq_true z.2
      exact absurd z2 (by omega)
    · rintro m y σ H9 H10 hm ⟨⟨v7, v8, v9, v10, v11, rfl⟩, bu9, hP9, hn9, vs, rs, hl9, al9, half⟩ ⟨rfl, rfl⟩
      have m3 : m < 3 := by have z : m < (1 + (1 + ct) % 3).toNat := hm; omega
      have rlen : rs.length ≤ 3 * 2 + 2 := by have := half.few; omega
      have hdiv0 : 0 ≤ sd / 2 ∧ sd / 2 ≤ 10000000 := ⟨by omega, by omega⟩
      -- the maker
      refine ⟨_, rfl, _, _, rfl, rfl, ⟨by decide, by decide⟩, _, rfl, rl, _, rfl, .inl (SqL.of hl9), _, rfl, rl, rfl, ⟨_, SqL.of hl9⟩, fun D hD => ?_⟩
      have naD : a ≠ D := hP9.ne_new hD
      refine lc_it (walk_list (K := K) (a := rl) (xs := vs)) (fun j H11 => Same H10 H11 ∧ H11 D = some (.lst ((rmakers (rs.take j)).map V.str))) ⟨same_new hD, upd_same⟩ (fun j H11 _ z => SqL.of (z.1 _ _ hl9)) ?_ ?_
      · rintro j x H11 H12 hj ⟨sm, hDj⟩ ⟨rfl, hx⟩
        obtain ⟨r, hrr, b, u, rfl, hb, pa⟩ := al9.get hx
        refine ⟨rfl, _, rfl, b, _, _, _, rfl, rfl, SqT.of (sm _ _ hb), atI_nat (j := 1) rfl, _, hDj, ?_, same_mut sm hD, ?_⟩
        · unfold rmakers; rw [List.length_map, List.length_map, List.length_take]; exact small1000 (by omega)
        · rw [upd_same, rmakers_take_succ hrr, List.map_append] <;> rfl
      rintro H11 ⟨s11, hD11⟩
      rw [al9.1, List.take_length] at hD11
      refine ⟨_, _, D, rmakers rs, rfl, hdiv0, ⟨by show (0 : Int) ≤ ((vs.length : Nat) : Int); omega, by show ((vs.length : Nat) : Int) ≤ 1000; rw [al9.1]; omega⟩, SqL.of hD11, by unfold rmakers; rw [List.length_map]; omega, fun x gx hx => ?_⟩
      have gx13 : GN x 13 := gx.mono (by unfold rmakers; rw [List.length_map]; omega)
      have hn11 := s11 _ _ hn9
      have hl11 := s11 _ _ hl9
      have hP11 := hP9.same s11
      have t911 := tups_of s11
      -- one more row, from the inner list li of kinds ks
      have more : ∀ (H12 : Hp) (li : Addr) (ks : List Str) (isb : Bool), Same H11 H12 → H12 li = some (.lst (ks.map V.str)) → li ≠ a → ks.length ≤ 3 → (∀ k ∈ ks, k ∈ ns) → (isb = true → ks = ns.drop (i + 1)) → (isb = decide ((m : Int) = bs)) →
          ∃ k, atI (ns.map V.str) (0 + (i : Nat)) = some (.str k) ∧ ∀ v ps H13, But a H12 H13 → PoolAt H13 a → PartsAt H13 v ps → GP ks ps → ∀ t, H13 t = none → H13 rl = some (.lst vs) ∧ ∀ (Q' : Hp → Prop),
            (∀ H14 vs' rs', But a H H14 → PoolAt H14 a → H14 tn = some (.lst (ns.map V.str)) → H14 rl = some (.lst vs') → All2 (RowAt H14) vs' rs' → Half ns rs' i (m + 1) (decide (bs < ((m + 1 : Nat) : Int))) → Q' H14) → Q' (upd (upd H13 t (.tup [.str k, .str x, v])) rl (.lst (vs ++ [.ref t]))) := by
        intro H12 li ks isb s12 hli nla lks sub hb1 hb2
        have hP12 := hP11.same s12
        obtain ⟨k, hk⟩ : ∃ k, ns[i]? = some k := ⟨ns[i], List.getElem?_eq_getElem ilt⟩
        refine ⟨k, at_nat (j := i) (by omega) (by rw [List.getElem?_map, hk]; rfl), fun v ps H13 b13 hP13 hps gp t ht => ?_⟩
        have t913 : Tups H10 H13 := Tups.trans t911 (Tups.trans (tups_of s12) (but_tups b13 hP12.not))
        have hl13 : H13 rl = some (.lst vs) := b13 _ _ nar.symm (s12 _ _ hl11)
        refine ⟨hl13, fun Q' fin => ?_⟩
        have nrt : rl ≠ t := ne_of_none hl13 ht
        have nat' : a ≠ t := hP13.ne_new ht
        have ntt : tn ≠ t := ne_of_none (b13 _ _ nat.symm (s12 _ _ hn11)) ht
        have s14 := same_new (o := .tup [.str k, .str x, v]) ht
        have t14 : Tups H13 (upd (upd H13 t (.tup [.str k, .str x, v])) rl (.lst (vs ++ [.ref t]))) := Tups.trans (tups_of s14) (tups_upd fun u f w => by rw [upd_ne nrt, hl13] at w; cases w; exact f)
        refine fin _ (vs ++ [.ref t]) (rs ++ [(k, x, ps)]) ?_ ((hP13.upd nat').upd nar) (by rw [upd_ne ntr, upd_ne ntt]; exact b13 _ _ nat.symm (s12 _ _ hn11)) upd_same ?_ ?_
        · intro c o n e
          rw [upd_ne (ne_of_none e hrl0)]
          exact s14 _ _ (b13 _ _ n (s12 _ _ (s11 _ _ (bu9 _ _ n e))))
        · exact (al9.mono fun _ _ w => w.mono (Tups.trans t913 t14)).snoc ⟨t, v, rfl, by rw [upd_ne nrt.symm, upd_same], hps.mono t14⟩
        · have hkn : k ∈ ns := List.mem_of_getElem? hk
          refine ⟨fun r hr' => ?_, ?_, ?_, fun j k' hj hk' => ?_⟩
          · rcases List.mem_append.mp hr' with w | w
            · exact half.each r w
            · rw [List.mem_singleton.mp w]; exact ⟨hkn, gx13, gp.mono sub⟩
          · unfold rmakers at hx ⊢
            rw [List.map_append]
            exact List.nodup_append.mpr ⟨half.makers, by simp, fun u hu w hw e => hx (by simp at hw; rw [← hw, ← e]; exact hu)⟩
          · rw [List.length_append, List.length_singleton]; have := half.few; omega
          · by_cases hj2 : j < i ∨ (j = i ∧ decide (bs < (m : Int)) = true)
            · obtain ⟨r, hr', w⟩ := half.base j k' hj2 hk'
              exact ⟨r, List.mem_append_left _ hr', w⟩
            · have hji : j = i := by
                rcases hj with w | w
                · exact absurd (.inl w) hj2
                · exact w.1
              have hbm : (m : Int) = bs := by
                have w1 : ¬ bs < (m : Int) := fun w => hj2 (.inr ⟨hji, decide_eq_true w⟩)
                have w2 : bs < ((m + 1 : Nat) : Int) := by
                  rcases hj with w | w
                  · exact absurd (.inl w) hj2
                  · exact of_decide_eq_true w.2
                omega
              have hks : ks = ns.drop (i + 1) := hb1 (by rw [hb2]; exact decide_eq_true hbm)
              rw [hji] at hk' ⊢
              rw [hk] at hk'
              cases hk'
              exact ⟨_, List.mem_append_right _ (List.mem_singleton.mpr rfl), rfl, by rw [← hks]; exact gp⟩
      -- inner
      refine ⟨_, rfl, ?_⟩
      have hdv : 0 ≤ sd / 3 + ((vs.length : Nat) : Int) / 2 ∧ sd / 3 + ((vs.length : Nat) : Int) / 2 ≤ 10000000 := by rw [al9.1]; omega
      have vl : vs.length < sizeLine := by rw [al9.1]; exact small1000 (by omega)
      have edec : decide (V.int (0 + (m : Nat)) = V.int bs) = decide ((m : Int) = bs) := by simp
      refine ⟨_, rfl, _, rfl, rfl, _, rfl, ?_⟩
      show (if decide (V.int (0 + (m : Nat)) = V.int bs) = true then _ else _)
      rw [edec]
      by_cases hb : (m : Int) = bs
      · rw [decide_eq_true hb]
        refine iteT ⟨_, rfl, _, rfl, _, _, rfl, rfl, _, rfl, tn, _, rfl, SqL.of hn11, fun li hli => ?_⟩
        have s12 := same_new (o := .lst (cutV (ns.map V.str) (some (0 + (i : Nat) + 1)) none)) hli
        have ecut : cutV (ns.map V.str) (some (0 + (i : Nat) + 1)) none = (ns.drop (i + 1)).map V.str := by
          rw [show (0 + (i : Nat) + 1 : Int) = ((i + 1 : Nat) : Int) by omega, cutV_drop, List.map_drop]
        obtain ⟨k, hka, go⟩ := more _ li (ns.drop (i + 1)) true s12 (by rw [upd_same, ecut]) (hP11.ne_new hli).symm (by rw [List.length_drop]; omega) (fun k hk => List.mem_of_mem_drop hk) (fun _ => rfl) (decide_eq_true hb).symm
        refine ⟨_, rfl, .inl ⟨rfl, _, SqL.of (s12 _ _ hl11)⟩, _, rfl, _, rfl, tn, _, _, _, rfl, rfl, SqL.of (s12 _ _ hn11), hka, _, rfl, _, rfl, _, rfl, _, _, rfl, rfl, ⟨by decide, by decide⟩, _, rfl, rl, _, rfl, .inl (SqL.of (s12 _ _ hl11)), _, _, rfl, rfl, ⟨by decide, by decide⟩, _, _, rfl, rfl, _, rfl, _, rfl, _, rfl, rfl,
          a, li, _, decide (V.int (0 + (m : Nat)) = V.int bs), ns.drop (i + 1), rfl, hP11.same s12, hdv, by rw [upd_same, ecut], (hP11.ne_new hli).symm, by rw [List.length_drop]; omega, fun v ps H13 b13 hP13 hps gp => ⟨by show 3 ≤ sizeLine; decide, fun t ht => ?_⟩⟩
        obtain ⟨g1, g2⟩ := go v ps H13 b13 hP13 hps gp t ht
        exact ⟨rl, _, _, rfl, rfl, (same_new ht) _ _ g1, vl, g2 _ fun H14 vs' rs' b14 hP14 hn14 hl14 al14 half14 => ⟨⟨_, _, _, _, _, rfl⟩, b14, hP14, hn14, vs', rs', hl14, al14, half14⟩⟩
      · rw [decide_eq_false hb]
        refine iteF ?_
        obtain ⟨k, hka, go⟩ := more _ tn ns false (Same.refl _) hn11 nat.symm n3 (fun k hk => hk) (fun z => absurd z (by decide)) (decide_eq_false hb).symm
        refine ⟨_, rfl, .inl ⟨rfl, _, SqL.of hl11⟩, _, rfl, _, rfl, tn, _, _, _, rfl, rfl, SqL.of hn11, hka, _, rfl, _, rfl, _, rfl, _, _, rfl, rfl, ⟨by decide, by decide⟩, _, rfl, rl, _, rfl, .inl (SqL.of hl11), _, _, rfl, rfl, ⟨by decide, by decide⟩, _, _, rfl, rfl, _, rfl, _, rfl, _, rfl, rfl,
          a, tn, _, decide (V.int (0 + (m : Nat)) = V.int bs), ns, rfl, hP11, hdv, hn11, nat.symm, by omega, fun v ps H13 b13 hP13 hps gp => ⟨by show 3 ≤ sizeLine; decide, fun t ht => ?_⟩⟩
        obtain ⟨g1, g2⟩ := go v ps H13 b13 hP13 hps gp t ht
        exact ⟨rl, _, _, rfl, rfl, (same_new ht) _ _ g1, vl, g2 _ fun H14 vs' rs' b14 hP14 hn14 hl14 al14 half14 => ⟨⟨_, _, _, _, _, rfl⟩, b14, hP14, hn14, vs', rs', hl14, al14, half14⟩⟩
    · rintro σ H9 ⟨⟨v7, v8, v9, v10, v11, rfl⟩, bu9, hP9, hn9, vs, rs, hl9, al9, half⟩
      refine ⟨⟨_, _, _, _, _, _, _, _, rfl⟩, bu9, hP9, hn9, vs, rs, hl9, al9, half.each, half.makers, ?_, fun j k hj hk => ?_⟩
      · have h1 := half.few
        have h2 : (1 + (1 + ct) % 3).toNat ≤ 3 := by omega
        omega
      · refine half.base j k ?_ hk
        rcases hj with z | z
        · by_cases e : j = i
          · exact .inr ⟨e, decide_eq_true (by omega)⟩
          · exact .inl (by omega)
        · exact absurd z.2 (by decide)
  · rintro σ H5 ⟨⟨v3, v5, v6, v7, v8, v9, v10, v11, rfl⟩, bu5, hP5, hn5, vs, rs, hl5, al5, half⟩
    rw [elen] at half
    have draw : Draw ns rs := ⟨n3, n1, nnd, names, half.each, half.makers, by have := half.few; omega, fun j k hk => half.base j k (.inl (List.getElem?_eq_some_iff.mp hk).1) hk⟩
    have rpos : 0 < rs.length := List.length_pos_iff.mpr draw.valid.ne
    refine ⟨_, rfl, _, rfl, rl, _, rfl, .inl (SqL.of hl5), a, _, rfl, hP5, (by show (0 : Int) < ((vs.length : Nat) : Int); rw [al5.1]; omega), fun tu H6 tu0 tu1 b6 hP6 => ?_⟩
    have hl6 : H6 rl = some (.lst vs) := b6 _ _ nar.symm hl5
    have etu : tu = ((tu.toNat : Nat) : Int) := (Int.toNat_of_nonneg tu0).symm
    refine ⟨_, rfl, _, rfl, _, rfl, rl, _, rfl, SqL.of hl6, fun l1 hl1 => ?_⟩
    have s7 := same_new (o := .lst (cutV vs (some tu) none)) hl1
    refine ⟨_, rfl, _, rfl, _, rfl, rl, _, rfl, SqL.of (s7 _ _ hl6), fun l2 hl2 => ?_⟩
    have s8 := same_new (o := .lst (cutV vs none (some tu))) hl2
    have e1 : cutV vs (some tu) none = vs.drop tu.toNat := by rw [etu, cutV_drop]; rfl
    have e2 : cutV vs none (some tu) = vs.take tu.toNat := by rw [etu, cutV_take]; rfl
    refine ⟨l1, l2, _, _, rfl, rfl, s8 _ _ upd_same, upd_same, ?_, fun l3 hl3 => ?_⟩
    · rw [e1, e2, List.length_drop, List.length_take, al5.1]; have := half.few; exact sz_of (by omega)
    have s9 := same_new (o := .lst (cutV vs (some tu) none ++ cutV vs none (some tu))) hl3
    have s69 := (s7.trans s8).trans s9
    have bb : But a H _ := (bu5.trans b6).trans (but_of s69)
    have t59 : Tups H5 _ := Tups.trans (but_tups b6 hP5.not) (tups_of s69)
    have hl30 : H l3 = none := by
      cases e : H l3 with
      | none => rfl
      | some o =>
        have n : l3 ≠ a := fun w => by
          have := (hP6.same (s7.trans s8)).ne_new hl3
          exact this w.symm
        have := (s7.trans s8) _ _ (b6 _ _ n (bu5 _ _ n e))
        rw [hl3] at this; cases this
    refine q l3 (rs.drop tu.toNat ++ rs.take tu.toNat) ns _ bb (hP6.same s69) hl30 ⟨vs.drop tu.toNat ++ vs.take tu.toNat, by rw [upd_same, e1, e2], ?_⟩ (draw.rot _)
    exact ((al5.drop _).app (al5.take _)).mono fun _ _ w => w.mono t59
end
end Bg
set_option Elab.async false
set_option linter.all false
set_option maxRecDepth 100000
set_option maxHeartbeats 4000000
/-! the methods of a kinds table whose dicts are told -/
namespace Bg
open PySem PySem.Spec PyProof.Rows L2
section
variable {P : Program} {w : World} {K : PySem.W.Frag} {mg : Str → Option Value} {base : Heap} {fd : FuncData}
theorem op_inOwn {X : Cx} {CX : CXT} {n : Nat} {C f : Addr} {fd : FuncData} {ps : List Str} {sp : Sp} {E : XK} (F : FnOk X.prog X.w X.K X.mg X.base CX n f fd ps sp) (hr : Room n X.A) (m : Meth X.K C "__contains__" f) (hb : Binds X.K fd ps []) (hx : Passes CX X E) :
    OpR X (compareOp .In) (fun x y H Q => ∃ a dx fs, y = .ref a ∧ H a = some (.ins C dx fs) ∧ sp [.ref a, x] H (fun v H' => ∃ b, v = .bl b ∧ Q (.bl b) H') E) := by
  intro pins s σ H x y v u Q I rx ry h
  obtain ⟨a, dx, fs, rfl, ha, q⟩ := h
  cases ry
  obtain ⟨mA, J, _⟩ := ins_get I.hok ha
  obtain ⟨od, J, _⟩ := J.look
  obtain ⟨m', hF⟩ := I.fr
  refine PySem.W.in_K hF I.ok.mod.kin J m.at_ m.fn ?_
  refine thn (run_fn F hr hb .nil hx I (.cons (show RelV (V.ref a) (Value.ref a) from rfl) (.cons rx .nil)) q) fun r s' z => ?_
  obtain ⟨z1, H', I', rz, b, rfl, q'⟩ := z
  cases rz
  exact wpAny_truthy_bool ⟨.bl b, H', I', rfl, q'⟩
theorem row_unique {rs : List Row} (nd : (rmakers rs).Nodup) {r r' : Row} (h : r ∈ rs) (h' : r' ∈ rs) (e : r.2.1 = r'.2.1) : r = r' := by
  obtain ⟨i, hi⟩ := List.getElem?_of_mem h
  obtain ⟨j, hj⟩ := List.getElem?_of_mem h'
  have a : (rmakers rs)[i]? = some r.2.1 := by unfold rmakers; rw [List.getElem?_map, hi]; rfl
  have b : (rmakers rs)[j]? = some r.2.1 := by unfold rmakers; rw [List.getElem?_map, hj, e]; rfl
  have := nd_ix nd a b
  rw [this, hj] at hi
  exact (Option.some.inj hi).symm
theorem part_unique {ps : List Part} (nd : (ps.map (·.1)).Nodup) {p q : Part} (h : p ∈ ps) (h' : q ∈ ps) (e : p.1 = q.1) : p = q := by
  obtain ⟨i, hi⟩ := List.getElem?_of_mem h
  obtain ⟨j, hj⟩ := List.getElem?_of_mem h'
  have a : (ps.map (·.1))[i]? = some p.1 := by rw [List.getElem?_map, hi]; rfl
  have b : (ps.map (·.1))[j]? = some p.1 := by rw [List.getElem?_map, hj, e]; rfl
  have := nd_ix nd a b
  rw [this, hj] at hi
  exact (Option.some.inj hi).symm
theorem ValidT.nd {rs : List Row} (v : ValidT rs) : (rmakers rs).Nodup := v.each.nd
theorem nodup_of_fold {α : Type} [DecidableEq α] : ∀ (l acc : List α), acc.Nodup → (l.foldl addNew acc).length = acc.length + l.length → (acc ++ l).Nodup
  | [], acc, h, _ => by simpa using h
  | a :: r, acc, h, e => by
    have h1 := length_foldNew r (addNew acc a)
    have h2 := length_addNew acc a
    rw [List.foldl_cons, List.length_cons] at e
    by_cases ha : a ∈ acc
    · rw [if_pos ha] at h2; omega
    · rw [if_neg ha] at h2
      have ea : addNew acc a = acc ++ [a] := by unfold addNew; rw [if_neg ha]
      have := nodup_of_fold r (addNew acc a) (nodup_addNew h) (by rw [h2]; omega)
      rw [ea] at this
      simpa using this
theorem nodup_of_len {α : Type} [DecidableEq α] {l : List α} (h : (distinct l).length = l.length) : l.Nodup := by
  have := nodup_of_fold l [] List.nodup_nil (by simpa [distinct] using h)
  simpa using this
theorem ValidT.ndp {rs : List Row} (v : ValidT rs) {r : Row} (h : r ∈ rs) : (r.2.2.map (·.1)).Nodup := by
  have := (v.each.good r h).2.2
  unfold partsB at this
  simp only [Bool.and_eq_true, decide_eq_true_eq] at this
  exact nodup_of_len (by rw [this.2.2, List.length_map])
/-- tuple(d), d a dict that is told -/
def rTupFz : List V → Hp → VK → Prop := fun xs H Q => ∃ p kvs, xs = [.ref p] ∧ FzAt H p kvs ∧ ∀ q o, H q = none → o.dict = none → Q (.ref q) (upd H q (.frz o (.tup (kvs.map fun kv => kV kv.1))))
theorem call_tuple_fz {X : Cx} (calm : X.calm = true) : CallR X (.type "tuple") rTupFz := by
  intro pins s σ H xs us Q I r h
  obtain ⟨p, kvs, rfl, ⟨o, hk⟩, q⟩ := h
  obtain ⟨u, rfl, rx⟩ := vals1 r
  obtain rfl : u = Value.ref p := rx
  obtain ⟨_, z, lo, vs, rk, hd⟩ := (show ObjOk X.prog X.w H s.heap p (.frz o (.dK kvs)) from I.hok p _ hk)
  obtain ⟨ep, hat⟩ := hd.dictAt
  have hl : kvs.length = vs.length := Paired.length rk
  refine tuple_of (PySem.W.kdl_dict (knd := mixKind X.prog X.w) (kvs := vs) (ep := ep) lo) (I.ok.hd calm) hat (by rw [← hl]; exact z) fun h' tk got keep items => ?_
  have I' : Inv X pins σ H { s with heap := h', toks := tk } := I.kept keep
  have len : (kvs.map fun kv => kV kv.1).length = got.toList.length := by
    rw [List.length_map]
    have z1 : got.toList.length = got.size := by simp
    rw [z1, items.1, hl]
  have rel : Vals (kvs.map fun kv => kV kv.1) got.toList := by
    refine vals_of_at len fun j x w h1 h2 => ?_
    obtain ⟨k, y, hky, hi⟩ := items.2 j w (by rw [← Array.getElem?_toList]; exact h2)
    have e1 : (kvs.map (·.1))[j]? = some k := by rw [KV.keys rk, List.getElem?_map, hky]; rfl
    have e2 : (kvs.map fun kv => kV kv.1) = (kvs.map (·.1)).map kV := by rw [List.map_map]; rfl
    rw [e2, List.getElem?_map, e1] at h1
    cases h1
    exact keyIs_rel hi
  refine ⟨.ref h'.objs.size, _, I'.laid (t' := tk) (o := .frz { cls := .type "tuple", data := .seq got } (.tup (kvs.map fun kv => kV kv.1))) (fun b u e => Heap.get?_push_of_some _ e) (Nat.le_refl _) ?_, rfl, q _ _ (I'.hok.fresh (Nat.le_refl _)) rfl⟩
  refine ⟨Heap.get?_push_size _ rfl, by rw [List.length_map]; exact z, got.toList, rel, ?_⟩
  rw [Array.toArray_toList]
  exact IsTup.new _ _
/-- len(d), d a dict that is told -/
def rLenFz : List V → Hp → VK → Prop := fun xs H Q => ∃ p kvs, xs = [.ref p] ∧ FzAt H p kvs ∧ Q (.int (kvs.length : Nat)) H
theorem kF_none {dm dk dp dl tn to : Addr} {m : Str} (h : decide (m ∈ ([("order" : Str), ("names" : Str), ("_least" : Str), ("_parts" : Str), ("_kinds" : Str), ("_makers" : Str)] : List Str)) = false) : (kF6 dm dk dp dl tn to).lookup m = none := by
  have q := of_decide_eq_false h
  simp only [List.mem_cons, List.not_mem_nil, or_false, not_or] at q
  exact kF_no q.1 q.2.1 q.2.2.1 q.2.2.2.1 q.2.2.2.2.1 q.2.2.2.2.2
def spContainsF (K : PySem.W.Frag) : Sp := fun vs H Q _ => ∃ (x : Addr) (k : Str) (rs : List Row), vs = [.ref x, .str k] ∧ KindsF K H x rs ∧ Q (.bl (decide (k ∈ rmakers rs))) H
theorem okf_contains (T : Tx K mg) (F : FnP K ("Kinds", some "__contains__") "__contains__" "Kinds.__contains__" s_Kinds_contains fd) : FnOk P w K mg base CX0 1 (He.fAd K ("Kinds", some "__contains__")) fd ["self", "x"] (spContainsF K) := by
  refine F.ok sc_Kinds_contains (fun vs H Q E h => ?_) (fun cdv A outer s H vs Q E hr h => ?_)
  · obtain ⟨x, _, _, rfl, _⟩ := h; rfl
  obtain ⟨x, k, rs, rfl, ⟨dx, dm, dk, dp, dl, tn, to, h0, mvs, kvs, pvs, lvs, h1, ⟨h3, h4⟩, _⟩, q⟩ := h
  have hu := hu_of hr
  refine ⟨_, PSs.nox (pss_one (ps_ret (pe_cmp (pc_din hu (pv 1) (pe_fld (pv 0) rfl)) rfl))), ?_⟩
  refine ⟨_, rfl, _, rfl, x, CK K, dx, _, _, rfl, h0, T.cl_Kinds, T.na_Kinds_kinds_, kF_kinds, dk, _, rfl, h3.get (Sum.inr k), ?_⟩
  rw [KD.isSome h4, show decide (k ∈ distinct (rmakers rs)) = decide (k ∈ rmakers rs) by simp only [mem_distinct]]
  exact q
def spMakersF (K : PySem.W.Frag) : Sp := fun vs H Q _ => ∃ (x : Addr) (k : Str) (rs : List Row), vs = [.ref x, .str k] ∧ KindsF K H x rs ∧ k ∈ rkinds rs ∧ ∀ v, TextsAt H v (makersOf rs k) → Q v H
theorem okf_makers (T : Tx K mg) (F : FnP K ("Kinds", some "makers") "makers" "Kinds.makers" s_Kinds_makers fd) : FnOk P w K mg base CX0 1 (He.fAd K ("Kinds", some "makers")) fd ["self", "kind"] (spMakersF K) := by
  refine F.ok sc_Kinds_makers (fun vs H Q E h => ?_) (fun cdv A outer s H vs Q E hr h => ?_)
  · obtain ⟨x, _, _, rfl, _⟩ := h; rfl
  obtain ⟨x, k, rs, rfl, ⟨dx, dm, dk, dp, dl, tn, to, h0, mvs, kvs, pvs, lvs, ⟨h1, h2⟩, _⟩, hk, q⟩ := h
  have hu := hu_of hr
  refine ⟨_, PSs.nox (pss_cons (ps_if (pt_cmp (pc_dnotin hu (pv 1) (pe_fld (pv 0) rfl))) (pss_one ps_never) pss_nil) (pss_one (ps_ret (pe_dget hu (pe_fld (pv 0) rfl) (pv 1) (fun _ _ => rfl))))), ?_⟩
  obtain ⟨v, e, hv⟩ := KD.some h2 (mem_distinct.mpr hk)
  refine ⟨_, rfl, _, rfl, x, CK K, dx, _, _, rfl, h0, T.cl_Kinds, T.na_Kinds_makers_, kF_makers, dm, _, rfl, h1.get (Sum.inr k), _, rfl, ?_⟩
  rw [e]
  exact iteF ⟨_, rfl, x, CK K, dx, _, _, rfl, h0, T.cl_Kinds, T.na_Kinds_makers_, kF_makers, _, rfl, dm, _, rfl, (by rw [← e]; exact h1.get (Sum.inr k)), q v hv⟩
def spKindOfF (K : PySem.W.Frag) : Sp := fun vs H Q _ => ∃ (x : Addr) (rs : List Row) (r : Row), vs = [.ref x, .str r.2.1] ∧ KindsF K H x rs ∧ ValidT rs ∧ r ∈ rs ∧ Q (.str r.1) H
theorem okf_kind_of (T : Tx K mg) (F : FnP K ("Kinds", some "kind_of") "kind_of" "Kinds.kind_of" s_Kinds_kind_of fd) : FnOk P w K mg base CX0 1 (He.fAd K ("Kinds", some "kind_of")) fd ["self", "maker"] (spKindOfF K) := by
  refine F.ok sc_Kinds_kind_of (fun vs H Q E h => ?_) (fun cdv A outer s H vs Q E hr h => ?_)
  · obtain ⟨x, _, _, rfl, _⟩ := h; rfl
  obtain ⟨x, rs, r, rfl, ⟨dx, dm, dk, dp, dl, tn, to, h0, mvs, kvs, pvs, lvs, _, ⟨h1, h2⟩, _⟩, val, hr', q⟩ := h
  have hu := hu_of hr
  refine ⟨_, PSs.nox (pss_cons (ps_if (pt_cmp (pc_dnotin hu (pv 1) (pe_fld (pv 0) rfl))) (pss_one ps_never) pss_nil) (pss_one (ps_ret (pe_dget hu (pe_fld (pv 0) rfl) (pv 1) (fun _ _ => rfl))))), ?_⟩
  obtain ⟨v, e, r2, hr2, e2, rfl⟩ := KD.some h2 (mem_distinct.mpr (List.mem_map.mpr ⟨r, hr', rfl⟩))
  cases row_unique val.nd hr2 hr' e2
  refine ⟨_, rfl, _, rfl, x, CK K, dx, _, _, rfl, h0, T.cl_Kinds, T.na_Kinds_kinds_, kF_kinds, dk, _, rfl, h1.get (Sum.inr _), _, rfl, ?_⟩
  rw [e]
  exact iteF ⟨_, rfl, x, CK K, dx, _, _, rfl, h0, T.cl_Kinds, T.na_Kinds_kinds_, kF_kinds, _, rfl, dk, _, rfl, (by rw [← e]; exact h1.get (Sum.inr _)), q⟩
def spTagF (K : PySem.W.Frag) : Sp := fun vs H Q _ => ∃ (x : Addr) (rs : List Row) (r : Row), vs = [.ref x, .str r.2.1] ∧ KindsF K H x rs ∧ ValidT rs ∧ r ∈ rs ∧ Q (.int (tagOf rs r : Nat)) H
theorem okf_tag (T : Tx K mg) (F : FnP K ("Kinds", some "tag") "tag" "Kinds.tag" s_Kinds_tag fd) : FnOk P w K mg base CX0 2 (He.fAd K ("Kinds", some "tag")) fd ["self", "maker"] (spTagF K) := by
  obtain ⟨f1, F1⟩ := T.F_Kinds_makers
  obtain ⟨f2, F2⟩ := T.F_Kinds_kind_of
  refine F.ok sc_Kinds_tag (fun vs H Q E h => ?_) (fun cdv A outer s H vs Q E hr h => ?_)
  · obtain ⟨x, _, _, rfl, _⟩ := h; rfl
  obtain ⟨x, rs, r, rfl, hK, val, hr', q⟩ := h
  obtain ⟨dx, dm, dk, dp, dl, tn, to, h0, _⟩ := id hK
  refine ⟨_, PSs.nox (pss_one (ps_ret (pe_tm1 PySem.F.slot_tuple_index PySem.F.type_tuple_index mt_tup_index
    (pe_meth (pv 0) T.cl_Kinds T.m_Kinds_makers (okf_makers T F1) hr (b_Kinds_makers F1) .nil pass0 (pa_cons (pe_meth (pv 0) T.cl_Kinds T.m_Kinds_kind_of (okf_kind_of T F2) hr (b_Kinds_kind_of F2) .nil pass0 (pa_cons (pv 1) pa_nil)) pa_nil)) (pv 1)))), ?_⟩
  have no : ∀ m : Str, decide (m ∈ ([("order" : Str), ("names" : Str), ("_least" : Str), ("_parts" : Str), ("_kinds" : Str), ("_makers" : Str)] : List Str)) = false → (kF6 dm dk dp dl tn to).lookup m = none := fun m h => kF_none h
  refine ⟨_, rfl, x, dx, _, rfl, h0, kF_none (by decide +kernel), _, rfl, x, dx, _, rfl, h0, kF_none (by decide +kernel), _, rfl, x, rs, r, rfl, hK, val, hr', ?_⟩
  refine ⟨x, r.1, rs, rfl, hK, List.mem_map.mpr ⟨r, hr', rfl⟩, fun v hv => ?_⟩
  obtain ⟨t, o, rfl, ho, ht⟩ := hv
  obtain ⟨ix1, ix2⟩ := mem_idxOf (show r.2.1 ∈ makersOf rs r.1 from List.mem_map.mpr ⟨r, List.mem_filter.mpr ⟨hr', by simp⟩, rfl⟩)
  exact ⟨⟨t, o, _, rfl, ho, ht⟩, _, rfl, t, _, r.2.1, _, rfl, rfl, sqT_frz ht, ix1, ix2, q⟩
theorem keys_of {kvs : List (Key × V)} {ks : List Str} {R : Str → V → Prop} (h : KD kvs ks R) : (kvs.map fun kv => kV kv.1) = ks.map V.str := by
  rw [show (kvs.map fun kv => kV kv.1) = (kvs.map (·.1)).map kV by rw [List.map_map]; rfl, h.1, List.map_map]; rfl
/-- the dict of the parts of a maker -/
theorem parts_at {H : Hp} {pvs : List (Key × V)} {rs : List Row} (h : PartsF H pvs rs) (val : ValidT rs) {r : Row} (hr : r ∈ rs) : ∃ d hv, valV pvs (Sum.inr r.2.1) = some (.ref d) ∧ FzAt H d hv ∧ KD hv (r.2.2.map (·.1)) fun n v => ∃ p ∈ r.2.2, p.1 = n ∧ HoldAt H v p := by
  obtain ⟨v, e, r2, hr2, e2, d, hv, rfl, hd, hh⟩ := KD.some h (mem_distinct.mpr (List.mem_map.mpr ⟨r, hr, rfl⟩))
  cases row_unique val.nd hr2 hr e2
  refine ⟨d, hv, e, hd, ?_⟩
  have : HoldD H hv r.2.2 := hh
  unfold HoldD at this
  rw [distinct_of_nodup (val.ndp hr)] at this
  exact this
def spPartsF (K : PySem.W.Frag) : Sp := fun vs H Q _ => ∃ (x : Addr) (rs : List Row) (r : Row), vs = [.ref x, .str r.2.1] ∧ KindsF K H x rs ∧ ValidT rs ∧ r ∈ rs ∧ ∀ v H', Same H H' → TextsAt H' v (r.2.2.map (·.1)) → Q v H'
theorem okf_parts (T : Tx K mg) (F : FnP K ("Kinds", some "parts") "parts" "Kinds.parts" s_Kinds_parts fd) : FnOk P w K mg base CX0 1 (He.fAd K ("Kinds", some "parts")) fd ["self", "maker"] (spPartsF K) := by
  refine F.ok sc_Kinds_parts (fun vs H Q E h => ?_) (fun cdv A outer s H vs Q E hr h => ?_)
  · obtain ⟨x, _, _, rfl, _⟩ := h; rfl
  obtain ⟨x, rs, r, rfl, ⟨dx, dm, dk, dp, dl, tn, to, h0, mvs, kvs, pvs, lvs, _, _, ⟨h1, h2⟩, _⟩, val, hr', q⟩ := h
  have hu := hu_of hr
  refine ⟨_, PSs.nox (pss_cons (ps_if (pt_cmp (pc_dnotin hu (pv 1) (pe_fld (pv 0) rfl))) (pss_one ps_never) pss_nil)
    (pss_one (ps_ret (pe_callTy (call_tuple_fz rfl) (by rfl) T.n_tuple (by decide +kernel) (pa_cons (pe_dget hu (pe_fld (pv 0) rfl) (pv 1) (fun _ _ => rfl)) pa_nil))))), ?_⟩
  obtain ⟨d, hv, e, hd, hh⟩ := parts_at h2 val hr'
  refine ⟨_, rfl, _, rfl, x, CK K, dx, _, _, rfl, h0, T.cl_Kinds, T.na_Kinds_parts_, kF_parts, dp, _, rfl, h1.get (Sum.inr _), _, rfl, ?_⟩
  rw [e]
  refine iteF ⟨_, rfl, x, CK K, dx, _, _, rfl, h0, T.cl_Kinds, T.na_Kinds_parts_, kF_parts, _, rfl, dp, _, rfl, (by rw [← e]; exact h1.get (Sum.inr _)), d, hv, rfl, hd, fun t o ht ho => ?_⟩
  exact q _ _ (same_new ht) ⟨t, o, rfl, ho, by rw [upd_same, keys_of hh]⟩
def spHoldingF (K : PySem.W.Frag) : Sp := fun vs H Q _ => ∃ (x : Addr) (rs : List Row) (r : Row) (p : Part), vs = [.ref x, .str r.2.1, .str p.1] ∧ KindsF K H x rs ∧ ValidT rs ∧ r ∈ rs ∧ p ∈ r.2.2 ∧ ∀ v, HoldAt H v p → Q v H
theorem okf_holding (T : Tx K mg) (F : FnP K ("Kinds", some "_holding") "_holding" "Kinds._holding" s_Kinds_holding fd) : FnOk P w K mg base CX0 1 (He.fAd K ("Kinds", some "_holding")) fd ["self", "maker", "part"] (spHoldingF K) := by
  refine F.ok sc_Kinds_holding (fun vs H Q E h => ?_) (fun cdv A outer s H vs Q E hr h => ?_)
  · obtain ⟨x, _, _, _, rfl, _⟩ := h; rfl
  obtain ⟨x, rs, r, p, rfl, ⟨dx, dm, dk, dp, dl, tn, to, h0, mvs, kvs, pvs, lvs, _, _, ⟨h1, h2⟩, _⟩, val, hr', hp, q⟩ := h
  have hu := hu_of hr
  refine ⟨_, PSs.nox (pss_cons (ps_if (pt_cmp (pc_dnotin hu (pv 1) (pe_fld (pv 0) rfl))) (pss_one ps_never) pss_nil)
    (pss_cons (ps_if (pt_cmp (pc_dnotin hu (pv 2) (pe_dget hu (pe_fld (pv 0) rfl) (pv 1) (fun _ _ => rfl)))) (pss_one ps_never) pss_nil)
    (pss_one (ps_ret (pe_dget hu (pe_dget hu (pe_fld (pv 0) rfl) (pv 1) (fun _ _ => rfl)) (pv 2) (fun _ _ => rfl)))))), ?_⟩
  obtain ⟨d, hv, e, hd, hh⟩ := parts_at h2 val hr'
  obtain ⟨v2, e3, p2, hp2, e4, hat⟩ := KD.some hh (List.mem_map.mpr ⟨p, hp, rfl⟩)
  cases part_unique (val.ndp hr') hp2 hp e4
  refine ⟨_, rfl, _, rfl, x, CK K, dx, _, _, rfl, h0, T.cl_Kinds, T.na_Kinds_parts_, kF_parts, dp, _, rfl, h1.get (Sum.inr _), _, rfl, ?_⟩
  rw [e]
  refine iteF ⟨_, rfl, _, rfl, x, CK K, dx, _, _, rfl, h0, T.cl_Kinds, T.na_Kinds_parts_, kF_parts, _, rfl, dp, _, rfl, (by rw [← e]; exact h1.get (Sum.inr _)), d, _, rfl, hd.get (Sum.inr _), _, rfl, ?_⟩
  rw [e3]
  exact iteF ⟨_, rfl, x, CK K, dx, _, _, rfl, h0, T.cl_Kinds, T.na_Kinds_parts_, kF_parts, _, rfl, dp, _, rfl, (by rw [← e]; exact h1.get (Sum.inr _)), _, rfl, d, _, rfl, (by rw [← e3]; exact hd.get (Sum.inr _)), q _ hat⟩
def spInnerF (K : PySem.W.Frag) : Sp := fun vs H Q _ => ∃ (x : Addr) (rs : List Row) (r : Row) (p : Part), vs = [.ref x, .str r.2.1, .str p.1] ∧ KindsF K H x rs ∧ ValidT rs ∧ r ∈ rs ∧ p ∈ r.2.2 ∧ Q (.str (holdOf p).1) H
theorem okf_inner (T : Tx K mg) (F : FnP K ("Kinds", some "inner") "inner" "Kinds.inner" s_Kinds_inner fd) : FnOk P w K mg base CX0 2 (He.fAd K ("Kinds", some "inner")) fd ["self", "maker", "part"] (spInnerF K) := by
  obtain ⟨f1, F1⟩ := T.F_Kinds_holding
  refine F.ok sc_Kinds_inner (fun vs H Q E h => ?_) (fun cdv A outer s H vs Q E hr h => ?_)
  · obtain ⟨x, _, _, _, rfl, _⟩ := h; rfl
  obtain ⟨x, rs, r, p, rfl, hK, val, hr', hp, q⟩ := h
  obtain ⟨dx, dm, dk, dp, dl, tn, to, h0, _⟩ := id hK
  refine ⟨_, PSs.nox (pss_one (ps_ret (pe_ix ix_tup (pe_meth (pv 0) T.cl_Kinds T.m_Kinds_holding (okf_holding T F1) hr (b_Kinds_holding F1) .nil pass0 (pa_cons (pv 1) (pa_cons (pv 2) pa_nil))) pe_int (fun _ _ => rfl)))), ?_⟩
  refine ⟨_, rfl, x, dx, _, rfl, h0, kF_none (by decide +kernel), _, rfl, _, rfl, x, rs, r, p, rfl, hK, val, hr', hp, fun v hv => ?_⟩
  obtain ⟨t, rfl, ht⟩ := hv
  exact ⟨t, _, _, _, rfl, rfl, SqT.of ht, atI_nat (j := 0) rfl, q⟩
end
end Bg
set_option Elab.async false
set_option linter.all false
set_option maxRecDepth 100000
set_option maxHeartbeats 4000000
/-! zip(d, t), d a dict that is locked, t a tuple: the keys in their order beside the items -/
namespace Bg
open PySem PySem.Spec PyProof.Rows L2
section
variable {prog : Program} {w : World} {A : Around} {E : Value → Shared → Prop} {s : Shared}
theorem nextKey_item {it d : Addr} {i n ep : Nat} {dob : Obj} {ents : Array DictEntry} {en : DictEntry} {Q : Value → Shared → Prop} (iter : s.heap.IsKeyIter it d i n ep) (dh : s.heap.get? d = some dob) (dd : dob.data = .dict ents ep)
    (dsz : ents.size = n) (item : ents[i]? = some en) (want : ∀ h', h'.IsKeyIter it d (i + 1) n ep → Heap.SameBut it s.heap h' → Q en.key { s with heap := h' }) : wpAny (model prog w) A (Builtin.SmallTypes.nextOf (.ref it)) Q E s := by
  obtain ⟨o, io, ic, idt⟩ := id iter
  have it1 := iter.typeIs
  unfold Builtin.SmallTypes.nextOf
  refine wpAny_bind (wpAny_callSpecial?_slot (name := Str.ofString "__next__") it1 F.slot_dict_keyiterator_next (wpAny_call_entry F.slot_dict_keyiterator_next it1 F.entry_dict_keyiterator_next ?_ (F.args_dict_keyiterator_next_1 _)))
  refine wpAny_bind (wpAny_pure (wpAny_bind (wpAny_bind ?_)))
  first | refine wpAny_bind (wpAny_typeNameOfWhole_keyiter it1 (wpAny_pure ?_)) | refine wpAny_bind (wpAny_typeNameOf_keyiter it1 (wpAny_pure ?_))
  refine wpAny_bind (wpAny_fieldsOf io idt ?_)
  simp only [show Builtin.Dict_items.ownsTuple "dict_keyiterator" = false by decide, Bool.false_eq_true, if_false]
  show wpAny _ _ (if (Value.ref d == Value.none) = true then _ else _) _ E s
  rw [if_neg fun z : (Value.ref d == Value.none) = true => Bool.false_ne_true z]
  refine wpAny_bind (wpAny_pure (wpAny_bind (wpAny_dictEntries dh dd ?_)))
  rw [if_neg (by rw [dsz]; simp)]
  refine wpAny_bind (wpAny_pure (wpAny_bind (wpAny_dictEpoch dh dd ?_)))
  rw [if_neg (by simp)]
  obtain ⟨lt, ee⟩ := Array.getElem?_eq_some_iff.mp item
  refine wpAny_pure ?_
  simp only [if_neg (show ¬ ((i : Int) < 0) by omega), show ¬ ((i : Int) < 0) from by omega, if_false, Int.toNat_natCast, Array.getElem?_eq_getElem lt]
  refine wpAny_bind ?_
  first | refine wpAny_bind (wpAny_typeNameOfWhole_keyiter it1 (wpAny_pure ?_)) | refine wpAny_bind (wpAny_typeNameOf_keyiter it1 (wpAny_pure ?_))
  refine wpAny_bind (wpAny_isOneOf_keyiter it1 ?_)
  show wpAny _ _ (setField (.ref it) 1 (rawInt ((i : Int) + 1)) >>= _) _ E s
  refine wpAny_bind (wpAny_setField io idt (by simp) ?_)
  have next : (s.heap.update it (Obj.mapFields (·.setIfInBounds 1 (rawInt ((i : Int) + 1))))).IsKeyIter it d (i + 1) n ep := by
    refine ⟨_, Heap.get?_update_self _ io (Obj.isFreed_of_fields (Obj.data_mapFields idt _)), (Obj.cls_mapFields ..).trans ic, ?_⟩
    rw [Obj.data_mapFields idt]; simp [rawInt]
  refine wpAny_bind (wpAny_holding (wpAny_bind (wpAny_isOneOf_keyiter (s := { s with heap := s.heap.update it (Obj.mapFields (·.setIfInBounds 1 (rawInt ((i : Int) + 1)))) }) next.typeIs ?_)))
  show wpAny _ _ (pure ents[i].key) _ E _
  rw [ee]
  exact wpAny_pure (wpAny_pure ⟨en.key, rfl, wpAny_pure (want _ next (Heap.SameBut.update ..))⟩)
theorem nextKey_end {it d : Addr} {i n ep : Nat} {dob : Obj} {ents : Array DictEntry} {Q : Value → Shared → Prop} (calm : A.handled = none) (iter : s.heap.IsKeyIter it d i n ep) (dh : s.heap.get? d = some dob) (dd : dob.data = .dict ents ep)
    (dsz : ents.size = n) (behind : n ≤ i) (want : ∀ h' e, Heap.ExtBut it s.heap h' → (∃ o, h'.get? e = some o ∧ o.cls = .type "StopIteration") → E (.ref e) { s with heap := h' }) : wpAny (model prog w) A (Builtin.SmallTypes.nextOf (.ref it)) Q E s := by
  obtain ⟨o, io, ic, idt⟩ := id iter
  have it1 := iter.typeIs
  unfold Builtin.SmallTypes.nextOf
  refine wpAny_bind (wpAny_callSpecial?_slot (name := Str.ofString "__next__") it1 F.slot_dict_keyiterator_next (wpAny_call_entry F.slot_dict_keyiterator_next it1 F.entry_dict_keyiterator_next ?_ (F.args_dict_keyiterator_next_1 _)))
  refine wpAny_bind (wpAny_pure (wpAny_bind (wpAny_bind ?_)))
  first | refine wpAny_bind (wpAny_typeNameOfWhole_keyiter it1 (wpAny_pure ?_)) | refine wpAny_bind (wpAny_typeNameOf_keyiter it1 (wpAny_pure ?_))
  refine wpAny_bind (wpAny_fieldsOf io idt ?_)
  simp only [show Builtin.Dict_items.ownsTuple "dict_keyiterator" = false by decide, Bool.false_eq_true, if_false]
  show wpAny _ _ (if (Value.ref d == Value.none) = true then _ else _) _ E s
  rw [if_neg fun z : (Value.ref d == Value.none) = true => Bool.false_ne_true z]
  refine wpAny_bind (wpAny_pure (wpAny_bind (wpAny_dictEntries dh dd ?_)))
  rw [if_neg (by rw [dsz]; simp)]
  refine wpAny_bind (wpAny_pure (wpAny_bind (wpAny_dictEpoch dh dd ?_)))
  rw [if_neg (by simp)]
  refine wpAny_pure ?_
  simp only [show ¬ ((i : Int) < 0) from by omega, if_false, Int.toNat_natCast, Array.getElem?_eq_none (show ents.size ≤ i by rw [dsz]; exact behind)]
  refine wpAny_bind ?_
  first | refine wpAny_bind (wpAny_typeNameOfWhole_keyiter it1 (wpAny_pure ?_)) | refine wpAny_bind (wpAny_typeNameOf_keyiter it1 (wpAny_pure ?_))
  show wpAny _ _ (setField (.ref it) 0 .none >>= _) _ E s
  refine wpAny_bind (wpAny_setField io idt (by simp) ?_)
  show wpAny _ _ (newExc (.type "StopIteration") [] >>= _) _ E _
  refine wpAny_bind ?_
  simp only [newExc, newTuple]
  refine wpAny_bind (wpAny_newObj_type (wpAny_bind (m := firstArgMember _ _) (wpAny_of_eq (a := Value.none) (by first | rfl | (simp only [firstArgMember]; rfl)) (wpAny_newObj_type ?_ (by size_fits)))) (by size_fits))
  simp only [raiseNew]
  refine wpAny_bind (wpAny_handled ?_)
  first | rw [show A.in1.handled = none from calm] | rw [calm]
  refine wpAny_bind (wpAny_pure (wpAny_throw (want _ _ (((Heap.SameBut.update ..).extBut.push _).push _) ⟨_, Heap.get?_push_size _ rfl, rfl⟩)))
end
theorem draws_keys {prog : Program} {w : World} {A : Around} (calm : A.handled = none) {it d : Addr} (apart : d ≠ it) {dob : Obj} {ents : Array DictEntry} {ep n : Nat} (dd : dob.data = .dict ents ep) (dsz : ents.size = n) :
    Draws prog w A it [it, d] n (fun i v => ∃ en, ents[i]? = some en ∧ v = en.key) (fun i h => h.IsKeyIter it d i n ep ∧ h.get? d = some dob) where
  live := fun _ _ st => let ⟨o, ho, _⟩ := st.1; ⟨o, ho⟩
  frame := fun _ _ _ st k => ⟨st.1.at fun o e => k it (by simp) o e, k d (by simp) _ st.2⟩
  item := fun i s Q E hi st hQ => by
    refine nextKey_item st.1 st.2 dd dsz (en := ents[i]) (by simp [dsz, hi]) fun h' st' sb => ?_
    exact hQ _ h' s.toks ⟨_, by simp [dsz, hi], rfl⟩ ⟨st', sb.extBut _ _ apart st.2⟩ sb
  done := fun s Q E st hE => nextKey_end calm st.1 st.2 dd dsz (Nat.le_refl _) hE
theorem begins_keys {d : Addr} {dob : Obj} {ents : Array DictEntry} {ep : Nat} (live : (d == sysModules) = false) (ex : dob.ExactDict) (dd : dob.data = .dict ents ep) :
    Begins (.ref d) { cls := .type "dict_keyiterator", data := .fields #[.ref d, .int 0 0, .int ents.size 0, .int ep 0] } fun h => h.get? d = some dob where
  iter := fun prog w A E s Q e q => iter_keys live e ex dd q
  keeps := fun h h' x hk => hk d _ x
  free := rfl
/-- keys of the locked dict beside the items of the tuple, in new pairs -/
def Itzd (K : PySem.W.Frag) (d : Addr) (o : Obj) (kvs : List (Key × V)) (b : Addr) (ys : List V) : It :=
  ⟨fun i H => H d = some (.frz o (.dK kvs)) ∧ SqT K H b ys ∧ i < kvs.length ∧ i < ys.length,
    fun i H v H' => ∃ T k x y, v = .ref T ∧ H T = none ∧ H' = upd H T (.tup [kV k, y]) ∧ kvs[i]? = some (k, x) ∧ ys[i]? = some y,
    fun i H => H d = some (.frz o (.dK kvs)) ∧ SqT K H b ys ∧ i = kvs.length⟩
theorem walk_zipD {K : PySem.W.Frag} {d : Addr} {o : Obj} {kvs : List (Key × V)} {b : Addr} {ys : List V} (hl : kvs.length = ys.length) :
    Walk (Itzd K d o kvs b ys) kvs.length (fun H => H d = some (.frz o (.dK kvs)) ∧ SqT K H b ys) (fun i H v H' => ∃ T k x y, v = .ref T ∧ H T = none ∧ H' = upd H T (.tup [kV k, y]) ∧ kvs[i]? = some (k, x) ∧ ys[i]? = some y) :=
  ⟨fun i H hi g => ⟨g.1, g.2, hi, by omega⟩, fun H g => ⟨g.1, g.2, rfl⟩, fun i H v H' hi g y => y⟩
theorem sep_zipD (I d b : Nat) (h1 : d < I) (h2 : b < I) : ZipSep2 (I + 4) (I + 2) (I + 3) I (I + 1) [I, d] [I + 1, b] := by
  have q : ∀ n m : Nat, n ≠ m → (n : Addr) ≠ m := fun _ _ z => z
  constructor <;> first | (exact List.mem_cons_self ..) | (refine q _ _ ?_; omega) | (intro z; rcases List.mem_cons.mp z with z | z; (revert z; refine q _ _ ?_; omega); (have z := List.mem_singleton.mp z; revert z; refine q _ _ ?_; omega))
theorem turn_zipD {P : Program} {w : World} {K : PySem.W.Frag} {elts : List Expr} {kk : Nat} {tpos : Pos} {d b z TI TO i1 i2 : Addr} {o : Obj} {kvs : List (Key × V)} {ys : List V} {ents : Array DictEntry} {ep : Nat} (S : ZipSep2 z TI TO i1 i2 [i1, d] [i2, b]) (dd : o.data = .dict ents ep) (hl : kvs.length = ys.length) :
    Turn P w K (.Tuple elts kk tpos) (Itzd K d o kvs b ys) [z, TI, TO, i1, i2] z (fun i h => IsZip h z TI TO .none ∧ IsTupOf2 h TI (.ref i1) (.ref i2) ∧ (∃ x y, IsTupOf2 h TO x y) ∧ h.IsKeyIter i1 d i kvs.length ep ∧ h.IsTupleIter i2 b i) where
  mem := by simp
  obj := fun i h st c hc => by
    obtain ⟨hz, hTI, ⟨x, y, hTO⟩, ⟨o1, e1, _, d1⟩, ⟨o2, e2, _, d2⟩⟩ := st
    simp only [List.mem_cons, List.not_mem_nil, or_false] at hc
    rcases hc with q | q | q | q | q <;> rw [q]
    · exact ⟨_, hz, fun v q => nomatch q⟩
    · exact ⟨_, hTI, fun v q => nomatch q⟩
    · exact ⟨_, hTO, fun v q => nomatch q⟩
    · exact ⟨o1, e1, fun v q => by rw [d1] at q; cases q⟩
    · exact ⟨o2, e2, fun v q => by rw [d2] at q; cases q⟩
  keep := fun i h h' st k => by
    obtain ⟨hz, hTI, ⟨x, y, hTO⟩, h1, h2⟩ := st
    exact ⟨k z (by simp) _ hz, k TI (by simp) _ hTI, ⟨x, y, k TO (by simp) _ hTO⟩, h1.at fun o q => k i1 (by simp) o q, h2.at fun o q => k i2 (by simp) o q⟩
  item := by
    intro X hP hw hK hc i pins s σ H E I hf st hg
    subst hP hw hK
    obtain ⟨hz, hTI, ⟨x0, y0, hTO⟩, h1, h2⟩ := st
    obtain ⟨hd, hb, l1, l2⟩ := hg
    obtain ⟨hs, hgd, hx, es', ep', vs, hdt, hsz, kv, hm⟩ := I.frzK hd
    obtain ⟨rfl, rfl⟩ := dict_ep dd hdt
    obtain ⟨its, rv, pt, _⟩ := I.tuple hb
    have tl : its.length = ys.length := rv.length.symm
    obtain ⟨⟨k, v⟩, hkv⟩ : ∃ p, kvs[i]? = some p := ⟨kvs[i], List.getElem?_eq_getElem l1⟩
    obtain ⟨y, hy⟩ : ∃ y, ys[i]? = some y := ⟨ys[i], List.getElem?_eq_getElem l2⟩
    obtain ⟨u, hu, ru⟩ := kv_get kv hkv
    obtain ⟨u2, hu2, ru2⟩ := rv.get hy
    have hzl : z < s.heap.objs.size := Heap.lt_size hz
    have calm : X.A.in1.handled = none := I.ok.hd hc
    have nd : d ≠ i1 := fun e => by have q := (hf i1 (by simp)).1; rw [← e, hd] at q; cases q
    have nb : b ≠ i2 := fun e => by
      obtain ⟨o2, e2, c2, _⟩ := id h2
      obtain ⟨ob, eb, cb, _⟩ := id pt
      rw [e, e2] at eb; cases eb
      rw [cb] at c2; simp at c2
    refine wpAny_pyNext_zipD2_item S (draws_keys calm nd dd hsz) (Draws.tuple calm i2 b nb its.toArray) hz hTI hTO ⟨h1, hgd⟩ ⟨h2, pt⟩ l1 (by simp; omega) fun x1 x2 h' tk p1 p2 b1 b2 s1 s2 b5 b6 hk => ?_
    obtain ⟨en, hen, ex1⟩ := p1
    have ex2 : x2 = u2 := by
      have : its[i]? = some x2 := by simpa using p2
      rw [hu2] at this; exact (Option.some.inj this).symm
    have rk : RelV (kV k) x1 := by
      obtain ⟨o', es', ho', _, hdt', _, hp, _⟩ := id hm
      rw [hgd] at ho'; cases ho'
      obtain ⟨rfl, _⟩ := dict_ep dd hdt'
      rw [ex1]
      exact relV_key (show keyIs k en.key = true from (hp.get? (e := en) (by simpa using hen) hu).1)
    refine ⟨_, rfl, wpAny_letOwnedTupleGo_zip (s := { s with heap := h', toks := tk }) b1 fun h'' z'' sb => ?_⟩
    have hT2 : h''.get? s.heap.objs.size = some { cls := .type "tuple", data := .seq #[x1, x2] } := (sb.2 _ (Nat.ne_of_gt hzl)).trans b5
    have new : ObjOk X.prog X.w (upd H s.heap.objs.size (.tup [kV k, y])) h'' s.heap.objs.size (.tup [kV k, y]) :=
      ⟨by show 2 ≤ sizeLine; decide, [x1, x2], .cons rk (.cons (ex2 ▸ ru2) .nil), ⟨_, hT2, rfl, _, rfl⟩⟩
    have I1 : Inv X pins σ (upd H s.heap.objs.size (.tup [kV k, y])) { s with heap := h'', toks := tk } :=
      I.turnedNew (ch := [z, TI, TO, i1, i2]) (fun c o hb q => (sb.2 c (fun q' => hb (by simp [q']))).trans (hk c o (fun q' => hb (by simp [q'])) (fun q' => hb (by simp [q'])) (fun q' => hb (by simp [q'])) (fun q' => hb (by simp [q'])) q)) hf (Nat.le_refl _) new
    refine ⟨.ref s.heap.objs.size, _, I1, rfl, ⟨_, k, v, y, rfl, I.hok.fresh (Nat.le_refl _), rfl, hkv, hy⟩, ⟨z'', ?_, ⟨x1, x2, ?_⟩, ?_, ?_⟩, fun c hcm => ?_⟩
    · exact (sb.2 _ S.TIz).trans (hk _ _ S.TIz S.TITO S.TIi1 S.TIi2 hTI)
    · exact (sb.2 _ S.TOz).trans b2
    · exact s1.1.at fun o q => (sb.2 _ S.zi1.symm).trans q
    · exact s2.1.at fun o q => (sb.2 _ S.zi2.symm).trans q
    · have hlt : c < s.heap.objs.size := by
        simp only [List.mem_cons, List.not_mem_nil, or_false] at hcm
        rcases hcm with q | q | q | q | q <;> rw [q]
        · exact hzl
        · exact Heap.lt_size hTI
        · exact Heap.lt_size hTO
        · obtain ⟨_, e1, _⟩ := h1; exact Heap.lt_size e1
        · obtain ⟨_, e1, _⟩ := h2; exact Heap.lt_size e1
      rw [upd_ne (Nat.ne_of_lt hlt)]
      exact (hf c hcm).1
  done := by
    intro X hP hw hK hc i pins s σ H E I hf st hg
    subst hP hw hK
    obtain ⟨hz, hTI, ⟨x0, y0, hTO⟩, h1, h2⟩ := st
    obtain ⟨hd, hb, ei⟩ := hg
    obtain ⟨hs, hgd, hx, es', ep', vs, hdt, hsz, kv, hm⟩ := I.frzK hd
    obtain ⟨rfl, rfl⟩ := dict_ep dd hdt
    obtain ⟨its, rv, pt, _⟩ := I.tuple hb
    have tl : its.length = ys.length := rv.length.symm
    have calm : X.A.in1.handled = none := I.ok.hd hc
    have nd : d ≠ i1 := fun e => by have q := (hf i1 (by simp)).1; rw [← e, hd] at q; cases q
    have nb : b ≠ i2 := fun e => by
      obtain ⟨o2, e2, c2, _⟩ := id h2
      obtain ⟨ob, eb, cb, _⟩ := id pt
      rw [e, e2] at eb; cases eb
      rw [cb] at c2; simp at c2
    subst ei
    refine wpAny_pyNext_zipD2_end S (draws_keys calm nd dd hsz) (Draws.tuple calm i2 b nb its.toArray) hz hTI hTO ⟨h1, hgd⟩ ⟨h2, pt⟩ (Nat.le_refl _) (by simp; omega) (by simp) fun h' tk hk => ?_
    exact ⟨rfl, I.turnedL (ch := [z, TI, TO, i1, i2]) (fun c o hb q => hk c o (fun q' => hb (by simp [q'])) (fun q' => hb (by simp [q'])) (fun q' => hb (by simp [q'])) (fun q' => hb (by simp [q'])) q) hf⟩
  self := fun A i s Q E st h => wpAny_pyIter_zip st.1 h
def iZipD (K : PySem.W.Frag) (ta : TA) : TI := fun σ H R => ta σ H fun vs H1 => ∃ d o kvs b ys, vs = [.ref d, .ref b] ∧ H1 d = some (.frz o (.dK kvs)) ∧ SqT K H1 b ys ∧ kvs.length = ys.length ∧ R (Itzd K d o kvs b ys) H1
theorem pi_zipD {X : Cx} {e e2 : Expr} {ta : TA} {p pos tpos : Pos} {elts : List Expr} {kk : Nat} (hg : Gl X "zip") (hm : X.mg "zip" = none) (ha : PA X [e, e2] ta)
    (hs : starEach [e, e2] X.env = (false, eval e X.env) :: starEach [e2] X.env := by rfl) (hpl : (backTo pos (starEach [e2] X.env)).any (·.1) = false := by rfl) :
    PI X (.Tuple elts kk tpos) (.Call (.Name "zip" p) [e, e2] [] pos) (iZipD X.K ta) := by
  refine ⟨fun pins s σ H R I h => ?_⟩
  refine Call_ (ld_blt I hg hm PyProof.Rows.boot_zip (PyProof.Rows.callWith_type1 (thn (ha.run pos pins s σ H _ I h) fun us s1 ⟨vs, H1, I1, r1, q1⟩ => ?_) hs hpl))
  obtain ⟨d, o, kvs, b, ys, ex, hd, hb, hl, q⟩ := q1
  subst ex
  obtain ⟨u1, u2, rfl, r1, r2⟩ : ∃ u1 u2, us = [u1, u2] ∧ RelV (V.ref d) u1 ∧ RelV (V.ref b) u2 := by
    cases r1 with
    | cons r rr =>
      cases rr with
      | cons r' rr =>
        cases rr
        exact ⟨_, _, rfl, r, r'⟩
  obtain rfl : u1 = Value.ref d := r1
  obtain rfl : u2 = Value.ref b := r2
  obtain ⟨hs', hgd, hx, es, ep, vs, hdt, hsz, kv, hmm⟩ := I1.frzK hd
  obtain ⟨its, rv, pt, _⟩ := I1.tuple hb
  have ld : d < s1.heap.objs.size := Heap.lt_size hgd
  have lb : b < s1.heap.objs.size := by obtain ⟨_, e, _⟩ := id pt; exact Heap.lt_size e
  refine zip_begins2 (begins_keys hs' hx hdt) (begins_tuple b its.toArray) hgd pt fun h' hz hTI hTO g1 g2 hsz' hk => wpAny_pyIter_zip hz ?_
  have I2 : Inv X pins σ H1 { s1 with heap := h' } := I1.kept (t' := s1.toks) hk
  refine ⟨s1.heap.objs.size + 4, [s1.heap.objs.size + 4, s1.heap.objs.size + 2, s1.heap.objs.size + 3, s1.heap.objs.size, s1.heap.objs.size + 1], _, _, H1, rfl, I2, turn_zipD (sep_zipD s1.heap.objs.size d b ld lb) hdt hl, ⟨hz, hTI, ⟨_, _, hTO⟩, ⟨_, g1, rfl, by rw [hsz]; rfl⟩, ⟨_, g2, rfl, rfl⟩⟩, fun c hcm => ?_, q⟩
  have hle : s1.heap.objs.size ≤ c := by
    simp only [List.mem_cons, List.not_mem_nil, or_false] at hcm
    rcases hcm with z | z | z | z | z <;> rw [z] <;> first | exact Nat.le_refl _ | exact Nat.le_add_right _ _
  exact I1.fpOk hle (I1.hok.fresh hle)
end Bg
set_option Elab.async false
set_option linter.all false
set_option maxRecDepth 100000
set_option maxHeartbeats 4000000
/-! values that are trees -/
namespace Bg
open PySem PySem.Spec PyProof.Rows L2
/-! data whose tuples begin with a text, if with anything -/
mutual
inductive Hd : PyData → Prop
  | bl (b : Bool) : Hd (.bool b)
  | int (i : Int) : Hd (.int i)
  | str (x : Str) : Hd (.str x)
  | nil : Hd (.tuple [])
  | cons (m : Str) {ds : List PyData} (h : HdAll ds) : Hd (.tuple (.str m :: ds))
inductive HdAll : List PyData → Prop
  | nil : HdAll []
  | cons {d : PyData} {ds : List PyData} (h : Hd d) (r : HdAll ds) : HdAll (d :: ds)
end
theorem HdAll.mem : ∀ {ds : List PyData}, HdAll ds → ∀ d ∈ ds, Hd d
  | _, .nil, d, h => by cases h
  | _, .cons a r, d, h => by
    rcases List.mem_cons.mp h with e | e
    · rw [e]; exact a
    · exact HdAll.mem r d e
theorem HdAll.of : ∀ {ds : List PyData}, (∀ d ∈ ds, Hd d) → HdAll ds
  | [], _ => .nil
  | d :: ds, h => .cons (h d (List.mem_cons_self ..)) (HdAll.of fun e he => h e (List.mem_cons_of_mem _ he))
def byteB : PyData → Bool
  | .int i => decide (0 ≤ i) && decide (i ≤ 255)
  | _ => false
def valB (f : Str → PyData → Bool) (k : Str) (d : PyData) : Bool := if k = ("byte" : Str) then byteB d else f k d
def allV (f : Str → PyData → Bool) : List Part → List PyData → Bool
  | [], [] => true
  | p :: ps, d :: ds => valB f p.2.1 d && allV f ps ds
  | _, _ => false
def rowAt (rs : List Row) (k m : Str) : Option Row := rs.find? fun r => decide (r.1 = k ∧ r.2.1 = m)
/-- a tree of the kind k of at most so many levels -/
def fitB (rs : List Row) : Nat → Str → PyData → Bool
  | 0, _, _ => false
  | n + 1, k, .tuple (.str m :: ds) => match rowAt rs k m with
    | some r => allV (fitB rs n) r.2.2 ds
    | none => false
  | _ + 1, _, _ => false
theorem rowAt_some {rs : List Row} (nd : (rmakers rs).Nodup) {r : Row} (h : r ∈ rs) : rowAt rs r.1 r.2.1 = some r := by
  unfold rowAt
  cases e : rs.find? (fun r' => decide (r'.1 = r.1 ∧ r'.2.1 = r.2.1)) with
  | none => exact absurd (decide_eq_true ⟨rfl, rfl⟩) (List.find?_eq_none.mp e r h)
  | some r' =>
    have z := of_decide_eq_true (List.find?_some (p := fun r' : Row => decide (r'.1 = r.1 ∧ r'.2.1 = r.2.1)) e)
    rw [row_unique nd (List.mem_of_find?_eq_some e) h z.2]
theorem rowAt_of {rs : List Row} {k m : Str} {r : Row} (h : rowAt rs k m = some r) : r ∈ rs ∧ r.1 = k ∧ r.2.1 = m := by
  unfold rowAt at h
  have z := of_decide_eq_true (List.find?_some (p := fun r' : Row => decide (r'.1 = k ∧ r'.2.1 = m)) h)
  exact ⟨List.mem_of_find?_eq_some h, z⟩
theorem mem_makersOf {rs : List Row} {k m : Str} : m ∈ makersOf rs k ↔ ∃ r ∈ rs, r.1 = k ∧ r.2.1 = m := by
  unfold makersOf
  rw [List.mem_map]
  constructor
  · rintro ⟨r, h, e⟩
    obtain ⟨h1, h2⟩ := List.mem_filter.mp h
    exact ⟨r, h1, of_decide_eq_true h2, e⟩
  · rintro ⟨r, h, e, e2⟩
    exact ⟨r, List.mem_filter.mpr ⟨h, decide_eq_true e⟩, e2⟩
theorem rowAt_none {rs : List Row} {k m : Str} (h : m ∉ makersOf rs k) : rowAt rs k m = none := by
  cases e : rowAt rs k m with
  | none => rfl
  | some r => exact absurd (mem_makersOf.mpr ⟨r, rowAt_of e⟩) h
theorem fitB_row {rs : List Row} (nd : (rmakers rs).Nodup) {r : Row} (h : r ∈ rs) (n : Nat) (ds : List PyData) : fitB rs (n + 1) r.1 (.tuple (.str r.2.1 :: ds)) = allV (fitB rs n) r.2.2 ds := by
  rw [fitB, rowAt_some nd h]
theorem fitB_out {rs : List Row} {k m : Str} (h : m ∉ makersOf rs k) (n : Nat) (ds : List PyData) : fitB rs n k (.tuple (.str m :: ds)) = false := by
  cases n with
  | zero => rfl
  | succ n => rw [fitB, rowAt_none h]
theorem allV_len {f : Str → PyData → Bool} : ∀ {ps : List Part} {ds : List PyData}, allV f ps ds = true → ds.length = ps.length
  | [], [], _ => rfl
  | [], _ :: _, h => by cases h
  | _ :: _, [], h => by cases h
  | p :: ps, d :: ds, h => by
    have h : (valB f p.2.1 d && allV f ps ds) = true := h
    rw [Bool.and_eq_true] at h
    rw [List.length_cons, List.length_cons, allV_len h.2]
theorem allV_no {f : Str → PyData → Bool} {ps : List Part} {ds : List PyData} (h : ¬ ds.length = ps.length) : allV f ps ds = false := by
  cases e : allV f ps ds with
  | false => rfl
  | true => exact absurd (allV_len e) h
theorem part_kind {ps : List Part} (h : partsB ps = true) {p : Part} (hp : p ∈ ps) : partB p = true := by
  unfold partsB at h
  simp only [Bool.and_eq_true] at h
  exact List.all_eq_true.mp h.2.1 p hp
/-- what a part holds, as the table says it -/
theorem hold_kind {ps : List Part} (h : partsB ps = true) {p : Part} (hp : p ∈ ps) : (holdOf p).1 = p.2.1 := by
  have := part_kind h hp
  obtain ⟨n, k, c⟩ := p
  cases c with
  | none =>
    rw [partB_n, Bool.and_eq_true] at this
    exact (of_decide_eq_true this.2).symm
  | some c => rfl
theorem fitB_nil (rs : List Row) (n : Nat) (k : Str) : fitB rs n k (.tuple []) = false := by cases n <;> rfl
theorem fitB_str (rs : List Row) (n : Nat) (k x : Str) : fitB rs n k (.str x) = false := by cases n <;> rfl
theorem fitB_int (rs : List Row) (n : Nat) (k : Str) (i : Int) : fitB rs n k (.int i) = false := by cases n <;> rfl
theorem fitB_bool (rs : List Row) (n : Nat) (k : Str) (b : Bool) : fitB rs n k (.bool b) = false := by cases n <;> rfl
theorem allV_drop {f : Str → PyData → Bool} {ps : List Part} {ds : List PyData} {i : Nat} {p : Part} {d : PyData} (hp : ps[i]? = some p) (hd : ds[i]? = some d) : allV f (ps.drop i) (ds.drop i) = (valB f p.2.1 d && allV f (ps.drop (i + 1)) (ds.drop (i + 1))) := by
  have l1 := (List.getElem?_eq_some_iff.mp hp)
  have l2 := (List.getElem?_eq_some_iff.mp hd)
  rw [List.drop_eq_getElem_cons l1.1, List.drop_eq_getElem_cons l2.1, l1.2, l2.2]
  rfl
theorem TdAll.get {H : Hp} : ∀ {vs : List V} {ds : List PyData}, TdAll H vs ds → ∀ {i : Nat} {v : V}, vs[i]? = some v → ∃ d, ds[i]? = some d ∧ Td H v d
  | _, _, .nil, i, v, h => by simp at h
  | _, _, .cons a r, 0, v, h => by
    simp at h; subst h; exact ⟨_, by simp, a⟩
  | _, _, .cons a r, i + 1, v, h => by
    simp at h
    obtain ⟨d, e, t⟩ := TdAll.get r h
    exact ⟨d, by simpa using e, t⟩
/-! ### the methods -/
section
variable {P : Program} {w : World} {K : PySem.W.Frag} {mg : Str → Option Value} {base : Heap} {fd : FuncData}
def spIsByte : Sp := fun vs H Q _ => ∃ (v : V) (d : PyData), vs = [v, .int 0, .int 255] ∧ Td H v d ∧ Q (.bl (byteB d)) H
theorem ok_is_byte (T : Tx K mg) (F : FnP K ("is_number", none) "is_number" "is_number" s_is_number fd) : FnOk P w K mg base CX0 1 (He.fAd K ("is_number", none)) fd ["value", "low", "high"] spIsByte := by
  refine F.ok sc_is_number (fun vs H Q E h => ?_) (fun cdv A outer s H vs Q E hr h => ?_)
  · obtain ⟨_, _, rfl, _⟩ := h; rfl
  obtain ⟨v, d, rfl, td, q⟩ := h
  refine ⟨_, PSs.nox (pss_one (ps_ret (pe_and (pe_callB call_isi (by rfl) T.n_isinstance (by decide +kernel) (pa_cons (pv 0) (pa_cons (pe_bltn (v := .ty "int") (by rfl) T.n_int (by decide +kernel) rfl) pa_nil)))
    (pe_and (pe_not (pe_callB call_isi (by rfl) T.n_isinstance (by decide +kernel) (pa_cons (pv 0) (pa_cons (pe_bltn (v := .ty "bool") (by rfl) T.n_bool (by decide +kernel) rfl) pa_nil))))
      (pe_one (pe_chain op_le op_le (pv 1) (pv 0) (pv 2))))))), ?_⟩
  cases td with
  | bl b =>
    refine ⟨_, rfl, .bl b, .ty "int", .type "bool", .type "int", true, rfl, ClsV.ty _, TyX.base (TyOf.bl b), kit_ty (by decide +kernel), _, rfl, iteT ?_⟩
    exact ⟨_, rfl, .bl b, .ty "bool", .type "bool", .type "bool", true, rfl, ClsV.ty _, TyX.base (TyOf.bl b), kit_ty (by decide +kernel), _, rfl, _, rfl, iteF q⟩
  | str x => exact ⟨_, rfl, .str x, .ty "int", .type "str", .type "int", false, rfl, ClsV.ty _, TyX.base (TyOf.str x), kit_ty (by decide +kernel), _, rfl, iteF q⟩
  | tup e h => exact ⟨_, rfl, .ref _, .ty "int", .type "tuple", .type "int", false, rfl, ClsV.ty _, TyX.base (TyOf.tup e), kit_ty (by decide +kernel), _, rfl, iteF q⟩
  | int i =>
    refine ⟨_, rfl, .int i, .ty "int", .type "int", .type "int", true, rfl, ClsV.ty _, TyX.base (TyOf.int i), kit_ty (by decide +kernel), _, rfl, iteT ?_⟩
    refine ⟨_, rfl, .int i, .ty "bool", .type "int", .type "bool", false, rfl, ClsV.ty _, TyX.base (TyOf.int i), kit_ty (by decide +kernel), _, rfl, _, rfl, iteT ?_⟩
    have eb : byteB (.int i) = (decide ((0 : Int) ≤ i) && decide (i ≤ 255)) := rfl
    rw [eb] at q
    refine ⟨_, rfl, _, rfl, _, _, rfl, rfl, _, rfl, ite2 (fun h1 => ?_) (fun h1 => ?_)⟩
    · rw [show decide ((0 : Int) ≤ i) = true from h1] at q
      exact ⟨_, rfl, _, _, rfl, rfl, q⟩
    · rw [show decide ((0 : Int) ≤ i) = false from Bool.eq_false_iff.mpr h1] at q; exact q
theorem call_lenFz {X : Cx} : CallR X (.builtin "len") rLenFz := by
  intro pins s σ H xs us Q I r h
  obtain ⟨a, kvs, rfl, ⟨o, ha⟩, q⟩ := h
  obtain ⟨u, rfl, ru⟩ := vals1 r
  cases ru
  exact d_len I (.inr ⟨o, ha⟩) fun t s' I' => ⟨.int kvs.length, H, I', ⟨t, rfl⟩, q⟩
def spTF (K : PySem.W.Frag) (n : Nat) : Sp := fun vs H Q _ => ∃ (x : Addr) (v : V) (k : Str) (rs : List Row) (d : PyData), vs = [.ref x, v, .str k, .int (n : Nat)] ∧ KindsF K H x rs ∧ ValidT rs ∧ k ∈ rkinds rs ∧ Td H v d ∧ Hd d ∧ ∀ H', Same H H' → Q (.bl (fitB rs n k d)) H'
def spVF (K : PySem.W.Frag) (n : Nat) : Sp := fun vs H Q _ => ∃ (x : Addr) (v : V) (k : Str) (rs : List Row) (d : PyData), vs = [.ref x, v, .str k, .int (n : Nat)] ∧ KindsF K H x rs ∧ ValidT rs ∧ (k = ("byte" : Str) ∨ k ∈ rkinds rs) ∧ Td H v d ∧ Hd d ∧ ∀ H', Same H H' → Q (.bl (valB (fitB rs n) k d)) H'
theorem ok_value_fits (T : Tx K mg) {n : Nat} {ft : FuncData} (G : FnOk P w K mg base CX0 (2 * n + 2) (He.fAd K ("Kinds", some "_tree_fits")) ft ["self", "tree", "kind", "levels"] (spTF K n)) (bG : Binds K ft ["self", "tree", "kind", "levels"] [])
    (F : FnP K ("Kinds", some "_value_fits") "_value_fits" "Kinds._value_fits" s_Kinds_value_fits fd) : FnOk P w K mg base CX0 (2 * n + 3) (He.fAd K ("Kinds", some "_value_fits")) fd ["self", "value", "inner", "levels"] (spVF K n) := by
  obtain ⟨f1, F1⟩ := T.F_is_number
  obtain ⟨tB, mB⟩ := T.c_BYTE
  refine F.ok (k := 2 * n + 2) sc_Kinds_value_fits (fun vs H Q E h => ?_) (fun cdv A outer s H vs Q E hr h => ?_)
  · obtain ⟨_, _, _, _, _, rfl, _⟩ := h; rfl
  obtain ⟨x, v, k, rs, d, rfl, hK, val, hk, td, hd, q⟩ := h
  refine ⟨_, PSs.nox (pss_cons (ps_if (pt_cmpR op_eq (pv 2) (pe_glob (v := .str "byte") (by rfl) mB ⟨_, rfl⟩) (nomark _)) (pss_one (ps_ret (pe_call (ok_is_byte T F1) (hr.mono (by omega)) (by rfl) T.g_is_number T.k_is_number (b_is_number F1) .nil pass0 (pa_cons (pv 1) (pa_cons pe_int (pa_cons pe_int pa_nil)))))) pss_nil)
    (pss_one (ps_ret (pe_meth (pv 0) T.cl_Kinds T.m_Kinds_tree_fits G hr bG .nil pass0 (pa_cons (pv 1) (pa_cons (pv 2) (pa_cons (pv 3) pa_nil))))))), ?_⟩
  refine ⟨_, rfl, rfl, _, rfl, ite2 (fun h1 => ?_) (fun h1 => ?_)⟩
  · have e : k = ("byte" : Str) := by simpa using h1
    have := q H (Same.refl _)
    unfold valB at this
    rw [if_pos e] at this
    exact ⟨_, rfl, v, d, rfl, td, this⟩
  · have e : ¬ k = ("byte" : Str) := by simpa using h1
    obtain ⟨dx, dm, dk, dp, dl, tn, to, h0, _⟩ := id hK
    refine ⟨_, rfl, x, dx, _, rfl, h0, kF_none (by decide +kernel), _, rfl, _, rfl, _, rfl, x, v, k, rs, d, rfl, hK, val, hk.resolve_left e, td, hd, fun H' s' => ?_⟩
    have := q H' s'
    unfold valB at this
    rw [if_neg e] at this
    exact this
theorem ok_tree_fits0 (T : Tx K mg) (F : FnP K ("Kinds", some "_tree_fits") "_tree_fits" "Kinds._tree_fits" s_Kinds_tree_fits fd) : FnOk P w K mg base CX0 2 (He.fAd K ("Kinds", some "_tree_fits")) fd ["self", "tree", "kind", "levels"] (spTF K 0) := by
  refine F.ok sc_Kinds_tree_fits (fun vs H Q E h => ?_) (fun cdv A outer s H vs Q E hr h => ?_)
  · obtain ⟨_, _, _, _, _, rfl, _⟩ := h; rfl
  obtain ⟨x, v, k, rs, d, rfl, hK, val, hk, td, hd, q⟩ := h
  refine ⟨_, PSs.nox (pss_cons (ps_if (PW.pt (pw_or (pt_cmpR op_eq (pv 3) pe_int (nomark _)) (pw_or (pt_not (pt_val (pe_callB call_isi (by rfl) T.n_isinstance (by decide +kernel) (pa_cons (pv 1) (pa_cons (pe_bltn (v := .ty "tuple") (by rfl) T.n_tuple (by decide +kernel) rfl) pa_nil)))))
      (pw_or1 (pt_cmpR op_eq (pe_callB call_len_seq (by rfl) T.n_len PySem.boot_len (pa_cons (pv 1) pa_nil)) pe_int (nomark _)))))) (pss_one (ps_ret pe_bl)) pss_nil) pss_never), ?_⟩
  refine ⟨_, rfl, rfl, _, rfl, iteT (iteT ?_)⟩
  exact q H (Same.refl _)
theorem ok_tree_fits1 (T : Tx K mg) {n : Nat} {fv : FuncData} (G : FnOk P w K mg base CX0 (2 * n + 3) (He.fAd K ("Kinds", some "_value_fits")) fv ["self", "value", "inner", "levels"] (spVF K n)) (bG : Binds K fv ["self", "value", "inner", "levels"] [])
    (F : FnP K ("Kinds", some "_tree_fits") "_tree_fits" "Kinds._tree_fits" s_Kinds_tree_fits fd) : FnOk P w K mg base CX0 (2 * n + 4) (He.fAd K ("Kinds", some "_tree_fits")) fd ["self", "tree", "kind", "levels"] (spTF K (n + 1)) := by
  refine F.ok (k := 2 * n + 3) sc_Kinds_tree_fits (fun vs H Q E h => ?_) (fun cdv A outer s H vs Q E hr h => ?_)
  · obtain ⟨_, _, _, _, _, rfl, _⟩ := h; rfl
  obtain ⟨x, v, k, rs, d, rfl, hK, val, hk, td, hd, q⟩ := h
  have hu := hu_of hr
  have nd := sc_Kinds_tree_fits.nd
  refine ⟨_, PSs.nox (pss_cons (ps_if (PW.pt (pw_or (pt_cmpR op_eq (pv 3) pe_int (nomark _)) (pw_or (pt_not (pt_val (pe_callB call_isi (by rfl) T.n_isinstance (by decide +kernel) (pa_cons (pv 1) (pa_cons (pe_bltn (v := .ty "tuple") (by rfl) T.n_tuple (by decide +kernel) rfl) pa_nil)))))
      (pw_or1 (pt_cmpR op_eq (pe_callB call_len_seq (by rfl) T.n_len PySem.boot_len (pa_cons (pv 1) pa_nil)) pe_int (nomark _)))))) (pss_one (ps_ret pe_bl)) pss_nil)
    (pss_cons (ps_if (pt_cmpR op_notIn_seq (pe_ix ix_tup (pv 1) pe_int (fun _ _ => rfl)) (pe_dget hu (pe_fld (pv 0) rfl) (pv 2) (fun _ _ => rfl)) (by rfl)) (pss_one (ps_ret pe_bl)) pss_nil)
    (pss_cons (ps_set (i := 4) nd rfl (.inl rfl) (pe_dget hu (pe_fld (pv 0) rfl) (pe_ix ix_tup (pv 1) pe_int (fun _ _ => rfl)) (fun _ _ => rfl)))
    (pss_cons (ps_if (pt_cmpR op_ne (pe_callB call_len_seq (by rfl) T.n_len PySem.boot_len (pa_cons (pv 1) pa_nil)) (pe_op op_add (pe_callB call_lenFz (by rfl) T.n_len PySem.boot_len (pa_cons (pv 4) pa_nil)) pe_int) (nomark _)) (pss_one (ps_ret pe_bl)) pss_nil)
    (pss_cons (ps_for PassesOwn.never rfl (pi_zipD (by rfl) T.n_zip (pa_cons (pv 4) (pa_cons (pe_slice sl_tupA (pv 1) (po_some pe_int) po_none) pa_nil))) (pg_tup rfl (pgs_cons (pg_name (i := 5) nd rfl (.inl rfl)) (pgs_cons (pg_name (i := 6) nd rfl (.inl rfl)) pgs_nil)))
      (pss_one (ps_if (pt_not (pt_val (pe_meth (pv 0) T.cl_Kinds T.m_Kinds_value_fits G hr bG .nil pass0 (pa_cons (pv 6) (pa_cons (pe_ix ix_tup (pe_dget hu (pv 4) (pv 5) (fun _ _ => rfl)) pe_int (fun _ _ => rfl)) (pa_cons (pe_op op_sub (pv 3) pe_int) pa_nil)))))) (pss_one (ps_ret pe_bl)) pss_nil)))
    (pss_one (ps_ret pe_bl))))))), ?_⟩
  have nz : decide (V.int (((n + 1 : Nat) : Int)) = V.int 0) = false := decide_eq_false fun e => by have := V.int.inj e; omega
  refine ⟨_, rfl, rfl, _, rfl, ?_⟩
  rw [nz]
  refine iteF ?_
  cases td with
  | bl b => exact ⟨_, rfl, .bl b, .ty "tuple", .type "bool", .type "tuple", false, rfl, ClsV.ty _, TyX.base (TyOf.bl b), kit_ty (by decide +kernel), _, rfl, iteT (iteT (by have := q H (Same.refl _); exact this))⟩
  | str b => exact ⟨_, rfl, .str b, .ty "tuple", .type "str", .type "tuple", false, rfl, ClsV.ty _, TyX.base (TyOf.str b), kit_ty (by decide +kernel), _, rfl, iteT (iteT (by have := q H (Same.refl _); exact this))⟩
  | int b => exact ⟨_, rfl, .int b, .ty "tuple", .type "int", .type "tuple", false, rfl, ClsV.ty _, TyX.base (TyOf.int b), kit_ty (by decide +kernel), _, rfl, iteT (iteT (by have := q H (Same.refl _); exact this))⟩
  | @tup a xs ds ha ta =>
    refine ⟨_, rfl, .ref a, .ty "tuple", .type "tuple", .type "tuple", true, rfl, ClsV.ty _, TyX.base (TyOf.tup ha), kit_ty (by decide +kernel), _, rfl, iteF ?_⟩
    refine ⟨_, rfl, a, _, rfl, .inr (SqT.of ha), rfl, _, rfl, ?_⟩
    cases hd with
    | nil =>
      cases ta with
      | nil =>
        rw [show decide (V.int ((([] : List V).length : Nat) : Int) = V.int 0) = true from decide_eq_true rfl]
        refine iteT ?_
        have := q H (Same.refl _)
        rw [fitB_nil] at this
        show Q (V.bl false) H
        exact this
    | @cons m ds hds =>
    cases ta with
    | @cons v0 vs0 _ _ t0 tr =>
    cases t0 with
    | str =>
    have nz2 : decide (V.int (((V.str m :: vs0).length : Nat) : Int) = V.int 0) = false := decide_eq_false fun e => by
      have := V.int.inj e
      rw [List.length_cons] at this; omega
    rw [nz2]
    refine iteF ?_
    obtain ⟨dx, dm, dk, dp, dl, tn, to, h0, mvs, kvs, pvs, lvs, ⟨h1, h2⟩, ⟨h3, h4⟩, ⟨h5, h6⟩, h7⟩ := id hK
    obtain ⟨mv, e1, t, o, rfl, ho, ht⟩ := KD.some h2 (mem_distinct.mpr hk)
    refine ⟨_, rfl, a, _, _, .str m, rfl, rfl, SqT.of ha, atI_nat (j := 0) rfl, _, rfl, x, CK K, dx, _, _, rfl, h0, T.cl_Kinds, T.na_Kinds_makers_, kF_makers, _, rfl, dm, _, rfl, (by rw [← e1]; exact h1.get (Sum.inr k)), t, _, rfl, .inr (sqT_frz ht), rfl, flat_str _, _, rfl, ?_⟩
    rw [inV_strs]
    by_cases hm : m ∈ makersOf rs k
    · rw [decide_eq_true hm]
      refine iteF ?_
      obtain ⟨r, hr', rfl, rfl⟩ := mem_makersOf.mp hm
      obtain ⟨d, hv, e2, hd', hh⟩ := parts_at h6 val hr'
      refine ⟨_, rfl, x, CK K, dx, _, _, rfl, h0, T.cl_Kinds, T.na_Kinds_parts_, kF_parts, _, rfl, a, _, _, .str r.2.1, rfl, rfl, SqT.of ha, atI_nat (j := 0) rfl, dp, _, rfl, (by rw [← e2]; exact h5.get (Sum.inr _)), ?_⟩
      have lh : hv.length = r.2.2.length := by rw [KD.length hh, List.length_map]
      have lv : vs0.length = ds.length := tr.length
      refine ⟨_, rfl, a, _, rfl, .inr (SqT.of ha), _, rfl, d, hv, rfl, hd', _, _, rfl, rfl, rfl, _, rfl, ?_⟩
      rw [show decide (V.int (((V.str r.2.1 :: vs0).length : Nat) : Int) = V.int ((hv.length : Nat) + 1)) = decide (ds.length = r.2.2.length) from by
        rw [List.length_cons, lv, lh]
        by_cases z : ds.length = r.2.2.length
        · rw [z, decide_eq_true rfl]; exact decide_eq_true rfl
        · rw [decide_eq_false z]; exact decide_eq_false fun w => z (by have := V.int.inj w; omega)]
      by_cases hl : ds.length = r.2.2.length
      · rw [decide_eq_true hl]
        refine iteF ?_
        have cut : cutV (V.str r.2.1 :: vs0) (some 1) none = vs0 := by
          have := cutV_drop (V.str r.2.1 :: vs0) 1
          simpa using this
        refine ⟨_, rfl, _, rfl, _, rfl, a, _, rfl, SqT.of ha, ?_, fun _ b hb => ?_⟩
        · intro z
          have z1 : HT.sIx (V.str r.2.1 :: vs0).length 0 (some ((1 : Nat) : Int)) = 0 := z.1
          rw [HT.sIx_nat, List.length_cons] at z1
          omega
        rw [cut]
        have s1 := same_new (o := .tup vs0) hb
        obtain ⟨od, hd1⟩ := id hd'
        refine ⟨d, od, hv, b, vs0, rfl, s1 _ _ hd1, SqT.of upd_same, by omega, for_it (walk_zipD (by omega)) (fun i σ H2 => (∃ v5 v6, σ = [some (.ref x), some (.ref a), some (.str r.1), some (.int ((n + 1 : Nat) : Int)), some (.ref d), v5, v6]) ∧ Same H H2 ∧ H2 b = some (.tup vs0) ∧
          allV (fitB rs n) r.2.2 ds = allV (fitB rs n) (r.2.2.drop i) (ds.drop i)) ⟨⟨_, _, rfl⟩, s1, upd_same, rfl⟩ (fun i σ H2 _ z => ⟨z.2.1 _ _ hd1, SqT.of z.2.2.1⟩) ?_ ?_⟩
        · rintro i y σ H2 H3 hi ⟨⟨v5, v6, rfl⟩, sm, hbb, ea⟩ ⟨T1, kk, xx, yy, rfl, hT, rfl, hkv, hy⟩
          obtain ⟨j, hj, ej⟩ := KD.at hh hkv
          cases (show kk = Sum.inr j from ej)
          obtain ⟨p, hp, rfl⟩ : ∃ p, r.2.2[i]? = some p ∧ p.1 = j := by
            rw [List.getElem?_map] at hj
            cases e : r.2.2[i]? with
            | none => rw [e] at hj; cases hj
            | some p => rw [e] at hj; exact ⟨p, rfl, Option.some.inj hj⟩
          obtain ⟨dd, hdd, tdd⟩ := tr.get hy
          have sm3 : Same H (upd H2 T1 (.tup [kV (Sum.inr p.1), yy])) := sm.trans (same_new hT)
          have hp' := List.mem_of_getElem? hp
          obtain ⟨v2, e3, p2, hp2, e4, t2, rfl, ht2⟩ := KD.some hh (List.mem_map.mpr ⟨p, hp', rfl⟩)
          cases part_unique (val.ndp hr') hp2 hp' e4
          refine ⟨T1, _, rfl, .inl (.inl upd_same), rfl, _, _, rfl, _, _, rfl, rfl, ?_⟩
          have hd3 : FzAt (upd H2 T1 (.tup [kV (Sum.inr p.1), yy])) d hv := hd'.mono (imms_of sm3)
          refine ⟨_, rfl, x, dx, _, rfl, sm3 _ _ h0, kF_none (by decide +kernel), _, rfl, _, rfl, _, rfl, d, _, rfl, (by rw [← e3]; exact hd3.get (Sum.inr p.1)), t2, _, _, _, rfl, rfl, SqT.of (sm3 _ _ ht2), atI_nat (j := 0) rfl, _, rfl, _, _, rfl, rfl, ?_⟩
          refine ⟨x, yy, (holdOf p).1, rs, dd, by show [V.ref x, yy, V.str (holdOf p).1, V.int (((n + 1 : Nat) : Int) - 1)] = _; rw [show ((n + 1 : Nat) : Int) - 1 = ((n : Nat) : Int) by omega], hK.same sm3, val, ?_, tdd.mono (tups_of sm3), hds.mem _ (List.mem_of_getElem? hdd), fun H4 s4 => ?_⟩
          · obtain ⟨pn, pk, pc⟩ := p
            have := part_kind (val.each.good r hr').2.2 hp'
            cases pc with
            | none => exact .inl rfl
            | some c => exact (val.inner r hr' _ hp').imp (fun z => z) fun z => z
          · have eh : valB (fitB rs n) (holdOf p).1 dd = valB (fitB rs n) p.2.1 dd := by rw [hold_kind (val.each.good r hr').2.2 hp']
            rw [eh]
            have ed := allV_drop (f := fitB rs n) hp hdd
            refine ⟨_, rfl, ?_⟩
            cases hv' : valB (fitB rs n) p.2.1 dd with
            | false =>
              refine iteT ?_
              have := q H4 (sm3.trans s4)
              rw [fitB_row val.nd hr', ea, ed, hv'] at this
              exact this
            | true =>
              refine iteF ⟨⟨_, _, rfl⟩, sm3.trans s4, s4 _ _ ((same_new hT) _ _ hbb), ?_⟩
              rw [ea, ed, hv', Bool.true_and]
        · rintro σ H2 ⟨⟨v5, v6, rfl⟩, sm, hbb, ea⟩
          have := q H2 sm
          rw [fitB_row val.nd hr', ea, lh, List.drop_length, List.drop_of_length_le (by omega)] at this
          exact this
      · rw [decide_eq_false hl]
        refine iteT ?_
        have := q H (Same.refl _)
        rw [fitB_row val.nd hr', allV_no hl] at this
        exact this
    · rw [decide_eq_false hm]
      refine iteT ?_
      have := q H (Same.refl _)
      rw [fitB_out hm] at this
      exact this
end
end Bg
set_option Elab.async false
set_option linter.all false
set_option maxRecDepth 100000
set_option maxHeartbeats 4000000
/-! a row for each kind, its tree parts of kinds that were found before -/
namespace Bg
open PySem PySem.Spec PyProof.Rows L2
/-! ### parts as data -/
def partPD : Part → PyData
  | (n, k, none) => .tuple [.str n, .str k]
  | (n, k, some c) => .tuple [.str n, .str k, .int c]
theorem PartAt.td {H : Hp} {v : V} {p : Part} (h : PartAt H v p) : Td H v (partPD p) := by
  obtain ⟨a, rfl, e⟩ := h
  obtain ⟨n, k, c⟩ := p
  cases c with
  | none => exact .tup e (.cons (.str n) (.cons (.str k) .nil))
  | some c => exact .tup e (.cons (.str n) (.cons (.str k) (.cons (.int c) .nil)))
theorem strOk_of {x : Str} (h : nameB x = true) : PyData.strOk x = true := by
  unfold nameB at h
  simp only [Bool.and_eq_true] at h
  have h2 : x.cps.all (fun z => decide (z < 128)) = true := h.2.2.1
  unfold PyData.strOk
  rw [← Array.all_toList, List.all_eq_true] at h2 ⊢
  intro c hc
  have := of_decide_eq_true (h2 c hc)
  exact decide_eq_true (by omega)
theorem strOk_byte : PyData.strOk ("byte" : Str) = true := by decide +kernel
theorem partPD_lay {p : Part} (h : partB p = true) : (partPD p).canLay0 = true ∧ (partPD p).depth ≤ 2 := by
  obtain ⟨n, k, c⟩ := p
  cases c with
  | none =>
    rw [partB_n, Bool.and_eq_true] at h
    have e := of_decide_eq_true h.2
    subst e
    refine ⟨?_, ?_⟩
    · simp only [partPD, PyData.canLay0, PyData.canLayAll0, strOk_of h.1, strOk_byte, Bool.and_true]
    · simp [partPD, PyData.depth, PyData.depthAll]
  | some c =>
    rw [partB_s, Bool.and_eq_true, Bool.and_eq_true] at h
    have hk : nameB k = true := by have := h.2.1; unfold kindB at this; rw [Bool.and_eq_true] at this; exact this.1
    refine ⟨?_, ?_⟩
    · simp only [partPD, PyData.canLay0, PyData.canLayAll0, strOk_of h.1, strOk_of hk, Bool.and_true]
    · simp [partPD, PyData.depth, PyData.depthAll]
theorem parts_lay : ∀ {ps : List Part}, (∀ p ∈ ps, partB p = true) → PyData.canLayAll0 (ps.map partPD) = true ∧ PyData.depthAll (ps.map partPD) ≤ 2
  | [], _ => ⟨rfl, by simp [PyData.depthAll]⟩
  | p :: ps, h => by
    obtain ⟨a, b⟩ := partPD_lay (h p (List.mem_cons_self ..))
    obtain ⟨c, d⟩ := parts_lay fun q hq => h q (List.mem_cons_of_mem _ hq)
    simp only [List.map_cons, PyData.canLayAll0, PyData.depthAll, a, c]
    exact ⟨rfl, by omega⟩
theorem parts_shaped {ps : List Part} (h : ∀ p ∈ ps, partB p = true) : SeqAt.shaped (.list (ps.map partPD)) = true := by
  obtain ⟨a, b⟩ := parts_lay h
  unfold SeqAt.shaped
  rw [Bool.and_eq_true]
  exact ⟨by rw [PyData.canLay0]; exact a, decide_eq_true (by rw [PyData.depth]; omega)⟩
theorem eqv_nil (ds : List PyData) : PyData.eqv (.list ds) (.list []) = ds.isEmpty := by
  cases ds <;> simp [PyData.eqv, PyData.eqvAll]
theorem dpAll_of {K : PySem.W.Frag} {H : Hp} {α : Type} {f : α → PyData} {R : V → α → Prop} (hR : ∀ v x, R v x → Dp K H v (f x)) : ∀ {vs : List V} {xs : List α}, All2 R vs xs → DpAll K H vs (xs.map f)
  | [], [], _ => .nil
  | [], _ :: _, h => by have := h.1; simp at this
  | _ :: _, [], h => by have := h.1; simp at this
  | v :: vs, x :: xs, h => .cons (hR v x (h.2 0 v x rfl rfl)) (dpAll_of hR ⟨by have := h.1; simpa using this, fun i a b ha hb => h.2 (i + 1) a b (by simpa using ha) (by simpa using hb)⟩)
/-! ### the search, as data -/
def openB (S : List Row) (p : Part) : Bool := !decide (p.2.1 = ("byte" : Str)) && !decide (p.2.1 ∈ rkinds S)
def bStep (S : List Row) (r : Row) : List Row := if r.1 ∉ rkinds S ∧ (r.2.2.filter (openB S)).isEmpty = true then S ++ [r] else S
def bRound (rs : List Row) (S : List Row) : List Row := rs.foldl bStep S
def bN (rs : List Row) : Nat → List Row
  | 0 => []
  | n + 1 => bRound rs (bN rs n)
/-- a row for each kind in S: its tree parts are of kinds ahead of it -/
structure BaseOk (rs S : List Row) : Prop where
  sub : ∀ r ∈ S, r ∈ rs
  nd : (rkinds S).Nodup
  down : ∀ i r, S[i]? = some r → ∀ p ∈ r.2.2, p.2.1 = ("byte" : Str) ∨ p.2.1 ∈ rkinds (S.take i)
theorem open_none {S : List Row} {ps : List Part} (h : (ps.filter (openB S)).isEmpty = true) : ∀ p ∈ ps, p.2.1 = ("byte" : Str) ∨ p.2.1 ∈ rkinds S := fun p hp => by
  rw [List.isEmpty_iff, List.filter_eq_nil_iff] at h
  have := h p hp
  unfold openB at this
  by_cases e : p.2.1 = ("byte" : Str)
  · exact .inl e
  · right
    simp only [decide_eq_false e, Bool.not_false, Bool.true_and, Bool.not_eq_true', decide_eq_true_eq] at this
    exact Decidable.byContradiction fun z => this (decide_eq_false z)
theorem BaseOk.step {rs S : List Row} (h : BaseOk rs S) {r : Row} (hr : r ∈ rs) : BaseOk rs (bStep S r) := by
  unfold bStep
  split
  · rename_i c
    refine ⟨fun q hq => ?_, ?_, fun i q hi => ?_⟩
    · rcases List.mem_append.mp hq with z | z
      · exact h.sub q z
      · rw [List.mem_singleton.mp z]; exact hr
    · unfold rkinds
      rw [List.map_append]
      exact List.nodup_append.mpr ⟨h.nd, by simp, fun a ha b hb e => c.1 (by simp at hb; rw [← hb, ← e]; exact ha)⟩
    · by_cases l : i < S.length
      · rw [List.getElem?_append_left l] at hi
        rw [List.take_append_of_le_length (by omega)]
        exact h.down i q hi
      · have l2 : i = S.length := by
          have := (List.getElem?_eq_some_iff.mp hi).1
          rw [List.length_append, List.length_singleton] at this; omega
        subst l2
        rw [List.getElem?_append_right (Nat.le_refl _), Nat.sub_self] at hi
        have e : r = q := by simpa using hi
        subst e
        rw [List.take_left]
        exact open_none c.2
  · exact h
theorem bStep_mono (S : List Row) (r : Row) : ∀ k ∈ rkinds S, k ∈ rkinds (bStep S r) := fun k hk => by
  unfold bStep
  split
  · unfold rkinds at *; rw [List.map_append]; exact List.mem_append_left _ hk
  · exact hk
theorem bFold_mono : ∀ (l : List Row) (S : List Row), ∀ k ∈ rkinds S, k ∈ rkinds (l.foldl bStep S)
  | [], S, k, hk => hk
  | r :: l, S, k, hk => bFold_mono l _ k (bStep_mono S r k hk)
theorem bStep_has {S : List Row} {r : Row} (h : ∀ p ∈ r.2.2, p.2.1 = ("byte" : Str) ∨ p.2.1 ∈ rkinds S) : r.1 ∈ rkinds (bStep S r) := by
  unfold bStep
  split
  · unfold rkinds; rw [List.map_append]; exact List.mem_append_right _ (by simp)
  · rename_i c
    refine Decidable.byContradiction fun z => c ⟨z, ?_⟩
    rw [List.isEmpty_iff, List.filter_eq_nil_iff]
    intro p hp q
    unfold openB at q
    rcases h p hp with e | e
    · rw [decide_eq_true e] at q; cases q
    · rw [decide_eq_true e, Bool.and_comm] at q; cases q
theorem bFold_has : ∀ (l : List Row) (S : List Row) (r : Row), r ∈ l → (∀ p ∈ r.2.2, p.2.1 = ("byte" : Str) ∨ p.2.1 ∈ rkinds S) → r.1 ∈ rkinds (l.foldl bStep S)
  | [], S, r, h, _ => by cases h
  | a :: l, S, r, h, hp => by
    rcases List.mem_cons.mp h with e | h
    · subst e; exact bFold_mono l _ _ (bStep_has hp)
    · exact bFold_has l _ r h fun p q => (hp p q).imp id (bStep_mono S a _)
theorem BaseOk.fold {rs : List Row} : ∀ (l : List Row) (S : List Row), (∀ r ∈ l, r ∈ rs) → BaseOk rs S → BaseOk rs (l.foldl bStep S)
  | [], S, _, h => h
  | r :: l, S, hs, h => BaseOk.fold l _ (fun q hq => hs q (List.mem_cons_of_mem _ hq)) (h.step (hs r (List.mem_cons_self ..)))
theorem BaseOk.n {rs : List Row} : ∀ n, BaseOk rs (bN rs n)
  | 0 => ⟨fun r h => absurd h List.not_mem_nil, List.nodup_nil, fun i r h => by simp [bN] at h⟩
  | n + 1 => BaseOk.fold rs _ (fun _ h => h) (BaseOk.n n)
theorem bN_has {rs : List Row} {rank : Str → Nat} (f : FinOk rs rank) : ∀ n k, k ∈ rkinds rs → rank k < n → k ∈ rkinds (bN rs n)
  | 0, k, _, h => absurd h (Nat.not_lt_zero _)
  | n + 1, k, hk, h => by
    obtain ⟨r, hr, e, hp⟩ := f.base k hk
    subst e
    exact bFold_has rs _ r hr fun p hpp => (hp p hpp).imp id fun z => bN_has f n _ z.1 (by omega)
theorem base_all {rs : List Row} (val : ValidT rs) : ∀ k ∈ rkinds rs, k ∈ rkinds (bN rs 4) := fun k hk => by
  obtain ⟨rank, f⟩ := val.fin
  have := f.lt k hk
  have := val.each.kinds
  exact bN_has f 4 k hk (by omega)
theorem BaseOk.len {rs S : List Row} (val : ValidT rs) (h : BaseOk rs S) : S.length ≤ 4 := by
  have := nodup_sub_len (rkinds S) (distinct (rkinds rs)) h.nd fun k hk => mem_distinct.mpr (by
    obtain ⟨r, hr, e⟩ := List.mem_map.mp hk
    exact List.mem_map.mpr ⟨r, h.sub r hr, e⟩)
  have l : (rkinds S).length = S.length := by unfold rkinds; rw [List.length_map]
  have := val.each.kinds
  omega
def BaseD (H : Hp) (kvs : List (Key × V)) (S : List Row) : Prop := KD kvs (rkinds S) fun k v => ∃ r ∈ S, r.1 = k ∧ RowAt H v r
theorem BaseD.mono {H H' : Hp} (t : Tups H H') {kvs : List (Key × V)} {S : List Row} (h : BaseD H kvs S) : BaseD H' kvs S := KD.mono h fun _ _ z => by
  obtain ⟨r, hr, e, x⟩ := z; exact ⟨r, hr, e, x.mono t⟩
theorem rkinds_snoc (S : List Row) (r : Row) : rkinds (S ++ [r]) = rkinds S ++ [r.1] := by unfold rkinds; rw [List.map_append]; rfl
section
variable {P : Program} {w : World} {K : PySem.W.Frag} {mg : Str → Option Value} {base : Heap} {fd : FuncData}
def spBase : Sp := fun vs H Q _ => ∃ (lr : Addr) (rs : List Row), vs = [.ref lr] ∧ RowsAt H lr rs ∧ ValidT rs ∧ ∀ d kvs H', Same H H' → H d = none → H' d = some (.dK kvs) → BaseD H' kvs (bN rs 4) → Q (.ref d) H'
theorem ok_base (T : Tx K mg) (F : FnP K ("_law_base", none) "_law_base" "_law_base" s__law_base fd) : FnOk P w K mg base CX0 1 (He.fAd K ("_law_base", none)) fd ["_law_rows_here"] spBase := by
  refine F.ok sc__law_base (fun vs H Q E h => ?_) (fun cdv A outer s H vs Q E hr h => ?_)
  · obtain ⟨_, _, rfl, _⟩ := h; rfl
  obtain ⟨lr, rs, rfl, ⟨us, ha, al⟩, val, q⟩ := h
  have hu := hu_of hr
  have nd := sc__law_base.nd
  refine ⟨_, PSs.nox (pss_cons (ps_set (i := 1) nd rfl (.inr rfl) pe_dnewK)
    (pss_cons (ps_for PassesOwn.never rfl (pi_range1 rfl T.n_range (pa_cons pe_int pa_nil)) (pg_name (i := 2) nd rfl (Or.inl rfl))
      (pss_one (ps_for PassesOwn.never rfl (pi_list (pv 0)) (pg_name (i := 3) nd rfl (Or.inl rfl))
        (pss_cons (ps_setLc (i := 4) (own := [("_law_part", 5)]) (g := gName 5) (by rfl) nd rfl rfl (sw_true rfl rfl rfl (by decide +kernel)) (pi_tup (pe_ix ix_tup (pv 3) pe_int (fun _ _ => rfl))) (blkOk_by (N := ["_law_rows_here", "_law_base_here", "_law_turn", "_law_row", "_law_open_kinds", "_law_part"]) (sc := defScope s__law_base) (by decide +kernel)) (fun _ _ _ _ _ => (pg_name (i := 5) nd rfl (Or.inl rfl))) (fun _ _ _ _ _ => pts_one (PW.pt (pw_and (pt_cmpR op_ne (pe_ix (r := rIxT K) ix_tup (pv 5) pe_int (fun _ _ => rfl)) pe_str (nomark _)) (pw_and1 (pt_cmp (pc_dnotin hu (pe_ix (r := rIxT K) ix_tup (pv 5) pe_int (fun _ _ => rfl)) (pv 1))))))) (fun _ _ _ _ _ => (pv 5)))
        (pss_one (ps_if (PW.pt (pw_and (pt_cmp (pc_dnotin hu (pe_ix ix_tup (pv 3) pe_int (fun _ _ => rfl)) (pv 1))) (pw_and1 (pt_cmpR (op_eqD hr.units) (pv 4) (pe_lst pa_nil) (nomark _)))))
          (pss_one (ps_dput hu (pv 1) (pe_ix ix_tup (pv 3) pe_int (fun _ _ => rfl)) (pv 3) rfl))
          pss_nil))))))
    (pss_one (ps_ret (pv 1))))), ?_⟩
  intro d hd
  refine ⟨_, rfl, by decide, by decide, for_it walk_range (fun i σ H2 => (∃ v2 v3 v4 v5, σ = [some (.ref lr), some (.ref d), v2, v3, v4, v5]) ∧ Same H H2 ∧ ∃ kvs, H2 d = some (.dK kvs) ∧ BaseD H2 kvs (bN rs i)) ⟨⟨_, _, _, _, rfl⟩, same_new hd, [], upd_same, KD.nil⟩ (fun _ _ _ _ _ => trivial) ?_ ?_⟩
  · rintro i x σ H2 H3 hi ⟨⟨v2, v3, v4, v5, rfl⟩, sm, kvs, hk, kd⟩ ⟨rfl, rfl⟩
    refine ⟨_, rfl, lr, rfl, ⟨_, .inl (.inl (sm _ _ ha))⟩, for_it (walk_list (K := K) (a := lr) (xs := us)) (fun j σ H4 => (∃ v2 v3 v4 v5, σ = [some (.ref lr), some (.ref d), v2, v3, v4, v5]) ∧ Same H H4 ∧ ∃ kvs, H4 d = some (.dK kvs) ∧ BaseD H4 kvs ((rs.take j).foldl bStep (bN rs i)) ∧ BaseOk rs ((rs.take j).foldl bStep (bN rs i)))
      ⟨⟨_, _, _, _, rfl⟩, sm, kvs, hk, kd, BaseOk.n i⟩ (fun j σ H4 _ z => .inl (.inl (z.2.1 _ _ ha))) ?_ ?_⟩
    · rintro j y σ H4 H5 hj ⟨⟨v2, v3, v4, v5, rfl⟩, sm, kvs, hk, kd, bo⟩ ⟨rfl, hy⟩
      obtain ⟨r, hrr, b, u, rfl, hb, pa⟩ := al.get hy
      have hmem := List.mem_of_getElem? hrr
      generalize hS : (rs.take j).foldl bStep (bN rs i) = S at kd bo
      have est : (rs.take (j + 1)).foldl bStep (bN rs i) = bStep S r := by rw [take_succ_of hrr, List.foldl_append, hS] <;> rfl
      have hb5 := sm _ _ hb
      obtain ⟨c, ws, rfl, hc, alp⟩ := pa.mono (tups_of sm)
      refine ⟨_, rfl, b, _, _, _, rfl, rfl, SqT.of hb5, atI_nat (j := 2) rfl, c, rfl, ⟨_, SqT.of hc⟩, fun D2 hD2 => ?_⟩
      have ndD : d ≠ D2 := ne_of_none hk hD2
      refine lc_it (walk_tup (K := K) (a := c) (xs := ws)) (fun n H6 => Same H5 H6 ∧ ∃ acc, H6 D2 = some (.lst acc) ∧ acc.length ≤ n ∧ All2 (PartAt H5) acc ((r.2.2.take n).filter (openB S))) ⟨same_new hD2, [], upd_same, Nat.le_refl _, All2.nil⟩ (fun n H6 _ z => SqT.of (z.1 _ _ hc)) ?_ ?_
      · rintro n z H6 H7 hn ⟨s6, acc, hacc, la, ala⟩ ⟨rfl, hz⟩
        obtain ⟨p, hp, pat⟩ := alp.get hz
        obtain ⟨e, xs, rfl, he, x0, x1⟩ := partAt_ix (pat.mono (tups_of s6))
        have w4 : n < 1000 := by
          have := (List.getElem?_eq_some_iff.mp hp).1
          have := val.four r hmem
          omega
        have tk : (r.2.2.take (n + 1)).filter (openB S) = (r.2.2.take n).filter (openB S) ++ (if openB S p then [p] else []) := by
          rw [take_succ_of hp, List.filter_append]
          cases h : openB S p <;> simp [h]
        refine ⟨rfl, _, rfl, e, _, _, _, rfl, rfl, SqT.of he, atI_nat (j := 1) x1, rfl, _, rfl, ite2 (fun h1 => ?_) (fun h1 => ?_)⟩
        · have eb : decide (p.2.1 = ("byte" : Str)) = false := by simpa using h1
          refine ⟨_, rfl, e, _, _, _, rfl, rfl, SqT.of he, atI_nat (j := 1) x1, _, rfl, d, _, rfl, DGet.k (k := Sum.inr p.2.1) (s6 _ _ hk), _, rfl, ?_⟩
          rw [KD.isSome kd]
          have eo : openB S p = !decide (p.2.1 ∈ rkinds S) := by unfold openB; rw [eb]; rfl
          cases hd2 : decide (p.2.1 ∈ rkinds S) with
          | true =>
            rw [hd2] at eo
            refine iteF ⟨s6, acc, hacc, by omega, ?_⟩
            rw [tk, eo]; simpa using ala
          | false =>
            rw [hd2] at eo
            refine iteT ⟨_, rfl, acc, hacc, small1000 (by omega), same_mut s6 hD2, _, upd_same, by rw [List.length_append, List.length_singleton]; omega, ?_⟩
            rw [tk, eo]
            exact ala.snoc ⟨e, rfl, by obtain ⟨a', e1, e2⟩ := pat; cases e1; exact e2⟩
        · have eb : decide (p.2.1 = ("byte" : Str)) = true := by simpa using h1
          have eo : openB S p = false := by unfold openB; rw [eb]; rfl
          refine ⟨s6, acc, hacc, by omega, ?_⟩
          rw [tk, eo]; simpa using ala
      · rintro H6 ⟨s6, acc, hacc, la, ala⟩
        rw [alp.1, List.take_length] at ala
        have sm6 := sm.trans s6
        have hk6 := s6 _ _ hk
        refine ⟨_, rfl, b, _, _, _, rfl, rfl, SqT.of (sm6 _ _ hb), atI_nat (j := 0) rfl, _, rfl, d, _, rfl, DGet.k (k := Sum.inr r.1) hk6, _, rfl, ?_⟩
        rw [KD.isSome kd]
        have bo' : BaseOk rs ((rs.take (j + 1)).foldl bStep (bN rs i)) := by rw [est]; exact bo.step hmem
        cases hin : decide (r.1 ∈ rkinds S) with
        | true =>
          have e1 : bStep S r = S := by unfold bStep; rw [if_neg fun z => z.1 (of_decide_eq_true hin)]
          refine iteF ⟨⟨_, _, _, _, rfl⟩, sm6, kvs, hk6, ?_, bo'⟩
          rw [est, e1]; exact kd.mono (tups_of s6)
        | false =>
          refine iteT ⟨_, rfl, Nat.zero_le _, fun l hl => ?_⟩
          have s7 := same_new (o := .lst []) hl
          have pb : ∀ p ∈ r.2.2.filter (openB S), partB p = true := fun p hp => part_kind (val.each.good r hmem).2.2 (List.mem_filter.mp hp).1
          refine ⟨.list ((r.2.2.filter (openB S)).map partPD), .list [], .lst (SqL.of (s7 _ _ hacc)) (dpAll_of (fun v x (h : PartAt H5 v x) => (h.td.mono (tups_of (s6.trans s7))).dp) ala), .lst (SqL.of upd_same) .nil, parts_shaped pb, by decide +kernel, _, rfl, ?_⟩
          have sm7 := sm6.trans s7
          have hk7 := s7 _ _ hk6
          rw [eqv_nil, List.isEmpty_map]
          cases hem : (r.2.2.filter (openB S)).isEmpty with
          | false =>
            have e1 : bStep S r = S := by unfold bStep; rw [if_neg fun z => by rw [hem] at z; exact Bool.noConfusion z.2]
            refine iteF ⟨⟨_, _, _, _, rfl⟩, sm7, kvs, hk7, ?_, bo'⟩
            rw [est, e1]; exact kd.mono (tups_of (s6.trans s7))
          | true =>
            have e1 : bStep S r = S ++ [r] := by unfold bStep; rw [if_pos ⟨of_decide_eq_false hin, hem⟩]
            have tp : Tups (upd H6 l (.lst [])) (upd (upd H6 l (.lst [])) d (.dK (putK kvs (Sum.inr r.1) (.ref b)))) := tups_upd fun u f z => by rw [hk7] at z; cases z; exact f
            have tx := Tups.trans (tups_of (s6.trans s7)) tp
            refine iteT ⟨_, rfl, _, rfl, _, rfl, b, _, _, _, rfl, rfl, SqT.of (sm7 _ _ hb), atI_nat (j := 0) rfl, d, _, rfl, DPut.k (k := Sum.inr r.1) hk7 ?_, ⟨_, _, _, _, rfl⟩, same_mut sm7 hd, _, upd_same, ?_, bo'⟩
            · have l1 := KD.length kd
              have l2 := bo.len val
              have l3 : (rkinds S).length = S.length := by unfold rkinds; rw [List.length_map]
              exact small1000 (by omega)
            · rw [est, e1]
              unfold BaseD
              rw [rkinds_snoc, ← addNew_of_not (of_decide_eq_false hin)]
              refine KD.put (k := r.1) kd (fun k' u' hk' hu' => ?_) ⟨r, List.mem_append_right _ (by simp), rfl, b, _, rfl, tx _ _ trivial hb5, ⟨c, ws, rfl, tx _ _ trivial hc, alp.mono fun _ _ z => z.mono tx⟩⟩
              obtain ⟨r', hr', e', x'⟩ := hu'
              exact ⟨r', List.mem_append_left _ hr', e', x'.mono tx⟩
    · rintro σ H4 ⟨⟨v2, v3, v4, v5, rfl⟩, sm, kvs, hk, kd, bo⟩
      rw [al.1, List.take_length] at kd
      exact ⟨⟨_, _, _, _, rfl⟩, sm, kvs, hk, kd⟩
  · rintro σ H2 ⟨⟨v2, v3, v4, v5, rfl⟩, sm, kvs, hk, kd⟩
    exact ⟨_, rfl, q d kvs H2 sm hd hk kd⟩
end
end Bg
set_option Elab.async false
set_option linter.all false
set_option maxRecDepth 100000
set_option maxHeartbeats 4000000
namespace Bg
open PySem PySem.Spec PyProof.Rows L2
/-- a statement, what holds behind it (chosen in the reading), the rest -/
def tMid (t u : TS) : TS := fun D σ H => ∃ M : L2.St → Hp → Prop, t { D with nx := M } σ H ∧ ∀ σ' H', M σ' H' → u D σ' H'
theorem pss_mid {X : Cx} {st : Stmt} {rest : List Stmt} {t u : TS} (h1 : PS X st t) (h2 : PSs X rest u) : PSs X (st :: rest) (tMid t u) := by
  refine ⟨fun pins s σ H D I h => ?_⟩
  obtain ⟨M, a, b⟩ := h
  refine wpAny_execs_cons (thn (h1.run pins s σ H { D with nx := M } I a) fun f s1 q => ?_)
  cases f with
  | next =>
    obtain ⟨σ1, H1, I1, q1⟩ := q
    exact h2.run pins s1 σ1 H1 D I1 (b _ _ q1)
  | ret v => exact q
  | brk => exact q
  | cont => exact q
end Bg
set_option Elab.async false
set_option linter.all false
set_option maxRecDepth 100000
set_option maxHeartbeats 4000000
/-! drawn trees -/
namespace Bg
open PySem PySem.Spec PyProof.Rows L2
mutual
def wt : PyData → Nat
  | .tuple ds => 1 + wtAll ds
  | _ => 1
def wtAll : List PyData → Nat
  | [] => 0
  | d :: ds => wt d + wtAll ds
end
theorem wtAll_app : ∀ (a b : List PyData), wtAll (a ++ b) = wtAll a + wtAll b
  | [], b => by simp [wtAll]
  | d :: ds, b => by rw [List.cons_append, wtAll, wtAll, wtAll_app ds b]; omega
def Bd : Nat → Nat
  | 0 => 6
  | i + 1 => 2 + 4 * Bd i
theorem Bd_le {i j : Nat} (h : i ≤ j) : Bd i ≤ Bd j := by
  induction h with
  | refl => exact Nat.le_refl _
  | step _ ih => exact Nat.le_trans ih (by show _ ≤ 2 + 4 * _; omega)
theorem Bd_pos (i : Nat) : 6 ≤ Bd i := Bd_le (Nat.zero_le i)
/-- the levels, the weight of a tree that is drawn with so much fuel -/
def mz (S : List Row) (k : Str) (f : Nat) : Nat := if f = 0 then (rkinds S).idxOf k + 1 else f + S.length
def bz (S : List Row) (k : Str) (f : Nat) : Nat := if f = 0 then Bd ((rkinds S).idxOf k) else 426 + 1280 * f
theorem rk_len (S : List Row) : (rkinds S).length = S.length := by unfold rkinds; rw [List.length_map]
theorem allV_mono {f g : Str → PyData → Bool} (h : ∀ k d, f k d = true → g k d = true) : ∀ {ps : List Part} {ds : List PyData}, allV f ps ds = true → allV g ps ds = true
  | [], [], _ => rfl
  | [], _ :: _, e => by cases e
  | _ :: _, [], e => by cases e
  | p :: ps, d :: ds, e => by
    have e : (valB f p.2.1 d && allV f ps ds) = true := e
    rw [Bool.and_eq_true] at e
    show (valB g p.2.1 d && allV g ps ds) = true
    rw [Bool.and_eq_true]
    refine ⟨?_, allV_mono h e.2⟩
    have z := e.1
    unfold valB at z ⊢
    split
    · rename_i c; rw [if_pos c] at z; exact z
    · rename_i c; rw [if_neg c] at z; exact h _ _ z
theorem fitB_inv {rs : List Row} {n : Nat} {k : Str} {d : PyData} (h : fitB rs (n + 1) k d = true) : ∃ m ds r, d = .tuple (.str m :: ds) ∧ rowAt rs k m = some r ∧ allV (fitB rs n) r.2.2 ds = true := by
  unfold fitB at h
  split at h
  · cases h
  · rename_i n' m ds e
    cases e
    split at h
    · rename_i r er
      exact ⟨m, ds, r, rfl, er, h⟩
    · cases h
  · cases h
theorem fitB_mono {rs : List Row} : ∀ (n : Nat) (k : Str) (d : PyData), fitB rs n k d = true → fitB rs (n + 1) k d = true
  | 0, k, d, h => by cases h
  | n + 1, k, d, h => by
    obtain ⟨m, ds, r, rfl, er, z⟩ := fitB_inv h
    rw [fitB, er]
    exact allV_mono (fitB_mono n) z
theorem fitB_le {rs : List Row} {n m : Nat} (l : n ≤ m) {k : Str} {d : PyData} (h : fitB rs n k d = true) : fitB rs m k d = true := by
  induction l with
  | refl => exact h
  | step _ ih => exact fitB_mono _ _ _ ih
theorem allV_snoc {f : Str → PyData → Bool} {p : Part} {d : PyData} (h : valB f p.2.1 d = true) : ∀ {ps : List Part} {ds : List PyData}, allV f ps ds = true → allV f (ps ++ [p]) (ds ++ [d]) = true
  | [], [], _ => by show (valB f p.2.1 d && true) = true; rw [h]; rfl
  | [], _ :: _, e => by cases e
  | _ :: _, [], e => by cases e
  | q :: ps, e :: ds, z => by
    have z : (valB f q.2.1 e && allV f ps ds) = true := z
    rw [Bool.and_eq_true] at z
    show (valB f q.2.1 e && allV f (ps ++ [p]) (ds ++ [d])) = true
    rw [z.1, allV_snoc h z.2]; rfl
theorem HdAll.snoc {ds : List PyData} (h : HdAll ds) {d : PyData} (hd : Hd d) : HdAll (ds ++ [d]) := HdAll.of fun e he => by
  rcases List.mem_append.mp he with z | z
  · exact h.mem e z
  · rw [List.mem_singleton.mp z]; exact hd
/-- what stands behind the pick of a row: the tree parts can be drawn with a smaller measure -/
structure Pick (rs S : List Row) (n : Nat) (r : Row) (left b : Nat) : Prop where
  mem : r ∈ rs
  ch : ∃ c0, 1 ≤ c0 ∧ 2 + 4 * c0 + 1280 * left ≤ b ∧ ∀ p ∈ r.2.2, p.2.1 ≠ ("byte" : Str) → ∀ s, s ≤ left → mz S p.2.1 s ≤ n ∧ bz S p.2.1 s ≤ c0 + 1280 * s
theorem idx_lt {S : List Row} {k : Str} (h : k ∈ rkinds S) : (rkinds S).idxOf k < S.length := by rw [← rk_len S]; exact List.idxOf_lt_length_of_mem h
theorem pick_base {rs S : List Row} (val : ValidT rs) (h : BaseOk rs S) {k : Str} {n : Nat} {r : Row} (hr : r ∈ S) (e : r.1 = k) (hm : mz S k 0 ≤ n + 1) : Pick rs S n r 0 (bz S k 0) := by
  refine ⟨h.sub r hr, ?_⟩
  obtain ⟨i, hi⟩ := List.getElem?_of_mem hr
  have li := (List.getElem?_eq_some_iff.mp hi).1
  have ek : (rkinds S)[i]? = some k := by unfold rkinds; rw [List.getElem?_map, hi, ← e]; rfl
  have ei : (rkinds S).idxOf k = i := nd_ix h.nd (mem_idxOf (List.mem_of_getElem? ek)).1 ek
  unfold mz at hm
  rw [if_pos rfl, ei] at hm
  unfold bz
  rw [if_pos rfl, ei]
  have down := h.down i r hi
  have idx : ∀ p ∈ r.2.2, p.2.1 ≠ ("byte" : Str) → (rkinds S).idxOf p.2.1 < i := fun p hp hb => by
    have z := (down p hp).resolve_left hb
    obtain ⟨j, hj⟩ := List.getElem?_of_mem z
    have lj : j < (rkinds (S.take i)).length := (List.getElem?_eq_some_iff.mp hj).1
    rw [rk_len, List.length_take] at lj
    have hj2 : (rkinds S)[j]? = some p.2.1 := by
      have : rkinds (S.take i) = (rkinds S).take i := by unfold rkinds; rw [List.map_take]
      rw [this, List.getElem?_take_of_lt (by omega)] at hj
      exact hj
    have : (rkinds S).idxOf p.2.1 = j := nd_ix h.nd (mem_idxOf (List.mem_of_getElem? hj2)).1 hj2
    omega
  cases i with
  | zero => exact ⟨1, Nat.le_refl _, by show 2 + 4 * 1 + 1280 * 0 ≤ 6; omega, fun p hp hb => absurd (idx p hp hb) (Nat.not_lt_zero _)⟩
  | succ i =>
    refine ⟨Bd i, Nat.le_trans (by decide) (Bd_pos i), by show _ ≤ 2 + 4 * Bd i; omega, fun p hp hb s hs => ?_⟩
    have z : s = 0 := by omega
    subst z
    have l := idx p hp hb
    unfold mz
    rw [if_pos rfl, if_pos rfl]
    exact ⟨by omega, Nat.le_trans (Bd_le (show _ ≤ i by omega)) (by omega)⟩
theorem pick_free {rs S : List Row} (val : ValidT rs) (h : BaseOk rs S) (all : ∀ k ∈ rkinds rs, k ∈ rkinds S) {k : Str} {n f : Nat} {r : Row} (hr : r ∈ rs) (hm : mz S k (f + 1) ≤ n + 1) : Pick rs S n r f (bz S k (f + 1)) := by
  refine ⟨hr, 426, by decide, ?_, fun p hp hb s hs => ?_⟩
  · unfold bz; rw [if_neg (by omega)]; omega
  · have hk := all _ ((val.inner r hr p hp).resolve_left hb)
    have l4 := h.len val
    have lt := idx_lt hk
    unfold mz at hm ⊢
    rw [if_neg (by omega)] at hm
    unfold bz
    by_cases z : s = 0
    · rw [if_pos z, if_pos z]
      have : Bd ((rkinds S).idxOf p.2.1) ≤ Bd 3 := Bd_le (by omega)
      have : Bd 3 = 426 := rfl
      exact ⟨by omega, by omega⟩
    · rw [if_neg z, if_neg z]
      exact ⟨by omega, by omega⟩
theorem wt_node (m : Str) (ds : List PyData) : wt (.tuple (.str m :: ds)) = 2 + wtAll ds := by simp [wt, wtAll]; omega
abbrev tSt (pool lr bd : Addr) (k : Str) (cut : Int) (f : Nat) (b : Addr) (v7 : Option V) (left : Nat) (t : Addr) (v10 v11 : Option V) : L2.St :=
  [some (.ref pool), some (.ref lr), some (.ref bd), some (.str k), some (.int cut), some (.int (f : Nat)), some (.ref b), v7, some (.int ((left : Nat) : Int)), some (.ref t), v10, v11]
/-- what holds between two parts -/
structure TInv (rs : List Row) (n : Nat) (r : Row) (c0 left : Nat) (H3 : Hp) (pool : Addr) (i : Nat) (left2 : Nat) (t : Addr) (vs : List V) (ds : List PyData) (H5 : Hp) : Prop where
  bu : But pool H3 H5
  pl : PoolAt H5 pool
  tup : H5 t = some (.tup (.str r.2.1 :: vs))
  td : TdAll H5 vs ds
  hd : HdAll ds
  len : ds.length = i
  fit : allV (fitB rs n) (r.2.2.take i) ds = true
  le : left2 ≤ left
  wb : wtAll ds + 1280 * left2 ≤ i * c0 + 1280 * left
theorem TInv.more {rs : List Row} {n : Nat} {r : Row} {c0 left : Nat} {H3 : Hp} {pool : Addr} {i left2 : Nat} {t : Addr} {vs : List V} {ds : List PyData} {H6 H7 : Hp} (h : TInv rs n r c0 left H3 pool i left2 t vs ds H6) {p : Part} (hp : r.2.2[i]? = some p)
    (bu : But pool H6 H7) (hP : PoolAt H7 pool) {v : V} {d : PyData} (td : Td H7 v d) (hd : Hd d) (fit : valB (fitB rs n) p.2.1 d = true) {left3 : Nat} (le : left3 ≤ left2) (w : wt d + 1280 * left3 ≤ c0 + 1280 * left2) {a : Addr} (ha : H7 a = none) :
    TInv rs n r c0 left H3 pool (i + 1) left3 a (vs ++ [v]) (ds ++ [d]) (upd H7 a (.tup (V.str r.2.1 :: vs ++ [v]))) := by
  have s8 := same_new (o := .tup (V.str r.2.1 :: vs ++ [v])) ha
  have t68 : Tups H6 (upd H7 a (.tup (V.str r.2.1 :: vs ++ [v]))) := (but_tups bu h.pl.not).trans (tups_of s8)
  refine ⟨h.bu.trans (bu.trans (but_of s8)), hP.same s8, by rw [upd_same] <;> rfl, (TdAll.mono t68 h.td).snoc (td.mono (tups_of s8)), h.hd.snoc hd, by rw [List.length_append, h.len]; rfl, ?_, Nat.le_trans le h.le, ?_⟩
  · rw [take_succ_of hp]; exact allV_snoc fit h.fit
  · have := h.wb
    have e : (i + 1) * c0 = i * c0 + c0 := Nat.succ_mul _ _
    rw [wtAll_app, e]
    simp only [wtAll]
    omega
section
variable {P : Program} {w : World} {K : PySem.W.Frag} {mg : Str → Option Value} {base : Heap} {fd : FuncData}
def spTree (n : Nat) : Sp := fun vs H Q _ => ∃ (pool lr bd : Addr) (k : Str) (cut : Int) (f : Nat) (rs : List Row) (kvs : List (Key × V)), vs = [.ref pool, .ref lr, .ref bd, .str k, .int cut, .int (f : Nat)] ∧ PoolAt H pool ∧ lr ≠ pool ∧ RowsAt H lr rs ∧ ValidT rs ∧ H bd = some (.dK kvs) ∧ BaseD H kvs (bN rs 4) ∧
  k ∈ rkinds rs ∧ 1 ≤ cut ∧ cut ≤ 255 ∧ f ≤ 1000 ∧ mz (bN rs 4) k f ≤ n ∧ ∀ v d H', But pool H H' → PoolAt H' pool → Td H' v d → Hd d → fitB rs n k d = true → wt d ≤ bz (bN rs 4) k f → Q v H'
theorem ok_tree0 : FnOk P w K mg base CX0 1 (He.fAd K ("_law_tree", none)) fd p__law_tree (spTree 0) := by
  have no : ∀ vs H Q E, ¬ spTree 0 vs H Q E := fun vs H Q E h => by
    obtain ⟨_, _, _, k, _, f, rs, _, _, _, _, _, _, _, _, _, _, _, _, m, _⟩ := h
    unfold mz at m
    split at m <;> omega
  exact ⟨fun vs H Q E h => absurd h (no vs H Q E), fun A outer s H args us vs Q E _ _ _ _ h => absurd h (no vs H Q E)⟩
theorem ok_tree1 (T : Tx K mg) {n : Nat} {ft : FuncData} (G : FnOk P w K mg base CX0 (n + 1) (He.fAd K ("_law_tree", none)) fd p__law_tree (spTree n)) (F : FnP K ("_law_tree", none) "_law_tree" "_law_tree" s__law_tree fd) : FnOk P w K mg base CX0 (n + 2) (He.fAd K ("_law_tree", none)) fd p__law_tree (spTree (n + 1)) := by
  refine F.ok (k := n + 1) sc__law_tree (fun vs H Q E h => ?_) (fun cdv A outer s H vs Q E hr h => ?_)
  · obtain ⟨_, _, _, _, _, _, _, _, rfl, _⟩ := h; rfl
  obtain ⟨pool, lr, bd, k, cut, f, rs, kvs, rfl, hP, nlp, ⟨us, ha, al⟩, val, hbd, kd, hk, c1, c2, f1000, hm, q⟩ := h
  have hu := hu_of hr
  have nbp : bd ≠ pool := by obtain ⟨ns, e, _⟩ := id hP; exact ne_of hbd e (by intro z; cases z)
  have bo := BaseOk.n (rs := rs) 4
  have all := base_all val
  obtain ⟨f1, F1⟩ := T.F__law_take
  have nd := sc__law_tree.nd
  refine ⟨_, PSs.nox (pss_cons (ps_setLc (i := 7) (own := [("_law_row", 6)]) (g := gName 6) (by rfl) nd rfl rfl (sw_true rfl rfl rfl (by decide +kernel)) (pi_list (pv 1)) (blkOk_by (N := ["_law_pool_here", "_law_rows_here", "_law_base_here", "_law_kind", "_law_cut", "_law_fuel", "_law_row", "_law_choices", "_law_left", "_law_tree_here", "_law_part", "_law_share"]) (sc := defScope s__law_tree) (by decide +kernel)) (fun _ _ _ _ _ => (pg_name (i := 6) nd rfl (Or.inl rfl))) (fun _ _ _ _ _ => pts_one (pt_cmpR op_eq (pe_ix (r := rIxT K) ix_tup (pv 6) pe_int (fun _ _ => rfl)) (pv 3) (nomark _))) (fun _ _ _ _ _ => (pv 6)))
    (pss_cons (ps_set (i := 6) nd rfl (.inl rfl) (pe_dget hu (pv 2) (pv 3) (fun _ _ => rfl)))
    (pss_cons (ps_set (i := 8) nd rfl (.inl rfl) pe_int)
    (pss_mid (ps_if (pt_cmpR op_gt (pv 5) pe_int (nomark _))
      (pss_cons (ps_set (i := 8) nd rfl (.inl rfl) (pe_op op_sub (pv 5) pe_int))
      (pss_one (ps_set (i := 6) nd rfl (.inl rfl) (pe_ix ix_list (pv 7) (pe_op op_mod (pe_callTy call_int1 (by rfl) T.n_int (by decide +kernel) (pa_cons (pe_op op_add pe_int (pe_call (ok_take T F1) (hr.mono (by omega)) (by rfl) T.g_law_take T.k_law_take (b__law_take F1) .nil pass0 (pa_cons (pv 0) (pa_cons (pe_callB call_len_seq (by rfl) T.n_len PySem.boot_len (pa_cons (pv 7) pa_nil)) pa_nil)))) pa_nil)) (pe_callB call_len_seq (by rfl) T.n_len PySem.boot_len (pa_cons (pv 7) pa_nil))) (fun _ _ => rfl)))))
      pss_nil)
    (pss_cons (ps_set (i := 9) nd rfl (.inl rfl) (pe_tup (pa_cons (pe_ix ix_tup (pv 6) pe_int (fun _ _ => rfl)) pa_nil)))
    (pss_cons (ps_for PassesOwn.never rfl (pi_tup (pe_ix ix_tup (pv 6) pe_int (fun _ _ => rfl))) (pg_name (i := 10) nd rfl (Or.inl rfl))
      (pss_one (ps_if (pt_cmpR op_eq (pe_ix ix_tup (pv 10) pe_int (fun _ _ => rfl)) pe_str (nomark _))
        (pss_one (ps_set (i := 9) nd rfl (.inl rfl) (pe_op op_catA (pv 9) (pe_tup (pa_cons (pe_ix ix_list (pe_lst (pa_cons (pe_op op_sub (pv 4) pe_int) (pa_cons (pv 4) (pa_cons (pe_call (ok_take T F1) (hr.mono (by omega)) (by rfl) T.g_law_take T.k_law_take (b__law_take F1) .nil pass0 (pa_cons (pv 0) (pa_cons pe_int pa_nil))) pa_nil)))) (pe_call (ok_take T F1) (hr.mono (by omega)) (by rfl) T.g_law_take T.k_law_take (b__law_take F1) .nil pass0 (pa_cons (pv 0) (pa_cons pe_int pa_nil))) (fun _ _ => rfl)) pa_nil)))))
        (pss_cons (ps_set (i := 11) nd rfl (.inl rfl) (pe_op op_sub (pv 8) (pe_call (ok_take T F1) (hr.mono (by omega)) (by rfl) T.g_law_take T.k_law_take (b__law_take F1) .nil pass0 (pa_cons (pv 0) (pa_cons (pe_op op_add (pv 8) pe_int) pa_nil)))))
        (pss_cons (ps_set (i := 8) nd rfl (.inl rfl) (pe_op op_sub (pv 8) (pv 11)))
        (pss_one (ps_set (i := 9) nd rfl (.inl rfl) (pe_op op_catA (pv 9) (pe_tup (pa_cons (pe_call G (hr.mono (by omega)) (by rfl) T.g_law_tree T.k_law_tree (b__law_tree F) .nil pass0 (pa_cons (pv 0) (pa_cons (pv 1) (pa_cons (pv 2) (pa_cons (pe_ix ix_tup (pv 10) pe_int (fun _ _ => rfl)) (pa_cons (pv 4) (pa_cons (pv 11) pa_nil))))))) pa_nil))))))))))
    (pss_one (ps_ret (pv 9))))))))), ?_⟩
  -- the rows of the kind
  refine ⟨_, rfl, lr, rfl, ⟨_, .inl (.inl ha)⟩, fun D1 hD1 => lc_it (walk_list (K := K) (a := lr) (xs := us)) (fun i H2 => Same H H2 ∧ ∃ acc, H2 D1 = some (.lst acc) ∧ All2 (RowAt H) acc ((rs.take i).filter fun r => decide (r.1 = k))) ⟨same_new hD1, [], upd_same, All2.nil⟩ (fun i H2 _ z => .inl (.inl (z.1 _ _ ha))) ?_ ?_⟩
  · rintro i x H2 H3 hi ⟨sm, acc, hacc, ala⟩ ⟨rfl, hx⟩
    obtain ⟨r, hrr, b, u, rfl, hb, pa⟩ := al.get hx
    have tk : (rs.take (i + 1)).filter (fun r => decide (r.1 = k)) = (rs.take i).filter (fun r => decide (r.1 = k)) ++ (if decide (r.1 = k) then [r] else []) := by
      rw [take_succ_of hrr, List.filter_append]
      cases h : decide (r.1 = k) <;> simp [h]
    have la : acc.length ≤ 1000 := by
      rw [ala.1]
      have h1 := List.length_filter_le (fun r : Row => decide (r.1 = k)) (rs.take i)
      rw [List.length_take] at h1
      have := val.short.1
      omega
    refine ⟨rfl, _, rfl, b, _, _, _, rfl, rfl, SqT.of (sm _ _ hb), atI_nat (j := 0) rfl, _, rfl, rfl, _, rfl, ?_⟩
    rw [show decide (V.str r.1 = V.str k) = decide (r.1 = k) by simp]
    cases hc : decide (r.1 = k) with
    | true =>
      refine iteT ⟨_, rfl, acc, hacc, small1000 la, same_mut sm hD1, _, upd_same, ?_⟩
      rw [tk, hc]; exact ala.snoc ⟨b, u, rfl, hb, pa⟩
    | false =>
      refine iteF ⟨sm, acc, hacc, ?_⟩
      rw [tk, hc]; simpa using ala
  rintro H2 ⟨sm2, acc, hacc, ala⟩
  rw [al.1, List.take_length] at ala
  -- the row of the base
  obtain ⟨rv, erv, r0, hr0, er0, b0, u0, rfl, hb0, pa0⟩ := KD.some kd (all k hk)
  refine ⟨_, rfl, _, rfl, bd, _, rfl, (by rw [← erv]; exact DGet.k (k := Sum.inr k) (sm2 _ _ hbd)), ?_⟩
  -- the pick
  refine ⟨fun σ H3 => ∃ b u r v7 left, σ = [some (.ref pool), some (.ref lr), some (.ref bd), some (.str k), some (.int cut), some (.int (f : Nat)), some (.ref b), v7, some (.int ((left : Nat) : Int)), none, none, none] ∧ But pool H H3 ∧ PoolAt H3 pool ∧ H3 b = some (.tup [.str r.1, .str r.2.1, u]) ∧ PartsAt H3 u r.2.2 ∧ r.1 = k ∧ left ≤ f ∧ Pick rs (bN rs 4) n r left (bz (bN rs 4) k f), ?_, ?_⟩
  · refine ⟨_, rfl, _, _, rfl, rfl, _, rfl, ?_⟩
    by_cases hf : f = 0
    · subst hf
      rw [show decide (((0 : Nat) : Int) > 0) = false from rfl]
      exact iteF ⟨b0, u0, r0, _, 0, rfl, but_of sm2, hP.same sm2, sm2 _ _ hb0, pa0.mono (tups_of sm2), er0, Nat.le_refl _, pick_base val bo hr0 er0 hm⟩
    · obtain ⟨g, rfl⟩ : ∃ g, f = g + 1 := ⟨f - 1, by omega⟩
      rw [show decide ((((g + 1 : Nat) : Int)) > 0) = true from decide_eq_true (by omega)]
      have pos : 0 < acc.length := by
        rw [ala.1]
        obtain ⟨r, hr', e⟩ := List.mem_map.mp hk
        exact List.length_pos_of_mem (List.mem_filter.mpr ⟨hr', decide_eq_true e⟩)
      refine iteT ⟨_, rfl, _, _, rfl, rfl, _, rfl, _, rfl, _, rfl, D1, _, rfl, .inl (SqL.of hacc), pool, _, rfl, hP.same sm2, (by omega), fun z H3 z0 z1 b3 hP3 => ?_⟩
      have nDp : D1 ≠ pool := fun e => by obtain ⟨ns, e2, _⟩ := hP; rw [e, e2] at hD1; cases hD1
      have hacc3 := b3 _ _ nDp hacc
      refine ⟨_, _, rfl, rfl, .inl ⟨_, rfl, _, rfl, D1, _, rfl, .inl (SqL.of hacc3), _, _, rfl, rfl, (by omega), ?_⟩⟩
      have y0 : 0 ≤ (1 + z) % (acc.length : Nat) := Int.emod_nonneg _ (by omega)
      have y1 : (1 + z) % (acc.length : Nat) < (acc.length : Nat) := Int.emod_lt_of_pos _ (by omega)
      obtain ⟨j, hj⟩ := Int.eq_ofNat_of_zero_le y0
      have lj : j < acc.length := by omega
      obtain ⟨r, hrj, b, u, eb, hb, pa⟩ := ala.get (List.getElem?_eq_getElem lj)
      obtain ⟨hr1, hr2⟩ := List.mem_filter.mp (List.mem_of_getElem? hrj)
      have b03 : But pool H H3 := (but_of sm2).trans b3
      have t03 : Tups H H3 := but_tups b03 hP.not
      refine ⟨D1, _, _, .ref b, rfl, rfl, SqL.of hacc3, (by rw [hj]; exact atI_nat (by rw [List.getElem?_eq_getElem lj, eb])), b, u, r, some (.ref D1), g, ?_, b03, hP3, t03 _ _ trivial hb, pa.mono t03, of_decide_eq_true hr2, by omega, pick_free val bo all hr1 hm⟩
      show [_, _, _, _, _, _, _, _, some (V.int (((g + 1 : Nat) : Int) - 1)), _, _, _] = _
      rw [show ((g + 1 : Nat) : Int) - 1 = ((g : Nat) : Int) by omega]
  rintro σ H3 ⟨b, u, r, v7, left, rfl, b03, hP3, hb, pa, ek, lf, pick⟩
  obtain ⟨hrs, c0, c01, cb, ch⟩ := pick
  have hparts := val.each.good r hrs
  obtain ⟨c, ws, rfl, hc, alp⟩ := id pa
  refine ⟨_, rfl, b, _, _, _, rfl, rfl, SqT.of hb, atI_nat (j := 1) rfl, (by show 1 ≤ sizeLine; decide), fun t0 ht0 => ?_⟩
  have s4 := same_new (o := .tup [V.str r.2.1]) ht0
  refine ⟨_, rfl, b, _, _, _, rfl, rfl, SqT.of (s4 _ _ hb), atI_nat (j := 2) rfl, c, rfl, ⟨_, SqT.of (s4 _ _ hc)⟩, ?_⟩
  have ncp : c ≠ pool := by obtain ⟨ns, e, _⟩ := id hP3; exact ne_of hc e (by intro z; cases z)
  refine for_it (walk_tup (K := K) (a := c) (xs := ws)) (fun i σ H5 => ∃ v7 v10 v11 t left2 vs ds, σ = tSt pool lr bd k cut f b v7 left2 t v10 v11 ∧ TInv rs n r c0 left H3 pool i left2 t vs ds H5) ?_ (fun i σ H5 _ z => ?_) ?_ ?_
  · exact ⟨_, _, _, t0, left, [], [], rfl, but_of s4, hP3.same s4, upd_same, .nil, .nil, rfl, rfl, Nat.le_refl _, by simp [wtAll]⟩
  · obtain ⟨_, _, _, _, _, _, _, _, inv⟩ := z
    exact SqT.of (inv.bu _ _ ncp hc)
  · rintro i x σ H5 H6 hi ⟨v7, v10, v11, t, left2, vs, ds, rfl, inv⟩ ⟨rfl, hx⟩
    obtain ⟨p, hp, pat⟩ := alp.get hx
    have hpm := List.mem_of_getElem? hp
    have i4 : i < 4 := by
      have := (List.getElem?_eq_some_iff.mp hp).1
      have := val.four r hrs
      omega
    have t35 : Tups H3 H6 := but_tups inv.bu hP3.not
    obtain ⟨e, xs, rfl, he, x0, x1⟩ := partAt_ix (pat.mono t35)
    have lv : vs.length = i := by rw [TdAll.length inv.td, inv.len]
    have hl6 := inv.le
    refine ⟨_, rfl, e, _, _, _, rfl, rfl, SqT.of he, atI_nat (j := 1) x1, rfl, _, rfl, ite2 (fun h1 => ?_) (fun h1 => ?_)⟩
    · have eb : p.2.1 = ("byte" : Str) := by simpa using h1
      refine ⟨_, rfl, _, rfl, _, _, rfl, rfl, _, rfl, _, rfl, pool, 256, rfl, inv.pl, by decide, fun z H7 z0 z1 b7 hP7 => ?_⟩
      refine ⟨by show 3 ≤ sizeLine; decide, fun l hl => ?_⟩
      have s8 := same_new (o := .lst [V.int (cut - 1), V.int cut, V.int z]) hl
      refine ⟨_, rfl, pool, 3, rfl, hP7.same s8, by decide, fun y H9 y0 y1 b9 hP9 => ?_⟩
      have npl : l ≠ pool := fun w => by obtain ⟨ns, e2, _⟩ := hP7; rw [w, e2] at hl; cases hl
      have hl9 : H9 l = some (.lst [V.int (cut - 1), V.int cut, V.int z]) := b9 _ _ npl upd_same
      obtain ⟨x, hx, hx0, hx1⟩ : ∃ x : Int, atI [V.int (cut - 1), V.int cut, V.int z] y = some (.int x) ∧ 0 ≤ x ∧ x ≤ 255 := by
        have : y = 0 ∨ y = 1 ∨ y = 2 := by omega
        rcases this with q | q | q
        · rw [q]; exact ⟨cut - 1, rfl, by omega, by omega⟩
        · rw [q]; exact ⟨cut, rfl, by omega, by omega⟩
        · rw [q]; exact ⟨z, rfl, by omega, by omega⟩
      have b69 : But pool H6 H9 := b7.trans ((but_of s8).trans b9)
      have nt : t ≠ pool := fun w => by obtain ⟨ns, e2, _⟩ := inv.pl; have := inv.tup; rw [w, e2] at this; cases this
      refine ⟨l, _, _, _, rfl, rfl, SqL.of hl9, hx, by show 1 ≤ sizeLine; decide, fun u hu' => ?_⟩
      have s10 := same_new (o := .tup [V.int x]) hu'
      refine ⟨t, u, _, _, rfl, rfl, SqT.of (s10 _ _ (b69 _ _ nt inv.tup)), SqT.of upd_same, sz_of (by rw [List.length_cons, lv]; show i + 1 + 1 ≤ _; omega), (fun w => nomatch w), (fun _ w => nomatch w), fun _ _ a ha' => ?_⟩
      exact ⟨_, _, _, a, left2, vs ++ [.int x], ds ++ [.int x], rfl, inv.more hp (b69.trans (but_of s10)) (hP9.same s10) (.int x) (.int x) (by unfold valB; rw [if_pos eb]; show (decide (0 ≤ x) && decide (x ≤ 255)) = true; rw [decide_eq_true hx0, decide_eq_true hx1]; rfl) (Nat.le_refl _) (by show 1 + _ ≤ _; omega) ha'⟩
    · have eb : ¬ p.2.1 = ("byte" : Str) := by simpa using h1
      refine ⟨_, rfl, _, rfl, _, rfl, _, _, rfl, rfl, pool, _, rfl, inv.pl, by omega, fun z H7 z0 z1 b7 hP7 => ⟨_, _, rfl, rfl, ?_⟩⟩
      obtain ⟨y, rfl⟩ := Int.eq_ofNat_of_zero_le z0
      have yl : y ≤ left2 := by omega
      refine ⟨_, rfl, _, rfl, _, _, rfl, rfl, ?_⟩
      have e1 : ((left2 : Nat) : Int) - (y : Nat) = ((left2 - y : Nat) : Int) := by omega
      have e2 : ((left2 : Nat) : Int) - (((left2 : Nat) : Int) - (y : Nat)) = ((y : Nat) : Int) := by omega
      have t7 : Tups H6 H7 := but_tups b7 inv.pl.not
      obtain ⟨cm, cw⟩ := ch p hpm eb (left2 - y) (by omega)
      have b07 : But pool H H7 := b03.trans (inv.bu.trans b7)
      have nt : t ≠ pool := fun w => by obtain ⟨ns, e2, _⟩ := inv.pl; have := inv.tup; rw [w, e2] at this; cases this
      refine ⟨_, rfl, _, rfl, _, rfl, _, rfl, _, rfl, e, _, _, _, rfl, rfl, SqT.of (t7 _ _ trivial he), atI_nat (j := 1) x1, _, rfl, _, rfl, ?_⟩
      refine ⟨pool, lr, bd, p.2.1, cut, left2 - y, rs, kvs, ?_, hP7, nlp, RowsAt.but b07 hP.not nlp ⟨us, ha, al⟩, val, b07 _ _ nbp hbd, kd.mono (but_tups b07 hP.not), (val.inner r hrs p hpm).resolve_left eb, c1, c2, by omega, cm, fun v d H8 b8 hP8 td8 hd8 fit8 wt8 => ?_⟩
      · show [V.ref pool, V.ref lr, V.ref bd, V.str p.2.1, V.int cut, V.int (((left2 : Nat) : Int) - (y : Nat))] = _
        rw [e1]
      refine ⟨by show 1 ≤ sizeLine; decide, fun u hu' => ?_⟩
      have s10 := same_new (o := .tup [v]) hu'
      have b68 : But pool H6 H8 := b7.trans b8
      refine ⟨t, u, _, _, rfl, rfl, SqT.of (s10 _ _ (b68 _ _ nt inv.tup)), SqT.of upd_same, sz_of (by rw [List.length_cons, lv]; show i + 1 + 1 ≤ _; omega), (fun w => nomatch w), (fun _ w => nomatch w), fun _ _ a ha' => ?_⟩
      refine ⟨v7, some (.ref e), some (.int ((left2 - y : Nat) : Int)), a, y, vs ++ [v], ds ++ [d], ?_, inv.more hp (b68.trans (but_of s10)) (hP8.same s10) (td8.mono (tups_of s10)) hd8 (by unfold valB; rw [if_neg eb]; exact fit8) yl (by omega) ha'⟩
      show [_, _, _, _, _, _, _, _, some (V.int (((left2 : Nat) : Int) - (((left2 : Nat) : Int) - (y : Nat)))), _, _, some (V.int (((left2 : Nat) : Int) - (y : Nat)))] = _
      rw [e2, e1]
  · rintro σ H5 ⟨v7, v10, v11, t, left2, vs, ds, rfl, inv⟩
    have fit := inv.fit
    have wtb := inv.wb
    rw [alp.1, List.take_length] at fit
    have l4 := val.four r hrs
    rw [alp.1] at wtb
    refine ⟨_, rfl, q (.ref t) (.tuple (.str r.2.1 :: ds)) H5 (b03.trans inv.bu) inv.pl (.tup inv.tup (.cons (.str _) inv.td)) (.cons _ inv.hd) ?_ ?_⟩
    · rw [← ek, fitB_row val.nd hrs]; exact fit
    · have : r.2.2.length * c0 ≤ 4 * c0 := Nat.mul_le_mul_right _ l4
      rw [wt_node]; omega
theorem tree_ok (T : Tx K mg) (F : FnP K ("_law_tree", none) "_law_tree" "_law_tree" s__law_tree fd) : ∀ n, FnOk P w K mg base CX0 (n + 1) (He.fAd K ("_law_tree", none)) fd p__law_tree (spTree n)
  | 0 => ok_tree0
  | n + 1 => ok_tree1 (ft := fd) T (tree_ok T F n) F
end
end Bg
set_option Elab.async false
set_option linter.all false
set_option maxRecDepth 100000
set_option maxHeartbeats 4000000
/-! readings of slices and of tuple + tuple -/
namespace Bg
open PySem PySem.Spec PyProof.Rows L2
section
variable {K : PySem.W.Frag} {H : Hp} {a b : Addr} {xs ys : List V} {Q : VK}
theorem slA_read {lo hi : Option Int} (h : H a = some (.tup xs)) (q : ∀ p H', Same H H' → H' p = some (.tup (cutV xs lo hi)) → Q (.ref p) H') : rSlA K (.ref a) lo hi H Q :=
  ⟨a, xs, rfl, SqT.of h, fun z => q a H (Same.refl _) (by
    have : cutV xs lo hi = xs := by unfold cutV; rw [z.1, z.2]; simp
    rw [this]; exact h), fun _ p hp => q p _ (same_new hp) upd_same⟩
theorem slN_read {σ : L2.St} {lo : Option Int} (h : H a = some (.tup xs)) (q : ∀ p H', Same H H' → H' p = some (.tup (cutV xs lo none)) → Q (.ref p) H') : tNoPart σ H (fun hi H3 => rSlA K (.ref a) lo hi H3 Q) := slA_read (hi := none) h q
theorem catA_read (ha : H a = some (.tup xs)) (hb : H b = some (.tup ys)) (l : xs.length + ys.length ≤ 100000) (q : ∀ p H', Same H H' → H' p = some (.tup (xs ++ ys)) → Q (.ref p) H') : rCatA K (.ref a) (.ref b) H Q :=
  ⟨a, b, xs, ys, rfl, rfl, SqT.of ha, SqT.of hb, sz_of l, fun z => q b H (Same.refl _) (by rw [z]; exact hb), fun _ z => q a H (Same.refl _) (by rw [z, List.append_nil]; exact ha), fun _ _ p hp => q p _ (same_new hp) upd_same⟩
theorem eqInt {i j : Int} : decide (V.int i = V.int j) = decide (i = j) := by simp
theorem eqStr {x y : Str} : decide (V.str x = V.str y) = decide (x = y) := by simp
theorem take_filter {α : Type} {l : List α} {i : Nat} {x : α} (h : l[i]? = some x) (f : α → Bool) : (l.take (i + 1)).filter f = (l.take i).filter f ++ (if f x = true then [x] else []) := by
  rw [take_succ_of h, List.filter_append]
  cases e : f x <;> simp [e]
theorem take_filter_len {α : Type} (l : List α) (i : Nat) (f : α → Bool) : ((l.take i).filter f).length ≤ l.length := by
  have h1 := List.length_filter_le f (l.take i)
  rw [List.length_take] at h1; omega
/-- a list of ints against [] -/
theorem cut_set (m : V) (ws : List V) (k : Nat) (v : V) (h : k < ws.length) : cutV (m :: ws) none (some ((k : Int) + 1)) ++ [v] ++ cutV (m :: ws) (some ((k : Int) + 2)) none = m :: ws.set k v := by
  have e1 : ((k : Int) + 1) = ((k + 1 : Nat) : Int) := by omega
  have e2 : ((k : Int) + 2) = ((k + 2 : Nat) : Int) := by omega
  rw [e1, e2, cutV_take, cutV_drop, List.set_eq_take_append_cons_drop, if_pos h]
  simp
end
end Bg
set_option Elab.async false
set_option linter.all false
set_option maxRecDepth 100000
set_option maxHeartbeats 4000000
/-! readings that come often -/
namespace Bg
open PySem PySem.Spec PyProof.Rows L2
section
variable {K : PySem.W.Frag} {H : Hp} {a b : Addr} {xs ys : List V} {Q : VK}
theorem neNil_ints {l : Addr} {ks : List Int} (h : H a = some (.lst (ks.map V.int))) (e : H l = some (.lst [])) (q : Q (.bl (!ks.isEmpty)) H) : rNeD K (.ref a) (.ref l) H Q :=
  ⟨.list (ks.map PyData.int), .list [], .lst (SqL.of h) (dpAll_ints _), .lst (SqL.of e) .nil, shaped_ints _, shaped_ints [], by rw [eqv_ints_nil]; exact q⟩
theorem TdAll.set {vs : List V} {ds : List PyData} (h : TdAll H vs ds) {v : V} {d : PyData} (hv : Td H v d) : ∀ k, TdAll H (vs.set k v) (ds.set k d) := by
  induction vs generalizing ds with
  | nil => cases h with | nil => intro k; exact .nil
  | cons a r ih =>
    cases h with
    | cons x y =>
      intro k
      cases k with
      | zero => exact .cons hv y
      | succ k => exact .cons x (ih y k)
theorem HdAll.set {ds : List PyData} (h : HdAll ds) {d : PyData} (hd : Hd d) (k : Nat) : HdAll (ds.set k d) := HdAll.of fun e he => by
  rcases List.mem_or_eq_of_mem_set he with z | z
  · exact h.mem e z
  · rw [z]; exact hd
/-- one item behind the first changed -/
theorem allV_set {f : Str → PyData → Bool} {d : PyData} : ∀ {ps : List Part} {ds : List PyData} {k : Nat} {p : Part}, ps[k]? = some p → valB f p.2.1 d = false → allV f ps (ds.set k d) = false
  | [], _, k, p, h, _ => by simp at h
  | q :: ps, [], k, p, h, _ => rfl
  | q :: ps, e :: ds, 0, p, h, hv => by
    have : q = p := by simpa using h
    subst this
    show (valB f q.2.1 d && allV f ps ds) = false
    rw [hv]; rfl
  | q :: ps, e :: ds, k + 1, p, h, hv => by
    show (valB f q.2.1 e && allV f ps (ds.set k d)) = false
    rw [allV_set (by simpa using h) hv, Bool.and_comm]; rfl
end
/-- no tree of the kind -/
structure BadV (rs : List Row) (k : Str) (H : Hp) (v : V) (e : PyData) : Prop where
  td : Td H v e
  hd : Hd e
  no : ∀ n, fitB rs n k e = false
  wide : ∀ m es, e = .tuple (.str m :: es) → es.length ≤ 5
theorem fit_other {rs : List Row} (nd : (rmakers rs).Nodup) {n m : Nat} {k k2 : Str} {d : PyData} (h : fitB rs n k d = true) (ne : k2 ≠ k) : fitB rs m k2 d = false := by
  cases n with
  | zero => cases h
  | succ n =>
    obtain ⟨x, ds, r, rfl, er, z⟩ := fitB_inv h
    obtain ⟨h1, h2, h3⟩ := rowAt_of er
    refine fitB_out (fun w => ?_) m ds
    obtain ⟨r2, h4, h5, h6⟩ := mem_makersOf.mp w
    have := row_unique nd h1 h4 (h3.trans h6.symm)
    subst this
    exact ne (h5.symm.trans h2)
theorem fit_len {rs : List Row} (nd : (rmakers rs).Nodup) {r : Row} (hr : r ∈ rs) {ds : List PyData} (h : ds.length ≠ r.2.2.length) (n : Nat) : fitB rs n r.1 (.tuple (.str r.2.1 :: ds)) = false := by
  cases n with
  | zero => rfl
  | succ n => rw [fitB_row nd hr]; exact allV_no h
theorem fit_set {rs : List Row} (nd : (rmakers rs).Nodup) {r : Row} (hr : r ∈ rs) {ds : List PyData} {d : PyData} {k : Nat} {p : Part} (hp : r.2.2[k]? = some p) (h : ∀ n, valB (fitB rs n) p.2.1 d = false) (n : Nat) : fitB rs n r.1 (.tuple (.str r.2.1 :: ds.set k d)) = false := by
  cases n with
  | zero => rfl
  | succ n => rw [fitB_row nd hr]; exact allV_set hp (h n)
theorem BadV.mono {rs : List Row} {k : Str} {H H' : Hp} (t : Tups H H') {v : V} {e : PyData} (h : BadV rs k H v e) : BadV rs k H' v e := ⟨h.td.mono t, h.hd, h.no, h.wide⟩
theorem tree16 {P : Program} {w : World} {K : PySem.W.Frag} {mg : Str → Option Value} {base : Heap} {fd : FuncData} (T : Tx K mg) (F : FnP K ("_law_tree", none) "_law_tree" "_law_tree" s__law_tree fd) : FnOk P w K mg base CX0 17 (He.fAd K ("_law_tree", none)) fd p__law_tree (spTree 16) := tree_ok T F 16
theorem mz_le {rs : List Row} (val : ValidT rs) {k : Str} (hk : k ∈ rkinds rs) {f : Nat} (h : f ≤ 12) : mz (bN rs 4) k f ≤ 16 := by
  have l4 := (BaseOk.n (rs := rs) 4).len val
  have lt := idx_lt (base_all val k hk)
  unfold mz
  split <;> omega
end Bg
namespace Bg
open PySem PySem.Spec PyProof.Rows L2
theorem TdAll.take {H : Hp} : ∀ {vs : List V} {ds : List PyData}, TdAll H vs ds → ∀ k, TdAll H (vs.take k) (ds.take k)
  | _, _, .nil, k => by simp; exact .nil
  | _, _, .cons a r, 0 => .nil
  | _, _, .cons a r, k + 1 => .cons a (TdAll.take r k)
theorem TdAll.drop {H : Hp} : ∀ {vs : List V} {ds : List PyData}, TdAll H vs ds → ∀ k, TdAll H (vs.drop k) (ds.drop k)
  | _, _, .nil, k => by simp; exact .nil
  | _, _, .cons a r, 0 => .cons a r
  | _, _, .cons a r, k + 1 => TdAll.drop r k
theorem dpAll_strs {K : PySem.W.Frag} {H : Hp} : ∀ ks : List Str, DpAll K H (ks.map V.str) (ks.map PyData.str)
  | [] => .nil
  | k :: r => .cons (.str k) (dpAll_strs r)
theorem lay_strs : ∀ {ks : List Str}, (∀ k ∈ ks, PyData.strOk k = true) → PyData.canLayAll0 (ks.map PyData.str) = true ∧ PyData.depthAll (ks.map PyData.str) ≤ 2
  | [], _ => ⟨rfl, by simp [PyData.depthAll]⟩
  | p :: ps, h => by
    obtain ⟨c, d⟩ := lay_strs fun q hq => h q (List.mem_cons_of_mem _ hq)
    simp only [List.map_cons, PyData.canLayAll0, PyData.canLay0, PyData.depthAll, PyData.depth, h p (List.mem_cons_self ..), c]
    exact ⟨rfl, by omega⟩
theorem shaped_strs {ks : List Str} (h : ∀ k ∈ ks, PyData.strOk k = true) : SeqAt.shaped (.list (ks.map PyData.str)) = true := by
  obtain ⟨a, b⟩ := lay_strs h
  unfold SeqAt.shaped
  rw [Bool.and_eq_true]
  exact ⟨by rw [PyData.canLay0]; exact a, decide_eq_true (by rw [PyData.depth]; omega)⟩
end Bg
namespace Bg
open PySem PySem.Spec PyProof.Rows L2
theorem allV_get {f : Str → PyData → Bool} : ∀ {ps : List Part} {ds : List PyData}, allV f ps ds = true → ∀ {k : Nat} {p : Part} {d : PyData}, ps[k]? = some p → ds[k]? = some d → valB f p.2.1 d = true
  | [], [], _, k, p, d, h, _ => by simp at h
  | [], _ :: _, e, _, _, _, _, _ => by cases e
  | _ :: _, [], e, _, _, _, _, _ => by cases e
  | q :: ps, x :: ds, e, k, p, d, hp, hd => by
    have e : (valB f q.2.1 x && allV f ps ds) = true := e
    rw [Bool.and_eq_true] at e
    cases k with
    | zero =>
      have h1 : q = p := by simpa using hp
      have h2 : x = d := by simpa using hd
      subst h1; subst h2; exact e.1
    | succ k => exact allV_get e.2 (by simpa using hp) (by simpa using hd)
end Bg
set_option Elab.async false
set_option linter.all false
set_option maxRecDepth 100000
set_option maxHeartbeats 4000000
/-! values that are the same tree -/
namespace Bg
open PySem PySem.Spec PyProof.Rows L2
mutual
inductive Pl : PyData → Prop
  | int (i : Int) : Pl (.int i)
  | str (x : Str) : Pl (.str x)
  | tup {ds : List PyData} (l : ds.length ≤ 1000) (h : PlAll ds) : Pl (.tuple ds)
inductive PlAll : List PyData → Prop
  | nil : PlAll []
  | cons {d : PyData} {ds : List PyData} (h : Pl d) (r : PlAll ds) : PlAll (d :: ds)
end
mutual
def dep : PyData → Nat
  | .tuple ds => 1 + depAll ds
  | _ => 0
def depAll : List PyData → Nat
  | [] => 0
  | d :: ds => max (dep d) (depAll ds)
end
theorem PlAll.mem : ∀ {ds : List PyData}, PlAll ds → ∀ d ∈ ds, Pl d
  | _, .nil, d, h => by cases h
  | _, .cons a r, d, h => by
    rcases List.mem_cons.mp h with e | e
    · rw [e]; exact a
    · exact PlAll.mem r d e
theorem depAll_mem : ∀ {ds : List PyData} {d : PyData}, d ∈ ds → dep d ≤ depAll ds
  | e :: ds, d, h => by
    rw [depAll]
    rcases List.mem_cons.mp h with z | z
    · rw [z]; omega
    · have := depAll_mem z; omega
theorem allV_pl {f : Str → PyData → Bool} {n : Nat} (hf : ∀ k d, f k d = true → Pl d ∧ dep d ≤ n) : ∀ {ps : List Part} {ds : List PyData}, allV f ps ds = true → PlAll ds ∧ depAll ds ≤ n
  | [], [], _ => ⟨.nil, by simp [depAll]⟩
  | [], _ :: _, e => by cases e
  | _ :: _, [], e => by cases e
  | p :: ps, d :: ds, e => by
    have e : (valB f p.2.1 d && allV f ps ds) = true := e
    rw [Bool.and_eq_true] at e
    obtain ⟨h1, h2⟩ := allV_pl hf e.2
    have : Pl d ∧ dep d ≤ n := by
      have z := e.1
      unfold valB at z
      split at z
      · unfold byteB at z
        split at z
        · exact ⟨.int _, by simp [dep]⟩
        · cases z
      · exact hf _ _ z
    exact ⟨.cons this.1 h1, by rw [depAll]; omega⟩
theorem fitB_pl {rs : List Row} (val : ValidT rs) : ∀ (n : Nat) (k : Str) (d : PyData), fitB rs n k d = true → Pl d ∧ dep d ≤ n
  | 0, k, d, h => by cases h
  | n + 1, k, d, h => by
    obtain ⟨m, ds, r, rfl, er, z⟩ := fitB_inv h
    obtain ⟨h1, h2⟩ := allV_pl (fitB_pl val n) z
    have l4 := val.four r (rowAt_of er).1
    have l5 := allV_len z
    exact ⟨.tup (by rw [List.length_cons]; omega) (.cons (.str m) h1), by rw [dep, depAll]; simp only [dep]; omega⟩
section
variable {P : Program} {w : World} {K : PySem.W.Frag} {mg : Str → Option Value} {base : Heap} {fd : FuncData}
end
end Bg
set_option Elab.async false
set_option linter.all false
set_option maxRecDepth 100000
set_option maxHeartbeats 4000000
/-! rows of bytes by length, then as lists: one number says it -/
namespace Bg
open PySem PySem.Spec PyProof.Rows L2
def Byt (l : List Int) : Prop := ∀ x ∈ l, 0 ≤ x ∧ x < 256
theorem Byt.app {a b : List Int} (h : Byt a) (h' : Byt b) : Byt (a ++ b) := fun x hx => (List.mem_append.mp hx).elim (h x) (h' x)
theorem Byt.tail {x : Int} {a : List Int} (h : Byt (x :: a)) : Byt a := fun y hy => h y (List.mem_cons_of_mem _ hy)
def valR : List Int → Nat
  | [] => 0
  | x :: r => x.toNat * 256 ^ r.length + valR r
def kR (l : List Int) : Nat := 256 ^ l.length + valR l
theorem valR_lt : ∀ {l : List Int}, Byt l → valR l < 256 ^ l.length
  | [], _ => by simp [valR]
  | x :: r, h => by
    have ih := valR_lt h.tail
    have hx := h x (List.mem_cons_self ..)
    have h2 : x.toNat * 256 ^ r.length + 256 ^ r.length ≤ 256 * 256 ^ r.length := by
      rw [← Nat.succ_mul]
      exact Nat.mul_le_mul_right _ (by omega)
    rw [List.length_cons, Nat.pow_succ, valR, Nat.mul_comm (256 ^ r.length) 256]
    omega
theorem valR_app : ∀ (a b : List Int), valR (a ++ b) = valR a * 256 ^ b.length + valR b
  | [], b => by simp [valR]
  | x :: r, b => by
    rw [List.cons_append, valR, valR, valR_app r b, List.length_append, Nat.pow_add, Nat.add_mul, Nat.mul_assoc]
    omega
theorem kR_len {a b : List Int} (ha : Byt a) (h : a.length < b.length) : kR a < kR b := by
  have h1 := valR_lt ha
  have h2 : 256 ^ (a.length + 1) ≤ 256 ^ b.length := Nat.pow_le_pow_right (by decide) h
  rw [Nat.pow_succ] at h2
  unfold kR
  omega
theorem len_kR {a b : List Int} (hb : Byt b) (h : kR a ≤ kR b) : a.length ≤ b.length := by
  rcases Nat.lt_or_ge b.length a.length with l | l
  · have := kR_len hb l; omega
  · exact l
theorem lex_val : ∀ {a b : List Int}, a.length = b.length → Byt a → Byt b → HT.lexLt a b = decide (valR a < valR b)
  | [], [], _, _, _ => rfl
  | [], _ :: _, h, _, _ => by simp at h
  | _ :: _, [], h, _, _ => by simp at h
  | x :: r, y :: t, h, ha, hb => by
    have hl : r.length = t.length := by simpa using h
    have ih := lex_val hl ha.tail hb.tail
    have v1 := valR_lt ha.tail
    have v2 := valR_lt hb.tail
    have hx := ha x (List.mem_cons_self ..)
    have hy := hb y (List.mem_cons_self ..)
    rw [HT.lexLt_cons, valR, valR, hl]
    rw [hl] at v1
    by_cases e : x = y
    · subst e
      rw [if_pos rfl, ih]
      simp only [decide_eq_decide]; omega
    · rw [if_neg e]
      simp only [decide_eq_decide]
      have key : ∀ u v : Nat, u < v → u * 256 ^ t.length + 256 ^ t.length ≤ v * 256 ^ t.length := fun u v l => by
        rw [← Nat.succ_mul]; exact Nat.mul_le_mul_right _ l
      constructor
      · intro l
        have := key x.toNat y.toNat (by omega)
        omega
      · intro l
        rcases Int.lt_or_gt_of_ne e with z | z
        · exact z
        · have := key y.toNat x.toNat (by omega)
          omega
/-- shorter, or as long and less as a list -/
def ltR (a b : List Int) : Bool := decide (a.length < b.length) || (decide (a.length = b.length) && HT.lexLt a b)
theorem ltR_key {a b : List Int} (ha : Byt a) (hb : Byt b) : ltR a b = decide (kR a < kR b) := by
  unfold ltR
  rcases Nat.lt_trichotomy a.length b.length with l | l | l
  · rw [decide_eq_true l, decide_eq_true (kR_len ha l)]; rfl
  · rw [decide_eq_false (by omega), decide_eq_true l, lex_val l ha hb, Bool.false_or, Bool.true_and]
    unfold kR
    rw [l]
    simp only [decide_eq_decide]; omega
  · have := kR_len hb l
    rw [decide_eq_false (by omega), decide_eq_false (show ¬ a.length = b.length by omega), decide_eq_false (by omega)]; rfl
theorem kR_inj {a b : List Int} (ha : Byt a) (hb : Byt b) (h : kR a = kR b) : a = b := by
  have hl : a.length = b.length := by
    have h1 := len_kR hb (Nat.le_of_eq h)
    have h2 := len_kR ha (Nat.le_of_eq h.symm)
    omega
  have hv : valR a = valR b := by unfold kR at h; rw [hl] at h; omega
  clear h
  induction a generalizing b with
  | nil => cases b with
    | nil => rfl
    | cons y t => simp at hl
  | cons x r ih =>
    cases b with
    | nil => simp at hl
    | cons y t =>
      have hl' : r.length = t.length := by simpa using hl
      have v1 := valR_lt ha.tail
      have v2 := valR_lt hb.tail
      have hx := ha x (List.mem_cons_self ..)
      have hy := hb y (List.mem_cons_self ..)
      rw [valR, valR, hl'] at hv
      rw [hl'] at v1
      have key : ∀ u v : Nat, u < v → u * 256 ^ t.length + 256 ^ t.length ≤ v * 256 ^ t.length := fun u v l => by
        rw [← Nat.succ_mul]; exact Nat.mul_le_mul_right _ l
      have exy : x.toNat = y.toNat := by
        rcases Nat.lt_trichotomy x.toNat y.toNat with l | l | l
        · have := key _ _ l; omega
        · exact l
        · have := key _ _ l; omega
      have : x = y := by omega
      subst this
      rw [ih ha.tail hb.tail hl' (by omega)]
theorem kR_app {a a' b b' : List Int} (ha : Byt a) (ha' : Byt a') (hb : Byt b) (hb' : Byt b') (h1 : kR a ≤ kR a') (h2 : kR b ≤ kR b') : kR (a ++ b) ≤ kR (a' ++ b') := by
  have l1 := len_kR ha' h1
  have l2 := len_kR hb' h2
  rcases Nat.lt_or_ge (a ++ b).length (a' ++ b').length with l | l
  · exact Nat.le_of_lt (kR_len (ha.app hb) l)
  · rw [List.length_append, List.length_append] at l
    have e1 : a.length = a'.length := by omega
    have e2 : b.length = b'.length := by omega
    unfold kR at *
    rw [List.length_append, List.length_append, valR_app, valR_app, e1, e2]
    rw [e1] at h1
    rw [e2] at h2
    have : valR a * 256 ^ b'.length ≤ valR a' * 256 ^ b'.length := Nat.mul_le_mul_right _ (by omega)
    omega
/-- strictly, if one of both is -/
theorem kR_app_lt {a a' b b' : List Int} (ha : Byt a) (ha' : Byt a') (hb : Byt b) (hb' : Byt b') (h1 : kR a ≤ kR a') (h2 : kR b ≤ kR b') (h : kR a < kR a' ∨ kR b < kR b') : kR (a ++ b) < kR (a' ++ b') := by
  refine Nat.lt_of_le_of_ne (kR_app ha ha' hb hb' h1 h2) fun e => ?_
  have l1 := len_kR ha' h1
  have l2 := len_kR hb' h2
  have eq := kR_inj (ha.app hb) (ha'.app hb') e
  have el := congrArg List.length eq
  rw [List.length_append, List.length_append] at el
  have e1 : a.length = a'.length := by omega
  obtain ⟨x, y⟩ := List.append_inj eq e1
  subst x; subst y
  rcases h with h | h <;> omega
/-! ### the program's own order -/
theorem dataLt_ints : ∀ a b : List Int, PySem.W.dataLt (.list (a.map PyData.int)) (.list (b.map PyData.int)) = HT.lexLt a b
  | [], [] => by rw [PySem.W.dataLt_list]; simp only [List.map_nil, PySem.W.keyToksAll]; rw [PyProof.Rows.lex_irrefl]; rfl
  | [], y :: t => by
    rw [PySem.W.dataLt_list, HT.lexLt_nil_cons]
    simp only [List.map_nil, List.map_cons, PySem.W.keyToksAll]
    rw [PySem.W.lex_atom (fun z => by cases z)]; decide +kernel
  | x :: r, [] => by
    rw [PySem.W.dataLt_list, HT.lexLt_cons_nil]
    simp only [List.map_nil, List.map_cons, PySem.W.keyToksAll]
    rw [PySem.W.lex_atom (fun z => by cases z)]; decide +kernel
  | x :: r, y :: t => by
    have ih := dataLt_ints r t
    rw [PySem.W.dataLt_list] at ih ⊢
    rw [List.map_cons, List.map_cons, PySem.W.dataLt_cons (show PySem.W.alike (.int x) (.int y) = true from rfl), ih, HT.lexLt_cons, PySem.W.dataLt_int]
    by_cases e : x = y
    · rw [if_pos (by simp [PyData.eqv, e]), if_pos e]
    · rw [if_neg (by simp [PyData.eqv, e]), if_neg e]
theorem ints_of_toks : ∀ {a b : List Int}, PySem.W.keyToksAll (a.map PyData.int) = PySem.W.keyToksAll (b.map PyData.int) → a = b
  | [], [], _ => rfl
  | [], y :: t, h => by simp [PySem.W.keyToksAll] at h
  | x :: r, [], h => by simp [PySem.W.keyToksAll] at h
  | x :: r, y :: t, h => by
    simp only [List.map_cons, PySem.W.keyToksAll, PySem.W.keyToks, List.cons_append, List.nil_append, List.cons.injEq, Sum.inl.injEq, true_and] at h
    rw [h.1, ints_of_toks h.2]
theorem entLt_ltR (e f : Ent) : entLt e f = ltR e.1 f.1 := by
  unfold entLt entD
  rw [PySem.W.dataLt_tuple, PySem.W.dataLt_cons (show PySem.W.alike (.int _) (.int _) = true from rfl), PySem.W.dataLt_int]
  unfold ltR
  by_cases e1 : e.1.length = f.1.length
  · rw [if_pos (by simp [PyData.eqv, e1]), decide_eq_false (show ¬ e.1.length < f.1.length by omega), decide_eq_true e1, PySem.W.dataLt_cons (by simp only [PySem.W.alike, alikeAll_ints])]
    by_cases e2 : e.1 = f.1
    · rw [if_pos (by rw [e2]; exact PySem.W.eqv_refl_alike _ (by simp only [PySem.W.alike, alikeAll_ints])), PyProof.Rows.lex_irrefl, e2]
      have := dataLt_ints f.1 f.1
      rw [PySem.W.dataLt_list, PyProof.Rows.lex_irrefl] at this
      rw [← this]; rfl
    · rw [if_neg, dataLt_ints]
      · rfl
      · intro z
        have q := dataLt_ints e.1 f.1
        have q2 := dataLt_ints f.1 e.1
        have al : PySem.W.alikeAll (e.1.map PyData.int) (f.1.map PyData.int) = true := alikeAll_ints _ _
        have z' : PyData.eqvAll (e.1.map PyData.int) (f.1.map PyData.int) = true := by simpa [PyData.eqv] using z
        have := (PySem.W.toksAll_eqv _ _ al).1 z'
        exact e2 (ints_of_toks this)
  · rw [if_neg (by simp [PyData.eqv]; omega), decide_eq_false e1, Bool.false_and, Bool.or_false]
    simp only [decide_eq_decide]; omega
end Bg
set_option Elab.async false
set_option linter.all false
set_option maxRecDepth 100000
set_option maxHeartbeats 4000000
/-! plain rows of trees; what least_trees finds is least -/
namespace Bg
open PySem PySem.Spec PyProof.Rows L2
def mRow (rs : List Row) (m : Str) : Option Row := rs.find? fun r => decide (r.2.1 = m)
def itemR (f : PyData → List Int) : PyData → List Int
  | .int i => [i]
  | d => f d
def rowP (rs : List Row) : Nat → PyData → List Int
  | n + 1, .tuple (.str m :: ds) => match mRow rs m with
    | some r => (tagOf rs r : Int) :: ds.flatMap (itemR (rowP rs n))
    | none => []
  | _, _ => []
theorem mRow_some {rs : List Row} (nd : (rmakers rs).Nodup) {r : Row} (h : r ∈ rs) : mRow rs r.2.1 = some r := by
  unfold mRow
  cases e : rs.find? (fun r' => decide (r'.2.1 = r.2.1)) with
  | none => exact absurd (decide_eq_true rfl) (List.find?_eq_none.mp e r h)
  | some r' =>
    have z := of_decide_eq_true (List.find?_some (p := fun r' : Row => decide (r'.2.1 = r.2.1)) e)
    rw [row_unique nd (List.mem_of_find?_eq_some e) h z]
theorem allV_on {f g : Str → PyData → Bool} : ∀ {ps : List Part} {ds : List PyData}, (∀ p ∈ ps, ∀ d ∈ ds, f p.2.1 d = true → g p.2.1 d = true) → allV f ps ds = true → allV g ps ds = true
  | [], [], _, _ => rfl
  | [], _ :: _, _, e => by cases e
  | _ :: _, [], _, e => by cases e
  | p :: ps, d :: ds, h, e => by
    have e : (valB f p.2.1 d && allV f ps ds) = true := e
    rw [Bool.and_eq_true] at e
    show (valB g p.2.1 d && allV g ps ds) = true
    rw [Bool.and_eq_true]
    refine ⟨?_, allV_on (fun q hq x hx => h q (List.mem_cons_of_mem _ hq) x (List.mem_cons_of_mem _ hx)) e.2⟩
    have z := e.1
    unfold valB at z ⊢
    split
    · rename_i c; rw [if_pos c] at z; exact z
    · rename_i c; rw [if_neg c] at z; exact h p (List.mem_cons_self ..) d (List.mem_cons_self ..) z
theorem fitB_dep {rs : List Row} : ∀ (n : Nat) (k : Str) (d : PyData), fitB rs n k d = true → fitB rs (dep d) k d = true
  | 0, k, d, h => by cases h
  | n + 1, k, d, h => by
    obtain ⟨m, ds, r, rfl, er, z⟩ := fitB_inv h
    have e : dep (.tuple (.str m :: ds)) = depAll ds + 1 := by simp only [dep, depAll]; omega
    rw [e, fitB, er]
    exact allV_on (fun p _ x hx hf => fitB_le (depAll_mem hx) (fitB_dep n _ _ hf)) z
/-- the items of a row, by the parts -/
theorem flat_on {f g : PyData → List Int} {F : Str → PyData → Bool} (h : ∀ k d, F k d = true → f d = g d) : ∀ {ps : List Part} {ds : List PyData}, allV F ps ds = true → ds.flatMap (itemR f) = ds.flatMap (itemR g)
  | [], [], _ => rfl
  | [], _ :: _, e => by cases e
  | _ :: _, [], _ => rfl
  | p :: ps, d :: ds, e => by
    have e : (valB F p.2.1 d && allV F ps ds) = true := e
    rw [Bool.and_eq_true] at e
    rw [List.flatMap_cons, List.flatMap_cons, flat_on h e.2]
    congr 1
    have z := e.1
    unfold valB at z
    split at z
    · unfold byteB at z
      split at z
      · rfl
      · cases z
    · unfold itemR
      split
      · rfl
      · exact h _ _ z
theorem rowP_le {rs : List Row} : ∀ (n m : Nat) (k : Str) (d : PyData), fitB rs n k d = true → n ≤ m → rowP rs m d = rowP rs n d
  | 0, m, k, d, h, _ => by cases h
  | n + 1, 0, k, d, h, l => by omega
  | n + 1, m + 1, k, d, h, l => by
    obtain ⟨x, ds, r, rfl, er, z⟩ := fitB_inv h
    rw [rowP, rowP]
    rw [flat_on (fun k d hf => rowP_le n m k d hf (by omega)) z]
def rowI (rs : List Row) (d : PyData) : List Int := rowP rs (dep d) d
theorem rowP_I {rs : List Row} {n : Nat} {k : Str} {d : PyData} (h : fitB rs n k d = true) : rowP rs n d = rowI rs d := by
  have h2 := fitB_dep n k d h
  rcases Nat.le_total n (dep d) with l | l
  · exact (rowP_le n (dep d) k d h l).symm
  · exact rowP_le (dep d) n k d h2 l
theorem rowI_node {rs : List Row} (nd : (rmakers rs).Nodup) {r : Row} (hr : r ∈ rs) {n : Nat} {ds : List PyData} (h : allV (fitB rs n) r.2.2 ds = true) : rowI rs (.tuple (.str r.2.1 :: ds)) = (tagOf rs r : Int) :: ds.flatMap (itemR (rowI rs)) := by
  have hf : fitB rs (n + 1) r.1 (.tuple (.str r.2.1 :: ds)) = true := by rw [fitB_row nd hr]; exact h
  rw [← rowP_I hf, rowP, mRow_some nd hr]
  show _ :: _ = _
  rw [flat_on (fun k d hf => rowP_I hf) h]
theorem tag_small {rs : List Row} (val : ValidT rs) (r : Row) (hr : r ∈ rs) : tagOf rs r < 12 := by
  have h1 : tagOf rs r < (makersOf rs r.1).length := List.idxOf_lt_length_of_mem (mem_makersOf.mpr ⟨r, hr, rfl, rfl⟩)
  have h2 := makersOf_len rs r.1
  have := val.each.few
  omega
theorem byteB_int {d : PyData} (h : byteB d = true) : ∃ i : Int, d = .int i ∧ 0 ≤ i ∧ i < 256 := by
  unfold byteB at h
  split at h
  · rename_i i
    rw [Bool.and_eq_true] at h
    have := of_decide_eq_true h.1
    have := of_decide_eq_true h.2
    exact ⟨i, rfl, by omega, by omega⟩
  · cases h
/-- a value of a part: a byte, or a tree (no number) -/
theorem val_cases {rs : List Row} {n : Nat} {p : Str} {d : PyData} (h : valB (fitB rs n) p d = true) : (p = ("byte" : Str) ∧ ∃ i : Int, d = .int i ∧ 0 ≤ i ∧ i < 256) ∨ (¬ p = ("byte" : Str) ∧ fitB rs n p d = true ∧ ∀ f, itemR f d = f d) := by
  unfold valB at h
  by_cases c : p = ("byte" : Str)
  · rw [if_pos c] at h; exact .inl ⟨c, byteB_int h⟩
  · rw [if_neg c] at h
    refine .inr ⟨c, h, fun f => ?_⟩
    unfold itemR
    split
    · rw [fitB_int] at h; cases h
    · rfl
theorem allV_mem {f : Str → PyData → Bool} : ∀ {ps : List Part} {ds : List PyData}, allV f ps ds = true → ∀ d ∈ ds, ∃ p ∈ ps, valB f p.2.1 d = true
  | [], [], _, d, h => by cases h
  | [], _ :: _, e, _, _ => by cases e
  | _ :: _, [], _, d, h => by cases h
  | p :: ps, x :: ds, e, d, hd => by
    have e : (valB f p.2.1 x && allV f ps ds) = true := e
    rw [Bool.and_eq_true] at e
    rcases List.mem_cons.mp hd with w | w
    · exact ⟨p, List.mem_cons_self .., by rw [w]; exact e.1⟩
    · obtain ⟨q, hq, z⟩ := allV_mem e.2 d w
      exact ⟨q, List.mem_cons_of_mem _ hq, z⟩
theorem Byt.flat {α : Type} {f : α → List Int} : ∀ {l : List α}, (∀ x ∈ l, Byt (f x)) → Byt (l.flatMap f)
  | [], _ => fun x hx => by simp at hx
  | a :: l, h => by
    rw [List.flatMap_cons]
    exact (h a (List.mem_cons_self ..)).app (Byt.flat fun x hx => h x (List.mem_cons_of_mem _ hx))
theorem row_byt {rs : List Row} (val : ValidT rs) : ∀ (n : Nat) (k : Str) (d : PyData), fitB rs n k d = true → Byt (rowI rs d)
  | 0, k, d, h => by cases h
  | n + 1, k, d, h => by
    obtain ⟨m, ds, r, rfl, er, z⟩ := fitB_inv h
    obtain ⟨hr, rfl, rfl⟩ := rowAt_of er
    rw [rowI_node val.nd hr z]
    intro x hx
    rcases List.mem_cons.mp hx with e | e
    · have := tag_small val r hr
      rw [e]; omega
    · refine Byt.flat (fun d hd => ?_) x e
      obtain ⟨p, _, hv⟩ := allV_mem z d hd
      rcases val_cases hv with ⟨_, i, rfl, h0, h1⟩ | ⟨_, hf, ei⟩
      · intro x hx
        have : x = i := by simpa [itemR] using hx
        omega
      · rw [ei]; exact row_byt val n _ _ hf
/-! ### the least of a kind -/
def Tr (rs : List Row) (k : Str) (d : PyData) : Prop := ∃ n, fitB rs n k d = true
def IsMin (rs : List Row) (k : Str) (d : PyData) : Prop := Tr rs k d ∧ ∀ e, Tr rs k e → kR (rowI rs d) ≤ kR (rowI rs e)
theorem Tr.byt {rs : List Row} (val : ValidT rs) {k : Str} {d : PyData} (h : Tr rs k d) : Byt (rowI rs d) := by obtain ⟨n, h⟩ := h; exact row_byt val n k d h
theorem exists_min {rs : List Row} {k : Str} : ∀ (n : Nat) (d : PyData), Tr rs k d → kR (rowI rs d) ≤ n → ∃ m, IsMin rs k m
  | 0, d, h, l => ⟨d, h, fun e _ => by omega⟩
  | n + 1, d, h, l => by
    by_cases c : ∃ e, Tr rs k e ∧ kR (rowI rs e) ≤ n
    · obtain ⟨e, he, le⟩ := c
      exact exists_min n e he le
    · refine ⟨d, h, fun e he => ?_⟩
      have : ¬ kR (rowI rs e) ≤ n := fun z => c ⟨e, he, z⟩
      omega
/-- items pairwise not greater -/
theorem flat_le {f : PyData → List Int} : ∀ {as bs : List PyData}, as.length = bs.length → (∀ (i : Nat) a b, as[i]? = some a → bs[i]? = some b → Byt (f a) ∧ Byt (f b) ∧ kR (f a) ≤ kR (f b)) → kR (as.flatMap f) ≤ kR (bs.flatMap f)
  | [], [], _, _ => Nat.le_refl _
  | [], _ :: _, h, _ => by simp at h
  | _ :: _, [], h, _ => by simp at h
  | a :: as, b :: bs, hl, h => by
    rw [List.flatMap_cons, List.flatMap_cons]
    obtain ⟨h1, h2, h3⟩ := h 0 a b rfl rfl
    have hl' : as.length = bs.length := by simpa using hl
    have ht : ∀ (i : Nat) x y, as[i]? = some x → bs[i]? = some y → Byt (f x) ∧ Byt (f y) ∧ kR (f x) ≤ kR (f y) := fun i x y hx hy => h (i + 1) x y (by simpa using hx) (by simpa using hy)
    have b1 : Byt (as.flatMap f) := Byt.flat fun x hx => by
      obtain ⟨i, hi⟩ := List.getElem?_of_mem hx
      have l := (List.getElem?_eq_some_iff.mp hi).1
      exact (ht i x bs[i] hi (List.getElem?_eq_getElem (by omega))).1
    have b2 : Byt (bs.flatMap f) := Byt.flat fun x hx => by
      obtain ⟨i, hi⟩ := List.getElem?_of_mem hx
      have l := (List.getElem?_eq_some_iff.mp hi).1
      exact (ht i as[i] x (List.getElem?_eq_getElem (by omega)) hi).2.1
    exact kR_app h1 h2 b1 b2 h3 (flat_le hl' ht)
theorem flat_lt {f : PyData → List Int} : ∀ {as bs : List PyData}, as.length = bs.length → (∀ (i : Nat) a b, as[i]? = some a → bs[i]? = some b → Byt (f a) ∧ Byt (f b) ∧ kR (f a) ≤ kR (f b)) → (∃ (i : Nat) (a b : PyData), as[i]? = some a ∧ bs[i]? = some b ∧ kR (f a) < kR (f b)) → kR (as.flatMap f) < kR (bs.flatMap f)
  | [], [], _, _, h => by obtain ⟨i, a, b, h, _⟩ := h; simp at h
  | [], _ :: _, h, _, _ => by simp at h
  | _ :: _, [], h, _, _ => by simp at h
  | a :: as, b :: bs, hl, h, hs => by
    rw [List.flatMap_cons, List.flatMap_cons]
    obtain ⟨h1, h2, h3⟩ := h 0 a b rfl rfl
    have hl' : as.length = bs.length := by simpa using hl
    have ht : ∀ (i : Nat) x y, as[i]? = some x → bs[i]? = some y → Byt (f x) ∧ Byt (f y) ∧ kR (f x) ≤ kR (f y) := fun i x y hx hy => h (i + 1) x y (by simpa using hx) (by simpa using hy)
    have b1 : Byt (as.flatMap f) := Byt.flat fun x hx => by
      obtain ⟨i, hi⟩ := List.getElem?_of_mem hx
      have l := (List.getElem?_eq_some_iff.mp hi).1
      exact (ht i x bs[i] hi (List.getElem?_eq_getElem (by omega))).1
    have b2 : Byt (bs.flatMap f) := Byt.flat fun x hx => by
      obtain ⟨i, hi⟩ := List.getElem?_of_mem hx
      have l := (List.getElem?_eq_some_iff.mp hi).1
      exact (ht i as[i] x (List.getElem?_eq_getElem (by omega)) hi).2.1
    refine kR_app_lt h1 h2 b1 b2 h3 (flat_le hl' ht) ?_
    obtain ⟨i, x, y, hx, hy, hxy⟩ := hs
    cases i with
    | zero =>
      have e1 : a = x := by simpa using hx
      have e2 : b = y := by simpa using hy
      subst e1; subst e2; exact .inl hxy
    | succ i => exact .inr (flat_lt hl' ht ⟨i, x, y, by simpa using hx, by simpa using hy, hxy⟩)
/-- a node of two lists of values, the one pairwise not greater -/
theorem node_le {rs : List Row} (val : ValidT rs) {r : Row} (hr : r ∈ rs) {n m : Nat} {as bs : List PyData} (ha : allV (fitB rs n) r.2.2 as = true) (hb : allV (fitB rs m) r.2.2 bs = true)
    (h : ∀ (i : Nat) p a b, r.2.2[i]? = some p → as[i]? = some a → bs[i]? = some b → kR (itemR (rowI rs) a) ≤ kR (itemR (rowI rs) b)) : kR (rowI rs (.tuple (.str r.2.1 :: as))) ≤ kR (rowI rs (.tuple (.str r.2.1 :: bs))) ∧
    ((∃ (i : Nat) (a b : PyData), as[i]? = some a ∧ bs[i]? = some b ∧ kR (itemR (rowI rs) a) < kR (itemR (rowI rs) b)) → kR (rowI rs (.tuple (.str r.2.1 :: as))) < kR (rowI rs (.tuple (.str r.2.1 :: bs)))) := by
  have la := allV_len ha
  have lb := allV_len hb
  have byt : ∀ {n : Nat} {ds : List PyData}, allV (fitB rs n) r.2.2 ds = true → ∀ d ∈ ds, Byt (itemR (rowI rs) d) := fun {n ds} hz d hd => by
    obtain ⟨p, _, hv⟩ := allV_mem hz d hd
    rcases val_cases hv with ⟨_, i, rfl, h0, h1⟩ | ⟨_, hf, ei⟩
    · intro x hx
      have : x = i := by simpa [itemR] using hx
      omega
    · rw [ei]; exact row_byt val n _ _ hf
  have pw : ∀ (i : Nat) a b, as[i]? = some a → bs[i]? = some b → Byt (itemR (rowI rs) a) ∧ Byt (itemR (rowI rs) b) ∧ kR (itemR (rowI rs) a) ≤ kR (itemR (rowI rs) b) := fun i a b h1 h2 => by
    have l := (List.getElem?_eq_some_iff.mp h1).1
    exact ⟨byt ha a (List.mem_of_getElem? h1), byt hb b (List.mem_of_getElem? h2), h i r.2.2[i] a b (List.getElem?_eq_getElem (by omega)) h1 h2⟩
  have tb : Byt [(tagOf rs r : Int)] := fun x hx => by
    have := tag_small val r hr
    have e := List.mem_singleton.mp hx
    omega
  rw [rowI_node val.nd hr ha, rowI_node val.nd hr hb]
  exact ⟨kR_app (a := [(tagOf rs r : Int)]) (a' := [(tagOf rs r : Int)]) tb tb (Byt.flat (byt ha)) (Byt.flat (byt hb)) (Nat.le_refl _) (flat_le (by omega) pw), fun hs => kR_app_lt (a := [(tagOf rs r : Int)]) (a' := [(tagOf rs r : Int)]) tb tb (Byt.flat (byt ha)) (Byt.flat (byt hb)) (Nat.le_refl _) (flat_le (by omega) pw) (.inr (flat_lt (by omega) pw hs))⟩
/-- the rows tell the trees -/
theorem row_inj {rs : List Row} (val : ValidT rs) : ∀ (n : Nat) (k : Str) (d e : PyData) (s t : List Int), fitB rs n k d = true → fitB rs n k e = true → rowI rs d ++ s = rowI rs e ++ t → d = e ∧ s = t
  | 0, k, d, e, s, t, h, _, _ => by cases h
  | n + 1, k, d, e, s, t, h1, h2, he => by
    obtain ⟨m, ds, r, rfl, er, z⟩ := fitB_inv h1
    obtain ⟨hr, hk, rfl⟩ := rowAt_of er
    obtain ⟨m2, es, r2, rfl, er2, z2⟩ := fitB_inv h2
    obtain ⟨hr2, hk2, rfl⟩ := rowAt_of er2
    rw [rowI_node val.nd hr z, rowI_node val.nd hr2 z2, List.cons_append, List.cons_append, List.cons.injEq] at he
    have et : r = r2 := by
      have t1 : tagOf rs r = tagOf rs r2 := by omega
      unfold tagOf at t1
      rw [hk, hk2] at t1
      have m1 := (mem_idxOf (mem_makersOf.mpr ⟨r, hr, hk, rfl⟩)).1
      have m2 := (mem_idxOf (mem_makersOf.mpr ⟨r2, hr2, hk2, rfl⟩)).1
      rw [t1, m2] at m1
      exact row_unique val.nd hr hr2 (Option.some.inj m1).symm
    subst et
    have go : ∀ (ps : List Part) (ds es : List PyData) (s t : List Int), allV (fitB rs n) ps ds = true → allV (fitB rs n) ps es = true → ds.flatMap (itemR (rowI rs)) ++ s = es.flatMap (itemR (rowI rs)) ++ t → ds = es ∧ s = t := by
      intro ps
      induction ps with
      | nil =>
        intro ds es s t h1 h2 he
        have l1 := allV_len h1
        have l2 := allV_len h2
        have e1 : ds = [] := List.length_eq_zero_iff.mp (by simpa using l1)
        have e2 : es = [] := List.length_eq_zero_iff.mp (by simpa using l2)
        subst e1; subst e2
        exact ⟨rfl, by simpa using he⟩
      | cons p ps ih =>
        intro ds es s t h1 h2 he
        cases ds with
        | nil => cases h1
        | cons d ds =>
        cases es with
        | nil => cases h2
        | cons e es =>
          have h1 : (valB (fitB rs n) p.2.1 d && allV (fitB rs n) ps ds) = true := h1
          have h2 : (valB (fitB rs n) p.2.1 e && allV (fitB rs n) ps es) = true := h2
          rw [Bool.and_eq_true] at h1 h2
          rw [List.flatMap_cons, List.flatMap_cons, List.append_assoc, List.append_assoc] at he
          rcases val_cases h1.1 with ⟨c, i, rfl, _, _⟩ | ⟨c, hf, ei⟩
          · rcases val_cases h2.1 with ⟨_, j, rfl, _, _⟩ | ⟨c2, _, _⟩
            · simp only [itemR, List.singleton_append, List.cons.injEq] at he
              obtain ⟨a, b⟩ := ih ds es s t h1.2 h2.2 he.2
              exact ⟨by rw [he.1, a], b⟩
            · exact absurd c c2
          · rcases val_cases h2.1 with ⟨c2, _⟩ | ⟨c2, hf2, ei2⟩
            · exact absurd c2 c
            · rw [ei, ei2] at he
              obtain ⟨a, b⟩ := row_inj val n p.2.1 d e _ _ hf hf2 he
              obtain ⟨a2, b2⟩ := ih ds es s t h1.2 h2.2 b
              exact ⟨by rw [a, a2], b2⟩
    obtain ⟨a, b⟩ := go _ _ _ _ _ z z2 he.2
    exact ⟨by rw [a], b⟩
theorem Tr.inj {rs : List Row} (val : ValidT rs) {k : Str} {d e : PyData} (h1 : Tr rs k d) (h2 : Tr rs k e) (h : rowI rs d = rowI rs e) : d = e := by
  obtain ⟨n, h1⟩ := h1
  obtain ⟨m, h2⟩ := h2
  exact (row_inj val (max n m) k d e [] [] (fitB_le (Nat.le_max_left ..) h1) (fitB_le (Nat.le_max_right ..) h2) (by rw [h])).1
end Bg
set_option Elab.async false
set_option linter.all false
set_option maxRecDepth 100000
set_option maxHeartbeats 1000000
/-! the one row of a maker; rows as data -/
namespace Bg
open PySem PySem.Spec PyProof.Rows L2
theorem one_row {rs : List Row} (nd : (rmakers rs).Nodup) {r : Row} (hr : r ∈ rs) {p : Row → Bool} (h1 : p r = true) (h2 : ∀ x ∈ rs, p x = true → x.2.1 = r.2.1) : rs.filter p = [r] := by
  induction rs with
  | nil => cases hr
  | cons a l ih =>
    have nd2 : a.2.1 ∉ rmakers l ∧ (rmakers l).Nodup := List.nodup_cons.mp nd
    rcases List.mem_cons.mp hr with e | e
    · subst e
      have : l.filter p = [] := List.filter_eq_nil_iff.mpr fun x hx z => by
        have := h2 x (List.mem_cons_of_mem _ hx) z
        exact nd2.1 (by rw [← this]; exact List.mem_map_of_mem hx)
      rw [List.filter_cons_of_pos h1, this]
    · have na : ¬ p a = true := fun z => by
        have := h2 a (List.mem_cons_self ..) z
        exact nd2.1 (by rw [this]; exact List.mem_map_of_mem e)
      rw [List.filter_cons_of_neg na]
      exact ih nd2.2 e fun x hx => h2 x (List.mem_cons_of_mem _ hx)
theorem own_one {rs : List Row} (nd : (rmakers rs).Nodup) {r : Row} (hr : r ∈ rs) : (rs.filter fun x => decide (x.2.1 = r.2.1)) = [r] := one_row nd hr (decide_eq_true rfl) fun x _ h => of_decide_eq_true h
theorem fit_one {rs : List Row} (nd : (rmakers rs).Nodup) {r : Row} (hr : r ∈ rs) : (rs.filter fun x => decide (x.1 = r.1) && decide (x.2.1 = r.2.1)) = [r] := one_row nd hr (by simp) fun x _ h => by simp at h; exact h.2
def rowPD (r : Row) : PyData := .tuple [.str r.1, .str r.2.1, .tuple (r.2.2.map partPD)]
theorem tdAll_of {H : Hp} {α : Type} {f : α → PyData} {R : V → α → Prop} (hR : ∀ v x, R v x → Td H v (f x)) {vs : List V} {xs : List α} (h : All2 R vs xs) : TdAll H vs (xs.map f) := by
  obtain ⟨l, h⟩ := h
  induction vs generalizing xs with
  | nil => cases xs with
    | nil => exact .nil
    | cons a b => exact absurd l (by simp)
  | cons v vs ih => cases xs with
    | nil => exact absurd l (by simp)
    | cons x xs => exact .cons (hR v x (h 0 v x rfl rfl)) (ih (by simpa using l) fun i a b ha hb => h (i + 1) a b ha hb)
theorem RowAt.td {H : Hp} {v : V} {r : Row} (h : RowAt H v r) : Td H v (rowPD r) := by
  obtain ⟨b, u, rfl, hb, c, ws, rfl, hc, al⟩ := h
  exact .tup hb (.cons (.str _) (.cons (.str _) (.cons (.tup hc (tdAll_of (fun v x z => PartAt.td z) al)) .nil)))
theorem rowPD_lay {r : Row} (h1 : PyData.strOk r.1 = true) (h2 : PyData.strOk r.2.1 = true) (h : ∀ p ∈ r.2.2, partB p = true) : (rowPD r).canLay0 = true ∧ (rowPD r).depth ≤ 4 := by
  obtain ⟨a, b⟩ := parts_lay h
  refine ⟨?_, ?_⟩
  · simp only [rowPD, PyData.canLay0, PyData.canLayAll0, h1, h2, a, Bool.and_true]
  · simp only [rowPD, PyData.depth, PyData.depthAll]; omega
theorem rowPD_shaped {r : Row} (h1 : PyData.strOk r.1 = true) (h2 : PyData.strOk r.2.1 = true) (h : ∀ p ∈ r.2.2, partB p = true) : SeqAt.shaped (.list [rowPD r]) = true := by
  obtain ⟨a, b⟩ := rowPD_lay h1 h2 h
  unfold SeqAt.shaped
  rw [Bool.and_eq_true]
  refine ⟨by simp only [PyData.canLay0, PyData.canLayAll0, a, Bool.and_true], decide_eq_true (by simp only [PyData.depth, PyData.depthAll]; omega)⟩
theorem ValidT.rows_ok {rs : List Row} (val : ValidT rs) {r : Row} (hr : r ∈ rs) : PyData.strOk r.1 = true ∧ PyData.strOk r.2.1 = true ∧ ∀ p ∈ r.2.2, partB p = true := by
  have g := val.each.good r hr
  have hk : nameB r.1 = true := by have := g.1; unfold kindB at this; rw [Bool.and_eq_true] at this; exact this.1
  exact ⟨strOk_of hk, strOk_of g.2.1, fun p hp => part_kind g.2.2 hp⟩
end Bg
set_option Elab.async false
set_option linter.all false
set_option maxRecDepth 100000
set_option maxHeartbeats 1000000
/-! tuple(list) made plain and held for good; dict(tuple of pairs) -/
namespace Bg
open PySem PySem.Spec PyProof.Rows L2
/-- a tuple whose object is told: a plain one -/
def PlT (H : Hp) (a : Addr) (xs : List V) : Prop := ∃ (its : Array Value) (n : Nat), H a = some (.frz { cls := .type "tuple", dict := none, data := .seq its n } (.tup xs))
theorem PlT.sq {K : PySem.W.Frag} {H : Hp} {a : Addr} {xs : List V} (h : PlT H a xs) : SqT K H a xs := by
  obtain ⟨its, n, e⟩ := h
  exact .inl (.inr ⟨_, e⟩)
theorem PlT.same {H H' : Hp} (s : Same H H') {a : Addr} {xs : List V} (h : PlT H a xs) : PlT H' a xs := by
  obtain ⟨its, n, e⟩ := h
  exact ⟨its, n, s _ _ e⟩
section
variable {X : Cx}
theorem call_tupleP : CallR X (.type "tuple") (fun xs H Q => ∃ p ys, xs = [.ref p] ∧ SqL X.K H p ys ∧ ∀ l H', H l = none → Same H H' → PlT H' l ys → (∀ b, b ≠ l → H' b = H b) → Q (.ref l) H') := by
  intro pins s σ H xs us Q I r h
  obtain ⟨p, ys, rfl, hq, q⟩ := h
  obtain ⟨u, rfl, rx⟩ := vals1 r
  cases rx
  obtain ⟨its, r', pl, hz⟩ := I.list hq
  have hlen := r'.length
  refine call_tuple_list pl.isList (fun h' kp => ?_) (by simp only [List.size_toArray] <;> omega)
  have I1 : Inv X pins σ H { s with heap := h' } := I.kept (t' := s.toks) kp
  have hf := I1.hok.fresh (a := h'.objs.size) (Nat.le_refl _)
  have I2 : Inv X pins σ (upd H h'.objs.size (.frz { cls := .type "tuple", dict := none, data := .seq its.toArray 0 } (.tup ys))) { s with heap := h'.push { cls := .type "tuple", data := .seq its.toArray 0 } } :=
    I1.laid (t' := s.toks) (fun b o e => Heap.get?_push_of_some _ e) (Nat.le_refl _) (show ObjOk X.prog X.w _ _ _ (.frz _ (.tup ys)) from ⟨Heap.get?_push_size _ rfl, hz, its, r', IsTup.new _ _⟩)
  exact ⟨.ref h'.objs.size, _, I2, rfl, q _ _ hf (same_new hf) ⟨_, _, upd_same⟩ fun b n => upd_ne n⟩
theorem pairs_list {h : Heap} : ∀ {ps : List Addr} {prs : List (Key × Value)}, prs.length = ps.length → (∀ (j : Nat) (q : Key × Value), prs[j]? = some q → ∃ (b : Addr) (u : Value), ps[j]? = some b ∧ IsTup h b #[u, q.2] ∧ keyIs q.1 u = true) →
    ∃ qs : List (Value × Value), qs.length = ps.length ∧ ∀ (j : Nat) (k v : Value), qs[j]? = some (k, v) → ∃ (b : Addr) (q : Key × Value), ps[j]? = some b ∧ prs[j]? = some q ∧ v = q.2 ∧ IsTup h b #[k, v] ∧ keyIs q.1 k = true
  | [], [], _, _ => ⟨[], rfl, fun j k v e => by simp at e⟩
  | [], _ :: _, l, _ => by simp at l
  | _ :: _, [], l, _ => by simp at l
  | p :: ps, q :: prs, l, hq => by
    obtain ⟨qs, hl, h2⟩ := pairs_list (ps := ps) (prs := prs) (by simpa using l) fun j q' e => by
      obtain ⟨b, u, e1, e2, e3⟩ := hq (j + 1) q' (by simpa using e)
      exact ⟨b, u, by simpa using e1, e2, e3⟩
    obtain ⟨b, u, e1, e2, e3⟩ := hq 0 q rfl
    refine ⟨(u, q.2) :: qs, by simp [hl], fun j k v e => ?_⟩
    cases j with
    | zero => cases (Option.some.inj e : (u, q.2) = (k, v)); exact ⟨b, q, e1, rfl, rfl, e2, e3⟩
    | succ j =>
      obtain ⟨b', q', f1, f2, f3⟩ := h2 j k v (by simpa using e)
      exact ⟨b', q', by simpa using f1, by simpa using f2, f3⟩
theorem call_dictT (hcalm : X.calm = true) : CallR X (.type "dict") (fun xs H Q => ∃ (a : Addr) (ps : List Addr) (kvs : List (Key × V)), xs = [.ref a] ∧ PlT H a (ps.map V.ref) ∧ Paired (fun p kv => SqT X.K H p [kV kv.1, kv.2]) ps kvs ∧
    ∀ p, H p = none → Q (.ref p) (upd H p (.dK (mergeK [] kvs)))) := by
  intro pins s σ H xs us Q I r q
  obtain ⟨a, ps, kvs, ex, ⟨its, n, ht⟩, hp, q⟩ := q
  subst ex
  obtain ⟨u, eu, rx⟩ := vals1 r
  subst eu
  cases rx
  obtain ⟨ho, hz, its', rv, ⟨o2, ho2, hc2, n2, hd2⟩⟩ := I.hok a _ ht
  rw [ho] at ho2
  cases ho2
  injection hd2 with e1 e2
  subst e1
  have ei := refs_at rv
  subst ei
  rw [List.length_map] at hz
  obtain ⟨prs, rel, hl, hpr⟩ := pairs_of I hp
  obtain ⟨qs, lq, hqs⟩ := pairs_list hl hpr
  have P := PySem.PairArg.tuple (prog := X.prog) (w := X.w) a (ps.map Value.ref).toArray (fun j => ps.getD j 0) qs
  have ok : PySem.PlainSeq "tuple" s.heap a (ps.map Value.ref).toArray ∧ PySem.PairItems s.heap (ps.map Value.ref).toArray (fun j => ps.getD j 0) qs := by
    refine ⟨⟨_, n, ho, rfl, rfl, rfl⟩, by simp [lq], fun j k v e => ?_⟩
    obtain ⟨b, q', e1, e2, e3, e4, e5⟩ := hqs j k v e
    have eb : ps.getD j 0 = b := by rw [List.getD_eq_getElem?_getD, e1]; rfl
    show (ps.map Value.ref).toArray[j]? = some (.ref (ps.getD j 0)) ∧ PySem.PairAt s.heap (ps.getD j 0) k v
    rw [eb]
    exact ⟨by simp [e1], .inl e4⟩
  have hc : PySem.PairsHave (mixKind X.prog X.w) qs.length (PySem.PairRel qs) prs := ⟨by rw [hl, lq], fun i key v e => by
    obtain ⟨b, q', e1, e2, e3, e4, e5⟩ := hqs i key v e
    exact ⟨q'.1, by rw [e2, e3], e5⟩⟩
  refine PySem.call_dict_pairs (knd := mixKind X.prog X.w) (kvs := prs) P (I.ok.hd hcalm) ok hc (by rw [lq]; exact hz) fun h' tk hd' k => ?_
  have hm : (s.heap.objs.size == sysModules) = false := beq_eq_false_iff_ne.mpr (Nat.ne_of_gt I.big)
  have hlen : (mergeK [] kvs).length ≤ sizeLine := by
    refine Nat.le_trans (length_mergeK kvs []) ?_
    rw [List.length_nil, Nat.zero_add, rel.length, hl]
    exact hz
  exact ⟨.ref s.heap.objs.size, upd H s.heap.objs.size (.dK (mergeK [] kvs)), I.laid (t' := tk) (fun b o e => k b o (by simp) e) (Nat.le_refl _) (show ObjOk X.prog X.w _ _ _ (.dK (mergeK [] kvs)) from ⟨hlen, hm, merged [] prs, KV.merge rel .nil, hd'⟩), rfl, q _ (I.hok.fresh (Nat.le_refl _))⟩
end
end Bg
set_option Elab.async false
set_option linter.all false
set_option maxRecDepth 100000
set_option maxHeartbeats 4000000
namespace Bg
open PySem PySem.Spec PyProof.Rows L2
/-! ### a def that raises nothing, called while an error is handled -/
structure FnC (P : Program) (w : World) (K : PySem.W.Frag) (mg : Str → Option Value) (base : Heap) (k : Nat) (f : Addr) (fd : FuncData) (ps : List Str) (sp : Sp) : Prop where
  len : ∀ vs H Q E, sp vs H Q E → vs.length = ps.length
  go : ∀ (A : Around) (outer : List Env) (s : Shared) (H : Hp) (us : List Value) (vs : List V) (Q : VK) (E : XK) (p : Addr × Obj), L2H.RoomH k A → L2H.PinOk outer H s p → Env0 P w K mg base A outer s H → BindsTo s fd ⟨us, []⟩ (ps.zip us) → Vals vs us → sp vs H Q E →
    codeAny (model P w) A (.call (.ref f) ⟨us, []⟩) (CR CX0 outer P w H s Q E) s
section
variable {P : Program} {w : World} {K : PySem.W.Frag} {mg : Str → Option Value} {base : Heap} {x qual : Str} {params : Arguments} {body : List Stmt} {scope : Scope} {dvs : List V} {kws : List (Str × V)} {f : Addr} {fd : FuncData} {k : Nat} {N ps : List Str} {sp : Sp}
theorem FunD.okC (F : FunD K x qual params body scope dvs kws f fd) (S : FnScope N ps scope) (len : ∀ vs H Q E, sp vs H Q E → vs.length = ps.length)
    (hbody : ∀ (cdv : Value) (A : Around) (outer : List Env) (s : Shared) (H : Hp) (vs : List V) (Q : VK) (E : XK) (p : Addr × Obj), L2H.RoomH k (A.deeper (envOfC qual scope s.heap.objs.size f cdv)) → sp vs H Q E →
      ∃ t, PSs (L2H.cxH CX0 P w K mg base N qual scope f cdv A outer s H E p) body t ∧ t { nx := fun _ H' => Q .non H', rt := Q } (L2.start N vs) H) : FnC P w K mg base (k + 1) f fd ps sp := by
  obtain ⟨oc, od, dV, kV, doc, pm, an, cdv, ct, osl, rfl, lk, hcd, _, _⟩ := F.ex
  refine ⟨len, fun A outer s H us vs Q E p room pin e0 hb r h => ?_⟩
  have inB : ∀ b o, base.get? b = some o → s.heap.get? b = some o := fun b o e => (e0.bs b o e).1
  have KX : K.In s.heap := e0.mod.kin.keeps inB
  refine codeAny_call_function room.depth (KX _ _ lk) rfl S.co S.gen rfl (PySem.W.codeRec_of KX hcd) (hb _ _ _ _ ?_)
  refine wpAny_newFunctionEnv_cells S.kind (fun ⟨n, v⟩ hy => ?_) fun env he s1 call => ?_
  · rcases S.par n (List.of_mem_zip hy).1 with q | q
    · exact Or.inl q
    · exact Or.inr ⟨q, PySem.W.cellsFrom_some _ _ _ (Or.inl q)⟩
  cases he
  refine ⟨(e0.mod.nolimit.keeps inB).keeps call.toInCall.keep, codeAny_func ?_⟩
  obtain ⟨t, ht, hq⟩ := hbody cdv A outer s H vs Q E p (room.deeper _) h
  have I : Inv (L2H.cxH CX0 P w K mg base N qual scope f cdv A outer s H E p) [] (L2.start N vs) H s1 := L2H.inv_startH S pin e0 (len _ _ _ _ h) r call
  refine wpAny_mono (ht.run [] s1 (L2.start N vs) H _ I hq) (fun fl s' hs => ?_) fun e s' hs => hs
  cases fl with
  | ret u =>
    obtain ⟨v, σ', H', J, rv, q⟩ := hs
    exact ⟨v, H', J.os, J.bare, J.base, J.hok, rv, q⟩
  | next =>
    obtain ⟨σ', H', J, q⟩ := hs
    exact ⟨V.non, H', J.os, J.bare, J.base, J.hok, rfl, q⟩
  | brk => exact hs.elim fun _ z => z.elim fun _ z => z.2.elim
  | cont => exact hs.elim fun _ z => z.elim fun _ z => z.2.elim
end
section
variable {X : Cx} {k : Nat} {f : Addr} {fd : FuncData} {ps : List Str} {sp : Sp} {x : Str} {q pos : Pos} {e : Expr} {es : List Expr} {t : TA} {p : Addr × Obj}
/-- the call, in a context that pins p (the error in hand) -/
theorem pe_callC (F : FnC X.prog X.w X.K X.mg X.base k f fd ps sp) (hr : L2H.RoomH k X.A) (hp : p ∈ X.pn) (hg : Gl X x) (hm : X.mg x = some (.ref f)) (hk : PySem.W.keepIn X.K (.ref f) = true) (hb : Binds X.K fd ps []) (ha : PA X (e :: es) t)
    (hdb : (x == ("__debug__" : Str)) = false := by decide) (he : starEach (e :: es) X.env = (false, eval e X.env) :: starEach es X.env := by rfl) (hpl : (backTo pos (starEach es X.env)).any (·.1) = false := by rfl) :
    PE X (.Call (.Name x q) (e :: es) [] pos) (tCall sp [] E0 t) := by
  refine ⟨fun pins s σ H Q I h => ?_⟩
  refine wpAny_Call_Name_kw (ld_glob I hg hm ?_ hdb)
  refine PySem.W.callWith_K (h₀ := X.base) I.ok.mod.kin hk (thn (ha.run pos pins s σ H _ I h) fun us s1 ⟨vs, H1, J, r, z⟩ => ⟨J.kIn, ?_⟩) he hpl
  show wpAny _ _ (call (.ref f) us) _ _ _
  have z : sp vs H1 Q E0 := by
    have z' : sp (vs ++ []) H1 Q E0 := z
    rwa [List.append_nil] at z'
  have hl : us.length = ps.length := by rw [← r.length]; exact F.len _ _ _ _ z
  have b := hb s1 us J.kIn (by rw [List.append_nil]; exact hl)
  rw [List.append_nil] at b
  obtain ⟨g1, g2, g3, g4, g5⟩ := J.pin p (List.mem_append_left _ hp)
  refine wpAny_call (codeAny_mono (F.go X.A X.stack s1 H1 us vs Q E0 p hr ⟨g1, g2, fun m => (List.mem_cons.mp (J.stkSub p.1 m)).elim g3 g4, g5⟩ J.env0 b r z) fun res s' hq => ?_)
  · cases res with
    | error er => exact hq.elim
    | ok fl =>
      cases fl with
      | ret u => exact J.after hq
      | next => exact hq.elim
      | brk => exact hq.elim
      | cont => exact hq.elim
end
end Bg
set_option Elab.async false
set_option linter.all false
set_option maxRecDepth 100000
set_option maxHeartbeats 4000000
/-! errors without a dict of their own; defs with *args -/
namespace Bg
open PySem PySem.Spec PyProof.Rows L2
section
variable {X : Cx} {a D : Addr} {oe : Obj} {pn : List (Addr × Obj)} {cls : Value}
theorem exc_inst0 {pins : List (Addr × Obj)} {σ : L2.St} {H : Hp} {s : Shared} (I : Inv (X.suite a ((a, oe) :: pn)) pins σ H s) (hz : Zc (.ref D) none oe) (hf : ∃ vs, oe.data = .fields vs) : PySem.W.InstAt s.heap a oe D none := by
  obtain ⟨ha, _⟩ := I.pin (a, oe) (List.mem_append_left _ List.mem_cons_self)
  obtain ⟨vs, hd⟩ := hf
  exact ⟨ha, hz.1, by unfold PySem.W.notCls; rw [hd] <;> rfl, by rw [hz.2]; trivial⟩
/-- isinstance(e, c), e the error that the suite holds, its class D, without a dict -/
def rIsN (K : PySem.W.Frag) (a : Addr) (cls : Value) (d : Option Addr) : List V → Hp → VK → Prop := fun xs H Q => ∃ (c : V) (cv : Value) (b : Bool) (D : Addr), xs = [.ref a, c] ∧ cls = .ref D ∧ d = none ∧ ExT K D ∧ ClsV c cv ∧ PySem.W.kitOne K (.ref D) cv = some b ∧ Q (.bl b) H
theorem call_isN {d : Option Addr} (hz : Zc cls d oe) (hf : ∃ vs, oe.data = .fields vs) : CallR (X.suite a ((a, oe) :: pn)) (.builtin "isinstance") (rIsN X.K a cls d) := by
  intro pins s σ H xs us Q I r h
  obtain ⟨c, cv, b, D, rfl, rfl, rfl, T, hcv, e, q⟩ := h
  cases r with
  | cons rx rr =>
    cases rr with
    | cons rt rr =>
      cases rr
      cases rx
      have ec := ClsV.eq hcv rt
      subst ec
      exact PySem.W.kia_one (PySem.W.kitx_exc T.cl T.xf.ga T.xf.gg T.xf.exC T.ha T.hn T.tk T.hm) I.kIn (exc_inst0 I hz hf) e (fun z => nomatch z) fun tk => ⟨.bl b, H, I.kept (t' := tk) fun _ _ z => z, rfl, q⟩
/-- isinstance(e, (c, ..)) -/
def rIsNT (K : PySem.W.Frag) (a : Addr) (cls : Value) (d : Option Addr) : List V → Hp → VK → Prop := fun xs H Q => ∃ (tp : Addr) (cs : List V) (us : List Value) (b : Bool) (D : Addr), xs = [.ref a, .ref tp] ∧ cls = .ref D ∧ d = none ∧ ExT K D ∧ H tp = some (.tup cs) ∧ Paired ClsV cs us ∧ PySem.W.kitAny K (.ref D) us = some b ∧ Q (.bl b) H
theorem call_isNT {d : Option Addr} (hz : Zc cls d oe) (hf : ∃ vs, oe.data = .fields vs) : CallR (X.suite a ((a, oe) :: pn)) (.builtin "isinstance") (rIsNT X.K a cls d) := by
  intro pins s σ H xs us Q I r h
  obtain ⟨tp, cs, ws, b, D, rfl, rfl, rfl, T, hT, k, e, q⟩ := h
  cases r with
  | cons rx rr =>
    cases rr with
    | cons rt rr =>
      cases rr
      cases rx
      cases rt
      obtain ⟨_, its, rv, o, h1, h2, n, h3⟩ := (show ObjOk (X.suite a ((a, oe) :: pn)).prog (X.suite a ((a, oe) :: pn)).w H s.heap tp (.tup cs) from I.hok tp _ hT)
      have e3 := ClsV.all k rv
      subst e3
      obtain ⟨oc, od', dt, sl⟩ := o
      simp only at h2 h3
      subst h2 h3
      exact PySem.W.kia_tup (PySem.W.kitx_exc T.cl T.xf.ga T.xf.gg T.xf.exC T.ha T.hn T.tk T.hm) I.kIn (exc_inst0 I hz hf) h1 e (fun z => nomatch z) fun tk => ⟨.bl b, H, I.kept (t' := tk) fun _ _ z => z, rfl, q⟩
end
section
variable {X : Cx} {a D : Addr} {oe : Obj} {pn : List (Addr × Obj)} {cls : Value}
/-- with a dict or without -/
def DictOf (H : Hp) (d : Option Addr) : Prop := d = none ∨ ∃ dd fs, d = some dd ∧ H dd = some (.xd fs)
def rIsG (K : PySem.W.Frag) (a : Addr) (cls : Value) (d : Option Addr) : List V → Hp → VK → Prop := fun xs H Q => ∃ (c : V) (cv : Value) (b : Bool) (D : Addr), xs = [.ref a, c] ∧ cls = .ref D ∧ DictOf H d ∧ ExT K D ∧ ClsV c cv ∧ PySem.W.kitOne K (.ref D) cv = some b ∧ Q (.bl b) H
theorem call_isG {d : Option Addr} (hz : Zc cls d oe) (hf : ∃ vs, oe.data = .fields vs) : CallR (X.suite a ((a, oe) :: pn)) (.builtin "isinstance") (rIsG X.K a cls d) := by
  intro pins s σ H xs us Q I r h
  obtain ⟨c, cv, b, D, e1, e2, dd | ⟨dd, fs, ed, eh⟩, T, hcv, e, q⟩ := h
  · exact call_isN hz hf pins s σ H xs us Q I r ⟨c, cv, b, D, e1, e2, dd, T, hcv, e, q⟩
  · exact call_isD hz hf pins s σ H xs us Q I r ⟨c, cv, b, D, dd, fs, e1, e2, ed, eh, T, hcv, e, q⟩
def rIsGT (K : PySem.W.Frag) (a : Addr) (cls : Value) (d : Option Addr) : List V → Hp → VK → Prop := fun xs H Q => ∃ (tp : Addr) (cs : List V) (us : List Value) (b : Bool) (D : Addr), xs = [.ref a, .ref tp] ∧ cls = .ref D ∧ DictOf H d ∧ ExT K D ∧ H tp = some (.tup cs) ∧ Paired ClsV cs us ∧ PySem.W.kitAny K (.ref D) us = some b ∧ Q (.bl b) H
theorem call_isGT {d : Option Addr} (hz : Zc cls d oe) (hf : ∃ vs, oe.data = .fields vs) : CallR (X.suite a ((a, oe) :: pn)) (.builtin "isinstance") (rIsGT X.K a cls d) := by
  intro pins s σ H xs us Q I r h
  obtain ⟨tp, cs, ws, b, D, e1, e2, dd | ⟨dd, fs, ed, eh⟩, T, hT, k, e, q⟩ := h
  · exact call_isNT hz hf pins s σ H xs us Q I r ⟨tp, cs, ws, b, D, e1, e2, dd, T, hT, k, e, q⟩
  · exact call_isDT hz hf pins s σ H xs us Q I r ⟨tp, cs, ws, b, D, dd, fs, e1, e2, ed, eh, T, hT, k, e, q⟩
end
theorem takesN {X : Cx} : Takes X (fun _ _ _ _ => False) := fun _ _ ⟨_, _, _, _, _, _, _, _, _, _, _, _, _, _, _, _, h⟩ => h.elim
/-- a callee's errors are the def's -/
theorem passX {X : Cx} {E : XK} (tk : Takes X (fun cls d _ H => E cls d H)) : Passes (L2.CX X.prog X.w) X E := passes_call tk fun _ _ _ _ h => h
/-! ### o.m(..) whose errors are taken at the slots of the call -/
def tMethRAt (C : Addr) (m : Str) (sp : Sp) (E : L2.St → XK) (ta : TE) (t : TA) : TE := fun σ H Q => ta σ H fun x H1 => ∃ a dx fs, x = .ref a ∧ H1 a = some (.ins C dx fs) ∧ fs.lookup m = none ∧ t σ H1 fun vs H2 => sp (x :: vs) H2 Q (E σ)
section
variable {X : Cx} {CX : CXT} {k : Nat} {C f : Addr} {m : Str} {sp : Sp} {E : L2.St → XK} {o e : Expr} {es : List Expr} {ta : TE} {t : TA} {apos pos : Pos} {pl : Sem Bool}
theorem pe_methRAt (ho : PE X o ta) (cl : Cls X.K C) (hm : Meth X.K C m f) (F : FnR X.prog X.w X.K X.mg X.base CX k f sp) (room : Room k X.A) (px : ∀ σ, PassesAt CX X σ (E σ)) (ha : PA X (e :: es) t)
    (hst : starEach (e :: es) X.env = (false, eval e X.env) :: starEach es X.env := by rfl) (hpl : (backTo pos (starEach es X.env)).any (·.1) = false := by rfl)
    (ht : eval (.Call (.Attribute o m apos) (e :: es) [] pos) X.env = (do
      let ov ← eval o X.env
      standAt apos.atName
      let (g, fst) ← holding [ov] (getMethod ov m pl)
      callWith pos g fst (backTo pos (starEach (e :: es) X.env)) (backToKw pos (keywordEach [] X.env))) := by rfl) :
    PE X (.Call (.Attribute o m apos) (e :: es) [] pos) (tMethRAt C m sp E ta t) := by
  refine ⟨fun pins s σ H Q I h => ?_⟩
  refine PySem.W.methodCall_KW (pl := pl) (thn (ho.run pins s σ H _ I h) fun u t1 ⟨x, G1, J1, rx, a, dx, fs, ex, ea, l, q⟩ => ?_) ht
  subst ex
  cases (show u = Value.ref a from rx)
  refine getmeth_ok J1 ea cl hm l ?_
  refine PySem.W.callWith_K (first := [.ref a]) (h₀ := X.base) I.ok.mod.kin hm.kp (thn (ha.run pos pins t1 σ G1 _ J1 q) fun us t2 ⟨vs, G2, J2, r, q2⟩ => ⟨J2.kIn, ?_⟩) hst hpl
  refine wpAny_call (codeAny_mono (F X.A X.stack t2 G2 (.ref a :: us) (.ref a :: vs) Q (E σ) room J2.env0 (.cons rfl r) q2) fun res t3 got => ?_)
  cases res with
  | error er => exact px σ pins G2 t2 er t3 J2 got
  | ok fl =>
    cases fl with
    | ret v => exact J2.after got
    | next => exact got.elim
    | brk => exact got.elim
    | cont => exact got.elim
end
/-! ### def f(a, .., *v) -/
section
variable {P : Program} {w : World} {K : PySem.W.Frag} {mg : Str → Option Value} {base : Heap} {x qual pv : Str} {params : Arguments} {body : List Stmt} {scope : Scope} {kws : List (Str × V)} {f : Addr} {fd : FuncData} {CX : CXT} {N ps : List Str} {k : Nat} {sp : Sp}
def spStar (n : Nat) (sp : Sp) : Sp := fun vs H Q E => ∃ ws rest, vs = ws ++ rest ∧ ws.length = n ∧ rest.length ≤ sizeLine ∧ ∀ p, H p = none → sp (ws ++ [V.ref p]) (upd H p (.tup rest)) Q E
theorem FunD.okS (F : FunD K x qual params body scope [] kws f fd) (S : FnScope N (ps ++ [pv]) scope) (hCX : StX.CXUp CX)
    (hb : ∀ (kV doc pm : Value) (an : Option Addr) (cdv ct : Value) (us rest : List Value), us.length = ps.length → bindArgs (PySem.W.fnOf x qual params body scope .none kV doc pm an cdv ct) ⟨us ++ rest, []⟩ = (newTuple rest >>= fun t => pure (ps.zip us ++ [(pv, t)])))
    (hbody : ∀ (cdv : Value) (A : Around) (outer : List Env) (s : Shared) (H : Hp) (vs : List V) (Q : VK) (E : XK), Room k (A.deeper (envOfC qual scope s.heap.objs.size f cdv)) → sp vs H Q E →
      ∃ t, PSs (cxOf CX P w K mg base N qual scope f cdv A outer s H E) body t ∧ t { nx := fun _ H' => Q .non H', rt := Q } (start N vs) H) : FnR P w K mg base CX (k + 1) f (spStar ps.length sp) := by
  obtain ⟨oc, od, dV, kV, doc, pm, an, cdv, ct, osl, rfl, lk, hcd, hD, hK⟩ := F.ex
  rcases hD with ⟨_, rfl⟩ | ⟨e, _⟩
  · exact StX.fn_star lk hcd S hCX (fun us rest hl => hb kV doc pm an cdv ct us rest hl) fun A outer s H vs Q E hr hs => hbody cdv A outer s H vs Q E hr hs
  · exact absurd rfl e
end
end Bg
set_option Elab.async false
set_option linter.all false
set_option maxRecDepth 100000
set_option maxHeartbeats 1000000
/-! a tuple, told or not -/
namespace Bg
open PySem PySem.Spec PyProof.Rows L2
theorem rd_same {H H' : Hp} (s : Same H H') {c : Addr} {u : HO} (h : Rd H c u) : Rd H' c u := by
  rcases h with h | ⟨o, h⟩
  · exact .inl (s _ _ h)
  · exact .inr ⟨o, s _ _ h⟩
theorem rd_tups {H H' : Hp} (t : Tups H H') {c : Addr} {xs : List V} (h : Rd H c (.tup xs)) : Rd H' c (.tup xs) := by
  rcases h with h | ⟨o, h⟩
  · exact .inl (t _ (.tup _) trivial h)
  · exact .inr ⟨o, t _ (.frz o (.tup _)) trivial h⟩
theorem PlT.rd {H : Hp} {a : Addr} {xs : List V} (h : PlT H a xs) : Rd H a (.tup xs) := by
  obtain ⟨its, n, e⟩ := h; exact .inr ⟨_, e⟩
theorem PlT.tups {H H' : Hp} (t : Tups H H') {a : Addr} {xs : List V} (h : PlT H a xs) : PlT H' a xs := by
  obtain ⟨its, n, e⟩ := h; exact ⟨its, n, t _ (.frz _ (.tup _)) trivial e⟩
theorem tyx_rd {K : PySem.W.Frag} {H : Hp} {a : Addr} {xs : List V} (h : Rd H a (.tup xs)) : TyX K H (.ref a) (.type "tuple") := by
  rcases h with h | ⟨o, h⟩
  · exact TyX.base (TyOf.tup h)
  · exact .fTuple h
end Bg
set_option Elab.async false
set_option linter.all false
set_option maxRecDepth 100000
set_option maxHeartbeats 2000000
/-! slots of layouts -/
namespace Bg
open PySem PySem.Spec PyProof.Rows L2
abbrev LSlot := Bool × Str
abbrev LayM := Str → List LSlot
def plus : Str := ⟨#[43]⟩
def sText (s : LSlot) : Str := if s.1 = true then plus ++ s.2 else s.2
structure LayOk (rs : List Row) (lay : LayM) : Prop where
  perm : ∀ r ∈ rs, ((lay r.2.1).map (·.2)).Perm (r.2.2.map (·.1))
def SpecAt (H : Hp) (sp : Addr) (rs : List Row) (lay : LayM) : Prop := ∃ kvs, H sp = some (.dK kvs) ∧ KD kvs (rmakers rs) fun m u => ∃ c, u = .ref c ∧ Rd H c (.tup ((lay m).map fun s => V.str (sText s)))
theorem SpecAt.same {H H' : Hp} (s : Same H H') {sp : Addr} {rs : List Row} {lay : LayM} (h : SpecAt H sp rs lay) : SpecAt H' sp rs lay := by
  obtain ⟨kvs, e, kd⟩ := h
  exact ⟨kvs, s _ _ e, KD.mono kd fun _ _ ⟨c, e1, e2⟩ => ⟨c, e1, rd_same s e2⟩⟩
end Bg
set_option Elab.async false
set_option linter.all false
set_option maxRecDepth 100000
set_option maxHeartbeats 2000000
/-! rows of trees under layouts -/
namespace Bg
open PySem PySem.Spec PyProof.Rows L2
def valAt (ps : List Part) (ds : List PyData) (x : Str) : PyData := (ds[(ps.map (·.1)).idxOf x]?).getD .none
def headP (b : Bool) (l : List Int) : List Int := if b = true then [(l.length : Int) / 256, (l.length : Int) % 256] else []
def itemP (f : PyData → List Int) (b : Bool) : PyData → List Int
  | .int i => [i]
  | d => headP b (f d) ++ f d
def packN (rs : List Row) (lay : LayM) : Nat → PyData → List Int
  | n + 1, .tuple (.str m :: ds) => match mRow rs m with
    | some r => (tagOf rs r : Int) :: (lay m).flatMap fun s => itemP (packN rs lay n) s.1 (valAt r.2.2 ds s.2)
    | none => []
  | _, _ => []
theorem flat_congr {α β : Type} {f g : α → List β} : ∀ {l : List α}, (∀ x ∈ l, f x = g x) → l.flatMap f = l.flatMap g
  | [], _ => rfl
  | a :: l, h => by rw [List.flatMap_cons, List.flatMap_cons, h a (List.mem_cons_self ..), flat_congr fun x hx => h x (List.mem_cons_of_mem a hx)]
theorem valAt_get {ps : List Part} {ds : List PyData} {x : Str} (h : x ∈ ps.map (·.1)) (l : ds.length = ps.length) : ∃ (i : Nat) (p : Part) (d : PyData), (ps.map (·.1)).idxOf x = i ∧ ps[i]? = some p ∧ p.1 = x ∧ ds[i]? = some d ∧ valAt ps ds x = d := by
  have li := List.idxOf_lt_length_of_mem h
  rw [List.length_map] at li
  refine ⟨_, _, _, rfl, List.getElem?_eq_getElem li, ?_, List.getElem?_eq_getElem (by omega), ?_⟩
  · have := List.getElem_idxOf (List.idxOf_lt_length_of_mem h)
    rw [List.getElem_map] at this; exact this
  · unfold valAt
    rw [List.getElem?_eq_getElem (show (ps.map (·.1)).idxOf x < ds.length by omega)]; rfl
theorem pack_on {f g : PyData → List Int} {F : Str → PyData → Bool} (h : ∀ k d, F k d = true → f d = g d) {ps : List Part} {ds : List PyData} (hv : allV F ps ds = true) {l : List LSlot} (hl : ∀ s ∈ l, s.2 ∈ ps.map (·.1)) : l.flatMap (fun s => itemP f s.1 (valAt ps ds s.2)) = l.flatMap (fun s => itemP g s.1 (valAt ps ds s.2)) := by
  refine flat_congr ?_
  intro s hs
  obtain ⟨i, p, d, _, hp, _, hd, e⟩ := valAt_get (hl s hs) (allV_len hv)
  rw [e]
  have z := allV_get hv hp hd
  unfold valB at z
  split at z
  · unfold byteB at z
    split at z
    · rfl
    · cases z
  · unfold itemP
    split
    · rfl
    · rw [h _ _ z]
theorem LayOk.names {rs : List Row} {lay : LayM} (h : LayOk rs lay) {r : Row} (hr : r ∈ rs) : ∀ s ∈ lay r.2.1, s.2 ∈ r.2.2.map (·.1) := fun s hs => (h.perm r hr).mem_iff.mp (List.mem_map_of_mem hs)
theorem packN_le {rs : List Row} {lay : LayM} (nd : (rmakers rs).Nodup) (ok : LayOk rs lay) : ∀ (n m : Nat) (k : Str) (d : PyData), fitB rs n k d = true → n ≤ m → packN rs lay m d = packN rs lay n d
  | 0, m, k, d, h, _ => by cases h
  | n + 1, 0, k, d, h, l => by omega
  | n + 1, m + 1, k, d, h, l => by
    obtain ⟨x, ds, r, rfl, er, z⟩ := fitB_inv h
    obtain ⟨hr, e1, e2⟩ := rowAt_of er
    subst e2
    rw [packN, packN, mRow_some nd hr]
    show _ :: _ = _ :: _
    rw [pack_on (fun k d hf => packN_le nd ok n m k d hf (by omega)) z (ok.names hr)]
def packR (rs : List Row) (lay : LayM) (d : PyData) : List Int := packN rs lay (dep d) d
theorem packN_R {rs : List Row} {lay : LayM} (nd : (rmakers rs).Nodup) (ok : LayOk rs lay) {n : Nat} {k : Str} {d : PyData} (h : fitB rs n k d = true) : packN rs lay n d = packR rs lay d := by
  have h2 := fitB_dep n k d h
  rcases Nat.le_total n (dep d) with l | l
  · exact (packN_le nd ok n (dep d) k d h l).symm
  · exact packN_le nd ok (dep d) n k d h2 l
theorem pack_node {rs : List Row} {lay : LayM} (nd : (rmakers rs).Nodup) (ok : LayOk rs lay) {r : Row} (hr : r ∈ rs) {n : Nat} {ds : List PyData} (h : allV (fitB rs n) r.2.2 ds = true) :
    packR rs lay (.tuple (.str r.2.1 :: ds)) = (tagOf rs r : Int) :: (lay r.2.1).flatMap fun s => itemP (packR rs lay) s.1 (valAt r.2.2 ds s.2) := by
  have hf : fitB rs (n + 1) r.1 (.tuple (.str r.2.1 :: ds)) = true := by rw [fitB_row nd hr]; exact h
  rw [← packN_R nd ok hf, packN, mRow_some nd hr]
  show _ :: _ = _ :: _
  rw [pack_on (fun k d hf => packN_R nd ok hf) h (ok.names hr)]
/-! ### plain layouts -/
def plainL (rs : List Row) : LayM := fun m => match mRow rs m with
  | some r => r.2.2.map fun p => (false, p.1)
  | none => []
theorem plainL_eq {rs : List Row} (nd : (rmakers rs).Nodup) {r : Row} (hr : r ∈ rs) : plainL rs r.2.1 = r.2.2.map fun p => (false, p.1) := by
  unfold plainL; rw [mRow_some nd hr]
theorem plain_ok {rs : List Row} (nd : (rmakers rs).Nodup) : LayOk rs (plainL rs) := ⟨fun r hr => by
  rw [plainL_eq nd hr, List.map_map]; exact List.Perm.refl _⟩
theorem valAt_skip {p : Part} {ps : List Part} {d : PyData} {ds : List PyData} {x : Str} (h : p.1 ≠ x) : valAt (p :: ps) (d :: ds) x = valAt ps ds x := by
  unfold valAt
  rw [List.map_cons, List.idxOf_cons, show (p.1 == x) = false by simpa using h]
  rfl
theorem valAt_all {β : Type} (g : PyData → List β) : ∀ {ps : List Part} {ds : List PyData}, (ps.map (·.1)).Nodup → ds.length = ps.length → ps.flatMap (fun p => g (valAt ps ds p.1)) = ds.flatMap g
  | [], [], _, _ => rfl
  | [], _ :: _, _, l => by simp at l
  | _ :: _, [], _, l => by simp at l
  | p :: ps, d :: ds, nd, l => by
    rw [List.map_cons, List.nodup_cons] at nd
    rw [List.flatMap_cons, List.flatMap_cons]
    congr 1
    · congr 1
      unfold valAt
      rw [List.map_cons, List.idxOf_cons_self]; rfl
    · rw [← valAt_all g nd.2 (by simpa using l)]
      refine flat_congr ?_
      intro q hq
      rw [valAt_skip fun e => nd.1 (by rw [e]; exact List.mem_map_of_mem hq)]
theorem itemP_false (f : PyData → List Int) (d : PyData) : itemP f false d = itemR f d := by
  cases d <;> rfl
theorem pack_plain {rs : List Row} (val : ValidT rs) : ∀ (n : Nat) (k : Str) (d : PyData), fitB rs n k d = true → packR rs (plainL rs) d = rowI rs d
  | 0, _, _, h => by cases h
  | n + 1, k, d, h => by
    obtain ⟨x, ds, r, rfl, er, z⟩ := fitB_inv h
    obtain ⟨hr, e1, e2⟩ := rowAt_of er
    subst e2
    rw [pack_node val.nd (plain_ok val.nd) hr z, rowI_node val.nd hr z, plainL_eq val.nd hr, List.flatMap_map]
    congr 1
    rw [← flat_on (fun k d hf => pack_plain val n k d hf) z, ← valAt_all _ (val.ndp hr) (allV_len z)]
    refine flat_congr ?_
    intro p hp
    exact itemP_false _ _
/-! ### the length -/
theorem sum_perm {α : Type} (f : α → Nat) {a b : List α} (h : a.Perm b) : (a.map f).sum = (b.map f).sum := by
  induction h with
  | nil => rfl
  | cons x _ ih => simp only [List.map_cons, List.sum_cons, ih]
  | swap x y l => simp only [List.map_cons, List.sum_cons]; omega
  | trans _ _ i1 i2 => exact i1.trans i2
theorem wt_vals : ∀ {ps : List Part} {ds : List PyData}, (ps.map (·.1)).Nodup → ds.length = ps.length → ((ps.map (·.1)).map fun x => wt (valAt ps ds x)).sum = wtAll ds
  | [], [], _, _ => rfl
  | [], _ :: _, _, l => by simp at l
  | _ :: _, [], _, l => by simp at l
  | p :: ps, d :: ds, nd, l => by
    rw [List.map_cons, List.nodup_cons] at nd
    rw [List.map_cons, List.map_cons, List.sum_cons, wtAll, ← wt_vals nd.2 (by simpa using l)]
    congr 1
    · congr 1
      unfold valAt
      rw [List.map_cons, List.idxOf_cons_self]; rfl
    · congr 1
      refine List.map_congr_left fun x hx => ?_
      rw [valAt_skip fun e => nd.1 (by rw [e]; exact hx)]
theorem flatP_len {α : Type} {f : α → List Int} {g : α → Nat} : ∀ {l : List α}, (∀ x ∈ l, (f x).length ≤ g x) → (l.flatMap f).length ≤ (l.map g).sum
  | [], _ => Nat.le_refl _
  | a :: l, h => by
    rw [List.flatMap_cons, List.length_append, List.map_cons, List.sum_cons]
    have := h a (List.mem_cons_self ..)
    have := flatP_len fun x hx => h x (List.mem_cons_of_mem a hx)
    omega
theorem wt_pos (d : PyData) : 1 ≤ wt d := by cases d <;> simp [wt] <;> omega
theorem sum_two {α : Type} (f : α → Nat) (l : List α) : (l.map fun x => 2 * f x).sum = 2 * (l.map f).sum := by
  induction l with
  | nil => rfl
  | cons a l ih => simp only [List.map_cons, List.sum_cons, ih]; omega
theorem pack_len {rs : List Row} {lay : LayM} (val : ValidT rs) (ok : LayOk rs lay) : ∀ (n : Nat) (k : Str) (d : PyData), fitB rs n k d = true → (packR rs lay d).length + 2 ≤ 2 * wt d
  | 0, _, _, h => by cases h
  | n + 1, k, d, h => by
    obtain ⟨x, ds, r, rfl, er, z⟩ := fitB_inv h
    obtain ⟨hr, e1, e2⟩ := rowAt_of er
    subst e2
    rw [pack_node val.nd ok hr z, wt_node, List.length_cons]
    have h1 : ((lay r.2.1).flatMap fun s => itemP (packR rs lay) s.1 (valAt r.2.2 ds s.2)).length ≤ ((lay r.2.1).map fun s => 2 * wt (valAt r.2.2 ds s.2)).sum := flatP_len fun s hs => by
      obtain ⟨i, p, d, _, hp, _, hd, e⟩ := valAt_get (ok.names hr s hs) (allV_len z)
      rw [e]
      have zz := allV_get z hp hd
      rcases val_cases zz with ⟨_, j, rfl, _, _⟩ | ⟨_, hf, _⟩
      · show 1 ≤ _; have := wt_pos (.int j); omega
      · have ih := pack_len val ok n _ _ hf
        have e : itemP (packR rs lay) s.1 d = headP s.1 (packR rs lay d) ++ packR rs lay d := by
          unfold itemP; split
          · rw [fitB_int] at hf; cases hf
          · rfl
        rw [e, List.length_append]
        have : (headP s.1 (packR rs lay d)).length ≤ 2 := by unfold headP; split <;> simp
        omega
    have h2 : ((lay r.2.1).map fun s => 2 * wt (valAt r.2.2 ds s.2)).sum = 2 * wtAll ds := by
      rw [sum_two (fun s : LSlot => wt (valAt r.2.2 ds s.2)), ← wt_vals (val.ndp hr) (allV_len z), ← sum_perm (fun x => wt (valAt r.2.2 ds x)) (ok.perm r hr), List.map_map] <;> rfl
    omega
/-! ### the slots as texts -/
theorem repl_plus {x : Str} (h : 43 ∉ x.cps.toList) (b : Bool) : Txt.replace (sText (b, x)) plus ⟨#[]⟩ = x := by
  have e := replace_strikes (sText (b, x)) 43
  have hx : x.cps.toList.filter (· != 43) = x.cps.toList := List.filter_eq_self.mpr fun a ha => by simpa using fun (q : a = 43) => h (q ▸ ha)
  have e2 : (sText (b, x)).cps.toList.filter (· != 43) = x.cps.toList := by
    unfold sText
    split
    · rw [Str.cps_append, Array.toList_append, List.filter_append, hx]; rfl
    · exact hx
  have := e.trans e2
  have c : (Txt.replace (sText (b, x)) plus ⟨#[]⟩).cps = x.cps := Array.toList_inj.mp this
  cases hr : Txt.replace (sText (b, x)) plus ⟨#[]⟩ with
  | mk u => rw [hr] at c; cases x; rw [show u = _ from c]
end Bg
set_option Elab.async false
set_option linter.all false
set_option maxRecDepth 100000
set_option maxHeartbeats 4000000
/-! items in a drawn order -/
namespace Bg
open PySem PySem.Spec PyProof.Rows L2
theorem seqIx {n j : Nat} (h : j < n) : seqIndex? ((j : Nat) : Int) n = some j := (ixN_seq (by unfold ixN; rw [if_pos (by omega)]; simp; omega)).1
theorem erase_perm {α : Type} : ∀ (l : List α) (k : Nat) (y : α), l[k]? = some y → (y :: l.eraseIdx k).Perm l
  | [], k, y, h => by simp at h
  | a :: l, 0, y, h => by simp at h; subst h; exact List.Perm.refl _
  | a :: l, k + 1, y, h => by
    have ih := erase_perm l k y (by simpa using h)
    rw [List.eraseIdx_cons_succ]
    exact (List.Perm.swap a y _).trans (ih.cons a)
section
variable {P : Program} {w : World} {K : PySem.W.Frag} {mg : Str → Option Value} {base : Heap} {fd : FuncData}
def spShuf (K : PySem.W.Frag) : Sp := fun vs H Q _ => ∃ (pool it : Addr) (xs : List V), vs = [.ref pool, .ref it] ∧ PoolAt H pool ∧ (SqL K H it xs ∨ SqT K H it xs) ∧ (∀ H', Same H H' → SqL K H' it xs ∨ SqT K H' it xs) ∧ xs.length ≤ 1000 ∧
  ∀ l ys H', But pool H H' → PoolAt H' pool → H l = none → H' l = some (.lst ys) → ys.Perm xs → Q (.ref l) H'
theorem ok_shuffle (T : Tx K mg) (F : FnP K ("_law_shuffle", none) "_law_shuffle" "_law_shuffle" s__law_shuffle fd) : FnOk P w K mg base CX0 2 (He.fAd K ("_law_shuffle", none)) fd p__law_shuffle (spShuf K) := by
  refine F.ok (k := 1) sc__law_shuffle (fun vs H Q E h => ?_) (fun cdv A outer s H vs Q E hr h => ?_)
  · obtain ⟨_, _, _, rfl, _⟩ := h; rfl
  obtain ⟨pool, it, xs, rfl, hP, hq, hst, lx, q⟩ := h
  obtain ⟨f1, F1⟩ := T.F__law_take
  have nd := sc__law_shuffle.nd
  refine ⟨_, PSs.nox (pss_cons (ps_set (i := 2) nd rfl (.inl rfl) (pe_callTy call_list_of (by rfl) T.n_list (by decide +kernel) (pa_cons (pv 1) pa_nil)))
    (pss_cons (ps_set (i := 3) nd rfl (.inl rfl) (pe_lst pa_nil))
    (pss_cons (ps_for PassesOwn.never rfl (pi_range1 rfl T.n_range (pa_cons (pe_callB call_len_seq (by rfl) T.n_len PySem.boot_len (pa_cons (pv 1) pa_nil)) pa_nil)) (pg_name (i := 4) nd rfl (Or.inl rfl))
      (pss_one (ps_expr (pe_bm PySem.F.plainAttrs_list PySem.F.slot_list_append PySem.F.type_list_append mt_append (pv 3) (pa_cons (pe_bm PySem.F.plainAttrs_list PySem.F.slot_list_pop PySem.F.type_list_pop mt_popAt (pv 2) (pa_cons (pe_call (ok_take T F1) (hr.mono (by omega)) (by rfl) T.g_law_take T.k_law_take (b__law_take F1) .nil pass0 (pa_cons (pv 0) (pa_cons (pe_callB call_len_seq (by rfl) T.n_len PySem.boot_len (pa_cons (pv 2) pa_nil)) pa_nil))) pa_nil)) pa_nil)))))
    (pss_one (ps_ret (pv 3)))))), ?_⟩
  refine ⟨_, rfl, it, xs, rfl, hq, fun lf hlf => ?_⟩
  have s1 := same_new (o := .lst xs) hlf
  have hP1 := hP.same s1
  refine ⟨by show 0 ≤ sizeLine; decide, fun ou hou => ?_⟩
  have s2 := same_new (o := .lst []) hou
  have s12 := s1.trans s2
  have nfo : lf ≠ ou := fun e => by rw [← e, upd_same] at hou; cases hou
  have hlf2 := s2 _ _ (upd_same (H := H) (a := lf) (o := .lst xs))
  have nfp : lf ≠ pool := fun e => by obtain ⟨_, e2, _⟩ := hP; rw [← e, hlf] at e2; cases e2
  have hou0 : H ou = none := by
    cases e : H ou with
    | none => rfl
    | some u => rw [s1 _ _ e] at hou; cases hou
  have nop : ou ≠ pool := fun e => by obtain ⟨_, e2, _⟩ := hP; rw [← e, hou0] at e2; cases e2
  refine ⟨_, rfl, it, _, rfl, hst _ s12, _, rfl, by show -(2 ^ 62) ≤ ((xs.length : Nat) : Int); omega, by show ((xs.length : Nat) : Int) < 2 ^ 62; omega, ?_⟩
  refine for_it walk_range (fun j σ G => ∃ v4 ls os, σ = [some (.ref pool), some (.ref it), some (.ref lf), some (.ref ou), v4] ∧ But pool H G ∧ PoolAt G pool ∧ G lf = some (.lst ls) ∧ G ou = some (.lst os) ∧ (os ++ ls).Perm xs ∧ ls.length + j = xs.length)
    ⟨_, xs, [], rfl, but_of s12, hP1.same s2, hlf2, upd_same, List.Perm.refl _, by omega⟩ (fun _ _ _ _ _ => trivial) ?_ ?_
  · rintro j y σ G G' hj ⟨v4, ls, os, rfl, bG, hPG, hl, ho, pm, len⟩ ⟨rfl, rfl⟩
    have lj : j < xs.length := by have z : j < ((xs.length : Nat) : Int).toNat := hj; omega
    have pos : 0 < ls.length := by omega
    have lo : os.length ≤ 1000 := by have := pm.length_eq; rw [List.length_append] at this; omega
    refine ⟨_, rfl, .inl ⟨rfl, _, SqL.of ho⟩, _, rfl, .inl ⟨rfl, _, SqL.of hl⟩, _, rfl, _, rfl, lf, _, rfl, .inl (SqL.of hl), pool, _, rfl, hPG, (by omega), fun z G2 z0 z1 b2 hP2 => ?_⟩
    obtain ⟨k, rfl⟩ := Int.eq_ofNat_of_zero_le z0
    have hk : k < ls.length := by omega
    have hl2 := b2 _ _ nfp hl
    have ho2 := b2 _ _ nop ho
    have hy := List.getElem?_eq_getElem hk
    refine ⟨lf, ls, _, k, _, rfl, rfl, hl2, by omega, by omega, seqIx hk, hy, ou, os, _, rfl, rfl, by rw [upd_ne nfo.symm]; exact ho2, small1000 lo, ?_⟩
    refine ⟨_, ls.eraseIdx k, os ++ [ls[k]], rfl, ?_, ?_, ?_, upd_same, ?_, ?_⟩
    · intro c o n e
      have n1 : c ≠ lf := ne_of_none e hlf
      have n2 : c ≠ ou := ne_of_none e hou0
      rw [upd_ne n2, upd_ne n1]; exact b2 _ _ n (bG _ _ n e)
    · exact (hP2.upd nfp.symm).upd nop.symm
    · rw [upd_ne nfo, upd_same]
    · rw [List.append_assoc]
      exact ((erase_perm ls k _ hy).append_left os).trans pm
    · rw [List.length_eraseIdx_of_lt hk]; omega
  · rintro σ G ⟨v4, ls, os, rfl, bG, hPG, hl, ho, pm, len⟩
    have l0 : ls = [] := List.eq_nil_of_length_eq_zero (by have z : ls.length + ((xs.length : Nat) : Int).toNat = xs.length := len; omega)
    rw [l0, List.append_nil] at pm
    exact ⟨_, rfl, q ou os G bG hPG hou0 ho pm⟩
end
end Bg
set_option Elab.async false
set_option linter.all false
set_option maxRecDepth 100000
set_option maxHeartbeats 4000000
/-! the parts of each row in a drawn order -/
namespace Bg
open PySem PySem.Spec PyProof.Rows L2
theorem All2.cons {α β : Type} {R : α → β → Prop} {v : α} {x : β} {vs : List α} {xs : List β} (h : R v x) (t : All2 R vs xs) : All2 R (v :: vs) (x :: xs) :=
  ⟨by rw [List.length_cons, List.length_cons, t.1], fun i a b ha hb => by
    cases i with
    | zero => cases ha; cases hb; exact h
    | succ i => exact t.2 i a b (by simpa using ha) (by simpa using hb)⟩
theorem All2.inv {α β : Type} {R : α → β → Prop} {v : α} {vs : List α} {xs : List β} (h : All2 R (v :: vs) xs) : ∃ x ys, xs = x :: ys ∧ R v x ∧ All2 R vs ys := by
  cases xs with
  | nil => exact absurd h.1 (by simp)
  | cons x ys => exact ⟨x, ys, rfl, h.2 0 v x rfl rfl, by simpa using h.1, fun i a b ha hb => h.2 (i + 1) a b (by simpa using ha) (by simpa using hb)⟩
theorem all2_perm {α β : Type} {R : α → β → Prop} {ys xs : List α} (p : ys.Perm xs) : ∀ {ps : List β}, All2 R xs ps → ∃ qs, qs.Perm ps ∧ All2 R ys qs := by
  induction p with
  | nil => exact fun h => ⟨_, List.Perm.refl _, h⟩
  | cons x _ ih =>
    intro ps h
    obtain ⟨a, l, rfl, h1, h2⟩ := h.inv
    obtain ⟨qs, q1, q2⟩ := ih h2
    exact ⟨a :: qs, q1.cons a, q2.cons h1⟩
  | swap x y l =>
    intro ps h
    obtain ⟨a, l1, rfl, h1, h2⟩ := h.inv
    obtain ⟨b, l2, rfl, h3, h4⟩ := h2.inv
    exact ⟨b :: a :: l2, List.Perm.swap a b l2, (h4.cons h1).cons h3⟩
  | trans _ _ i1 i2 =>
    intro ps h
    obtain ⟨q1, p1, a1⟩ := i2 h
    obtain ⟨q2, p2, a2⟩ := i1 a1
    exact ⟨q2, p2.trans p1, a2⟩
theorem mk_take {rs : List Row} (nd : (rmakers rs).Nodup) {i : Nat} {r : Row} (h : rs[i]? = some r) : rmakers (rs.take (i + 1)) = addNew (rmakers (rs.take i)) r.2.1 := by
  have e : rmakers (rs.take (i + 1)) = rmakers (rs.take i) ++ [r.2.1] := by rw [take_succ_of h]; unfold rmakers; rw [List.map_append]; rfl
  rw [e, addNew_of_not]
  have n2 : (rmakers (rs.take (i + 1))).Nodup := by unfold rmakers at nd ⊢; rw [List.map_take]; exact nd.sublist (List.take_sublist _ _)
  rw [e] at n2
  exact fun hm => (List.nodup_append.mp n2).2.2 _ hm _ (List.mem_singleton.mpr rfl) rfl
/-- at a maker a list of the parts of its row, in some order -/
def HidR (pool : Addr) (H : Hp) (rs : List Row) (m : Str) (u : V) : Prop := ∃ l ws qs r, r ∈ rs ∧ r.2.1 = m ∧ u = .ref l ∧ l ≠ pool ∧ H l = some (.lst ws) ∧ All2 (PartAt H) ws qs ∧ qs.Perm r.2.2
theorem HidR.but {pool : Addr} {H H' : Hp} (hP : PoolAt H pool) (b : But pool H H') {rs : List Row} {m : Str} {u : V} (h : HidR pool H rs m u) : HidR pool H' rs m u := by
  obtain ⟨l, ws, qs, r, hr, e, e2, n, hl, al, pm⟩ := h
  exact ⟨l, ws, qs, r, hr, e, e2, n, b _ _ n hl, al.mono fun _ _ z => z.mono (but_tups b hP.not), pm⟩
section
variable {P : Program} {w : World} {K : PySem.W.Frag} {mg : Str → Option Value} {base : Heap} {fd : FuncData}
def HidAt (pool : Addr) (H : Hp) (d : Addr) (rs : List Row) : Prop := ∃ kvs, H d = some (.dK kvs) ∧ KD kvs (rmakers rs) (HidR pool H rs)
def spHid : Sp := fun vs H Q _ => ∃ (pool lr : Addr) (rs : List Row), vs = [.ref pool, .ref lr] ∧ PoolAt H pool ∧ lr ≠ pool ∧ RowsAt H lr rs ∧ ValidT rs ∧ ∀ d H', But pool H H' → PoolAt H' pool → H d = none → d ≠ pool → HidAt pool H' d rs → Q (.ref d) H'
theorem ok_hidden (T : Tx K mg) (F : FnP K ("_law_hidden", none) "_law_hidden" "_law_hidden" s__law_hidden fd) : FnOk P w K mg base CX0 3 (He.fAd K ("_law_hidden", none)) fd p__law_hidden spHid := by
  refine F.ok (k := 2) sc__law_hidden (fun vs H Q E h => ?_) (fun cdv A outer s H vs Q E hr h => ?_)
  · obtain ⟨_, _, _, rfl, _⟩ := h; rfl
  obtain ⟨pool, lr, rs, rfl, hP, nlp, ⟨us, ha, al⟩, val, q⟩ := h
  have hu := hu_of hr
  obtain ⟨f1, F1⟩ := T.F__law_shuffle
  have nd := sc__law_hidden.nd
  refine ⟨_, PSs.nox (pss_cons (ps_set (i := 2) nd rfl (.inl rfl) pe_dnewK)
    (pss_cons (ps_for PassesOwn.never rfl (pi_list (pv 1)) (pg_name (i := 3) nd rfl (Or.inl rfl))
      (pss_one (ps_dput hu (pv 2) (pe_ix ix_tup (pv 3) pe_int (fun _ _ => rfl)) (pe_call (ok_shuffle T F1) (hr.mono (by omega)) (by rfl) T.g_law_shuffle T.k_law_shuffle (b__law_shuffle F1) .nil pass0 (pa_cons (pv 0) (pa_cons (pe_ix ix_tup (pv 3) pe_int (fun _ _ => rfl)) pa_nil))) rfl)))
    (pss_one (ps_ret (pv 2))))), ?_⟩
  intro d hd
  have nd' : d ≠ pool := fun e => by obtain ⟨_, e2, _⟩ := hP; rw [← e, hd] at e2; cases e2
  have s1 := same_new (o := .dK []) hd
  refine ⟨_, rfl, lr, rfl, ⟨_, .inl (.inl (s1 _ _ ha))⟩, for_it (walk_list (K := K) (a := lr) (xs := us)) (fun i σ G => (∃ v3, σ = [some (.ref pool), some (.ref lr), some (.ref d), v3]) ∧ But pool H G ∧ PoolAt G pool ∧ ∃ kvs, G d = some (.dK kvs) ∧ KD kvs (rmakers (rs.take i)) (HidR pool G rs))
    ⟨⟨_, rfl⟩, but_of s1, hP.same s1, [], upd_same, KD.nil⟩ (fun i σ G _ z => .inl (.inl (z.2.1 _ _ nlp ha))) ?_ ?_⟩
  · rintro i y σ G0 G hi ⟨⟨v3, rfl⟩, bG, hPG, kvs, hk, kd⟩ ⟨rfl, hy⟩
    obtain ⟨r, hrr, b, u, rfl, hb, pa⟩ := al.get hy
    have hmem := List.mem_of_getElem? hrr
    have l4 := val.four r hmem
    have tG := but_tups bG hP.not
    have hbG := tG _ (.tup _) trivial hb
    obtain ⟨c, cs, rfl, hc, alp⟩ := pa.mono tG
    refine ⟨_, rfl, _, rfl, b, _, _, _, rfl, rfl, SqT.of hbG, atI_nat (j := 2) rfl, pool, c, cs, rfl, hPG, .inr (SqT.of hc), (fun H' s' => .inr (SqT.of (s' _ _ hc))), by rw [alp.1]; omega, fun l ys G2 b2 hP2 nl hl pm => ?_⟩
    have t2 := but_tups b2 hPG.not
    have hk2 := b2 _ _ nd' hk
    have nlp2 : l ≠ pool := fun e => by obtain ⟨_, e2, _⟩ := hPG; rw [← e, nl] at e2; cases e2
    obtain ⟨qs, q1, q2⟩ := all2_perm pm (alp.mono fun _ _ z => z.mono t2)
    have nld : l ≠ d := fun e => by rw [e, hk] at nl; cases nl
    refine ⟨_, rfl, _, rfl, b, _, _, _, rfl, rfl, SqT.of (t2 _ (.tup _) trivial hbG), atI_nat (j := 1) rfl, d, _, rfl, DPut.k (k := Sum.inr r.2.1) hk2 ?_, ⟨_, rfl⟩, ?_, hP2.upd nd'.symm, _, upd_same, ?_⟩
    · have := KD.length kd
      have l2 : (rmakers (rs.take i)).length ≤ 1000 := by unfold rmakers; rw [List.length_map, List.length_take]; have := val.short.1; omega
      exact small1000 (by omega)
    · intro c' o n e
      rw [upd_ne (ne_of_none e hd)]; exact b2 _ _ n (bG _ _ n e)
    · rw [mk_take val.nd hrr]
      have tp : Tups G2 (upd G2 d (.dK (putK kvs (Sum.inr r.2.1) (.ref l)))) := tups_upd fun u f z => by rw [hk2] at z; cases z; exact f
      refine KD.put kd (fun m u' _ hu' => ?_) ⟨l, ys, qs, r, hmem, rfl, rfl, nlp2, by rw [upd_ne nld]; exact hl, q2.mono fun _ _ z => z.mono tp, q1⟩
      obtain ⟨l', ws', qs', r', hr', e, e2, n, hl', al', pm'⟩ := hu'.but hPG b2
      exact ⟨l', ws', qs', r', hr', e, e2, n, by rw [upd_ne (fun z => by rw [z, hk2] at hl'; cases hl')]; exact hl', al'.mono fun _ _ z => z.mono tp, pm'⟩
  · rintro σ G ⟨⟨v3, rfl⟩, bG, hPG, kvs, hk, kd⟩
    rw [al.1, List.take_length] at kd
    exact ⟨_, rfl, q d G bG hPG hd nd' ⟨kvs, hk, kd⟩⟩
end
end Bg
set_option Elab.async false
set_option linter.all false
set_option maxRecDepth 100000
set_option maxHeartbeats 2000000
/-! specs of layouts -/
namespace Bg
open PySem PySem.Spec PyProof.Rows L2
def plusT : Str := ⟨#[43]⟩
def partOf (x : Str) : Str := Txt.removeprefix x plusT
def hasLen (x : Str) : Bool := Txt.startswith x plusT
theorem take_filt {α : Type} {l : List α} {i : Nat} {x : α} (h : l[i]? = some x) (f : α → Bool) : (l.take (i + 1)).filter f = (l.take i).filter f ++ (if f x = true then [x] else []) := by
  rw [take_succ_of h, List.filter_append]
  cases e : f x <;> simp [e]
theorem plus_sub (x : Str) : Builtin.Str.subAt x plusT 0 = true ↔ x.cps.toList[0]? = some 43 := by
  rw [← StrLaws.subAt_one x 43 0]
  refine ⟨fun h => ⟨?_, h⟩, fun h => h.2⟩
  have := StrLaws.subAt_zero_le h
  show 0 + plusT.length ≤ x.length
  omega
theorem hasLen_iff (x : Str) : hasLen x = true ↔ x.cps.toList[0]? = some 43 := by
  unfold hasLen Txt.startswith
  rw [Bool.and_eq_true, plus_sub]
  refine ⟨fun h => h.2, fun h => ⟨decide_eq_true ?_, h⟩⟩
  have := StrLaws.subAt_zero_le ((plus_sub x).mpr h)
  omega
theorem partOf_plain {x : Str} (h : hasLen x = false) : partOf x = x := by
  have n : ¬ Builtin.Str.subAt x plusT 0 = true := fun z => by
    rw [(hasLen_iff x).mpr ((plus_sub x).mp z)] at h; cases h
  unfold partOf Txt.removeprefix
  rw [if_neg n]; rfl
theorem partOf_plus (y : Str) : partOf (plusT ++ y) = y ∧ hasLen (plusT ++ y) = true := by
  have e : (plusT ++ y).cps.toList = 43 :: y.cps.toList := by rw [Str.cps_append, Array.toList_append]; rfl
  have h : hasLen (plusT ++ y) = true := (hasLen_iff _).mpr (by rw [e]; rfl)
  refine ⟨?_, h⟩
  unfold partOf
  rw [StrLaws.removeprefix_eq, if_pos (by exact h)]
  have l1 : plusT.length = 1 := rfl
  have l2 : (plusT ++ y).length = y.cps.toList.length + 1 := by show (plusT ++ y).cps.size = _; rw [← Array.length_toList, e, List.length_cons]
  rw [l1, l2, e]
  refine (StrLaws.mk_of_toList ?_).symm
  simp
  rw [← Array.length_toList, List.take_length]
theorem slot_cases (x : Str) : (∃ y, x = plusT ++ y ∧ hasLen x = true ∧ partOf x = y) ∨ (hasLen x = false ∧ partOf x = x) := by
  cases h : hasLen x with
  | false => exact .inr ⟨rfl, partOf_plain h⟩
  | true =>
    left
    have e := (hasLen_iff x).mp h
    have : x = plusT ++ ⟨(x.cps.toList.drop 1).toArray⟩ := by
      cases hx : x.cps.toList with
      | nil => rw [hx] at e; cases e
      | cons a l =>
        rw [hx] at e
        have ea : a = 43 := by simpa using e
        have : x.cps.toList = (plusT ++ ⟨l.toArray⟩ : Str).cps.toList := by rw [hx, ea, Str.cps_append, Array.toList_append]; rfl
        have c := Array.toList_inj.mp this
        rw [List.drop_one, List.tail_cons]
        cases x
        exact congrArg Str.mk c
    refine ⟨_, this, rfl, ?_⟩
    have q := (partOf_plus ⟨(x.cps.toList.drop 1).toArray⟩).1
    rw [← this] at q
    exact q
theorem perm_of {α : Type} [DecidableEq α] : ∀ {l l' : List α}, l.Nodup → (∀ x ∈ l, x ∈ l') → l'.length ≤ l.length → l.Perm l'
  | [], l', _, _, hl => by
    have : l' = [] := List.eq_nil_of_length_eq_zero (by simpa using hl)
    rw [this]
  | a :: r, l', nd, h, hl => by
    obtain ⟨na, nr⟩ := List.nodup_cons.mp nd
    have ha : a ∈ l' := h a (List.mem_cons_self ..)
    have ih := perm_of (l := r) (l' := l'.erase a) nr (fun x hx => (List.mem_erase_of_ne fun e => na (by rw [← e]; exact hx)).mpr (h x (List.mem_cons_of_mem _ hx))) (by rw [List.length_erase_of_mem ha]; simp at hl; omega)
    exact (List.Perm.cons a ih).trans (List.perm_cons_erase ha).symm
def partAt (ps : List Part) (x : Str) : Part := (ps.find? fun p => decide (p.1 = x)).getD ("", "", none)
theorem partAt_of {ps : List Part} (nd : (ps.map (·.1)).Nodup) {p : Part} (hp : p ∈ ps) : partAt ps p.1 = p := by
  unfold partAt
  cases e : ps.find? fun q => decide (q.1 = p.1) with
  | none => exact absurd (decide_eq_true rfl) (List.find?_eq_none.mp e p hp)
  | some q =>
    have hq := List.mem_of_find?_eq_some e
    have z := of_decide_eq_true (List.find?_some (p := fun q : Part => decide (q.1 = p.1)) e)
    exact part_unique nd hq hp z
/-- a valid spec of a row -/
def isSpecB (r : Row) (sl : List Str) : Bool := decide (sl.length = r.2.2.length) && ((r.2.2.all fun p => decide (p.1 ∈ sl.map partOf)) && !((sl.filter hasLen).any fun s => decide ((holdOf (partAt r.2.2 (partOf s))).1 = ("byte" : Str))))
def specP (r : Row) (sl : List Str) : Int := ((sl.filter hasLen).map fun s => (holdOf (partAt r.2.2 (partOf s))).2).sum
theorem stored_perm {ps : List Part} (nd : (ps.map (·.1)).Nodup) {sl : List Str} (l : sl.length = ps.length) (h : ∀ p ∈ ps, p.1 ∈ sl.map partOf) : (ps.map (·.1)).Perm (sl.map partOf) :=
  perm_of nd (fun x hx => by obtain ⟨p, hp, rfl⟩ := List.mem_map.mp hx; exact h p hp) (by rw [List.length_map, List.length_map]; omega)
theorem stored_part {ps : List Part} (nd : (ps.map (·.1)).Nodup) {sl : List Str} (l : sl.length = ps.length) (h : ∀ p ∈ ps, p.1 ∈ sl.map partOf) {s : Str} (hs : s ∈ sl) : ∃ p ∈ ps, p.1 = partOf s ∧ partAt ps (partOf s) = p := by
  have := (stored_perm nd l h).mem_iff.mpr (List.mem_map_of_mem (f := partOf) hs)
  obtain ⟨p, hp, e⟩ := List.mem_map.mp this
  exact ⟨p, hp, e, by rw [← e]; exact partAt_of nd hp⟩
theorem isSpecB_inv {r : Row} {sl : List Str} (h : isSpecB r sl = true) : sl.length = r.2.2.length ∧ (∀ p ∈ r.2.2, p.1 ∈ sl.map partOf) ∧ ∀ s ∈ sl, hasLen s = true → (holdOf (partAt r.2.2 (partOf s))).1 ≠ ("byte" : Str) := by
  unfold isSpecB at h
  rw [Bool.and_eq_true, Bool.and_eq_true] at h
  refine ⟨of_decide_eq_true h.1, fun p hp => of_decide_eq_true (List.all_eq_true.mp h.2.1 p hp), fun s hs hl e => ?_⟩
  have : (sl.filter hasLen).any (fun s => decide ((holdOf (partAt r.2.2 (partOf s))).1 = ("byte" : Str))) = true := List.any_eq_true.mpr ⟨s, List.mem_filter.mpr ⟨hs, hl⟩, decide_eq_true e⟩
  rw [this] at h
  exact absurd h.2.2 (by decide)
end Bg
set_option Elab.async false
set_option linter.all false
set_option maxRecDepth 100000
set_option maxHeartbeats 4000000
/-! drawn specs -/
namespace Bg
open PySem PySem.Spec PyProof.Rows L2
def SpecAtP (H : Hp) (sp : Addr) (rs : List Row) (lay : LayM) : Prop := ∃ kvs, H sp = some (.dK kvs) ∧ KD kvs (rmakers rs) fun m u => ∃ c, u = .ref c ∧ PlT H c ((lay m).map fun s => V.str (sText s))
theorem SpecAtP.same {H H' : Hp} (s : Same H H') {sp : Addr} {rs : List Row} {lay : LayM} (h : SpecAtP H sp rs lay) : SpecAtP H' sp rs lay := by
  obtain ⟨kvs, e, kd⟩ := h
  exact ⟨kvs, s _ _ e, KD.mono kd fun _ _ ⟨c, e1, e2⟩ => ⟨c, e1, e2.same s⟩⟩
theorem SpecAtP.at_ {H : Hp} {sp : Addr} {rs : List Row} {lay : LayM} (h : SpecAtP H sp rs lay) : SpecAt H sp rs lay := by
  obtain ⟨kvs, e, kd⟩ := h
  exact ⟨kvs, e, KD.mono kd fun _ _ ⟨c, e1, e2⟩ => ⟨c, e1, e2.rd⟩⟩
def MeasOk (rs : List Row) (lay : LayM) : Prop := ∀ r ∈ rs, ∀ s ∈ lay r.2.1, s.1 = true → ∃ p ∈ r.2.2, p.1 = s.2 ∧ p.2.1 ≠ ("byte" : Str)
theorem partn_len {rs : List Row} (val : ValidT rs) {r : Row} (hr : r ∈ rs) {p : Part} (hp : p ∈ r.2.2) : p.1.length ≤ 24 := by
  have := part_kind (val.each.good r hr).2.2 hp
  obtain ⟨n, k, c⟩ := p
  have h : nameB n = true := by
    cases c with
    | none => rw [partB_n, Bool.and_eq_true] at this; exact this.1
    | some c => rw [partB_s, Bool.and_eq_true] at this; exact this.1
  unfold nameB at h
  simp only [Bool.and_eq_true] at h
  exact of_decide_eq_true h.2.1
theorem plus_lit2 : ("+" : Str) = plus := by decide +kernel
section
variable {P : Program} {w : World} {K : PySem.W.Frag} {mg : Str → Option Value} {base : Heap} {fd : FuncData}
def spSpecs : Sp := fun vs H Q _ => ∃ (pool lr hd : Addr) (rs : List Row), vs = [.ref pool, .ref lr, .ref hd] ∧ PoolAt H pool ∧ lr ≠ pool ∧ hd ≠ pool ∧ RowsAt H lr rs ∧ ValidT rs ∧ HidAt pool H hd rs ∧
  ∀ d H' lay, But pool H H' → PoolAt H' pool → H d = none → d ≠ pool → LayOk rs lay → MeasOk rs lay → SpecAtP H' d rs lay → Q (.ref d) H'
theorem ok_specs (T : Tx K mg) (F : FnP K ("_law_specs", none) "_law_specs" "_law_specs" s__law_specs fd) : FnOk P w K mg base CX0 3 (He.fAd K ("_law_specs", none)) fd p__law_specs spSpecs := by
  refine F.ok (k := 2) sc__law_specs (fun vs H Q E h => ?_) (fun cdv A outer s H vs Q E hr h => ?_)
  · obtain ⟨_, _, _, _, rfl, _⟩ := h; rfl
  obtain ⟨pool, lr, hd, rs, rfl, hP, nlp, nhp, ⟨us, ha, al⟩, val, hh, q⟩ := h
  have hu := hu_of hr
  obtain ⟨f1, F1⟩ := T.F__law_take
  obtain ⟨f2, F2⟩ := T.F__law_shuffle
  have nd := sc__law_specs.nd
  refine ⟨_, PSs.nox (pss_cons (ps_set (i := 3) nd rfl (.inl rfl) (pe_call (ok_take T F1) (hr.mono (by omega)) (by rfl) T.g_law_take T.k_law_take (b__law_take F1) .nil pass0 (pa_cons (pv 0) (pa_cons pe_int pa_nil))))
    (pss_cons (ps_set (i := 4) nd rfl (.inl rfl) pe_dnewK)
    (pss_cons (ps_for PassesOwn.never rfl (pi_list (pv 1)) (pg_name (i := 5) nd rfl (Or.inl rfl))
      (pss_cons (ps_set (i := 6) nd rfl (.inl rfl) (pe_dget hu (pv 2) (pe_ix ix_tup (pv 5) pe_int (fun _ _ => rfl)) (fun _ _ => rfl)))
      (pss_mid (ps_if (pt_cmpR op_eq (pv 3) pe_int (nomark _))
        (pss_one (ps_set (i := 6) nd rfl (.inl rfl) (pe_call (ok_shuffle T F2) (hr.mono (by omega)) (by rfl) T.g_law_shuffle T.k_law_shuffle (b__law_shuffle F2) .nil pass0 (pa_cons (pv 0) (pa_cons (pv 6) pa_nil)))))
        pss_nil)
      (pss_cons (ps_set (i := 7) nd rfl (.inl rfl) (pe_lst pa_nil))
      (pss_cons (ps_for PassesOwn.never rfl (pi_list (pv 6)) (pg_name (i := 8) nd rfl (Or.inl rfl))
        (pss_cons (ps_set (i := 9) nd rfl (.inl rfl) (pe_cmpR op_le (pe_ix ix_list (pe_lst (pa_cons pe_int (pa_cons pe_int (pa_cons pe_int (pa_cons pe_int pa_nil))))) (pv 3) (fun _ _ => rfl)) (pe_call (ok_take T F1) (hr.mono (by omega)) (by rfl) T.g_law_take T.k_law_take (b__law_take F1) .nil pass0 (pa_cons (pv 0) (pa_cons pe_int pa_nil))) (nomark _)))
        (pss_one (ps_if (PW.pt (pw_and (pt_val (pv 9)) (pw_and1 (pt_cmpR op_ne (pe_ix ix_tup (pv 8) pe_int (fun _ _ => rfl)) pe_str (nomark _)))))
          (pss_one (ps_expr (pe_bm PySem.F.plainAttrs_list PySem.F.slot_list_append PySem.F.type_list_append mt_append (pv 7) (pa_cons (pe_op op_add_str pe_str (pe_ix ix_tup (pv 8) pe_int (fun _ _ => rfl))) pa_nil))))
          (pss_one (ps_expr (pe_bm PySem.F.plainAttrs_list PySem.F.slot_list_append PySem.F.type_list_append mt_append (pv 7) (pa_cons (pe_ix ix_tup (pv 8) pe_int (fun _ _ => rfl)) pa_nil))))))))
      (pss_one (ps_dput hu (pv 4) (pe_ix ix_tup (pv 5) pe_int (fun _ _ => rfl)) (pe_callTy call_tupleP (by rfl) T.n_tuple (by decide +kernel) (pa_cons (pv 7) pa_nil)) rfl)))))))
    (pss_one (ps_ret (pv 4)))))), ?_⟩
  refine ⟨_, rfl, pool, 4, rfl, hP, by decide, fun z H1 z0 z1 b1 hP1 => ?_⟩
  intro d hd1
  have nd' : d ≠ pool := fun e => by obtain ⟨_, e2, _⟩ := hP1; rw [← e, hd1] at e2; cases e2
  have s1 := same_new (o := .dK []) hd1
  have hd0 : H d = none := by
    cases e : H d with
    | none => rfl
    | some u => rw [b1 _ _ nd' e] at hd1; cases hd1
  have b01 : But pool H (upd H1 d (.dK [])) := b1.trans (but_of s1)
  refine ⟨_, rfl, lr, rfl, ⟨_, .inl (.inl (b01 _ _ nlp ha))⟩, for_it (walk_list (K := K) (a := lr) (xs := us)) (fun i σ G => (∃ v5 v6 v7 v8 v9, σ = [some (.ref pool), some (.ref lr), some (.ref hd), some (.int z), some (.ref d), v5, v6, v7, v8, v9]) ∧ But pool H G ∧ PoolAt G pool ∧
      ∃ (kvs : List (Key × V)) (lay : LayM), G d = some (.dK kvs) ∧ KD kvs (rmakers (rs.take i)) (fun m u => ∃ c, u = .ref c ∧ PlT G c ((lay m).map fun s => V.str (sText s))) ∧ (∀ r ∈ rs.take i, ((lay r.2.1).map (·.2)).Perm (r.2.2.map (·.1))) ∧ MeasOk (rs.take i) lay)
    ⟨⟨_, _, _, _, _, rfl⟩, b01, hP1.same s1, [], fun _ => [], upd_same, KD.nil, fun r hr => absurd hr (by simp), fun r hr => absurd hr (by simp)⟩ (fun i σ G _ z => .inl (.inl (z.2.1 _ _ nlp ha))) ?_ ?_⟩
  · rintro i y σ G0 G hi ⟨⟨v5, v6, v7, v8, v9, rfl⟩, bG, hPG, kvs, lay, hk, kd, lo, mo⟩ ⟨rfl, hy⟩
    obtain ⟨r, hrr, b, u, rfl, hb, pa⟩ := al.get hy
    have hmem := List.mem_of_getElem? hrr
    have l4 := val.four r hmem
    have hbG := but_tups bG hP.not _ (.tup _) trivial hb
    obtain ⟨hkvs, hhd, hkd⟩ := hh
    obtain ⟨hv, ehv, hr1⟩ := KD.some hkd (show r.2.1 ∈ rmakers rs from List.mem_map_of_mem hmem)
    obtain ⟨l, ws, qs, r', hr', er', rfl, nl, hl, alq, pmq⟩ := hr1.but hP bG
    cases row_unique val.nd hr' hmem er'
    have hhdG := bG _ _ nhp hhd
    refine ⟨_, rfl, _, rfl, b, _, _, _, rfl, rfl, SqT.of hbG, atI_nat (j := 1) rfl, hd, _, rfl, (by rw [← ehv]; exact DGet.k (k := Sum.inr r.2.1) hhdG), ?_⟩
    have lq : qs.length ≤ 4 := by rw [pmq.length_eq]; exact l4
    refine ⟨fun σ G2 => ∃ l2 ws2 qs2, σ = [some (.ref pool), some (.ref lr), some (.ref hd), some (.int z), some (.ref d), some (.ref b), some (.ref l2), v7, v8, v9] ∧ But pool G G2 ∧ PoolAt G2 pool ∧ l2 ≠ pool ∧ G2 l2 = some (.lst ws2) ∧ All2 (PartAt G2) ws2 qs2 ∧ qs2.Perm r.2.2, ?_, ?_⟩
    · refine ⟨_, rfl, rfl, _, rfl, ite2 (fun h => ?_) (fun h => ⟨l, ws, qs, rfl, But.refl _ _, hPG, nl, hl, alq, pmq⟩)⟩
      refine ⟨_, rfl, _, rfl, pool, l, ws, rfl, hPG, .inl (SqL.of hl), (fun H' s' => .inl (SqL.of (s' _ _ hl))), by rw [alq.1]; omega, fun l2 ys G2 b2 hP2 nl2 hl2 pm => ?_⟩
      obtain ⟨qs2, q1, q2⟩ := all2_perm pm (alq.mono fun _ _ z => z.mono (but_tups b2 hPG.not))
      exact ⟨l2, ys, qs2, rfl, b2, hP2, (fun e => by obtain ⟨_, e2, _⟩ := hPG; rw [← e, nl2] at e2; cases e2), hl2, q2, q1.trans pmq⟩
    clear hl alq pmq lq
    rintro σ G2 ⟨l2, ws2, qs2, rfl, b2, hP2, nl2, hl2, al2, pm2⟩
    have lq : qs2.length ≤ 4 := by rw [pm2.length_eq]; exact l4
    have t2 := but_tups b2 hPG.not
    refine ⟨by show 0 ≤ sizeLine; decide, fun ou hou => ?_⟩
    have s3 := same_new (o := .lst []) hou
    have nop : ou ≠ pool := fun e => by obtain ⟨_, e2, _⟩ := hP2; rw [← e, hou] at e2; cases e2
    refine ⟨_, rfl, l2, rfl, ⟨_, .inl (.inl (s3 _ _ hl2))⟩, for_it (walk_list (K := K) (a := l2) (xs := ws2)) (fun j σ G3 => ∃ (v8 v9 : Option V) (sl : List LSlot), σ = [some (.ref pool), some (.ref lr), some (.ref hd), some (.int z), some (.ref d), some (.ref b), some (.ref l2), some (.ref ou), v8, v9] ∧ But pool G2 G3 ∧ PoolAt G3 pool ∧ G3 ou = some (.lst (sl.map fun s => V.str (sText s))) ∧ sl.map (·.2) = (qs2.take j).map (·.1) ∧ ∀ s ∈ sl, s.1 = true → ∃ p ∈ r.2.2, p.1 = s.2 ∧ p.2.1 ≠ ("byte" : Str))
      ⟨_, _, [], rfl, but_of s3, hP2.same s3, upd_same, rfl, fun s hs => absurd hs List.not_mem_nil⟩ (fun j σ G3 _ z => .inl (.inl (by obtain ⟨_, _, _, _, bb, _⟩ := z; exact bb _ _ nl2 hl2))) ?_ ?_⟩
    · rintro j y σ G4 G3 hj ⟨v8, v9, sl, rfl, b3, hP3, hou3, hsl, hms⟩ ⟨rfl, hy⟩
      obtain ⟨p, hp, pat⟩ := al2.get hy
      have hpm : p ∈ r.2.2 := pm2.mem_iff.mp (List.mem_of_getElem? hp)
      have lj : j < qs2.length := (List.getElem?_eq_some_iff.mp hp).1
      have lsl : sl.length ≤ j := by have := congrArg List.length hsl; rw [List.length_map, List.length_map, List.length_take] at this; omega
      have lpn := partn_len val hmem hpm
      have etk : (qs2.take (j + 1)).map (·.1) = (qs2.take j).map (·.1) ++ [p.1] := by rw [take_succ_of hp, List.map_append]; rfl
      obtain ⟨wv, hwv⟩ : ∃ w : Int, atI [V.int 2, V.int 0, V.int 3, V.int 2] z = some (.int w) := by
        have : z = 0 ∨ z = 1 ∨ z = 2 ∨ z = 3 := by omega
        rcases this with e | e | e | e <;> rw [e]
        · exact ⟨2, rfl⟩
        · exact ⟨0, rfl⟩
        · exact ⟨3, rfl⟩
        · exact ⟨2, rfl⟩
      refine ⟨by show 4 ≤ sizeLine; decide, fun l0 hl0 => ?_⟩
      have s5 := same_new (o := .lst [V.int 2, V.int 0, V.int 3, V.int 2]) hl0
      refine ⟨_, rfl, l0, _, _, .int wv, rfl, rfl, SqL.of upd_same, hwv, _, rfl, pool, 4, rfl, hP3.same s5, by decide, fun t G6 t0 t1 b6 hP6 => ⟨_, _, rfl, rfl, ?_⟩⟩
      have b36 : But pool G3 G6 := (but_of s5).trans b6
      have b26 := b3.trans b36
      obtain ⟨e, xs, rfl, he, x0, x1⟩ := partAt_ix (pat.mono (but_tups b26 hP2.not))
      have hou6 := b36 _ _ nop hou3
      have push : ∀ s : LSlot, s.2 = p.1 → (s.1 = true → p.2.1 ≠ ("byte" : Str)) → ∃ (v8 v9 : Option V) (sl' : List LSlot), [some (V.ref pool), some (.ref lr), some (.ref hd), some (.int z), some (.ref d), some (.ref b), some (.ref l2), some (.ref ou), some (.ref e), some (V.bl (decide (wv ≤ t)))] = [some (.ref pool), some (.ref lr), some (.ref hd), some (.int z), some (.ref d), some (.ref b), some (.ref l2), some (.ref ou), v8, v9] ∧
          But pool G2 (upd G6 ou (.lst (sl.map (fun s => V.str (sText s)) ++ [.str (sText s)]))) ∧ PoolAt (upd G6 ou (.lst (sl.map (fun s => V.str (sText s)) ++ [.str (sText s)]))) pool ∧ (upd G6 ou (.lst (sl.map (fun s => V.str (sText s)) ++ [.str (sText s)]))) ou = some (.lst (sl'.map fun s => V.str (sText s))) ∧ sl'.map (·.2) = (qs2.take (j + 1)).map (·.1) ∧ ∀ s ∈ sl', s.1 = true → ∃ p ∈ r.2.2, p.1 = s.2 ∧ p.2.1 ≠ ("byte" : Str) := fun s h1 h2 => by
        refine ⟨_, _, sl ++ [s], rfl, ?_, hP6.upd nop.symm, by rw [upd_same, List.map_append] <;> rfl, by rw [List.map_append, hsl, etk, ← h1] <;> rfl, fun s' hs' hb' => ?_⟩
        · intro c' o n e2
          rw [upd_ne (ne_of_none e2 hou)]; exact b26 _ _ n e2
        · rcases List.mem_append.mp hs' with w | w
          · exact hms s' w hb'
          · rw [List.mem_singleton.mp w] at hb' ⊢
            exact ⟨p, hpm, h1.symm, h2 hb'⟩
      refine ⟨_, rfl, _, rfl, ite2 (fun h => ?_) (fun h => ?_)⟩
      · refine ⟨_, rfl, e, _, _, _, rfl, rfl, SqT.of he, atI_nat (j := 1) x1, rfl, _, rfl, ite2 (fun h2 => ?_) (fun h2 => ?_)⟩
        · have nb : p.2.1 ≠ ("byte" : Str) := by simpa using h2
          refine ⟨_, rfl, .inl ⟨rfl, _, SqL.of hou6⟩, _, rfl, e, _, _, _, rfl, rfl, SqT.of he, atI_nat (j := 0) x0, _, _, rfl, rfl, ?_, ou, _, _, rfl, rfl, hou6, small1000 (by rw [List.length_map]; omega), ?_⟩
          · have h1 : (Str.ofString "+").length = 1 := by decide +kernel
            first
            | (rw [Str.length_append, h1]; exact Nat.le_trans (by omega : 1 + p.1.length ≤ 25) (by decide))
            | (rw [h1]; exact Nat.le_trans (by omega : 1 + p.1.length ≤ 25) (by decide))
          have := push (true, p.1) rfl (fun _ => nb)
          rw [show sText (true, p.1) = Str.ofString "+" ++ p.1 by rw [show Str.ofString "+" = plus from plus_lit2]; rfl] at this
          exact this
        · refine ⟨_, rfl, .inl ⟨rfl, _, SqL.of hou6⟩, _, rfl, e, _, _, _, rfl, rfl, SqT.of he, atI_nat (j := 0) x0, ou, _, _, rfl, rfl, hou6, small1000 (by rw [List.length_map]; omega), ?_⟩
          exact push (false, p.1) rfl (fun h => nomatch h)
      · refine ⟨_, rfl, .inl ⟨rfl, _, SqL.of hou6⟩, _, rfl, e, _, _, _, rfl, rfl, SqT.of he, atI_nat (j := 0) x0, ou, _, _, rfl, rfl, hou6, small1000 (by rw [List.length_map]; omega), ?_⟩
        exact push (false, p.1) rfl (fun h => nomatch h)
    · rintro σ G3 ⟨v8, v9, sl, rfl, b3, hP3, hou3, hsl, hms⟩
      rw [al2.1, List.take_length] at hsl
      refine ⟨_, rfl, ou, _, rfl, SqL.of hou3, fun tp G4 htp s4 htp4 _ => ?_⟩
      have b24 : But pool G2 G4 := b3.trans (but_of s4)
      have b04 : But pool G G4 := b2.trans b24
      have hk4 := b04 _ _ nd' hk
      have t04 := but_tups b04 hPG.not
      refine ⟨_, rfl, _, rfl, b, _, _, _, rfl, rfl, SqT.of (t04 _ (.tup _) trivial hbG), atI_nat (j := 1) rfl, d, _, rfl, DPut.k (k := Sum.inr r.2.1) hk4 ?_, ⟨_, _, _, _, _, rfl⟩, ?_, (hP3.same s4).upd nd'.symm, _, (fun m => if m = r.2.1 then sl else lay m), upd_same, ?_, ?_, ?_⟩
      · have := KD.length kd
        have l2 : (rmakers (rs.take i)).length ≤ 1000 := by unfold rmakers; rw [List.length_map, List.length_take]; have := val.short.1; omega
        exact small1000 (by omega)
      · intro c' o n e
        rw [upd_ne (ne_of_none e hd0)]; exact b04 _ _ n (bG _ _ n e)
      · rw [mk_take val.nd hrr]
        have tp4 : Tups G4 (upd G4 d (.dK (putK kvs (Sum.inr r.2.1) (.ref tp)))) := tups_upd fun u f z => by rw [hk4] at z; cases z; exact f
        refine KD.put kd (fun m u' ne hu' => ?_) ⟨tp, rfl, ?_⟩
        · obtain ⟨c, e1, e2⟩ := hu'
          refine ⟨c, e1, ?_⟩
          show PlT _ _ ((if m = r.2.1 then sl else lay m).map _)
          rw [if_neg ne]; exact (e2.tups t04).tups tp4
        · show PlT _ _ ((if r.2.1 = r.2.1 then sl else lay r.2.1).map _)
          rw [if_pos rfl]; exact htp4.tups tp4
      · intro r2 hr2
        show ((if r2.2.1 = r.2.1 then sl else lay r2.2.1).map (·.2)).Perm _
        have hin : r2 ∈ rs := List.mem_of_mem_take hr2
        by_cases c : r2.2.1 = r.2.1
        · rw [if_pos c, row_unique val.nd hin hmem c, hsl]; exact pm2.map _
        · rw [if_neg c]
          rw [take_succ_of hrr] at hr2
          rcases List.mem_append.mp hr2 with w | w
          · exact lo r2 w
          · exact absurd (by rw [List.mem_singleton.mp w]) c
      · intro r2 hr2 s hs hb
        have hs : s ∈ (if r2.2.1 = r.2.1 then sl else lay r2.2.1) := hs
        have hin : r2 ∈ rs := List.mem_of_mem_take hr2
        by_cases c : r2.2.1 = r.2.1
        · rw [if_pos c] at hs
          rw [row_unique val.nd hin hmem c]; exact hms s hs hb
        · rw [if_neg c] at hs
          rw [take_succ_of hrr] at hr2
          rcases List.mem_append.mp hr2 with w | w
          · exact mo r2 w s hs hb
          · exact absurd (by rw [List.mem_singleton.mp w]) c
  · rintro σ G ⟨⟨v5, v6, v7, v8, v9, rfl⟩, bG, hPG, kvs, lay, hk, kd, lo, mo⟩
    rw [al.1, List.take_length] at kd lo mo
    exact ⟨_, rfl, q d G lay bG hPG hd0 nd' ⟨lo⟩ mo ⟨kvs, hk, kd⟩⟩
end
end Bg
set_option Elab.async false
set_option linter.all false
set_option maxRecDepth 100000
set_option maxHeartbeats 4000000
/-! layouts.py: slots, specs, prices -/
namespace Bg
open PySem PySem.Spec PyProof.Rows L2
section
variable {P : Program} {w : World} {K : PySem.W.Frag} {mg : Str → Option Value} {base : Heap} {fd : FuncData}
theorem plus_lit : ("+" : Str) = plusT := by decide +kernel
def spPartOf : Sp := fun vs H Q _ => ∃ x : Str, vs = [.str x] ∧ x.length ≤ 100000 ∧ Q (.str (partOf x)) H
theorem ok_part_of (T : Tx K mg) (F : FnP K ("part_of", none) "part_of" "part_of" s_part_of fd) : FnOk P w K mg base CX0 1 (He.fAd K ("part_of", none)) fd p_part_of spPartOf := by
  refine F.ok sc_part_of (fun vs H Q E h => ?_) (fun cdv A outer s H vs Q E hr h => ?_)
  · obtain ⟨_, rfl, _⟩ := h; rfl
  obtain ⟨x, rfl, hx, q⟩ := h
  obtain ⟨t_PLUS, m_PLUS⟩ := T.c_PLUS
  have nd := sc_part_of.nd
  refine ⟨_, PSs.nox (pss_one (ps_ret (pe_m1 PySem.F.slot_str_removeprefix PySem.F.type_str_removeprefix mt_removeprefix (pv 0) (pe_glob (v := .str "+") (by rfl) m_PLUS ⟨_, rfl⟩)))), ?_⟩
  refine ⟨_, rfl, ⟨x, rfl⟩, x, ("+" : Str), rfl, rfl, Nat.le_trans hx (by decide), ?_⟩
  rw [plus_lit]; exact q
def spHasLen : Sp := fun vs H Q _ => ∃ x : Str, vs = [.str x] ∧ Q (.bl (hasLen x)) H
theorem ok_has_length (T : Tx K mg) (F : FnP K ("has_length", none) "has_length" "has_length" s_has_length fd) : FnOk P w K mg base CX0 1 (He.fAd K ("has_length", none)) fd p_has_length spHasLen := by
  refine F.ok sc_has_length (fun vs H Q E h => ?_) (fun cdv A outer s H vs Q E hr h => ?_)
  · obtain ⟨_, rfl, _⟩ := h; rfl
  obtain ⟨x, rfl, q⟩ := h
  obtain ⟨t_PLUS, m_PLUS⟩ := T.c_PLUS
  have nd := sc_has_length.nd
  refine ⟨_, PSs.nox (pss_one (ps_ret (pe_m1 PySem.F.slot_str_startswith PySem.F.type_str_startswith mt_startswith (pv 0) (pe_glob (v := .str "+") (by rfl) m_PLUS ⟨_, rfl⟩)))), ?_⟩
  refine ⟨_, rfl, ⟨x, rfl⟩, x, ("+" : Str), rfl, rfl, ?_⟩
  rw [plus_lit]; exact q
def spPriceF (K : PySem.W.Frag) : Sp := fun vs H Q _ => ∃ (x : Addr) (rs : List Row) (r : Row) (p : Part), vs = [.ref x, .str r.2.1, .str p.1] ∧ KindsF K H x rs ∧ ValidT rs ∧ r ∈ rs ∧ p ∈ r.2.2 ∧ Q (.int (holdOf p).2) H
theorem okf_price (T : Tx K mg) (F : FnP K ("Kinds", some "price_of") "price_of" "Kinds.price_of" s_Kinds_price_of fd) : FnOk P w K mg base CX0 2 (He.fAd K ("Kinds", some "price_of")) fd ["self", "maker", "part"] (spPriceF K) := by
  obtain ⟨f1, F1⟩ := T.F_Kinds_holding
  refine F.ok sc_Kinds_price_of (fun vs H Q E h => ?_) (fun cdv A outer s H vs Q E hr h => ?_)
  · obtain ⟨x, _, _, _, rfl, _⟩ := h; rfl
  obtain ⟨x, rs, r, p, rfl, hK, val, hr', hp, q⟩ := h
  obtain ⟨dx, dm, dk, dp, dl, tn, to, h0, _⟩ := id hK
  refine ⟨_, PSs.nox (pss_one (ps_ret (pe_ix ix_tup (pe_meth (pv 0) T.cl_Kinds T.m_Kinds_holding (okf_holding T F1) hr (b_Kinds_holding F1) .nil pass0 (pa_cons (pv 1) (pa_cons (pv 2) pa_nil))) pe_int (fun _ _ => rfl)))), ?_⟩
  refine ⟨_, rfl, x, dx, _, rfl, h0, kF_none (by decide +kernel), _, rfl, _, rfl, x, rs, r, p, rfl, hK, val, hr', hp, fun v hv => ?_⟩
  obtain ⟨t, rfl, ht⟩ := hv
  exact ⟨t, _, _, _, rfl, rfl, SqT.of ht, atI_nat (j := 1) rfl, q⟩
def spIsSpec (K : PySem.W.Frag) : Sp := fun vs H Q _ => ∃ (x c : Addr) (rs : List Row) (r : Row) (sl : List Str), vs = [.ref x, .str r.2.1, .ref c] ∧ KindsF K H x rs ∧ ValidT rs ∧ r ∈ rs ∧ Rd H c (.tup (sl.map V.str)) ∧ sl.length ≤ 1000 ∧ (∀ s ∈ sl, s.length ≤ 100000) ∧ ∀ H', Same H H' → Q (.bl (isSpecB r sl)) H'
theorem ok_is_spec (T : Tx K mg) (F : FnP K ("is_spec", none) "is_spec" "is_spec" s_is_spec fd) : FnOk P w K mg base CX0 3 (He.fAd K ("is_spec", none)) fd p_is_spec (spIsSpec K) := by
  refine F.ok (k := 2) sc_is_spec (fun vs H Q E h => ?_) (fun cdv A outer s H vs Q E hr h => ?_)
  · obtain ⟨_, _, _, _, _, rfl, _⟩ := h; rfl
  obtain ⟨x, c, rs, r, sl, rfl, hK, val, hr', hc, l1, l2, q⟩ := h
  obtain ⟨dx, dm, dk, dp, dl, tn, to, h0, hin⟩ := id hK
  obtain ⟨f1, F1⟩ := T.F_Kinds_parts
  obtain ⟨f2, F2⟩ := T.F_part_of
  obtain ⟨f3, F3⟩ := T.F_has_length
  obtain ⟨f4, F4⟩ := T.F_Kinds_inner
  obtain ⟨t_BYTE, m_BYTE⟩ := T.c_BYTE
  have nd := sc_is_spec.nd
  refine ⟨_, PSs.nox (pss_cons (ps_set (i := 3) nd rfl (.inl rfl) (pe_meth (pv 0) T.cl_Kinds T.m_Kinds_parts (okf_parts T F1) (hr.mono (by omega)) (b_Kinds_parts F1) .nil pass0 (pa_cons (pv 1) pa_nil)))
    (pss_cons (ps_setLc (i := 4) (own := [("slot", 6)]) (g := gName 6) (by rfl) nd rfl rfl (sw_true rfl rfl rfl (by decide +kernel)) (pi_tup (pv 2)) (blkOk_by (N := ["kinds", "maker", "spec", "parts", "stored", "part", "slot"]) (sc := defScope s_is_spec) (by decide +kernel)) (fun _ _ _ _ _ => (pg_name (i := 6) nd rfl (Or.inl rfl))) (fun _ _ _ _ _ => pts_nil) (fun _ _ _ _ _ => (pe_call (sp := spPartOf) (E := E0) (ok_part_of T F2) (hr.mono (by omega)) (by rfl) T.g_part_of T.k_part_of (b_part_of F2) .nil pass0 (pa_cons (pv 6) pa_nil))))
    (pss_cons (ps_if (pt_cmpR op_ne (pe_callB call_len_seq (by rfl) T.n_len PySem.boot_len (pa_cons (pv 4) pa_nil)) (pe_callB call_len_seq (by rfl) T.n_len PySem.boot_len (pa_cons (pv 3) pa_nil)) (nomark _))
      (pss_one (ps_ret pe_bl))
      pss_nil)
    (pss_cons (ps_for PassesOwn.never rfl (pi_tup (pv 3)) (pg_name (i := 5) nd rfl (Or.inl rfl))
      (pss_one (ps_if (pt_cmpR op_notIn_seq (pv 5) (pv 4) (by rfl))
        (pss_one (ps_ret pe_bl))
        pss_nil)))
    (pss_one (ps_ret (pe_cmpR op_notIn_seq (pe_glob (v := .str "byte") (by rfl) m_BYTE ⟨_, rfl⟩) (pe_lc (own := [("slot", 6)]) (g := gName 6) rfl nd (pi_tup (pv 2)) (blkOk_by (N := ["kinds", "maker", "spec", "parts", "stored", "part", "slot"]) (sc := defScope s_is_spec) (by decide +kernel)) (fun _ _ _ _ _ => (pg_name (i := 6) nd rfl (Or.inl rfl))) (fun _ _ _ _ _ => pts_one (pt_val (pe_call (sp := spHasLen) (E := E0) (ok_has_length T F3) (hr.mono (by omega)) (by rfl) T.g_has_length T.k_has_length (b_has_length F3) .nil pass0 (pa_cons (pv 6) pa_nil)))) (fun _ _ _ _ _ => (pe_meth (sp := (spInnerF K)) (E := E0) (pv 0) T.cl_Kinds T.m_Kinds_inner (okf_inner T F4) (hr.mono (by omega)) (b_Kinds_inner F4) .nil pass0 (pa_cons (pv 1) (pa_cons (pe_call (sp := spPartOf) (E := E0) (ok_part_of T F2) (hr.mono (by omega)) (by rfl) T.g_part_of T.k_part_of (b_part_of F2) .nil pass0 (pa_cons (pv 6) pa_nil)) pa_nil))))) (by rfl)))))))), ?_⟩
  refine ⟨_, rfl, x, dx, _, rfl, h0, kF_none (by decide +kernel), _, rfl, x, rs, r, rfl, hK, val, hr', fun v H1 s1 hv => ?_⟩
  obtain ⟨t, o, rfl, ho, ht⟩ := hv
  have hc1 := rd_same s1 hc
  refine ⟨_, rfl, c, rfl, ⟨_, Or.inl hc1⟩, fun D hD => lc_it (walk_tup (K := K) (a := c) (xs := sl.map V.str)) (fun i H2 => Same H1 H2 ∧ H2 D = some (.lst (((sl.take i).map partOf).map V.str))) ⟨same_new hD, upd_same⟩ (fun i H2 _ z => Or.inl (rd_same z.1 hc1)) ?_ ?_⟩
  · rintro i y H2 H3 hi ⟨s2, hacc⟩ ⟨rfl, hy⟩
    rw [List.getElem?_map, Option.map_eq_some_iff] at hy
    obtain ⟨s, hs, rfl⟩ := hy
    have hsm := List.mem_of_getElem? hs
    have li := (List.getElem?_eq_some_iff.mp hs).1
    refine ⟨rfl, _, rfl, s, rfl, l2 s hsm, _, hacc, small1000 (by rw [List.length_map, List.length_map, List.length_take]; omega), same_mut s2 hD, ?_⟩
    rw [upd_same, take_succ_of hs, List.map_append, List.map_append] <;> rfl
  rintro H2 ⟨s2, hst⟩
  rw [List.length_map, List.take_length] at hst
  have ht2 := s2 _ _ ht
  refine ⟨_, rfl, D, _, rfl, .inl (SqL.of hst), _, rfl, t, _, rfl, .inr (sqT_frz ht2), rfl, _, rfl, ?_⟩
  have s12 := s1.trans s2
  by_cases hl : sl.length = r.2.2.length
  rotate_left
  · refine ite2 (fun h => ?_) (fun h => ?_)
    · have e : isSpecB r sl = false := by unfold isSpecB; rw [decide_eq_false hl]; rfl
      rw [e] at q
      exact q _ s12
    · exfalso
      refine hl ?_
      have := V.int.inj (of_decide_eq_true (by simpa using h))
      have t2 : ((sl.length : Nat) : Int) = ((r.2.2.length : Nat) : Int) := by simpa using this
      omega
  refine ite2 (fun h => ?_) (fun h => ?_)
  · exfalso
    simp only [List.length_map, hl] at h
    simp at h
  refine ⟨_, rfl, t, rfl, ⟨_, sqT_frz ht2⟩, for_it (walk_tup (K := K) (a := t) (xs := (r.2.2.map (·.1)).map V.str)) (fun i σ H3 => (∃ v5, σ = [some (.ref x), some (.str r.2.1), some (.ref c), some (.ref t), some (.ref D), v5, none]) ∧ Same H2 H3 ∧ ∀ j p, j < i → r.2.2[j]? = some p → p.1 ∈ sl.map partOf)
    ⟨⟨_, rfl⟩, Same.refl _, fun j p hj => absurd hj (Nat.not_lt_zero _)⟩ (fun i σ H3 _ z => sqT_frz (z.2.1 _ _ ht2)) ?_ ?_⟩
  · rintro i y σ H4 H3 hi ⟨⟨v5, rfl⟩, s3, hall⟩ ⟨rfl, hy⟩
    rw [List.getElem?_map, Option.map_eq_some_iff] at hy
    obtain ⟨s, hs, rfl⟩ := hy
    rw [List.getElem?_map, Option.map_eq_some_iff] at hs
    obtain ⟨p, hp, rfl⟩ := hs
    refine ⟨_, rfl, _, rfl, D, _, rfl, .inl (SqL.of (s3 _ _ hst)), rfl, flat_str _, _, rfl, ?_⟩
    rw [if_pos rfl, inV_strs]
    cases hd : decide (p.1 ∈ sl.map partOf) with
    | true => exact iteF ⟨⟨_, rfl⟩, s3, fun j p' hj hp' => by
        rcases Nat.lt_succ_iff_lt_or_eq.mp hj with z | z
        · exact hall j p' z hp'
        · subst z; rw [hp] at hp'; cases hp'; exact of_decide_eq_true hd⟩
    | false =>
      have e : isSpecB r sl = false := by
        unfold isSpecB
        have : (r.2.2.all fun p => decide (p.1 ∈ sl.map partOf)) = false := List.all_eq_false.mpr ⟨p, List.mem_of_getElem? hp, by rw [hd]; exact Bool.false_ne_true⟩
        rw [this]; simp
      rw [e] at q
      exact iteT (q _ (s12.trans s3))
  rintro σ H3 ⟨⟨v5, rfl⟩, s3, hall⟩
  have hall' : ∀ p ∈ r.2.2, p.1 ∈ sl.map partOf := fun p hp => by
    obtain ⟨j, hj⟩ := List.getElem?_of_mem hp
    have := (List.getElem?_eq_some_iff.mp hj).1
    exact hall j p (by rw [List.length_map, List.length_map]; exact this) hj
  have s13 := s12.trans s3
  have hc3 := rd_same s13 hc
  let inn : Str → Str := fun s => (holdOf (partAt r.2.2 (partOf s))).1
  refine ⟨_, rfl, c, rfl, ⟨_, Or.inl hc3⟩, fun D2 hD2 => lc_it (walk_tup (K := K) (a := c) (xs := sl.map V.str)) (fun i H4 => Same H3 H4 ∧ H4 D2 = some (.lst ((((sl.take i).filter hasLen).map inn).map V.str))) ⟨same_new hD2, upd_same⟩ (fun i H4 _ z => Or.inl (rd_same z.1 hc3)) ?_ ?_⟩
  · rintro i y H5 H4 hi ⟨s4, hacc⟩ ⟨rfl, hy⟩
    rw [List.getElem?_map, Option.map_eq_some_iff] at hy
    obtain ⟨s, hs, rfl⟩ := hy
    have hsm := List.mem_of_getElem? hs
    have li := (List.getElem?_eq_some_iff.mp hs).1
    have ls := Nat.le_trans (List.length_filter_le hasLen (sl.take i)) (by rw [List.length_take]; exact Nat.min_le_left _ _)
    refine ⟨rfl, _, rfl, s, rfl, _, rfl, ?_⟩
    cases hh : hasLen s with
    | false =>
      refine iteF ⟨s4, ?_⟩
      rw [take_filt hs, hh, hacc]; simp
    | true =>
      obtain ⟨p, hp, ep, epa⟩ := stored_part (val.ndp hr') hl hall' hsm
      have s14 := s13.trans s4
      obtain ⟨dx4, dm4, dk4, dp4, dl4, tn4, to4, h04, _⟩ := id (hK.same s14)
      refine iteT ⟨_, rfl, x, dx4, _, rfl, h04, kF_none (by decide +kernel), _, rfl, _, rfl, s, rfl, l2 s hsm, x, rs, r, p, by rw [← ep]; rfl, hK.same s14, val, hr', hp, _, hacc, small1000 (by rw [List.length_map, List.length_map]; omega), same_mut s4 hD2, ?_⟩
      rw [upd_same, take_filt hs, hh, if_pos rfl, List.map_append, List.map_append]
      show some (HO.lst (_ ++ [V.str (holdOf p).1])) = some (.lst (_ ++ [V.str (inn s)]))
      rw [show inn s = (holdOf p).1 by show (holdOf (partAt r.2.2 (partOf s))).1 = _; rw [epa]]
  rintro H4 ⟨s4, hacc⟩
  rw [List.length_map, List.take_length] at hacc
  refine ⟨D2, _, rfl, .inl (SqL.of hacc), rfl, flat_str _, ?_⟩
  rw [if_pos rfl, inV_strs]
  have e : isSpecB r sl = !decide (("byte" : Str) ∈ (sl.filter hasLen).map inn) := by
    unfold isSpecB
    rw [decide_eq_true hl, List.all_eq_true.mpr fun p hp => decide_eq_true (hall' p hp)]
    simp only [Bool.true_and]
    congr 1
    rw [Bool.eq_iff_iff, List.any_eq_true, decide_eq_true_iff, List.mem_map]
    exact ⟨fun ⟨s, h1, h2⟩ => ⟨s, h1, of_decide_eq_true h2⟩, fun ⟨s, h1, h2⟩ => ⟨s, h1, decide_eq_true h2⟩⟩
  rw [e] at q
  exact q _ (s13.trans s4)
end
end Bg
set_option Elab.async false
set_option linter.all false
set_option maxRecDepth 100000
set_option maxHeartbeats 4000000
/-! the price of a spec, of a layout -/
namespace Bg
open PySem PySem.Spec PyProof.Rows L2
def priceB (r : Row) (s : Str) : Int := (holdOf (partAt r.2.2 (partOf s))).2
theorem specP_eq (r : Row) (sl : List Str) : specP r sl = ((sl.filter hasLen).map (priceB r)).sum := rfl
def rowAtM (rs : List Row) (m : Str) : Row := (rs.find? fun r => decide (r.2.1 = m)).getD ("", "", [])
theorem rowAtM_of {rs : List Row} (nd : (rmakers rs).Nodup) {r : Row} (h : r ∈ rs) : rowAtM rs r.2.1 = r := by
  unfold rowAtM
  cases e : rs.find? fun x => decide (x.2.1 = r.2.1) with
  | none => exact absurd (decide_eq_true rfl) (List.find?_eq_none.mp e r h)
  | some q =>
    have z := of_decide_eq_true (List.find?_some (p := fun x : Row => decide (x.2.1 = r.2.1)) e)
    exact row_unique nd (List.mem_of_find?_eq_some e) h z
/-- the price of a layout -/
def layP (rs : List Row) (S : Str → List Str) : Int := (rs.map fun r => specP r (S r.2.1)).sum
/-- the pairs of a layout: maker and spec -/
def PairAtM (H : Hp) (S : Str → List Str) (v : V) (m : Str) : Prop := ∃ p c, v = .ref p ∧ H p = some (.tup [.str m, .ref c]) ∧ Rd H c (.tup ((S m).map V.str))
theorem PairAtM.mono {H H' : Hp} (s : Tups H H') {S : Str → List Str} {v : V} {m : Str} (h : PairAtM H S v m) : PairAtM H' S v m := by
  obtain ⟨p, c, e, h1, h2⟩ := h
  exact ⟨p, c, e, s _ (.tup _) trivial h1, rd_tups s h2⟩
structure SpecsOk (rs : List Row) (S : Str → List Str) : Prop where
  ok : ∀ r ∈ rs, isSpecB r (S r.2.1) = true
  short : ∀ r ∈ rs, ∀ s ∈ S r.2.1, s.length ≤ 100000
section
variable {P : Program} {w : World} {K : PySem.W.Frag} {mg : Str → Option Value} {base : Heap} {fd : FuncData}
def spSpecPrice (K : PySem.W.Frag) : Sp := fun vs H Q _ => ∃ (x c : Addr) (rs : List Row) (r : Row) (sl : List Str), vs = [.ref x, .str r.2.1, .ref c] ∧ KindsF K H x rs ∧ ValidT rs ∧ r ∈ rs ∧ Rd H c (.tup (sl.map V.str)) ∧ (∀ s ∈ sl, s.length ≤ 100000) ∧ isSpecB r sl = true ∧ ∀ H', Same H H' → Q (.int (specP r sl)) H'
theorem ok_spec_price (T : Tx K mg) (F : FnP K ("spec_price", none) "spec_price" "spec_price" s_spec_price fd) : FnOk P w K mg base CX0 3 (He.fAd K ("spec_price", none)) fd p_spec_price (spSpecPrice K) := by
  refine F.ok (k := 2) sc_spec_price (fun vs H Q E h => ?_) (fun cdv A outer s H vs Q E hr h => ?_)
  · obtain ⟨_, _, _, _, _, rfl, _⟩ := h; rfl
  obtain ⟨x, c, rs, r, sl, rfl, hK, val, hr', hc, l2, ok, q⟩ := h
  obtain ⟨hl, hall, _⟩ := isSpecB_inv ok
  have l4 := val.four r hr'
  obtain ⟨f1, F1⟩ := T.F_has_length
  obtain ⟨f2, F2⟩ := T.F_Kinds_price_of
  obtain ⟨f3, F3⟩ := T.F_part_of
  have nd := sc_spec_price.nd
  refine ⟨_, PSs.nox (pss_one (ps_ret (pe_callB (cr_sum rfl) (by rfl) T.n_sum (by decide +kernel) (pa_cons (pe_lc (own := [("slot", 3)]) (g := gName 3) rfl nd (pi_tup (pv 2)) (blkOk_by (N := ["kinds", "maker", "spec", "slot"]) (sc := defScope s_spec_price) (by decide +kernel)) (fun _ _ _ _ _ => (pg_name (i := 3) nd rfl (Or.inl rfl))) (fun _ _ _ _ _ => pts_one (pt_val (pe_call (sp := spHasLen) (E := E0) (ok_has_length T F1) (hr.mono (by omega)) (by rfl) T.g_has_length T.k_has_length (b_has_length F1) .nil pass0 (pa_cons (pv 3) pa_nil)))) (fun _ _ _ _ _ => (pe_meth (sp := (spPriceF K)) (E := E0) (pv 0) T.cl_Kinds T.m_Kinds_price_of (okf_price T F2) (hr.mono (by omega)) (b_Kinds_price_of F2) .nil pass0 (pa_cons (pv 1) (pa_cons (pe_call (sp := spPartOf) (E := E0) (ok_part_of T F3) (hr.mono (by omega)) (by rfl) T.g_part_of T.k_part_of (b_part_of F3) .nil pass0 (pa_cons (pv 3) pa_nil)) pa_nil))))) pa_nil)))), ?_⟩
  refine ⟨_, rfl, c, rfl, ⟨_, Or.inl hc⟩, fun D hD => lc_it (walk_tup (K := K) (a := c) (xs := sl.map V.str)) (fun i H4 => Same H H4 ∧ H4 D = some (.lst ((((sl.take i).filter hasLen).map (priceB r)).map V.int))) ⟨same_new hD, upd_same⟩ (fun i H4 _ z => Or.inl (rd_same z.1 hc)) ?_ ?_⟩
  · rintro i y H5 H4 hi ⟨s4, hacc⟩ ⟨rfl, hy⟩
    rw [List.getElem?_map, Option.map_eq_some_iff] at hy
    obtain ⟨s, hs, rfl⟩ := hy
    have hsm := List.mem_of_getElem? hs
    have li := (List.getElem?_eq_some_iff.mp hs).1
    have ls := Nat.le_trans (List.length_filter_le hasLen (sl.take i)) (by rw [List.length_take]; exact Nat.min_le_left _ _)
    refine ⟨rfl, _, rfl, s, rfl, _, rfl, ?_⟩
    cases hh : hasLen s with
    | false =>
      refine iteF ⟨s4, ?_⟩
      rw [take_filt hs, hh, hacc]; simp
    | true =>
      obtain ⟨p, hp, ep, epa⟩ := stored_part (val.ndp hr') hl hall hsm
      obtain ⟨dx4, dm4, dk4, dp4, dl4, tn4, to4, h04, _⟩ := id (hK.same s4)
      refine iteT ⟨_, rfl, x, dx4, _, rfl, h04, kF_none (by decide +kernel), _, rfl, _, rfl, s, rfl, l2 s hsm, x, rs, r, p, by rw [← ep]; rfl, hK.same s4, val, hr', hp, _, hacc, small1000 (by rw [List.length_map, List.length_map]; omega), same_mut s4 hD, ?_⟩
      rw [upd_same, take_filt hs, hh, if_pos rfl, List.map_append, List.map_append]
      show some (HO.lst (_ ++ [V.int (holdOf p).2])) = some (.lst (_ ++ [V.int (priceB r s)]))
      rw [show priceB r s = (holdOf p).2 by show (holdOf (partAt r.2.2 (partOf s))).2 = _; rw [epa]]
  rintro H4 ⟨s4, hacc⟩
  rw [List.length_map, List.take_length] at hacc
  refine ⟨D, _, rfl, SqL.of hacc, ?_⟩
  exact q _ s4
def spSpecsPrice (K : PySem.W.Frag) : Sp := fun vs H Q _ => ∃ (x tp : Addr) (rs : List Row) (S : Str → List Str) (ps : List V), vs = [.ref x, .ref tp] ∧ KindsF K H x rs ∧ ValidT rs ∧ SqT K H tp ps ∧ All2 (PairAtM H S) ps (rmakers rs) ∧ SpecsOk rs S ∧ (∀ H', Same H H' → SqT K H' tp ps) ∧ ∀ H', Same H H' → Q (.int (layP rs S)) H'
theorem ok_specs_price (T : Tx K mg) (F : FnP K ("specs_price", none) "specs_price" "specs_price" s_specs_price fd) : FnOk P w K mg base CX0 4 (He.fAd K ("specs_price", none)) fd p_specs_price (spSpecsPrice K) := by
  refine F.ok (k := 3) sc_specs_price (fun vs H Q E h => ?_) (fun cdv A outer s H vs Q E hr h => ?_)
  · obtain ⟨_, _, _, _, _, rfl, _⟩ := h; rfl
  obtain ⟨x, tp, rs, S, ps, rfl, hK, val, hp, al, ok, hst, q⟩ := h
  have sh := val.short.1
  obtain ⟨f1, F1⟩ := T.F_spec_price
  have nd := sc_specs_price.nd
  refine ⟨_, PSs.nox (pss_one (ps_ret (pe_callB (cr_sum rfl) (by rfl) T.n_sum (by decide +kernel) (pa_cons (pe_lc (own := [("maker", 2), ("spec", 3)]) (g := (gTup K 2 (gCons (gName 2) (gCons (gName 3) gNil)))) rfl nd (pi_tup (pv 1)) (blkOk_by (N := ["kinds", "pairs", "maker", "spec"]) (sc := defScope s_specs_price) (by decide +kernel)) (fun _ _ _ _ _ => (pg_tup rfl (pgs_cons (pg_name (i := 2) nd rfl (Or.inl rfl)) (pgs_cons (pg_name (i := 3) nd rfl (Or.inl rfl)) pgs_nil)))) (fun _ _ _ _ _ => pts_nil) (fun _ _ _ _ _ => (pe_call (sp := (spSpecPrice K)) (E := E0) (ok_spec_price T F1) (hr.mono (by omega)) (by rfl) T.g_spec_price T.k_spec_price (b_spec_price F1) .nil pass0 (pa_cons (pv 0) (pa_cons (pv 2) (pa_cons (pv 3) pa_nil)))))) pa_nil)))), ?_⟩
  refine ⟨_, rfl, tp, rfl, ⟨_, hp⟩, fun D hD => lc_it (walk_tup (K := K) (a := tp) (xs := ps)) (fun i H4 => Same H H4 ∧ H4 D = some (.lst (((rs.take i).map fun r => specP r (S r.2.1)).map V.int))) ⟨same_new hD, upd_same⟩ (fun i H4 _ z => hst _ z.1) ?_ ?_⟩
  · rintro i y H5 H4 hi ⟨s4, hacc⟩ ⟨rfl, hy⟩
    obtain ⟨m, hm, p, c, rfl, h1, h2⟩ := al.get hy
    unfold rmakers at hm
    rw [List.getElem?_map, Option.map_eq_some_iff] at hm
    obtain ⟨r, hr2, rfl⟩ := hm
    have hr' := List.mem_of_getElem? hr2
    have li := (List.getElem?_eq_some_iff.mp hr2).1
    refine ⟨p, _, rfl, SqT.of (s4 _ _ h1), rfl, _, _, rfl, _, _, rfl, rfl, ?_⟩
    refine ⟨rfl, _, rfl, _, rfl, _, rfl, x, c, rs, r, S r.2.1, rfl, hK.same s4, val, hr', rd_same s4 h2, ok.short r hr', ok.ok r hr', fun H6 s6 => ?_⟩
    refine ⟨_, s6 _ _ hacc, small1000 (by rw [List.length_map, List.length_map, List.length_take]; omega), same_mut (s4.trans s6) hD, ?_⟩
    rw [upd_same, take_succ_of hr2, List.map_append, List.map_append] <;> rfl
  rintro H4 ⟨s4, hacc⟩
  rw [al.1, show (rmakers rs).length = rs.length by unfold rmakers; rw [List.length_map], List.take_length] at hacc
  exact ⟨D, _, rfl, SqL.of hacc, q _ s4⟩
end
end Bg
set_option Elab.async false
set_option linter.all false
set_option maxRecDepth 100000
set_option maxHeartbeats 2000000
/-! drawn specs are valid -/
namespace Bg
open PySem PySem.Spec PyProof.Rows L2
theorem nm_plain {x : Str} (h : nameB x = true) : 43 ∉ x.cps.toList := fun hm => by
  unfold nameB at h
  simp only [Bool.and_eq_true] at h
  have h2 := h.2.2.2.1
  unfold Txt.isalnum at h2
  rw [Bool.and_eq_true, ← Array.all_toList, List.all_eq_true] at h2
  exact absurd (h2.2 43 hm) (by decide +kernel)
theorem pt_name {ps : List Part} (h : partsB ps = true) {p : Part} (hp : p ∈ ps) : nameB p.1 = true := by
  have := part_kind h hp
  obtain ⟨n, k, c⟩ := p
  cases c with
  | none => rw [partB_n, Bool.and_eq_true] at this; exact this.1
  | some c => rw [partB_s, Bool.and_eq_true] at this; exact this.1
theorem slot_read {s : LSlot} (h : 43 ∉ s.2.cps.toList) : partOf (sText s) = s.2 ∧ hasLen (sText s) = s.1 := by
  obtain ⟨b, x⟩ := s
  cases b with
  | true => exact partOf_plus x
  | false =>
    have e : sText (false, x) = x := rfl
    rw [e]
    have hl : hasLen x = false := by
      cases c : hasLen x with
      | false => rfl
      | true =>
        have := (hasLen_iff x).mp c
        exact absurd (List.mem_of_getElem? this) h
    exact ⟨partOf_plain hl, hl⟩
def specOf (lay : LayM) : Str → List Str := fun m => (lay m).map sText
theorem slot_name {rs : List Row} {lay : LayM} (val : ValidT rs) (lo : LayOk rs lay) {r : Row} (hr : r ∈ rs) {s : LSlot} (hs : s ∈ lay r.2.1) : nameB s.2 = true := by
  have := (lo.perm r hr).mem_iff.mp (List.mem_map_of_mem (f := (·.2)) hs)
  obtain ⟨p, hp, e⟩ := List.mem_map.mp this
  have := pt_name (val.each.good r hr).2.2 hp
  rw [e] at this; exact this
theorem stored_of {rs : List Row} {lay : LayM} (val : ValidT rs) (lo : LayOk rs lay) {r : Row} (hr : r ∈ rs) : (specOf lay r.2.1).map partOf = (lay r.2.1).map (·.2) := by
  unfold specOf
  rw [List.map_map]
  exact List.map_congr_left fun s hs => (slot_read (nm_plain (slot_name val lo hr hs))).1
theorem specs_ok {rs : List Row} {lay : LayM} (val : ValidT rs) (lo : LayOk rs lay) (mo : MeasOk rs lay) : SpecsOk rs (specOf lay) where
  ok := fun r hr => by
    have e1 := stored_of val lo hr
    have pm := lo.perm r hr
    unfold isSpecB
    rw [Bool.and_eq_true, Bool.and_eq_true]
    refine ⟨decide_eq_true ?_, List.all_eq_true.mpr fun p hp => decide_eq_true ?_, ?_⟩
    · have := pm.length_eq
      unfold specOf
      rw [List.length_map] at this ⊢
      rw [List.length_map] at this; exact this
    · rw [e1]; exact pm.mem_iff.mpr (List.mem_map_of_mem hp)
    · rw [Bool.not_eq_true']
      refine List.any_eq_false.mpr fun x hx => ?_
      obtain ⟨h1, h2⟩ := List.mem_filter.mp hx
      unfold specOf at h1
      obtain ⟨s, hs, rfl⟩ := List.mem_map.mp h1
      obtain ⟨f1, f2⟩ := slot_read (nm_plain (slot_name val lo hr hs))
      rw [f2] at h2
      obtain ⟨p, hp, e, nb⟩ := mo r hr s hs h2
      rw [f1, ← e, partAt_of (val.ndp hr) hp, hold_kind (val.each.good r hr).2.2 hp, decide_eq_false nb]
      exact Bool.false_ne_true
  short := fun r hr x hx => by
    unfold specOf at hx
    obtain ⟨s, hs, rfl⟩ := List.mem_map.mp hx
    have := slot_name val lo hr hs
    unfold nameB at this
    simp only [Bool.and_eq_true] at this
    have l := of_decide_eq_true this.2.1
    unfold sText
    split
    · rw [Str.length_append]
      have : plus.length = 1 := rfl
      omega
    · omega
theorem SpecAt.specD {H : Hp} {sp : Addr} {rs : List Row} {lay : LayM} (h : SpecAt H sp rs lay) : ∃ kvs, H sp = some (.dK kvs) ∧ KD kvs (rmakers rs) fun m u => ∃ c, u = .ref c ∧ Rd H c (.tup ((specOf lay m).map V.str)) := by
  obtain ⟨kvs, e, kd⟩ := h
  refine ⟨kvs, e, kd.mono fun m u ⟨c, e1, e2⟩ => ⟨c, e1, ?_⟩⟩
  unfold specOf; rw [List.map_map]; exact e2
end Bg
set_option Elab.async false
set_option linter.all false
set_option maxRecDepth 100000
set_option maxHeartbeats 2000000
/-! specs as slots -/
namespace Bg
open PySem PySem.Spec PyProof.Rows L2
def layS (S : Str → List Str) : LayM := fun m => (S m).map fun s => (hasLen s, partOf s)
theorem layS_ok {rs : List Row} (val : ValidT rs) {S : Str → List Str} (so : SpecsOk rs S) : LayOk rs (layS S) := ⟨fun r hr => by
  obtain ⟨i1, i2, _⟩ := isSpecB_inv (so.ok r hr)
  unfold layS
  rw [List.map_map]
  exact (stored_perm (val.ndp hr) i1 i2).symm⟩
theorem sText_layS (s : Str) : sText (hasLen s, partOf s) = s := by
  rcases slot_cases s with ⟨y, e1, e2, e3⟩ | ⟨e1, e2⟩
  · rw [e2, e3, e1]; rfl
  · rw [e1, e2]; rfl
theorem layS_spec {rs : List Row} {lay : LayM} (val : ValidT rs) (lo : LayOk rs lay) {r : Row} (hr : r ∈ rs) : layS (specOf lay) r.2.1 = lay r.2.1 := by
  unfold layS specOf
  rw [List.map_map]
  have : (lay r.2.1).map ((fun s => (hasLen s, partOf s)) ∘ sText) = (lay r.2.1).map id := List.map_congr_left fun s hs => by
    obtain ⟨e1, e2⟩ := slot_read (nm_plain (slot_name val lo hr hs))
    show (hasLen (sText s), partOf (sText s)) = s
    rw [e1, e2]
  rw [this, List.map_id]
theorem mRow_in {rs : List Row} {m : Str} {r : Row} (h : mRow rs m = some r) : r ∈ rs ∧ r.2.1 = m :=
  ⟨List.mem_of_find?_eq_some h, of_decide_eq_true (List.find?_some (p := fun r : Row => decide (r.2.1 = m)) h)⟩
theorem packN_congr {rs : List Row} {lay lay2 : LayM} (e : ∀ r ∈ rs, lay r.2.1 = lay2 r.2.1) : ∀ (n : Nat) (d : PyData), packN rs lay n d = packN rs lay2 n d
  | 0, d => by unfold packN; rfl
  | n + 1, d => by
    unfold packN
    split
    · rename_i n' m ds e0
      cases e0
      cases h : mRow rs m with
      | none => rfl
      | some r =>
        have hr : r ∈ rs ∧ r.2.1 = m := mRow_in h
        rw [← hr.2, e r hr.1]
        show _ :: _ = _ :: _
        congr 1
        refine flat_congr fun s _ => ?_
        unfold itemP
        split
        · rfl
        · rw [packN_congr e n]
    · rfl
theorem packR_congr {rs : List Row} {lay lay2 : LayM} (e : ∀ r ∈ rs, lay r.2.1 = lay2 r.2.1) (d : PyData) : packR rs lay d = packR rs lay2 d := packN_congr e _ d
end Bg
set_option Elab.async false
set_option linter.all false
set_option maxRecDepth 100000
set_option maxHeartbeats 4000000
/-! the table of chains -/
namespace Bg
open PySem PySem.Spec PyProof.Rows L2
def rCons : Row := ("List", "Cons", [("tail", "List", some 3)])
def rNil : Row := ("List", "Nil", [])
def CT : List Row := [rCons, rNil]
theorem ct_valid : ValidT CT where
  short := ⟨by decide, fun r hr => by
    simp only [CT, List.mem_cons, List.not_mem_nil, or_false] at hr
    rcases hr with e | e <;> subst e
    · refine ⟨by decide +kernel, by decide +kernel, by decide, fun p hp => ?_⟩
      simp only [rCons, List.mem_cons, List.not_mem_nil, or_false] at hp
      subst hp; exact ⟨by decide +kernel, by decide +kernel⟩
    · exact ⟨by decide +kernel, by decide +kernel, by decide, fun p hp => by cases hp⟩⟩
  ne := by simp [CT]
  each := ⟨by decide +kernel, by decide +kernel, by decide, by decide +kernel⟩
  inner := fun r hr p hp => by
    simp only [CT, List.mem_cons, List.not_mem_nil, or_false] at hr
    rcases hr with e | e <;> subst e
    · simp only [rCons, List.mem_cons, List.not_mem_nil, or_false] at hp
      subst hp; exact .inr (by decide +kernel)
    · cases hp
  fin := ⟨fun _ => 0, fun k hk => (by decide +kernel : 0 < (distinct (rkinds CT)).length), fun k hk => by
    have e : k = "List" := by
      have : k ∈ ([("List" : Str), "List"]) := hk
      simpa using this
    subst e
    exact ⟨rNil, by simp [CT], rfl, fun p hp => by cases hp⟩⟩
def SC : Str → List Str := fun m => if m = ("Cons" : Str) then ["tail"] else []
theorem nc : ¬ ("Nil" : Str) = "Cons" := by decide +kernel
theorem c1_ok : isSpecB rCons ["tail"] = true ∧ ∀ x ∈ (["tail"] : List Str), x.length ≤ 100000 := by decide +kernel
theorem c2_ok : isSpecB rNil [] = true := by decide +kernel
theorem sc_ok : SpecsOk CT SC where
  ok := fun r hr => by
    simp only [CT, List.mem_cons, List.not_mem_nil, or_false] at hr
    rcases hr with e | e <;> subst e
    · show isSpecB rCons (if ("Cons" : Str) = "Cons" then ["tail"] else []) = true
      rw [if_pos rfl]; exact c1_ok.1
    · show isSpecB rNil (if ("Nil" : Str) = "Cons" then ["tail"] else []) = true
      rw [if_neg nc]; exact c2_ok
  short := fun r hr => by
    simp only [CT, List.mem_cons, List.not_mem_nil, or_false] at hr
    rcases hr with e | e <;> subst e
    · show ∀ x ∈ (if ("Cons" : Str) = "Cons" then (["tail"] : List Str) else []), x.length ≤ 100000
      rw [if_pos rfl]; exact c1_ok.2
    · show ∀ x ∈ (if ("Nil" : Str) = "Cons" then (["tail"] : List Str) else []), x.length ≤ 100000
      rw [if_neg nc]; exact fun x hx => by cases hx
theorem kList : ("List" : Str) ∈ rkinds CT := by decide +kernel
end Bg
set_option Elab.async false
set_option linter.all false
set_option maxRecDepth 100000
set_option maxHeartbeats 1000000
/-! a token is out, through a loop's body -/
namespace Bg
open PySem PySem.Spec PyProof.Rows L2 CwR
theorem thnT {α : Type} {M : Model} {A : Around} {c : Sem α} {Q R : α → Shared → Prop} {E : Value → Shared → Prop} {s : Shared} (h : wpAny M A c Q E s) (k : ∀ v s', s.toks ≤ s'.toks → Q v s' → R v s') : wpAny M A c R E s :=
  wpAny_mono (PySem.wpAny_toks h) (fun v s' q => k v s' q.1 q.2) fun _ _ z => z.2
section
variable {X : Cx} {e o a b : Expr} {te to ta tb : TE} {pos : Pos}
theorem pst_set {i : Nat} {x : Str} {pos' : Pos} (hN : X.N.Nodup) (hi : X.N[i]? = some x) (hx : Loc X.env.scope x) (he : PET X e te) (hs : swapsWith e (some (.Name x pos')) pos.line X.env = pure false := by rfl)
    (hf : X.fn x = true ∨ X.env.scope.names.lookup x = some .local := by first | exact .inl rfl | exact .inr rfl | assumption) : PST X (.Assign [.Name x pos'] e pos) (tAsg te (gName i)) := by
  intro pins s σ H D h0 I h
  refine wpAny_Assign_Name (thn (he pins s σ H _ h0 I h) fun v s1 ⟨y, H1, I1, r1, q1⟩ => ?_) hs
  exact store_ok I1 hN hi hx r1 (fun s2 I2 => ⟨_, H1, I2, q1⟩) hf
theorem pet_ix {r : R2} (hr : IxR X r) (ha : PET X a ta) (hb : PET X b tb) (hs : PlainIx b) : PET X (.Subscript a b pos) (tOp r ta tb) := by
  intro pins s σ H Q h0 I h
  refine Subscript_ (thnT (ha pins s σ H _ h0 I h) fun v s1 k1 ⟨x, H1, I1, r1, q1⟩ => ?_)
  exact thn (hb pins s1 σ H1 _ (Nat.le_trans h0 k1) I1 q1) fun u s2 ⟨y, H2, I2, r2, q2⟩ => hr a b pins s2 σ H2 x y v u Q I2 r1 r2 q2 (hs _ _)
theorem pet_bm {T id : String} {name : Str} {r : V → List V → Hp → VK → Prop} {e : Expr} {es : List Expr} {t : TA} {apos cpos : Pos} (pa : PlainAttrs T) (slot : Slot T name id) (hty : typeOf (.builtin id) = pure (.type "method_descriptor")) (hm : MtR X id r) (ho : PET X o to) (ha : PAT X (e :: es) t)
    (hbase : attributeBase o name X.env (eval o X.env) = eval o X.env := by rfl)
    (hfew : ((backTo cpos (starEach (e :: es) X.env)).all (fun x => !x.1) && (backToKw cpos (keywordEach [] X.env)).all (fun x => x.1.isSome)
      && decide ((e :: es).length + ([] : List Keyword).length + (if ([] : List Keyword).isEmpty then 0 else 1) < 30)) = true := by rfl)
    (hline : (apos.endLine == cpos.line) = true := by rfl) (hs : starEach (e :: es) X.env = (false, eval e X.env) :: starEach es X.env := by rfl) (hplain : (backTo cpos (starEach es X.env)).any (·.1) = false := by rfl) :
    PET X (.Call (.Attribute o name apos) (e :: es) [] cpos) (tBM X.K T r to t) := by
  intro pins s σ H Q h0 I h
  refine wpAny_Call_method_late hbase hfew hline rfl (thnT (ho pins s σ H _ h0 I h) fun v s1 k1 ⟨x, H1, I1, r1, ty, q1⟩ => ?_)
  obtain ⟨h1, h2⟩ := tyV_is I1 r1 ty
  refine ⟨T, id, pa, slot, hty, h1, h2, ?_⟩
  have hA := ha cpos pins s1 σ H1 _ (Nat.le_trans h0 k1) I1 q1
  rw [hs] at hA ⊢
  refine Calls.callWith_builtin (by show (false || (backTo cpos (starEach es X.env)).any (·.1)) = false; rw [hplain] <;> rfl) (Calls.evalArgs_plain ?_)
  exact thn hA fun us s2 ⟨vs, H2, I2, r2, q2⟩ => hm pins s2 σ H2 x vs v us Q I2 r1 r2 q2
theorem pet_tup {es : List Expr} {t : TA} {k : Nat} {pos : Pos} (h : PAT X es t) : PET X (.Tuple es k pos) (tTup t) := by
  intro pins s σ H Q h0 I hq
  refine wpAny_Tuple_spliced (thn (h pos pins s σ H _ h0 I hq) fun us s1 ⟨xs, H1, I1, r, z, q⟩ => ⟨by rw [← r.length]; exact z, ?_⟩)
  have hf : H1 s1.heap.objs.size = none := I1.hok.fresh (Nat.le_refl _)
  refine ⟨.ref s1.heap.objs.size, upd H1 s1.heap.objs.size (.tup xs), I1.laid (t' := s1.toks) (fun b u e => Heap.get?_push_of_some _ e) (Nat.le_refl _) ?_, rfl, q _ hf⟩
  exact ⟨z, us, r, ⟨_, Heap.get?_push_size _ rfl, rfl, _, rfl⟩⟩
theorem psst_nox {st : List Stmt} {t : TS} (h : PSsT X.nox st t) : PSsT X st t := fun pins s σ H D h0 I hw =>
  wpAny_mono (h pins s σ H D h0 (I.wish _) hw) (fun _ _ q => q.unwish) fun _ _ z => False.elim z
theorem pst_forT {tg iter : Expr} {body : List Stmt} {wi : TI} {g : TG} {tb : TS} (hp : PassesOwn (model X.prog X.w) X.A X.env X.xe) (hc : X.calm = true) (hi : PI X tg iter wi) (hg : PG X tg g) (hb : PSsT X body tb)
    (hs : ∀ x, foldedSetIterable iter X.env x = pure x := by intro _; rfl) : PST X (.For tg iter body [] pos) (tFor wi g tb) := by
  intro pins s σ H D h0 I h
  refine wpAny_For (thnT (hi.run pins s σ H _ I h) fun v s1 k1 h1 => thnT h1 fun itv s2 k2 h2 => ?_) hs
  obtain ⟨it, fp, tn, J, H2, e, I2, T, st2, f2, W, ⟨m0, w0⟩, turn⟩ := h2
  subst e
  have stat : ∀ {H' : Hp}, (∀ b ∈ fp, H' b = none) → ∀ b ∈ fp, FpOk X pins H' b := fun hn b hb => ⟨hn b hb, (f2 b hb).2⟩
  refine codeAny_forLoop_any (fun n s' => 1 ≤ s'.toks ∧ ∃ i σ' H', Inv X pins σ' H' s' ∧ tn i s'.heap ∧ (∀ b ∈ fp, H' b = none) ∧ W i n σ' H') ?_ m0 ⟨by omega, 0, σ, H2, I2, st2, fun b hb => (f2 b hb).1, w0⟩
  rintro n s3 ⟨k3, i, σ3, H3, I3, st3, fr3, w3⟩
  rcases turn i n σ3 H3 w3 with ⟨stop, qn⟩ | ⟨go, N, hN, step⟩
  · refine wpAny_passesOwn hp (thn (T.done X rfl rfl rfl hc i pins s3 σ3 H3 X.xe I3 (stat fr3) st3 stop) fun r s4 ⟨hr, I4⟩ => ?_)
    subst hr
    exact wpAny_execs_nil ⟨σ3, H3, I4, qn⟩
  · refine wpAny_passesOwn hp (thnT (T.item X rfl rfl rfl hc i pins s3 σ3 H3 X.xe I3 (stat fr3) st3 go) fun r s4 k4 ⟨u, hr, h4⟩ => ?_)
    subst hr
    refine wpAny_passesOwn hp (thnT h4 fun _ s5 k5 ⟨x, H5, I5, r5, y5, st5, fr5⟩ => ?_)
    have I5' := I5.pinned (stat fr5) (T.obj _ _ st5)
    refine wpAny_passesOwn hp (thnT (hg.run _ s5 σ3 H5 x u _ I5' r5 (step x H5 y5)) fun _ s6 k6 ⟨σ6, H6, I6, q6⟩ => ?_)
    refine wpAny_passesOwn hp (thnT (hb _ s6 σ6 H6 _ (by omega) I6 q6) fun f s7 k7 q7 => ?_)
    have again : ∀ {σ7 : L2.St} {H7 : Hp}, Inv X (pins ++ pinsAt fp s5.heap) σ7 H7 s7 → N σ7 H7 → ∃ m, m < n ∧ 1 ≤ s7.toks ∧ ∃ i σ' H', Inv X pins σ' H' s7 ∧ tn i s7.heap ∧ (∀ b ∈ fp, H' b = none) ∧ W i m σ' H' := fun {σ7 H7} I7 n7 => by
      obtain ⟨m', hm, w7⟩ := hN σ7 H7 n7
      refine ⟨m', hm, by omega, i + 1, σ7, H7, I7.unpinned, T.keep _ _ _ st5 fun b hb o e => (I7.pin (b, o) (List.mem_append_right _ (List.mem_append_right _ (mem_pinsAt hb e)))).1, fun b hb => ?_, w7⟩
      obtain ⟨o, e, d⟩ := T.obj _ _ st5 b hb
      exact (I7.pin (b, o) (List.mem_append_right _ (List.mem_append_right _ (mem_pinsAt hb e)))).2.1
    cases f with
    | next => obtain ⟨σ7, H7, I7, n7⟩ := q7; exact again I7 n7
    | cont => obtain ⟨σ7, H7, I7, n7⟩ := q7; exact again I7 n7
    | brk => obtain ⟨σ7, H7, I7, q7⟩ := q7; exact ⟨σ7, H7, I7.unpinned, q7⟩
    | ret v => obtain ⟨x7, σ7, H7, I7, r7, q7⟩ := q7; exact ⟨x7, σ7, H7, I7.unpinned, r7, q7⟩
end
theorem nsSet_wp (M : Model) (Γ : PySem.Ctx) (p : Pos) (s : Shared) (a : Addr) (name : Str) (v : Value) : ∃ T : Sem Unit, ∀ Q E, Sem.wp M Γ (nsSet a name v) Q E p s = Sem.wp M Γ T Q E p { s with toks := s.toks + 1 } := by
  refine ⟨?T, fun Q E => ?_⟩
  rotate_left
  · unfold nsSet strHash
    rw [Sem.wp_bind', Sem.wp_bind', Sem.wp_cmd_ask, Sem.wp_pure', Sem.wp_bind', Sem.wp_cmd_mkText]
theorem nsSet_tok {M : Model} {A : Around} {E : Value → Shared → Prop} {s : Shared} {a : Addr} {name : Str} {v : Value} {Q : Unit → Shared → Prop} (h : wpAny M A (nsSet a name v) Q E s) : wpAny M A (nsSet a name v) (fun u s' => 1 ≤ s'.toks ∧ Q u s') E s := fun Γ p hΓ => by
  have h := h Γ p hΓ
  obtain ⟨T, e⟩ := nsSet_wp M Γ p s a name v
  rw [e] at h ⊢
  exact Sem.wp_mono _ _ _ (fun _ _ _ z => z) (fun _ _ _ z => z.2) _ _ (Sem.wp_toks M Γ 1 _ _ _ p _ (by show 1 ≤ s.toks + 1; omega) h)
/-- x = e, x a local: behind it a token is out -/
theorem pss_first {i : Nat} {x : Str} {pos' : Pos} {rest : List Stmt} {u : TS} (hN : X.N.Nodup) (hi : X.N[i]? = some x) (hx : X.env.scope.names.lookup x = some .local) (he : PE X e te) (h2 : PSsT X rest u) (hs : swapsWith e (some (.Name x pos')) pos.line X.env = pure false := by rfl) : PSs X (.Assign [.Name x pos'] e pos :: rest) (tSeq (tAsg te (gName i)) u) := by
  refine ⟨fun pins s σ H D I h => ?_⟩
  refine wpAny_execs_cons (wpAny_Assign_Name (thn (he.run pins s σ H _ I h) fun v s1 ⟨y, H1, I1, r1, q1⟩ => ?_) hs)
  have st := store_ok (M := model X.prog X.w) (A := X.A) (E := X.xe) (Q := fun _ s2 => Inv X pins (σ.set i (some y)) H1 s2) I1 hN hi (.inl hx) r1 (fun s2 I2 => I2) (.inr hx)
  have hcls : (X.env.scope.kind == .class || (X.env.scope.kind == .module && X.env.locals != X.env.globals)) = false := by rw [I.ok.kind]; rfl
  rw [storeName_local hx hcls] at st ⊢
  exact thn (nsSet_tok st) fun _ s2 q => h2 pins s2 _ H1 D q.1 q.2 q1
section
variable {P : Program} {w : World} {K : PySem.W.Frag} {mg : Str → Option Value} {base : Heap} {x qual : Str} {params : Arguments} {body : List Stmt} {scope : Scope} {dvs : List V} {kws : List (Str × V)} {f : Addr} {fd : FuncData}
/-- a def without cells whose body gives out a token -/
theorem okT {CX : CXT} {N ps : List Str} {k : Nat} {sp : Sp} (F : FunD K x qual params body scope dvs kws f fd) (S : FnScope N ps scope) (hnc : ∀ y ∈ scope.names, y.2 ≠ .cell) (hps : 1 ≤ ps.length) (len : ∀ vs H Q E, sp vs H Q E → vs.length = ps.length)
    (hbody : ∀ (cdv : Value) (A : Around) (outer : List Env) (s : Shared) (H : Hp) (vs : List V) (Q : VK) (E : XK), Room k (A.deeper (envOfC qual scope s.heap.objs.size f cdv)) → sp vs H Q E →
      ∃ t, PSsT (cxOf CX P w K mg base N qual scope f cdv A outer s H E) body t ∧ t { nx := fun _ H' => Q .non H', rt := Q } (start N vs) H) : FnOk P w K mg base CX (k + 1) f fd ps sp := by
  obtain ⟨oc, od, dV, kV, doc, pm, an, cdv, ct, osl, rfl, lk, hcd, _, _⟩ := F.ex
  exact fn_ofT lk hcd S hnc hps len fun A outer s H vs Q E hr hsp => hbody cdv A outer s H vs Q E hr hsp
end
end Bg
set_option Elab.async false
set_option linter.all false
set_option maxRecDepth 100000
set_option maxHeartbeats 4000000
/-! slots as texts, readings -/
namespace Bg
open PySem PySem.Spec PyProof.Rows L2 CwR
theorem name_plain {x : Str} (h : nameB x = true) : 43 ∉ x.cps.toList := fun hm => by
  unfold nameB at h
  simp only [Bool.and_eq_true] at h
  have h2 := h.2.2.2.1
  unfold Txt.isalnum at h2
  rw [Bool.and_eq_true, ← Array.all_toList, List.all_eq_true] at h2
  exact absurd (h2.2 43 hm) (by decide +kernel)
theorem name_len {x : Str} (h : nameB x = true) : 1 ≤ x.length ∧ x.length ≤ 24 := by
  unfold nameB at h
  simp only [Bool.and_eq_true] at h
  exact ⟨of_decide_eq_true h.1, of_decide_eq_true h.2.1⟩
theorem part_name {ps : List Part} (h : partsB ps = true) {x : Str} (hx : x ∈ ps.map (·.1)) : nameB x = true := by
  obtain ⟨p, hp, rfl⟩ := List.mem_map.mp hx
  have := part_kind h hp
  obtain ⟨n, k, c⟩ := p
  cases c with
  | none => rw [partB_n, Bool.and_eq_true] at this; exact this.1
  | some c => rw [partB_s, Bool.and_eq_true] at this; exact this.1
theorem sText_len {s : LSlot} (h : nameB s.2 = true) : (sText s).length ≤ 25 := by
  have := (name_len h).2
  unfold sText
  split
  · rw [str_len] at this ⊢
    rw [Str.cps_append, Array.toList_append, List.length_append]
    have : (plus.cps.toList).length = 1 := rfl
    omega
  · omega
theorem sText_head {s : LSlot} (h : nameB s.2 = true) : ∃ c, atI (sText s).cps.toList 0 = some c ∧ decide (V.str ⟨#[c]⟩ = V.str plus) = s.1 := by
  have h1 := (name_len h).1
  have h2 := name_plain h
  rw [str_len] at h1
  unfold sText
  obtain ⟨b, x⟩ := s
  cases b with
  | true =>
    refine ⟨43, ?_, (by decide +kernel : decide (V.str ⟨#[43]⟩ = V.str plus) = true)⟩
    rw [if_pos rfl, Str.cps_append, Array.toList_append]
    exact atI_nat (j := 0) rfl
  | false =>
    rw [if_neg Bool.false_ne_true]
    cases e : x.cps.toList with
    | nil => rw [show (false, x).2 = x from rfl, e] at h1; simp at h1
    | cons c l =>
      refine ⟨c, atI_nat (j := 0) rfl, decide_eq_false fun q => h2 ?_⟩
      have := V.str.inj q
      have : c = 43 := by
        have := congrArg (fun z : Str => z.cps.toList) this
        simpa [plus] using this
      show 43 ∈ x.cps.toList
      rw [e, this]; exact List.mem_cons_self ..
section
variable {P : Program} {w : World} {K : PySem.W.Frag} {mg : Str → Option Value} {base : Heap} {fd : FuncData} {H : Hp} {Q : VK}
theorem idx_read {a : Addr} {ks : List Str} {x : Str} (hs : SqL K H a (ks.map V.str)) (h : x ∈ ks) (q : Q (.int (ks.idxOf x : Nat)) H) : rIndex K (.ref a) [.str x] H Q := by
  have li := List.idxOf_lt_length_of_mem h
  refine ⟨a, _, .str x, ks.idxOf x, .str x, rfl, rfl, hs, rfl, ?_, ?_, ?_, fun m z hm hz => ?_, q⟩
  · rw [List.all_eq_true]; intro z hz; obtain ⟨y, _, rfl⟩ := List.mem_map.mp hz; rfl
  · rw [List.getElem?_map, List.getElem?_eq_getElem li, List.getElem_idxOf li]; rfl
  · show (x == x) = true; exact beq_self_eq_true x
  · rw [List.getElem?_map] at hz
    have lm : m < ks.length := by omega
    rw [List.getElem?_eq_getElem lm] at hz
    cases hz
    show (ks[m] == x) = false
    have := List.not_of_lt_findIdx hm
    exact this
theorem lt_line {n : Nat} (h : n ≤ 2000001) : n < sizeLine := Nat.lt_of_le_of_lt h (by decide)
theorem wt_mem : ∀ {ds : List PyData} {d : PyData}, d ∈ ds → wt d ≤ wtAll ds
  | a :: ds, d, h => by
    rw [wtAll]
    rcases List.mem_cons.mp h with e | e
    · rw [e]; omega
    · have := wt_mem e; omega
theorem Same.none {H H' : Hp} (s : Same H H') {o : Addr} (h : H' o = none) : H o = none := by
  cases e : H o with
  | none => rfl
  | some u => rw [s _ _ e] at h; cases h
end
end Bg
set_option Elab.async false
set_option linter.all false
set_option maxRecDepth 100000
set_option maxHeartbeats 4000000
/-! reading a row of bytes: what comes out, or where it fails -/
namespace Bg
open PySem PySem.Spec PyProof.Rows L2
abbrev RR (α : Type) := Sum Nat (α × Nat)
def famOf (rs : List Row) (k : Str) : List Row := rs.filter fun r => decide (r.1 = k)
theorem fam_names (rs : List Row) (k : Str) : (famOf rs k).map (fun r => r.2.1) = makersOf rs k := rfl
abbrev Acc := List (Str × PyData)
def lookA (acc : Acc) (x : Str) : PyData := ((acc.find? fun q => decide (q.1 = x)).map (·.2)).getD .none
/-- a part behind its length -/
def rdM (row : List Nat) (f : Str → Nat → RR PyData) (k : Str) (at_ : Nat) : RR PyData :=
  if row.length < at_ + 2 then .inl row.length
  else match f k (at_ + 2) with
    | .inl e => .inl e
    | .inr (d, en) => if en = at_ + 2 + ((row[at_]?.getD 0) * 256 + row[at_ + 1]?.getD 0) then .inr (d, en) else .inl at_
/-- one part -/
def rdP (row : List Nat) (f : Str → Nat → RR PyData) (r : Row) (s : LSlot) (at_ : Nat) : RR PyData :=
  if (partAt r.2.2 s.2).2.1 = ("byte" : Str) then
    match row[at_]? with
    | none => .inl row.length
    | some b => .inr (.int (b : Nat), at_ + 1)
  else if s.1 = true then
    if row.length < at_ + 2 then .inl row.length
    else match f (partAt r.2.2 s.2).2.1 (at_ + 2) with
      | .inl e => .inl e
      | .inr (d, en) => if en = at_ + 2 + ((row[at_]?.getD 0) * 256 + row[at_ + 1]?.getD 0) then .inr (d, en) else .inl at_
  else f (partAt r.2.2 s.2).2.1 at_
/-- the parts of a node -/
def rdS (row : List Nat) (f : Str → Nat → RR PyData) (r : Row) : List LSlot → Nat → Acc → RR Acc
  | [], at_, acc => .inr (acc, at_)
  | s :: sl, at_, acc => match rdP row f r s at_ with
    | .inl e => .inl e
    | .inr (d, en) => rdS row f r sl en (acc ++ [(s.2, d)])
def treeOf (r : Row) (acc : Acc) : PyData := .tuple (.str r.2.1 :: r.2.2.map fun p => lookA acc p.1)
/-- a node: with so many levels left -/
def rdN (rs : List Row) (lay : LayM) (row : List Nat) : Nat → Str → Nat → RR PyData
  | 0, _, at_ => .inl at_
  | n + 1, k, at_ => match row[at_]? with
    | none => .inl at_
    | some t => match (famOf rs k)[t]? with
      | none => .inl at_
      | some r => match rdS row (rdN rs lay row n) r (lay r.2.1) (at_ + 1) [] with
        | .inl e => .inl e
        | .inr (acc, en) => .inr (treeOf r acc, en)
/-- what the results keep -/
structure RdOk (rs : List Row) (n : Nat) (row : List Nat) (k : Str) (at_ : Nat) (o : RR PyData) : Prop where
  bad : ∀ e, o = .inl e → e ≤ row.length
  good : ∀ d en, o = .inr (d, en) → fitB rs n k d = true ∧ at_ < en ∧ en ≤ row.length
theorem lookA_new {acc : Acc} {x : Str} {d : PyData} (h : x ∉ acc.map (·.1)) : lookA (acc ++ [(x, d)]) x = d := by
  unfold lookA
  rw [List.find?_append, List.find?_eq_none.mpr fun q hq => by
    simp only [decide_eq_true_eq]
    exact fun e => h (e ▸ List.mem_map_of_mem hq)]
  simp
theorem lookA_old {acc : Acc} {x y : Str} {d : PyData} (h : y ≠ x) : lookA (acc ++ [(x, d)]) y = lookA acc y := by
  unfold lookA
  rw [List.find?_append]
  cases e : acc.find? fun q => decide (q.1 = y) with
  | some q => rfl
  | none =>
    have : decide (x = y) = false := decide_eq_false fun z => h z.symm
    simp [this]
theorem rdP_ok {rs : List Row} (val : ValidT rs) {row : List Nat} (hb : ∀ b ∈ row, b ≤ 255) {n : Nat} {f : Str → Nat → RR PyData} (hf : ∀ k a, a ≤ row.length → RdOk rs n row k a (f k a)) {r : Row} (hr : r ∈ rs) {s : LSlot} {p : Part} (hp : p ∈ r.2.2) (ep : p.1 = s.2) {a : Nat} (ha : a ≤ row.length) :
    (∀ e, rdP row f r s a = .inl e → e ≤ row.length) ∧ ∀ d en, rdP row f r s a = .inr (d, en) → valB (fitB rs n) p.2.1 d = true ∧ a < en ∧ en ≤ row.length := by
  have epa : partAt r.2.2 s.2 = p := by rw [← ep]; exact partAt_of (val.ndp hr) hp
  unfold rdP valB
  rw [epa]
  by_cases hk : p.2.1 = ("byte" : Str)
  · simp only [if_pos hk]
    cases e : row[a]? with
    | none =>
      refine ⟨fun e h => ?_, fun d en h => ?_⟩
      · cases h; exact Nat.le_refl _
      · cases h
    | some b =>
      refine ⟨fun e h => ?_, fun d en h => ?_⟩
      · cases h
      · cases h
        have := (List.getElem?_eq_some_iff.mp e).1
        have hb' := hb b (List.mem_of_getElem? e)
        refine ⟨?_, by omega, by omega⟩
        show (decide ((0 : Int) ≤ (b : Nat)) && decide (((b : Nat) : Int) ≤ 255)) = true
        rw [decide_eq_true (by omega), decide_eq_true (by omega)]; rfl
  · simp only [if_neg hk]
    by_cases hs : s.1 = true
    · simp only [if_pos hs]
      by_cases hl : row.length < a + 2
      · simp only [if_pos hl]
        refine ⟨fun e h => ?_, fun d en h => ?_⟩
        · cases h; exact Nat.le_refl _
        · cases h
      · simp only [if_neg hl]
        have := hf p.2.1 (a + 2) (by omega)
        cases e : f p.2.1 (a + 2) with
        | inl e1 =>
          refine ⟨fun e' h => ?_, fun d en h => ?_⟩
          · cases h; exact this.bad _ e
          · cases h
        | inr q =>
          obtain ⟨d1, en1⟩ := q
          obtain ⟨g1, g2, g3⟩ := this.good _ _ e
          dsimp only
          split
          · refine ⟨fun e' h => ?_, fun d en h => ?_⟩
            · cases h
            · cases h; exact ⟨g1, by omega, g3⟩
          · refine ⟨fun e' h => ?_, fun d en h => ?_⟩
            · cases h; exact ha
            · cases h
    · simp only [if_neg hs]
      have := hf p.2.1 a ha
      exact ⟨this.bad, this.good⟩
theorem rdS_ok {rs : List Row} (val : ValidT rs) {row : List Nat} (hb : ∀ b ∈ row, b ≤ 255) {n : Nat} {f : Str → Nat → RR PyData} (hf : ∀ k a, a ≤ row.length → RdOk rs n row k a (f k a)) {r : Row} (hr : r ∈ rs) : ∀ (sl : List LSlot) (a : Nat) (acc : Acc), a ≤ row.length →
    (∀ s ∈ sl, s.2 ∈ r.2.2.map (·.1)) → (acc.map (·.1) ++ sl.map (·.2)).Nodup → (∀ p ∈ r.2.2, p.1 ∈ acc.map (·.1) → valB (fitB rs n) p.2.1 (lookA acc p.1) = true) →
    (∀ e, rdS row f r sl a acc = .inl e → e ≤ row.length) ∧ ∀ acc2 en, rdS row f r sl a acc = .inr (acc2, en) → a ≤ en ∧ en ≤ row.length ∧ acc2.map (·.1) = acc.map (·.1) ++ sl.map (·.2) ∧ ∀ p ∈ r.2.2, p.1 ∈ acc2.map (·.1) → valB (fitB rs n) p.2.1 (lookA acc2 p.1) = true
  | [], a, acc, ha, _, _, hv => by
    unfold rdS
    refine ⟨fun e h => (by cases h), fun acc2 en h => ?_⟩
    cases h
    exact ⟨Nat.le_refl _, ha, by simp, hv⟩
  | s :: sl, a, acc, ha, hn, nd, hv => by
    obtain ⟨p, hp, ep⟩ := List.mem_map.mp (hn s (List.mem_cons_self ..))
    have ep : p.1 = s.2 := ep
    obtain ⟨z1, z2⟩ := rdP_ok val hb hf hr hp ep ha
    unfold rdS
    cases e : rdP row f r s a with
    | inl e1 =>
      refine ⟨fun e' h => ?_, fun acc2 en h => (by cases h)⟩
      cases h; exact z1 _ e
    | inr q =>
      obtain ⟨d, en1⟩ := q
      obtain ⟨g1, g2, g3⟩ := z2 _ _ e
      have new : s.2 ∉ acc.map (·.1) := fun z => (List.nodup_append.mp nd).2.2 _ z s.2 (by simp) rfl
      dsimp only
      obtain ⟨y1, y2⟩ := rdS_ok val hb hf hr sl en1 (acc ++ [(s.2, d)]) g3 (fun t ht => hn t (List.mem_cons_of_mem _ ht)) (by rw [List.map_append]; simpa using nd) (fun p2 hp2 hm => by
        by_cases hh : p2.1 = s.2
        · have : p2 = p := part_unique (val.ndp hr) hp2 hp (hh.trans ep.symm)
          subst this
          rw [ep, lookA_new new]; exact g1
        · rw [lookA_old hh]
          refine hv p2 hp2 ?_
          rw [List.map_append, List.mem_append] at hm
          rcases hm with z | z
          · exact z
          · simp at z; exact absurd z hh)
      refine ⟨y1, fun acc2 en h => ?_⟩
      obtain ⟨h1, h2, h3, h4⟩ := y2 acc2 en h
      refine ⟨by omega, h2, ?_, h4⟩
      rw [h3, List.map_append]; simp
theorem allV_map {f : Str → PyData → Bool} {g : Part → PyData} : ∀ {ps : List Part}, (∀ p ∈ ps, valB f p.2.1 (g p) = true) → allV f ps (ps.map g) = true
  | [], _ => rfl
  | p :: ps, h => by
    show (valB f p.2.1 (g p) && allV f ps (ps.map g)) = true
    rw [h p (List.mem_cons_self ..), allV_map fun q hq => h q (List.mem_cons_of_mem _ hq)]; rfl
theorem fam_mem {rs : List Row} {k : Str} {i : Nat} {r : Row} (h : (famOf rs k)[i]? = some r) : r ∈ rs ∧ r.1 = k := by
  have := List.mem_of_getElem? h
  obtain ⟨h1, h2⟩ := List.mem_filter.mp this
  exact ⟨h1, of_decide_eq_true h2⟩
theorem lay_nd {rs : List Row} (val : ValidT rs) {lay : LayM} (ok : LayOk rs lay) {r : Row} (hr : r ∈ rs) : ((lay r.2.1).map (·.2)).Nodup := (ok.perm r hr).nodup_iff.mpr (val.ndp hr)
theorem rdN_ok {rs : List Row} (val : ValidT rs) {lay : LayM} (ok : LayOk rs lay) {row : List Nat} (hb : ∀ b ∈ row, b ≤ 255) : ∀ (n : Nat) (k : Str) (a : Nat), a ≤ row.length → RdOk rs n row k a (rdN rs lay row n k a)
  | 0, k, a, ha => ⟨fun e h => (by cases h; exact ha), fun d en h => (by cases h)⟩
  | n + 1, k, a, ha => by
    unfold rdN
    cases e : row[a]? with
    | none => exact ⟨fun e h => (by cases h; exact ha), fun d en h => (by cases h)⟩
    | some t =>
      dsimp only
      have la := (List.getElem?_eq_some_iff.mp e).1
      cases e2 : (famOf rs k)[t]? with
      | none => exact ⟨fun e h => (by cases h; exact ha), fun d en h => (by cases h)⟩
      | some r =>
        dsimp only
        obtain ⟨hr, ek⟩ := fam_mem e2
        obtain ⟨z1, z2⟩ := rdS_ok val hb (rdN_ok val ok hb n) hr (lay r.2.1) (a + 1) [] (by omega) (ok.names hr) (by simpa using lay_nd val ok hr) (fun p _ h => absurd h (by simp))
        cases e3 : rdS row (rdN rs lay row n) r (lay r.2.1) (a + 1) [] with
        | inl e1 => exact ⟨fun e h => (by cases h; exact z1 _ e3), fun d en h => (by cases h)⟩
        | inr q =>
          obtain ⟨acc, en⟩ := q
          obtain ⟨g1, g2, g3, g4⟩ := z2 _ _ e3
          refine ⟨fun e h => (by cases h), fun d en' h => ?_⟩
          cases h
          refine ⟨?_, by omega, g2⟩
          unfold treeOf
          rw [← ek, fitB_row val.nd hr]
          refine allV_map fun p hp => g4 p hp ?_
          rw [g3]
          simp only [List.map_nil, List.nil_append]
          exact (ok.perm r hr).mem_iff.mpr (List.mem_map_of_mem hp)
end Bg
set_option Elab.async false
set_option linter.all false
set_option maxRecDepth 100000
set_option maxHeartbeats 4000000
namespace Bg
open PySem PySem.Spec PyProof.Rows L2
/-- a text whose repr is no trouble -/
def Tame (y : Str) : Prop := (reprText y).length ≤ 1000
def NT (K : PySem.W.Frag) : Addr := He.ga K "NotThere"
section
variable {P : Program} {w : World} {K : PySem.W.Frag} {mg : Str → Option Value} {base : Heap} {fd : FuncData}
theorem unk_len : ("unknown: " : Str).length = 9 := by decide +kernel
theorem sl_big : 2000 ≤ sizeLine := by rw [sizeLine_eq]; decide
def spNTI (K : PySem.W.Frag) : Sp := fun vs H Q _ => ∃ (a : Addr) (y : Str), vs = [.ref a, .str y] ∧ Tame y ∧ H a = some (exo a (NT K) none) ∧ ∀ dx, H dx = none → dx ≠ a → Q .non (upd (upd H dx (exd dx [("name", .str y)])) a (exo a (NT K) (some dx)))
theorem ok_nti (T : Tx K mg) (F : FnP K ("NotThere", some "__init__") "__init__" "NotThere.__init__" s_NotThere_init fd) : FnOk P w K mg base CX0 1 (He.fAd K ("NotThere", some "__init__")) fd ["self", "name"] (spNTI K) := by
  refine F.ok sc_NotThere_init (fun vs H Q E h => ?_) (fun cdv A outer s H vs Q E hr h => ?_)
  · obtain ⟨a, y, rfl, _⟩ := h; rfl
  obtain ⟨a, y, rfl, ty, ha, q⟩ := h
  refine ⟨_, PSs.nox (pss_cons (ps_expr (pe_ginit T.gi (by rfl) T.g_GroveError (pa_cons (pv 0) (pa_cons (pe_joined (.cons pe_str (.cons (pe_fmtR (pv 1)) .nil))) pa_nil))))
    (pss_one (ps_ost (f := "name") (pv 0) (pv 1)))), ?_⟩
  have tl : (Str.empty ++ ("unknown: " : Str)).length ≤ 9 := by decide +kernel
  have e0 : (Str.empty ++ ("unknown: " : Str)) = ("unknown: " : Str) := by decide +kernel
  have b := sl_big
  refine ⟨_, rfl, _, rfl, Nat.le_trans tl (by omega), _, rfl, .inl ⟨y, rfl, Nat.le_trans ty (by omega), _, rfl, ?_, a, NT K, [_], rfl, (by show 1 ≤ 1000; decide), T.x_NotThere.oex, ha, ?_⟩⟩
  · rw [e0, Str.length_append, unk_len]
    have : (reprText y).length ≤ 1000 := ty
    omega
  exact ⟨_, rfl, _, rfl, a, NT K, rfl, T.x_NotThere.oex, T.na_NotThere_name, .inl ⟨ha, fun dx hdx ne => q dx hdx ne⟩⟩
/-- the error NotThere with the name k leaves, its dict new -/
def RaisesNT (K : PySem.W.Frag) (H : Hp) (k : Str) (E : XK) : Prop := ∀ dx H', Same H H' → H' dx = some (.xd [("name", .str k)]) → E (.ref (NT K)) (some dx) H'
theorem raise_read {H : Hp} {k : Str} {E : XK} (ty : Tame k) (q : RaisesNT K H k E) : ([V.str k] : List V).length ≤ 1000 ∧ ∀ a, H a = none → spNTI K (.ref a :: ([.str k] ++ [])) (upd H a (exo a (NT K) none))
    (fun v H2 => v = .non ∧ ∃ (d : Addr) (fs : List (Str × V)), H2 a = some (exo a (NT K) (some d)) ∧ H2 d = some (exd d fs) ∧ H d = none ∧ E (.ref (NT K)) (some d) (upd (L2.del H2 a) d (.xd fs))) (fun _ _ _ => False) := by
  refine ⟨by show 1 ≤ 1000; decide, fun a ha => ⟨a, k, rfl, ty, upd_same, fun dx hdx ne => ⟨rfl, dx, [("name", .str k)], upd_same, by rw [upd_ne ne]; exact upd_same, ?_, q dx _ (fun b o e => ?_) upd_same⟩⟩⟩
  · rw [upd_ne ne] at hdx; exact hdx
  · have n1 : b ≠ a := ne_of_none e ha
    have n2 : b ≠ dx := ne_of_none (by rw [upd_ne n1]; exact e) hdx
    rw [upd_ne n2, del_ne n1, upd_ne n1, upd_ne n2, upd_ne n1]; exact e
end
end Bg
set_option Elab.async false
set_option linter.all false
set_option maxRecDepth 100000
set_option maxHeartbeats 4000000
/-! the error BadRow -/
namespace Bg
open PySem PySem.Spec PyProof.Rows L2
def BR (K : PySem.W.Frag) : Addr := He.ga K "BadRow"
section
variable {P : Program} {w : World} {K : PySem.W.Frag} {mg : Str → Option Value} {base : Heap} {fd : FuncData}
theorem nat_text {i : Nat} (h : i ≤ 1000000) : (Str.ofString (toString ((i : Nat) : Int))).length ≤ 1000001 := by
  have := toDigits_len_le 10 i
  have e : (Str.ofString (toString ((i : Nat) : Int))).length = (Nat.toDigits 10 i).length := by
    show (Str.ofString (toString (Int.ofNat i))).length = _
    rw [text_ofNat]; unfold Str.length; simp
  omega
theorem nat_log {i : Nat} (h : i ≤ 1000000) : ((i : Nat) : Int).natAbs.log2 < 1920 := by
  show i.log2 < 1920
  by_cases e : i = 0
  · subst e; decide
  · exact Nat.lt_of_lt_of_le ((Nat.log2_lt e).mpr (show i < 2 ^ 20 by omega)) (by decide)
def spBRI (K : PySem.W.Frag) : Sp := fun vs H Q _ => ∃ (a : Addr) (i : Nat), vs = [.ref a, .int (i : Nat)] ∧ i ≤ 1000000 ∧ H a = some (exo a (BR K) none) ∧ ∀ dx, H dx = none → dx ≠ a → Q .non (upd (upd H dx (exd dx [("at", .int (i : Nat))])) a (exo a (BR K) (some dx)))
theorem ok_bri (T : Tx K mg) (F : FnP K ("BadRow", some "__init__") "__init__" "BadRow.__init__" s_BadRow_init fd) : FnOk P w K mg base CX0 1 (He.fAd K ("BadRow", some "__init__")) fd ["self", "at"] (spBRI K) := by
  refine F.ok sc_BadRow_init (fun vs H Q E h => ?_) (fun cdv A outer s H vs Q E hr h => ?_)
  · obtain ⟨a, y, rfl, _⟩ := h; rfl
  obtain ⟨a, i, rfl, ti, ha, q⟩ := h
  refine ⟨_, PSs.nox (pss_cons (ps_expr (pe_ginit T.gi (by rfl) T.g_GroveError (pa_cons (pv 0) (pa_cons (pe_joined (.cons pe_str (.cons (pe_fmt (pv 1)) .nil))) pa_nil))))
    (pss_one (ps_ost (f := "at") (pv 0) (pv 1)))), ?_⟩
  have tl : (Str.empty ++ ("the row cannot be read at index " : Str)).length ≤ 40 := by decide +kernel
  have tl3 := nat_text ti
  have b : 2000000 ≤ sizeLine := by rw [sizeLine_eq]; decide
  refine ⟨_, rfl, _, rfl, Nat.le_trans tl (by omega), _, rfl, .inr ⟨((i : Nat) : Int), rfl, nat_log ti, _, rfl, ?_, a, BR K, [_], rfl, (by show 1 ≤ 1000; decide), T.x_BadRow.oex, ha, ?_⟩⟩
  · rw [Str.length_append]
    have : (toString ((i : Nat) : Int) : Str).length = (Str.ofString (toString ((i : Nat) : Int))).length := rfl
    omega
  exact ⟨_, rfl, _, rfl, a, BR K, rfl, T.x_BadRow.oex, T.na_BadRow_at, .inl ⟨ha, fun dx hdx ne => q dx hdx ne⟩⟩
/-- the error BadRow with the index i leaves, its dict new -/
def RaisesBR (K : PySem.W.Frag) (H : Hp) (i : Nat) (E : XK) : Prop := ∀ dx H', Same H H' → H' dx = some (.xd [("at", .int (i : Nat))]) → E (.ref (BR K)) (some dx) H'
theorem RaisesBR.same {H H1 : Hp} {i : Nat} {E : XK} (q : RaisesBR K H i E) (s : Same H H1) : RaisesBR K H1 i E := fun dx H' s' e => q dx H' (s.trans s') e
theorem raiseR_read {H : Hp} {i : Nat} {E : XK} (n1000 : i ≤ 1000000) (q : RaisesBR K H i E) : ([V.int (i : Nat)] : List V).length ≤ 1000 ∧ ∀ a, H a = none → spBRI K (.ref a :: ([.int (i : Nat)] ++ [])) (upd H a (exo a (BR K) none))
    (fun v H2 => v = .non ∧ ∃ (d : Addr) (fs : List (Str × V)), H2 a = some (exo a (BR K) (some d)) ∧ H2 d = some (exd d fs) ∧ H d = none ∧ E (.ref (BR K)) (some d) (upd (L2.del H2 a) d (.xd fs))) (fun _ _ _ => False) := by
  refine ⟨by show 1 ≤ 1000; decide, fun a ha => ⟨a, i, rfl, n1000, upd_same, fun dx hdx ne => ⟨rfl, dx, [("at", .int (i : Nat))], upd_same, by rw [upd_ne ne]; exact upd_same, ?_, q dx _ (fun b o e => ?_) upd_same⟩⟩⟩
  · rw [upd_ne ne] at hdx; exact hdx
  · have n1 : b ≠ a := ne_of_none e ha
    have n2 : b ≠ dx := ne_of_none (by rw [upd_ne n1]; exact e) hdx
    rw [upd_ne n2, del_ne n1, upd_ne n1, upd_ne n2, upd_ne n1]; exact e
end
end Bg
set_option Elab.async false
set_option linter.all false
set_option maxRecDepth 100000
set_option maxHeartbeats 4000000
namespace Bg
open PySem PySem.Spec PyProof.Rows L2
/-! a kinds table just made: its dicts were not there before -/
theorem none_same {H H' : Hp} (s : Same H H') {b : Addr} (h : H' b = none) : H b = none := by
  cases e : H b with
  | none => rfl
  | some o => rw [s _ _ e] at h; cases h
theorem none_but {x : Addr} {H H' : Hp} (s : But x H H') {b : Addr} (n : b ≠ x) (h : H' b = none) : H b = none := by
  cases e : H b with
  | none => rfl
  | some o => rw [s _ _ n e] at h; cases h
def KindsNew (K : PySem.W.Frag) (H0 H : Hp) (x : Addr) (rs : List Row) : Prop := ∃ as, Dicts as H ∧ (∀ a ∈ as, H0 a = none) ∧ ∀ H', Told as H H' → KindsF K H' x rs
theorem told_new {K : PySem.W.Frag} {H0 H : Hp} {x dx dm dk dp dl tn to : Addr} {rs : List Row} {mvs kvs pvs lvs : List (Key × V)} (h0 : H x = some (.ins (CK K) dx (kF6 dm dk dp dl tn to))) (h1 : H dm = some (.dK mvs)) (h2 : MkD H mvs rs) (h3 : H dk = some (.dK kvs)) (h4 : KindD kvs rs)
    (h5 : H dp = some (.dK pvs)) (h6 : PartsD H pvs rs) (h7 : H dl = some (.dK lvs)) (h8 : LeastT H lvs rs) (h9 : TextsAt H (.ref tn) (distinct (rkinds rs))) (h10 : TextsAt H (.ref to) (distinct (rmakers rs)))
    (n1 : H0 dm = none) (n3 : H0 dk = none) (n5 : H0 dp = none) (n7 : H0 dl = none) (n6 : KD pvs (distinct (rmakers rs)) fun _ v => ∀ d, v = .ref d → H0 d = none) : KindsNew K H0 H x rs := by
  have nd : (pvs.map (·.1)).Nodup := by
    rw [h6.1]
    exact nodup_inr (nodup_distinct _)
  have inn : ∀ d ∈ refsOf pvs, (∃ hv, H d = some (.dK hv)) ∧ H0 d = none := by
    intro d hd
    obtain ⟨⟨k, v⟩, hm, e⟩ := List.mem_filterMap.mp hd
    obtain ⟨i, hi⟩ := List.getElem?_of_mem hm
    obtain ⟨j, hj, ej⟩ := KD.at h6 hi
    cases ej
    obtain ⟨r, _, _, d', hv, e2, hd', _⟩ := h6.2 j v (valV_of_mem nd hm)
    have := n6.2 j v (valV_of_mem nd hm) d' e2
    subst e2
    cases e
    exact ⟨⟨hv, hd'⟩, this⟩
  have d : Dicts (dm :: dk :: dp :: dl :: refsOf pvs) H := by
    intro a ha
    simp only [List.mem_cons] at ha
    rcases ha with e | e | e | e | e
    · rw [e]; exact ⟨_, h1⟩
    · rw [e]; exact ⟨_, h3⟩
    · rw [e]; exact ⟨_, h5⟩
    · rw [e]; exact ⟨_, h7⟩
    · exact (inn a e).1
  refine ⟨dm :: dk :: dp :: dl :: refsOf pvs, d, ?_, fun H' t => ?_⟩
  · intro a ha
    simp only [List.mem_cons] at ha
    rcases ha with e | e | e | e | e
    · rw [e]; exact n1
    · rw [e]; exact n3
    · rw [e]; exact n5
    · rw [e]; exact n7
    · exact (inn a e).2
  have im := t.imms d
  refine ⟨dx, dm, dk, dp, dl, tn, to, t.still d (by intro _ z; cases z) h0, mvs, kvs, pvs, lvs, ⟨t.at_ _ (by simp) _ h1, h2.mono im.tups⟩, ⟨t.at_ _ (by simp) _ h3, h4⟩, ⟨t.at_ _ (by simp) _ h5, ?_⟩, ⟨t.at_ _ (by simp) _ h7, h8.mono im.tups⟩, h9.mono im.tups, h10.mono im.tups⟩
  refine ⟨h6.1, fun k v e => ?_⟩
  obtain ⟨r, hr, e1, d', hv, e2, hd', hh⟩ := h6.2 k v e
  subst e2
  exact ⟨r, hr, e1, d', hv, rfl, t.at_ d' (by simp [mem_refsOf (mem_of_valV e)]) _ hd', hh.mono im.tups⟩
section
variable {P : Program} {w : World} {K : PySem.W.Frag} {mg : Str → Option Value} {base : Heap} {fd : FuncData}
def spInitN (K : PySem.W.Frag) : Sp := fun vs H Q _ => ∃ (x dx a : Addr) (rs : List Row), vs = [.ref x, .ref a] ∧ H x = some (.ins (CK K) dx []) ∧ RowsAt H a rs ∧ ValidT rs ∧ ∀ H', But x H H' → KindsNew K H H' x rs → Q .non H'
theorem ok_initN (T : Tx K mg) (F : FnP K ("Kinds", some "__init__") "__init__" "Kinds.__init__" s_Kinds_init fd) : FnOk P w K mg base CX0 6 (He.fAd K ("Kinds", some "__init__")) fd ["self", "rows"] (spInitN K) := by
  obtain ⟨f1, F1⟩ := T.F_check_each_row
  obtain ⟨f2, F2⟩ := T.F_check_inner_kinds
  obtain ⟨f3, F3⟩ := T.F_least_trees
  obtain ⟨f4, F4⟩ := T.F_check_finite
  obtain ⟨f5, F5⟩ := T.F_makers_by_kind
  obtain ⟨f6, F6⟩ := T.F_holdings
  refine F.ok sc_Kinds_init (fun vs H Q E h => ?_) (fun cdv A outer s H vs Q E hr h => ?_)
  · obtain ⟨x, _, _, _, rfl, _⟩ := h; rfl
  obtain ⟨x, dx, a, rs, rfl, hx, hra, val, q⟩ := h
  obtain ⟨us, ha, al⟩ := id hra
  have hu := hu_of hr
  have nd := sc_Kinds_init.nd
  have cl := T.cl_Kinds
  refine ⟨_, PSs.nox (pss_cons (ps_if (pt_cmpR op_eq (pe_callB call_len_seq (by rfl) T.n_len PySem.boot_len (pa_cons (pv 1) pa_nil)) pe_int (nomark _)) (pss_one ps_never) pss_nil)
    (pss_cons (ps_expr (pe_call (ok_check_each_row T F1) hr (by rfl) T.g_check_each_row T.k_check_each_row (b_check_each_row F1) .nil pass0 (pa_cons (pv 1) pa_nil)))
    (pss_cons (ps_expr (pe_call (ok_check_inner_kinds T F2) (hr.mono (by decide)) (by rfl) T.g_check_inner_kinds T.k_check_inner_kinds (b_check_inner_kinds F2) .nil pass0 (pa_cons (pv 1) pa_nil)))
    (pss_cons (ps_set (i := 2) nd rfl (Or.inr rfl) (pe_call (ok_least_trees T F3) (hr.mono (by decide)) (by rfl) T.g_least_trees T.k_least_trees (b_least_trees F3) .nil pass0 (pa_cons (pv 1) pa_nil)))
    (pss_cons (ps_expr (pe_call (ok_check_finite T F4) (hr.mono (by decide)) (by rfl) T.g_check_finite T.k_check_finite (b_check_finite F4) .nil pass0 (pa_cons (pv 1) (pa_cons (pv 2) pa_nil))))
    (pss_cons (ps_fld (pv 0) (pe_call (ok_makers_by_kind T F5) (hr.mono (by decide)) (by rfl) T.g_makers_by_kind T.k_makers_by_kind (b_makers_by_kind F5) .nil pass0 (pa_cons (pv 1) pa_nil)) rfl)
    (pss_cons (ps_fld (pv 0) (pe_dc (own := [("kind", 3), ("maker", 4), ("parts", 5)]) (g := gRow K 3 4 5) rfl nd (pi_list (pv 1)) (blkOk_by (N := ["self", "rows", "least", "kind", "maker", "parts"]) (sc := defScope s_Kinds_init) (by decide +kernel))
      (fun _ _ _ _ _ => pg_tup rfl (pgs_cons (pg_name (i := 3) nd rfl (Or.inl rfl)) (pgs_cons (pg_name (i := 4) nd rfl (Or.inl rfl)) (pgs_cons (pg_name (i := 5) nd rfl (Or.inl rfl)) pgs_nil)))) (fun _ _ _ _ _ => pts_nil) (fun _ _ _ _ _ => pv 4) (fun _ _ _ _ _ => pv 3)) rfl)
    (pss_cons (ps_fld (pv 0) (pe_dc (own := [("kind", 3), ("maker", 4), ("parts", 5)]) (g := gRow K 3 4 5) rfl nd (pi_list (pv 1)) (blkOk_by (N := ["self", "rows", "least", "kind", "maker", "parts"]) (sc := defScope s_Kinds_init) (by decide +kernel))
      (fun _ _ _ _ _ => pg_tup rfl (pgs_cons (pg_name (i := 3) nd rfl (Or.inl rfl)) (pgs_cons (pg_name (i := 4) nd rfl (Or.inl rfl)) (pgs_cons (pg_name (i := 5) nd rfl (Or.inl rfl)) pgs_nil)))) (fun _ _ _ _ _ => pts_nil) (fun _ _ _ _ _ => pv 4)
      (fun _ _ _ _ _ => pe_call (sp := spHoldings) (E := E0) (ok_holdings T F6) (hr.mono (by decide)) (by rfl) T.g_holdings T.k_holdings (b_holdings F6) .nil pass0 (pa_cons (pv 5) pa_nil))) rfl)
    (pss_cons (ps_fld (pv 0) (pe_lock (pe_dc (own := [("kind", 3)]) (g := gName 3) rfl nd (pi_keys (pe_fld (pv 0) rfl)) (blkOk_by (N := ["self", "rows", "least", "kind", "maker", "parts"]) (sc := defScope s_Kinds_init) (by decide +kernel))
      (fun _ _ _ _ _ => pg_name (i := 3) nd rfl (Or.inl rfl)) (fun _ _ _ _ _ => pts_nil) (fun _ _ _ _ _ => pv 3) (fun _ _ _ _ _ => pe_ix (r := rIxT K) ix_tup (pe_dget hu (pv 2) (pv 3) (fun _ _ => rfl)) pe_int (fun _ _ => rfl)))) rfl)
    (pss_cons (ps_fld (pv 0) (pe_callTy (call_tuple_dK rfl) (by rfl) T.n_tuple (by decide +kernel) (pa_cons (pe_fld (pv 0) rfl) pa_nil)) rfl)
    (pss_one (ps_fld (pv 0) (pe_callTy (call_tuple_dK rfl) (by rfl) T.n_tuple (by decide +kernel) (pa_cons (pe_fld (pv 0) rfl) pa_nil)) rfl)))))))))))), ?_⟩
  -- the checks
  have nz : decide (V.int ((us.length : Nat) : Int) = V.int 0) = false := by
    have : us.length ≠ 0 := by rw [al.1]; intro z; exact val.ne (List.length_eq_zero_iff.mp z)
    exact decide_eq_false fun z => this (by have := V.int.inj z; omega)
  refine ⟨_, rfl, a, _, rfl, .inl (SqL.of ha), rfl, _, rfl, ?_⟩
  rw [nz]
  refine iteF ⟨_, rfl, a, rs, rfl, hra, val.short, val.each, fun H1 s1 => ?_⟩
  refine ⟨_, rfl, a, rs, rfl, hra.mono s1, val.short, val.inner, fun H2 s2 => ?_⟩
  have s02 := s1.trans s2
  refine ⟨_, rfl, a, rs, rfl, hra.mono s02, val.short.1, val.four, val.each.kinds, fun dl0 H3 s3 hdl0 ⟨lvs0, hl0, ld0⟩ => ?_⟩
  have s03 := s02.trans s3
  obtain ⟨rank, fin⟩ := val.fin
  refine ⟨_, rfl, _, rfl, a, dl0, rs, lvs0, _, rfl, hra.mono s03, hl0, KD.mono ld0 (fun _ _ _ => trivial), least_all fin, fun H4 s4 => ?_⟩
  have s04 := s03.trans s4
  have hl4 := s4 _ _ hl0
  have ld4 : LeastD H4 lvs0 (leastOf rs).1 (leastOf rs).2 := KD.mono ld0 fun _ _ z => z.mono s4
  have hx4 := s04 _ _ hx
  have ndl0 : dl0 ≠ x := ne_of hl4 hx4 (by intro z; cases z)
  -- self._makers
  refine ⟨_, rfl, a, rs, rfl, hra.mono s04, val.short.1, fun dm mvs H5 s5 hdm hm5 mk5 => ?_⟩
  have s45 : Same H4 H5 := s5
  have hx5 := s5 _ _ hx4
  refine ⟨_, rfl, x, CK K, dx, [], rfl, hx5, cl, T.na_Kinds_makers_, by decide, ?_⟩
  generalize hH6 : upd H5 x (.ins (CK K) dx (putF "_makers" (.ref dm) [])) = H6
  have hx6 : H6 x = some (.ins (CK K) dx (kF1 dm)) := by rw [← hH6]; exact upd_same
  have b6 : But x H H6 := fun b o n e => by rw [← hH6, upd_ne n]; exact s5 _ _ (s04 _ _ e)
  have o6 : ∀ b o, b ≠ x → H5 b = some o → H6 b = some o := fun b o n e => by rw [← hH6, upd_ne n]; exact e
  have ndm : dm ≠ x := ne_of hm5 hx5 (by intro z; cases z)
  have t56 : Tups H5 H6 := by rw [← hH6]; exact tups_upd fun u f z => by rw [hx5] at z; cases z; exact f
  have hm6 := o6 _ _ ndm hm5
  have mk6 : MkD H6 mvs rs := mk5.mono t56
  have hl6 := o6 _ _ ndl0 (s5 _ _ hl4)
  have nax : a ≠ x := ne_of ha hx (by intro z; cases z)
  have al6 : All2 (RowAt H6) us rs := al.mono fun _ _ z => z.mono (Tups.trans (tups_of (s04.trans s5)) t56)
  have ha6 : H6 a = some (.lst us) := b6 _ _ nax ha
  have ent6 : LeastD H6 lvs0 (leastOf rs).1 (leastOf rs).2 := KD.mono ld4 fun _ _ z => by
    obtain ⟨a1, a2, a3, rfl, h1, h2, h3⟩ := z.mono s5
    exact ⟨a1, a2, a3, rfl, o6 _ _ (ne_of h1 hx5 (by intro z; cases z)) h1, o6 _ _ (ne_of h2 hx5 (by intro z; cases z)) h2, h3.mono t56⟩
  clear hH6
  -- self._kinds
  refine ⟨_, rfl, a, rfl, ⟨_, .inl (.inl ha6)⟩, fun dk hdk => dc_it (walk_list (K := K) (a := a) (xs := us)) (fun i H7 => Same H6 H7 ∧ ∃ kvs, H7 dk = some (.dK kvs) ∧ KD kvs (distinct (rmakers (rs.take i))) fun m v => ∃ r ∈ rs, r.2.1 = m ∧ v = .str r.1)
    ⟨same_new hdk, [], upd_same, KD.nil⟩ (fun i H7 _ z => .inl (.inl (z.1 _ _ ha6))) ?_ ?_⟩
  · rintro i y H7 H8 hi ⟨s7, kvs, hk, kd⟩ ⟨rfl, hy⟩
    obtain ⟨r, hrr, b, u, rfl, hb, pa⟩ := al6.get hy
    have kl : kvs.length ≤ 1000 := by rw [kd.length]; exact Nat.le_trans (rmakers_len i) val.short.1
    refine ⟨b, _, rfl, .inl (.inl (s7 _ _ hb)), rfl, _, _, rfl, _, _, rfl, _, _, rfl, rfl, rfl, _, rfl, _, rfl, kvs, Sum.inr r.2.1, rfl, hk, small1000 kl, same_mut s7 hdk, _, upd_same, ?_⟩
    rw [rmakers_take_succ hrr, distinct_snoc]
    exact kd.put (fun j u _ hu => hu) ⟨r, List.mem_of_getElem? hrr, rfl, rfl⟩
  rintro H7 ⟨s7, kvs, hk7, kd7⟩
  rw [al.1, List.take_length] at kd7
  have hx7 := s7 _ _ hx6
  refine ⟨_, rfl, x, CK K, dx, _, rfl, hx7, cl, T.na_Kinds_kinds_, kF_len1, ?_⟩
  generalize hH8 : upd H7 x (.ins (CK K) dx (putF "_kinds" (.ref dk) (kF1 dm))) = H8
  have hx8 : H8 x = some (.ins (CK K) dx (kF2 dm dk)) := by rw [← hH8]; exact upd_same
  have o8 : ∀ b o, b ≠ x → H7 b = some o → H8 b = some o := fun b o n e => by rw [← hH8, upd_ne n]; exact e
  have b8 : But x H6 H8 := fun b o n e => o8 b o n (s7 _ _ e)
  have st8 : Still H7 H8 → True := fun _ => trivial
  have t68 : Tups H6 H8 := Tups.trans (tups_of s7) (by rw [← hH8]; exact tups_upd fun u f z => by rw [hx7] at z; cases z; exact f)
  have ndk : dk ≠ x := fun z => by rw [z, hx6] at hdk; cases hdk
  have hk8 := o8 _ _ ndk hk7
  have ha8 := b8 _ _ nax ha6
  clear hH8
  -- self._parts
  refine ⟨_, rfl, a, rfl, ⟨_, .inl (.inl ha8)⟩, fun dp hdp => dc_it (walk_list (K := K) (a := a) (xs := us)) (fun i H9 => Same H8 H9 ∧ ∃ pvs, H9 dp = some (.dK pvs) ∧ KD pvs (distinct (rmakers (rs.take i))) fun m v => ∃ r ∈ rs, r.2.1 = m ∧ ∃ d hv, v = .ref d ∧ H9 d = some (.dK hv) ∧ (d ≠ dp ∧ H8 d = none) ∧ HoldD H9 hv r.2.2)
    ⟨same_new hdp, [], upd_same, KD.nil⟩ (fun i H9 _ z => .inl (.inl (z.1 _ _ ha8))) ?_ ?_⟩
  · rintro i y H9 H10 hi ⟨s9, pvs, hp, kd⟩ ⟨rfl, hy⟩
    obtain ⟨r, hrr, b, u, rfl, hb, pa⟩ := al6.get hy
    have hmem := List.mem_of_getElem? hrr
    have kl : pvs.length ≤ 1000 := by rw [kd.length]; exact Nat.le_trans (rmakers_len i) val.short.1
    have t610 := Tups.trans t68 (tups_of s9)
    refine ⟨b, _, rfl, .inl (.inl (t610 _ _ trivial hb)), rfl, _, _, rfl, _, _, rfl, _, _, rfl, rfl, rfl, _, rfl, _, rfl, u, r.2.2, rfl, pa.mono t610, (by have := val.four r hmem; omega), fun d hv H11 s11 hd hd11 hold => ?_⟩
    have hp11 := s11 _ _ hp
    have ndp : d ≠ dp := fun z => by rw [z] at hd; rw [hd] at hp; cases hp
    have tp : ∀ v, Tups H11 (upd H11 dp (.dK (putK pvs (Sum.inr r.2.1) v))) := fun v => tups_upd fun u f z => by rw [hp11] at z; cases z; exact f
    refine ⟨pvs, Sum.inr r.2.1, rfl, hp11, small1000 kl, same_mut (s9.trans s11) hdp, _, upd_same, ?_⟩
    rw [rmakers_take_succ hrr, distinct_snoc]
    refine kd.put (fun j u' _ hu' => ?_) ⟨r, hmem, rfl, d, hv, rfl, by rw [upd_ne ndp]; exact hd11, ⟨ndp, none_same s9 hd⟩, hold.mono (tp _)⟩
    obtain ⟨r', m', e', d', hv', e2', hd', n', hh'⟩ := hu'
    exact ⟨r', m', e', d', hv', e2', by rw [upd_ne n'.1]; exact s11 _ _ hd', n', (hh'.mono (tups_of s11)).mono (tp _)⟩
  rintro H9 ⟨s9, pvs, hp9, kd9⟩
  rw [al.1, List.take_length] at kd9
  have hx9 := s9 _ _ hx8
  have fr9 : KD pvs (distinct (rmakers rs)) fun _ v => ∀ d, v = .ref d → H8 d = none := KD.mono kd9 fun _ _ z d0 e0 => by
    obtain ⟨r, m, e, d, hv, e2, hd, n, hh⟩ := z
    rw [e2] at e0; cases e0; exact n.2
  refine ⟨_, rfl, x, CK K, dx, _, rfl, hx9, cl, T.na_Kinds_parts_, kF_len2, ?_⟩
  generalize hH10 : upd H9 x (.ins (CK K) dx (putF "_parts" (.ref dp) (kF2 dm dk))) = H10
  have hx10 : H10 x = some (.ins (CK K) dx (kF3 dm dk dp)) := by rw [← hH10]; exact upd_same
  have o10 : ∀ b o, b ≠ x → H9 b = some o → H10 b = some o := fun b o n e => by rw [← hH10, upd_ne n]; exact e
  have b10 : But x H8 H10 := fun b o n e => o10 b o n (s9 _ _ e)
  have t910 : Tups H9 H10 := by rw [← hH10]; exact tups_upd fun u f z => by rw [hx9] at z; cases z; exact f
  have t610 : Tups H6 H10 := Tups.trans t68 (Tups.trans (tups_of s9) t910)
  have ndp : dp ≠ x := fun z => by rw [z, hx8] at hdp; cases hdp
  have hp10 := o10 _ _ ndp hp9
  have pd10 : PartsD H10 pvs rs := KD.mono kd9 fun _ _ z => by
    obtain ⟨r, m, e, d, hv, e2, hd, n, hh⟩ := z
    exact ⟨r, m, e, d, hv, e2, o10 _ _ (ne_of hd hx9 (by intro z; cases z)) hd, hh.mono t910⟩
  have hk10 := b10 _ _ ndk hk8
  have hm10 := b10 _ _ ndm (b8 _ _ ndm hm6)
  have mk10 : MkD H10 mvs rs := mk6.mono t610
  have hl10 := b10 _ _ ndl0 (b8 _ _ ndl0 hl6)
  have ent10 : LeastD H10 lvs0 (leastOf rs).1 (leastOf rs).2 := KD.mono ent6 fun _ _ z => by
    obtain ⟨a1, a2, a3, rfl, h1, h2, h3⟩ := z
    have n2 : a2 ≠ x := ne_of h2 hx6 (by intro z; cases z)
    exact ⟨a1, a2, a3, rfl, t610 _ _ trivial h1, b10 _ _ n2 (b8 _ _ n2 h2), h3.mono t610⟩
  clear hH10
  -- self._least
  refine ⟨dm, _, hm10, trivial, fun od => ?_⟩
  have nml : dl0 ≠ dm := fun z => by rw [z] at hl4; rw [hl4] at hdm; cases hdm
  have hxl : (upd H10 dm (.frz od (.dK mvs))) x = some (.ins (CK K) dx (kF3 dm dk dp)) := by rw [upd_ne ndm.symm]; exact hx10
  refine ⟨_, rfl, x, CK K, dx, _, _, rfl, hxl, cl, T.na_Kinds_makers_, kF4_makers, dm, od, rfl, .inl ⟨mvs, upd_same, fun dl hdl => ?_⟩⟩
  have ndl : dl ≠ dm := fun z => by rw [z, upd_same] at hdl; cases hdl
  have hdl10 : H10 dl = none := by rw [upd_ne ndl] at hdl; exact hdl
  refine dc_it (walk_keys (d := dm) (o := od) (kvs := mvs)) (fun i H11 => Same (upd H10 dm (.frz od (.dK mvs))) H11 ∧ ∃ lvs, H11 dl = some (.dK lvs) ∧ KD lvs (distinct ((distinct (rkinds rs)).take i)) fun k v => Td H11 v ((leastOf rs).2 k).2)
    ⟨same_new hdl, [], upd_same, KD.nil⟩ (fun i H11 _ z => z.1 _ _ upd_same) ?_ ?_
  · rintro i y H11 H12 hi ⟨s11, lvs, hl, kd⟩ ⟨rfl, k, v, hkv, rfl⟩
    obtain ⟨j, hj, ej⟩ := KD.at mk10 hkv
    cases (show k = Sum.inr j from ej)
    have kl : lvs.length ≤ 1000 := by
      rw [kd.length]
      have h1 := length_distinct ((distinct (rkinds rs)).take i)
      rw [List.length_take] at h1
      have := val.each.kinds
      omega
    have jin : j ∈ (leastOf rs).1 := by
      have jk : j ∈ rkinds rs := mem_distinct.mp (List.mem_of_getElem? hj)
      obtain ⟨r, hr', e⟩ := List.mem_map.mp jk
      rw [← e]; exact least_all fin r hr'
    obtain ⟨ev, e1, t, l, tr, rfl, ht, hlq, htd⟩ := KD.some ent10 jin
    have t0 : Tups H10 (upd H10 dm (.frz od (.dK mvs))) := tups_upd fun u f z => by rw [hm10] at z; cases z; exact f
    have t11 := Tups.trans t0 (tups_of s11)
    have hl11 : H12 dl0 = some (.dK lvs0) := s11 _ _ (by rw [upd_ne nml]; exact hl10)
    refine ⟨rfl, _, rfl, _, rfl, _, rfl, dl0, _, rfl, (by rw [← e1]; exact DGet.k (k := Sum.inr j) hl11), t, _, _, _, rfl, rfl, SqT.of (t11 _ _ trivial ht), atI_nat (j := 2) rfl, lvs, Sum.inr j, rfl, hl, small1000 kl, same_mut s11 hdl, _, upd_same, ?_⟩
    have tp : Tups H12 (upd H12 dl (.dK (putK lvs (Sum.inr j) tr))) := tups_upd fun u f z => by rw [hl] at z; cases z; exact f
    rw [take_succ_of hj, distinct_snoc]
    exact kd.put (fun j' u' _ hu' => hu'.mono tp) ((htd.mono t11).mono tp)
  rintro H11 ⟨s11, lvs, hl11, kd11⟩
  have ml : mvs.length = (distinct (rkinds rs)).length := KD.length mk10
  rw [ml, List.take_length, distinct_of_nodup (nodup_distinct _)] at kd11
  refine ⟨s11 _ _ upd_same, ?_⟩
  generalize hH12 : upd H11 dm (.dK mvs) = H12
  have hm12 : H12 dm = some (.dK mvs) := by rw [← hH12]; exact upd_same
  have s12 : Same H10 H12 := fun b o e => by
    rw [← hH12]
    by_cases hb : b = dm
    · rw [hb] at e ⊢; rw [hm10] at e; rw [upd_same]; exact e
    · rw [upd_ne hb]; exact s11 _ _ (by rw [upd_ne hb]; exact e)
  have t1112 : Tups H11 H12 := by rw [← hH12]; exact tups_upd fun u f z => by rw [s11 _ _ upd_same] at z; cases z; exact f
  have hl12 : H12 dl = some (.dK lvs) := by rw [← hH12, upd_ne ndl]; exact hl11
  have lt12 : LeastT H12 lvs rs := KD.mono kd11 fun _ _ z => z.mono t1112
  have hx12 := s12 _ _ hx10
  clear hH12
  refine ⟨_, rfl, x, CK K, dx, _, rfl, hx12, cl, T.na_Kinds_least_, kF_len3, ?_⟩
  generalize hH13 : upd H12 x (.ins (CK K) dx (putF "_least" (.ref dl) (kF3 dm dk dp))) = H13
  have hx13 : H13 x = some (.ins (CK K) dx (kF4 dm dk dp dl)) := by rw [← hH13]; exact upd_same
  have o13 : ∀ b o, b ≠ x → H12 b = some o → H13 b = some o := fun b o n e => by rw [← hH13, upd_ne n]; exact e
  have t1213 : Tups H12 H13 := by rw [← hH13]; exact tups_upd fun u f z => by rw [hx12] at z; cases z; exact f
  have ndl' : dl ≠ x := ne_of hl12 hx12 (by intro z; cases z)
  have pd13 : PartsD H13 pvs rs := KD.mono (pd10.mono (still_of s12)) fun _ _ z => by
    obtain ⟨r, m, e, d, hv, e2, hd, hh⟩ := z
    exact ⟨r, m, e, d, hv, e2, o13 _ _ (ne_of hd hx12 (by intro z; cases z)) hd, hh.mono t1213⟩
  have hm13 := o13 _ _ ndm hm12
  have hk13 := o13 _ _ ndk (s12 _ _ hk10)
  have hp13 := o13 _ _ ndp (s12 _ _ hp10)
  have hl13 := o13 _ _ ndl' hl12
  have mk13 : MkD H13 mvs rs := (mk10.mono (tups_of s12)).mono t1213
  have lt13 : LeastT H13 lvs rs := lt12.mono t1213
  have b13 : But x H H13 := fun b o n e => o13 _ _ n (s12 _ _ (b10 _ _ n (b8 _ _ n (b6 _ _ n e))))
  clear hH13
  -- names
  refine ⟨_, rfl, x, CK K, dx, _, _, rfl, hx13, cl, T.na_Kinds_makers_, kF4_makers', dm, _, rfl, hm13, fun tn on htn hon => ?_⟩
  have s14 := same_new (o := .frz on (.tup (mvs.map fun kv => kV kv.1))) htn
  have hx14 := s14 _ _ hx13
  refine ⟨_, rfl, x, CK K, dx, _, rfl, hx14, cl, T.na_Kinds_names, kF_len4, ?_⟩
  have ntn : tn ≠ x := fun z => by rw [z, hx13] at htn; cases htn
  generalize hH15 : upd (upd H13 tn (.frz on (.tup (mvs.map fun kv => kV kv.1)))) x (.ins (CK K) dx (putF "names" (.ref tn) (kF4 dm dk dp dl))) = H15
  have hx15 : H15 x = some (.ins (CK K) dx (kF5 dm dk dp dl tn)) := by rw [← hH15]; exact upd_same
  have o15 : ∀ b o, b ≠ x → H13 b = some o → H15 b = some o := fun b o n e => by rw [← hH15, upd_ne n]; exact s14 _ _ e
  have htn15 : H15 tn = some (.frz on (.tup (mvs.map fun kv => kV kv.1))) := by rw [← hH15, upd_ne ntn, upd_same]
  have t15 : Tups H13 H15 := Tups.trans (tups_of s14) (by rw [← hH15]; exact tups_upd fun u f z => by rw [hx14] at z; cases z; exact f)
  clear hH15
  -- order
  have hk15 := o15 _ _ ndk hk13
  refine ⟨_, rfl, x, CK K, dx, _, _, rfl, hx15, cl, T.na_Kinds_kinds_, kF5_kinds, dk, _, rfl, hk15, fun to oo hto hoo => ?_⟩
  have s16 := same_new (o := .frz oo (.tup (kvs.map fun kv => kV kv.1))) hto
  have hx16 := s16 _ _ hx15
  refine ⟨_, rfl, x, CK K, dx, _, rfl, hx16, cl, T.na_Kinds_order, kF_len5, ?_⟩
  have nto : to ≠ x := fun z => by rw [z, hx15] at hto; cases hto
  have o17 : ∀ b o, b ≠ x → H15 b = some o → (upd (upd H15 to (.frz oo (.tup (kvs.map fun kv => kV kv.1)))) x (.ins (CK K) dx (putF "order" (.ref to) (kF5 dm dk dp dl tn)))) b = some o := fun b o n e => by rw [upd_ne n]; exact s16 _ _ e
  have t17 : Tups H15 (upd (upd H15 to (.frz oo (.tup (kvs.map fun kv => kV kv.1)))) x (.ins (CK K) dx (putF "order" (.ref to) (kF5 dm dk dp dl tn)))) := Tups.trans (tups_of s16) (tups_upd fun u f z => by rw [hx16] at z; cases z; exact f)
  have tx := Tups.trans t15 t17
  have keysOf : ∀ {kvs : List (Key × V)} {ks : List Str} {R : Str → V → Prop}, KD kvs ks R → (kvs.map fun kv => kV kv.1) = ks.map V.str := fun {kvs ks R} h => by
    have : (kvs.map fun kv => kV kv.1) = (kvs.map (·.1)).map kV := by rw [List.map_map]; rfl
    rw [this, h.1, List.map_map]; rfl
  have back6 : ∀ {b : Addr}, b ≠ x → H6 b = none → H b = none := fun n e => none_but b6 n e
  have back8 : ∀ {b : Addr}, b ≠ x → H8 b = none → H b = none := fun n e => back6 n (none_but b8 n e)
  have back10 : ∀ {b : Addr}, b ≠ x → H10 b = none → H b = none := fun n e => back8 n (none_but b10 n e)
  refine q _ (fun b o n e => o17 _ _ n (o15 _ _ n (b13 _ _ n e))) (told_new upd_same (o17 _ _ ndm (o15 _ _ ndm hm13)) (mk13.mono tx) (o17 _ _ ndk hk15) kd7 (o17 _ _ ndp (o15 _ _ ndp hp13)) (KD.mono pd13 fun _ _ z => ?_) (o17 _ _ ndl' (o15 _ _ ndl' hl13)) (lt13.mono tx) ⟨tn, on, rfl, hon, ?_⟩ ⟨to, oo, rfl, hoo, ?_⟩ (none_same s04 hdm) (back6 ndk hdk) (back8 ndp hdp) (back10 ndl' hdl10) (KD.mono fr9 fun _ _ z d e => ?_))
  · obtain ⟨r, m, e, d, hv, e2, hd, hh⟩ := z
    have nd' : d ≠ x := ne_of hd hx13 (by intro z; cases z)
    exact ⟨r, m, e, d, hv, e2, o17 _ _ nd' (o15 _ _ nd' hd), hh.mono tx⟩
  · rw [← keysOf mk13]; exact o17 _ _ ntn htn15
  · rw [upd_ne nto, upd_same, keysOf kd7]
  · have h8n := z d e
    by_cases hdx : d = x
    · rw [hdx, hx8] at h8n; cases h8n
    · exact back8 hdx h8n
end
end Bg
set_option Elab.async false
set_option linter.all false
set_option maxRecDepth 100000
set_option maxHeartbeats 4000000
namespace Bg
open PySem PySem.Spec PyProof.Rows L2
section
variable {P : Program} {w : World} {K : PySem.W.Frag} {mg : Str → Option Value} {base : Heap} {fd : FuncData}
/-- text * int -/
theorem op_mulS {X : Cx} : OpR X (binaryOp .Mult) (fun x y H Q => ∃ (z : Str) (n : Int), x = .str z ∧ y = .int n ∧ MulOk z n ∧ Q (.str (Txt.mul z n)) H) := by
  intro pins s σ H x y v u Q I rx ry h
  obtain ⟨z, n, rfl, rfl, ok, q⟩ := h
  obtain ⟨t, rfl⟩ := rx
  obtain ⟨t', rfl⟩ := ry
  exact PySem.SB.mul ok fun t2 k => ⟨.str _, H, I.tok k, ⟨t2, rfl⟩, q⟩
/-- x not in o, o an instance with its own __contains__ -/
theorem op_notInOwn {X : Cx} {CX : CXT} {n : Nat} {C f : Addr} {fd : FuncData} {ps : List Str} {sp : Sp} {E : XK} (F : FnOk X.prog X.w X.K X.mg X.base CX n f fd ps sp) (hr : Room n X.A) (m : Meth X.K C "__contains__" f) (hb : Binds X.K fd ps []) (hx : Passes CX X E) :
    OpR X (compareOp .NotIn) (fun x y H Q => ∃ a dx fs, y = .ref a ∧ H a = some (.ins C dx fs) ∧ sp [.ref a, x] H (fun v H' => ∃ b, v = .bl b ∧ Q (.bl (!b)) H') E) := by
  intro pins s σ H x y v u Q I rx ry h
  obtain ⟨a, dx, fs, rfl, ha, q⟩ := h
  cases ry
  obtain ⟨mA, J, _⟩ := ins_get I.hok ha
  obtain ⟨od, J, _⟩ := J.look
  obtain ⟨m', hF⟩ := I.fr
  refine PySem.W.notIn_K hF I.ok.mod.kin J m.at_ m.fn ?_
  refine thn (run_fn F hr hb .nil hx I (.cons (show RelV (V.ref a) (Value.ref a) from rfl) (.cons rx .nil)) q) fun r s' z => ?_
  obtain ⟨z1, H', I', rz, b, rfl, q'⟩ := z
  cases rz
  exact wpAny_truthy_bool ⟨.bl (!b), H', I', rfl, q'⟩
end
end Bg
set_option Elab.async false
set_option linter.all false
set_option maxRecDepth 100000
set_option maxHeartbeats 4000000
/-! Layout.__init__ of valid specs -/
namespace Bg
open PySem PySem.Spec PyProof.Rows L2
abbrev CL (K : PySem.W.Frag) : Addr := He.ga K "Layout"
def lF1 (xk : Addr) : List (Str × V) := putF "kinds" (.ref xk) []
def lF2 (xk tp : Addr) : List (Str × V) := putF "_pairs" (.ref tp) (lF1 xk)
def lF3 (xk tp : Addr) (pr : Int) : List (Str × V) := putF "_price" (.int pr) (lF2 xk tp)
/-- a layout stands at x -/
def LayAt (K : PySem.W.Frag) (H : Hp) (x xk : Addr) (rs : List Row) (S : Str → List Str) : Prop := ∃ (dx tp : Addr) (ps : List Addr), H x = some (.ins (CL K) dx (lF3 xk tp (layP rs S))) ∧ PlT H tp (ps.map V.ref) ∧ All2 (PairAtM H S) (ps.map V.ref) (rmakers rs)
/-- a dict of specs -/
def SpecD (H : Hp) (sp : Addr) (ks : List Str) (S : Str → List Str) : Prop := ∃ kvs, H sp = some (.dK kvs) ∧ KD kvs ks fun m u => ∃ c, u = .ref c ∧ Rd H c (.tup ((S m).map V.str))
theorem SpecD.same {H H' : Hp} (s : Same H H') {sp : Addr} {ks : List Str} {S : Str → List Str} (h : SpecD H sp ks S) : SpecD H' sp ks S := by
  obtain ⟨kvs, e, kd⟩ := h
  exact ⟨kvs, s _ _ e, KD.mono kd fun _ _ ⟨c, e1, e2⟩ => ⟨c, e1, rd_same s e2⟩⟩
theorem upd_back {H : Hp} {d : Addr} {u v : HO} (h : H d = some v) : upd (upd H d u) d v = H := by
  funext b
  by_cases e : b = d
  · rw [e, upd_same, h]
  · rw [upd_ne e, upd_ne e]
theorem lF1_len {xk : Addr} : (lF1 xk).length ≤ 1 := putF_len _ _ []
theorem lF2_len {xk tp : Addr} : (lF2 xk tp).length ≤ 2 := Nat.le_trans (putF_len _ _ _) (Nat.succ_le_succ lF1_len)
theorem lF2_pairs {xk tp : Addr} : (lF2 xk tp).lookup ("_pairs" : Str) = some (.ref tp) := by
  unfold lF2
  rw [lookup_putF, if_pos rfl]
theorem lF3_pairs {xk tp : Addr} {pr : Int} : (lF3 xk tp pr).lookup ("_pairs" : Str) = some (.ref tp) := by
  unfold lF3
  rw [lookup_putF, if_neg (by decide +kernel)]; exact lF2_pairs
theorem lF3_kinds {xk tp : Addr} {pr : Int} : (lF3 xk tp pr).lookup ("kinds" : Str) = some (.ref xk) := by
  unfold lF3 lF2 lF1
  rw [lookup_putF, if_neg (by decide +kernel), lookup_putF, if_neg (by decide +kernel), lookup_putF, if_pos rfl]
theorem lF3_price {xk tp : Addr} {pr : Int} : (lF3 xk tp pr).lookup ("_price" : Str) = some (.int pr) := by
  unfold lF3
  rw [lookup_putF, if_pos rfl]
section
variable {P : Program} {w : World} {K : PySem.W.Frag} {mg : Str → Option Value} {base : Heap} {fd : FuncData}
def spLayI (K : PySem.W.Frag) : Sp := fun vs H Q _ => ∃ (x dx xk sp : Addr) (rs : List Row) (ks : List Str) (S : Str → List Str), vs = [.ref x, .ref xk, .ref sp] ∧ H x = some (.ins (CL K) dx []) ∧ KindsF K H xk rs ∧ ValidT rs ∧ SpecD H sp ks S ∧ (∀ m, m ∈ ks ↔ m ∈ rmakers rs) ∧ SpecsOk rs S ∧
  ∀ H', But x H H' → LayAt K H' x xk rs S → Q .non H'
theorem ok_layi {CX : CXT} (T : Tx K mg) (F : FnP K ("Layout", some "__init__") "__init__" "Layout.__init__" s_Layout_init fd) : FnOk P w K mg base CX 5 (He.fAd K ("Layout", some "__init__")) fd p_Layout_init (spLayI K) := by
  refine F.ok (k := 4) sc_Layout_init (fun vs H Q E h => ?_) (fun cdv A outer s H vs Q E hr h => ?_)
  · obtain ⟨_, _, _, _, _, _, _, rfl, _⟩ := h; rfl
  obtain ⟨x, dx, xk, sp, rs, ks, S, rfl, hx, hK, val, ⟨kvs, hsp, kd⟩, hks, ok, q⟩ := h
  have hu := hu_of hr
  have sh := val.short.1
  obtain ⟨dk0, dm, dk, dp, dl, tn, to, h0, hin⟩ := id hK
  obtain ⟨mvs, kvs2, pvs, lvs, _, _, _, _, _, hto⟩ := id hin
  obtain ⟨t, o, et, ho, ht⟩ := hto
  cases et
  rw [distinct_of_nodup val.nd] at ht
  have nxs : sp ≠ x := ne_of hsp hx (by intro z; cases z)
  have nxk : xk ≠ x := fun e => by
    rw [e, hx] at h0
    have h1 := Option.some.inj h0
    injection h1 with _ _ c
    have z := kF_order (dm := dm) (dk := dk) (dp := dp) (dl := dl) (tn := tn) (to := to)
    rw [← c] at z; cases z
  have l1 : (rmakers rs).length = rs.length := by unfold rmakers; rw [List.length_map]
  obtain ⟨f1, F1⟩ := T.F_Kinds_contains
  obtain ⟨f2, F2⟩ := T.F_is_spec
  obtain ⟨f3, F3⟩ := T.F_specs_price
  have nd := sc_Layout_init.nd
  refine ⟨_, PSs.nox (pss_cons (ps_lock (ps_for PassesOwn.never rfl (pi_keys (pv 2)) (pg_name (i := 3) nd rfl (Or.inl rfl))
      (pss_one (ps_if (pt_cmpR (op_notInOwn (okf_contains T F1) (hr.mono (by omega)) T.m_Kinds_contains (b_Kinds_contains F1) pass0) (pv 3) (pv 1) (by rfl))
        (pss_one ps_never)
        pss_nil))))
    (pss_cons (ps_for PassesOwn.never rfl (pi_tup (pe_fld (pv 1) rfl)) (pg_name (i := 3) nd rfl (Or.inl rfl))
      (pss_one (ps_if (PW.pt (pw_or (pt_cmp (pc_dnotin hu (pv 3) (pv 2))) (pw_or1 (pt_not (pt_val (pe_call (ok_is_spec T F2) (hr.mono (by omega)) (by rfl) T.g_is_spec T.k_is_spec (b_is_spec F2) .nil pass0 (pa_cons (pv 1) (pa_cons (pv 3) (pa_cons (pe_dget hu (pv 2) (pv 3) (fun _ _ => rfl)) pa_nil)))))))))
        (pss_one ps_never)
        pss_nil)))
    (pss_cons (ps_fld (pv 0) (pv 1) rfl)
    (pss_cons (ps_fld (pv 0) (pe_callTy call_tupleP (by rfl) T.n_tuple (by decide +kernel) (pa_cons (pe_lc (own := [("maker", 3)]) (g := gName 3) rfl nd (pi_tup (pe_fld (pv 1) rfl)) (blkOk_by (N := ["self", "kinds", "specs", "maker"]) (sc := defScope s_Layout_init) (by decide +kernel)) (fun _ _ _ _ _ => (pg_name (i := 3) nd rfl (Or.inl rfl))) (fun _ _ _ _ _ => pts_nil) (fun _ _ _ _ _ => (pe_tup (pa_cons (pv 3) (pa_cons (pe_dget hu (pv 2) (pv 3) (fun _ _ => rfl)) pa_nil))))) pa_nil)) rfl)
    (pss_one (ps_fld (pv 0) (pe_call (ok_specs_price T F3) (hr.mono (by omega)) (by rfl) T.g_specs_price T.k_specs_price (b_specs_price F3) .nil pass0 (pa_cons (pv 1) (pa_cons (pe_fld (pv 0) rfl) pa_nil))) rfl)))))), ?_⟩
  -- no unknown name
  refine ⟨sp, _, hsp, trivial, fun od => ?_⟩
  have hk1 : KindsF K (upd H sp (.frz od (.dK kvs))) xk rs := hK.mono (imms_upd (notImm_dK hsp)) fun o e => by rw [upd_ne (fun z => by rw [z, hsp] at h0; cases h0)]; exact e
  obtain ⟨dk1, dm1, dkk1, dp1, dl1, tn1, to1, h01, _⟩ := id hk1
  refine ⟨_, rfl, sp, od, rfl, .inl ⟨kvs, upd_same, for_it (walk_keys (d := sp) (o := od) (kvs := kvs)) (fun i σ H2 => (∃ v3, σ = [some (.ref x), some (.ref xk), some (.ref sp), v3]) ∧ H2 = upd H sp (.frz od (.dK kvs))) ⟨⟨_, rfl⟩, rfl⟩ (fun i σ H2 _ z => by rw [z.2]; exact upd_same) ?_ ?_⟩⟩
  · rintro j y σ H3 H2 hj ⟨⟨v3, rfl⟩, e2⟩ ⟨rfl, k, v, hkv, rfl⟩
    subst e2
    have hk2 : k ∈ ks.map Sum.inr := by rw [← kd.1]; exact List.mem_map_of_mem (List.mem_of_getElem? hkv)
    obtain ⟨m, hm, rfl⟩ := List.mem_map.mp hk2
    refine ⟨_, rfl, _, rfl, xk, dk1, _, rfl, h01, xk, m, rs, rfl, hk1, _, rfl, _, rfl, ?_⟩
    rw [decide_eq_true ((hks m).mp hm)]
    exact iteF ⟨⟨_, rfl⟩, rfl⟩
  rintro σ H2 ⟨⟨v3, rfl⟩, rfl⟩
  refine ⟨upd_same, ?_⟩
  rw [upd_back hsp]
  -- each maker has a spec
  refine ⟨_, rfl, xk, CK K, dk0, _, _, rfl, h0, T.cl_Kinds, T.na_Kinds_order, kF_order, to, rfl, ⟨_, sqT_frz ht⟩, for_it (walk_tup (K := K) (a := to) (xs := (rmakers rs).map V.str)) (fun i σ H2 => (∃ v3, σ = [some (.ref x), some (.ref xk), some (.ref sp), v3]) ∧ Same H H2) ⟨⟨_, rfl⟩, Same.refl _⟩ (fun i σ H2 _ z => sqT_frz (z.2 _ _ ht)) ?_ ?_⟩
  · rintro j y σ H3 H2 hj ⟨⟨v3, rfl⟩, s2⟩ ⟨rfl, hy⟩
    rw [List.getElem?_map, Option.map_eq_some_iff] at hy
    obtain ⟨m, hm, rfl⟩ := hy
    unfold rmakers at hm
    rw [List.getElem?_map, Option.map_eq_some_iff] at hm
    obtain ⟨r, hr2, rfl⟩ := hm
    have hr' := List.mem_of_getElem? hr2
    have hin : r.2.1 ∈ ks := (hks _).mpr (List.mem_map_of_mem hr')
    obtain ⟨v, ev, c, rfl, hc⟩ := KD.some kd hin
    have hsp2 := s2 _ _ hsp
    refine ⟨_, rfl, _, rfl, sp, _, rfl, DGet.k (k := Sum.inr r.2.1) hsp2, _, rfl, ?_⟩
    rw [ev]
    obtain ⟨e1, _⟩ := isSpecB_inv (ok.ok r hr')
    refine iteF ⟨_, rfl, _, rfl, _, rfl, _, rfl, sp, _, rfl, (by rw [← ev]; exact DGet.k (k := Sum.inr r.2.1) hsp2), xk, c, rs, r, S r.2.1, rfl, hK.same s2, val, hr', rd_same s2 hc, by have := val.four r hr'; omega, ok.short r hr', fun H4 s4 => ⟨_, rfl, ?_⟩⟩
    rw [ok.ok r hr']
    exact iteF ⟨⟨_, rfl⟩, s2.trans s4⟩
  rintro σ H2 ⟨⟨v3, rfl⟩, s2⟩
  have hx2 := s2 _ _ hx
  -- kinds
  refine ⟨_, rfl, _, rfl, x, CL K, dx, _, rfl, hx2, T.cl_Layout, T.na_Layout_kinds, by decide, ?_⟩
  generalize hH3 : upd H2 x (.ins (CL K) dx (putF "kinds" (.ref xk) [])) = H3
  have hx3 : H3 x = some (.ins (CL K) dx (lF1 xk)) := by rw [← hH3]; exact upd_same
  have b3 : But x H H3 := fun b o n e => by rw [← hH3, upd_ne n]; exact s2 _ _ e
  have i3 : Imms H H3 := imms_but b3 (notImm_ins hx)
  clear hH3
  have hK3 : KindsF K H3 xk rs := hK.mono i3 fun o e => b3 _ _ nxk e
  obtain ⟨dk3, dm3, dkk3, dp3, dl3, tn3, to3, h03, hin3⟩ := id hK3
  have ho3 : H3 xk = some (.ins (CK K) dk0 (kF6 dm dk dp dl tn to)) := b3 _ _ nxk h0
  have ht3 : H3 to = some (.frz o (.tup ((rmakers rs).map V.str))) := i3 _ _ (by trivial) ht
  have hsp3 := b3 _ _ nxs hsp
  -- the pairs
  refine ⟨_, rfl, xk, CK K, dk0, _, _, rfl, ho3, T.cl_Kinds, T.na_Kinds_order, kF_order, to, rfl, ⟨_, sqT_frz ht3⟩, fun D hD => lc_it (walk_tup (K := K) (a := to) (xs := (rmakers rs).map V.str)) (fun i H4 => Same H3 H4 ∧ ∃ ps : List Addr, H4 D = some (.lst (ps.map V.ref)) ∧ All2 (PairAtM H4 S) (ps.map V.ref) ((rmakers rs).take i)) ⟨same_new hD, [], upd_same, All2.nil⟩ (fun i H4 _ z => sqT_frz (z.1 _ _ ht3)) ?_ ?_⟩
  · rintro j y H5 H4 hj ⟨s4, ps, hps, alp⟩ ⟨rfl, hy⟩
    rw [List.getElem?_map, Option.map_eq_some_iff] at hy
    obtain ⟨m, hm, rfl⟩ := hy
    have hmm := List.mem_of_getElem? hm
    have lj := (List.getElem?_eq_some_iff.mp hm).1
    obtain ⟨v, ev, c, rfl, hc⟩ := KD.some kd ((hks m).mpr hmm)
    have hsp4 := s4 _ _ hsp3
    have hc4 := rd_same s4 (rd_tups i3.tups hc)
    have lp : ps.length ≤ j := by have := alp.1; rw [List.length_map, List.length_take] at this; omega
    refine ⟨rfl, _, rfl, _, rfl, _, rfl, sp, _, rfl, (by rw [← ev]; exact DGet.k (k := Sum.inr m) hsp4), by show 2 ≤ sizeLine; decide, fun p hp => ?_⟩
    have s5 := same_new (o := .tup [V.str m, V.ref c]) hp
    refine ⟨_, s5 _ _ hps, small1000 (by rw [List.length_map]; omega), same_mut (s4.trans s5) hD, ps ++ [p], by rw [upd_same, List.map_append] <;> rfl, ?_⟩
    rw [take_succ_of hm, List.map_append]
    have t5 : Tups H4 (upd (upd H4 p (.tup [V.str m, V.ref c])) D (.lst (ps.map V.ref ++ [.ref p]))) := (tups_of s5).trans (tups_upd fun u f z => by rw [s5 _ _ hps] at z; cases z; exact f)
    refine (alp.mono fun _ _ z => PairAtM.mono t5 z).snoc ⟨p, c, rfl, ?_, rd_tups t5 hc4⟩
    rw [upd_ne (fun z => by rw [z, hps] at hp; cases hp), upd_same]
  rintro H4 ⟨s4, ps, hps, alp⟩
  rw [List.length_map, List.take_length] at alp
  refine ⟨D, _, rfl, SqL.of hps, fun tp H5 ntp s5 hpl only => ?_⟩
  have s35 := s4.trans s5
  have hx5 := s35 _ _ hx3
  refine ⟨_, rfl, x, CL K, dx, _, rfl, hx5, T.cl_Layout, T.na_Layout_pairs_, Nat.lt_of_le_of_lt lF1_len (by decide), ?_⟩
  generalize hH6 : upd H5 x (.ins (CL K) dx (putF "_pairs" (.ref tp) (lF1 xk))) = H6
  have hx6 : H6 x = some (.ins (CL K) dx (lF2 xk tp)) := by rw [← hH6]; exact upd_same
  have b56 : But x H5 H6 := fun b o n e => by rw [← hH6, upd_ne n]; exact e
  clear hH6
  have i56 : Imms H5 H6 := imms_but b56 (notImm_ins hx5)
  have hK6 : KindsF K H6 xk rs := (hK3.same s35).mono i56 fun o e => b56 _ _ nxk e
  have ntx : tp ≠ x := fun e => by
    obtain ⟨its, n, e2⟩ := hpl
    rw [e, hx5] at e2; cases e2
  have hpl6 : PlT H6 tp (ps.map V.ref) := by
    obtain ⟨its, n, e2⟩ := hpl
    exact ⟨its, n, b56 _ _ ntx e2⟩
  have al6 : All2 (PairAtM H6 S) (ps.map V.ref) (rmakers rs) := alp.mono fun _ _ z => PairAtM.mono ((tups_of s5).trans i56.tups) z
  -- the price
  refine ⟨_, rfl, _, rfl, x, CL K, dx, _, _, rfl, hx6, T.cl_Layout, T.na_Layout_pairs_, lF2_pairs, xk, tp, rs, S, _, rfl, hK6, val, hpl6.sq, al6, ok, fun H' s' => (hpl6.same s').sq, fun H7 s7 => ?_⟩
  have hx7 := s7 _ _ hx6
  refine ⟨_, rfl, x, CL K, dx, _, rfl, hx7, T.cl_Layout, T.na_Layout_price_, Nat.lt_of_le_of_lt lF2_len (by decide), ?_⟩
  have i78 : Imms H7 (upd H7 x (.ins (CL K) dx (putF "_price" (.int (layP rs S)) (lF2 xk tp)))) := imms_upd (notImm_ins hx7)
  refine q _ (fun b o n e => ?_) ⟨dx, tp, ps, upd_same, ?_, ?_⟩
  · rw [upd_ne n]; exact s7 _ _ (b56 _ _ n (s35 _ _ (b3 _ _ n e)))
  · obtain ⟨its, n, e2⟩ := hpl6.same s7
    exact ⟨its, n, by rw [upd_ne ntx]; exact e2⟩
  · exact al6.mono fun _ _ z => PairAtM.mono ((tups_of s7).trans i78.tups) z
end
end Bg
set_option Elab.async false
set_option linter.all false
set_option maxRecDepth 100000
set_option maxHeartbeats 2000000
/-! specs with one put; a thing just made -/
namespace Bg
open PySem PySem.Spec PyProof.Rows L2
def putS (S : Str → List Str) (m : Str) (o : Option (List Str)) : Str → List Str := fun k => if k = m then o.getD [] else S k
theorem made_x {H : Hp} {x dx C : Addr} (hx : H x = none) (hdx : H dx = none) : Same H (upd (upd H dx (.own x)) x (.ins C dx [])) := fun b o e => by
  rw [upd_ne (ne_of_none e hx), upd_ne (ne_of_none e hdx)]; exact e
theorem mk_lk (k : Str) : ([("maker", V.str k)] : List (Str × V)).lookup ("maker" : Str) = some (.str k) := by simp [List.lookup]
theorem nm_lk (k : Str) : ([("name", V.str k)] : List (Str × V)).lookup ("name" : Str) = some (.str k) := by simp [List.lookup]
end Bg
set_option Elab.async false
set_option linter.all false
set_option maxRecDepth 100000
set_option maxHeartbeats 4000000
/-! layout[maker]; dict of a layout's pairs -/
namespace Bg
open PySem PySem.Spec PyProof.Rows L2
def SpR (H : Hp) (S : Str → List Str) (m : Str) (u : V) : Prop := ∃ c, u = .ref c ∧ Rd H c (.tup ((S m).map V.str))
theorem merge_kd {R : Str → V → Prop} : ∀ (more : List (Str × V)) (kvs : List (Key × V)) (ks : List Str), KD kvs ks R → (∀ q ∈ more, R q.1 q.2) → KD (mergeK kvs (more.map fun q => ((Sum.inr q.1 : Key), q.2))) ((more.map (·.1)).foldl addNew ks) R
  | [], _, _, h, _ => h
  | q :: more, kvs, ks, h, hr => merge_kd more (putK kvs (Sum.inr q.1) q.2) (addNew ks q.1) (h.put (fun _ _ _ z => z) (hr q (List.mem_cons_self ..))) fun x hx => hr x (List.mem_cons_of_mem _ hx)
theorem pairs_sq {K : PySem.W.Frag} {H : Hp} {S : Str → List Str} : ∀ {ps : List Addr} {ms : List Str}, All2 (PairAtM H S) (ps.map V.ref) ms → ∃ qs : List (Str × V), Paired (fun p (kv : Key × V) => SqT K H p [kV kv.1, kv.2]) ps (qs.map fun q => ((Sum.inr q.1 : Key), q.2)) ∧ qs.map (·.1) = ms ∧ ∀ q ∈ qs, SpR H S q.1 q.2
  | [], [], _ => ⟨[], .nil, rfl, fun q hq => absurd hq List.not_mem_nil⟩
  | [], _ :: _, h => absurd h.1 (by simp)
  | _ :: _, [], h => absurd h.1 (by simp)
  | p :: ps, m :: ms, h => by
    obtain ⟨l, g⟩ := h
    obtain ⟨qs, h1, h2, h3⟩ := pairs_sq (K := K) (ps := ps) (ms := ms) ⟨by simpa using l, fun i a b ha hb => g (i + 1) a b (by simpa using ha) (by simpa using hb)⟩
    obtain ⟨p', c, e, e1, e2⟩ := g 0 (.ref p) m rfl rfl
    cases e
    refine ⟨(m, .ref c) :: qs, .cons (SqT.of e1) h1, by rw [List.map_cons, h2], fun q hq => ?_⟩
    rcases List.mem_cons.mp hq with w | w
    · subst w; exact ⟨c, rfl, e2⟩
    · exact h3 q w
theorem foldl_addNew_nodup : ∀ {ms ks : List Str}, (ks ++ ms).Nodup → ms.foldl addNew ks = ks ++ ms
  | [], ks, _ => by simp
  | m :: ms, ks, h => by
    have hn : m ∉ ks := fun z => (List.nodup_append.mp h).2.2 m z m (List.mem_cons_self ..) rfl
    rw [List.foldl_cons, addNew_of_not hn, foldl_addNew_nodup (by rw [List.append_assoc]; exact h), List.append_assoc]; rfl
/-- the dict of a layout's pairs -/
theorem pairs_dict {K : PySem.W.Frag} {H : Hp} {S : Str → List Str} {ps : List Addr} {ms : List Str} (nd : ms.Nodup) (h : All2 (PairAtM H S) (ps.map V.ref) ms) : ∃ kvs, Paired (fun p (kv : Key × V) => SqT K H p [kV kv.1, kv.2]) ps kvs ∧ KD (mergeK [] kvs) ms (SpR H S) := by
  obtain ⟨qs, h1, h2, h3⟩ := pairs_sq (K := K) h
  refine ⟨_, h1, ?_⟩
  have := merge_kd qs [] [] KD.nil h3
  rw [h2, foldl_addNew_nodup (by simpa using nd)] at this
  simpa using this
section
variable {P : Program} {w : World} {K : PySem.W.Frag} {mg : Str → Option Value} {base : Heap} {fd : FuncData}
def spLayG (K : PySem.W.Frag) : Sp := fun vs H Q _ => ∃ (x xk : Addr) (rs : List Row) (S : Str → List Str) (r : Row), vs = [.ref x, .str r.2.1] ∧ LayAt K H x xk rs S ∧ KindsF K H xk rs ∧ ValidT rs ∧ r ∈ rs ∧ ∀ c H', Same H H' → Rd H' c (.tup ((S r.2.1).map V.str)) → Q (.ref c) H'
theorem ok_layg (T : Tx K mg) (F : FnP K ("Layout", some "__getitem__") "__getitem__" "Layout.__getitem__" s_Layout_getitem fd) : FnOk P w K mg base CX0 2 (He.fAd K ("Layout", some "__getitem__")) fd p_Layout_getitem (spLayG K) := by
  obtain ⟨f1, F1⟩ := T.F_Kinds_contains
  refine F.ok (k := 1) sc_Layout_getitem (fun vs H Q E h => ?_) (fun cdv A outer s H vs Q E hr h => ?_)
  · obtain ⟨_, _, _, _, _, rfl, _⟩ := h; rfl
  obtain ⟨x, xk, rs, S, r, rfl, ⟨dx, tp, ps, hx, hpl, al⟩, hK, val, hr', q⟩ := h
  have hu := hu_of hr
  obtain ⟨dk0, dm, dk, dp, dl, tn, to, h0, hin⟩ := id hK
  refine ⟨_, PSs.nox (pss_cons (ps_if (pt_cmpR (op_notInOwn (okf_contains T F1) (hr.mono (by omega)) T.m_Kinds_contains (b_Kinds_contains F1) pass0) (pv 1) (pe_fld (pv 0) rfl) (by rfl)) (pss_one ps_never) pss_nil)
    (pss_one (ps_ret (pe_dget hu (pe_callTy (call_dictT rfl) (by rfl) T.n_dict (by decide +kernel) (pa_cons (pe_fld (pv 0) rfl) pa_nil)) (pv 1) (fun _ _ => rfl))))), ?_⟩
  have hm : r.2.1 ∈ rmakers rs := List.mem_map_of_mem hr'
  refine ⟨_, rfl, _, rfl, x, CL K, dx, _, _, rfl, hx, T.cl_Layout, T.na_Layout_kinds, lF3_kinds, xk, dk0, _, rfl, h0, xk, r.2.1, rs, rfl, hK, _, rfl, _, rfl, ?_⟩
  rw [decide_eq_true hm]
  obtain ⟨kvs, hp, kd⟩ := pairs_dict (K := K) val.nd al
  obtain ⟨v, ev, c, rfl, hc⟩ := KD.some kd hm
  refine iteF ⟨_, rfl, x, CL K, dx, _, _, rfl, hx, T.cl_Layout, T.na_Layout_pairs_, lF3_pairs, tp, ps, kvs, rfl, hpl, hp, fun p hp0 => ?_⟩
  have s1 := same_new (o := .dK (mergeK [] kvs)) hp0
  exact ⟨_, rfl, p, _, rfl, (by rw [← ev]; exact DGet.k (k := Sum.inr r.2.1) upd_same), q c _ s1 (rd_same s1 hc)⟩
end
end Bg
set_option Elab.async false
set_option linter.all false
set_option maxRecDepth 100000
set_option maxHeartbeats 4000000
namespace Bg
open PySem PySem.Spec PyProof.Rows L2
/-! the error BadLayout -/
def BL (K : PySem.W.Frag) : Addr := He.ga K "BadLayout"
section
variable {P : Program} {w : World} {K : PySem.W.Frag} {mg : Str → Option Value} {base : Heap} {fd : FuncData}
def spBLI (K : PySem.W.Frag) : Sp := fun vs H Q _ => ∃ (a : Addr) (y : Str), vs = [.ref a, .str y] ∧ y.length ≤ 1000 ∧ H a = some (exo a (BL K) none) ∧ ∀ dx, H dx = none → dx ≠ a → Q .non (upd (upd H dx (exd dx [("maker", .str y)])) a (exo a (BL K) (some dx)))
theorem ok_bli (T : Tx K mg) (F : FnP K ("BadLayout", some "__init__") "__init__" "BadLayout.__init__" s_BadLayout_init fd) : FnOk P w K mg base CX0 1 (He.fAd K ("BadLayout", some "__init__")) fd ["self", "maker"] (spBLI K) := by
  refine F.ok sc_BadLayout_init (fun vs H Q E h => ?_) (fun cdv A outer s H vs Q E hr h => ?_)
  · obtain ⟨a, y, rfl, _⟩ := h; rfl
  obtain ⟨a, y, rfl, ty, ha, q⟩ := h
  refine ⟨_, PSs.nox (pss_cons (ps_expr (pe_ginit T.gi (by rfl) T.g_GroveError (pa_cons (pv 0) (pa_cons (pe_joined (.cons pe_str (.cons (pe_fmt (pv 1)) .nil))) pa_nil))))
    (pss_one (ps_ost (f := "maker") (pv 0) (pv 1)))), ?_⟩
  have tl : (Str.empty ++ ("no valid spec for " : Str)).length ≤ 18 := by decide +kernel
  have b := sl_big
  refine ⟨_, rfl, _, rfl, Nat.le_trans tl (by omega), _, rfl, .inl ⟨y, rfl, by omega, _, rfl, ?_, a, BL K, [_], rfl, (by show 1 ≤ 1000; decide), T.x_BadLayout.oex, ha, ?_⟩⟩
  · rw [Str.length_append]
    omega
  exact ⟨_, rfl, _, rfl, a, BL K, rfl, T.x_BadLayout.oex, T.na_BadLayout_maker, .inl ⟨ha, fun dx hdx ne => q dx hdx ne⟩⟩
/-- the error BadLayout with the maker k leaves -/
def RaisesBL (K : PySem.W.Frag) (H : Hp) (k : Str) (E : XK) : Prop := ∀ dx H', Same H H' → H' dx = some (.xd [("maker", .str k)]) → E (.ref (BL K)) (some dx) H'
theorem raiseL_read {H : Hp} {k : Str} {E : XK} (ty : k.length ≤ 1000) (q : RaisesBL K H k E) : ([V.str k] : List V).length ≤ 1000 ∧ ∀ a, H a = none → spBLI K (.ref a :: ([.str k] ++ [])) (upd H a (exo a (BL K) none))
    (fun v H2 => v = .non ∧ ∃ (d : Addr) (fs : List (Str × V)), H2 a = some (exo a (BL K) (some d)) ∧ H2 d = some (exd d fs) ∧ H d = none ∧ E (.ref (BL K)) (some d) (upd (L2.del H2 a) d (.xd fs))) (fun _ _ _ => False) := by
  refine ⟨by show 1 ≤ 1000; decide, fun a ha => ⟨a, k, rfl, ty, upd_same, fun dx hdx ne => ⟨rfl, dx, [("maker", .str k)], upd_same, by rw [upd_ne ne]; exact upd_same, ?_, q dx _ (fun b o e => ?_) upd_same⟩⟩⟩
  · rw [upd_ne ne] at hdx; exact hdx
  · have n1 : b ≠ a := ne_of_none e ha
    have n2 : b ≠ dx := ne_of_none (by rw [upd_ne n1]; exact e) hdx
    rw [upd_ne n2, del_ne n1, upd_ne n1, upd_ne n2, upd_ne n1]; exact e
end
end Bg
set_option Elab.async false
set_option linter.all false
set_option maxRecDepth 100000
set_option maxHeartbeats 4000000
/-! Layout.__init__ of specs that are not valid -/
namespace Bg
open PySem PySem.Spec PyProof.Rows L2
section
variable {P : Program} {w : World} {K : PySem.W.Frag} {mg : Str → Option Value} {base : Heap} {fd : FuncData}
theorem RaisesBL.same {H H' : Hp} (s : Same H H') {k : Str} {E : XK} (h : RaisesBL K H k E) : RaisesBL K H' k E := fun dx H2 s2 e => h dx H2 (s.trans s2) e
structure Lens (rs : List Row) (ks : List Str) (S : Str → List Str) : Prop where
  few : ∀ r ∈ rs, r.2.1 ∈ ks → (S r.2.1).length ≤ 1000
  short : ∀ r ∈ rs, r.2.1 ∈ ks → ∀ s ∈ S r.2.1, s.length ≤ 100000
def spLayB (K : PySem.W.Frag) : Sp := fun vs H Q E => ∃ (x xk sp : Addr) (rs : List Row) (ks : List Str) (S : Str → List Str) (i : Nat) (r : Row), vs = [.ref x, .ref xk, .ref sp] ∧ KindsF K H xk rs ∧ ValidT rs ∧ SpecD H sp ks S ∧ (∀ m ∈ ks, m ∈ rmakers rs) ∧ Lens rs ks S ∧ rs[i]? = some r ∧
  (∀ j r', j < i → rs[j]? = some r' → r'.2.1 ∈ ks ∧ isSpecB r' (S r'.2.1) = true) ∧ (r.2.1 ∉ ks ∨ isSpecB r (S r.2.1) = false) ∧ r.2.1.length ≤ 1000 ∧ RaisesBL K H r.2.1 E
theorem okx_layb (T : Tx K mg) (F : FnP K ("Layout", some "__init__") "__init__" "Layout.__init__" s_Layout_init fd) : FnOk P w K mg base (L2.CX P w) 5 (He.fAd K ("Layout", some "__init__")) fd p_Layout_init (spLayB K) := by
  refine F.ok (k := 4) sc_Layout_init (fun vs H Q E h => ?_) (fun cdv A outer s H vs Q E hr h => ?_)
  · obtain ⟨_, _, _, _, _, _, _, _, rfl, _⟩ := h; rfl
  obtain ⟨x, xk, sp, rs, ks, S, i, r, rfl, hK, val, ⟨kvs, hsp, kd⟩, hks, len, hri, before, bad, ty, q⟩ := h
  have hu := hu_of hr
  obtain ⟨dk0, dm, dk, dp, dl, tn, to, h0, hin⟩ := id hK
  obtain ⟨mvs, kvs2, pvs, lvs, _, _, _, _, _, hto⟩ := id hin
  obtain ⟨t, o, et, ho, ht⟩ := hto
  cases et
  rw [distinct_of_nodup val.nd] at ht
  have li := (List.getElem?_eq_some_iff.mp hri).1
  have l1 : (rmakers rs).length = rs.length := by unfold rmakers; rw [List.length_map]
  obtain ⟨f1, F1⟩ := T.F_Kinds_contains
  obtain ⟨f2, F2⟩ := T.F_is_spec
  obtain ⟨f3, F3⟩ := T.F_BadLayout_init
  obtain ⟨f4, F4⟩ := T.F_specs_price
  have nd := sc_Layout_init.nd
  refine ⟨_, (pss_cons (ps_lock (ps_for (passes_of rfl) rfl (pi_keys (pv 2)) (pg_name (i := 3) nd rfl (Or.inl rfl))
      (pss_one (ps_if (pt_cmpR (op_notInOwn (okf_contains T F1) (hr.mono (by omega)) T.m_Kinds_contains (b_Kinds_contains F1) pass0) (pv 3) (pv 1) (by rfl))
        (pss_one ps_never)
        pss_nil))))
    (pss_cons (ps_for (passes_of rfl) rfl (pi_tup (pe_fld (pv 1) rfl)) (pg_name (i := 3) nd rfl (Or.inl rfl))
      (pss_one (ps_if (PW.pt (pw_or (pt_cmp (pc_dnotin hu (pv 3) (pv 2))) (pw_or1 (pt_not (pt_val (pe_call (ok_is_spec T F2) (hr.mono (by omega)) (by rfl) T.g_is_spec T.k_is_spec (b_is_spec F2) .nil pass0 (pa_cons (pv 1) (pa_cons (pv 3) (pa_cons (pe_dget hu (pv 2) (pv 3) (fun _ _ => rfl)) pa_nil)))))))))
        (pss_one (ps_raise rfl (takes_of rfl rfl rfl rfl) (pmk_oex T.x_BadLayout.oex T.m_BadLayout_init.at_ (beq_iff_eq.mp T.m_BadLayout_init.fn) (ok_bli T F3) (hr.mono (by omega)) (b_BadLayout_init F3) .nil pass0 (by rfl) T.g_BadLayout (pa_cons (pv 3) pa_nil))))
        pss_nil)))
    pss_never)), ?_⟩
  -- no unknown name
  refine ⟨sp, _, hsp, trivial, fun od => ?_⟩
  have hk1 : KindsF K (upd H sp (.frz od (.dK kvs))) xk rs := hK.mono (imms_upd (notImm_dK hsp)) fun o e => by rw [upd_ne (fun z => by rw [z, hsp] at h0; cases h0)]; exact e
  obtain ⟨dk1, dm1, dkk1, dp1, dl1, tn1, to1, h01, _⟩ := id hk1
  refine ⟨_, rfl, sp, od, rfl, .inl ⟨kvs, upd_same, for_it (walk_keys (d := sp) (o := od) (kvs := kvs)) (fun i σ H2 => (∃ v3, σ = [some (.ref x), some (.ref xk), some (.ref sp), v3]) ∧ H2 = upd H sp (.frz od (.dK kvs))) ⟨⟨_, rfl⟩, rfl⟩ (fun i σ H2 _ z => by rw [z.2]; exact upd_same) ?_ ?_⟩⟩
  · rintro j y σ H3 H2 hj ⟨⟨v3, rfl⟩, e2⟩ ⟨rfl, k, v, hkv, rfl⟩
    subst e2
    have hk2 : k ∈ ks.map Sum.inr := by rw [← kd.1]; exact List.mem_map_of_mem (List.mem_of_getElem? hkv)
    obtain ⟨m, hm, rfl⟩ := List.mem_map.mp hk2
    refine ⟨_, rfl, _, rfl, xk, dk1, _, rfl, h01, xk, m, rs, rfl, hk1, _, rfl, _, rfl, ?_⟩
    rw [decide_eq_true (hks m hm)]
    exact iteF ⟨⟨_, rfl⟩, rfl⟩
  rintro σ H2 ⟨⟨v3, rfl⟩, rfl⟩
  refine ⟨upd_same, ?_⟩
  rw [upd_back hsp]
  refine ⟨_, rfl, xk, CK K, dk0, _, _, rfl, h0, T.cl_Kinds, T.na_Kinds_order, kF_order, to, rfl, ⟨_, sqT_frz ht⟩, for_it (walk_tup (K := K) (a := to) (xs := (rmakers rs).map V.str)) (fun j σ H2 => (∃ v3, σ = [some (.ref x), some (.ref xk), some (.ref sp), v3]) ∧ Same H H2 ∧ j ≤ i) ⟨⟨_, rfl⟩, Same.refl _, Nat.zero_le _⟩ (fun i σ H2 _ z => sqT_frz (z.2.1 _ _ ht)) ?_ ?_⟩
  · rintro j y σ H3 H2 hj ⟨⟨v3, rfl⟩, s2, ji⟩ ⟨rfl, hy⟩
    rw [List.getElem?_map, Option.map_eq_some_iff] at hy
    obtain ⟨m, hm, rfl⟩ := hy
    unfold rmakers at hm
    rw [List.getElem?_map, Option.map_eq_some_iff] at hm
    obtain ⟨r2, hr2, rfl⟩ := hm
    have hr2' := List.mem_of_getElem? hr2
    have hsp2 := s2 _ _ hsp
    refine ⟨_, rfl, _, rfl, sp, _, rfl, DGet.k (k := Sum.inr r2.2.1) hsp2, _, rfl, ?_⟩
    by_cases hin2 : r2.2.1 ∈ ks
    · obtain ⟨v, ev, c, rfl, hc⟩ := KD.some kd hin2
      rw [ev]
      refine iteF ⟨_, rfl, _, rfl, _, rfl, _, rfl, sp, _, rfl, (by rw [← ev]; exact DGet.k (k := Sum.inr r2.2.1) hsp2), xk, c, rs, r2, S r2.2.1, rfl, hK.same s2, val, hr2', rd_same s2 hc, len.few r2 hr2' hin2, len.short r2 hr2' hin2, fun H4 s4 => ⟨_, rfl, ?_⟩⟩
      rcases Nat.lt_or_ge j i with lt | ge
      · rw [(before j r2 lt hr2).2]
        exact iteF ⟨⟨_, rfl⟩, s2.trans s4, lt⟩
      · have e : j = i := by omega
        subst e
        rw [hri] at hr2; cases hr2
        rw [bad.resolve_left fun z => z hin2]
        exact iteT ⟨_, rfl, raiseL_read ty (q.same (s2.trans s4))⟩
    · have e : j = i := by
        rcases Nat.lt_or_ge j i with lt | ge
        · exact absurd (before j r2 lt hr2).1 hin2
        · omega
      subst e
      rw [hri] at hr2; cases hr2
      rw [KD.isSome kd, decide_eq_false hin2]
      exact iteT (iteT ⟨_, rfl, raiseL_read ty (q.same s2)⟩)
  · rintro σ H2 ⟨⟨v3, rfl⟩, s2, ji⟩
    rw [List.length_map, l1] at ji
    omega
/-- NotThere with the name k; the dict at sp may be held -/
def RaisesNTb (K : PySem.W.Frag) (H : Hp) (sp : Addr) (k : Str) (E : XK) : Prop := ∀ dx H', But sp H H' → H' dx = some (.xd [("name", .str k)]) → E (.ref (NT K)) (some dx) H'
def spLayU (K : PySem.W.Frag) : Sp := fun vs H Q E => ∃ (x xk sp : Addr) (rs : List Row) (ks : List Str) (S : Str → List Str) (i : Nat) (m : Str), vs = [.ref x, .ref xk, .ref sp] ∧ KindsF K H xk rs ∧ SpecD H sp ks S ∧ ks[i]? = some m ∧ m ∉ rmakers rs ∧
  (∀ j m', j < i → ks[j]? = some m' → m' ∈ rmakers rs) ∧ Tame m ∧ RaisesNTb K H sp m E
theorem okx_layu (T : Tx K mg) (F : FnP K ("Layout", some "__init__") "__init__" "Layout.__init__" s_Layout_init fd) : FnOk P w K mg base (L2.CX P w) 5 (He.fAd K ("Layout", some "__init__")) fd p_Layout_init (spLayU K) := by
  refine F.ok (k := 4) sc_Layout_init (fun vs H Q E h => ?_) (fun cdv A outer s H vs Q E hr h => ?_)
  · obtain ⟨_, _, _, _, _, _, _, _, rfl, _⟩ := h; rfl
  obtain ⟨x, xk, sp, rs, ks, S, i, m0, rfl, hK, ⟨kvs, hsp, kd⟩, hmi, nm, before, ty, q⟩ := h
  have hu := hu_of hr
  obtain ⟨dk0, dm, dk, dp, dl, tn, to, h0, hin⟩ := id hK
  have li := (List.getElem?_eq_some_iff.mp hmi).1
  have lk := KD.length kd
  obtain ⟨f1, F1⟩ := T.F_Kinds_contains
  obtain ⟨f2, F2⟩ := T.F_NotThere_init
  obtain ⟨f3, F3⟩ := T.F_is_spec
  obtain ⟨f4, F4⟩ := T.F_specs_price
  have nd := sc_Layout_init.nd
  refine ⟨_, (pss_cons (ps_lock (ps_for (passes_of rfl) rfl (pi_keys (pv 2)) (pg_name (i := 3) nd rfl (Or.inl rfl))
      (pss_one (ps_if (pt_cmpR (op_notInOwn (okf_contains T F1) (hr.mono (by omega)) T.m_Kinds_contains (b_Kinds_contains F1) pass0) (pv 3) (pv 1) (by rfl))
        (pss_one (ps_raise rfl (takes_of rfl rfl rfl rfl) (pmk_oex T.x_NotThere.oex T.m_NotThere_init.at_ (beq_iff_eq.mp T.m_NotThere_init.fn) (ok_nti T F2) (hr.mono (by omega)) (b_NotThere_init F2) .nil pass0 (by rfl) T.g_NotThere (pa_cons (pv 3) pa_nil))))
        pss_nil))))
    pss_never), ?_⟩
  refine ⟨sp, _, hsp, trivial, fun od => ?_⟩
  have hk1 : KindsF K (upd H sp (.frz od (.dK kvs))) xk rs := hK.mono (imms_upd (notImm_dK hsp)) fun o e => by rw [upd_ne (fun z => by rw [z, hsp] at h0; cases h0)]; exact e
  obtain ⟨dk1, dm1, dkk1, dp1, dl1, tn1, to1, h01, _⟩ := id hk1
  refine ⟨_, rfl, sp, od, rfl, .inl ⟨kvs, upd_same, for_it (walk_keys (d := sp) (o := od) (kvs := kvs)) (fun j σ H2 => (∃ v3, σ = [some (.ref x), some (.ref xk), some (.ref sp), v3]) ∧ H2 = upd H sp (.frz od (.dK kvs)) ∧ j ≤ i) ⟨⟨_, rfl⟩, rfl, Nat.zero_le _⟩ (fun i σ H2 _ z => by rw [z.2.1]; exact upd_same) ?_ ?_⟩⟩
  · rintro j y σ H3 H2 hj ⟨⟨v3, rfl⟩, e2, ji⟩ ⟨rfl, k, v, hkv, rfl⟩
    subst e2
    have hk2 : (ks.map Sum.inr)[j]? = some k := by rw [← kd.1, List.getElem?_map, hkv]; rfl
    rw [List.getElem?_map, Option.map_eq_some_iff] at hk2
    obtain ⟨m, hm, rfl⟩ := hk2
    refine ⟨_, rfl, _, rfl, xk, dk1, _, rfl, h01, xk, m, rs, rfl, hk1, _, rfl, _, rfl, ?_⟩
    rcases Nat.lt_or_ge j i with lt | ge
    · rw [decide_eq_true (before j m lt hm)]
      exact iteF ⟨⟨_, rfl⟩, rfl, lt⟩
    · have e : j = i := by omega
      subst e
      rw [hmi] at hm; cases hm
      rw [decide_eq_false nm]
      refine iteT ⟨_, rfl, raise_read ty fun dx H' s' e => q dx H' (fun b o n e2 => s' _ _ (by rw [upd_ne n]; exact e2)) e⟩
  · rintro σ H2 ⟨⟨v3, rfl⟩, rfl, ji⟩
    exfalso
    omega
end
end Bg
set_option Elab.async false
set_option linter.all false
set_option maxRecDepth 100000
set_option maxHeartbeats 2000000
/-! what a law over layouts keeps: the pool, the rows, the table, the specs -/
namespace Bg
open PySem PySem.Spec PyProof.Rows L2
theorem SpecAtP.mono {H H' : Hp} (t : Tups H H') {sp : Addr} (e : ∀ o, H sp = some o → H' sp = some o) {rs : List Row} {lay : LayM} (h : SpecAtP H sp rs lay) : SpecAtP H' sp rs lay := by
  obtain ⟨kvs, e0, kd⟩ := h
  exact ⟨kvs, e _ e0, KD.mono kd fun _ _ ⟨c, e1, e2⟩ => ⟨c, e1, e2.tups t⟩⟩
theorem SpecAtP.specD {H : Hp} {sp : Addr} {rs : List Row} {lay : LayM} (h : SpecAtP H sp rs lay) : SpecD H sp (rmakers rs) (specOf lay) := h.at_.specD
theorem LayAt.mono {K : PySem.W.Frag} {H H' : Hp} (i : Imms H H') {x xk : Addr} (e : ∀ o, H x = some o → H' x = some o) {rs : List Row} {S : Str → List Str} (h : LayAt K H x xk rs S) : LayAt K H' x xk rs S := by
  obtain ⟨dx, tp, ps, h0, ⟨its, n, h1⟩, h2⟩ := h
  exact ⟨dx, tp, ps, e _ h0, ⟨its, n, i _ _ trivial h1⟩, h2.mono fun _ _ z => PairAtM.mono i.tups z⟩
theorem LayAt.same {K : PySem.W.Frag} {H H' : Hp} (s : Same H H') {x xk : Addr} {rs : List Row} {S : Str → List Str} (h : LayAt K H x xk rs S) : LayAt K H' x xk rs S := h.mono (imms_of s) fun o e => s _ _ e
theorem LayAt.but {K : PySem.W.Frag} {H H' : Hp} {d : Addr} (s : But d H H') (n1 : ∀ u, Imm u → H d ≠ some u) {x xk : Addr} {rs : List Row} {S : Str → List Str} (h : LayAt K H x xk rs S) (n : x ≠ d) : LayAt K H' x xk rs S := h.mono (imms_but s n1) fun o e => s _ _ n e
theorem PoolAt.notImm {H : Hp} {a : Addr} (h : PoolAt H a) : ∀ u, Imm u → H a ≠ some u := by
  obtain ⟨ns, e, _⟩ := h; exact notImm_lst e
theorem LayAt.ins {K : PySem.W.Frag} {H : Hp} {x xk : Addr} {rs : List Row} {S : Str → List Str} (h : LayAt K H x xk rs S) : ∃ dx tp, H x = some (.ins (CL K) dx (lF3 xk tp (layP rs S))) := by
  obtain ⟨dx, tp, _, h0, _⟩ := h; exact ⟨dx, tp, h0⟩
theorem KindsF.ins {K : PySem.W.Frag} {H : Hp} {x : Addr} {rs : List Row} (h : KindsF K H x rs) : ∃ dx dm dk dp dl tn to, H x = some (.ins (CK K) dx (kF6 dm dk dp dl tn to)) := by
  obtain ⟨dx, dm, dk, dp, dl, tn, to, h0, _⟩ := h; exact ⟨dx, dm, dk, dp, dl, tn, to, h0⟩
theorem LayAt.ne_dK {K : PySem.W.Frag} {H : Hp} {x xk d : Addr} {rs : List Row} {S : Str → List Str} {kvs : List (Key × V)} (h : LayAt K H x xk rs S) (e : H d = some (.dK kvs)) : x ≠ d := fun z => by
  obtain ⟨dx, tp, h0⟩ := h.ins; rw [z, e] at h0; cases h0
theorem LayAt.ne_pool {K : PySem.W.Frag} {H : Hp} {x xk d : Addr} {rs : List Row} {S : Str → List Str} (h : LayAt K H x xk rs S) (e : PoolAt H d) : x ≠ d := fun z => by
  obtain ⟨dx, tp, h0⟩ := h.ins; obtain ⟨ns, e, _⟩ := e; rw [z, e] at h0; cases h0
theorem KindsF.pool' {K : PySem.W.Frag} {H H' : Hp} {a : Addr} (e : PoolAt H a) (s : But a H H') {x : Addr} {rs : List Row} (h : KindsF K H x rs) : KindsF K H' x rs := by
  obtain ⟨ns, e, _⟩ := e; exact h.but e s
theorem KindsF.butD {K : PySem.W.Frag} {H H' : Hp} {d x : Addr} {rs : List Row} {kvs : List (Key × V)} (e : H d = some (.dK kvs)) (s : But d H H') (h : KindsF K H x rs) : KindsF K H' x rs :=
  h.mono (imms_but s (notImm_dK e)) fun o z => s _ _ (fun w => by obtain ⟨_, _, _, _, _, _, _, h0⟩ := h.ins; rw [w, e] at h0; cases h0) z
structure LawI (K : PySem.W.Frag) (pool lr sp x : Addr) (us : List V) (rs : List Row) (lay : LayM) (G : Hp) : Prop where
  pl : PoolAt G pool
  nlp : lr ≠ pool
  nsp : sp ≠ pool
  ls : G lr = some (.lst us)
  al : All2 (RowAt G) us rs
  kf : KindsF K G x rs
  sp : SpecAtP G sp rs lay
section
variable {K : PySem.W.Frag} {pool lr sp x : Addr} {us : List V} {rs : List Row} {lay : LayM} {G G' : Hp}
theorem LawI.same (h : LawI K pool lr sp x us rs lay G) (s : Same G G') : LawI K pool lr sp x us rs lay G' :=
  ⟨h.pl.same s, h.nlp, h.nsp, s _ _ h.ls, h.al.mono fun _ _ z => z.mono (tups_of s), h.kf.same s, h.sp.same s⟩
theorem LawI.but (h : LawI K pool lr sp x us rs lay G) (s : But pool G G') (p : PoolAt G' pool) : LawI K pool lr sp x us rs lay G' :=
  ⟨p, h.nlp, h.nsp, s _ _ h.nlp h.ls, h.al.mono fun _ _ z => z.mono (but_tups s h.pl.not), h.kf.pool' h.pl s, h.sp.mono (but_tups s h.pl.not) fun o e => s _ _ h.nsp e⟩
theorem LawI.butD (h : LawI K pool lr sp x us rs lay G) {d : Addr} {kvs : List (Key × V)} (e : G d = some (.dK kvs)) (s : But d G G') (n : sp ≠ d) : LawI K pool lr sp x us rs lay G' := by
  have np : pool ≠ d := fun z => by obtain ⟨_, e2, _⟩ := h.pl; rw [z, e] at e2; cases e2
  have t : Tups G G' := (imms_but s (notImm_dK e)).tups
  refine ⟨?_, h.nlp, h.nsp, s _ _ (fun z => by have := h.ls; rw [z, e] at this; cases this) h.ls, h.al.mono fun _ _ z => z.mono t, h.kf.butD e s, h.sp.mono t fun o z => s _ _ n z⟩
  obtain ⟨ns, e2, l⟩ := h.pl
  exact ⟨ns, s _ _ np e2, l⟩
theorem LawI.spec (h : LawI K pool lr sp x us rs lay G) {r : Row} (hr : r ∈ rs) : ∃ kvs c, G sp = some (.dK kvs) ∧ valV kvs (Sum.inr r.2.1) = some (.ref c) ∧ PlT G c ((specOf lay r.2.1).map V.str) := by
  obtain ⟨kvs, hk, kd⟩ := h.sp
  obtain ⟨v, ev, c, rfl, hc⟩ := KD.some kd (show r.2.1 ∈ rmakers rs from List.mem_map_of_mem hr)
  refine ⟨kvs, c, hk, ev, ?_⟩
  unfold specOf; rw [List.map_map]; exact hc
end
/-! ### dicts of specs -/
theorem SpecD.mono {H H' : Hp} (t : Tups H H') {sp : Addr} (e : ∀ o, H sp = some o → H' sp = some o) {ks : List Str} {S : Str → List Str} (h : SpecD H sp ks S) : SpecD H' sp ks S := by
  obtain ⟨kvs, e0, kd⟩ := h
  exact ⟨kvs, e _ e0, KD.mono kd fun _ _ ⟨c, e1, e2⟩ => ⟨c, e1, rd_tups t e2⟩⟩
theorem SpecD.copy {H : Hp} {ks : List Str} {S : Str → List Str} {kvs : List (Key × V)} (kd : KD kvs ks (SpR H S)) {p : Addr} (hp : H p = none) : SpecD (upd H p (.dK kvs)) p ks S :=
  ⟨kvs, upd_same, KD.mono kd fun _ _ ⟨c, e1, e2⟩ => ⟨c, e1, rd_same (same_new hp) e2⟩⟩
theorem SpecD.put {H : Hp} {d c : Addr} {ks : List Str} {S : Str → List Str} {kvs : List (Key × V)} (hk : H d = some (.dK kvs)) (kd : KD kvs ks (SpR H S)) {m : Str} {sl : List Str} (hc : Rd H c (.tup (sl.map V.str))) :
    SpecD (upd H d (.dK (putK kvs (Sum.inr m) (.ref c)))) d (addNew ks m) (putS S m (some sl)) := by
  have tp : Tups H (upd H d (.dK (putK kvs (Sum.inr m) (.ref c)))) := tups_upd fun u f z => by rw [hk] at z; cases z; exact f
  refine ⟨_, upd_same, KD.put kd (fun k u n ⟨c', e1, e2⟩ => ⟨c', e1, ?_⟩) ⟨c, rfl, ?_⟩⟩
  · unfold putS; rw [if_neg n]; exact rd_tups tp e2
  · unfold putS; rw [if_pos rfl]; exact rd_tups tp hc
def LensB (rs : List Row) (S : Str → List Str) : Prop := ∀ r ∈ rs, (S r.2.1).length ≤ 1000 ∧ ∀ s ∈ S r.2.1, s.length ≤ 100000
theorem LensB.lens {rs : List Row} {S : Str → List Str} (h : LensB rs S) (ks : List Str) : Lens rs ks S := ⟨fun r hr _ => (h r hr).1, fun r hr _ => (h r hr).2⟩
theorem LensB.put {rs : List Row} {S : Str → List Str} (h : LensB rs S) {m : Str} {o : Option (List Str)} (ho : ∀ sl, o = some sl → sl.length ≤ 1000 ∧ ∀ s ∈ sl, s.length ≤ 100000) : LensB rs (putS S m o) := fun r hr => by
  unfold putS
  split
  · cases o with
    | none => exact ⟨Nat.zero_le _, fun s hs => absurd hs (by simp)⟩
    | some sl => exact ho sl rfl
  · exact h r hr
theorem lens_spec {rs : List Row} {lay : LayM} (val : ValidT rs) (lo : LayOk rs lay) (mo : MeasOk rs lay) : LensB rs (specOf lay) := fun r hr => by
  have so := specs_ok val lo mo
  have := (isSpecB_inv (so.ok r hr)).1
  have := val.four r hr
  exact ⟨by omega, so.short r hr⟩
/-! ### answers of two texts -/
theorem pair_eqv {x y : Str} (hx : PyData.strOk x = true) (hy : PyData.strOk y = true) : SeqAt.shaped (.tuple [.str x, .str y]) = true ∧ PyData.eqv (.tuple [.str x, .str y]) (.tuple [.str x, .str y]) = true := by
  have l : PyData.canLay0 (.tuple [.str x, .str y]) = true := by simp only [PyData.canLay0, PyData.canLayAll0, hx, hy]; rfl
  refine ⟨?_, PySem.SeqAt.eqv_refl _ l⟩
  unfold SeqAt.shaped
  rw [l]; rfl
theorem nePair {K : PySem.W.Frag} {H : Hp} {Q : VK} {t t2 : Addr} {x y : Str} (hx : PyData.strOk x = true) (hy : PyData.strOk y = true) (h : H t = some (.tup [.str x, .str y])) (h2 : H t2 = some (.tup [.str x, .str y])) (q : Q (.bl false) H) : rNeD K (.ref t) (.ref t2) H Q := by
  obtain ⟨s, e⟩ := pair_eqv hx hy
  refine ⟨.tuple [.str x, .str y], .tuple [.str x, .str y], .tup (SqT.of h) (.cons (.str _) (.cons (.str _) .nil)), .tup (SqT.of h2) (.cons (.str _) (.cons (.str _) .nil)), s, s, ?_⟩
  rw [e]; exact q
end Bg
namespace Bg
open PySem PySem.Spec PyProof.Rows L2
theorem SpecD.congr {H : Hp} {sp : Addr} {ks : List Str} {S S' : Str → List Str} (h : SpecD H sp ks S) (e : ∀ m ∈ ks, S m = S' m) : SpecD H sp ks S' := by
  obtain ⟨kvs, e0, kd⟩ := h
  refine ⟨kvs, e0, kd.1, fun m v hv => ?_⟩
  have hm : m ∈ ks := (KD.has kd).mp ⟨v, hv⟩
  obtain ⟨c, e1, e2⟩ := kd.2 m v hv
  exact ⟨c, e1, by rw [← e m hm]; exact e2⟩
theorem specP_congr {rs : List Row} {S S' : Str → List Str} (e : ∀ r ∈ rs, S r.2.1 = S' r.2.1) : layP rs S = layP rs S' := by
  unfold layP
  rw [List.map_congr_left (g := fun r => specP r (S' r.2.1)) fun r hr => by rw [e r hr]]
theorem LayAt.congr {K : PySem.W.Frag} {H : Hp} {x xk : Addr} {rs : List Row} {S S' : Str → List Str} (h : LayAt K H x xk rs S) (e : ∀ r ∈ rs, S r.2.1 = S' r.2.1) : LayAt K H x xk rs S' := by
  obtain ⟨dx, tp, ps, h0, h1, h2⟩ := h
  refine ⟨dx, tp, ps, by rw [← specP_congr e]; exact h0, h1, h2.1, fun i v m hv hm => ?_⟩
  obtain ⟨p, c, e1, e2, e3⟩ := h2.2 i v m hv hm
  obtain ⟨r, hr, rfl⟩ := List.mem_map.mp (show m ∈ rmakers rs from List.mem_of_getElem? hm)
  exact ⟨p, c, e1, e2, by rw [← e r hr]; exact e3⟩
theorem lF_order {xk tp : Addr} {pr : Int} : (lF3 xk tp pr).lookup ("order" : Str) = none := by
  unfold lF3 lF2 lF1
  rw [lookup_putF, if_neg (by decide +kernel), lookup_putF, if_neg (by decide +kernel), lookup_putF, if_neg (by decide +kernel)]; rfl
theorem LayAt.ne_kinds {K : PySem.W.Frag} {H : Hp} {ly xk x : Addr} {rs rs' : List Row} {S : Str → List Str} (h : LayAt K H ly xk rs S) (k : KindsF K H x rs') : x ≠ ly := fun e => by
  obtain ⟨dx, tp, h0⟩ := h.ins
  obtain ⟨dk0, dm, dk, dp, dl, tn, to, h1⟩ := k.ins
  rw [e, h0] at h1
  have h2 := Option.some.inj h1
  injection h2 with _ _ c
  have z := kF_order (dm := dm) (dk := dk) (dp := dp) (dl := dl) (tn := tn) (to := to)
  rw [← c, lF_order] at z; cases z
theorem LayAt.notImm {K : PySem.W.Frag} {H : Hp} {ly xk : Addr} {rs : List Row} {S : Str → List Str} (h : LayAt K H ly xk rs S) : ∀ u, Imm u → H ly ≠ some u := by
  obtain ⟨dx, tp, h0⟩ := h.ins
  exact notImm_ins h0
theorem LayAt.ne_lst {K : PySem.W.Frag} {H : Hp} {x xk d : Addr} {rs : List Row} {S : Str → List Str} {zs : List V} (h : LayAt K H x xk rs S) (e : H d = some (.lst zs)) : d ≠ x := fun z => by
  obtain ⟨dx, tp, h0⟩ := h.ins; rw [z, h0] at e; cases e
theorem LawI.butL {K : PySem.W.Frag} {pool lr sp x : Addr} {us : List V} {rs : List Row} {lay : LayM} {G G' : Hp} (h : LawI K pool lr sp x us rs lay G) {ly xk : Addr} {rs' : List Row} {S : Str → List Str} (l : LayAt K G ly xk rs' S) (s : But ly G G') : LawI K pool lr sp x us rs lay G' := by
  have t : Tups G G' := (imms_but s l.notImm).tups
  have nsp : sp ≠ ly := fun z => by obtain ⟨_, e, _⟩ := h.sp; exact l.ne_dK e z.symm
  refine ⟨?_, h.nlp, h.nsp, s _ _ (l.ne_lst h.ls) h.ls, h.al.mono fun _ _ z => z.mono t, h.kf.mono (imms_but s l.notImm) fun o e => s _ _ (l.ne_kinds h.kf) e, h.sp.mono t fun o e => s _ _ nsp e⟩
  obtain ⟨ns, e2, le⟩ := h.pl
  exact ⟨ns, s _ _ (l.ne_lst e2) e2, le⟩
end Bg
set_option Elab.async false
set_option linter.all false
set_option maxRecDepth 100000
set_option maxHeartbeats 1000000
/-! a def that may raise, called where it does not -/
namespace Bg
open PySem PySem.Spec PyProof.Rows L2
theorem cx_no {P : Program} {w : World} {outer : List Env} {H : Hp} {s s' : Shared} {u : Value} (h : L2.CX P w outer H s E0 u s') : False := by
  obtain ⟨_, _, _, _, _, _, _, _, _, _, _, _, z⟩ := h
  exact z
theorem calm {P : Program} {w : World} {K : PySem.W.Frag} {mg : Str → Option Value} {base : Heap} {k : Nat} {f : Addr} {fd : FuncData} {ps : List Str} {sp : Sp} (F : FnOk P w K mg base (L2.CX P w) k f fd ps sp) : FnOk P w K mg base CX0 k f fd ps (fun vs H Q _ => sp vs H Q E0) := by
  refine ⟨fun vs H Q E h => F.len vs H Q E0 h, fun A outer s H args us vs Q E hr e0 hb r h => ?_⟩
  refine codeAny_mono (F.run A outer s H args us vs Q E0 hr e0 hb r h) fun res s' z => ?_
  cases res with
  | error e => exact (cx_no z).elim
  | ok fl => cases fl <;> exact z
end Bg
set_option Elab.async false
set_option linter.all false
set_option maxRecDepth 100000
set_option maxHeartbeats 2000000
/-! o[e] by an own __getitem__ -/
namespace Bg
open PySem PySem.Spec PyProof.Rows L2
section
variable {X : Cx} {CX : CXT} {k : Nat} {f C : Addr} {fd : FuncData} {ps : List Str} {sp : Sp} {dvs : List V} {ds : List Value} {E : XK}
/-- the callee runs, one step further in -/
theorem run_fn1 {pins : List (Addr × Obj)} {σ : L2.St} {H : Hp} {s : Shared} {Q : VK} {us : List Value} {vs : List V} (F : FnOk X.prog X.w X.K X.mg X.base CX k f fd ps sp) (hr : Room (k + 1) X.A) (hb : Binds X.K fd ps ds) (hd : Vals dvs ds) (hx : Passes CX X E)
    (I : Inv X pins σ H s) (r : Vals vs us) (h : sp (vs ++ dvs) H Q E) : wpAny (model X.prog X.w) X.A.in1 (call (.ref f) us) (EP X pins σ Q) X.xe s := by
  have r2 : Vals (vs ++ dvs) (us ++ ds) := r.append hd
  have hl : (us ++ ds).length = ps.length := by rw [← r2.length]; exact F.len _ _ _ _ h
  refine wpAny_call (codeAny_mono (F.run X.A.in1 X.stack s H ⟨us, []⟩ (us ++ ds) (vs ++ dvs) Q E hr.in1 I.env0.in1 (hb s us I.kIn hl) r2 h) fun r s' hq => ?_)
  cases r with
  | error e => exact hx pins σ H s e s' I hq
  | ok fl =>
    cases fl with
    | ret u => exact I.after hq
    | next => exact False.elim hq
    | brk => exact False.elim hq
    | cont => exact False.elim hq
def rOwnIx (C : Addr) (sp : Sp) (E : XK) : R2 := fun x y H Q => ∃ a dx fs, x = .ref a ∧ H a = some (.ins C dx fs) ∧ sp [.ref a, y] H Q E
def PlainIx2 (b : Expr) : Prop := ∀ o i, subscripted b true o i = runValue (.builtin "lifetime.subscript" ⟨[o, i], []⟩)
theorem pe_ixOwn {a b : Expr} {ta tb : TE} {pos : Pos} (F : FnOk X.prog X.w X.K X.mg X.base CX k f fd ps sp) (hr : Room (k + 1) X.A) (m : Meth X.K C "__getitem__" f) (hfn : PySem.W.fnIn X.K f = true) (hb : Binds X.K fd ps []) (hx : Passes CX X E)
    (ha : PE X a ta) (hB : PE X b tb) (hs : PlainIx2 b) : PE X (.Subscript a b pos) (tOp (rOwnIx C sp E) ta tb) := by
  refine ⟨fun pins s σ H Q I h => ?_⟩
  refine Subscript_ (binT ha hB I h fun v u s2 x y H2 I2 rx ry q => ?_)
  obtain ⟨a0, dx, fs, rfl, h0, q⟩ := q
  cases rx
  obtain ⟨mA, J, _⟩ := ins_get I2.hok h0
  obtain ⟨od, J, _⟩ := J.look
  obtain ⟨m', hF⟩ := I2.fr
  exact PySem.W.sub_K hF I2.ok.mod.kin J m.at_ hfn m.fn (run_fn1 F hr hb .nil hx I2 (.cons (show RelV (V.ref a0) (Value.ref a0) from rfl) (.cons ry .nil)) q) (hs _ _)
end
theorem fnIn_of {K : PySem.W.Frag} {x qual : Str} {params : Arguments} {body : List Stmt} {scope : Scope} {dvs : List V} {kws : List (Str × V)} {f : Addr} {fd : FuncData} (F : FunD K x qual params body scope dvs kws f fd) : PySem.W.fnIn K f = true := by
  obtain ⟨oc, od, dV, kV, doc, pm, an, cdv, ct, osl, rfl, lk, _⟩ := F.ex
  unfold PySem.W.fnIn
  rw [lk]
theorem passAt0 {X : Cx} {E : L2.St → XK} (σ : L2.St) : PassesAt CX0 X σ (E σ) := fun _ _ _ _ _ _ h => h.elim
/-- one def, two promises -/
theorem FnOk.or {P : Program} {w : World} {K : PySem.W.Frag} {mg : Str → Option Value} {base : Heap} {CX : CXT} {k : Nat} {f : Addr} {fd : FuncData} {ps : List Str} {sp sp' : Sp} (F : FnOk P w K mg base CX k f fd ps sp) (G : FnOk P w K mg base CX k f fd ps sp') :
    FnOk P w K mg base CX k f fd ps (fun vs H Q E => sp vs H Q E ∨ sp' vs H Q E) :=
  ⟨fun vs H Q E q => q.elim (F.len vs H Q E) (G.len vs H Q E), fun A outer s H args us vs Q E hr he hb hv hs => hs.elim (F.run A outer s H args us vs Q E hr he hb hv) (G.run A outer s H args us vs Q E hr he hb hv)⟩
end Bg
set_option Elab.async false
set_option linter.all false
set_option maxRecDepth 100000
set_option maxHeartbeats 2000000
/-! own classes: for over an own __iter__, o[e] = v, C.m(..) of a classmethod and of a staticmethod, cls(..) -/
namespace Bg
open PySem PySem.Spec PySem.Builtin PyProof.Rows L2
/-! ### iter(t), t a tuple -/
def titObj (l : Addr) (i : Nat) : Obj := { cls := .type "tuple_iterator", data := .fields #[.ref l, .int i 0] }
def ItT (l it : Addr) (i : Nat) : HO := .ext fun h => h.get? it = some (titObj l i)
theorem itT_ok {P : Program} {w : World} {H : Hp} {h : Heap} {l it : Addr} {i : Nat} (e : h.get? it = some (titObj l i)) : ObjOk P w H h it (ItT l it i) := ⟨e, ⟨_, e⟩, fun h1 h2 q k => k _ q⟩
theorem itT_get {X : Cx} {pins : List (Addr × Obj)} {σ : L2.St} {H : Hp} {s : Shared} {l it : Addr} {i : Nat} (I : Inv X pins σ H s) (e : H it = some (ItT l it i)) : s.heap.get? it = some (titObj l i) := (I.hok it _ e).1
theorem call_iter_tup {prog : Program} {w : World} {A : Around} {E : Value → Shared → Prop} {s : Shared} {l : Addr} {items : Array Value} {Q : Value → Shared → Prop} (hl : s.heap.IsTuple l items) (h : Q (.ref s.heap.objs.size) { s with heap := s.heap.push (titObj l 0) }) : wpAny (model prog w) A (call (.builtin "iter") [.ref l]) Q E s := by
  refine Calls.call_function_entry (by decide +kernel) (by decide +kernel) PySem.W.kdk_entry_iter (PySem.W.kdk_args_iter _) ?_
  unfold Builtin.«iter»
  refine wpAny_bind (m := someArgs "iter" 1 2 _) (wpAny_of_eq (a := [Value.ref l]) (by first | rfl | kernel_rfl!) ?_)
  show wpAny _ _ (pyIter (.ref l) >>= _) _ _ _
  refine wpAny_bind (wpAny_pyIter_tuple hl ?_)
  exact wpAny_pure ⟨_, rfl, h⟩
def rIterT (K : PySem.W.Frag) : List V → Hp → VK → Prop := fun xs H Q => ∃ (l : Addr) (zs : List V), xs = [.ref l] ∧ SqT K H l zs ∧ ∀ it, H it = none → Q (.ref it) (upd H it (ItT l it 0))
section
variable {X : Cx}
theorem call_iterT : CallR X (.builtin "iter") (rIterT X.K) := by
  intro pins s σ H xs us Q I r h
  obtain ⟨l, zs, rfl, hq, q⟩ := h
  obtain rfl := Vals.ref1 r
  obtain ⟨its, rv, pl, hz⟩ := I.tuple hq
  refine call_iter_tup (items := its.toArray) pl ?_
  exact ⟨.ref s.heap.objs.size, _, I.laid (t' := s.toks) (fun b u e => Heap.get?_push_of_some _ e) (Nat.le_refl _) (itT_ok (Heap.get?_push_size _ rfl)), rfl, q _ (I.hok.fresh (Nat.le_refl _))⟩
end
def rIterTN (K : PySem.W.Frag) (n : Nat) : List V → Hp → VK → Prop := fun xs H Q => ∃ (l : Addr) (zs : List V), xs = [.ref l] ∧ SqT K H l zs ∧ ∀ it, H it = none → n ≤ it → Q (.ref it) (upd H it (ItT l it 0))
theorem call_iterTN {X : Cx} {n : Nat} (hn : n ≤ X.s_0.heap.objs.size) : CallR X (.builtin "iter") (rIterTN X.K n) := by
  intro pins s σ H xs us Q I r h
  obtain ⟨l, zs, rfl, hq, q⟩ := h
  obtain rfl := Vals.ref1 r
  obtain ⟨its, rv, pl, hz⟩ := I.tuple hq
  refine call_iter_tup (items := its.toArray) pl ?_
  exact ⟨.ref s.heap.objs.size, _, I.laid (t' := s.toks) (fun b u e => Heap.get?_push_of_some _ e) (Nat.le_refl _) (itT_ok (Heap.get?_push_size _ rfl)), rfl, q _ (I.hok.fresh (Nat.le_refl _)) (Nat.le_trans hn I.sz)⟩
/-! ### a def's promise at heaps of some size -/
def FnFrom (n : Nat) (P : Program) (w : World) (K : PySem.W.Frag) (mg : Str → Option Value) (base : Heap) (CX : CXT) (k : Nat) (f : Addr) (fd : FuncData) (ps : List Str) (sp : Sp) : Prop :=
  (∀ vs H Q E, sp vs H Q E → vs.length = ps.length) ∧
  ∀ (A : Around) (outer : List Env) (s : Shared) (H : Hp) (args : Args) (us : List Value) (vs : List V) (Q : VK) (E : XK), n ≤ s.heap.objs.size → Room k A → Env0 P w K mg base A outer s H → BindsTo s fd args (ps.zip us) → Vals vs us → sp vs H Q E →
    codeAny (model P w) A (.call (.ref f) args) (CR CX outer P w H s Q E) s
section
variable {P : Program} {w : World} {K : PySem.W.Frag} {mg : Str → Option Value} {base : Heap} {CX : CXT} {x qual : Str} {params : Arguments} {body : List Stmt} {scope : Scope} {dvs : List V} {kws : List (Str × V)} {f : Addr} {fd : FuncData} {N ps : List Str} {k n : Nat} {sp : Sp}
theorem fnFrom (F : FunD K x qual params body scope dvs kws f fd) (S : FnScope N ps scope) (len : ∀ vs H Q E, sp vs H Q E → vs.length = ps.length)
    (hb : ∀ (cdv : Value) (A : Around) (outer : List Env) (s : Shared) (H : Hp) (vs : List V) (Q : VK) (E : XK), n ≤ s.heap.objs.size → Room k (A.deeper (envOfC qual scope s.heap.objs.size f cdv)) → sp vs H Q E →
      ∃ t, PSs (cxOf CX P w K mg base N qual scope f cdv A outer s H E) body t ∧ t { nx := fun _ H' => Q .non H', rt := Q } (start N vs) H) :
    FnFrom n P w K mg base CX (k + 1) f fd ps sp := by
  obtain ⟨oc, od, dV, kV, doc, pm, an, cdv, ct, osl, rfl, lk, hcd, _, _⟩ := F.ex
  refine ⟨len, fun A outer s H args us vs Q E hn hr e0 hbd r hsp => ?_⟩
  have hl := len _ _ _ _ hsp
  have old : ∀ b o, base.get? b = some o → s.heap.get? b = some o := fun b o e => (e0.bs b o e).1
  have kin := e0.mod.kin.keeps old
  have kinds : ∀ y ∈ ps.zip us, scope.names.lookup y.1 = some .local ∨ (scope.names.lookup y.1 = some .cell ∧ ((cellsFrom (s.heap.objs.size + 1) scope.names []).lookup y.1).isSome = true) := by
    rintro ⟨y, v⟩ hy
    rcases S.par y (List.of_mem_zip hy).1 with q | q
    · exact .inl q
    · exact .inr ⟨q, PySem.W.cellsFrom_some _ _ _ (.inl q)⟩
  refine codeAny_call_function hr.depth (kin _ _ lk) rfl S.co S.gen rfl (PySem.W.codeRec_of kin hcd) (hbd _ _ _ _ (wpAny_newFunctionEnv_cells S.kind kinds fun env he s1 x1 => ?_))
  cases he
  refine ⟨(e0.mod.nolimit.keeps old).keeps x1.toInCall.keep, codeAny_func ?_⟩
  obtain ⟨t, ht, hq⟩ := hb cdv A outer s H vs Q E hn (hr.deeper _) hsp
  refine wpAny_mono (ht.run [] s1 _ H _ (inv_start S hr.hd e0 hl r x1) hq) (fun fl s' hs => ?_) fun _ _ z => z
  match fl, hs with
  | .ret u, ⟨v, σ', H', J, rv, q⟩ => exact ⟨v, H', J.os, J.bare, J.base, J.hok, rv, q⟩
  | .next, ⟨σ', H', J, q⟩ => exact ⟨V.non, H', J.os, J.bare, J.base, J.hok, rfl, q⟩
  | .brk, ⟨_, _, _, q⟩ => exact q.elim
  | .cont, ⟨_, _, _, q⟩ => exact q.elim
end
/-! ### for x in o, o an instance whose __iter__ gives the iterator of a tuple -/
def iOwn (K : PySem.W.Frag) (C : Addr) (sp : Sp) (E : XK) (n : Nat) (te : TE) : TI := fun σ H R => te σ H fun x H1 => ∃ a dx fs, x = .ref a ∧ H1 a = some (.ins C dx fs) ∧ sp [.ref a] H1 (fun v H2 => ∃ it l, v = .ref it ∧ H2 it = some (ItT l it 0) ∧ n ≤ it ∧ R (Itt K l) (ItX.dropH H2 it)) E
section
variable {X : Cx} {CX : CXT} {k : Nat} {f C : Addr} {fd : FuncData} {ps : List Str} {sp : Sp} {E : XK} {tg e : Expr} {te : TE}
theorem tit_next {M : Model} {A : Around} {E : Value → Shared → Prop} {s : Shared} {Q : Value → Shared → Prop} {it l : Addr} {i : Nat} (ho : s.heap.get? it = some (titObj l i)) (h : Q (.ref it) s) : PySem.W.OwitIt M A Q E (.ref it) s := by
  unfold PySem.W.OwitIt
  exact (wpAny_specialOf (v := .ref it) (T := "tuple_iterator") (show ∃ o, s.heap.get? it = some o ∧ o.cls = Value.type "tuple_iterator" from ⟨_, ho, rfl⟩) PySem.F.slot_tuple_iterator_next.lookup h)
theorem pi_own (F : FnFrom X.s_0.heap.objs.size X.prog X.w X.K X.mg X.base CX k f fd ps sp) (hr : Room k X.A) (m : Meth X.K C "__iter__" f) (hb : Binds X.K fd ps []) (hx : Passes CX X E) (he : PE X e te) : PI X tg e (iOwn X.K C sp E X.s_0.heap.objs.size te) := by
  refine ⟨fun pins s σ H R I h => ?_⟩
  refine thn (he.run pins s σ H _ I h) fun v s1 ⟨x, H1, I1, r1, q1⟩ => ?_
  obtain ⟨a, dx, fs, rfl, h0, q⟩ := q1
  cases r1
  obtain ⟨mA, J, _⟩ := ins_get I1.hok h0
  obtain ⟨od, J, _⟩ := J.look
  obtain ⟨m', hF⟩ := I1.fr
  refine PySem.W.owit_iter hF I1.ok.mod.kin J m.at_ m.fn ?_
  have r2 : Vals [V.ref a] [Value.ref a] := .cons rfl .nil
  have hl : ([Value.ref a] ++ []).length = ps.length := F.1 _ _ _ _ q
  refine wpAny_call (codeAny_mono (F.2 X.A X.stack s1 H1 ⟨[.ref a], []⟩ ([.ref a] ++ []) [.ref a] _ E I1.sz hr I1.env0 (hb s1 [.ref a] I1.kIn hl) r2 q) fun res s2 hq => ?_)
  cases res with
  | error er => exact hx pins σ H1 s1 er s2 I1 hq
  | ok fl =>
    cases fl with
    | next => exact hq.elim
    | brk => exact hq.elim
    | cont => exact hq.elim
    | ret u =>
      obtain ⟨z1, H2, I2, rz, it, l, rfl, hit, hn, q2⟩ := I1.after hq
      cases rz
      have eo := itT_get I2 hit
      refine tit_next eo ?_
      refine ⟨it, [it], _, _, ItX.dropH H2 it, rfl, ItX.inv_drop I2 hit, turn_tuple l it, ⟨_, eo, rfl, rfl⟩, fun b hb => ?_, q2⟩
      have e : b = it := by simpa using hb
      rw [e]
      exact ItX.inv_fp I2 hit hn
end
end Bg
namespace Bg
open PySem PySem.Spec PySem.Builtin PyProof.Rows L2
section
variable {X : Cx} {CX : CXT} {k : Nat} {f C : Addr} {fd : FuncData} {ps : List Str} {sp : Sp} {E : L2.St → XK} {a b o i : Expr} {ta tb to ti : TE} {pos : Pos}
theorem run_fn1S {pins : List (Addr × Obj)} {σ : L2.St} {H : Hp} {s : Shared} {Q : VK} {us : List Value} {vs : List V} (F : FnOk X.prog X.w X.K X.mg X.base CX k f fd ps sp) (hr : Room (k + 1) X.A) (hb : Binds X.K fd ps []) (hx : PassesAt CX X σ (E σ))
    (I : Inv X pins σ H s) (r : Vals vs us) (h : sp vs H Q (E σ)) : wpAny (model X.prog X.w) X.A.in1 (call (.ref f) us) (EP X pins σ Q) X.xe s := by
  have hl : (us ++ []).length = ps.length := by rw [List.append_nil, ← r.length]; exact F.len _ _ _ _ h
  have r2 : Vals vs (us ++ []) := by rw [List.append_nil]; exact r
  refine wpAny_call (codeAny_mono (F.run X.A.in1 X.stack s H ⟨us, []⟩ (us ++ []) vs Q (E σ) hr.in1 I.env0.in1 (hb s us I.kIn hl) r2 h) fun r s' hq => ?_)
  cases r with
  | error e => exact hx pins H s e s' I hq
  | ok fl =>
    cases fl with
    | ret u => exact I.after hq
    | next => exact False.elim hq
    | brk => exact False.elim hq
    | cont => exact False.elim hq
/-- o[e] by an own __getitem__ that may raise -/
def tOwnIxAt (C : Addr) (sp : Sp) (E : L2.St → XK) (ta tb : TE) : TE := fun σ H Q => ta σ H fun x H1 => tb σ H1 fun y H2 => ∃ a dx fs, x = .ref a ∧ H2 a = some (.ins C dx fs) ∧ sp [.ref a, y] H2 Q (E σ)
theorem pe_ixOwnAt (F : FnOk X.prog X.w X.K X.mg X.base CX k f fd ps sp) (hr : Room (k + 1) X.A) (m : Meth X.K C "__getitem__" f) (hfn : PySem.W.fnIn X.K f = true) (hb : Binds X.K fd ps []) (hx : ∀ σ, PassesAt CX X σ (E σ))
    (ha : PE X a ta) (hB : PE X b tb) (hs : PlainIx2 b) : PE X (.Subscript a b pos) (tOwnIxAt C sp E ta tb) := by
  refine ⟨fun pins s σ H Q I h => ?_⟩
  refine Subscript_ (thn (ha.run pins s σ H _ I h) fun v s1 ⟨x, H1, I1, rx, h1⟩ => thn (hB.run pins s1 σ H1 _ I1 h1) fun u s2 ⟨y, H2, I2, ry, q⟩ => ?_)
  obtain ⟨a0, dx, fs, rfl, h0, q⟩ := q
  cases rx
  obtain ⟨mA, J, _⟩ := ins_get I2.hok h0
  obtain ⟨od, J, _⟩ := J.look
  obtain ⟨m', hF⟩ := I2.fr
  exact PySem.W.sub_K hF I2.ok.mod.kin J m.at_ hfn m.fn (run_fn1S F hr hb (hx σ) I2 (.cons (show RelV (V.ref a0) (Value.ref a0) from rfl) (.cons ry .nil)) q) (hs _ _)
/-- o[e] = v by an own __setitem__ -/
theorem setItem_own {M : Model} {A : Around} {E : Value → Shared → Prop} {s : Shared} {K : PySem.W.Frag} {x C L f : Addr} {h₀ : Heap} {m : Str → Option Value} {ox : Obj} {od : Option Obj} {i v : Value} {Q : Unit → Shared → Prop} (F : Fr h₀ L s.heap m) (X₀ : K.In h₀) (I : PySem.W.InstAt s.heap x ox C od)
    (hq : PySem.W.noSeq K C = true) (hs : PySem.W.findIn K (.ref C) "__setitem__" = some (some (.ref f))) (hf : PySem.W.isFn K (.ref f) = true) (h : wpAny M A (call (.ref f) [.ref x, i, v]) (fun _ => Q ()) E s) : wpAny M A (setItem (.ref x) i v) Q E s := by
  have Y := X₀.keeps F.keep
  unfold setItem sequenceKey
  refine wpAny_holding (wpAny_bind (wpAny_bind (I.type.here ?_)))
  refine wpAny_bind ((PySem.W.anyM_none Y hq).here ?_)
  rw [if_pos (show (!false) = true from rfl)]
  exact wpAny_pure (wpAny_bind (PySem.W.special_fn Y I hs (beq_iff_eq.mp hf) (wpAny_mono h (fun _ _ z => wpAny_pure z) fun _ _ z => z)))
def gSubOwn (C : Addr) (sp : Sp) (E : L2.St → XK) (to ti : TE) : TG := fun v σ H Q => to σ H fun o H1 => ti σ H1 fun i H2 => ∃ a dx fs, o = .ref a ∧ H2 a = some (.ins C dx fs) ∧ sp [.ref a, i, v] H2 (fun _ H3 => Q σ H3) (E σ)
theorem pg_subOwn (F : FnOk X.prog X.w X.K X.mg X.base CX k f fd ps sp) (hr : Room k X.A) (m : Meth X.K C "__setitem__" f) (hq : PySem.W.noSeq X.K C = true) (hb : Binds X.K fd ps []) (hx : ∀ σ, PassesAt CX X σ (E σ)) (ho : PE X o to) (hi : PE X i ti)
    (ha : ∀ v, assign (.Subscript o i pos) X.env v = (do
      let ov ← holding [v] (eval o X.env)
      let iv ← holding [v, ov] (eval i X.env)
      standAt pos
      holding [v, ov, iv] (setItem ov iv v)
      release [v, ov, iv] []) := by intro _; rfl) : PG X (.Subscript o i pos) (gSubOwn C sp E to ti) := by
  refine ⟨fun pins s σ H v u Q I r h => ?_⟩
  rw [ha]
  refine wpAny_bind (wpAny_holding (thn (ho.run pins s σ H _ I h) fun ov s1 ⟨x, H1, I1, r1, q1⟩ => wpAny_bind (wpAny_holding (thn (hi.run pins s1 σ H1 _ I1 q1) fun iv s2 ⟨y, H2, I2, r2, q2⟩ => ?_))))
  obtain ⟨a0, dx, fs, rfl, h0, q2⟩ := q2
  cases r1
  obtain ⟨mA, J, _⟩ := ins_get I2.hok h0
  obtain ⟨od, J, _⟩ := J.look
  obtain ⟨m', hF⟩ := I2.fr
  refine wpAny_bind (wpAny_standAt (wpAny_bind (wpAny_holding (setItem_own hF I2.ok.mod.kin J hq m.at_ m.fn (thn (run_fnS F hr hb (hx σ) I2 (.cons (show RelV (V.ref a0) (Value.ref a0) from rfl) (.cons r2 (.cons r .nil))) q2) fun _ s3 ⟨z, H3, I3, _, q3⟩ => ?_)))))
  exact wpAny_release ⟨σ, H3, I3, q3⟩
end
/-! ### staticmethods -/
def tSMeth (C : Addr) (sp : Sp) (E : XK) (ta : TE) (t : TA) : TE := fun σ H Q => ta σ H fun x H1 => x = .ref C ∧ t σ H1 fun vs H2 => sp vs H2 Q E
section
variable {X : Cx} {CX : CXT} {k : Nat} {C p g : Addr} {fd : FuncData} {ps : List Str} {sp : Sp} {E : XK} {o e : Expr} {es : List Expr} {m : Str} {pos apos : Pos} {ta : TE} {t : TA} {pl : Sem Bool}
theorem pe_smeth (he : PE X o ta) (r : ClX.CRead X.K C (.type "type")) (c : SMet X.K C m p g) (kp : PySem.W.keepIn X.K (.ref g) = true) (F : FnOk X.prog X.w X.K X.mg X.base CX k g fd ps sp) (hr : Room k X.A) (hb : Binds X.K fd ps []) (hx : Passes CX X E) (ha : PA X (e :: es) t)
    (hst : starEach (e :: es) X.env = (false, eval e X.env) :: starEach es X.env := by rfl) (hpl : (backTo pos (starEach es X.env)).any (·.1) = false := by rfl)
    (ht : eval (.Call (.Attribute o m apos) (e :: es) [] pos) X.env = (do
      let ov ← eval o X.env
      standAt apos.atName
      let (f, first) ← holding [ov] (getMethod ov m pl)
      callWith pos f first (backTo pos (starEach (e :: es) X.env)) (backToKw pos (keywordEach [] X.env))) := by rfl) :
    PE X (.Call (.Attribute o m apos) (e :: es) [] pos) (tSMeth C sp E ta t) := by
  refine ⟨fun pins s σ H Q I h => ?_⟩
  refine PySem.W.methodCall_KW (pl := pl) (thn (he.run pins s σ H _ I h) fun u s1 ⟨x, H1, I1, rx, ex, q⟩ => ?_) ht
  cases ex
  cases rx
  obtain ⟨rest, hp⟩ := c.rc
  have I2 := I1.tok (s1.toks + 1)
  refine PySem.W.method_cls I1.kIn r.ga (PySem.W.cls_bind I1.kIn r.rd c.at_ (wpAny_call (PySem.W.sm_get (s := { s1 with toks := s1.toks + 1 }) I1.kIn hp (PySem.W.handed_on rfl ?_))))
  refine PySem.W.callWith_K (h₀ := X.base) I2.ok.mod.kin kp (thn (ha.run pos pins _ σ H1 _ I2 q) fun us s3 ⟨vs, H2, I3, rv, q2⟩ => ⟨I3.kIn, ?_⟩) hst hpl
  exact run_fn F hr hb .nil hx I3 rv (by rw [List.append_nil]; exact q2)
end
/-! ### cls(..), cls a local name that holds a class -/
def tMakeV (i : Nat) (C : Addr) (sp : Sp) (E : XK) (t : TA) : TE := fun σ H Q => σ[i]? = some (some (.ref C)) ∧ tMake C sp [] E t σ H Q
section
variable {X : Cx} {CX : CXT} {k i : Nat} {C f : Addr} {fd : FuncData} {ps : List Str} {sp : Sp} {E : XK} {e : Expr} {es : List Expr} {x : Str} {p pos : Pos} {t : TA}
theorem pe_makeV (M : Mk X.K C f) (F : FnOk X.prog X.w X.K X.mg X.base CX k f fd ps sp) (hr : Room (k + 1) X.A) (hb : Binds X.K fd ps []) (hx : Passes CX X E) (hN : X.N[i]? = some x) (hv : Vis X.env.scope x) (ha : PA X (e :: es) t)
    (hd : (x == ("__debug__" : Str)) = false := by decide) (hcd : (x == ("__classdict__" : Str)) = false := by decide)
    (he : starEach (e :: es) X.env = (false, eval e X.env) :: starEach es X.env := by rfl) (hpl : (backTo pos (starEach es X.env)).any (·.1) = false := by rfl) : PE X (.Call (.Name x p) (e :: es) [] pos) (tMakeV i C sp E t) := by
  refine ⟨fun pins s σ H Q I h => ?_⟩
  obtain ⟨hs, h⟩ := h
  refine wpAny_Call_Name_kw (thn ((pe_var (pos := p) (i := i) hN hv hd hcd).run pins s σ H (fun v H1 => v = .ref C ∧ H1 = H) I ⟨.ref C, hs, rfl, rfl⟩) fun u s1 ⟨v, H1, I1, r1, ev, eH⟩ => ?_)
  subst ev
  rw [eH] at I1
  cases r1
  refine PySem.W.callWith_K (h₀ := X.base) I.ok.mod.kin M.kp (thn (ha.run pos pins s1 σ H _ I1 h) fun us s2 ⟨vs, H2, I2, r, q⟩ => ⟨I2.kIn, ?_⟩) he hpl
  exact run_make M F hr hb .nil hx I2 r q
end
end Bg
set_option Elab.async false
set_option linter.all false
set_option maxRecDepth 100000
set_option maxHeartbeats 4000000
/-! Layout.plain, Layout.measured, Layout.mark -/
namespace Bg
open PySem PySem.Spec PyProof.Rows L2
def treeP (p : Part) : Bool := decide (p.2.1 ≠ ("byte" : Str))
/-- the tree parts of a row by name -/
def treeNames (r : Row) : List Str := (r.2.2.filter treeP).map (·.1)
def fullSlot (p : Part) : LSlot := (treeP p, p.1)
def layPl (rs : List Row) : LayM := fun m => (rowAtM rs m).2.2.map fun p => (false, p.1)
def layFu (rs : List Row) : LayM := fun m => (rowAtM rs m).2.2.map fullSlot
theorem layPl_ok {rs : List Row} (nd : (rmakers rs).Nodup) : LayOk rs (layPl rs) := ⟨fun r hr => by
  unfold layPl; rw [rowAtM_of nd hr, List.map_map]; exact List.Perm.refl _⟩
theorem layFu_ok {rs : List Row} (nd : (rmakers rs).Nodup) : LayOk rs (layFu rs) := ⟨fun r hr => by
  unfold layFu; rw [rowAtM_of nd hr, List.map_map]; exact List.Perm.refl _⟩
theorem layPl_meas {rs : List Row} (nd : (rmakers rs).Nodup) : MeasOk rs (layPl rs) := fun r hr s hs e => by
  unfold layPl at hs
  obtain ⟨p, _, rfl⟩ := List.mem_map.mp hs
  cases e
theorem layFu_meas {rs : List Row} (nd : (rmakers rs).Nodup) : MeasOk rs (layFu rs) := fun r hr s hs e => by
  unfold layFu at hs
  rw [rowAtM_of nd hr] at hs
  obtain ⟨p, hp, rfl⟩ := List.mem_map.mp hs
  exact ⟨p, hp, rfl, of_decide_eq_true e⟩
theorem specPl {rs : List Row} (nd : (rmakers rs).Nodup) {r : Row} (hr : r ∈ rs) : specOf (layPl rs) r.2.1 = r.2.2.map (·.1) := by
  unfold specOf layPl; rw [rowAtM_of nd hr, List.map_map]
  exact List.map_congr_left fun p _ => rfl
theorem specFu {rs : List Row} (nd : (rmakers rs).Nodup) {r : Row} (hr : r ∈ rs) : specOf (layFu rs) r.2.1 = r.2.2.map fun p => sText (fullSlot p) := by
  unfold specOf layFu; rw [rowAtM_of nd hr, List.map_map]; rfl
theorem fnR_of {P : Program} {w : World} {K : PySem.W.Frag} {mg : Str → Option Value} {base : Heap} {CX : CXT} {k : Nat} {f : Addr} {fd : FuncData} {ps : List Str} {sp : Sp} (F : FnOk P w K mg base CX k f fd ps sp) (hb : Binds K fd ps []) : FnR P w K mg base CX k f sp :=
  fun A outer s H us vs Q E hr e0 hv hs => by
    have hl : (us ++ []).length = ps.length := by rw [List.append_nil, ← hv.length]; exact F.len _ _ _ _ hs
    have kin : K.In s.heap := e0.mod.kin.keeps fun b o e => (e0.bs b o e).1
    have b := hb s us kin hl
    rw [List.append_nil] at b
    exact F.run A outer s H ⟨us, []⟩ us vs Q E hr e0 b hv hs
section
variable {P : Program} {w : World} {K : PySem.W.Frag} {mg : Str → Option Value} {base : Heap} {fd : FuncData}
def spTreeParts (K : PySem.W.Frag) : Sp := fun vs H Q _ => ∃ (xk : Addr) (rs : List Row) (r : Row), vs = [.ref xk, .str r.2.1] ∧ KindsF K H xk rs ∧ ValidT rs ∧ r ∈ rs ∧ ∀ l H', Same H H' → H l = none → H' l = some (.lst ((treeNames r).map V.str)) → Q (.ref l) H'
theorem ok_tree_parts (T : Tx K mg) (F : FnP K ("tree_parts", none) "tree_parts" "tree_parts" s_tree_parts fd) : FnOk P w K mg base CX0 3 (He.fAd K ("tree_parts", none)) fd p_tree_parts (spTreeParts K) := by
  refine F.ok (k := 2) sc_tree_parts (fun vs H Q E h => ?_) (fun cdv A outer s H vs Q E hr h => ?_)
  · obtain ⟨_, _, _, rfl, _⟩ := h; rfl
  obtain ⟨xk, rs, r, rfl, hK, val, hr', q⟩ := h
  obtain ⟨dx, dm, dk, dp, dl, tn, to, h0, hin⟩ := id hK
  obtain ⟨f1, F1⟩ := T.F_Kinds_parts
  obtain ⟨f2, F2⟩ := T.F_Kinds_inner
  obtain ⟨t_BYTE, m_BYTE⟩ := T.c_BYTE
  have nd := sc_tree_parts.nd
  refine ⟨_, PSs.nox (pss_one (ps_ret (pe_lc (own := [("part", 2)]) (g := gName 2) rfl nd (pi_tup (pe_meth (pv 0) T.cl_Kinds T.m_Kinds_parts (okf_parts T F1) (hr.mono (by omega)) (b_Kinds_parts F1) .nil pass0 (pa_cons (pv 1) pa_nil))) (blkOk_by (N := ["kinds", "maker", "part"]) (sc := defScope s_tree_parts) (by decide +kernel)) (fun _ _ _ _ _ => (pg_name (i := 2) nd rfl (Or.inl rfl))) (fun _ _ _ _ _ => pts_one (pt_cmpR op_ne (pe_meth (sp := (spInnerF K)) (E := E0) (pv 0) T.cl_Kinds T.m_Kinds_inner (okf_inner T F2) (hr.mono (by omega)) (b_Kinds_inner F2) .nil pass0 (pa_cons (pv 1) (pa_cons (pv 2) pa_nil))) (pe_glob (v := .str "byte") (by rfl) m_BYTE ⟨_, rfl⟩) (nomark _))) (fun _ _ _ _ _ => (pv 2))))), ?_⟩
  refine ⟨_, rfl, xk, dx, _, rfl, h0, kF_none (by decide +kernel), _, rfl, xk, rs, r, rfl, hK, val, hr', fun v H1 s1 hv => ?_⟩
  obtain ⟨t, o, rfl, ho, ht⟩ := hv
  have l4 := val.four r hr'
  refine ⟨t, rfl, ⟨_, sqT_frz ht⟩, fun D hD => lc_it (walk_tup (K := K) (a := t) (xs := (r.2.2.map (·.1)).map V.str)) (fun i H2 => Same H1 H2 ∧ H2 D = some (.lst ((((r.2.2.take i).filter treeP).map (·.1)).map V.str))) ⟨same_new hD, upd_same⟩ (fun i H2 _ z => sqT_frz (z.1 _ _ ht)) ?_ ?_⟩
  · rintro i y H3 H2 hi ⟨s2, hacc⟩ ⟨rfl, hy⟩
    rw [List.getElem?_map, Option.map_eq_some_iff] at hy
    obtain ⟨z, hz, rfl⟩ := hy
    rw [List.getElem?_map, Option.map_eq_some_iff] at hz
    obtain ⟨p, hp, rfl⟩ := hz
    have hpm := List.mem_of_getElem? hp
    have hK2 := hK.same (s1.trans s2)
    obtain ⟨dx2, dm2, dk2, dp2, dl2, tn2, to2, h02, _⟩ := id hK2
    have li := (List.getElem?_eq_some_iff.mp hp).1
    have ls := Nat.le_trans (List.length_filter_le treeP (r.2.2.take i)) (by rw [List.length_take]; exact Nat.min_le_left _ _)
    refine ⟨rfl, _, rfl, xk, dx2, _, rfl, h02, kF_none (by decide +kernel), _, rfl, _, rfl, xk, rs, r, p, rfl, hK2, val, hr', hpm, rfl, _, rfl, ?_⟩
    rw [hold_kind (val.each.good r hr').2.2 hpm, show (!decide (V.str p.2.1 = V.str ("byte" : Str))) = treeP p by unfold treeP; by_cases e : p.2.1 = ("byte" : Str) <;> simp [e]]
    cases hd : treeP p with
    | false =>
      refine iteF ⟨s2, ?_⟩
      rw [take_filt hp, hd, hacc]; simp
    | true =>
      refine iteT ⟨_, rfl, _, hacc, small1000 (by rw [List.length_map, List.length_map]; omega), same_mut s2 hD, ?_⟩
      rw [upd_same, take_filt hp, hd, if_pos rfl, List.map_append, List.map_append] <;> rfl
  rintro H2 ⟨s2, hacc⟩
  rw [List.length_map, List.length_map, List.take_length] at hacc
  exact q D H2 (s1.trans s2) (none_same s1 hD) hacc
def spMeasSpec (K : PySem.W.Frag) : Sp := fun vs H Q _ => ∃ (xk : Addr) (rs : List Row) (r : Row), vs = [.ref xk, .str r.2.1] ∧ KindsF K H xk rs ∧ ValidT rs ∧ r ∈ rs ∧ ∀ c H', Same H H' → PlT H' c ((r.2.2.map fun p => sText (fullSlot p)).map V.str) → Q (.ref c) H'
theorem ok_measured_spec (T : Tx K mg) (F : FnP K ("measured_spec", none) "measured_spec" "measured_spec" s_measured_spec fd) : FnOk P w K mg base CX0 4 (He.fAd K ("measured_spec", none)) fd p_measured_spec (spMeasSpec K) := by
  refine F.ok (k := 3) sc_measured_spec (fun vs H Q E h => ?_) (fun cdv A outer s H vs Q E hr h => ?_)
  · obtain ⟨_, _, _, rfl, _⟩ := h; rfl
  obtain ⟨xk, rs, r, rfl, hK, val, hr', q⟩ := h
  have l4 := val.four r hr'
  obtain ⟨f1, F1⟩ := T.F_tree_parts
  obtain ⟨f2, F2⟩ := T.F_Kinds_parts
  obtain ⟨t_PLUS, m_PLUS⟩ := T.c_PLUS
  have nd := sc_measured_spec.nd
  refine ⟨_, PSs.nox (pss_cons (ps_set (i := 2) nd rfl (.inr rfl) (pe_call (ok_tree_parts T F1) (hr.mono (by omega)) (by rfl) T.g_tree_parts T.k_tree_parts (b_tree_parts F1) .nil pass0 (pa_cons (pv 0) (pa_cons (pv 1) pa_nil))))
    (pss_one (ps_ret (pe_callTy call_tupleP (by rfl) T.n_tuple (by decide +kernel) (pa_cons (pe_lc (own := [("part", 3)]) (g := gName 3) rfl nd (pi_tup (pe_meth (pv 0) T.cl_Kinds T.m_Kinds_parts (okf_parts T F2) (hr.mono (by omega)) (b_Kinds_parts F2) .nil pass0 (pa_cons (pv 1) pa_nil))) (blkOk_by (N := ["kinds", "maker", "inside", "part"]) (sc := defScope s_measured_spec) (by decide +kernel)) (fun _ _ _ _ _ => (pg_name (i := 3) nd rfl (Or.inl rfl))) (fun _ _ _ _ _ => pts_nil) (fun _ _ _ _ _ => (pe_ifExp (pt_cmpR (r := rIn K false) op_in_seq (pv 3) (pv 2) (by rfl)) (pe_op op_add_str (pe_glob (v := .str "+") (by rfl) m_PLUS ⟨_, rfl⟩) (pv 3)) (pv 3)))) pa_nil))))), ?_⟩
  refine ⟨_, rfl, _, rfl, xk, rs, r, rfl, hK, val, hr', fun l H1 s1 hl0 hl => ?_⟩
  have hK1 := hK.same s1
  obtain ⟨dx, dm, dk, dp, dl, tn, to, h0, hin⟩ := id hK1
  refine ⟨_, rfl, xk, dx, _, rfl, h0, kF_none (by decide +kernel), _, rfl, xk, rs, r, rfl, hK1, val, hr', fun v H2 s2 hv => ?_⟩
  obtain ⟨t, o, rfl, ho, ht⟩ := hv
  refine ⟨t, rfl, ⟨_, sqT_frz ht⟩, fun D hD => lc_it (walk_tup (K := K) (a := t) (xs := (r.2.2.map (·.1)).map V.str)) (fun i H3 => Same H2 H3 ∧ H3 D = some (.lst (((r.2.2.take i).map fun p => sText (fullSlot p)).map V.str))) ⟨same_new hD, upd_same⟩ (fun i H3 _ z => sqT_frz (z.1 _ _ ht)) ?_ ?_⟩
  · rintro i y H4 H3 hi ⟨s3, hacc⟩ ⟨rfl, hy⟩
    rw [List.getElem?_map, Option.map_eq_some_iff] at hy
    obtain ⟨z, hz, rfl⟩ := hy
    rw [List.getElem?_map, Option.map_eq_some_iff] at hz
    obtain ⟨p, hp, rfl⟩ := hz
    have hpm := List.mem_of_getElem? hp
    have li := (List.getElem?_eq_some_iff.mp hp).1
    have nlen : p.1.length ≤ 24 := by
      have g := pt_name (val.each.good r hr').2.2 hpm
      unfold nameB at g
      simp only [Bool.and_eq_true] at g
      exact of_decide_eq_true g.2.1
    refine ⟨rfl, _, rfl, _, rfl, l, _, rfl, .inl (SqL.of (s3 _ _ (s2 _ _ hl))), rfl, flat_str _, _, rfl, ?_⟩
    rw [if_neg (by decide), inV_strs]
    have hin : decide (p.1 ∈ treeNames r) = treeP p := by
      cases hd : treeP p with
      | true => exact decide_eq_true (List.mem_map.mpr ⟨p, List.mem_filter.mpr ⟨hpm, hd⟩, rfl⟩)
      | false =>
        refine decide_eq_false fun hm => ?_
        obtain ⟨p2, h2, e2⟩ := List.mem_map.mp hm
        obtain ⟨h3, h4⟩ := List.mem_filter.mp h2
        cases part_unique (val.ndp hr') h3 hpm e2
        rw [hd] at h4; cases h4
    rw [hin]
    cases hd : treeP p with
    | false =>
      refine iteF ⟨_, rfl, _, hacc, small1000 (by rw [List.length_map, List.length_map, List.length_take]; omega), same_mut s3 hD, ?_⟩
      rw [upd_same, take_succ_of hp, List.map_append, List.map_append]
      show some (HO.lst (_ ++ [V.str p.1])) = some (.lst (_ ++ [V.str (sText (fullSlot p))]))
      unfold fullSlot sText; rw [hd]; rfl
    | true =>
      refine iteT ⟨_, rfl, _, _, rfl, rfl, ?_, _, hacc, small1000 (by rw [List.length_map, List.length_map, List.length_take]; omega), same_mut s3 hD, ?_⟩
      · exact Nat.le_trans (show ("+" : Str).length + p.1.length ≤ 100 by have : ("+" : Str).length = 1 := rfl; omega) (by decide)
      rw [upd_same, take_succ_of hp, List.map_append, List.map_append]
      show some (HO.lst (_ ++ [V.str (("+" : Str) ++ p.1)])) = some (.lst (_ ++ [V.str (sText (fullSlot p))]))
      unfold fullSlot sText; rw [hd]; rfl
  rintro H3 ⟨s3, hacc⟩
  rw [List.length_map, List.length_map, List.take_length] at hacc
  exact ⟨D, _, rfl, SqL.of hacc, fun c H5 nc s5 hpl _ => q c H5 (s1.trans (s2.trans (s3.trans s5))) hpl⟩
/-- a layout just made of a table -/
def spMadeL (K : PySem.W.Frag) (lay : List Row → LayM) : Sp := fun vs H Q _ => ∃ (xk : Addr) (rs : List Row), vs = [.ref (CL K), .ref xk] ∧ KindsF K H xk rs ∧ ValidT rs ∧ ∀ x H', Same H H' → H x = none → LayAt K H' x xk rs (specOf (lay rs)) → Q (.ref x) H'
theorem ok_plainL (T : Tx K mg) {f : Addr} (F : FunD K "plain" "Layout.plain" (defArgs s_Layout_plain) (defBody s_Layout_plain) (defScope s_Layout_plain) [] [] f fd) : FnOk P w K mg base CX0 7 f fd p_Layout_plain (spMadeL K layPl) := by
  refine F.ok (k := 6) sc_Layout_plain (fun vs H Q E h => ?_) (fun cdv A outer s H vs Q E hr h => ?_)
  · obtain ⟨_, _, rfl, _⟩ := h; rfl
  obtain ⟨xk, rs, rfl, hK, val, q⟩ := h
  obtain ⟨dk0, dm, dk, dp, dl, tn, to, h0, hin⟩ := id hK
  obtain ⟨mvs, kvs2, pvs, lvs, _, _, _, _, _, hto⟩ := id hin
  obtain ⟨t, o, et, ho, ht⟩ := hto
  cases et
  rw [distinct_of_nodup val.nd] at ht
  have l1 : (rmakers rs).length = rs.length := by unfold rmakers; rw [List.length_map]
  have sh := val.short.1
  obtain ⟨f1, F1⟩ := T.F_Layout_init
  obtain ⟨f2, F2⟩ := T.F_Kinds_parts
  have nd := sc_Layout_plain.nd
  refine ⟨_, PSs.nox (pss_one (ps_ret (pe_makeV T.mk_Layout (ok_layi T F1) (hr.mono (by omega)) (b_Layout_init F1) pass0 (i := 0) rfl (.inl rfl) (pa_cons (pv 1) (pa_cons (pe_dc (own := [("maker", 2)]) (g := gName 2) rfl nd (pi_tup (pe_fld (pv 1) rfl)) (blkOk_by (N := ["cls", "kinds", "maker"]) (sc := defScope s_Layout_plain) (by decide +kernel)) (fun _ _ _ _ _ => (pg_name (i := 2) nd rfl (Or.inl rfl))) (fun _ _ _ _ _ => pts_nil) (fun _ _ _ _ _ => (pv 2)) (fun _ _ _ _ _ => (pe_meth (sp := (spPartsF K)) (E := E0) (pv 1) T.cl_Kinds T.m_Kinds_parts (okf_parts T F2) (hr.mono (by omega)) (b_Kinds_parts F2) .nil pass0 (pa_cons (pv 2) pa_nil)))) pa_nil))))), ?_⟩
  refine ⟨rfl, _, rfl, _, rfl, xk, CK K, dk0, _, _, rfl, h0, T.cl_Kinds, T.na_Kinds_order, kF_order, to, rfl, ⟨_, sqT_frz ht⟩, fun D hD => dc_it (walk_tup (K := K) (a := to) (xs := (rmakers rs).map V.str)) (fun i H2 => Same H H2 ∧ ∃ kvs, H2 D = some (.dK kvs) ∧ KD kvs (rmakers (rs.take i)) (SpR H2 (specOf (layPl rs)))) ⟨same_new hD, [], upd_same, KD.nil⟩ (fun i H2 _ z => sqT_frz (z.1 _ _ ht)) ?_ ?_⟩
  · rintro i y H3 H2 hi ⟨s2, kvs, hk, kd⟩ ⟨rfl, hy⟩
    rw [List.getElem?_map, Option.map_eq_some_iff] at hy
    obtain ⟨m, hm, rfl⟩ := hy
    unfold rmakers at hm
    rw [List.getElem?_map, Option.map_eq_some_iff] at hm
    obtain ⟨r, hrr, rfl⟩ := hm
    have hr' := List.mem_of_getElem? hrr
    have hK2 := hK.same s2
    obtain ⟨dx2, dm2, dk2, dp2, dl2, tn2, to2, h02, _⟩ := id hK2
    have lk : kvs.length ≤ 1000 := by
      have := KD.length kd
      have h3 : (rmakers (rs.take i)).length ≤ rs.length := by unfold rmakers; rw [List.length_map, List.length_take]; omega
      omega
    refine ⟨rfl, _, rfl, _, rfl, xk, dx2, _, rfl, h02, kF_none (by decide +kernel), _, rfl, xk, rs, r, rfl, hK2, val, hr', fun v H5 s5 hv => ?_⟩
    obtain ⟨c, oc, rfl, hoc, htc⟩ := hv
    have hc : Rd H5 c (.tup ((r.2.2.map (·.1)).map V.str)) := .inr ⟨oc, htc⟩
    have hk5 := s5 _ _ hk
    have tp : Tups H5 (upd H5 D (.dK (putK kvs (Sum.inr r.2.1) (.ref c)))) := tups_upd fun u f z => by rw [hk5] at z; cases z; exact f
    refine ⟨kvs, Sum.inr r.2.1, rfl, hk5, small1000 lk, same_mut (s2.trans s5) hD, _, upd_same, ?_⟩
    rw [mk_take val.nd hrr]
    refine KD.put kd (fun m u _ ⟨c', e1, e2⟩ => ⟨c', e1, rd_tups tp (rd_same s5 e2)⟩) ⟨c, rfl, rd_tups tp ?_⟩
    rw [specPl val.nd hr']; exact hc
  rintro H2 ⟨s2, kvs, hk, kd⟩
  rw [List.length_map, l1, List.take_length] at kd
  refine fun x dx hx hdx nex => ?_
  have s3 := made_x (C := CL K) hx hdx
  exact ⟨x, dx, xk, D, rs, rmakers rs, _, rfl, upd_same, (hK.same s2).same s3, val, SpecD.same s3 ⟨kvs, hk, kd⟩, fun m => Iff.rfl, specs_ok val (layPl_ok val.nd) (layPl_meas val.nd), fun H5 b5 hL => ⟨rfl, q x H5 (fun b o e => b5 _ _ (ne_of_none (s2 _ _ e) hx) (s3 _ _ (s2 _ _ e))) (none_same s2 hx) hL⟩⟩
theorem ok_fullL (T : Tx K mg) {f : Addr} (F : FunD K "measured" "Layout.measured" (defArgs s_Layout_measured) (defBody s_Layout_measured) (defScope s_Layout_measured) [] [] f fd) : FnOk P w K mg base CX0 7 f fd p_Layout_measured (spMadeL K layFu) := by
  refine F.ok (k := 6) sc_Layout_measured (fun vs H Q E h => ?_) (fun cdv A outer s H vs Q E hr h => ?_)
  · obtain ⟨_, _, rfl, _⟩ := h; rfl
  obtain ⟨xk, rs, rfl, hK, val, q⟩ := h
  obtain ⟨dk0, dm, dk, dp, dl, tn, to, h0, hin⟩ := id hK
  obtain ⟨mvs, kvs2, pvs, lvs, _, _, _, _, _, hto⟩ := id hin
  obtain ⟨t, o, et, ho, ht⟩ := hto
  cases et
  rw [distinct_of_nodup val.nd] at ht
  have l1 : (rmakers rs).length = rs.length := by unfold rmakers; rw [List.length_map]
  have sh := val.short.1
  obtain ⟨f1, F1⟩ := T.F_Layout_init
  obtain ⟨f2, F2⟩ := T.F_measured_spec
  have nd := sc_Layout_measured.nd
  refine ⟨_, PSs.nox (pss_one (ps_ret (pe_makeV T.mk_Layout (ok_layi T F1) (hr.mono (by omega)) (b_Layout_init F1) pass0 (i := 0) rfl (.inl rfl) (pa_cons (pv 1) (pa_cons (pe_dc (own := [("maker", 2)]) (g := gName 2) rfl nd (pi_tup (pe_fld (pv 1) rfl)) (blkOk_by (N := ["cls", "kinds", "maker"]) (sc := defScope s_Layout_measured) (by decide +kernel)) (fun _ _ _ _ _ => (pg_name (i := 2) nd rfl (Or.inl rfl))) (fun _ _ _ _ _ => pts_nil) (fun _ _ _ _ _ => (pv 2)) (fun _ _ _ _ _ => (pe_call (sp := (spMeasSpec K)) (E := E0) (ok_measured_spec T F2) (hr.mono (by omega)) (by rfl) T.g_measured_spec T.k_measured_spec (b_measured_spec F2) .nil pass0 (pa_cons (pv 1) (pa_cons (pv 2) pa_nil))))) pa_nil))))), ?_⟩
  refine ⟨rfl, _, rfl, _, rfl, xk, CK K, dk0, _, _, rfl, h0, T.cl_Kinds, T.na_Kinds_order, kF_order, to, rfl, ⟨_, sqT_frz ht⟩, fun D hD => dc_it (walk_tup (K := K) (a := to) (xs := (rmakers rs).map V.str)) (fun i H2 => Same H H2 ∧ ∃ kvs, H2 D = some (.dK kvs) ∧ KD kvs (rmakers (rs.take i)) (SpR H2 (specOf (layFu rs)))) ⟨same_new hD, [], upd_same, KD.nil⟩ (fun i H2 _ z => sqT_frz (z.1 _ _ ht)) ?_ ?_⟩
  · rintro i y H3 H2 hi ⟨s2, kvs, hk, kd⟩ ⟨rfl, hy⟩
    rw [List.getElem?_map, Option.map_eq_some_iff] at hy
    obtain ⟨m, hm, rfl⟩ := hy
    unfold rmakers at hm
    rw [List.getElem?_map, Option.map_eq_some_iff] at hm
    obtain ⟨r, hrr, rfl⟩ := hm
    have hr' := List.mem_of_getElem? hrr
    have hK2 := hK.same s2
    obtain ⟨dx2, dm2, dk2, dp2, dl2, tn2, to2, h02, _⟩ := id hK2
    have lk : kvs.length ≤ 1000 := by
      have := KD.length kd
      have h3 : (rmakers (rs.take i)).length ≤ rs.length := by unfold rmakers; rw [List.length_map, List.length_take]; omega
      omega
    refine ⟨rfl, _, rfl, _, rfl, _, rfl, xk, rs, r, rfl, hK2, val, hr', fun c H5 s5 hpl => ?_⟩
    have hc := hpl.rd
    have hk5 := s5 _ _ hk
    have tp : Tups H5 (upd H5 D (.dK (putK kvs (Sum.inr r.2.1) (.ref c)))) := tups_upd fun u f z => by rw [hk5] at z; cases z; exact f
    refine ⟨kvs, Sum.inr r.2.1, rfl, hk5, small1000 lk, same_mut (s2.trans s5) hD, _, upd_same, ?_⟩
    rw [mk_take val.nd hrr]
    refine KD.put kd (fun m u _ ⟨c', e1, e2⟩ => ⟨c', e1, rd_tups tp (rd_same s5 e2)⟩) ⟨c, rfl, rd_tups tp ?_⟩
    rw [specFu val.nd hr']; exact hc
  rintro H2 ⟨s2, kvs, hk, kd⟩
  rw [List.length_map, l1, List.take_length] at kd
  refine fun x dx hx hdx nex => ?_
  have s3 := made_x (C := CL K) hx hdx
  exact ⟨x, dx, xk, D, rs, rmakers rs, _, rfl, upd_same, (hK.same s2).same s3, val, SpecD.same s3 ⟨kvs, hk, kd⟩, fun m => Iff.rfl, specs_ok val (layFu_ok val.nd) (layFu_meas val.nd), fun H5 b5 hL => ⟨rfl, q x H5 (fun b o e => b5 _ _ (ne_of_none (s2 _ _ e) hx) (s3 _ _ (s2 _ _ e))) (none_same s2 hx) hL⟩⟩
def spMark : Sp := fun vs H Q _ => ∃ x y : Str, vs = [.str x, .str y] ∧ x.length ≤ 100000 ∧ y.length ≤ 100000 ∧ Q (.str (x ++ "." ++ y)) H
theorem str_nil (x : Str) : Str.empty ++ x = x := by
  have : (Str.empty ++ x).cps = x.cps := by rw [Str.cps_append]; exact Array.empty_append
  cases x; cases h : Str.empty ++ (_ : Str); rw [h] at this; exact congrArg Str.mk this
theorem ok_mark (T : Tx K mg) {f : Addr} (F : FunD K "mark" "Layout.mark" (defArgs s_Layout_mark) (defBody s_Layout_mark) (defScope s_Layout_mark) [] [] f fd) : FnOk P w K mg base CX0 1 f fd p_Layout_mark spMark := by
  refine F.ok (k := 0) sc_Layout_mark (fun vs H Q E h => ?_) (fun cdv A outer s H vs Q E hr h => ?_)
  · obtain ⟨_, _, rfl, _⟩ := h; rfl
  obtain ⟨x, y, rfl, lx, ly, q⟩ := h
  have nd := sc_Layout_mark.nd
  refine ⟨_, PSs.nox (pss_one (ps_ret (pe_joined (.cons (pe_fmt (pv 0)) (.cons pe_str (.cons (pe_fmt (pv 1)) .nil)))))), ?_⟩
  have b : 300000 ≤ sizeLine := by rw [sizeLine_eq]; decide
  have l1 : ("." : Str).length = 1 := by decide +kernel
  refine ⟨_, rfl, .inl ⟨x, rfl, by omega, _, rfl, ?_, _, rfl, ?_, _, rfl, .inl ⟨y, rfl, by omega, _, rfl, ?_, ?_⟩⟩⟩
  all_goals rw [str_nil]
  · omega
  · rw [Str.length_append]; omega
  · rw [Str.length_append, Str.length_append]; omega
  · exact q
end
end Bg
set_option Elab.async false
set_option linter.all false
set_option maxRecDepth 100000
set_option maxHeartbeats 4000000
/-! layout[maker] = spec -/
namespace Bg
open PySem PySem.Spec PyProof.Rows L2
theorem nk1 : ¬ ("kinds" : Str) = "_pairs" := by decide +kernel
theorem nk2 : ¬ ("kinds" : Str) = "_price" := by decide +kernel
theorem nk3 : ¬ ("_pairs" : Str) = "_price" := by decide +kernel
theorem lF3_flat {xk tp : Addr} {pr : Int} : lF3 xk tp pr = [(("kinds" : Str), V.ref xk), (("_pairs" : Str), V.ref tp), (("_price" : Str), V.int pr)] := by
  unfold lF3 lF2 lF1
  simp only [putF, nk1, nk2, nk3, if_false]
theorem lF3_pairs_put {xk tp tp2 : Addr} {pr : Int} : putF "_pairs" (.ref tp2) (lF3 xk tp pr) = lF3 xk tp2 pr := by
  rw [lF3_flat, lF3_flat]; simp only [putF, nk1, if_false, if_true]
theorem lF3_price_put {xk tp : Addr} {pr pr2 : Int} : putF "_price" (.int pr2) (lF3 xk tp pr) = lF3 xk tp pr2 := by
  rw [lF3_flat, lF3_flat]; simp only [putF, nk2, nk3, if_false, if_true]
theorem SpecsOk.put {rs : List Row} {S : Str → List Str} (val : ValidT rs) (h : SpecsOk rs S) {r : Row} (hr : r ∈ rs) {sl : List Str} (ok : isSpecB r sl = true) (l : ∀ s ∈ sl, s.length ≤ 100000) : SpecsOk rs (putS S r.2.1 (some sl)) where
  ok := fun r' hr' => by
    unfold putS
    split
    · rename_i e
      cases row_unique val.nd hr' hr e; exact ok
    · exact h.ok r' hr'
  short := fun r' hr' => by
    unfold putS
    split
    · exact l
    · exact h.short r' hr'
section
variable {P : Program} {w : World} {K : PySem.W.Frag} {mg : Str → Option Value} {base : Heap} {fd : FuncData}
def spSetI (K : PySem.W.Frag) : Sp := fun vs H Q _ => ∃ (x c xk : Addr) (rs : List Row) (S : Str → List Str) (r : Row) (sl : List Str), vs = [.ref x, .str r.2.1, .ref c] ∧ LayAt K H x xk rs S ∧ KindsF K H xk rs ∧ ValidT rs ∧ r ∈ rs ∧ SpecsOk rs S ∧ Rd H c (.tup (sl.map V.str)) ∧ (∀ s ∈ sl, s.length ≤ 100000) ∧ isSpecB r sl = true ∧
  ∀ H', But x H H' → LayAt K H' x xk rs (putS S r.2.1 (some sl)) → Q .non H'
theorem ok_seti {CX : CXT} (T : Tx K mg) (F : FnP K ("Layout", some "__setitem__") "__setitem__" "Layout.__setitem__" s_Layout_setitem fd) : FnOk P w K mg base CX 5 (He.fAd K ("Layout", some "__setitem__")) fd p_Layout_setitem (spSetI K) := by
  refine F.ok (k := 4) sc_Layout_setitem (fun vs H Q E h => ?_) (fun cdv A outer s H vs Q E hr h => ?_)
  · obtain ⟨_, _, _, _, _, _, _, rfl, _⟩ := h; rfl
  obtain ⟨x, c, xk, rs, S, r, sl, rfl, hL, hK, val, hr', so, hc, lsl, ok, q⟩ := h
  obtain ⟨dx, tp, ps, hx, hpl, al⟩ := id hL
  have hu := hu_of hr
  have hm : r.2.1 ∈ rmakers rs := List.mem_map_of_mem hr'
  obtain ⟨dk0, dm, dk, dp, dl, tn, to, h0, hin⟩ := id hK
  have nxk : xk ≠ x := fun e => by
    rw [e, hx] at h0
    have h1 := Option.some.inj h0
    injection h1 with _ _ c
    have z := kF_order (dm := dm) (dk := dk) (dp := dp) (dl := dl) (tn := tn) (to := to)
    rw [← c, lF3_flat] at z; cases z
  have lsp := (isSpecB_inv ok).1
  have l4 := val.four r hr'
  have l1 : (rmakers rs).length = rs.length := by unfold rmakers; rw [List.length_map]
  have sh := val.short.1
  obtain ⟨f1, F1⟩ := T.F_Kinds_contains
  obtain ⟨f2, F2⟩ := T.F_is_spec
  obtain ⟨f3, F3⟩ := T.F_specs_price
  have nd := sc_Layout_setitem.nd
  refine ⟨_, PSs.nox (pss_cons (ps_if (pt_cmpR (op_notInOwn (okf_contains T F1) (hr.mono (by omega)) T.m_Kinds_contains (b_Kinds_contains F1) pass0) (pv 1) (pe_fld (pv 0) rfl) (by rfl))
      (pss_one ps_never)
      pss_nil)
    (pss_cons (ps_if (pt_not (pt_val (pe_call (ok_is_spec T F2) (hr.mono (by omega)) (by rfl) T.g_is_spec T.k_is_spec (b_is_spec F2) .nil pass0 (pa_cons (pe_fld (pv 0) rfl) (pa_cons (pv 1) (pa_cons (pv 2) pa_nil))))))
      (pss_one ps_never)
      pss_nil)
    (pss_cons (ps_fld (pv 0) (pe_callTy call_tupleP (by rfl) T.n_tuple (by decide +kernel) (pa_cons (pe_lc (own := [("maker", 3), ("spec", 4)]) (g := (gTup K 2 (gCons (gName 3) (gCons (gName 4) gNil)))) rfl nd (pi_tup (pe_fld (pv 0) rfl)) (blkOk_by (N := ["self", "at", "worth", "maker", "spec"]) (sc := defScope s_Layout_setitem) (by decide +kernel)) (fun _ _ _ _ _ => (pg_tup rfl (pgs_cons (pg_name (i := 3) nd rfl (Or.inl rfl)) (pgs_cons (pg_name (i := 4) nd rfl (Or.inl rfl)) pgs_nil)))) (fun _ _ _ _ _ => pts_nil) (fun _ _ _ _ _ => (pe_tup (pa_cons (pv 3) (pa_cons (pe_ifExp (pt_cmpR op_eq (pv 3) (pv 1) (nomark _)) (pv 2) (pv 4)) pa_nil))))) pa_nil)) rfl)
    (pss_one (ps_fld (pv 0) (pe_call (ok_specs_price T F3) (hr.mono (by omega)) (by rfl) T.g_specs_price T.k_specs_price (b_specs_price F3) .nil pass0 (pa_cons (pe_fld (pv 0) rfl) (pa_cons (pe_fld (pv 0) rfl) pa_nil))) rfl))))), ?_⟩
  refine ⟨_, rfl, _, rfl, x, CL K, dx, _, _, rfl, hx, T.cl_Layout, T.na_Layout_kinds, lF3_kinds, xk, dk0, _, rfl, h0, xk, r.2.1, rs, rfl, hK, _, rfl, _, rfl, ?_⟩
  rw [decide_eq_true hm]
  refine iteF ⟨_, rfl, x, CL K, dx, _, _, rfl, hx, T.cl_Layout, T.na_Layout_kinds, lF3_kinds, _, rfl, _, rfl, xk, c, rs, r, sl, rfl, hK, val, hr', hc, by omega, lsl, fun H1 s1 => ⟨_, rfl, ?_⟩⟩
  rw [ok]
  refine iteF ?_
  have hx1 := s1 _ _ hx
  have hpl1 := hpl.same s1
  have al1 : All2 (PairAtM H1 S) (ps.map V.ref) (rmakers rs) := al.mono fun _ _ z => PairAtM.mono (tups_of s1) z
  have hc1 := rd_same s1 hc
  -- the pairs
  refine ⟨_, rfl, x, CL K, dx, _, _, rfl, hx1, T.cl_Layout, T.na_Layout_pairs_, lF3_pairs, tp, rfl, ⟨_, hpl1.sq⟩, fun D hD => lc_it (walk_tup (K := K) (a := tp) (xs := ps.map V.ref)) (fun i H4 => Same H1 H4 ∧ ∃ qs : List Addr, H4 D = some (.lst (qs.map V.ref)) ∧ All2 (PairAtM H4 (putS S r.2.1 (some sl))) (qs.map V.ref) ((rmakers rs).take i)) ⟨same_new hD, [], upd_same, All2.nil⟩ (fun i H4 _ z => (hpl1.same z.1).sq) ?_ ?_⟩
  · rintro j y H5 H4 hj ⟨s4, qs, hqs, alq⟩ ⟨rfl, hy⟩
    obtain ⟨m, hmm, p, c0, rfl, hp0, hc0⟩ := al1.get hy
    have lj := (List.getElem?_eq_some_iff.mp hmm).1
    have lq : qs.length ≤ j := by have := alq.1; rw [List.length_map, List.length_take] at this; omega
    have hp4 := s4 _ _ hp0
    have nd' : ∀ (v : V) (sl0 : List Str) (c1 : Addr) (H6 : Hp), v = .ref c1 → Same H4 H6 → Rd H6 c1 (.tup (sl0.map V.str)) → sl0 = putS S r.2.1 (some sl) m → H6 D = some (.lst (qs.map V.ref)) → ∀ p6, H6 p6 = none → 
        Same H1 (upd (upd H6 p6 (.tup [.str m, v])) D (.lst (qs.map V.ref ++ [.ref p6]))) ∧ ∃ qs2 : List Addr, upd (upd H6 p6 (.tup [.str m, v])) D (.lst (qs.map V.ref ++ [.ref p6])) D = some (.lst (qs2.map V.ref)) ∧ All2 (PairAtM (upd (upd H6 p6 (.tup [.str m, v])) D (.lst (qs.map V.ref ++ [.ref p6]))) (putS S r.2.1 (some sl))) (qs2.map V.ref) ((rmakers rs).take (j + 1)) := fun v sl0 c1 H6 ev s46 hc6 es hq6 p6 hp6 => by
      subst ev
      have s6 := same_new (o := .tup [V.str m, .ref c1]) hp6
      have t6 : Tups H6 (upd (upd H6 p6 (.tup [V.str m, .ref c1])) D (.lst (qs.map V.ref ++ [.ref p6]))) := (tups_of s6).trans (tups_upd fun u f z => by rw [s6 _ _ hq6] at z; cases z; exact f)
      refine ⟨same_mut (s4.trans (s46.trans s6)) hD, qs ++ [p6], by rw [upd_same, List.map_append] <;> rfl, ?_⟩
      rw [take_succ_of hmm, List.map_append]
      refine (alq.mono fun _ _ z => PairAtM.mono ((tups_of s46).trans t6) z).snoc ⟨p6, c1, rfl, ?_, ?_⟩
      · rw [upd_ne (fun z => by rw [z, hq6] at hp6; cases hp6), upd_same]
      · rw [← es]; exact rd_tups t6 hc6
    have hc4 := rd_same s4 hc0
    have hcc := rd_same s4 hc1
    refine ⟨p, _, rfl, SqT.of hp4, rfl, _, _, rfl, _, _, rfl, rfl, ?_⟩
    refine ⟨rfl, _, rfl, _, rfl, _, rfl, rfl, _, rfl, ite2 (fun h => ?_) (fun h => ?_)⟩
    · have em : m = r.2.1 := by simpa using h
      refine ⟨_, rfl, by show 2 ≤ sizeLine; decide, fun p6 hp6 => ?_⟩
      exact ⟨_, (same_new (o := .tup [V.str m, .ref c]) hp6) _ _ hqs, small1000 (by rw [List.length_map]; omega), nd' (.ref c) sl c _ rfl (Same.refl _) hcc (by rw [em]; unfold putS; rw [if_pos rfl]; rfl) hqs p6 hp6⟩
    · have em : m ≠ r.2.1 := by simpa using h
      refine ⟨_, rfl, by show 2 ≤ sizeLine; decide, fun p6 hp6 => ?_⟩
      exact ⟨_, (same_new (o := .tup [V.str m, .ref c0]) hp6) _ _ hqs, small1000 (by rw [List.length_map]; omega), nd' (.ref c0) (S m) c0 _ rfl (Same.refl _) hc4 (by unfold putS; rw [if_neg em]) hqs p6 hp6⟩
  rintro H4 ⟨s4, qs, hqs, alq⟩
  rw [al1.1, List.take_length] at alq
  refine ⟨D, _, rfl, SqL.of hqs, fun tp2 H5 ntp s5 hpl2 only => ?_⟩
  have s15 := s4.trans s5
  have hx5 := s15 _ _ hx1
  refine ⟨_, rfl, x, CL K, dx, _, rfl, hx5, T.cl_Layout, T.na_Layout_pairs_, (by rw [lF3_flat]; show 3 < 1000; decide), ?_⟩
  rw [lF3_pairs_put]
  generalize hH6 : upd H5 x (.ins (CL K) dx (lF3 xk tp2 (layP rs S))) = H6
  have hx6 : H6 x = some (.ins (CL K) dx (lF3 xk tp2 (layP rs S))) := by rw [← hH6]; exact upd_same
  have b56 : But x H5 H6 := fun b o n e => by rw [← hH6, upd_ne n]; exact e
  clear hH6
  have i56 : Imms H5 H6 := imms_but b56 (notImm_ins hx5)
  have hK6 : KindsF K H6 xk rs := (hK.same (s1.trans s15)).mono i56 fun o e => b56 _ _ nxk e
  have ntx : tp2 ≠ x := fun e => by
    obtain ⟨its, n, e2⟩ := hpl2
    rw [e, hx5] at e2; cases e2
  have hpl6 : PlT H6 tp2 (qs.map V.ref) := by
    obtain ⟨its, n, e2⟩ := hpl2
    exact ⟨its, n, b56 _ _ ntx e2⟩
  have al6 : All2 (PairAtM H6 (putS S r.2.1 (some sl))) (qs.map V.ref) (rmakers rs) := alq.mono fun _ _ z => PairAtM.mono ((tups_of s5).trans i56.tups) z
  -- the price
  refine ⟨_, rfl, x, CL K, dx, _, _, rfl, hx6, T.cl_Layout, T.na_Layout_kinds, lF3_kinds, _, rfl, x, CL K, dx, _, _, rfl, hx6, T.cl_Layout, T.na_Layout_pairs_, lF3_pairs, xk, tp2, rs, putS S r.2.1 (some sl), _, rfl, hK6, val, hpl6.sq, al6, so.put val hr' ok lsl, fun H' s' => (hpl6.same s').sq, fun H7 s7 => ?_⟩
  have hx7 := s7 _ _ hx6
  refine ⟨_, rfl, x, CL K, dx, _, rfl, hx7, T.cl_Layout, T.na_Layout_price_, (by rw [lF3_flat]; show 3 < 1000; decide), ?_⟩
  rw [lF3_price_put]
  have i78 : Imms H7 (upd H7 x (.ins (CL K) dx (lF3 xk tp2 (layP rs (putS S r.2.1 (some sl)))))) := imms_upd (notImm_ins hx7)
  refine q _ (fun b o n e => ?_) ⟨dx, tp2, qs, upd_same, ?_, ?_⟩
  · rw [upd_ne n]; exact s7 _ _ (b56 _ _ n (s15 _ _ (s1 _ _ e)))
  · obtain ⟨its, n, e2⟩ := hpl6.same s7
    exact ⟨its, n, by rw [upd_ne ntx]; exact e2⟩
  · exact al6.mono fun _ _ z => PairAtM.mono ((tups_of s7).trans i78.tups) z
end
end Bg
set_option Elab.async false
set_option linter.all false
set_option maxRecDepth 100000
set_option maxHeartbeats 2000000
/-! marks -/
namespace Bg
open PySem PySem.Spec PyProof.Rows L2
def markT (m p : Str) : Str := m ++ "." ++ p
theorem tl_dot : TL.tl (("." : Str)) = [46] := by decide +kernel
theorem part_mark {m b : Str} (h : 46 ∉ m.cps.toList) : Txt.partition (markT m b) "." = (m, ("." : Str), b) := by
  have e : TL.tl (markT m b) = TL.tl m ++ ([46] ++ TL.tl b) := by unfold markT; rw [TL.tl_append, TL.tl_append, tl_dot, List.append_assoc]
  rw [TL.partition_par _ _ (by rw [tl_dot]; simp), tl_dot, e, TL.par_part1 h]
  exact Prod.ext (TL.ext_tl rfl) (Prod.ext rfl (TL.ext_tl rfl))
theorem part_none {m : Str} (h : 46 ∉ m.cps.toList) : Txt.partition m "." = (m, Str.empty, Str.empty) := by
  rw [TL.partition_par _ _ (by rw [tl_dot]; simp), tl_dot]
  have := TL.par_none1 (s := 46) (S := []) (p := TL.tl m) (acc := []) h
  rw [this]
theorem nm_nodot {x : Str} (h : nameB x = true) : 46 ∉ x.cps.toList := fun hm => by
  unfold nameB at h
  simp only [Bool.and_eq_true] at h
  have h2 := h.2.2.2.1
  unfold Txt.isalnum at h2
  rw [Bool.and_eq_true, ← Array.all_toList, List.all_eq_true] at h2
  exact absurd (h2.2 46 hm) (by decide +kernel)
theorem nm_len {x : Str} (h : nameB x = true) : x.length ≤ 24 := by
  unfold nameB at h
  simp only [Bool.and_eq_true] at h
  exact of_decide_eq_true h.2.1
theorem mark_inj {m m' b b' : Str} (h : 46 ∉ m.cps.toList) (h' : 46 ∉ m'.cps.toList) (e : markT m b = markT m' b') : m = m' ∧ b = b' := by
  have := part_mark (b := b) h
  rw [e, part_mark h'] at this
  exact ⟨(Prod.mk.inj this).1.symm, (Prod.mk.inj (Prod.mk.inj this).2).2.symm⟩
/-- the text is no mark: what stands ahead of its first point is no maker, or what stands behind it is no tree part of that maker -/
def NoMark (rs : List Row) (x : Str) : Prop := ∀ r ∈ rs, (Txt.partition x ".").1 = r.2.1 → (Txt.partition x ".").2.2 ∉ treeNames r
def marksIn (rs : List Row) (S : Str → List Str) : List Str := rs.flatMap fun r => ((S r.2.1).filter hasLen).map fun s => markT r.2.1 (partOf s)
def allMarks (rs : List Row) : List Str := rs.flatMap fun r => (treeNames r).map fun n => markT r.2.1 n
section
variable {rs : List Row} {S : Str → List Str}
theorem mk_nodot (val : ValidT rs) {r : Row} (hr : r ∈ rs) : 46 ∉ r.2.1.cps.toList := nm_nodot (val.each.good r hr).2.1
theorem meas_tree (val : ValidT rs) (so : SpecsOk rs S) {r : Row} (hr : r ∈ rs) {s : Str} (hs : s ∈ S r.2.1) (hl : hasLen s = true) : partOf s ∈ treeNames r := by
  obtain ⟨i1, i2, i3⟩ := isSpecB_inv (so.ok r hr)
  obtain ⟨p, hp, e, ep⟩ := stored_part (val.ndp hr) i1 i2 hs
  have := i3 s hs hl
  rw [ep, hold_kind (val.each.good r hr).2.2 hp] at this
  exact List.mem_map.mpr ⟨p, List.mem_filter.mpr ⟨hp, decide_eq_true this⟩, e⟩
/-- a slot of a valid spec with its length is the plus sign and the part -/
theorem slot_plus {s : Str} (h : hasLen s = true) : s = plus ++ partOf s := by
  rcases slot_cases s with ⟨y, e, _, e2⟩ | ⟨e, _⟩
  · rw [e2]; exact e
  · rw [e] at h; cases h
theorem mem_marks (val : ValidT rs) (so : SpecsOk rs S) {r : Row} (hr : r ∈ rs) {n : Str} : markT r.2.1 n ∈ marksIn rs S ↔ plus ++ n ∈ S r.2.1 := by
  unfold marksIn
  rw [List.mem_flatMap]
  refine ⟨fun ⟨r2, h2, h⟩ => ?_, fun h => ⟨r, hr, List.mem_map.mpr ⟨plus ++ n, List.mem_filter.mpr ⟨h, (partOf_plus n).2⟩, by rw [(show partOf (plus ++ n) = n from (partOf_plus n).1)]⟩⟩⟩
  obtain ⟨s, hs, e⟩ := List.mem_map.mp h
  obtain ⟨h3, h4⟩ := List.mem_filter.mp hs
  obtain ⟨e1, e2⟩ := mark_inj (mk_nodot val h2) (mk_nodot val hr) e
  cases row_unique val.nd h2 hr e1
  rw [← e2, ← slot_plus h4]; exact h3
theorem noMark_in (val : ValidT rs) (so : SpecsOk rs S) {x : Str} (h : NoMark rs x) : x ∉ marksIn rs S := fun hm => by
  unfold marksIn at hm
  obtain ⟨r, hr, h2⟩ := List.mem_flatMap.mp hm
  obtain ⟨s, hs, rfl⟩ := List.mem_map.mp h2
  obtain ⟨h3, h4⟩ := List.mem_filter.mp hs
  have e := part_mark (b := partOf s) (mk_nodot val hr)
  have := h r hr (by rw [e])
  rw [e] at this
  exact this (meas_tree val so hr h3 h4)
/-- a spec with another slot for a part -/
def putSlot (sl : List Str) (n x : Str) : List Str := sl.map fun o => if partOf o = n then x else o
def chgS (S : Str → List Str) (m n x : Str) : Str → List Str := putS S m (some (putSlot (S m) n x))
theorem putSlot_ok (val : ValidT rs) {r : Row} (hr : r ∈ rs) {sl : List Str} (h : isSpecB r sl = true) {n x : Str} (hn : n ∈ treeNames r) (hx : partOf x = n) : isSpecB r (putSlot sl n x) = true := by
  obtain ⟨i1, i2, i3⟩ := isSpecB_inv h
  have est : (putSlot sl n x).map partOf = sl.map partOf := by
    unfold putSlot
    rw [List.map_map]
    refine List.map_congr_left fun o _ => ?_
    show partOf (if partOf o = n then x else o) = partOf o
    split
    · rename_i e; rw [hx, e]
    · rfl
  unfold isSpecB
  rw [Bool.and_eq_true, Bool.and_eq_true]
  refine ⟨decide_eq_true (by unfold putSlot; rw [List.length_map]; exact i1), List.all_eq_true.mpr fun p hp => decide_eq_true (by rw [est]; exact i2 p hp), ?_⟩
  rw [Bool.not_eq_true']
  refine List.any_eq_false.mpr fun o ho => ?_
  obtain ⟨h1, h2⟩ := List.mem_filter.mp ho
  unfold putSlot at h1
  obtain ⟨o0, h0, rfl⟩ := List.mem_map.mp h1
  by_cases e : partOf o0 = n
  · rw [if_pos e] at h2 ⊢
    obtain ⟨p, hp, en⟩ := List.mem_map.mp hn
    obtain ⟨hp1, hp2⟩ := List.mem_filter.mp hp
    rw [hx, ← en, partAt_of (val.ndp hr) hp1, hold_kind (val.each.good r hr).2.2 hp1, decide_eq_false (of_decide_eq_true hp2)]
    exact Bool.false_ne_true
  · rw [if_neg e] at h2 ⊢
    rw [decide_eq_false (i3 o0 h0 h2)]; exact Bool.false_ne_true
theorem putSlot_len {sl : List Str} {n x : Str} (h : ∀ s ∈ sl, s.length ≤ 100000) (hx : x.length ≤ 100000) : ∀ s ∈ putSlot sl n x, s.length ≤ 100000 := fun s hs => by
  unfold putSlot at hs
  obtain ⟨o, ho, rfl⟩ := List.mem_map.mp hs
  split
  · exact hx
  · exact h o ho
theorem chgS_ok (val : ValidT rs) (so : SpecsOk rs S) {r : Row} (hr : r ∈ rs) {n x : Str} (hn : n ∈ treeNames r) (hx : partOf x = n) (lx : x.length ≤ 100000) : SpecsOk rs (chgS S r.2.1 n x) :=
  so.put val hr (putSlot_ok val hr (so.ok r hr) hn hx) (putSlot_len (so.short r hr) lx)
theorem tree_name (val : ValidT rs) {r : Row} (hr : r ∈ rs) {n : Str} (hn : n ∈ treeNames r) : nameB n = true := by
  obtain ⟨p, hp, rfl⟩ := List.mem_map.mp hn
  exact pt_name (val.each.good r hr).2.2 (List.mem_filter.mp hp).1
theorem partOf_name {n : Str} (h : nameB n = true) : partOf n = n := (slot_read (s := (false, n)) (nm_plain h)).1
end
/-! ### comprehensions of two clauses -/
theorem in_it {J : It} {n : Nat} {G : Hp → Prop} {Y : Nat → Hp → V → Hp → Prop} (w : Walk J n G Y) {g : TG} {tt : TT} {te : TE} {vs : List Nat} {σ : L2.St} {H1 : Hp} {D : Addr} {Qd : Hp → Prop} (Pv : Nat → Hp → Prop) (h0 : Pv 0 H1) (hG : ∀ i H, i ≤ n → Pv i H → G H)
    (hs : ∀ i x H H', i < n → Pv i H → Y i H x H' → g x (wipe σ vs) H' fun σ2 H2 => wipe σ2 vs = wipe σ vs ∧ tt σ2 H2 fun b H3 => if b = true then te σ2 H3 fun y H4 => ∃ acc, H4 D = some (.lst acc) ∧ acc.length < sizeLine ∧ Pv (i + 1) (upd H4 D (.lst (acc ++ [y]))) else Pv (i + 1) H3)
    (hd : ∀ H, Pv n H → Qd H) :
    ∃ W : Nat → Nat → Hp → Prop, (∃ m, W 0 m H1) ∧ ∀ i m H, W i m H → (J.stop i H ∧ Qd H) ∨ (J.go i H ∧ ∃ Nx : Hp → Prop, (∀ H', Nx H' → ∃ m', m' < m ∧ W (i + 1) m' H') ∧ ∀ x H', J.yld i H x H' → g x (wipe σ vs) H' fun σ2 H2 => wipe σ2 vs = wipe σ vs ∧ tt σ2 H2 fun b H3 =>
        if b = true then te σ2 H3 fun y H4 => ∃ acc, H4 D = some (.lst acc) ∧ acc.length < sizeLine ∧ Nx (upd H4 D (.lst (acc ++ [y]))) else Nx H3) := by
  refine ⟨fun i m H => (m = n - i ∧ i ≤ n) ∧ Pv i H, ⟨n, ⟨rfl, Nat.zero_le _⟩, h0⟩, fun i m H ⟨⟨em, hi⟩, p⟩ => ?_⟩
  subst em
  rcases Nat.lt_or_ge i n with lt | ge
  · exact .inr ⟨w.goes i H lt (hG i H hi p), Pv (i + 1), fun H' p' => ⟨n - (i + 1), by omega, ⟨rfl, lt⟩, p'⟩, fun x H' y => hs i x H H' lt p (w.yields i H x H' lt (hG i H hi p) y)⟩
  · obtain rfl : i = n := by omega
    exact .inl ⟨w.stops H (hG i H hi p), hd H p⟩
/-- the outer walk: its turn says what the inner walk keeps -/
theorem out_it {J : It} {n : Nat} {G : Hp → Prop} {Y : Nat → Hp → V → Hp → Prop} (w : Walk J n G Y) {H1 : Hp} {R : (Hp → Prop) → Nat → V → Hp → Prop} {Qd : Hp → Prop} (Pv : Nat → Hp → Prop) (h0 : Pv 0 H1) (hG : ∀ i H, i ≤ n → Pv i H → G H) (hs : ∀ i x H H', i < n → Pv i H → Y i H x H' → R (Pv (i + 1)) i x H')
    (hd : ∀ H, Pv n H → Qd H) : ∃ W : Nat → Nat → Hp → Prop, (∃ m, W 0 m H1) ∧ ∀ i m H, W i m H → (J.stop i H ∧ Qd H) ∨ (J.go i H ∧ ∃ Nx : Hp → Prop, (∀ H', Nx H' → ∃ m', m' < m ∧ W (i + 1) m' H') ∧ ∀ x H', J.yld i H x H' → R Nx i x H') := by
  refine ⟨fun i m H => (m = n - i ∧ i ≤ n) ∧ Pv i H, ⟨n, ⟨rfl, Nat.zero_le _⟩, h0⟩, fun i m H ⟨⟨em, hi⟩, p⟩ => ?_⟩
  subst em
  rcases Nat.lt_or_ge i n with lt | ge
  · exact .inr ⟨w.goes i H lt (hG i H hi p), Pv (i + 1), fun H' p' => ⟨n - (i + 1), by omega, ⟨rfl, lt⟩, p'⟩, fun x H' y => hs i x H H' lt p (w.yields i H x H' lt (hG i H hi p) y)⟩
  · obtain rfl : i = n := by omega
    exact .inl ⟨w.stops H (hG i H hi p), hd H p⟩
end Bg
set_option Elab.async false
set_option linter.all false
set_option maxRecDepth 100000
set_option maxHeartbeats 2000000
/-! own +, -, ^, +=, -= -/
namespace Bg
open PySem PySem.Spec PySem.Builtin PyProof.Rows L2
theorem str_add_f : typeLookup (.type "str") "__add__" = pure (some (.builtin "str.__add__")) := by rw [typeLookup_type, builtinLookup_eq_fast]; kernel_rfl
theorem str_add_r : typeLookup (.type "str") "__radd__" = pure none := by rw [typeLookup_type, builtinLookup_eq_fast]; kernel_rfl
theorem str_sub_f : typeLookup (.type "str") "__sub__" = pure none := by rw [typeLookup_type, builtinLookup_eq_fast]; kernel_rfl
theorem str_sub_r : typeLookup (.type "str") "__rsub__" = pure none := by rw [typeLookup_type, builtinLookup_eq_fast]; kernel_rfl
theorem str_nonum_add : fillsNumberSlot (.type "str") "add" = pure false := by
  unfold fillsNumberSlot
  show (do let f ← typeLookup (.type "str") (dunder "add"); let r ← typeLookup (.type "str") (dunderR "add"); pure ((f.isSome && !isSeqSlot f) || (r.isSome && !isSeqSlot r))) = _
  rw [show dunder "add" = ("__add__" : Str) from by decide +kernel, show dunderR "add" = ("__radd__" : Str) from by decide +kernel, str_add_f, str_add_r]
  kernel_rfl
theorem str_nonum_sub : fillsNumberSlot (.type "str") "sub" = pure false := by
  unfold fillsNumberSlot
  show (do let f ← typeLookup (.type "str") (dunder "sub"); let r ← typeLookup (.type "str") (dunderR "sub"); pure ((f.isSome && !isSeqSlot f) || (r.isSome && !isSeqSlot r))) = _
  rw [show dunder "sub" = ("__sub__" : Str) from by decide +kernel, show dunderR "sub" = ("__rsub__" : Str) from by decide +kernel, str_sub_f, str_sub_r]
  kernel_rfl
section
variable {prog : Program} {w : World} {A : Around} {E : Value → Shared → Prop} {s : Shared} {K : PySem.W.Frag} {x C L f : Addr} {h₀ : Heap} {m : Str → Option Value} {ox : Obj} {od : Option Obj}
theorem mro_first (hc : PySem.W.selfFirst K C = true) : ∃ cd rest, PySem.W.clsIn K C = some cd ∧ cd.mro = .ref C :: rest := by
  obtain ⟨cd, hcd, hm⟩ := PySem.W.any_some hc
  cases q : cd.mro with
  | nil => rw [q] at hm; cases hm
  | cons a r => rw [q] at hm; exact ⟨cd, r, hcd, by rw [q]; rw [List.head?_cons] at hm; cases (beq_iff_eq.mp hm); rfl⟩
/-- x op b, x an instance with an own method, b a text -/
theorem binop_str {op : Operator} {z : Str} {t : Tok} {Q : Value → Shared → Prop} (hns : fillsNumberSlot (.type "str") op.info.2 = pure false) (F : Fr h₀ L s.heap m) (X₀ : K.In h₀) (I : PySem.W.InstAt s.heap x ox C od) (hc : PySem.W.selfFirst K C = true)
    (hs : PySem.W.findIn K (.ref C) (PySem.dunder op.info.2) = some (some (.ref f))) (hf : PySem.W.isFn K (.ref f) = true) (h : wpAny (model prog w) A (call (.ref f) [.ref x, .str z t]) (PySem.W.CmpBack Q) E s) : wpAny (model prog w) A (binaryOp op (.ref x) (.str z t)) Q E s := by
  have Y := X₀.keeps F.keep
  obtain ⟨cd, rest, hcd, hm⟩ := mro_first hc
  have tyS : PySem.W.Looks (model prog w) s.heap (typeOf (.str z t)) (.type "str") := PySem.W.Looks.of_pure rfl
  have noS : PySem.W.Looks (model prog w) s.heap (fillsNumberSlot (.type "str") op.info.2) false := by rw [hns]; exact PySem.W.Looks.of_pure rfl
  unfold binaryOp
  refine wpAny_holding (wpAny_bind ?_)
  unfold binaryOp1
  refine wpAny_bind (I.type.here (wpAny_bind (tyS.here (wpAny_bind ((PySem.W.fills_K Y hcd hm hs).here ?_)))))
  rw [if_neg (show ¬ ((Value.ref C == Value.type "str") = true) from by simp)]
  refine wpAny_bind (noS.here ?_)
  simp only [Bool.and_false, Bool.false_eq_true, if_false, Bool.false_and, if_true]
  refine wpAny_bind (wpAny_pure ?_)
  simp only [Bool.false_eq_true, if_false]
  refine wpAny_bind (m := tryMethod (.ref x) _ _) ?_
  unfold tryMethod
  refine wpAny_bind (PySem.W.special_fn Y I hs (beq_iff_eq.mp hf) (wpAny_mono h (fun v s' hv => ?_) fun _ _ e => e))
  cases v <;> first | exact hv.elim | exact wpAny_pure (wpAny_pure (wpAny_pure hv))
theorem fillsIn_K {M : Model} {h : Heap} {nm : String} {add : Bool} {cd : ClassData} {rest : List Value} (X : K.In h) (hc : PySem.W.clsIn K C = some cd) (hm : cd.mro = .ref C :: rest) (hs : PySem.W.findIn K (.ref C) (PySem.dunderI nm) = some (some (.ref f))) : PySem.W.Looks M h (fillsInplaceSlot (.ref C) nm add) true := by
  intro A Q E s k q
  unfold fillsInplaceSlot
  refine wpAny_bind ((PySem.W.looks_clsIn X hc).andThen (f := fun cd => pure cd.mro) .now A _ E s k ?_)
  rw [hm, List.anyM_cons]
  refine wpAny_bind (wpAny_bind (PySem.W.looks_findIn X hs A _ E s k ?_))
  dsimp only
  rw [if_pos (show (!ownNameWrapper (.ref f) (PySem.dunderI nm)) = true from rfl)]
  refine wpAny_pure ?_
  rw [if_pos rfl]
  exact wpAny_pure q
/-- x op= b by an own method -/
theorem inplace_own {op : Operator} {b : Value} {Q : Value → Shared → Prop} (F : Fr h₀ L s.heap m) (X₀ : K.In h₀) (I : PySem.W.InstAt s.heap x ox C od) (hc : PySem.W.selfFirst K C = true)
    (hs : PySem.W.findIn K (.ref C) (PySem.dunderI op.info.2) = some (some (.ref f))) (hf : PySem.W.isFn K (.ref f) = true) (h : wpAny (model prog w) A (call (.ref f) [.ref x, b]) (PySem.W.CmpBack Q) E s) : wpAny (model prog w) A (inplaceOp op (.ref x) b) Q E s := by
  have Y := X₀.keeps F.keep
  obtain ⟨cd, rest, hcd, hm⟩ := mro_first hc
  unfold inplaceOp
  refine wpAny_holding (wpAny_bind (I.type.here (wpAny_bind ((fillsIn_K Y hcd hm hs).here ?_))))
  rw [if_pos rfl]
  refine wpAny_bind (m := tryMethod (.ref x) _ b) ?_
  unfold tryMethod
  refine wpAny_bind (PySem.W.special_fn Y I hs (beq_iff_eq.mp hf) (wpAny_mono h (fun v s' hv => ?_) fun _ _ e => e))
  cases v <;> first | exact hv.elim | (refine wpAny_pure ?_; dsimp only; exact wpAny_bind (wpAny_rule (wpAny_pure hv)))
end
theorem ep_back {X : Cx} {pins : List (Addr × Obj)} {σ : L2.St} {Q : VK} {v : Value} {s' : Shared} (h : EP X pins σ Q v s') : PySem.W.CmpBack (EP X pins σ Q) v s' := by
  obtain ⟨y, H', I', r, q⟩ := h
  unfold PySem.W.CmpBack
  cases v with
  | notImplemented => cases y <;> first | exact absurd r (by simp [RelV]) | (obtain ⟨_, e⟩ := r; cases e) | cases r
  | _ => exact ⟨y, H', I', r, q⟩
/-- the operators whose text operand has no number slot -/
inductive NoNum : Operator → Prop
  | add : NoNum .Add
  | sub : NoNum .Sub
theorem NoNum.ok {op : Operator} (h : NoNum op) : fillsNumberSlot (.type "str") op.info.2 = pure false := by
  cases h
  · exact str_nonum_add
  · exact str_nonum_sub
def tOpOwn (C : Addr) (sp : Sp) (E : L2.St → XK) (ta tb : TE) : TE := fun σ H Q => ta σ H fun x H1 => tb σ H1 fun y H2 => ∃ a dx fs z, x = .ref a ∧ y = .str z ∧ H2 a = some (.ins C dx fs) ∧ sp [.ref a, y] H2 Q (E σ)
def tXorOwn (C : Addr) (sp : Sp) (E : XK) (ta tb : TE) : TE := fun σ H Q => ta σ H fun x H1 => tb σ H1 fun y H2 => ∃ a dx fs a2 dx2 fs2, x = .ref a ∧ y = .ref a2 ∧ H2 a = some (.ins C dx fs) ∧ H2 a2 = some (.ins C dx2 fs2) ∧ sp [.ref a, .ref a2] H2 Q E
def tAugOwn (i : Nat) (C : Addr) (sp : Sp) (E : L2.St → XK) (te : TE) : TS := fun D σ H => ∃ a, σ[i]? = some (some (.ref a)) ∧ te σ H fun y H1 => ∃ dx fs, H1 a = some (.ins C dx fs) ∧ sp [.ref a, y] H1 (fun v H2 => D.nx (σ.set i (some v)) H2) (E σ)
section
variable {X : Cx} {CX : CXT} {k i : Nat} {f C : Addr} {fd : FuncData} {ps : List Str} {sp : Sp} {E : L2.St → XK} {a b e : Expr} {ta tb te : TE} {x : Str} {op : Operator} {pos pos' : Pos}
theorem pe_opOwn (no : NoNum op) (F : FnOk X.prog X.w X.K X.mg X.base CX k f fd ps sp) (hr : Room k X.A) (m : Meth X.K C (PySem.dunder op.info.2) f) (hc : PySem.W.selfFirst X.K C = true) (hb : Binds X.K fd ps []) (hx : ∀ σ, PassesAt CX X σ (E σ))
    (ha : PE X a ta) (hB : PE X b tb) : PE X (.BinOp a op b pos) (tOpOwn C sp E ta tb) := by
  refine ⟨fun pins s σ H Q I h => ?_⟩
  refine wpAny_BinOp (thn (ha.run pins s σ H _ I h) fun v s1 ⟨x, H1, I1, rx, h1⟩ => thn (hB.run pins s1 σ H1 _ I1 h1) fun u s2 ⟨y, H2, I2, ry, q⟩ => ?_)
  obtain ⟨a0, dx, fs, z, rfl, rfl, h0, q⟩ := q
  cases rx
  obtain ⟨t, rfl⟩ := ry
  obtain ⟨mA, J, _⟩ := ins_get I2.hok h0
  obtain ⟨od, J, _⟩ := J.look
  obtain ⟨m', hF⟩ := I2.fr
  exact binop_str no.ok hF I2.ok.mod.kin J hc m.at_ m.fn (thn (run_fnS F hr hb (hx σ) I2 (.cons (show RelV (V.ref a0) (Value.ref a0) from rfl) (.cons (show RelV (V.str z) (Value.str z t) from ⟨t, rfl⟩) .nil)) q) fun _ _ w => ep_back w)
theorem pe_xorOwn {E : XK} (F : FnOk X.prog X.w X.K X.mg X.base CX k f fd ps sp) (hr : Room k X.A) (m : Meth X.K C (PySem.dunder op.info.2) f) (hc : PySem.W.selfFirst X.K C = true) (hb : Binds X.K fd ps []) (hx : Passes CX X E)
    (ha : PE X a ta) (hB : PE X b tb) : PE X (.BinOp a op b pos) (tXorOwn C sp E ta tb) := by
  refine ⟨fun pins s σ H Q I h => ?_⟩
  refine wpAny_BinOp (thn (ha.run pins s σ H _ I h) fun v s1 ⟨x, H1, I1, rx, h1⟩ => thn (hB.run pins s1 σ H1 _ I1 h1) fun u s2 ⟨y, H2, I2, ry, q⟩ => ?_)
  obtain ⟨a0, dx, fs, a2, dx2, fs2, rfl, rfl, h0, h2, q⟩ := q
  cases rx
  cases ry
  obtain ⟨mA, J, _⟩ := ins_get I2.hok h0
  obtain ⟨od, J, _⟩ := J.look
  obtain ⟨mB, J2, _⟩ := ins_get I2.hok h2
  obtain ⟨od2, J2, _⟩ := J2.look
  obtain ⟨m', hF⟩ := I2.fr
  exact PySem.W.binop_K hF I2.ok.mod.kin J J2.type hc m.at_ m.fn (thn (run_fn F hr hb .nil hx I2 (.cons (show RelV (V.ref a0) (Value.ref a0) from rfl) (.cons (show RelV (V.ref a2) (Value.ref a2) from rfl) .nil)) q) fun _ _ w => ep_back w)
theorem ps_augOwn (hN : X.N.Nodup) (hi : X.N[i]? = some x) (hl : Loc X.env.scope x) (F : FnOk X.prog X.w X.K X.mg X.base CX k f fd ps sp) (hr : Room k X.A) (m : Meth X.K C (PySem.dunderI op.info.2) f) (hc : PySem.W.selfFirst X.K C = true) (hb : Binds X.K fd ps []) (hx : ∀ σ, PassesAt CX X σ (E σ))
    (he : PE X e te) (hf : X.fn x = true ∨ X.env.scope.names.lookup x = some .local := by first | exact .inl rfl | exact .inr rfl | assumption) : PS X (.AugAssign (.Name x pos') op e pos) (tAugOwn i C sp E te) := by
  refine ⟨fun pins s σ H D I h => ?_⟩
  obtain ⟨a0, e1, h⟩ := h
  obtain ⟨m0, hn, hll⟩ := I.loc
  have vis : Vis X.env.scope x := hl.elim .inl fun z => .inr (.inl z)
  obtain ⟨u, r, l⟩ := hll i x (.ref a0) hi e1 vis
  cases r
  refine wpAny_AugAssign_Name ?_
  have step : wpAny (model X.prog X.w) X.A (eval e X.env) (fun b t2 => wpAny (model X.prog X.w) X.A (inplaceOp op (.ref a0) b) (fun r t3 => wpAny (model X.prog X.w) X.A (storeName X.env x r) (fun _ => SP X pins D .next) X.xe t3) X.xe t2) X.xe s := by
    refine thn (he.run pins s σ H _ I h) fun b s1 ⟨y, H1, I1, ry, dx, fs, h0, q⟩ => ?_
    obtain ⟨mA, J, _⟩ := ins_get I1.hok h0
    obtain ⟨od, J, _⟩ := J.look
    obtain ⟨m', hF⟩ := I1.fr
    refine inplace_own hF I1.ok.mod.kin J hc m.at_ m.fn (thn (run_fnS F hr hb (hx σ) I1 (.cons (show RelV (V.ref a0) (Value.ref a0) from rfl) (.cons ry .nil)) q) fun v s2 w => ?_)
    obtain ⟨z, H2, I2, r2, q2⟩ := w
    have fin : wpAny (model X.prog X.w) X.A (storeName X.env x v) (fun _ => SP X pins D .next) X.xe s2 := store_ok I2 hN hi hl r2 (fun s3 I3 => ⟨_, H2, I3, q2⟩) hf
    unfold PySem.W.CmpBack
    cases v with
    | notImplemented => cases z <;> first | exact absurd r2 (by simp [RelV]) | (obtain ⟨_, e⟩ := r2; cases e) | cases r2
    | _ => exact fin
  rcases l with ⟨hk, hm⟩ | ⟨hk, c, hcc, hcell⟩
  · exact wpAny_loadName_local I.ok.kind hk hn hm step
  · rcases hk with hk | hk
    · exact wpAny_loadName_cell I.ok.kind hk hcc hcell step
    · rcases hl with k2 | k2
      · exact nomatch k2.symm.trans hk
      · exact nomatch k2.symm.trans hk
end
theorem mAdd {K : PySem.W.Frag} {C f : Addr} (m : Meth K C "__add__" f) : Meth K C (PySem.dunder Operator.Add.info.2) f := by rw [show PySem.dunder Operator.Add.info.2 = ("__add__" : Str) by decide +kernel]; exact m
theorem mSub {K : PySem.W.Frag} {C f : Addr} (m : Meth K C "__sub__" f) : Meth K C (PySem.dunder Operator.Sub.info.2) f := by rw [show PySem.dunder Operator.Sub.info.2 = ("__sub__" : Str) by decide +kernel]; exact m
theorem mXor {K : PySem.W.Frag} {C f : Addr} (m : Meth K C "__xor__" f) : Meth K C (PySem.dunder Operator.BitXor.info.2) f := by rw [show PySem.dunder Operator.BitXor.info.2 = ("__xor__" : Str) by decide +kernel]; exact m
theorem mIadd {K : PySem.W.Frag} {C f : Addr} (m : Meth K C "__iadd__" f) : Meth K C (PySem.dunderI Operator.Add.info.2) f := by rw [show PySem.dunderI Operator.Add.info.2 = ("__iadd__" : Str) by decide +kernel]; exact m
theorem mIsub {K : PySem.W.Frag} {C f : Addr} (m : Meth K C "__isub__" f) : Meth K C (PySem.dunderI Operator.Sub.info.2) f := by rw [show PySem.dunderI Operator.Sub.info.2 = ("__isub__" : Str) by decide +kernel]; exact m
end Bg
set_option Elab.async false
set_option linter.all false
set_option maxRecDepth 100000
set_option maxHeartbeats 4000000
/-! layout[maker], layout[maker] = spec that raise; for pair in layout -/
namespace Bg
open PySem PySem.Spec PyProof.Rows L2
section
variable {P : Program} {w : World} {K : PySem.W.Frag} {mg : Str → Option Value} {base : Heap} {fd : FuncData}
def spSetB (K : PySem.W.Frag) : Sp := fun vs H Q E => ∃ (x c xk : Addr) (rs : List Row) (S : Str → List Str) (r : Row) (sl : List Str), vs = [.ref x, .str r.2.1, .ref c] ∧ LayAt K H x xk rs S ∧ KindsF K H xk rs ∧ ValidT rs ∧ r ∈ rs ∧ Rd H c (.tup (sl.map V.str)) ∧ sl.length ≤ 1000 ∧ (∀ s ∈ sl, s.length ≤ 100000) ∧ isSpecB r sl = false ∧ r.2.1.length ≤ 1000 ∧ RaisesBL K H r.2.1 E
theorem okx_setb (T : Tx K mg) (F : FnP K ("Layout", some "__setitem__") "__setitem__" "Layout.__setitem__" s_Layout_setitem fd) : FnOk P w K mg base (L2.CX P w) 5 (He.fAd K ("Layout", some "__setitem__")) fd p_Layout_setitem (spSetB K) := by
  refine F.ok (k := 4) sc_Layout_setitem (fun vs H Q E h => ?_) (fun cdv A outer s H vs Q E hr h => ?_)
  · obtain ⟨_, _, _, _, _, _, _, rfl, _⟩ := h; rfl
  obtain ⟨x, c, xk, rs, S, r, sl, rfl, hL, hK, val, hr', hc, l1, lsl, bad, ty, q⟩ := h
  obtain ⟨dx, tp, ps, hx, hpl, al⟩ := id hL
  have hu := hu_of hr
  have hm : r.2.1 ∈ rmakers rs := List.mem_map_of_mem hr'
  obtain ⟨dk0, dm, dk, dp, dl, tn, to, h0, hin⟩ := id hK
  obtain ⟨f1, F1⟩ := T.F_Kinds_contains
  obtain ⟨f2, F2⟩ := T.F_is_spec
  obtain ⟨f3, F3⟩ := T.F_BadLayout_init
  obtain ⟨f4, F4⟩ := T.F_specs_price
  have nd := sc_Layout_setitem.nd
  refine ⟨_, (pss_cons (ps_if (pt_cmpR (op_notInOwn (okf_contains T F1) (hr.mono (by omega)) T.m_Kinds_contains (b_Kinds_contains F1) pass0) (pv 1) (pe_fld (pv 0) rfl) (by rfl))
      (pss_one ps_never)
      pss_nil)
    (pss_cons (ps_if (pt_not (pt_val (pe_call (ok_is_spec T F2) (hr.mono (by omega)) (by rfl) T.g_is_spec T.k_is_spec (b_is_spec F2) .nil pass0 (pa_cons (pe_fld (pv 0) rfl) (pa_cons (pv 1) (pa_cons (pv 2) pa_nil))))))
      (pss_one (ps_raise rfl (takes_of rfl rfl rfl rfl) (pmk_oex T.x_BadLayout.oex T.m_BadLayout_init.at_ (beq_iff_eq.mp T.m_BadLayout_init.fn) (ok_bli T F3) (hr.mono (by omega)) (b_BadLayout_init F3) .nil pass0 (by rfl) T.g_BadLayout (pa_cons (pv 1) pa_nil))))
      pss_nil)
    pss_never)), ?_⟩
  refine ⟨_, rfl, _, rfl, x, CL K, dx, _, _, rfl, hx, T.cl_Layout, T.na_Layout_kinds, lF3_kinds, xk, dk0, _, rfl, h0, xk, r.2.1, rs, rfl, hK, _, rfl, _, rfl, ?_⟩
  rw [decide_eq_true hm]
  refine iteF ⟨_, rfl, x, CL K, dx, _, _, rfl, hx, T.cl_Layout, T.na_Layout_kinds, lF3_kinds, _, rfl, _, rfl, xk, c, rs, r, sl, rfl, hK, val, hr', hc, l1, lsl, fun H1 s1 => ⟨_, rfl, ?_⟩⟩
  rw [bad]
  exact iteT ⟨_, rfl, raiseL_read ty (q.same s1)⟩
def spSetU (K : PySem.W.Frag) : Sp := fun vs H Q E => ∃ (x xk : Addr) (v : V) (rs : List Row) (S : Str → List Str) (m : Str), vs = [.ref x, .str m, v] ∧ LayAt K H x xk rs S ∧ KindsF K H xk rs ∧ m ∉ rmakers rs ∧ Tame m ∧ RaisesNT K H m E
theorem okx_setu (T : Tx K mg) (F : FnP K ("Layout", some "__setitem__") "__setitem__" "Layout.__setitem__" s_Layout_setitem fd) : FnOk P w K mg base (L2.CX P w) 5 (He.fAd K ("Layout", some "__setitem__")) fd p_Layout_setitem (spSetU K) := by
  refine F.ok (k := 4) sc_Layout_setitem (fun vs H Q E h => ?_) (fun cdv A outer s H vs Q E hr h => ?_)
  · obtain ⟨_, _, _, _, _, _, rfl, _⟩ := h; rfl
  obtain ⟨x, xk, v, rs, S, m, rfl, hL, hK, nm, ty, q⟩ := h
  obtain ⟨dx, tp, ps, hx, hpl, al⟩ := id hL
  have hu := hu_of hr
  obtain ⟨dk0, dm, dk, dp, dl, tn, to, h0, hin⟩ := id hK
  obtain ⟨f1, F1⟩ := T.F_Kinds_contains
  obtain ⟨f2, F2⟩ := T.F_NotThere_init
  obtain ⟨f3, F3⟩ := T.F_is_spec
  obtain ⟨f4, F4⟩ := T.F_specs_price
  have nd := sc_Layout_setitem.nd
  refine ⟨_, (pss_cons (ps_if (pt_cmpR (op_notInOwn (okf_contains T F1) (hr.mono (by omega)) T.m_Kinds_contains (b_Kinds_contains F1) pass0) (pv 1) (pe_fld (pv 0) rfl) (by rfl))
      (pss_one (ps_raise rfl (takes_of rfl rfl rfl rfl) (pmk_oex T.x_NotThere.oex T.m_NotThere_init.at_ (beq_iff_eq.mp T.m_NotThere_init.fn) (ok_nti T F2) (hr.mono (by omega)) (b_NotThere_init F2) .nil pass0 (by rfl) T.g_NotThere (pa_cons (pv 1) pa_nil))))
      pss_nil)
    pss_never), ?_⟩
  refine ⟨_, rfl, _, rfl, x, CL K, dx, _, _, rfl, hx, T.cl_Layout, T.na_Layout_kinds, lF3_kinds, xk, dk0, _, rfl, h0, xk, m, rs, rfl, hK, _, rfl, _, rfl, ?_⟩
  rw [decide_eq_false nm]
  exact iteT ⟨_, rfl, raise_read ty q⟩
def spGetU (K : PySem.W.Frag) : Sp := fun vs H Q E => ∃ (x xk : Addr) (rs : List Row) (S : Str → List Str) (m : Str), vs = [.ref x, .str m] ∧ LayAt K H x xk rs S ∧ KindsF K H xk rs ∧ m ∉ rmakers rs ∧ Tame m ∧ RaisesNT K H m E
theorem okx_getu (T : Tx K mg) (F : FnP K ("Layout", some "__getitem__") "__getitem__" "Layout.__getitem__" s_Layout_getitem fd) : FnOk P w K mg base (L2.CX P w) 5 (He.fAd K ("Layout", some "__getitem__")) fd p_Layout_getitem (spGetU K) := by
  refine F.ok (k := 4) sc_Layout_getitem (fun vs H Q E h => ?_) (fun cdv A outer s H vs Q E hr h => ?_)
  · obtain ⟨_, _, _, _, _, rfl, _⟩ := h; rfl
  obtain ⟨x, xk, rs, S, m, rfl, hL, hK, nm, ty, q⟩ := h
  obtain ⟨dx, tp, ps, hx, hpl, al⟩ := id hL
  have hu := hu_of hr
  obtain ⟨dk0, dm, dk, dp, dl, tn, to, h0, hin⟩ := id hK
  obtain ⟨f1, F1⟩ := T.F_Kinds_contains
  obtain ⟨f2, F2⟩ := T.F_NotThere_init
  have nd := sc_Layout_getitem.nd
  refine ⟨_, (pss_cons (ps_if (pt_cmpR (op_notInOwn (okf_contains T F1) (hr.mono (by omega)) T.m_Kinds_contains (b_Kinds_contains F1) pass0) (pv 1) (pe_fld (pv 0) rfl) (by rfl))
      (pss_one (ps_raise rfl (takes_of rfl rfl rfl rfl) (pmk_oex T.x_NotThere.oex T.m_NotThere_init.at_ (beq_iff_eq.mp T.m_NotThere_init.fn) (ok_nti T F2) (hr.mono (by omega)) (b_NotThere_init F2) .nil pass0 (by rfl) T.g_NotThere (pa_cons (pv 1) pa_nil))))
      pss_nil)
    pss_never), ?_⟩
  refine ⟨_, rfl, _, rfl, x, CL K, dx, _, _, rfl, hx, T.cl_Layout, T.na_Layout_kinds, lF3_kinds, xk, dk0, _, rfl, h0, xk, m, rs, rfl, hK, _, rfl, _, rfl, ?_⟩
  rw [decide_eq_false nm]
  exact iteT ⟨_, rfl, raise_read ty q⟩
/-- the iterator of a layout's pairs -/
def spIterL (K : PySem.W.Frag) (n : Nat) : Sp := fun vs H Q _ => ∃ (x xk dx tp : Addr) (pr : Int) (zs : List V), vs = [.ref x] ∧ H x = some (.ins (CL K) dx (lF3 xk tp pr)) ∧ SqT K H tp zs ∧ ∀ it, H it = none → n ≤ it → Q (.ref it) (upd H it (ItT tp it 0))
theorem ok_iterL (T : Tx K mg) (F : FnP K ("Layout", some "__iter__") "__iter__" "Layout.__iter__" s_Layout_iter fd) (n : Nat) : FnFrom n P w K mg base CX0 1 (He.fAd K ("Layout", some "__iter__")) fd p_Layout_iter (spIterL K n) := by
  refine fnFrom (k := 0) F sc_Layout_iter (fun vs H Q E h => ?_) (fun cdv A outer s H vs Q E hn hr h => ?_)
  · obtain ⟨_, _, _, _, _, _, rfl, _⟩ := h; rfl
  obtain ⟨x, xk, dx, tp, pr, zs, rfl, hx, hz, q⟩ := h
  refine ⟨_, PSs.nox (pss_one (ps_ret (pe_callB (call_iterTN hn) (by rfl) T.n_iter (by decide +kernel) (pa_cons (pe_fld (pv 0) rfl) pa_nil)))), ?_⟩
  exact ⟨_, rfl, x, CL K, dx, _, _, rfl, hx, T.cl_Layout, T.na_Layout_pairs_, lF3_pairs, tp, zs, rfl, hz, q⟩
end
end Bg
set_option Elab.async false
set_option linter.all false
set_option maxRecDepth 100000
set_option maxHeartbeats 4000000
/-! spec_with, split_mark, all_marks, mark in layout -/
namespace Bg
open PySem PySem.Spec PyProof.Rows L2
section
variable {P : Program} {w : World} {K : PySem.W.Frag} {mg : Str → Option Value} {base : Heap} {fd : FuncData}
def spSpecWith : Sp := fun vs H Q _ => ∃ (c : Addr) (sl : List Str) (n x : Str), vs = [.ref c, .str n, .str x] ∧ Rd H c (.tup (sl.map V.str)) ∧ sl.length ≤ 1000 ∧ (∀ s ∈ sl, s.length ≤ 100000) ∧ ∀ t H', Same H H' → PlT H' t ((putSlot sl n x).map V.str) → Q (.ref t) H'
theorem ok_spec_with (T : Tx K mg) (F : FnP K ("spec_with", none) "spec_with" "spec_with" s_spec_with fd) : FnOk P w K mg base CX0 2 (He.fAd K ("spec_with", none)) fd p_spec_with spSpecWith := by
  refine F.ok (k := 1) sc_spec_with (fun vs H Q E h => ?_) (fun cdv A outer s H vs Q E hr h => ?_)
  · obtain ⟨_, _, _, _, rfl, _⟩ := h; rfl
  obtain ⟨c, sl, n, x, rfl, hc, l1, l2, q⟩ := h
  obtain ⟨f1, F1⟩ := T.F_part_of
  have nd := sc_spec_with.nd
  refine ⟨_, PSs.nox (pss_one (ps_ret (pe_callTy call_tupleP (by rfl) T.n_tuple (by decide +kernel) (pa_cons (pe_lc (own := [("old", 3)]) (g := gName 3) rfl nd (pi_tup (pv 0)) (blkOk_by (N := ["spec", "part", "slot", "old"]) (sc := defScope s_spec_with) (by decide +kernel)) (fun _ _ _ _ _ => (pg_name (i := 3) nd rfl (Or.inl rfl))) (fun _ _ _ _ _ => pts_nil) (fun _ _ _ _ _ => (pe_ifExp (pt_cmpR op_eq (pe_call (sp := spPartOf) (E := E0) (ok_part_of T F1) (hr.mono (by omega)) (by rfl) T.g_part_of T.k_part_of (b_part_of F1) .nil pass0 (pa_cons (pv 3) pa_nil)) (pv 1) (nomark _)) (pv 2) (pv 3)))) pa_nil)))), ?_⟩
  refine ⟨_, rfl, c, rfl, ⟨_, .inl hc⟩, fun D hD => lc_it (walk_tup (K := K) (a := c) (xs := sl.map V.str)) (fun i H2 => Same H H2 ∧ H2 D = some (.lst ((putSlot (sl.take i) n x).map V.str))) ⟨same_new hD, upd_same⟩ (fun i H2 _ z => .inl (rd_same z.1 hc)) ?_ ?_⟩
  · rintro i y H2 H3 hi ⟨s2, hacc⟩ ⟨rfl, hy⟩
    rw [List.getElem?_map, Option.map_eq_some_iff] at hy
    obtain ⟨s, hs, rfl⟩ := hy
    have hsm := List.mem_of_getElem? hs
    have li := (List.getElem?_eq_some_iff.mp hs).1
    have lk : ((putSlot (sl.take i) n x).map V.str).length < sizeLine := small1000 (by unfold putSlot; rw [List.length_map, List.length_map, List.length_take]; omega)
    have est : putSlot (sl.take (i + 1)) n x = putSlot (sl.take i) n x ++ [if partOf s = n then x else s] := by unfold putSlot; rw [take_succ_of hs, List.map_append]; rfl
    refine ⟨rfl, _, rfl, s, rfl, l2 s hsm, _, rfl, rfl, _, rfl, ite2 (fun h => ?_) (fun h => ?_)⟩
    · have e : partOf s = n := by simpa using h
      refine ⟨_, rfl, _, hacc, lk, same_mut s2 hD, ?_⟩
      rw [upd_same, est, if_pos e, List.map_append]; rfl
    · have e : partOf s ≠ n := by simpa using h
      refine ⟨_, rfl, _, hacc, lk, same_mut s2 hD, ?_⟩
      rw [upd_same, est, if_neg e, List.map_append]; rfl
  rintro H2 ⟨s2, hacc⟩
  rw [List.length_map, List.take_length] at hacc
  exact ⟨D, _, rfl, SqL.of hacc, fun t H3 nt s3 hpl _ => q t H3 (s2.trans s3) hpl⟩
/-- a mark is split -/
def spSplit (K : PySem.W.Frag) : Sp := fun vs H Q _ => ∃ (xk : Addr) (rs : List Row) (r : Row) (n : Str), vs = [.ref xk, .str (markT r.2.1 n)] ∧ KindsF K H xk rs ∧ ValidT rs ∧ r ∈ rs ∧ n ∈ treeNames r ∧ ∀ t H', Same H H' → H' t = some (.tup [.str r.2.1, .str n]) → Q (.ref t) H'
theorem len_dot : ("." : Str).length = 1 := by decide +kernel
theorem mark_len {m n : Str} (h1 : m.length ≤ 24) (h2 : n.length ≤ 24) : (markT m n).length ≤ 49 := by
  unfold markT; rw [Str.length_append, Str.length_append, len_dot]; omega
theorem ok_split (T : Tx K mg) (F : FnP K ("split_mark", none) "split_mark" "split_mark" s_split_mark fd) : FnOk P w K mg base CX0 4 (He.fAd K ("split_mark", none)) fd p_split_mark (spSplit K) := by
  refine F.ok (k := 3) sc_split_mark (fun vs H Q E h => ?_) (fun cdv A outer s H vs Q E hr h => ?_)
  · obtain ⟨_, _, _, _, rfl, _⟩ := h; rfl
  obtain ⟨xk, rs, r, n, rfl, hK, val, hr', hn, q⟩ := h
  have ml := mark_len (nm_len (val.each.good r hr').2.1) (nm_len (tree_name val hr' hn))
  have hm : r.2.1 ∈ rmakers rs := List.mem_map_of_mem hr'
  obtain ⟨f1, F1⟩ := T.F_tree_parts
  obtain ⟨f2, F2⟩ := T.F_Kinds_contains
  have nd := sc_split_mark.nd
  refine ⟨_, PSs.nox (pss_cons (ps_asg (pe_m1 PySem.F.slot_str_partition PySem.F.type_str_partition mt_partition (pv 1) pe_str) (pg_tup rfl (pgs_cons (pg_name (i := 2) nd rfl (Or.inl rfl)) (pgs_cons (pg_name (i := 3) nd rfl (Or.inl rfl)) (pgs_cons (pg_name (i := 4) nd rfl (Or.inl rfl)) pgs_nil)))))
    (pss_cons (ps_if (PW.pt (pw_or (pt_cmpR (op_notInOwn (okf_contains T F2) (hr.mono (by omega)) T.m_Kinds_contains (b_Kinds_contains F2) pass0) (pv 2) (pv 0) (by rfl)) (pw_or1 (pt_cmpR op_notIn_seq (pv 4) (pe_call (ok_tree_parts T F1) (hr.mono (by omega)) (by rfl) T.g_tree_parts T.k_tree_parts (b_tree_parts F1) .nil pass0 (pa_cons (pv 0) (pa_cons (pv 2) pa_nil))) (by rfl)))))
      (pss_one ps_never)
      pss_nil)
    (pss_one (ps_ret (pe_tup (pa_cons (pv 2) (pa_cons (pv 4) pa_nil))))))), ?_⟩
  refine ⟨_, rfl, ⟨_, rfl⟩, markT r.2.1 n, ".", rfl, rfl, by decide +kernel, Nat.le_trans ml (by decide), fun t ht => ?_⟩
  rw [part_mark (mk_nodot val hr')]
  have s1 := same_new (o := .tup [V.str r.2.1, V.str ".", V.str n]) ht
  obtain ⟨dx, dm, dk, dp, dl, tn, to, h0, _⟩ := id (hK.same s1)
  refine ⟨t, _, rfl, SqT.of upd_same, rfl, _, _, rfl, _, _, rfl, _, _, rfl, rfl, ?_⟩
  refine ⟨_, rfl, _, rfl, xk, dx, _, rfl, h0, xk, r.2.1, rs, rfl, hK.same s1, _, rfl, _, rfl, ?_⟩
  rw [decide_eq_true hm]
  refine iteF ⟨_, rfl, _, rfl, _, rfl, xk, rs, r, rfl, hK.same s1, val, hr', fun l H2 s2 _ hl => ⟨l, _, rfl, .inl (SqL.of hl), rfl, flat_str _, _, rfl, ?_⟩⟩
  rw [if_pos rfl, inV_strs, decide_eq_true hn]
  refine iteF ⟨_, rfl, _, rfl, by show 2 ≤ sizeLine; decide, fun t2 ht2 => ?_⟩
  exact q t2 _ (s1.trans (s2.trans (same_new ht2))) upd_same
/-- a text that is no mark -/
def spSplitX (K : PySem.W.Frag) : Sp := fun vs H Q E => ∃ (xk : Addr) (rs : List Row) (x : Str), vs = [.ref xk, .str x] ∧ KindsF K H xk rs ∧ ValidT rs ∧ NoMark rs x ∧ x.length ≤ 100000 ∧ Tame x ∧ RaisesNT K H x E
theorem okx_split (T : Tx K mg) (F : FnP K ("split_mark", none) "split_mark" "split_mark" s_split_mark fd) : FnOk P w K mg base (L2.CX P w) 4 (He.fAd K ("split_mark", none)) fd p_split_mark (spSplitX K) := by
  refine F.ok (k := 3) sc_split_mark (fun vs H Q E h => ?_) (fun cdv A outer s H vs Q E hr h => ?_)
  · obtain ⟨_, _, _, rfl, _⟩ := h; rfl
  obtain ⟨xk, rs, x, rfl, hK, val, no, lx, ty, q⟩ := h
  obtain ⟨f1, F1⟩ := T.F_tree_parts
  obtain ⟨f2, F2⟩ := T.F_Kinds_contains
  obtain ⟨f3, F3⟩ := T.F_NotThere_init
  have nd := sc_split_mark.nd
  refine ⟨_, (pss_cons (ps_asg (pe_m1 PySem.F.slot_str_partition PySem.F.type_str_partition mt_partition (pv 1) pe_str) (pg_tup rfl (pgs_cons (pg_name (i := 2) nd rfl (Or.inl rfl)) (pgs_cons (pg_name (i := 3) nd rfl (Or.inl rfl)) (pgs_cons (pg_name (i := 4) nd rfl (Or.inl rfl)) pgs_nil)))))
    (pss_cons (ps_if (PW.pt (pw_or (pt_cmpR (op_notInOwn (okf_contains T F2) (hr.mono (by omega)) T.m_Kinds_contains (b_Kinds_contains F2) pass0) (pv 2) (pv 0) (by rfl)) (pw_or1 (pt_cmpR op_notIn_seq (pv 4) (pe_call (ok_tree_parts T F1) (hr.mono (by omega)) (by rfl) T.g_tree_parts T.k_tree_parts (b_tree_parts F1) .nil pass0 (pa_cons (pv 0) (pa_cons (pv 2) pa_nil))) (by rfl)))))
      (pss_one (ps_raise rfl (takes_of rfl rfl rfl rfl) (pmk_oex T.x_NotThere.oex T.m_NotThere_init.at_ (beq_iff_eq.mp T.m_NotThere_init.fn) (ok_nti T F3) (hr.mono (by omega)) (b_NotThere_init F3) .nil pass0 (by rfl) T.g_NotThere (pa_cons (pv 1) pa_nil))))
      pss_nil)
    pss_never)), ?_⟩
  refine ⟨_, rfl, ⟨_, rfl⟩, x, ".", rfl, rfl, by decide +kernel, Nat.le_trans lx (by rw [sizeLine_eq]; decide), fun t ht => ?_⟩
  have s1 := same_new (o := .tup [V.str (Txt.partition x ".").1, V.str (Txt.partition x ".").2.1, V.str (Txt.partition x ".").2.2]) ht
  obtain ⟨dx, dm, dk, dp, dl, tn, to, h0, _⟩ := id (hK.same s1)
  refine ⟨t, _, rfl, SqT.of upd_same, rfl, _, _, rfl, _, _, rfl, _, _, rfl, rfl, ?_⟩
  refine ⟨_, rfl, _, rfl, xk, dx, _, rfl, h0, xk, _, rs, rfl, hK.same s1, _, rfl, _, rfl, ?_⟩
  by_cases hm : (Txt.partition x ".").1 ∈ rmakers rs
  · rw [decide_eq_true hm]
    obtain ⟨r, hr', er⟩ := List.mem_map.mp hm
    refine iteF ⟨_, rfl, _, rfl, _, rfl, xk, rs, r, by rw [er]; rfl, hK.same s1, val, hr', fun l H2 s2 _ hl => ⟨l, _, rfl, .inl (SqL.of hl), rfl, flat_str _, _, rfl, ?_⟩⟩
    rw [if_pos rfl, inV_strs, decide_eq_false (no r hr' er.symm)]
    exact iteT ⟨_, rfl, raise_read ty fun d H3 s3 e3 => q d H3 (s1.trans (s2.trans s3)) e3⟩
  · rw [decide_eq_false hm]
    exact iteT ⟨_, rfl, raise_read ty fun d H3 s3 e3 => q d H3 (s1.trans s3) e3⟩
def spAllMarks (K : PySem.W.Frag) : Sp := fun vs H Q _ => ∃ (xk : Addr) (rs : List Row), vs = [.ref xk] ∧ KindsF K H xk rs ∧ ValidT rs ∧ ∀ l H', Same H H' → H l = none → H' l = some (.lst ((allMarks rs).map V.str)) → Q (.ref l) H'
theorem flat_take {α β : Type} (f : α → List β) {l : List α} {i : Nat} {x : α} (h : l[i]? = some x) : (l.take (i + 1)).flatMap f = (l.take i).flatMap f ++ f x := by
  rw [take_succ_of h, List.flatMap_append]; simp
theorem flat_len {α β : Type} (f : α → List β) (b : Nat) : ∀ (l : List α), (∀ x ∈ l, (f x).length ≤ b) → (l.flatMap f).length ≤ b * l.length
  | [], _ => by simp
  | a :: r, h => by
    rw [List.flatMap_cons, List.length_append, List.length_cons]
    have := flat_len f b r fun x hx => h x (List.mem_cons_of_mem _ hx)
    have := h a (List.mem_cons_self ..)
    rw [Nat.mul_add]; omega
theorem ok_all_marks (T : Tx K mg) (F : FnP K ("all_marks", none) "all_marks" "all_marks" s_all_marks fd) : FnOk P w K mg base CX0 5 (He.fAd K ("all_marks", none)) fd p_all_marks (spAllMarks K) := by
  refine F.ok (k := 4) sc_all_marks (fun vs H Q E h => ?_) (fun cdv A outer s H vs Q E hr h => ?_)
  · obtain ⟨_, _, rfl, _⟩ := h; rfl
  obtain ⟨xk, rs, rfl, hK, val, q⟩ := h
  obtain ⟨dk0, dm, dk, dp, dl, tn, to, h0, hin⟩ := id hK
  obtain ⟨_, _, _, _, _, _, _, _, _, hto⟩ := id hin
  obtain ⟨t, o, et, ho, ht⟩ := hto
  cases et
  rw [distinct_of_nodup val.nd] at ht
  have l1 : (rmakers rs).length = rs.length := by unfold rmakers; rw [List.length_map]
  have sh := val.short.1
  have t4 : ∀ r ∈ rs, ((treeNames r).map fun n => markT r.2.1 n).length ≤ 4 := fun r hr' => by
    rw [List.length_map]; unfold treeNames; rw [List.length_map]
    exact Nat.le_trans (List.length_filter_le ..) (val.four r hr')
  let fl : List Row → List Str := fun l => l.flatMap fun r => (treeNames r).map fun n => markT r.2.1 n
  obtain ⟨f1, F1⟩ := T.F_tree_parts
  obtain ⟨f2, F2⟩ := T.F_Layout_mark
  have nd := sc_all_marks.nd
  refine ⟨_, PSs.nox (pss_one (ps_ret (pe_lc2 (own := [("maker", 1), ("part", 2)]) (vs1 := [2]) (g := gName 1) (g1 := gName 2) (wi1 := iList K _) rfl nd (pi_tup (pe_fld (pv 0) rfl)) (blkOk_by (N := ["kinds", "maker", "part"]) (sc := defScope s_all_marks) (by decide +kernel)) (by decide) (fun _ _ _ _ _ => (pg_name (i := 1) nd rfl (Or.inl rfl))) (fun _ _ _ _ _ => pts_nil) (fun _ _ _ _ _ => (pi_list (pe_call (sp := (spTreeParts K)) (E := E0) (ok_tree_parts T F1) (hr.mono (by omega)) (by rfl) T.g_tree_parts T.k_tree_parts (b_tree_parts F1) .nil pass0 (pa_cons (pv 0) (pa_cons (pv 1) pa_nil))))) (fun _ _ _ _ _ => (pg_name (i := 2) nd rfl (Or.inl rfl))) (fun _ _ _ _ _ => pts_nil) (fun _ _ _ _ _ => (pe_smeth (sp := spMark) (E := E0) (pe_glob (v := .ref _) (by rfl) T.g_Layout rfl) T.rd_Layout T.sm_Layout_mark F2.kp (ok_mark T F2) (hr.mono (by omega)) (b_Layout_mark F2) pass0 (pa_cons (pv 1) (pa_cons (pv 2) pa_nil))))))), ?_⟩
  refine ⟨_, rfl, xk, CK K, dk0, _, _, rfl, h0, T.cl_Kinds, T.na_Kinds_order, kF_order, to, rfl, ⟨_, sqT_frz ht⟩, fun D hD => out_it (walk_tup (K := K) (a := to) (xs := (rmakers rs).map V.str)) (fun i H2 => Same H H2 ∧ H2 D = some (.lst ((fl (rs.take i)).map V.str))) ⟨same_new hD, upd_same⟩ (fun i H2 _ z => sqT_frz (z.1 _ _ ht)) ?_ ?_⟩
  · rintro i y H2 H3 hi ⟨s2, hacc⟩ ⟨rfl, hy⟩
    rw [List.getElem?_map, Option.map_eq_some_iff] at hy
    obtain ⟨m, hm, rfl⟩ := hy
    unfold rmakers at hm
    rw [List.getElem?_map, Option.map_eq_some_iff] at hm
    obtain ⟨r, hrr, rfl⟩ := hm
    have hr' := List.mem_of_getElem? hrr
    have li := (List.getElem?_eq_some_iff.mp hrr).1
    have efl : fl (rs.take (i + 1)) = fl (rs.take i) ++ (treeNames r).map fun n => markT r.2.1 n := flat_take _ hrr
    have bfl : (fl (rs.take i)).length ≤ 4 * 1000 := Nat.le_trans (flat_len _ 4 _ fun x hx => t4 x (List.mem_of_mem_take hx)) (Nat.mul_le_mul_left _ (by rw [List.length_take]; omega))
    refine ⟨rfl, ?_⟩
    refine ⟨_, rfl, _, rfl, xk, rs, r, rfl, hK.same s2, val, hr', fun l H4 s4 hl0 hl => ?_⟩
    have e4 : H4 D = some (.lst ((fl (rs.take i)).map V.str)) := s4 _ _ hacc
    have nlD : l ≠ D := fun e => by rw [e, hacc] at hl0; cases hl0
    have lt4 := t4 r hr'
    rw [List.length_map] at lt4
    refine ⟨l, rfl, ⟨_, SqL.of hl⟩, in_it (walk_list (K := K) (a := l) (xs := (treeNames r).map V.str)) (fun j H5 => Same H H5 ∧ H5 l = some (.lst ((treeNames r).map V.str)) ∧ H5 D = some (.lst ((fl (rs.take i) ++ ((treeNames r).take j).map fun n => markT r.2.1 n).map V.str))) ⟨s2.trans s4, hl, by rw [List.take_zero, List.map_nil, List.append_nil]; exact e4⟩ (fun j H5 _ z => SqL.of z.2.1) ?_ ?_⟩
    · rintro j z H5 H6 hj ⟨s5, hl5, hacc5⟩ ⟨rfl, hz⟩
      rw [List.getElem?_map, Option.map_eq_some_iff] at hz
      obtain ⟨n, hn, rfl⟩ := hz
      have hnm := List.mem_of_getElem? hn
      have bj : (((treeNames r).take j).map fun n => markT r.2.1 n).length ≤ 4 := by rw [List.length_map, List.length_take]; omega
      refine ⟨rfl, rfl, _, rfl, _, rfl, r.2.1, n, rfl, Nat.le_trans (nm_len (val.each.good r hr').2.1) (by decide), Nat.le_trans (nm_len (tree_name val hr' hnm)) (by decide), _, hacc5, ?_, same_mut s5 hD, ?_, ?_⟩
      · rw [List.length_map, List.length_append, sizeLine_eq]; omega
      · rw [upd_ne nlD]; exact hl5
      · rw [upd_same, take_succ_of hn, List.map_append (l₁ := (treeNames r).take j), ← List.append_assoc, List.map_append (l₂ := List.map _ [n])]; rfl
    · rintro H5 ⟨s5, _, hacc5⟩
      rw [List.length_map, List.take_length] at hacc5
      exact ⟨s5, by rw [efl]; exact hacc5⟩
  rintro H2 ⟨s2, hacc⟩
  rw [List.length_map, l1, List.take_length] at hacc
  exact q D H2 s2 hD hacc
/-- marks of a layout -/
def spLCont (K : PySem.W.Frag) : Sp := fun vs H Q _ => ∃ (x xk : Addr) (rs : List Row) (S : Str → List Str) (z : Str), vs = [.ref x, .str z] ∧ LayAt K H x xk rs S ∧ ValidT rs ∧ SpecsOk rs S ∧ ∀ H', Same H H' → Q (.bl (decide (z ∈ marksIn rs S))) H'
theorem ok_lcont (T : Tx K mg) (F : FnP K ("Layout", some "__contains__") "__contains__" "Layout.__contains__" s_Layout_contains fd) : FnOk P w K mg base CX0 3 (He.fAd K ("Layout", some "__contains__")) fd p_Layout_contains (spLCont K) := by
  refine F.ok (k := 2) sc_Layout_contains (fun vs H Q E h => ?_) (fun cdv A outer s H vs Q E hr h => ?_)
  · obtain ⟨_, _, _, _, _, rfl, _⟩ := h; rfl
  obtain ⟨x, xk, rs, S, z, rfl, hL, val, so, q⟩ := h
  obtain ⟨dx, tp, ps, hx, hpl, al⟩ := id hL
  have l1 : (rmakers rs).length = rs.length := by unfold rmakers; rw [List.length_map]
  have lps : ps.length = rs.length := by rw [← l1, ← al.1, List.length_map]
  have sh := val.short.1
  have t4 : ∀ r ∈ rs, (((S r.2.1).filter hasLen).map fun s => markT r.2.1 (partOf s)).length ≤ 4 := fun r hr' => by
    rw [List.length_map]
    exact Nat.le_trans (List.length_filter_le ..) (by rw [(isSpecB_inv (so.ok r hr')).1]; exact val.four r hr')
  obtain ⟨f1, F1⟩ := T.F_has_length
  obtain ⟨f2, F2⟩ := T.F_Layout_mark
  obtain ⟨f3, F3⟩ := T.F_part_of
  have nd := sc_Layout_contains.nd
  refine ⟨_, PSs.nox (pss_one (ps_ret (pe_cmpR op_in_seq (pv 1) (pe_lc2 (own := [("maker", 2), ("spec", 3), ("slot", 4)]) (vs1 := [4]) (g := (gTup K 2 (gCons (gName 2) (gCons (gName 3) gNil)))) (g1 := gName 4) (wi1 := iTup K _) rfl nd (pi_tup (pe_fld (pv 0) rfl)) (blkOk_by (N := ["self", "x", "maker", "spec", "slot"]) (sc := defScope s_Layout_contains) (by decide +kernel)) (by decide) (fun _ _ _ _ _ => (pg_tup rfl (pgs_cons (pg_name (i := 2) nd rfl (Or.inl rfl)) (pgs_cons (pg_name (i := 3) nd rfl (Or.inl rfl)) pgs_nil)))) (fun _ _ _ _ _ => pts_nil) (fun _ _ _ _ _ => (pi_tup (pv 3))) (fun _ _ _ _ _ => (pg_name (i := 4) nd rfl (Or.inl rfl))) (fun _ _ _ _ _ => pts_one (pt_val (pe_call (sp := spHasLen) (E := E0) (ok_has_length T F1) (hr.mono (by omega)) (by rfl) T.g_has_length T.k_has_length (b_has_length F1) .nil pass0 (pa_cons (pv 4) pa_nil)))) (fun _ _ _ _ _ => (pe_smeth (sp := spMark) (E := E0) (pe_glob (v := .ref _) (by rfl) T.g_Layout rfl) T.rd_Layout T.sm_Layout_mark F2.kp (ok_mark T F2) (hr.mono (by omega)) (b_Layout_mark F2) pass0 (pa_cons (pv 2) (pa_cons (pe_call (sp := spPartOf) (E := E0) (ok_part_of T F3) (hr.mono (by omega)) (by rfl) T.g_part_of T.k_part_of (b_part_of F3) .nil pass0 (pa_cons (pv 4) pa_nil)) pa_nil))))) (by rfl)))), ?_⟩
  refine ⟨_, rfl, _, rfl, x, CL K, dx, _, _, rfl, hx, T.cl_Layout, T.na_Layout_pairs_, lF3_pairs, tp, rfl, ⟨_, hpl.sq⟩, fun D hD => out_it (walk_tup (K := K) (a := tp) (xs := ps.map V.ref)) (fun i H2 => Same H H2 ∧ H2 D = some (.lst ((marksIn (rs.take i) S).map V.str))) ⟨same_new hD, upd_same⟩ (fun i H2 _ z => (hpl.same z.1).sq) ?_ ?_⟩
  · rintro i y H2 H3 hi ⟨s2, hacc⟩ ⟨rfl, hy⟩
    obtain ⟨m, hmm, p, c0, rfl, hp0, hc0⟩ := al.get hy
    unfold rmakers at hmm
    rw [List.getElem?_map, Option.map_eq_some_iff] at hmm
    obtain ⟨r, hrr, rfl⟩ := hmm
    have hr' := List.mem_of_getElem? hrr
    have li := (List.getElem?_eq_some_iff.mp hrr).1
    have efl : marksIn (rs.take (i + 1)) S = marksIn (rs.take i) S ++ ((S r.2.1).filter hasLen).map fun s => markT r.2.1 (partOf s) := flat_take _ hrr
    have bfl : (marksIn (rs.take i) S).length ≤ 4 * 1000 := Nat.le_trans (flat_len _ 4 _ fun x hx => t4 x (List.mem_of_mem_take hx)) (Nat.mul_le_mul_left _ (by rw [List.length_take]; omega))
    have hp2 := s2 _ _ hp0
    have hc2 := rd_same s2 hc0
    refine ⟨p, _, rfl, SqT.of hp2, rfl, _, _, rfl, _, _, rfl, rfl, rfl, ?_⟩
    refine ⟨_, rfl, c0, rfl, ⟨_, .inl hc2⟩, in_it (walk_tup (K := K) (a := c0) (xs := (S r.2.1).map V.str)) (fun j H5 => Same H H5 ∧ H5 D = some (.lst ((marksIn (rs.take i) S ++ (((S r.2.1).take j).filter hasLen).map fun s => markT r.2.1 (partOf s)).map V.str))) ⟨s2, by rw [List.take_zero, List.filter_nil, List.map_nil, List.append_nil]; exact hacc⟩ (fun j H5 _ z => .inl (rd_same z.1 hc0)) ?_ ?_⟩
    · rintro j z5 H5 H6 hj ⟨s5, hacc5⟩ ⟨rfl, hz⟩
      rw [List.getElem?_map, Option.map_eq_some_iff] at hz
      obtain ⟨n, hn, rfl⟩ := hz
      have hnm := List.mem_of_getElem? hn
      have bj : ((((S r.2.1).take j).filter hasLen).map fun s => markT r.2.1 (partOf s)).length ≤ 4 := by
        rw [List.length_map]
        refine Nat.le_trans (List.length_filter_le ..) ?_
        rw [List.length_take]
        have := val.four r hr'
        have := (isSpecB_inv (so.ok r hr')).1
        omega
      refine ⟨rfl, _, rfl, n, rfl, _, rfl, ?_⟩
      show if hasLen n = true then _ else _
      cases hd : hasLen n with
      | false =>
        rw [if_neg Bool.false_ne_true]
        refine ⟨s5, ?_⟩
        rw [take_filt hn, hd, hacc5]; simp
      | true =>
        rw [if_pos rfl]
        have hpt := meas_tree val so hr' hnm hd
        refine ⟨rfl, _, rfl, _, rfl, n, rfl, so.short r hr' n hnm, r.2.1, partOf n, rfl, Nat.le_trans (nm_len (val.each.good r hr').2.1) (by decide), Nat.le_trans (nm_len (tree_name val hr' hpt)) (by decide), _, hacc5, ?_, same_mut s5 hD, ?_⟩
        · rw [List.length_map, List.length_append, sizeLine_eq]; omega
        · rw [upd_same, take_filt hn, hd, if_pos rfl, List.map_append (l₁ := ((S r.2.1).take j).filter hasLen), ← List.append_assoc, List.map_append (l₂ := List.map _ [n])]; rfl
    · rintro H5 ⟨s5, hacc5⟩
      rw [List.length_map, List.take_length] at hacc5
      exact ⟨s5, by rw [efl]; exact hacc5⟩
  rintro H2 ⟨s2, hacc⟩
  rw [List.length_map, lps, List.take_length] at hacc
  refine ⟨D, _, rfl, .inl (SqL.of hacc), rfl, flat_str _, ?_⟩
  rw [inV_strs]
  exact q H2 s2
end
end Bg
set_option Elab.async false
set_option linter.all false
set_option maxRecDepth 100000
set_option maxHeartbeats 4000000
/-! + - += -= ^ of layouts -/
namespace Bg
open PySem PySem.Spec PyProof.Rows L2
section
variable {P : Program} {w : World} {K : PySem.W.Frag} {mg : Str → Option Value} {base : Heap} {fd : FuncData}
theorem lF3_none {xk tp : Addr} {pr : Int} {m : Str} (h : decide (m ∈ ([("kinds" : Str), ("_pairs" : Str), ("_price" : Str)] : List Str)) = false) : (lF3 xk tp pr).lookup m = none := by
  have q := of_decide_eq_false h
  simp only [List.mem_cons, List.not_mem_nil, or_false, not_or] at q
  unfold lF3 lF2 lF1
  rw [lookup_putF, if_neg q.2.2, lookup_putF, if_neg q.2.1, lookup_putF, if_neg q.1]; rfl
def spChgL (K : PySem.W.Frag) : Sp := fun vs H Q _ => ∃ (x xk : Addr) (rs : List Row) (S : Str → List Str) (r : Row) (n z : Str), vs = [.ref x, .str r.2.1, .str n, .str z] ∧ LayAt K H x xk rs S ∧ KindsF K H xk rs ∧ ValidT rs ∧ SpecsOk rs S ∧ r ∈ rs ∧ n ∈ treeNames r ∧ partOf z = n ∧ z.length ≤ 100000 ∧
  ∀ y H', Same H H' → H y = none → LayAt K H' y xk rs (chgS S r.2.1 n z) → Q (.ref y) H'
theorem few_of {rs : List Row} (val : ValidT rs) {S : Str → List Str} (so : SpecsOk rs S) {r : Row} (hr : r ∈ rs) : (S r.2.1).length ≤ 1000 := by
  have := (isSpecB_inv (so.ok r hr)).1
  have := val.four r hr
  omega
theorem ok_changedL (T : Tx K mg) (F : FnP K ("Layout", some "_changed") "_changed" "Layout._changed" s_Layout_changed fd) : FnOk P w K mg base CX0 7 (He.fAd K ("Layout", some "_changed")) fd p_Layout_changed (spChgL K) := by
  refine F.ok (k := 6) sc_Layout_changed (fun vs H Q E h => ?_) (fun cdv A outer s H vs Q E hr h => ?_)
  · obtain ⟨_, _, _, _, _, _, _, rfl, _⟩ := h; rfl
  obtain ⟨x, xk, rs, S, r, n, z, rfl, hL, hK, val, so, hr', hn, hz, lz, q⟩ := h
  obtain ⟨dx, tp, ps, hx, hpl, al⟩ := id hL
  have hu := hu_of hr
  have sh := val.short.1
  have l1 : (rmakers rs).length = rs.length := by unfold rmakers; rw [List.length_map]
  have hm : r.2.1 ∈ rmakers rs := List.mem_map_of_mem hr'
  obtain ⟨kvs, hp, kd⟩ := pairs_dict (K := K) val.nd al
  obtain ⟨v, ev, c, rfl, hc⟩ := KD.some kd hm
  obtain ⟨f1, F1⟩ := T.F_spec_with
  obtain ⟨f2, F2⟩ := T.F_Layout_init
  have nd := sc_Layout_changed.nd
  refine ⟨_, PSs.nox (pss_cons (ps_set (i := 4) nd rfl (.inl rfl) (pe_callTy (call_dictT rfl) (by rfl) T.n_dict (by decide +kernel) (pa_cons (pe_fld (pv 0) rfl) pa_nil)))
    (pss_cons (ps_dput hu (pv 4) (pv 1) (pe_call (ok_spec_with T F1) (hr.mono (by omega)) (by rfl) T.g_spec_with T.k_spec_with (b_spec_with F1) .nil pass0 (pa_cons (pe_dget hu (pv 4) (pv 1) (fun _ _ => rfl)) (pa_cons (pv 2) (pa_cons (pv 3) pa_nil)))) rfl)
    (pss_one (ps_ret (pe_make T.mk_Layout (ok_layi T F2) (hr.mono (by omega)) (by rfl) T.g_Layout (b_Layout_init F2) .nil pass0 (pa_cons (pe_fld (pv 0) rfl) (pa_cons (pv 4) pa_nil))))))), ?_⟩
  refine ⟨_, rfl, x, CL K, dx, _, _, rfl, hx, T.cl_Layout, T.na_Layout_pairs_, lF3_pairs, tp, ps, kvs, rfl, hpl, hp, fun p hp0 => ?_⟩
  have s1 := same_new (o := .dK (mergeK [] kvs)) hp0
  generalize hH1 : upd H p (.dK (mergeK [] kvs)) = H1 at s1 ⊢
  have hp1 : H1 p = some (.dK (mergeK [] kvs)) := by rw [← hH1]; exact upd_same
  clear hH1
  refine ⟨_, rfl, _, rfl, p, _, rfl, (by rw [← ev]; exact DGet.k (k := Sum.inr r.2.1) hp1), _, rfl, _, rfl, c, S r.2.1, n, z, rfl, rd_same s1 hc, few_of val so hr', so.short r hr', fun t H2 s2 ht => ?_⟩
  have hp2 := s2 _ _ hp1
  have kd2 : KD (mergeK [] kvs) (rmakers rs) (SpR H2 S) := KD.mono kd fun _ _ ⟨c', e1, e2⟩ => ⟨c', e1, rd_same (s1.trans s2) e2⟩
  have lk : (mergeK [] kvs).length ≤ 1000 := by have := KD.length kd; omega
  refine ⟨_, rfl, _, rfl, p, _, rfl, DPut.k (k := Sum.inr r.2.1) hp2 (small1000 lk), ?_⟩
  have sd := SpecD.put hp2 kd2 (m := r.2.1) (ht.rd)
  rw [addNew_of_mem hm] at sd
  generalize hH3 : upd H2 p (.dK (putK (mergeK [] kvs) (Sum.inr r.2.1) (.ref t))) = H3 at sd ⊢
  have s3 : Same H H3 := by
    rw [← hH3]; exact same_mut (s1.trans s2) hp0
  clear hH3
  have hx3 := s3 _ _ hx
  refine ⟨_, rfl, x, CL K, dx, _, _, rfl, hx3, T.cl_Layout, T.na_Layout_kinds, lF3_kinds, _, rfl, fun y dy hy hdy ney => ?_⟩
  have s4 := made_x (C := CL K) hy hdy
  exact ⟨y, dy, xk, p, rs, rmakers rs, _, rfl, upd_same, (hK.same s3).same s4, val, SpecD.same s4 sd, fun m => Iff.rfl, chgS_ok val so hr' hn hz lz, fun H5 b5 hL5 => ⟨rfl, q y H5 (fun b o e => b5 _ _ (ne_of_none (s3 _ _ e) hy) (s4 _ _ (s3 _ _ e))) (none_same s3 hy) hL5⟩⟩
def spOpL (K : PySem.W.Frag) (f : Str → Str) : Sp := fun vs H Q _ => ∃ (x xk : Addr) (rs : List Row) (S : Str → List Str) (r : Row) (n : Str), vs = [.ref x, .str (markT r.2.1 n)] ∧ LayAt K H x xk rs S ∧ KindsF K H xk rs ∧ ValidT rs ∧ SpecsOk rs S ∧ r ∈ rs ∧ n ∈ treeNames r ∧
  ∀ y H', Same H H' → H y = none → LayAt K H' y xk rs (chgS S r.2.1 n (f n)) → Q (.ref y) H'
def spIopL (K : PySem.W.Frag) (f : Str → Str) : Sp := fun vs H Q _ => ∃ (x xk : Addr) (rs : List Row) (S : Str → List Str) (r : Row) (n : Str), vs = [.ref x, .str (markT r.2.1 n)] ∧ LayAt K H x xk rs S ∧ KindsF K H xk rs ∧ ValidT rs ∧ SpecsOk rs S ∧ r ∈ rs ∧ n ∈ treeNames r ∧
  ∀ H', But x H H' → LayAt K H' x xk rs (chgS S r.2.1 n (f n)) → Q (.ref x) H'
def spOpX (K : PySem.W.Frag) : Sp := fun vs H Q E => ∃ (x xk : Addr) (rs : List Row) (S : Str → List Str) (z : Str), vs = [.ref x, .str z] ∧ LayAt K H x xk rs S ∧ KindsF K H xk rs ∧ ValidT rs ∧ NoMark rs z ∧ z.length ≤ 100000 ∧ Tame z ∧ RaisesNT K H z E
theorem plus_add {n : Str} (h : n.length ≤ 24) : ("+" : Str).length + n.length ≤ sizeLine := Nat.le_trans (show ("+" : Str).length + n.length ≤ 100 by have : ("+" : Str).length = 1 := rfl; omega) (by decide)
theorem plus_len {n : Str} (h : n.length ≤ 24) : (plus ++ n).length ≤ 100000 := by
  rw [Str.length_append, show plus.length = 1 by decide +kernel]; omega
theorem ok_ladd (T : Tx K mg) (F : FnP K ("Layout", some "__add__") "__add__" "Layout.__add__" s_Layout_add fd) : FnOk P w K mg base CX0 8 (He.fAd K ("Layout", some "__add__")) fd p_Layout_add (spOpL K (plus ++ ·)) := by
  refine F.ok (k := 7) sc_Layout_add (fun vs H Q E h => ?_) (fun cdv A outer s H vs Q E hr h => ?_)
  · obtain ⟨_, _, _, _, _, _, rfl, _⟩ := h; rfl
  obtain ⟨x, xk, rs, S, r, n, rfl, hL, hK, val, so, hr', hn, q⟩ := h
  obtain ⟨dx, tp, ps, hx, hpl, al⟩ := id hL
  have ln := nm_len (tree_name val hr' hn)
  obtain ⟨f1, F1⟩ := T.F_split_mark
  obtain ⟨f2, F2⟩ := T.F_Layout_changed
  obtain ⟨t_PLUS, m_PLUS⟩ := T.c_PLUS
  have nd := sc_Layout_add.nd
  refine ⟨_, PSs.nox (pss_cons (ps_asg (pe_call (ok_split T F1) (hr.mono (by omega)) (by rfl) T.g_split_mark T.k_split_mark (b_split_mark F1) .nil pass0 (pa_cons (pe_fld (pv 0) rfl) (pa_cons (pv 1) pa_nil))) (pg_tup rfl (pgs_cons (pg_name (i := 2) nd rfl (Or.inl rfl)) (pgs_cons (pg_name (i := 3) nd rfl (Or.inl rfl)) pgs_nil))))
    (pss_one (ps_ret (pe_meth (pv 0) T.cl_Layout T.m_Layout_changed (ok_changedL T F2) (hr.mono (by omega)) (b_Layout_changed F2) .nil pass0 (pa_cons (pv 2) (pa_cons (pv 3) (pa_cons (pe_op op_add_str (pe_glob (v := .str "+") (by rfl) m_PLUS ⟨_, rfl⟩) (pv 3)) pa_nil))))))), ?_⟩
  refine ⟨_, rfl, x, CL K, dx, _, _, rfl, hx, T.cl_Layout, T.na_Layout_kinds, lF3_kinds, _, rfl, xk, rs, r, n, rfl, hK, val, hr', hn, fun t H1 s1 ht => ?_⟩
  refine ⟨t, _, rfl, SqT.of ht, rfl, _, _, rfl, _, _, rfl, rfl, ?_⟩
  exact ⟨_, rfl, x, dx, _, rfl, s1 _ _ hx, lF3_none (by decide +kernel), _, rfl, _, rfl, _, rfl, _, _, rfl, rfl, plus_add ln, x, xk, rs, S, r, n, _, rfl, hL.same s1, hK.same s1, val, so, hr', hn, (partOf_plus n).1, plus_len ln, fun y H2 s2 ny hy => q y H2 (s1.trans s2) (none_same s1 ny) hy⟩
theorem ok_lsub (T : Tx K mg) (F : FnP K ("Layout", some "__sub__") "__sub__" "Layout.__sub__" s_Layout_sub fd) : FnOk P w K mg base CX0 8 (He.fAd K ("Layout", some "__sub__")) fd p_Layout_sub (spOpL K id) := by
  refine F.ok (k := 7) sc_Layout_sub (fun vs H Q E h => ?_) (fun cdv A outer s H vs Q E hr h => ?_)
  · obtain ⟨_, _, _, _, _, _, rfl, _⟩ := h; rfl
  obtain ⟨x, xk, rs, S, r, n, rfl, hL, hK, val, so, hr', hn, q⟩ := h
  obtain ⟨dx, tp, ps, hx, hpl, al⟩ := id hL
  have ln := nm_len (tree_name val hr' hn)
  obtain ⟨f1, F1⟩ := T.F_split_mark
  obtain ⟨f2, F2⟩ := T.F_Layout_changed
  have nd := sc_Layout_sub.nd
  refine ⟨_, PSs.nox (pss_cons (ps_asg (pe_call (ok_split T F1) (hr.mono (by omega)) (by rfl) T.g_split_mark T.k_split_mark (b_split_mark F1) .nil pass0 (pa_cons (pe_fld (pv 0) rfl) (pa_cons (pv 1) pa_nil))) (pg_tup rfl (pgs_cons (pg_name (i := 2) nd rfl (Or.inl rfl)) (pgs_cons (pg_name (i := 3) nd rfl (Or.inl rfl)) pgs_nil))))
    (pss_one (ps_ret (pe_meth (pv 0) T.cl_Layout T.m_Layout_changed (ok_changedL T F2) (hr.mono (by omega)) (b_Layout_changed F2) .nil pass0 (pa_cons (pv 2) (pa_cons (pv 3) (pa_cons (pv 3) pa_nil))))))), ?_⟩
  refine ⟨_, rfl, x, CL K, dx, _, _, rfl, hx, T.cl_Layout, T.na_Layout_kinds, lF3_kinds, _, rfl, xk, rs, r, n, rfl, hK, val, hr', hn, fun t H1 s1 ht => ?_⟩
  refine ⟨t, _, rfl, SqT.of ht, rfl, _, _, rfl, _, _, rfl, rfl, ?_⟩
  exact ⟨_, rfl, x, dx, _, rfl, s1 _ _ hx, lF3_none (by decide +kernel), _, rfl, _, rfl, _, rfl, x, xk, rs, S, r, n, _, rfl, hL.same s1, hK.same s1, val, so, hr', hn, partOf_name (tree_name val hr' hn), Nat.le_trans ln (by decide), fun y H2 s2 ny hy => q y H2 (s1.trans s2) (none_same s1 ny) hy⟩
theorem ok_liadd (T : Tx K mg) (F : FnP K ("Layout", some "__iadd__") "__iadd__" "Layout.__iadd__" s_Layout_iadd fd) : FnOk P w K mg base CX0 7 (He.fAd K ("Layout", some "__iadd__")) fd p_Layout_iadd (spIopL K (plus ++ ·)) := by
  refine F.ok (k := 6) sc_Layout_iadd (fun vs H Q E h => ?_) (fun cdv A outer s H vs Q E hr h => ?_)
  · obtain ⟨_, _, _, _, _, _, rfl, _⟩ := h; rfl
  obtain ⟨x, xk, rs, S, r, n, rfl, hL, hK, val, so, hr', hn, q⟩ := h
  obtain ⟨dx, tp, ps, hx, hpl, al⟩ := id hL
  have ln := nm_len (tree_name val hr' hn)
  obtain ⟨f1, F1⟩ := T.F_split_mark
  obtain ⟨f2, F2⟩ := T.F_spec_with
  obtain ⟨f3, F3⟩ := T.F_Layout_getitem
  obtain ⟨f4, F4⟩ := T.F_Layout_setitem
  obtain ⟨t_PLUS, m_PLUS⟩ := T.c_PLUS
  have nd := sc_Layout_iadd.nd
  refine ⟨_, PSs.nox (pss_cons (ps_asg (pe_call (ok_split T F1) (hr.mono (by omega)) (by rfl) T.g_split_mark T.k_split_mark (b_split_mark F1) .nil pass0 (pa_cons (pe_fld (pv 0) rfl) (pa_cons (pv 1) pa_nil))) (pg_tup rfl (pgs_cons (pg_name (i := 2) nd rfl (Or.inl rfl)) (pgs_cons (pg_name (i := 3) nd rfl (Or.inl rfl)) pgs_nil))))
    (pss_cons (ps_asg (pe_call (ok_spec_with T F2) (hr.mono (by omega)) (by rfl) T.g_spec_with T.k_spec_with (b_spec_with F2) .nil pass0 (pa_cons (pe_ixOwn (ok_layg T F3) (hr.mono (by omega)) T.m_Layout_getitem (fnIn_of F3) (b_Layout_getitem F3) pass0 (pv 0) (pv 2) (fun _ _ => rfl)) (pa_cons (pv 3) (pa_cons (pe_op op_add_str (pe_glob (v := .str "+") (by rfl) m_PLUS ⟨_, rfl⟩) (pv 3)) pa_nil)))) (pg_subOwn (E := fun _ => E0) (ok_seti (CX := CX0) T F4) (hr.mono (by omega)) T.m_Layout_setitem T.ns_Layout (b_Layout_setitem F4) passAt0 (pv 0) (pv 2)))
    (pss_one (ps_ret (pv 0))))), ?_⟩
  refine ⟨_, rfl, x, CL K, dx, _, _, rfl, hx, T.cl_Layout, T.na_Layout_kinds, lF3_kinds, _, rfl, xk, rs, r, n, rfl, hK, val, hr', hn, fun t H1 s1 ht => ?_⟩
  refine ⟨t, _, rfl, SqT.of ht, rfl, _, _, rfl, _, _, rfl, rfl, ?_⟩
  refine ⟨_, rfl, _, rfl, x, dx, _, rfl, s1 _ _ hx, x, xk, rs, S, r, rfl, hL.same s1, hK.same s1, val, hr', fun c H2 s2 hc => ?_⟩
  refine ⟨_, rfl, _, rfl, _, _, rfl, rfl, plus_add ln, c, S r.2.1, n, _, rfl, hc, few_of val so hr', so.short r hr', fun t2 H3 s3 ht2 => ?_⟩
  have s13 := s1.trans (s2.trans s3)
  refine ⟨_, rfl, _, rfl, x, dx, _, rfl, s13 _ _ hx, x, t2, xk, rs, S, r, _, rfl, hL.same s13, hK.same s13, val, hr', so, ht2.rd, putSlot_len (so.short r hr') (plus_len ln), putSlot_ok val hr' (so.ok r hr') hn (partOf_plus n).1, fun H4 b4 hL4 => ?_⟩
  exact ⟨_, rfl, q H4 (fun b o e nb => b4 _ _ e (s13 _ _ nb)) hL4⟩
theorem ok_lisub (T : Tx K mg) (F : FnP K ("Layout", some "__isub__") "__isub__" "Layout.__isub__" s_Layout_isub fd) : FnOk P w K mg base CX0 7 (He.fAd K ("Layout", some "__isub__")) fd p_Layout_isub (spIopL K id) := by
  refine F.ok (k := 6) sc_Layout_isub (fun vs H Q E h => ?_) (fun cdv A outer s H vs Q E hr h => ?_)
  · obtain ⟨_, _, _, _, _, _, rfl, _⟩ := h; rfl
  obtain ⟨x, xk, rs, S, r, n, rfl, hL, hK, val, so, hr', hn, q⟩ := h
  obtain ⟨dx, tp, ps, hx, hpl, al⟩ := id hL
  have nn := tree_name val hr' hn
  have ln := nm_len nn
  obtain ⟨f1, F1⟩ := T.F_split_mark
  obtain ⟨f2, F2⟩ := T.F_spec_with
  obtain ⟨f3, F3⟩ := T.F_Layout_getitem
  obtain ⟨f4, F4⟩ := T.F_Layout_setitem
  have nd := sc_Layout_isub.nd
  refine ⟨_, PSs.nox (pss_cons (ps_asg (pe_call (ok_split T F1) (hr.mono (by omega)) (by rfl) T.g_split_mark T.k_split_mark (b_split_mark F1) .nil pass0 (pa_cons (pe_fld (pv 0) rfl) (pa_cons (pv 1) pa_nil))) (pg_tup rfl (pgs_cons (pg_name (i := 2) nd rfl (Or.inl rfl)) (pgs_cons (pg_name (i := 3) nd rfl (Or.inl rfl)) pgs_nil))))
    (pss_cons (ps_asg (pe_call (ok_spec_with T F2) (hr.mono (by omega)) (by rfl) T.g_spec_with T.k_spec_with (b_spec_with F2) .nil pass0 (pa_cons (pe_ixOwn (ok_layg T F3) (hr.mono (by omega)) T.m_Layout_getitem (fnIn_of F3) (b_Layout_getitem F3) pass0 (pv 0) (pv 2) (fun _ _ => rfl)) (pa_cons (pv 3) (pa_cons (pv 3) pa_nil)))) (pg_subOwn (E := fun _ => E0) (ok_seti (CX := CX0) T F4) (hr.mono (by omega)) T.m_Layout_setitem T.ns_Layout (b_Layout_setitem F4) passAt0 (pv 0) (pv 2)))
    (pss_one (ps_ret (pv 0))))), ?_⟩
  refine ⟨_, rfl, x, CL K, dx, _, _, rfl, hx, T.cl_Layout, T.na_Layout_kinds, lF3_kinds, _, rfl, xk, rs, r, n, rfl, hK, val, hr', hn, fun t H1 s1 ht => ?_⟩
  refine ⟨t, _, rfl, SqT.of ht, rfl, _, _, rfl, _, _, rfl, rfl, ?_⟩
  refine ⟨_, rfl, _, rfl, x, dx, _, rfl, s1 _ _ hx, x, xk, rs, S, r, rfl, hL.same s1, hK.same s1, val, hr', fun c H2 s2 hc => ?_⟩
  refine ⟨_, rfl, _, rfl, c, S r.2.1, n, _, rfl, hc, few_of val so hr', so.short r hr', fun t2 H3 s3 ht2 => ?_⟩
  have s13 := s1.trans (s2.trans s3)
  refine ⟨_, rfl, _, rfl, x, dx, _, rfl, s13 _ _ hx, x, t2, xk, rs, S, r, _, rfl, hL.same s13, hK.same s13, val, hr', so, ht2.rd, putSlot_len (so.short r hr') (Nat.le_trans ln (by decide)), putSlot_ok val hr' (so.ok r hr') hn (partOf_name nn), fun H4 b4 hL4 => ?_⟩
  exact ⟨_, rfl, q H4 (fun b o e nb => b4 _ _ e (s13 _ _ nb)) hL4⟩
/-- the marks in which two layouts differ -/
def xorM (rs : List Row) (S S2 : Str → List Str) : List Str := (allMarks rs).filter fun z => !decide (decide (z ∈ marksIn rs S) = decide (z ∈ marksIn rs S2))
def spXorL (K : PySem.W.Frag) : Sp := fun vs H Q _ => ∃ (x y xk xk2 : Addr) (rs : List Row) (S S2 : Str → List Str), vs = [.ref x, .ref y] ∧ LayAt K H x xk rs S ∧ LayAt K H y xk2 rs S2 ∧ KindsF K H xk rs ∧ ValidT rs ∧ SpecsOk rs S ∧ SpecsOk rs S2 ∧
  ∀ l H', Same H H' → H l = none → H' l = some (.lst ((xorM rs S S2).map V.str)) → Q (.ref l) H'
theorem marks_few {rs : List Row} (val : ValidT rs) : (allMarks rs).length ≤ 4 * rs.length := flat_len _ 4 _ fun r hr' => by
  rw [List.length_map]; unfold treeNames; rw [List.length_map]
  exact Nat.le_trans (List.length_filter_le ..) (val.four r hr')
theorem ok_lxor (T : Tx K mg) (F : FnP K ("Layout", some "__xor__") "__xor__" "Layout.__xor__" s_Layout_xor fd) : FnOk P w K mg base CX0 6 (He.fAd K ("Layout", some "__xor__")) fd p_Layout_xor (spXorL K) := by
  refine F.ok (k := 5) sc_Layout_xor (fun vs H Q E h => ?_) (fun cdv A outer s H vs Q E hr h => ?_)
  · obtain ⟨_, _, _, _, _, _, _, rfl, _⟩ := h; rfl
  obtain ⟨x, y, xk, xk2, rs, S, S2, rfl, hL, hL2, hK, val, so, so2, q⟩ := h
  obtain ⟨dx, tp, hx⟩ := hL.ins
  obtain ⟨dy, tp2, hy⟩ := hL2.ins
  have sh := val.short.1
  have mf := marks_few val
  obtain ⟨f1, F1⟩ := T.F_all_marks
  obtain ⟨f2, F2⟩ := T.F_Layout_contains
  have nd := sc_Layout_xor.nd
  refine ⟨_, PSs.nox (pss_one (ps_ret (pe_lc (own := [("mark", 2)]) (g := gName 2) rfl nd (pi_list (pe_call (ok_all_marks T F1) (hr.mono (by omega)) (by rfl) T.g_all_marks T.k_all_marks (b_all_marks F1) .nil pass0 (pa_cons (pe_fld (pv 0) rfl) pa_nil))) (blkOk_by (N := ["self", "other", "mark"]) (sc := defScope s_Layout_xor) (by decide +kernel)) (fun _ _ _ _ _ => (pg_name (i := 2) nd rfl (Or.inl rfl))) (fun _ _ _ _ _ => pts_one (pt_cmpR op_ne (pe_cmpR (op_inOwn (sp := (spLCont K)) (E := E0) (ok_lcont T F2) (hr.mono (by omega)) T.m_Layout_contains (b_Layout_contains F2) pass0) (pv 2) (pv 0) (by rfl)) (pe_cmpR (op_inOwn (sp := (spLCont K)) (E := E0) (ok_lcont T F2) (hr.mono (by omega)) T.m_Layout_contains (b_Layout_contains F2) pass0) (pv 2) (pv 1) (by rfl)) (nomark _))) (fun _ _ _ _ _ => (pv 2))))), ?_⟩
  refine ⟨_, rfl, x, CL K, dx, _, _, rfl, hx, T.cl_Layout, T.na_Layout_kinds, lF3_kinds, xk, rs, rfl, hK, val, fun l H1 s1 nl hl => ⟨l, rfl, ⟨_, SqL.of hl⟩, fun D hD => lc_it (walk_list (K := K) (a := l) (xs := (allMarks rs).map V.str)) (fun i H2 => Same H1 H2 ∧ H2 D = some (.lst ((((allMarks rs).take i).filter fun z => !decide (decide (z ∈ marksIn rs S) = decide (z ∈ marksIn rs S2))).map V.str))) ⟨same_new hD, upd_same⟩ (fun i H2 _ z => SqL.of (z.1 _ _ hl)) ?_ ?_⟩⟩
  · rintro i z H2 H3 hi ⟨s2, hacc⟩ ⟨rfl, hz⟩
    rw [List.getElem?_map, Option.map_eq_some_iff] at hz
    obtain ⟨m, hm, rfl⟩ := hz
    have ls : (((allMarks rs).take i).filter fun z => !decide (decide (z ∈ marksIn rs S) = decide (z ∈ marksIn rs S2))).length ≤ 4 * rs.length := Nat.le_trans (List.length_filter_le ..) (by rw [List.length_take]; omega)
    have s02 := s1.trans s2
    refine ⟨rfl, _, rfl, _, rfl, x, dx, _, rfl, s02 _ _ hx, x, xk, rs, S, m, rfl, hL.same s02, val, so, fun H4 s4 => ⟨_, rfl, _, rfl, _, rfl, y, dy, _, rfl, s4 _ _ (s02 _ _ hy), y, xk2, rs, S2, m, rfl, (hL2.same s02).same s4, val, so2, fun H5 s5 => ⟨_, rfl, rfl, _, rfl, ?_⟩⟩⟩
    have s25 := s2.trans (s4.trans s5)
    have ha5 := (s4.trans s5) _ _ hacc
    have e : (!decide (V.bl (decide (m ∈ marksIn rs S)) = V.bl (decide (m ∈ marksIn rs S2)))) = !decide (decide (m ∈ marksIn rs S) = decide (m ∈ marksIn rs S2)) := by
      congr 1
      exact decide_eq_decide.mpr ⟨fun h => V.bl.inj h, fun h => by rw [h]⟩
    show if (!decide (V.bl (decide (m ∈ marksIn rs S)) = V.bl (decide (m ∈ marksIn rs S2)))) = true then _ else _
    rw [e]
    cases hd : (!decide (decide (m ∈ marksIn rs S) = decide (m ∈ marksIn rs S2))) with
    | false =>
      rw [if_neg Bool.false_ne_true]
      refine ⟨s25, ?_⟩
      rw [take_filt hm, hd, ha5]; simp
    | true =>
      rw [if_pos rfl]
      refine ⟨_, rfl, _, ha5, by rw [List.length_map, sizeLine_eq]; omega, same_mut s25 hD, ?_⟩
      rw [upd_same, take_filt hm, hd, if_pos rfl, List.map_append]; rfl
  rintro H2 ⟨s2, hacc⟩
  rw [List.length_map, List.take_length] at hacc
  exact q D H2 (s1.trans s2) (none_same s1 hD) hacc
/-! ### a text that is no mark -/
theorem okx_ladd (T : Tx K mg) (F : FnP K ("Layout", some "__add__") "__add__" "Layout.__add__" s_Layout_add fd) : FnOk P w K mg base (L2.CX P w) 8 (He.fAd K ("Layout", some "__add__")) fd p_Layout_add (spOpX K) := by
  refine F.ok (k := 7) sc_Layout_add (fun vs H Q E h => ?_) (fun cdv A outer s H vs Q E hr h => ?_)
  · obtain ⟨_, _, _, _, _, rfl, _⟩ := h; rfl
  obtain ⟨x, xk, rs, S, z, rfl, hL, hK, val, no, lz, tz, q⟩ := h
  obtain ⟨dx, tp, hx⟩ := hL.ins
  obtain ⟨f0, F0⟩ := T.F_split_mark
  have spx := okx_split (P := P) (w := w) (base := base) T F0
  obtain ⟨f1, F1⟩ := T.F_Layout_changed
  obtain ⟨t_PLUS, m_PLUS⟩ := T.c_PLUS
  have nd := sc_Layout_add.nd
  refine ⟨_, (pss_cons (ps_asg (pe_call spx (hr.mono (by omega)) (by rfl) T.g_split_mark T.k_split_mark (b_split_mark F0) .nil (passX (takes_of rfl rfl rfl rfl)) (pa_cons (pe_fld (pv 0) rfl) (pa_cons (pv 1) pa_nil))) (pg_tup rfl (pgs_cons (pg_name (i := 2) nd rfl (Or.inl rfl)) (pgs_cons (pg_name (i := 3) nd rfl (Or.inl rfl)) pgs_nil))))
    pss_never), ?_⟩
  exact ⟨_, rfl, x, CL K, dx, _, _, rfl, hx, T.cl_Layout, T.na_Layout_kinds, lF3_kinds, _, rfl, xk, rs, z, rfl, hK, val, no, lz, tz, q⟩
theorem okx_lsub (T : Tx K mg) (F : FnP K ("Layout", some "__sub__") "__sub__" "Layout.__sub__" s_Layout_sub fd) : FnOk P w K mg base (L2.CX P w) 8 (He.fAd K ("Layout", some "__sub__")) fd p_Layout_sub (spOpX K) := by
  refine F.ok (k := 7) sc_Layout_sub (fun vs H Q E h => ?_) (fun cdv A outer s H vs Q E hr h => ?_)
  · obtain ⟨_, _, _, _, _, rfl, _⟩ := h; rfl
  obtain ⟨x, xk, rs, S, z, rfl, hL, hK, val, no, lz, tz, q⟩ := h
  obtain ⟨dx, tp, hx⟩ := hL.ins
  obtain ⟨f0, F0⟩ := T.F_split_mark
  have spx := okx_split (P := P) (w := w) (base := base) T F0
  obtain ⟨f1, F1⟩ := T.F_Layout_changed
  have nd := sc_Layout_sub.nd
  refine ⟨_, (pss_cons (ps_asg (pe_call spx (hr.mono (by omega)) (by rfl) T.g_split_mark T.k_split_mark (b_split_mark F0) .nil (passX (takes_of rfl rfl rfl rfl)) (pa_cons (pe_fld (pv 0) rfl) (pa_cons (pv 1) pa_nil))) (pg_tup rfl (pgs_cons (pg_name (i := 2) nd rfl (Or.inl rfl)) (pgs_cons (pg_name (i := 3) nd rfl (Or.inl rfl)) pgs_nil))))
    pss_never), ?_⟩
  exact ⟨_, rfl, x, CL K, dx, _, _, rfl, hx, T.cl_Layout, T.na_Layout_kinds, lF3_kinds, _, rfl, xk, rs, z, rfl, hK, val, no, lz, tz, q⟩
theorem okx_liadd (T : Tx K mg) (F : FnP K ("Layout", some "__iadd__") "__iadd__" "Layout.__iadd__" s_Layout_iadd fd) : FnOk P w K mg base (L2.CX P w) 7 (He.fAd K ("Layout", some "__iadd__")) fd p_Layout_iadd (spOpX K) := by
  refine F.ok (k := 6) sc_Layout_iadd (fun vs H Q E h => ?_) (fun cdv A outer s H vs Q E hr h => ?_)
  · obtain ⟨_, _, _, _, _, rfl, _⟩ := h; rfl
  obtain ⟨x, xk, rs, S, z, rfl, hL, hK, val, no, lz, tz, q⟩ := h
  obtain ⟨dx, tp, hx⟩ := hL.ins
  obtain ⟨f0, F0⟩ := T.F_split_mark
  have spx := okx_split (P := P) (w := w) (base := base) T F0
  obtain ⟨f1, F1⟩ := T.F_spec_with
  obtain ⟨f2, F2⟩ := T.F_Layout_getitem
  obtain ⟨f3, F3⟩ := T.F_Layout_setitem
  obtain ⟨t_PLUS, m_PLUS⟩ := T.c_PLUS
  have nd := sc_Layout_iadd.nd
  refine ⟨_, (pss_cons (ps_asg (pe_call spx (hr.mono (by omega)) (by rfl) T.g_split_mark T.k_split_mark (b_split_mark F0) .nil (passX (takes_of rfl rfl rfl rfl)) (pa_cons (pe_fld (pv 0) rfl) (pa_cons (pv 1) pa_nil))) (pg_tup rfl (pgs_cons (pg_name (i := 2) nd rfl (Or.inl rfl)) (pgs_cons (pg_name (i := 3) nd rfl (Or.inl rfl)) pgs_nil))))
    pss_never), ?_⟩
  exact ⟨_, rfl, x, CL K, dx, _, _, rfl, hx, T.cl_Layout, T.na_Layout_kinds, lF3_kinds, _, rfl, xk, rs, z, rfl, hK, val, no, lz, tz, q⟩
theorem okx_lisub (T : Tx K mg) (F : FnP K ("Layout", some "__isub__") "__isub__" "Layout.__isub__" s_Layout_isub fd) : FnOk P w K mg base (L2.CX P w) 7 (He.fAd K ("Layout", some "__isub__")) fd p_Layout_isub (spOpX K) := by
  refine F.ok (k := 6) sc_Layout_isub (fun vs H Q E h => ?_) (fun cdv A outer s H vs Q E hr h => ?_)
  · obtain ⟨_, _, _, _, _, rfl, _⟩ := h; rfl
  obtain ⟨x, xk, rs, S, z, rfl, hL, hK, val, no, lz, tz, q⟩ := h
  obtain ⟨dx, tp, hx⟩ := hL.ins
  obtain ⟨f0, F0⟩ := T.F_split_mark
  have spx := okx_split (P := P) (w := w) (base := base) T F0
  obtain ⟨f1, F1⟩ := T.F_spec_with
  obtain ⟨f2, F2⟩ := T.F_Layout_getitem
  obtain ⟨f3, F3⟩ := T.F_Layout_setitem
  have nd := sc_Layout_isub.nd
  refine ⟨_, (pss_cons (ps_asg (pe_call spx (hr.mono (by omega)) (by rfl) T.g_split_mark T.k_split_mark (b_split_mark F0) .nil (passX (takes_of rfl rfl rfl rfl)) (pa_cons (pe_fld (pv 0) rfl) (pa_cons (pv 1) pa_nil))) (pg_tup rfl (pgs_cons (pg_name (i := 2) nd rfl (Or.inl rfl)) (pgs_cons (pg_name (i := 3) nd rfl (Or.inl rfl)) pgs_nil))))
    pss_never), ?_⟩
  exact ⟨_, rfl, x, CL K, dx, _, _, rfl, hx, T.cl_Layout, T.na_Layout_kinds, lF3_kinds, _, rfl, xk, rs, z, rfl, hK, val, no, lz, tz, q⟩
end
end Bg
set_option Elab.async false
set_option linter.all false
set_option maxRecDepth 100000
set_option maxHeartbeats 2000000
/-! marks: which ones a layout holds after a change -/
namespace Bg
open PySem PySem.Spec PyProof.Rows L2
/-! ### texts that an error may name -/
def Low (x : Str) : Prop := ∀ c ∈ x.cps.toList, c < 128
theorem Low.app {x y : Str} (hx : Low x) (hy : Low y) : Low (x ++ y) := fun c hc => by
  rw [Str.cps_append, Array.toList_append, List.mem_append] at hc
  exact hc.elim (hx c) (hy c)
theorem low_nm {x : Str} (h : nameB x = true) : Low x := fun c hc => by
  unfold nameB at h
  simp only [Bool.and_eq_true] at h
  have h2 := h.2.2.1
  unfold Txt.isascii at h2
  rw [← Array.all_toList, List.all_eq_true] at h2
  exact of_decide_eq_true (h2 c hc)
theorem tame_low {x : Str} (h : Low x) (l : x.length ≤ 99) : Tame x := by
  unfold Tame
  have := PySem.StrLaws.reprText_len x fun c hc => Nat.lt_of_lt_of_le (h c hc) (by decide)
  omega
/-! ### which marks -/
section
variable {rs : List Row} {S S2 : Str → List Str}
theorem mem_put {sl : List Str} {n n2 x : Str} (hx : partOf x = n) (ne : n2 ≠ n) : plus ++ n2 ∈ putSlot sl n x ↔ plus ++ n2 ∈ sl := by
  unfold putSlot
  rw [List.mem_map]
  refine ⟨fun ⟨o, ho, e⟩ => ?_, fun h => ⟨_, h, if_neg fun e => ne ?_⟩⟩
  · by_cases c : partOf o = n
    · rw [if_pos c] at e
      rw [e, (show partOf (plus ++ n2) = n2 from (partOf_plus n2).1)] at hx
      exact absurd hx ne
    · rw [if_neg c] at e; rw [← e]; exact ho
  · rw [(show partOf (plus ++ n2) = n2 from (partOf_plus n2).1)] at e; exact e
theorem put_plus {r : Row} {sl : List Str} (h : isSpecB r sl = true) {n : Str} (hn : n ∈ treeNames r) : plus ++ n ∈ putSlot sl n (plus ++ n) := by
  obtain ⟨_, i2, _⟩ := isSpecB_inv h
  obtain ⟨p, hp, e⟩ := List.mem_map.mp hn
  have := i2 p (List.mem_filter.mp hp).1
  obtain ⟨s, hs, es⟩ := List.mem_map.mp this
  unfold putSlot
  exact List.mem_map.mpr ⟨s, hs, if_pos (by rw [es, e])⟩
theorem put_plain {sl : List Str} {n : Str} (hn : nameB n = true) : plus ++ n ∉ putSlot sl n n := fun h => by
  unfold putSlot at h
  obtain ⟨o, ho, e⟩ := List.mem_map.mp h
  by_cases c : partOf o = n
  · rw [if_pos c] at e
    have h1 : 43 ∈ (plus ++ n).cps.toList := by rw [Str.cps_append, Array.toList_append]; exact List.mem_append_left _ (by decide +kernel)
    rw [← e] at h1
    exact nm_plain hn h1
  · rw [if_neg c] at e
    rw [e, (show partOf (plus ++ n) = n from (partOf_plus n).1)] at c
    exact c rfl
theorem chgS_at {m n x : Str} : chgS S m n x m = putSlot (S m) n x := by unfold chgS putS; rw [if_pos rfl]; rfl
theorem chgS_ne {m n x m2 : Str} (h : m2 ≠ m) : chgS S m n x m2 = S m2 := by unfold chgS putS; rw [if_neg h]
theorem mem_all {z : Str} : z ∈ allMarks rs ↔ ∃ r ∈ rs, ∃ n ∈ treeNames r, markT r.2.1 n = z := by
  unfold allMarks
  rw [List.mem_flatMap]
  exact ⟨fun ⟨r, hr, h⟩ => ⟨r, hr, List.mem_map.mp h⟩, fun ⟨r, hr, h⟩ => ⟨r, hr, List.mem_map.mpr h⟩⟩
theorem chg_other (val : ValidT rs) (so : SpecsOk rs S) {r : Row} (hr : r ∈ rs) {n x : Str} (hn : n ∈ treeNames r) (hx : partOf x = n) (lx : x.length ≤ 100000) {z : Str} (hz : z ∈ allMarks rs) (ne : z ≠ markT r.2.1 n) :
    z ∈ marksIn rs (chgS S r.2.1 n x) ↔ z ∈ marksIn rs S := by
  obtain ⟨r2, hr2, n2, hn2, rfl⟩ := mem_all.mp hz
  rw [mem_marks val (chgS_ok val so hr hn hx lx) hr2, mem_marks val so hr2]
  by_cases e : r2.2.1 = r.2.1
  · rw [e, chgS_at]
    exact mem_put hx fun e2 => ne (by rw [e, e2])
  · rw [chgS_ne e]
theorem nodup_tree (val : ValidT rs) {r : Row} (hr : r ∈ rs) : (treeNames r).Nodup := by
  unfold treeNames
  exact (val.ndp hr).sublist (List.filter_sublist.map _)
theorem nodup_marks (val : ValidT rs) : (allMarks rs).Nodup := by
  unfold allMarks
  refine List.pairwise_flatMap.mpr ⟨fun r hr => ?_, ?_⟩
  · refine List.pairwise_map.mpr ((nodup_tree val hr).imp fun {a b} h e => h (mark_inj (mk_nodot val hr) (mk_nodot val hr) e).2)
  · have nd := val.nd
    unfold rmakers at nd
    refine (List.pairwise_map.mp nd).imp_of_mem fun {a b} ha hb h x hx y hy e => ?_
    obtain ⟨n1, _, rfl⟩ := List.mem_map.mp hx
    obtain ⟨n2, _, rfl⟩ := List.mem_map.mp hy
    exact h (mark_inj (mk_nodot val ha) (mk_nodot val hb) e).1
theorem filter_one {α : Type} [DecidableEq α] {f : α → Bool} {a : α} : ∀ {l : List α}, l.Nodup → a ∈ l → (∀ z ∈ l, z ≠ a → f z = false) → l.filter f = if f a = true then [a] else []
  | b :: l, nd, ha, hf => by
    obtain ⟨h1, h2⟩ := List.nodup_cons.mp nd
    by_cases e : b = a
    · subst e
      have : l.filter f = [] := List.filter_eq_nil_iff.mpr fun z hz => by rw [hf z (List.mem_cons_of_mem _ hz) fun e => h1 (e ▸ hz)]; exact Bool.false_ne_true
      rw [List.filter_cons, this]
    · have h3 : a ∈ l := (List.mem_cons.mp ha).resolve_left fun z => e z.symm
      rw [List.filter_cons, hf b (List.mem_cons_self ..) e, if_neg Bool.false_ne_true]
      exact filter_one h2 h3 fun z hz => hf z (List.mem_cons_of_mem _ hz)
/-- two layouts that differ at most in one mark -/
theorem xor_one (val : ValidT rs) (so : SpecsOk rs S) (so2 : SpecsOk rs S2) {r : Row} (hr : r ∈ rs) {n : Str} (hn : n ∈ treeNames r) (h : ∀ z ∈ allMarks rs, z ≠ markT r.2.1 n → (z ∈ marksIn rs S ↔ z ∈ marksIn rs S2)) :
    xorM rs S S2 = if (!decide (decide (plus ++ n ∈ S r.2.1) = decide (plus ++ n ∈ S2 r.2.1))) = true then [markT r.2.1 n] else [] := by
  unfold xorM
  rw [filter_one (a := markT r.2.1 n) (nodup_marks val) (mem_all.mpr ⟨r, hr, n, hn, rfl⟩) fun z hz ne => ?_]
  · have e1 : decide (markT r.2.1 n ∈ marksIn rs S) = decide (plus ++ n ∈ S r.2.1) := decide_eq_decide.mpr (mem_marks val so hr)
    have e2 : decide (markT r.2.1 n ∈ marksIn rs S2) = decide (plus ++ n ∈ S2 r.2.1) := decide_eq_decide.mpr (mem_marks val so2 hr)
    rw [e1, e2]
  · have e : decide (z ∈ marksIn rs S) = decide (z ∈ marksIn rs S2) := decide_eq_decide.mpr (h z hz ne)
    rw [e]; simp
theorem xor_self : xorM rs S S = [] := by
  unfold xorM
  refine List.filter_eq_nil_iff.mpr fun z _ => ?_
  simp
theorem xor_symm : xorM rs S S2 = xorM rs S2 S := by
  unfold xorM
  refine List.filter_congr fun z _ => ?_
  congr 1
  exact decide_eq_decide.mpr ⟨Eq.symm, Eq.symm⟩
/-- the law's pairs -/
def pairsL (rs : List Row) : List (Str × Str) := rs.flatMap fun r => (treeNames r).map fun n => (r.2.1, n)
theorem marks_pairs : allMarks rs = (pairsL rs).map fun p => markT p.1 p.2 := by
  unfold allMarks pairsL
  rw [List.map_flatMap]
  congr 1
  funext r
  rw [List.map_map]; rfl
theorem mem_pairs {p : Str × Str} : p ∈ pairsL rs ↔ ∃ r ∈ rs, ∃ n ∈ treeNames r, p = (r.2.1, n) := by
  unfold pairsL
  rw [List.mem_flatMap]
  exact ⟨fun ⟨r, hr, h⟩ => by obtain ⟨n, hn, e⟩ := List.mem_map.mp h; exact ⟨r, hr, n, hn, e.symm⟩, fun ⟨r, hr, n, hn, e⟩ => ⟨r, hr, List.mem_map.mpr ⟨n, hn, e.symm⟩⟩⟩
theorem xor_pairs (val : ValidT rs) (so : SpecsOk rs S) (so2 : SpecsOk rs S2) : xorM rs S S2 = ((pairsL rs).filter fun p => !decide (decide (plus ++ p.2 ∈ S p.1) = decide (plus ++ p.2 ∈ S2 p.1))).map fun p => markT p.1 p.2 := by
  unfold xorM
  rw [marks_pairs, List.filter_map]
  congr 1
  refine List.filter_congr fun p hp => ?_
  obtain ⟨r, hr, n, hn, rfl⟩ := mem_pairs.mp hp
  show (!decide (decide (markT r.2.1 n ∈ marksIn rs S) = decide (markT r.2.1 n ∈ marksIn rs S2))) = _
  have e1 : decide (markT r.2.1 n ∈ marksIn rs S) = decide (plus ++ n ∈ S r.2.1) := decide_eq_decide.mpr (mem_marks val so hr)
  have e2 : decide (markT r.2.1 n ∈ marksIn rs S2) = decide (plus ++ n ∈ S2 r.2.1) := decide_eq_decide.mpr (mem_marks val so2 hr)
  rw [e1, e2]
/-! ### no marks -/
theorem tree_pos {r : Row} (val : ValidT rs) (hr : r ∈ rs) {n : Str} (hn : n ∈ treeNames r) : n ≠ "" := fun e => by
  have := tree_name val hr hn
  rw [e] at this
  exact absurd this (by decide +kernel)
theorem maker_pos {r : Row} (val : ValidT rs) (hr : r ∈ rs) : r.2.1 ≠ "" := fun e => by
  have := (val.each.good r hr).2.1
  rw [e] at this
  exact absurd this (by decide +kernel)
/-- a maker and a part that is no tree part of it -/
theorem noMark_part (val : ValidT rs) {r : Row} (hr : r ∈ rs) {b : Str} (h : b ∉ treeNames r) : NoMark rs (markT r.2.1 b) := fun r2 h2 e => by
  have e0 := part_mark (b := b) (mk_nodot val hr)
  rw [e0] at e ⊢
  cases row_unique val.nd hr h2 e
  exact h
theorem noMark_maker {a b : Str} (hd : 46 ∉ a.cps.toList) (h : ∀ r ∈ rs, r.2.1 ≠ a) : NoMark rs (markT a b) := fun r2 h2 e => by
  rw [part_mark hd] at e
  exact absurd e.symm (h r2 h2)
theorem noMark_nodot {a : Str} (val : ValidT rs) (hd : 46 ∉ a.cps.toList) : NoMark rs a := fun r2 h2 e hm => by
  rw [part_none hd] at hm
  exact tree_pos val h2 hm rfl
end
end Bg
set_option Elab.async false
set_option linter.all false
set_option maxRecDepth 100000
set_option maxHeartbeats 2000000
/-! readings of texts and of tuples, told or not -/
namespace Bg
open PySem PySem.Spec PyProof.Rows L2 CwR
section
variable {K : PySem.W.Frag}
theorem shaped_txt {ks : List Str} (h : ∀ k ∈ ks, PyData.strOk k = true) : SeqAt.shaped (.tuple (ks.map PyData.str)) = true := by
  have key : ∀ {ks : List Str}, (∀ k ∈ ks, PyData.strOk k = true) → PyData.canLayAll0 (ks.map PyData.str) = true ∧ PyData.depthAll (ks.map PyData.str) ≤ 2 := by
    intro ks
    induction ks with
    | nil => intro _; exact ⟨rfl, by simp [PyData.depthAll]⟩
    | cons k ks ih =>
      intro h
      obtain ⟨a, b⟩ := ih fun x hx => h x (List.mem_cons_of_mem _ hx)
      simp only [List.map_cons, PyData.canLayAll0, PyData.depthAll, PyData.canLay0, PyData.depth, h k (List.mem_cons_self ..), a]
      exact ⟨rfl, by omega⟩
  obtain ⟨a, b⟩ := key h
  unfold SeqAt.shaped
  rw [Bool.and_eq_true]
  exact ⟨by rw [PyData.canLay0]; exact a, decide_eq_true (by rw [PyData.depth]; omega)⟩
theorem dp_strs {H : Hp} : ∀ ks : List Str, DpAll K H (ks.map V.str) (ks.map PyData.str)
  | [] => .nil
  | k :: ks => .cons (.str k) (dp_strs ks)
theorem neNil_tup {H : Hp} {Q : VK} {c l : Addr} {ks : List Str} (ok : ∀ k ∈ ks, PyData.strOk k = true) (h : PlT H c (ks.map V.str)) (e : H l = some (.tup [])) (q : Q (.bl (!ks.isEmpty)) H) : rNeD K (.ref c) (.ref l) H Q := by
  refine ⟨.tuple (ks.map PyData.str), .tuple [], .tup h.sq (dp_strs _), .tup (SqT.of e) .nil, shaped_txt ok, by decide +kernel, ?_⟩
  rw [show PyData.eqv (.tuple (ks.map PyData.str)) (.tuple []) = ks.isEmpty by cases ks <;> simp [PyData.eqv, PyData.eqvAll]]
  exact q
theorem Str.append_assoc' (a b c : Str) : a ++ b ++ c = a ++ (b ++ c) := by
  have : (a ++ b ++ c).cps = (a ++ (b ++ c)).cps := by simp only [Str.cps_append, Array.append_assoc]
  cases h1 : a ++ b ++ c; cases h2 : a ++ (b ++ c); rw [h1, h2] at this; exact congrArg Str.mk this
theorem strOk_nm {x : Str} (h : nameB x = true) : PyData.strOk x = true := by
  unfold nameB at h
  simp only [Bool.and_eq_true] at h
  have h2 : x.cps.all (fun z => decide (z < 128)) = true := h.2.2.1
  unfold PyData.strOk
  rw [← Array.all_toList, List.all_eq_true] at h2 ⊢
  intro c hc
  have := of_decide_eq_true (h2 c hc)
  exact decide_eq_true (by omega)
theorem repl_plus2 {x : Str} (h : 43 ∉ x.cps.toList) (b : Bool) : Txt.replace (sText (b, x)) plus ⟨#[]⟩ = x := by
  have e := replace_strikes (sText (b, x)) 43
  have hx : x.cps.toList.filter (· != 43) = x.cps.toList := List.filter_eq_self.mpr fun a ha => by simpa using fun (q : a = 43) => h (q ▸ ha)
  have e2 : (sText (b, x)).cps.toList.filter (· != 43) = x.cps.toList := by
    unfold sText
    split
    · rw [Str.cps_append, Array.toList_append, List.filter_append, hx]; rfl
    · exact hx
  have := e.trans e2
  have c : (Txt.replace (sText (b, x)) plus ⟨#[]⟩).cps = x.cps := Array.toList_inj.mp this
  cases x; cases hz : Txt.replace (sText (b, _)) plus ⟨#[]⟩; rw [hz] at c; exact congrArg Str.mk c
theorem strOk_slot {x : Str} (h : PyData.strOk x = true) (b : Bool) : PyData.strOk (sText (b, x)) = true := by
  unfold sText
  split
  · unfold PyData.strOk at h ⊢
    rw [← Array.all_toList] at h ⊢
    rw [Str.cps_append, Array.toList_append, List.all_append, Bool.and_eq_true]
    exact ⟨by decide +kernel, h⟩
  · exact h
theorem neNil_strs {H : Hp} {Q : VK} {a l : Addr} {ks : List Str} (ok : ∀ k ∈ ks, PyData.strOk k = true) (h : H a = some (.lst (ks.map V.str))) (e : H l = some (.lst [])) (q : Q (.bl (!ks.isEmpty)) H) : rNeD K (.ref a) (.ref l) H Q :=
  ⟨.list (ks.map PyData.str), .list [], .lst (SqL.of h) (dp_strs _), .lst (SqL.of e) .nil, by have := shaped_txt ok; simpa [SeqAt.shaped, PyData.canLay0, PyData.depth] using this, by decide +kernel, by
    rw [show PyData.eqv (.list (ks.map PyData.str)) (.list []) = ks.isEmpty by cases ks <;> simp [PyData.eqv, PyData.eqvAll]]; exact q⟩
theorem eqNil_strs {H : Hp} {Q : VK} {a l : Addr} {ks : List Str} (ok : ∀ k ∈ ks, PyData.strOk k = true) (h : H a = some (.lst (ks.map V.str))) (e : H l = some (.lst [])) (q : Q (.bl ks.isEmpty) H) : rEqD K (.ref a) (.ref l) H Q :=
  ⟨.list (ks.map PyData.str), .list [], .lst (SqL.of h) (dp_strs _), .lst (SqL.of e) .nil, by have := shaped_txt ok; simpa [SeqAt.shaped, PyData.canLay0, PyData.depth] using this, by decide +kernel, by
    rw [show PyData.eqv (.list (ks.map PyData.str)) (.list []) = ks.isEmpty by cases ks <;> simp [PyData.eqv, PyData.eqvAll]]; exact q⟩
theorem slR_read {H : Hp} {Q : VK} {a : Addr} {xs : List V} {lo hi : Option Int} (h : Rd H a (.tup xs)) (q : ∀ p H', Same H H' → Rd H' p (.tup (cutV xs lo hi)) → Q (.ref p) H') : rSlA K (.ref a) lo hi H Q :=
  ⟨a, xs, rfl, .inl h, fun z => q a H (Same.refl _) (by
    have : cutV xs lo hi = xs := by unfold cutV; rw [z.1, z.2]; simp
    rw [this]; exact h), fun _ p hp => q p _ (same_new hp) (.inl upd_same)⟩
theorem slN_readR {H : Hp} {Q : VK} {a : Addr} {xs : List V} {σ : L2.St} {lo : Option Int} (h : Rd H a (.tup xs)) (q : ∀ p H', Same H H' → Rd H' p (.tup (cutV xs lo none)) → Q (.ref p) H') : tNoPart σ H (fun hi H3 => rSlA K (.ref a) lo hi H3 Q) := slR_read (hi := none) h q
theorem catR_read {H : Hp} {Q : VK} {a b : Addr} {xs ys : List V} (ha : Rd H a (.tup xs)) (hb : Rd H b (.tup ys)) (l : xs.length + ys.length ≤ 100000) (q : ∀ p H', Same H H' → Rd H' p (.tup (xs ++ ys)) → Q (.ref p) H') : rCatA K (.ref a) (.ref b) H Q :=
  ⟨a, b, xs, ys, rfl, rfl, .inl ha, .inl hb, sz_of l, fun z => q b H (Same.refl _) (by rw [z]; exact hb), fun _ z => q a H (Same.refl _) (by rw [z, List.append_nil]; exact ha), fun _ _ p hp => q p _ (same_new hp) (.inl upd_same)⟩
end
end Bg
set_option Elab.async false
set_option linter.all false
set_option maxRecDepth 100000
set_option maxHeartbeats 2000000
/-! try .. except A as x: .. except B as y: .. -/
namespace Bg
open PySem PySem.Spec PyProof.Rows L2
abbrev Clause : Type := Value × Nat × (Addr → Value → Option Addr → TS)
/-- behind a suite its name is gone -/
def offE (D : Ends) (i : Nat) : Ends := { nx := fun τ G => D.nx (τ.set i none) G, rt := D.rt, bk := fun τ G => D.bk (τ.set i none) G, ct := fun τ G => D.ct (τ.set i none) G }
def wNamed (K : PySem.W.Frag) (Wout : WX) (D : Ends) : List Clause → WX
  | [] => Wout
  | (c, i, ts) :: more => fun cls d τ G => ∃ b, PySem.W.exmOne K cls c = some b ∧ (b = true → ∀ a, G a = none → ts a cls d (offE D i) (τ.set i (some (.ref a))) G) ∧ (b = false → wNamed K Wout D more cls d τ G)
inductive Named (X : Cx) : List ExceptHandler → List Clause → Prop
  | nil : Named X [] []
  | cons {x n : Str} {c : Value} {i : Nat} {ts : Addr → Value → Option Addr → TS} {st0 : Stmt} {suite : List Stmt} {np ep : Pos} {hds : List ExceptHandler} {l : List Clause} (hi : X.N[i]? = some n) (hl : X.env.kindOf n = some .local) (hc : Names X x c)
      (hsu : ∀ (a : Addr) (oe : Obj) (cls : Value) (d : Option Addr) (pn : List (Addr × Obj)), Zc cls d oe → (∃ vs, oe.data = .fields vs) → PSs (X.suite a ((a, oe) :: pn)) (st0 :: suite) (ts a cls d)) (more : Named X hds l) :
      Named X (.ExceptHandler (some (.Name x np)) (some n) (st0 :: suite) ep :: hds) ((c, i, ts) :: l)
theorem ps_try_named {X : Cx} {body : List Stmt} {h0 : ExceptHandler} {hds : List ExceptHandler} {l : List Clause} {pos : Pos} {tb : WX → TS} {Wout : WX} (hst : X.stack = X.env :: X.outer) (hfm : X.env.frame = some X.env.locals) (hN : X.N.Nodup) (tk : Takes X Wout)
    (hb : ∀ (W : WX) (pn : List (Addr × Obj)) (xe : Value → Shared → Prop), Takes (X.tr pn xe) W → PassesOwn (model X.prog X.w) X.A X.env xe → PSs (X.tr pn xe) body (tb W))
    (hh : Named X (h0 :: hds) l) : PS X (.Try body (h0 :: hds) [] [] pos) (fun D σ H => tb (wNamed X.K Wout D l) D σ H) := by
  refine ⟨fun pins s σ H D I hw => wpAny_Try_except ?_⟩
  have okX := I.ok
  have frames : X.A.frames = some (X.env :: X.outer) := by rw [okX.frames, hst]
  have run := (hb (wNamed X.K Wout D l) (X.pn ++ pins) (fun e t => wpAny (model X.prog X.w) X.A (noteFrame e X.env) (fun _ t2 => wpAny (model X.prog X.w) X.A (setFlight e none) (fun _ t3 => wpAny (model X.prog X.w) X.A (handleBy e X.env (h0 :: hds)) (SP X pins D) X.xe t3) X.xe t2) X.xe t) ?caught PassesOwn.looking).run [] s σ H D (I.toTry _) hw
  case caught =>
    rintro u t ⟨a, B, t0, pins1, τ, G, cls, d, rfl, J1, nb, up, sky, na, os, ag, wish⟩
    have J : Inv X pins τ G t0 := J1.ofTry okX
    show wpAny (model X.prog X.w) X.A (noteFrame (.ref a) X.env) _ _ _
    refine Sky.land Zc.steady frames hfm (by rw [← hst]; exact sky) fun hA lA uA => ?_
    have JA : Inv X pins τ G { t with heap := hA } := J.landed nb lA.1 (up.trans uA) os ag
    obtain ⟨oA, vA, gA, zA, dA⟩ := lA.there
    have away : a ∉ frs (X.env :: X.outer) := fun mem => by
      obtain ⟨_, o2, e2, no⟩ := lA.2.2.1.mem mem
      rw [gA] at e2; cases e2
      exact no _ dA
    have offL : a ≠ X.env.locals := fun z => away (List.mem_filterMap.mpr ⟨X.env, List.mem_cons_self, by rw [hfm, z]⟩)
    have offF : a ∉ X.fs := fun mem => by
      obtain ⟨en, hen, q⟩ := List.mem_filterMap.mp mem
      exact away (List.mem_filterMap.mpr ⟨en, List.mem_cons_of_mem _ hen, q⟩)
    have SA := JA.suite gA dA na offL offF
    have walk : ∀ {hs : List ExceptHandler} {cl : List Clause}, Named X hs cl → wNamed X.K Wout D cl cls d τ G → wpAny (model X.prog X.w) X.A (handleBy (.ref a) X.env hs) (SP X pins D) X.xe { t with heap := hA } := by
      intro hs cl hk
      induction hk with
      | nil =>
        intro wout
        refine wpAny_handleBy_nil ?_
        obtain ⟨m1, m2, m3, oe, vs, TB, oT, tsT, q1, q2, q3, q4, q5⟩ := id lA
        unfold PySem.passOn
        refine wpAny_bind (wpAny_field q1 q3 q4 ?_)
        rw [if_neg (show ¬ ((Value.ref TB == Value.none) = true) from by simp)]
        have out : wpAny (model X.prog X.w) X.A (setFlight (.ref a) X.env.frame) (fun _ t4 => wpAny (model X.prog X.w) X.A (throw (.ref a) : Sem Flow) (SP X pins D) X.xe t4) X.xe { t with heap := hA } := by
          rw [hfm]
          exact HandSPX.setFlight_upZ lA fun hB kB uB => wpAny_throw (tk _ _ ⟨a, B, t0, pins, τ, G, cls, d, rfl, J, nb, (up.trans uA).trans uB, .inr (.inr (by rw [hst]; exact kB)), na, os, ag, wout⟩)
        first
          | exact wpAny_bind (wpAny_pure (wpAny_bind out))
          | exact wpAny_bind out
      | @cons x n c i ts st0 suite np ep hds2 l2 hi hl hc hsu more ih =>
        rintro ⟨b, hb1, yes, no⟩
        refine wpAny_handleBy_cons (codeAny_handlers_test ?_) (by intro q; cases q)
        have ty : PySem.W.Looks (model X.prog X.w) hA (typeOf (.ref a)) cls := fun A Q E s2 k q => wpAny_typeOf_ref (k _ _ gA) (by rw [zA.1]; exact q)
        have ex1 := PySem.W.exm_one (M := model X.prog X.w) JA.kIn ty hb1
        have named : ∀ {Q E : Value → Shared → Prop}, Q c { t with heap := hA } → wpAny (model X.prog X.w) (X.A.mark (some (.ref a))) (eval (.Name x np) X.env) Q E { t with heap := hA } := fun {Q E} q => by
          obtain ⟨gl, nd, here | ⟨here, bt, nn⟩⟩ := hc
          · exact ld_glob (X := X.suite a ((a, oA) :: (X.pn ++ pins))) SA gl here q nd
          · exact ld_blt (X := X.suite a ((a, oA) :: (X.pn ++ pins))) SA gl here bt q nn nd
        refine named (ex1.here ?_)
        cases b with
        | false =>
          show wpAny _ X.A (handleBy (.ref a) X.env hds2) _ _ _
          exact ih (no rfl)
        | true =>
          refine codeAny_handlers_suite_as (HandSPX.lands_againZ lA fun hB lB uB => ?_)
          have JB : Inv X pins τ G { t with heap := hB } := J.landed nb lB.1 ((up.trans uA).trans uB) os ag
          obtain ⟨oB, vB, gB, zB, dB⟩ := lB.there
          refine store_ok (X := X.suite a ((a, oB) :: (X.pn ++ pins))) (v := .ref a) (JB.suite gB dB na offL offF) hN hi (.inl hl) rfl (fun t5 S5 => ?_) (.inr hl)
          have gone : ∀ {τ2 : L2.St} {G2 : Hp} {Q : Shared → Prop} {t6 : Shared}, Inv (X.suite a ((a, oB) :: (X.pn ++ pins))) [] τ2 G2 t6 → (∀ t7, Inv X pins (τ2.set i none) G2 t7 → Q t7) →
              wpAny (model X.prog X.w) X.A (do bindName X.env n .none; unbindBehindTheSuite X.env n ep) (fun _ t7 => Q t7) X.xe t6 := fun S6 hq => gone_ok (S6.unsuite okX) hN hi hl hq
          refine wpAny_mono ((hsu a oB cls d (X.pn ++ pins) zB ⟨_, dB⟩).run [] t5 _ G _ S5 (yes rfl a na)) (fun fl t6 z => ?_) fun _ _ z => z.elim
          match fl, z with
          | .next, ⟨_, _, S6, q6⟩ => exact gone S6 fun _ J7 => ⟨_, _, J7, q6⟩
          | .brk, ⟨_, _, S6, q6⟩ => exact gone S6 fun _ J7 => ⟨_, _, J7, q6⟩
          | .cont, ⟨_, _, S6, q6⟩ => exact gone S6 fun _ J7 => ⟨_, _, J7, q6⟩
          | .ret u, ⟨_, _, _, S6, r6, q6⟩ => exact gone S6 fun _ J7 => ⟨_, _, _, J7, r6, q6⟩
    exact walk hh wish
  refine wpAny_mono run (fun fl t z => ?_) fun _ _ z => z
  match fl, z with
  | .next, ⟨_, _, J, q⟩ => exact wpAny_execs_nil ⟨_, _, J.ofTry okX, q⟩
  | .brk, ⟨_, _, J, q⟩ => exact ⟨_, _, J.ofTry okX, q⟩
  | .cont, ⟨_, _, J, q⟩ => exact ⟨_, _, J.ofTry okX, q⟩
  | .ret u, ⟨_, _, _, J, r, q⟩ => exact ⟨_, _, _, J.ofTry okX, r, q⟩
end Bg
set_option Elab.async false
set_option linter.all false
set_option maxRecDepth 100000
set_option maxHeartbeats 2000000
/-! a test whose left side needs a token -/
namespace Bg
open PySem PySem.Spec PyProof.Rows L2
section
variable {X : Cx} {a b : Expr} {ta tb : TE} {body orelse : List Stmt} {t u : TS} {pos p : Pos}
theorem pst_ifC {op : CmpOp} {r : R2} (ho : OpR X (compareOp op) r) (ha : PET X a ta) (hb : PE X b tb) (hm : behindInMarks op b = false) (h1 : PSsT X body t) (h2 : PSsT X orelse u) : PST X (.If (.Compare a [op] [b] p) body orelse pos) (tIfS (tTest (tOp r ta tb)) t u) := by
  intro pins s σ H D h0 I h
  have hc : wpAny (model X.prog X.w) X.A (isTrue (.Compare a [op] [b] p) X.env (eval (.Compare a [op] [b] p) X.env)) (TP X pins σ (fun b H1 => if b = true then t D σ H1 else u D σ H1)) X.xe s := by
    refine wpAny_isTrue_Compare1 (thn (ha pins s σ H _ h0 I h) fun v s1 ⟨x, H1, I1, r1, q1⟩ => thn (hb.run pins s1 σ H1 _ I1 q1) fun u s2 ⟨y, H2, I2, r2, q2⟩ =>
      thn (ho pins s2 σ H2 x y v u _ I2 r1 r2 q2) fun c s3 ⟨z, H3, I3, r3, k, e, q3⟩ => ?_) hm
    subst e
    cases r3
    exact wpAny_truthy_bool ⟨H3, I3, q3⟩
  refine wpAny_If (wpAny_mono (PySem.wpAny_toks hc) (fun d s1 q => ?_) fun _ _ z => z.2)
  obtain ⟨hk, H1, I1, q1⟩ := q
  cases d with
  | true => exact h1 pins s1 σ H1 D (Nat.le_trans h0 hk) I1 q1
  | false => exact h2 pins s1 σ H1 D (Nat.le_trans h0 hk) I1 q1
end
end Bg
set_option Elab.async false
set_option linter.all false
set_option maxRecDepth 100000
set_option maxHeartbeats 4000000
/-! changes of specs: pure -/
namespace Bg
open PySem PySem.Spec PyProof.Rows L2 CwR
theorem empty_app8 (x : Str) : ("" : Str) ++ x = x := str_nil x
theorem plus_eq : ("+" : Str) = plus := by decide +kernel
theorem put_put {sl : List Str} {n x y : Str} (hx : partOf x = n) : putSlot (putSlot sl n x) n y = putSlot sl n y := by
  unfold putSlot
  rw [List.map_map]
  refine List.map_congr_left fun o _ => ?_
  rw [Function.comp_apply]
  by_cases c : partOf o = n
  · simp only [if_pos c, if_pos hx]
  · simp only [if_neg c]
theorem chg_chg {S : Str → List Str} {m n x y : Str} (hx : partOf x = n) : chgS (chgS S m n x) m n y = chgS S m n y := by
  funext m2
  by_cases c : m2 = m
  · subst c; rw [chgS_at, chgS_at, chgS_at, put_put hx]
  · rw [chgS_ne c, chgS_ne c, chgS_ne c]
theorem iteTe {c : Bool} {A B : Prop} (h : c = true) (a : A) : if c = true then A else B := by rw [if_pos h]; exact a
theorem iteFe {c : Bool} {A B : Prop} (h : c = false) (b : B) : if c = true then A else B := by rw [if_neg (by rw [h]; exact Bool.false_ne_true)]; exact b
theorem repl_part {rs : List Row} (val : ValidT rs) {r : Row} (hr : r ∈ rs) {sl : List Str} (ok : isSpecB r sl = true) {s : Str} (hs : s ∈ sl) : Txt.replace s ("+" : Str) ("" : Str) = partOf s := by
  obtain ⟨i1, i2, _⟩ := isSpecB_inv ok
  obtain ⟨p, hp, e, _⟩ := stored_part (val.ndp hr) i1 i2 hs
  have hn := nm_plain (pt_name (val.each.good r hr).2.2 hp)
  rcases slot_cases s with ⟨y, es, _, e2⟩ | ⟨_, e2⟩
  · have : p.1 = y := by rw [e, e2]
    rw [e2, es, ← this]
    exact repl_plus2 hn true
  · rw [e2]
    have : p.1 = s := by rw [e, e2]
    rw [← this]
    exact repl_plus2 hn false
end Bg
set_option Elab.async false
set_option linter.all false
set_option maxRecDepth 100000
set_option maxHeartbeats 4000000
/-! read_byte, read_measured, read_node, unpack -/
namespace Bg
open PySem PySem.Spec PyProof.Rows L2
abbrev rowV (row : List Nat) : List V := row.map fun b : Nat => V.int (b : Int)
section
variable {P : Program} {w : World} {K : PySem.W.Frag} {mg : Str → Option Value} {base : Heap} {fd : FuncData}
theorem row_at {row : List Nat} {i b : Nat} (h : row[i]? = some b) : atI (rowV row) (i : Int) = some (.int (b : Nat)) := atI_nat (by rw [List.getElem?_map, h]; rfl)
def spRB (K : PySem.W.Frag) : Sp := fun vs H Q E => ∃ (ra : Addr) (row : List Nat) (i : Nat), vs = [.ref ra, .int (i : Nat)] ∧ H ra = some (.lst (rowV row)) ∧ row.length ≤ 1000000 ∧ i ≤ row.length ∧
  (∀ b, row[i]? = some b → ∀ t H', Same H H' → H' t = some (.tup [.int (b : Nat), .int ((i + 1 : Nat) : Int)]) → Q (.ref t) H') ∧ (row[i]? = none → RaisesBR K H row.length E)
theorem okx_rbyte (T : Tx K mg) (F : FnP K ("read_byte", none) "read_byte" "read_byte" s_read_byte fd) : FnOk P w K mg base (L2.CX P w) 3 (He.fAd K ("read_byte", none)) fd p_read_byte (spRB K) := by
  refine F.ok (k := 2) sc_read_byte (fun vs H Q E h => ?_) (fun cdv A outer s H vs Q E hr h => ?_)
  · obtain ⟨_, _, _, rfl, _⟩ := h; rfl
  obtain ⟨ra, row, i, rfl, hra, lr, li, qt, qf⟩ := h
  obtain ⟨f1, F1⟩ := T.F_BadRow_init
  have nd := sc_read_byte.nd
  refine ⟨_, (pss_cons (ps_if (pt_cmpR op_ge (pv 1) (pe_callB call_len_seq (by rfl) T.n_len PySem.boot_len (pa_cons (pv 0) pa_nil)) (nomark _))
      (pss_one (ps_raise rfl (takes_of rfl rfl rfl rfl) (pmk_oex T.x_BadRow.oex T.m_BadRow_init.at_ (beq_iff_eq.mp T.m_BadRow_init.fn) (ok_bri T F1) (hr.mono (by omega)) (b_BadRow_init F1) .nil pass0 (by rfl) T.g_BadRow (pa_cons (pv 1) pa_nil))))
      pss_nil)
    (pss_one (ps_ret (pe_tup (pa_cons (pe_ix ix_list (pv 0) (pv 1) (fun _ _ => rfl)) (pa_cons (pe_op op_add (pv 1) pe_int) pa_nil)))))), ?_⟩
  refine ⟨_, rfl, _, rfl, ra, _, rfl, .inl (SqL.of hra), _, _, rfl, rfl, _, rfl, ?_⟩
  cases e : row[i]? with
  | none =>
    have l2 : row.length ≤ i := by rw [List.getElem?_eq_none_iff] at e; exact e
    have ei : i = row.length := by omega
    refine iteTe (decide_eq_true (by show (((rowV row).length : Nat) : Int) ≤ _; rw [List.length_map]; omega)) ⟨_, rfl, ?_⟩
    rw [ei]
    exact raiseR_read (by omega) (qf e)
  | some b =>
    have l2 := (List.getElem?_eq_some_iff.mp e).1
    refine iteFe (decide_eq_false (by show ¬ (((rowV row).length : Nat) : Int) ≤ _; rw [List.length_map]; omega)) ?_
    refine ⟨_, rfl, _, rfl, ra, _, _, _, rfl, rfl, SqL.of hra, row_at e, _, rfl, _, _, rfl, rfl, by show 2 ≤ sizeLine; decide, fun t ht => ?_⟩
    exact qt b e t _ (same_new ht) (by rw [upd_same] <;> rfl)
def spRN (K : PySem.W.Frag) (n : Nat) : Sp := fun vs H Q E => ∃ (y x ra : Addr) (k : Str) (a : Nat) (row : List Nat) (rs : List Row) (S : Str → List Str), vs = [.ref y, .str k, .ref ra, .int (a : Nat), .int (41 - (n : Int))] ∧ LayAt K H y x rs S ∧ KindsF K H x rs ∧ ValidT rs ∧ SpecsOk rs S ∧
  H ra = some (.lst (rowV row)) ∧ (∀ b ∈ row, b ≤ 255) ∧ row.length ≤ 1000000 ∧ a ≤ row.length ∧ k ∈ rkinds rs ∧ n ≤ 40 ∧
  (∀ d en, rdN rs (layS S) row n k a = .inr (d, en) → ∀ t tv H', Same H H' → H' t = some (.tup [tv, .int (en : Nat)]) → Td H' tv d → Q (.ref t) H') ∧ (∀ e, rdN rs (layS S) row n k a = .inl e → RaisesBR K H e E)
def spRM (K : PySem.W.Frag) (n : Nat) : Sp := fun vs H Q E => ∃ (y x ra : Addr) (k : Str) (a : Nat) (row : List Nat) (rs : List Row) (S : Str → List Str), vs = [.ref y, .str k, .ref ra, .int (a : Nat), .int (41 - (n : Int))] ∧ LayAt K H y x rs S ∧ KindsF K H x rs ∧ ValidT rs ∧ SpecsOk rs S ∧
  H ra = some (.lst (rowV row)) ∧ (∀ b ∈ row, b ≤ 255) ∧ row.length ≤ 1000000 ∧ a ≤ row.length ∧ k ∈ rkinds rs ∧ n ≤ 40 ∧
  (∀ d en, rdM row (rdN rs (layS S) row n) k a = .inr (d, en) → ∀ t tv H', Same H H' → H' t = some (.tup [tv, .int (en : Nat)]) → Td H' tv d → Q (.ref t) H') ∧ (∀ e, rdM row (rdN rs (layS S) row n) k a = .inl e → RaisesBR K H e E)
theorem okx_rmeas (T : Tx K mg) {n m : Nat} {fn : FuncData} (G : FnOk P w K mg base (L2.CX P w) m (He.fAd K ("read_node", none)) fn p_read_node (spRN K n)) (Fn : FnP K ("read_node", none) "read_node" "read_node" s_read_node fn) (hm : 3 ≤ m)
    (F : FnP K ("read_measured", none) "read_measured" "read_measured" s_read_measured fd) : FnOk P w K mg base (L2.CX P w) (m + 1) (He.fAd K ("read_measured", none)) fd p_read_measured (spRM K n) := by
  refine F.ok (k := m) sc_read_measured (fun vs H Q E h => ?_) (fun cdv A outer s H vs Q E hr h => ?_)
  · obtain ⟨_, _, _, _, _, _, _, _, rfl, _⟩ := h; rfl
  obtain ⟨y, x, ra, k, a, row, rs, S, rfl, hL, hK, val, so, hra, hb, lr, la, hk, hn, qt, qf⟩ := h
  obtain ⟨f1, F1⟩ := T.F_BadRow_init
  have nd := sc_read_measured.nd
  refine ⟨_, (pss_cons (ps_set (i := 5) nd rfl (.inl rfl) (pe_op op_add (pv 3) pe_int))
    (pss_cons (ps_if (pt_cmpR op_gt (pv 5) (pe_callB call_len_seq (by rfl) T.n_len PySem.boot_len (pa_cons (pv 2) pa_nil)) (nomark _))
      (pss_one (ps_raise rfl (takes_of rfl rfl rfl rfl) (pmk_oex T.x_BadRow.oex T.m_BadRow_init.at_ (beq_iff_eq.mp T.m_BadRow_init.fn) (ok_bri T F1) (hr.mono (by omega)) (b_BadRow_init F1) .nil pass0 (by rfl) T.g_BadRow (pa_cons (pe_callB call_len_seq (by rfl) T.n_len PySem.boot_len (pa_cons (pv 2) pa_nil)) pa_nil))))
      pss_nil)
    (pss_cons (ps_asg (pe_call G (hr.mono (by omega)) (by rfl) T.g_read_node T.k_read_node (b_read_node Fn) .nil (passX (takes_of rfl rfl rfl rfl)) (pa_cons (pv 0) (pa_cons (pv 1) (pa_cons (pv 2) (pa_cons (pv 5) (pa_cons (pv 4) pa_nil)))))) (pg_tup rfl (pgs_cons (pg_name (i := 6) nd rfl (Or.inl rfl)) (pgs_cons (pg_name (i := 7) nd rfl (Or.inl rfl)) pgs_nil))))
    (pss_cons (ps_if (pt_cmpR op_ne (pe_op op_sub (pv 7) (pv 5)) (pe_op op_add (pe_op op_mul (pe_ix ix_list (pv 2) (pv 3) (fun _ _ => rfl)) pe_int) (pe_ix ix_list (pv 2) (pe_op op_add (pv 3) pe_int) (fun _ _ => rfl))) (nomark _))
      (pss_one (ps_raise rfl (takes_of rfl rfl rfl rfl) (pmk_oex T.x_BadRow.oex T.m_BadRow_init.at_ (beq_iff_eq.mp T.m_BadRow_init.fn) (ok_bri T F1) (hr.mono (by omega)) (b_BadRow_init F1) .nil pass0 (by rfl) T.g_BadRow (pa_cons (pv 3) pa_nil))))
      pss_nil)
    (pss_one (ps_ret (pe_tup (pa_cons (pv 6) (pa_cons (pv 7) pa_nil))))))))), ?_⟩
  refine ⟨_, rfl, _, _, rfl, rfl, _, rfl, _, rfl, ra, _, rfl, .inl (SqL.of hra), _, _, rfl, rfl, _, rfl, ?_⟩
  have lrv : (rowV row).length = row.length := List.length_map _
  by_cases hl : row.length < a + 2
  · refine iteTe (decide_eq_true (by rw [lrv]; omega)) ⟨_, rfl, ra, _, rfl, .inl (SqL.of hra), ?_⟩
    rw [lrv]
    exact raiseR_read (by omega) (qf _ (by unfold rdM; rw [if_pos hl]))
  refine iteFe (decide_eq_false (by rw [lrv]; omega)) ?_
  unfold rdM at qt qf
  simp only [if_neg hl] at qt qf
  have ok := rdN_ok val (layS_ok val so) hb n k (a + 2) (by omega)
  refine ⟨_, rfl, _, rfl, _, rfl, _, rfl, _, rfl, y, x, ra, k, a + 2, row, rs, S, rfl, hL, hK, val, so, hra, hb, lr, by omega, hk, hn, fun d en hr1 t tv H1 s1 ht td => ?_, fun e hr1 => qf e (by rw [hr1])⟩
  have hra1 := s1 _ _ hra
  obtain ⟨_, g2, g3⟩ := ok.good _ _ hr1
  rw [hr1] at qt qf
  dsimp only at qt qf
  obtain ⟨b0, hb0⟩ : ∃ b, row[a]? = some b := ⟨_, List.getElem?_eq_getElem (by omega)⟩
  obtain ⟨b1, hb1⟩ : ∃ b, row[a + 1]? = some b := ⟨_, List.getElem?_eq_getElem (by omega)⟩
  have c0 := hb b0 (List.mem_of_getElem? hb0)
  have c1 := hb b1 (List.mem_of_getElem? hb1)
  rw [hb0, hb1] at qt qf
  have at1 : atI (rowV row) ((a : Int) + 1) = some (.int (b1 : Nat)) := by
    rw [show ((a : Int) + 1) = ((a + 1 : Nat) : Int) by omega]; exact row_at hb1
  refine ⟨t, _, rfl, SqT.of ht, rfl, _, _, rfl, _, _, rfl, rfl, ?_⟩
  refine ⟨_, rfl, _, rfl, _, _, rfl, rfl, _, rfl, _, rfl, ra, _, _, _, rfl, rfl, SqL.of hra1, row_at hb0, _, _, rfl, rfl, .inr ⟨by decide, by decide⟩, _, rfl, _, rfl, _, _, rfl, rfl, ra, _, _, _, rfl, rfl, SqL.of hra1, at1, _, _, rfl, rfl, ?_⟩
  have ent : (((en : Nat) : Int) - ((a : Int) + 2) ≠ ((b0 : Nat) : Int) * 256 + ((b1 : Nat) : Int)) ↔ ¬ en = a + 2 + (b0 * 256 + b1) := by omega
  refine ⟨rfl, _, rfl, ?_⟩
  by_cases he : en = a + 2 + (b0 * 256 + b1)
  · have hne : (!decide (V.int (((en : Nat) : Int) - ((a : Int) + 2)) = V.int (((b0 : Nat) : Int) * 256 + ((b1 : Nat) : Int)))) = false := by
      rw [eqInt, decide_eq_true (Decidable.byContradiction fun z => (ent.mp z) he)]; rfl
    refine iteFe hne ⟨_, rfl, _, rfl, by show 2 ≤ sizeLine; decide, fun t2 ht2 => ?_⟩
    have s2 := same_new (o := .tup [tv, V.int ((en : Nat) : Int)]) ht2
    exact qt d en (by simp only [Option.getD_some]; rw [if_pos he]) t2 tv _ (s1.trans s2) upd_same (td.mono (tups_of s2))
  · have hne : (!decide (V.int (((en : Nat) : Int) - ((a : Int) + 2)) = V.int (((b0 : Nat) : Int) * 256 + ((b1 : Nat) : Int)))) = true := by
      rw [eqInt, decide_eq_false (ent.mpr he)]; rfl
    refine iteTe hne ⟨_, rfl, raiseR_read (by omega) ((qf a (by simp only [Option.getD_some]; rw [if_neg he])).same s1)⟩
theorem okx_rn0 (T : Tx K mg) {m : Nat} (F : FnP K ("read_node", none) "read_node" "read_node" s_read_node fd) : FnOk P w K mg base (L2.CX P w) 4 (He.fAd K ("read_node", none)) fd p_read_node (spRN K 0) := by
  refine F.ok (k := 3) sc_read_node (fun vs H Q E h => ?_) (fun cdv A outer s H vs Q E hr h => ?_)
  · obtain ⟨_, _, _, _, _, _, _, _, rfl, _⟩ := h; rfl
  obtain ⟨y, x, ra, k, a, row, rs, S, rfl, hL, hK, val, so, hra, hb, lr, la, hk, hn, qt, qf⟩ := h
  have hu := hu_of hr
  obtain ⟨dy, ty, hy⟩ := hL.ins
  obtain ⟨dx, dm, dk, dp, dl, tn, to, h0, _⟩ := id hK
  have lrv : (rowV row).length = row.length := List.length_map _
  obtain ⟨f1, F1⟩ := T.F_Kinds_makers
  obtain ⟨f2, F2⟩ := T.F_BadRow_init
  obtain ⟨f3, F3⟩ := T.F_Layout_getitem
  obtain ⟨f4, F4⟩ := T.F_part_of
  obtain ⟨f5, F5⟩ := T.F_Kinds_inner
  obtain ⟨f6, F6⟩ := T.F_read_byte
  obtain ⟨f7, F7⟩ := T.F_has_length
  obtain ⟨f8, F8⟩ := T.F_read_measured
  obtain ⟨f9, F9⟩ := T.F_read_node
  obtain ⟨f10, F10⟩ := T.F_Kinds_parts
  obtain ⟨t_BYTE, m_BYTE⟩ := T.c_BYTE
  obtain ⟨t_MOST_LEVELS, m_MOST_LEVELS⟩ := T.c_MOST_LEVELS
  have nd := sc_read_node.nd
  refine ⟨_, (pss_cons (ps_set (i := 5) nd rfl (.inl rfl) (pe_fld (pv 0) rfl))
    (pss_cons (ps_set (i := 6) nd rfl (.inl rfl) (pe_meth (pv 5) T.cl_Kinds T.m_Kinds_makers (okf_makers T F1) (hr.mono (by omega)) (b_Kinds_makers F1) .nil pass0 (pa_cons (pv 1) pa_nil)))
    (pss_cons (ps_if (PW.pt (pw_or (pt_cmpR op_ge (pv 3) (pe_callB call_len_seq (by rfl) T.n_len PySem.boot_len (pa_cons (pv 2) pa_nil)) (nomark _)) (pw_or (pt_cmpR op_ge (pe_ix ix_list (pv 2) (pv 3) (fun _ _ => rfl)) (pe_callB call_len_seq (by rfl) T.n_len PySem.boot_len (pa_cons (pv 6) pa_nil)) (nomark _)) (pw_or1 (pt_cmpR op_gt (pv 4) (pe_glob (v := .int 40) (by rfl) m_MOST_LEVELS ⟨_, rfl⟩) (nomark _))))))
      (pss_one (ps_raise rfl (takes_of rfl rfl rfl rfl) (pmk_oex T.x_BadRow.oex T.m_BadRow_init.at_ (beq_iff_eq.mp T.m_BadRow_init.fn) (ok_bri T F2) (hr.mono (by omega)) (b_BadRow_init F2) .nil pass0 (by rfl) T.g_BadRow (pa_cons (pv 3) pa_nil))))
      pss_nil)
    pss_never))), ?_⟩
  refine ⟨_, rfl, y, CL K, dy, _, _, rfl, hy, T.cl_Layout, T.na_Layout_kinds, lF3_kinds, ?_⟩
  refine ⟨_, rfl, x, dx, _, rfl, h0, kF_none (by decide +kernel), _, rfl, x, k, rs, rfl, hK, hk, fun v tv => ?_⟩
  obtain ⟨tm, om, rfl, hom, htm⟩ := tv
  refine ⟨_, rfl, _, rfl, ra, _, rfl, .inl (SqL.of hra), _, _, rfl, rfl, _, rfl, ?_⟩
  by_cases hl : row.length ≤ a
  · exact iteTe (decide_eq_true (by rw [lrv]; omega)) (iteT ⟨_, rfl, raiseR_read (by omega) (qf _ rfl)⟩)
  refine iteFe (decide_eq_false (by rw [lrv]; omega)) ?_
  obtain ⟨t0, ht0⟩ : ∃ b, row[a]? = some b := ⟨_, List.getElem?_eq_getElem (by omega)⟩
  refine ⟨_, rfl, _, rfl, ra, _, _, _, rfl, rfl, SqL.of hra, row_at ht0, _, rfl, tm, _, rfl, .inr (sqT_frz htm), _, _, rfl, rfl, _, rfl, ?_⟩
  refine ite2 (fun _ => iteT ⟨_, rfl, raiseR_read (by omega) (qf _ rfl)⟩) (fun _ => ?_)
  refine ⟨_, rfl, _, _, rfl, rfl, _, rfl, ?_⟩
  exact iteTe (decide_eq_true (by show (40 : Int) < 41 - ((0 : Nat) : Int); decide)) ⟨_, rfl, raiseR_read (by omega) (qf _ rfl)⟩
theorem okx_rn1 (T : Tx K mg) {n m : Nat} {fm : FuncData} (G : FnOk P w K mg base (L2.CX P w) m (He.fAd K ("read_node", none)) fd p_read_node (spRN K n)) (GM : FnOk P w K mg base (L2.CX P w) (m + 1) (He.fAd K ("read_measured", none)) fm p_read_measured (spRM K n))
    (Fm : FnP K ("read_measured", none) "read_measured" "read_measured" s_read_measured fm) (hm : 4 ≤ m) (F : FnP K ("read_node", none) "read_node" "read_node" s_read_node fd) : FnOk P w K mg base (L2.CX P w) (m + 2) (He.fAd K ("read_node", none)) fd p_read_node (spRN K (n + 1)) := by
  refine F.ok (k := m + 1) sc_read_node (fun vs H Q E h => ?_) (fun cdv A outer s H vs Q E hr h => ?_)
  · obtain ⟨_, _, _, _, _, _, _, _, rfl, _⟩ := h; rfl
  obtain ⟨y, x, ra, k, a, row, rs, S, rfl, hL, hK, val, so, hra, hb, lr, la, hk, hn, qt, qf⟩ := h
  have hu := hu_of hr
  obtain ⟨dy, ty, hy⟩ := hL.ins
  obtain ⟨dx, dm, dk, dp, dl, tn, to, h0, _⟩ := id hK
  have lrv : (rowV row).length = row.length := List.length_map _
  have ok := layS_ok val so
  have mkl : ((makersOf rs k).map V.str).length = (famOf rs k).length := by rw [List.length_map, ← fam_names, List.length_map]
  obtain ⟨f1, F1⟩ := T.F_Kinds_makers
  obtain ⟨f2, F2⟩ := T.F_BadRow_init
  obtain ⟨f3, F3⟩ := T.F_Layout_getitem
  obtain ⟨f4, F4⟩ := T.F_part_of
  obtain ⟨f5, F5⟩ := T.F_Kinds_inner
  obtain ⟨f6, F6⟩ := T.F_read_byte
  obtain ⟨f7, F7⟩ := T.F_has_length
  obtain ⟨f8, F8⟩ := T.F_Kinds_parts
  obtain ⟨t_BYTE, m_BYTE⟩ := T.c_BYTE
  obtain ⟨t_MOST_LEVELS, m_MOST_LEVELS⟩ := T.c_MOST_LEVELS
  have nd := sc_read_node.nd
  refine ⟨_, (pss_cons (ps_set (i := 5) nd rfl (.inl rfl) (pe_fld (pv 0) rfl))
    (pss_cons (ps_set (i := 6) nd rfl (.inl rfl) (pe_meth (pv 5) T.cl_Kinds T.m_Kinds_makers (okf_makers T F1) (hr.mono (by omega)) (b_Kinds_makers F1) .nil pass0 (pa_cons (pv 1) pa_nil)))
    (pss_cons (ps_if (PW.pt (pw_or (pt_cmpR op_ge (pv 3) (pe_callB call_len_seq (by rfl) T.n_len PySem.boot_len (pa_cons (pv 2) pa_nil)) (nomark _)) (pw_or (pt_cmpR op_ge (pe_ix ix_list (pv 2) (pv 3) (fun _ _ => rfl)) (pe_callB call_len_seq (by rfl) T.n_len PySem.boot_len (pa_cons (pv 6) pa_nil)) (nomark _)) (pw_or1 (pt_cmpR op_gt (pv 4) (pe_glob (v := .int 40) (by rfl) m_MOST_LEVELS ⟨_, rfl⟩) (nomark _))))))
      (pss_one (ps_raise rfl (takes_of rfl rfl rfl rfl) (pmk_oex T.x_BadRow.oex T.m_BadRow_init.at_ (beq_iff_eq.mp T.m_BadRow_init.fn) (ok_bri T F2) (hr.mono (by omega)) (b_BadRow_init F2) .nil pass0 (by rfl) T.g_BadRow (pa_cons (pv 3) pa_nil))))
      pss_nil)
    (pss_cons (ps_set (i := 7) nd rfl (.inl rfl) (pe_ix ix_tup (pv 6) (pe_ix ix_list (pv 2) (pv 3) (fun _ _ => rfl)) (fun _ _ => rfl)))
    (pss_cons (ps_set (i := 8) nd rfl (.inr rfl) pe_dnewK)
    (pss_cons (ps_set (i := 9) nd rfl (.inl rfl) (pe_op op_add (pv 3) pe_int))
    (pss_cons (ps_for (passes_of rfl) rfl (pi_tup (pe_ixOwn (ok_layg T F3) (hr.mono (by omega)) T.m_Layout_getitem (fnIn_of F3) (b_Layout_getitem F3) pass0 (pv 0) (pv 7) (fun _ _ => rfl))) (pg_name (i := 10) nd rfl (Or.inl rfl))
      (pss_cons (ps_set (i := 11) nd rfl (.inl rfl) (pe_call (ok_part_of T F4) (hr.mono (by omega)) (by rfl) T.g_part_of T.k_part_of (b_part_of F4) .nil pass0 (pa_cons (pv 10) pa_nil)))
      (pss_cons (ps_set (i := 12) nd rfl (.inl rfl) (pe_meth (pv 5) T.cl_Kinds T.m_Kinds_inner (okf_inner T F5) (hr.mono (by omega)) (b_Kinds_inner F5) .nil pass0 (pa_cons (pv 7) (pa_cons (pv 11) pa_nil))))
      (pss_one (ps_if (pt_cmpR op_eq (pv 12) (pe_glob (v := .str "byte") (by rfl) m_BYTE ⟨_, rfl⟩) (nomark _))
        (pss_one (ps_asg (pe_call (okx_rbyte T F6) (hr.mono (by omega)) (by rfl) T.g_read_byte T.k_read_byte (b_read_byte F6) .nil (passX (takes_of rfl rfl rfl rfl)) (pa_cons (pv 2) (pa_cons (pv 9) pa_nil))) (pg_tup rfl (pgs_cons (pg_sub (pv 8) (pv 11) (set_dict hu)) (pgs_cons (pg_name (i := 9) nd rfl (Or.inl rfl)) pgs_nil)))))
        (pss_one (ps_if (pt_val (pe_call (ok_has_length T F7) (hr.mono (by omega)) (by rfl) T.g_has_length T.k_has_length (b_has_length F7) .nil pass0 (pa_cons (pv 10) pa_nil)))
          (pss_one (ps_asg (pe_call GM (hr.mono (by omega)) (by rfl) T.g_read_measured T.k_read_measured (b_read_measured Fm) .nil (passX (takes_of rfl rfl rfl rfl)) (pa_cons (pv 0) (pa_cons (pv 12) (pa_cons (pv 2) (pa_cons (pv 9) (pa_cons (pe_op op_add (pv 4) pe_int) pa_nil)))))) (pg_tup rfl (pgs_cons (pg_sub (pv 8) (pv 11) (set_dict hu)) (pgs_cons (pg_name (i := 9) nd rfl (Or.inl rfl)) pgs_nil)))))
          (pss_one (ps_asg (pe_call G (hr.mono (by omega)) (by rfl) T.g_read_node T.k_read_node (b_read_node F) .nil (passX (takes_of rfl rfl rfl rfl)) (pa_cons (pv 0) (pa_cons (pv 12) (pa_cons (pv 2) (pa_cons (pv 9) (pa_cons (pe_op op_add (pv 4) pe_int) pa_nil)))))) (pg_tup rfl (pgs_cons (pg_sub (pv 8) (pv 11) (set_dict hu)) (pgs_cons (pg_name (i := 9) nd rfl (Or.inl rfl)) pgs_nil))))))))))))
    (pss_cons (ps_set (i := 13) nd rfl (.inl rfl) (pe_op op_cat (pe_lst (pa_cons (pv 7) pa_nil)) (pe_lc (own := [("part", 11)]) (g := gName 11) rfl nd (pi_tup (pe_meth (pv 5) T.cl_Kinds T.m_Kinds_parts (okf_parts T F8) (hr.mono (by omega)) (b_Kinds_parts F8) .nil pass0 (pa_cons (pv 7) pa_nil))) (blkOk_by (N := ["layout", "kind", "row", "at", "level", "kinds", "makers", "maker", "values", "end", "slot", "part", "inner", "tree"]) (sc := defScope s_read_node) (by decide +kernel)) (fun _ _ _ _ _ => (pg_name (i := 11) nd rfl (Or.inl rfl))) (fun _ _ _ _ _ => pts_nil) (fun _ _ _ _ _ => (pe_dget hu (pv 8) (pv 11) (fun _ _ => rfl))))))
    (pss_one (ps_ret (pe_tup (pa_cons (pe_callTy call_tuple_of (by rfl) T.n_tuple (by decide +kernel) (pa_cons (pv 13) pa_nil)) (pa_cons (pv 9) pa_nil))))))))))))), ?_⟩
  refine ⟨_, rfl, y, CL K, dy, _, _, rfl, hy, T.cl_Layout, T.na_Layout_kinds, lF3_kinds, ?_⟩
  refine ⟨_, rfl, x, dx, _, rfl, h0, kF_none (by decide +kernel), _, rfl, x, k, rs, rfl, hK, hk, fun v tv => ?_⟩
  obtain ⟨tm, om, rfl, hom, htm⟩ := tv
  refine ⟨_, rfl, _, rfl, ra, _, rfl, .inl (SqL.of hra), _, _, rfl, rfl, _, rfl, ?_⟩
  unfold rdN at qt qf
  by_cases hl : row.length ≤ a
  · exact iteTe (decide_eq_true (by rw [lrv]; omega)) (iteT ⟨_, rfl, raiseR_read (by omega) (qf _ (by rw [List.getElem?_eq_none hl]))⟩)
  refine iteFe (decide_eq_false (by rw [lrv]; omega)) ?_
  obtain ⟨t0, ht0⟩ : ∃ b, row[a]? = some b := ⟨_, List.getElem?_eq_getElem (by omega)⟩
  rw [ht0] at qt qf
  dsimp only at qt qf
  refine ⟨_, rfl, _, rfl, ra, _, _, _, rfl, rfl, SqL.of hra, row_at ht0, _, rfl, tm, _, rfl, .inr (sqT_frz htm), _, _, rfl, rfl, _, rfl, ?_⟩
  by_cases ht : (famOf rs k).length ≤ t0
  · exact iteTe (decide_eq_true (by rw [mkl]; omega)) (iteT ⟨_, rfl, raiseR_read (by omega) (qf _ (by rw [List.getElem?_eq_none ht]))⟩)
  refine iteFe (decide_eq_false (by rw [mkl]; omega)) ?_
  refine ⟨_, rfl, _, _, rfl, rfl, _, rfl, ?_⟩
  refine iteFe (decide_eq_false (by omega)) ?_
  obtain ⟨r, hrt⟩ : ∃ r, (famOf rs k)[t0]? = some r := ⟨_, List.getElem?_eq_getElem (by omega)⟩
  rw [hrt] at qt qf
  dsimp only at qt qf
  obtain ⟨hr', ek⟩ := fam_mem hrt
  have hmk : atI ((makersOf rs k).map V.str) ((t0 : Nat) : Int) = some (.str r.2.1) := atI_nat (by rw [List.getElem?_map, ← fam_names, List.getElem?_map, hrt]; rfl)
  refine ⟨_, rfl, _, rfl, _, rfl, ra, _, _, _, rfl, rfl, SqL.of hra, row_at ht0, tm, _, _, _, rfl, rfl, sqT_frz htm, hmk, ?_⟩
  intro vd hvd
  have s1 := same_new (o := .dK []) hvd
  refine ⟨_, rfl, _, _, rfl, rfl, ?_⟩
  obtain ⟨dy5, ty5, hy5⟩ := (hL.same s1).ins
  refine ⟨_, rfl, _, rfl, y, dy5, _, rfl, hy5, y, x, rs, S, r, rfl, hL.same s1, hK.same s1, val, hr', fun c H6 s6 hc => ?_⟩
  have hvd6 := s6 _ _ (upd_same (H := H) (a := vd) (o := .dK []))
  have s16 := s1.trans s6
  have nd1 := val.ndp hr'
  have ndl := lay_nd val ok hr'
  have eS : layS S r.2.1 = (S r.2.1).map fun s => (hasLen s, partOf s) := rfl
  have pok := (val.each.good r hr').2.2
  have l4 := val.four r hr'
  have hlay := (ok.perm r hr').length_eq
  rw [List.length_map, List.length_map] at hlay
  have rdf := rdN_ok val ok hb n
  generalize htot : rdS row (rdN rs (layS S) row n) r (layS S r.2.1) (a + 1) [] = tot at qt qf
  refine ⟨c, rfl, ⟨_, .inl hc⟩, ?_⟩
  refine for_it (walk_tup (K := K) (a := c) (xs := (S r.2.1).map V.str)) (fun i σ G => ∃ (en : Nat) (acc : Acc) (v10 v11 v12 : Option V) (kvs : List (Key × V)), σ = [some (.ref y), some (.str k), some (.ref ra), some (.int (a : Nat)), some (.int (41 - ((n + 1 : Nat) : Int))), some (.ref x), some (.ref tm), some (.str r.2.1), some (.ref vd), some (.int (en : Nat)), v10, v11, v12, none] ∧ Same H G ∧ Rd G c (.tup ((S r.2.1).map V.str)) ∧
      G vd = some (.dK kvs) ∧ KD kvs (acc.map (·.1)) (fun m v => Td G v (lookA acc m)) ∧ acc.map (·.1) = ((layS S r.2.1).take i).map (·.2) ∧ en ≤ row.length ∧ rdS row (rdN rs (layS S) row n) r ((layS S r.2.1).drop i) en acc = tot)
    ⟨a + 1, [], _, _, _, [], rfl, s16, hc, hvd6, KD.nil, by simp, by omega, htot⟩ (fun i σ G _ z => .inl (by obtain ⟨_, _, _, _, _, _, _, _, z, _⟩ := z; exact z)) ?_ ?_
  · rintro i z σ G0 G hi ⟨en, acc, v10, v11, v12, kvs, rfl, sG, hcG, hvG, kd, eacc, len, etot⟩ ⟨rfl, hz⟩
    rw [List.getElem?_map, Option.map_eq_some_iff] at hz
    obtain ⟨sx, hs, rfl⟩ := hz
    have hsm := List.mem_of_getElem? hs
    have hsl : (layS S r.2.1)[i]? = some (hasLen sx, partOf sx) := by rw [eS, List.getElem?_map, hs]; rfl
    have hsn := ok.names hr' _ (List.mem_of_getElem? hsl)
    obtain ⟨p, hpm, ep⟩ := List.mem_map.mp hsn
    have ep : p.1 = partOf sx := ep
    have epa : partAt r.2.2 (partOf sx) = p := by rw [← ep]; exact partAt_of nd1 hpm
    have li := (List.getElem?_eq_some_iff.mp hsl).1
    have drop : (layS S r.2.1).drop i = (hasLen sx, partOf sx) :: (layS S r.2.1).drop (i + 1) := by
      rw [List.drop_eq_getElem_cons li]
      congr 1
      rw [List.getElem?_eq_getElem li] at hsl
      exact Option.some.inj hsl
    rw [drop] at etot
    unfold rdS at etot
    have new : partOf sx ∉ acc.map (·.1) := by
      rw [eacc]
      exact not_mem_take_of_nodup (i := i) ndl (by rw [List.getElem?_map, hsl]; rfl) |> fun h => by rw [← List.map_take] at h; exact h
    have lk : kvs.length ≤ 1000 := by have := KD.length kd; rw [eacc, List.length_map, List.length_take] at this; omega
    have vG := sG
    -- what is kept behind a part
    have nxt : ∀ (d : PyData) (en' : Nat) (G2 : Hp) (v : V) (w10 w11 w12 : Option V), Same G G2 → Td G2 v d → en' ≤ row.length → rdS row (rdN rs (layS S) row n) r ((layS S r.2.1).drop (i + 1)) en' (acc ++ [(partOf sx, d)]) = tot →
        ∃ (en : Nat) (acc : Acc) (v10 v11 v12 : Option V) (kvs2 : List (Key × V)), [some (V.ref y), some (.str k), some (.ref ra), some (.int (a : Nat)), some (.int (41 - ((n + 1 : Nat) : Int))), some (.ref x), some (.ref tm), some (.str r.2.1), some (.ref vd), some (.int (en' : Nat)), w10, w11, w12, none] = [some (.ref y), some (.str k), some (.ref ra), some (.int (a : Nat)), some (.int (41 - ((n + 1 : Nat) : Int))), some (.ref x), some (.ref tm), some (.str r.2.1), some (.ref vd), some (.int (en : Nat)), v10, v11, v12, none] ∧
          Same H (upd G2 vd (.dK (putK kvs (Sum.inr (partOf sx)) v))) ∧ Rd (upd G2 vd (.dK (putK kvs (Sum.inr (partOf sx)) v))) c (.tup ((S r.2.1).map V.str)) ∧
          (upd G2 vd (.dK (putK kvs (Sum.inr (partOf sx)) v))) vd = some (.dK kvs2) ∧ KD kvs2 (acc.map (·.1)) (fun m u => Td (upd G2 vd (.dK (putK kvs (Sum.inr (partOf sx)) v))) u (lookA acc m)) ∧ acc.map (·.1) = ((layS S r.2.1).take (i + 1)).map (·.2) ∧ en ≤ row.length ∧ rdS row (rdN rs (layS S) row n) r ((layS S r.2.1).drop (i + 1)) en acc = tot := fun d en' G2 v w10 w11 w12 s2 td2 le2 et2 => by
      have hv2 := s2 _ _ hvG
      have t2 := tups_upd (H := G2) (p := vd) (o := .dK (putK kvs (Sum.inr (partOf sx)) v)) fun u f z => by rw [hv2] at z; cases z; exact f
      refine ⟨en', acc ++ [(partOf sx, d)], w10, w11, w12, _, rfl, same_mut (sG.trans s2) hvd, rd_tups t2 (rd_same s2 hcG), upd_same, ?_, ?_, le2, et2⟩
      · rw [List.map_append]
        show KD _ (acc.map (·.1) ++ [partOf sx]) _
        rw [← addNew_of_not new]
        refine KD.put kd (fun j u nj h => ?_) ?_
        · rw [lookA_old nj]; exact (h.mono (tups_of s2)).mono t2
        · rw [lookA_new new]; exact td2.mono t2
      · rw [List.map_append, eacc, take_succ_of hsl, List.map_append]; rfl
    unfold rdP at etot
    rw [show partAt r.2.2 (hasLen sx, partOf sx).2 = p from epa] at etot
    refine ⟨_, rfl, sx, rfl, so.short r hr' sx hsm, ?_⟩
    refine ⟨_, rfl, x, dx, _, rfl, sG _ _ h0, kF_none (by decide +kernel), _, rfl, _, rfl, x, rs, r, p, by rw [ep] <;> rfl, hK.same sG, val, hr', hpm, ?_⟩
    rw [show (holdOf p).1 = p.2.1 from hold_kind pok hpm]
    refine ⟨_, rfl, rfl, _, rfl, ?_⟩
    have hraG := sG _ _ hra
    by_cases hb1 : p.2.1 = ("byte" : Str)
    · refine iteTe (by rw [eqStr]; exact decide_eq_true hb1) ?_
      simp only [if_pos hb1] at etot
      refine ⟨_, rfl, _, rfl, ra, row, en, rfl, hraG, lr, len, fun b eb t G2 s2 ht2 => ?_, fun eb => ?_⟩
      · rw [eb] at etot
        dsimp only at etot
        refine ⟨t, _, rfl, SqT.of ht2, rfl, _, _, rfl, _, rfl, _, rfl, vd, _, rfl, DPut.k (k := Sum.inr (partOf sx)) (s2 _ _ hvG) (small1000 lk), _, _, rfl, rfl, ?_⟩
        exact nxt _ _ _ _ _ _ _ s2 (.int _) (by have := (List.getElem?_eq_some_iff.mp eb).1; omega) etot
      · rw [eb] at etot
        dsimp only at etot
        exact (qf row.length (by rw [← etot])).same sG
    · refine iteFe (by rw [eqStr]; exact decide_eq_false hb1) ?_
      simp only [if_neg hb1] at etot
      have hk2 : p.2.1 ∈ rkinds rs := (val.inner r hr' p hpm).resolve_left hb1
      have lvl : (41 - ((n + 1 : Nat) : Int)) + 1 = 41 - ((n : Nat) : Int) := by omega
      refine ⟨_, rfl, sx, rfl, _, rfl, ?_⟩
      cases hs1 : hasLen sx with
      | true =>
        simp only [hs1, if_true] at etot
        refine iteT ⟨_, rfl, _, rfl, _, rfl, _, rfl, _, rfl, _, _, rfl, rfl, ?_⟩
        refine ⟨y, x, ra, p.2.1, en, row, rs, S, by show [V.ref y, V.str p.2.1, V.ref ra, V.int (en : Nat), V.int ((41 - ((n + 1 : Nat) : Int)) + 1)] = _; rw [lvl], hL.same sG, hK.same sG, val, so, hraG, hb, lr, len, hk2, by omega, fun d en' hr1 t tv G2 s2 ht2 td2 => ?_, fun e hr1 => ?_⟩
        · have etot2 : rdS row (rdN rs (layS S) row n) r ((layS S r.2.1).drop (i + 1)) en' (acc ++ [(partOf sx, d)]) = tot := by
            unfold rdM at hr1
            rw [hr1] at etot; exact etot
          have le' : en' ≤ row.length := by
            have := (rdP_ok val hb rdf hr' (s := (true, partOf sx)) hpm ep len).2 d en' (by unfold rdP; rw [show partAt r.2.2 ((true : Bool), partOf sx).2 = p from epa, if_neg hb1, if_pos rfl]; exact hr1)
            exact this.2.2
          refine ⟨t, _, rfl, SqT.of ht2, rfl, _, _, rfl, _, rfl, _, rfl, vd, _, rfl, DPut.k (k := Sum.inr (partOf sx)) (s2 _ _ hvG) (small1000 lk), _, _, rfl, rfl, ?_⟩
          exact nxt _ _ _ _ _ _ _ s2 td2 le' etot2
        · unfold rdM at hr1
          rw [hr1] at etot
          dsimp only at etot
          exact (qf e (by rw [← etot])).same sG
      | false =>
        simp only [hs1, Bool.false_eq_true, if_false] at etot
        refine iteF ⟨_, rfl, _, rfl, _, rfl, _, rfl, _, rfl, _, _, rfl, rfl, ?_⟩
        refine ⟨y, x, ra, p.2.1, en, row, rs, S, by show [V.ref y, V.str p.2.1, V.ref ra, V.int (en : Nat), V.int ((41 - ((n + 1 : Nat) : Int)) + 1)] = _; rw [lvl], hL.same sG, hK.same sG, val, so, hraG, hb, lr, len, hk2, by omega, fun d en' hr1 t tv G2 s2 ht2 td2 => ?_, fun e hr1 => ?_⟩
        · rw [hr1] at etot
          dsimp only at etot
          have le' := ((rdf p.2.1 en len).good _ _ hr1).2.2
          refine ⟨t, _, rfl, SqT.of ht2, rfl, _, _, rfl, _, rfl, _, rfl, vd, _, rfl, DPut.k (k := Sum.inr (partOf sx)) (s2 _ _ hvG) (small1000 lk), _, _, rfl, rfl, ?_⟩
          exact nxt _ _ _ _ _ _ _ s2 td2 le' etot
        · rw [hr1] at etot
          dsimp only at etot
          exact (qf e (by rw [← etot])).same sG
  rintro σ G ⟨en, acc, v10, v11, v12, kvs, rfl, sG, hcG, hvG, kd, eacc, len, etot⟩
  have ilen : (layS S r.2.1).length = (S r.2.1).length := by rw [eS, List.length_map]
  rw [List.length_map, ← ilen, List.take_length] at eacc
  rw [List.length_map, ← ilen, List.drop_length] at etot
  have etot : tot = .inr (acc, en) := by rw [← etot]; rfl
  have qt2 := qt (treeOf r acc) en (by rw [etot])
  have inn : ∀ q ∈ r.2.2, q.1 ∈ acc.map (·.1) := fun q hq => by rw [eacc]; exact (ok.perm r hr').mem_iff.mpr (List.mem_map_of_mem hq)
  -- the tree
  refine ⟨_, rfl, by show 1 ≤ sizeLine; decide, fun l1 hl1 => ?_⟩
  have s2 := same_new (o := .lst [V.str r.2.1]) hl1
  have sG2 := sG.trans s2
  refine ⟨_, rfl, x, dx, _, rfl, sG2 _ _ h0, kF_none (by decide +kernel), _, rfl, x, rs, r, rfl, hK.same sG2, val, hr', fun v2 H3 s3 tx => ?_⟩
  obtain ⟨t1, o1, rfl, ho1, ht1⟩ := tx
  have hvG3 := s3 _ _ (s2 _ _ hvG)
  have kd3 : KD kvs (acc.map (·.1)) (fun m v => Td H3 v (lookA acc m)) := KD.mono kd fun _ _ z => z.mono (tups_of (s2.trans s3))
  have hl13 := s3 _ _ (upd_same (H := G) (a := l1) (o := .lst [V.str r.2.1]))
  refine ⟨t1, rfl, ⟨_, sqT_frz ht1⟩, fun D hD => lc_it (walk_tup (K := K) (a := t1) (xs := (r.2.2.map (·.1)).map V.str)) (fun i H4 => Same H3 H4 ∧ ∃ ws, H4 D = some (.lst ws) ∧ TdAll H3 ws ((r.2.2.take i).map fun q => lookA acc q.1)) ⟨same_new hD, [], upd_same, .nil⟩ (fun i H4 _ z => sqT_frz (z.1 _ _ ht1)) ?_ ?_⟩
  · rintro i z H5 H4 hi ⟨s4, ws, hacc, hws⟩ ⟨rfl, hz⟩
    rw [List.getElem?_map, List.getElem?_map, Option.map_eq_some_iff] at hz
    obtain ⟨nm, hnm, rfl⟩ := hz
    rw [Option.map_eq_some_iff] at hnm
    obtain ⟨q, hq, rfl⟩ := hnm
    have hqm := List.mem_of_getElem? hq
    obtain ⟨u, eu, hu1⟩ := KD.some kd3 (inn q hqm)
    have lws := hws.length
    rw [List.length_map, List.length_take] at lws
    refine ⟨rfl, _, rfl, _, rfl, vd, _, rfl, (by rw [← eu]; exact DGet.k (k := Sum.inr q.1) (s4 _ _ hvG3)), _, hacc, small1000 (by omega), same_mut s4 hD, _, upd_same, ?_⟩
    rw [take_succ_of hq, List.map_append]
    exact TdAll.snoc hws hu1
  rintro H4 ⟨s4, ws, hD4, hws⟩
  rw [List.length_map, List.length_map, List.take_length] at hws
  have lws := hws.length
  rw [List.length_map] at lws
  have s14 := s3.trans s4
  refine ⟨l1, D, _, _, rfl, rfl, s4 _ _ hl13, hD4, by show 1 + ws.length ≤ sizeLine; exact Nat.le_trans (show 1 + ws.length ≤ 5 by omega) (by decide), fun lt hlt => ?_⟩
  have s5 := same_new (o := .lst ([V.str r.2.1] ++ ws)) hlt
  refine ⟨_, rfl, lt, _, rfl, .inl ⟨SqL.of upd_same, fun t ht => ?_⟩⟩
  have s6' := same_new (o := .tup ([V.str r.2.1] ++ ws)) ht
  refine ⟨_, rfl, by show 2 ≤ sizeLine; decide, fun t2 ht2 => ?_⟩
  have s7 := same_new (o := .tup [V.ref t, V.int ((en : Nat) : Int)]) ht2
  have sall := sG2.trans (s14.trans (s5.trans (s6'.trans s7)))
  refine qt2 t2 (.ref t) _ sall upd_same ?_
  refine .tup (xs := V.str r.2.1 :: ws) (s7 _ _ upd_same) (.cons (.str _) (TdAll.mono (tups_of (s4.trans (s5.trans (s6'.trans s7)))) hws))
theorem okx_rn (T : Tx K mg) {fm : FuncData} (F : FnP K ("read_node", none) "read_node" "read_node" s_read_node fd) (Fm : FnP K ("read_measured", none) "read_measured" "read_measured" s_read_measured fm) : ∀ n, FnOk P w K mg base (L2.CX P w) (2 * n + 4) (He.fAd K ("read_node", none)) fd p_read_node (spRN K n)
  | 0 => okx_rn0 (m := 0) T F
  | n + 1 => by
    have G := okx_rn T F Fm n
    exact okx_rn1 T G (okx_rmeas T G F (by omega) Fm) Fm (by omega) F
theorem okx_rn40 (T : Tx K mg) (F : FnP K ("read_node", none) "read_node" "read_node" s_read_node fd) : FnOk P w K mg base (L2.CX P w) 84 (He.fAd K ("read_node", none)) fd p_read_node (spRN K 40) := by
  obtain ⟨fm, Fm⟩ := T.F_read_measured
  exact okx_rn T F Fm 40
/-- a row, read whole -/
def rdW (rs : List Row) (lay : LayM) (row : List Nat) (k : Str) : Sum Nat PyData := match rdN rs lay row 40 k 0 with
  | .inl e => .inl e
  | .inr (d, en) => if en < row.length then .inl en else .inr d
def spUnp (K : PySem.W.Frag) : Sp := fun vs H Q E => ∃ (y x ra : Addr) (k : Str) (row : List Nat) (rs : List Row) (S : Str → List Str), vs = [.ref y, .str k, .ref ra] ∧ LayAt K H y x rs S ∧ KindsF K H x rs ∧ ValidT rs ∧ SpecsOk rs S ∧
  H ra = some (.lst (rowV row)) ∧ (∀ b ∈ row, b ≤ 255) ∧ row.length ≤ 1000000 ∧ k ∈ rkinds rs ∧
  (∀ d, rdW rs (layS S) row k = .inr d → ∀ tv H', Same H H' → Td H' tv d → Q tv H') ∧ (∀ e, rdW rs (layS S) row k = .inl e → RaisesBR K H e E)
theorem okx_unpack (T : Tx K mg) (F : FnP K ("unpack", none) "unpack" "unpack" s_unpack fd) : FnOk P w K mg base (L2.CX P w) 85 (He.fAd K ("unpack", none)) fd p_unpack (spUnp K) := by
  refine F.ok (k := 84) sc_unpack (fun vs H Q E h => ?_) (fun cdv A outer s H vs Q E hr h => ?_)
  · obtain ⟨_, _, _, _, _, _, _, rfl, _⟩ := h; rfl
  obtain ⟨y, x, ra, k, row, rs, S, rfl, hL, hK, val, so, hra, hb, lr, hk, qt, qf⟩ := h
  have lrv : (rowV row).length = row.length := List.length_map _
  unfold rdW at qt qf
  obtain ⟨f1, F1⟩ := T.F_read_node
  obtain ⟨f2, F2⟩ := T.F_BadRow_init
  have nd := sc_unpack.nd
  refine ⟨_, (pss_cons (ps_asg (pe_call (okx_rn40 T F1) (hr.mono (by omega)) (by rfl) T.g_read_node T.k_read_node (b_read_node F1) .nil (passX (takes_of rfl rfl rfl rfl)) (pa_cons (pv 0) (pa_cons (pv 1) (pa_cons (pv 2) (pa_cons pe_int (pa_cons pe_int pa_nil)))))) (pg_tup rfl (pgs_cons (pg_name (i := 3) nd rfl (Or.inl rfl)) (pgs_cons (pg_name (i := 4) nd rfl (Or.inl rfl)) pgs_nil))))
    (pss_cons (ps_if (pt_cmpR op_lt (pv 4) (pe_callB call_len_seq (by rfl) T.n_len PySem.boot_len (pa_cons (pv 2) pa_nil)) (nomark _))
      (pss_one (ps_raise rfl (takes_of rfl rfl rfl rfl) (pmk_oex T.x_BadRow.oex T.m_BadRow_init.at_ (beq_iff_eq.mp T.m_BadRow_init.fn) (ok_bri T F2) (hr.mono (by omega)) (b_BadRow_init F2) .nil pass0 (by rfl) T.g_BadRow (pa_cons (pv 4) pa_nil))))
      pss_nil)
    (pss_one (ps_ret (pv 3))))), ?_⟩
  refine ⟨_, rfl, _, rfl, _, rfl, y, x, ra, k, 0, row, rs, S, rfl, hL, hK, val, so, hra, hb, lr, Nat.zero_le _, hk, by decide, fun d en hr1 t tv H1 s1 ht td => ?_, fun e hr1 => qf e (by rw [hr1])⟩
  rw [hr1] at qt qf
  dsimp only at qt qf
  have ok := rdN_ok val (layS_ok val so) hb 40 k 0 (Nat.zero_le _)
  obtain ⟨_, _, g3⟩ := ok.good _ _ hr1
  refine ⟨t, _, rfl, SqT.of ht, rfl, _, _, rfl, _, _, rfl, rfl, ?_⟩
  refine ⟨_, rfl, _, rfl, ra, _, rfl, .inl (SqL.of (s1 _ _ hra)), _, _, rfl, rfl, _, rfl, ?_⟩
  by_cases he : en < row.length
  · exact iteTe (decide_eq_true (by rw [lrv]; omega)) ⟨_, rfl, raiseR_read (by omega) ((qf en (by rw [if_pos he])).same s1)⟩
  · exact iteFe (decide_eq_false (by rw [lrv]; omega)) ⟨_, rfl, qt d (by rw [if_neg he]) tv H1 s1 td⟩
end
end Bg
set_option Elab.async false
set_option linter.all false
set_option maxRecDepth 100000
set_option maxHeartbeats 4000000
/-! rows that are spoilt -/
namespace Bg
open PySem PySem.Spec PyProof.Rows L2
def ByV (xs : List V) : Prop := ∀ v ∈ xs, ∃ n : Nat, v = .int (n : Nat) ∧ n ≤ 255
theorem byV_row : ∀ {xs : List V}, ByV xs → ∃ row : List Nat, xs = rowV row ∧ ∀ b ∈ row, b ≤ 255
  | [], _ => ⟨[], rfl, by simp⟩
  | v :: xs, h => by
    obtain ⟨n, e, l⟩ := h v (List.mem_cons_self ..)
    obtain ⟨row, e2, l2⟩ := byV_row (xs := xs) fun u hu => h u (List.mem_cons_of_mem _ hu)
    exact ⟨n :: row, by rw [e, e2]; rfl, fun b hb => (List.mem_cons.mp hb).elim (fun z => by omega) (l2 b)⟩
theorem ByV.app {xs ys : List V} (h : ByV xs) (g : ByV ys) : ByV (xs ++ ys) := fun v hv => by
  rcases List.mem_append.mp hv with z | z
  · exact h v z
  · exact g v z
theorem ByV.take {xs : List V} (h : ByV xs) (n : Nat) : ByV (xs.take n) := fun v hv => h v (List.mem_of_mem_take hv)
theorem ByV.drop {xs : List V} (h : ByV xs) (n : Nat) : ByV (xs.drop n) := fun v hv => h v (List.mem_of_mem_drop hv)
theorem ByV.one {z : Int} (h : 0 ≤ z) (g : z < 256) : ByV [.int z] := fun v hv => by
  rw [List.mem_singleton] at hv
  exact ⟨z.toNat, by rw [hv, Int.toNat_of_nonneg h], by omega⟩
theorem ByV.nil : ByV [] := fun v hv => by cases hv
section
variable {P : Program} {w : World} {K : PySem.W.Frag} {mg : Str → Option Value} {base : Heap} {fd : FuncData}
def spSpoilt : Sp := fun vs H Q _ => ∃ (pool ra rb : Addr) (xs ys : List V) (way : Nat), vs = [.ref pool, .ref ra, .ref rb, .int (way : Nat)] ∧ PoolAt H pool ∧ ra ≠ pool ∧ rb ≠ pool ∧ H ra = some (.lst xs) ∧ H rb = some (.lst ys) ∧ ByV xs ∧ ByV ys ∧ 0 < xs.length ∧ xs.length ≤ 100000 ∧ ys.length ≤ 100000 ∧
  ∀ a zs H', But pool H H' → PoolAt H' pool → a ≠ pool → H' a = some (.lst zs) → ByV zs → zs.length ≤ 400000 → Q (.ref a) H'
theorem ok_spoilt (T : Tx K mg) (F : FnP K ("_law_spoilt", none) "_law_spoilt" "_law_spoilt" s__law_spoilt fd) : FnOk P w K mg base CX0 3 (He.fAd K ("_law_spoilt", none)) fd p__law_spoilt spSpoilt := by
  refine F.ok (k := 2) sc__law_spoilt (fun vs H Q E h => ?_) (fun cdv A outer s H vs Q E hr h => ?_)
  · obtain ⟨_, _, _, _, _, _, rfl, _⟩ := h; rfl
  obtain ⟨pool, ra, rb, xs, ys, way, rfl, hP, na, nb, hra, hrb, bx, by_, lpos, lx, ly, q⟩ := h
  have hu := hu_of hr
  have big : 1000000 ≤ sizeLine := by rw [sizeLine_eq]; decide
  obtain ⟨f1, F1⟩ := T.F__law_take
  have nd := sc__law_spoilt.nd
  refine ⟨_, PSs.nox (pss_cons (ps_set (i := 4) nd rfl (.inl rfl) (pe_call (ok_take T F1) (hr.mono (by omega)) (by rfl) T.g_law_take T.k_law_take (b__law_take F1) .nil pass0 (pa_cons (pv 0) (pa_cons (pe_callB call_len_seq (by rfl) T.n_len PySem.boot_len (pa_cons (pv 1) pa_nil)) pa_nil))))
    (pss_cons (ps_if (pt_cmpR op_eq (pv 3) pe_int (nomark _))
      (pss_one (ps_ret (pe_slice sl_list (pv 1) po_none (po_some (pv 4)))))
      pss_nil)
    (pss_cons (ps_if (pt_cmpR op_eq (pv 3) pe_int (nomark _))
      (pss_one (ps_ret (pe_op op_cat (pv 1) (pe_lst (pa_cons (pe_call (ok_take T F1) (hr.mono (by omega)) (by rfl) T.g_law_take T.k_law_take (b__law_take F1) .nil pass0 (pa_cons (pv 0) (pa_cons pe_int pa_nil))) pa_nil)))))
      pss_nil)
    (pss_cons (ps_if (pt_cmpR op_eq (pv 3) pe_int (nomark _))
      (pss_one (ps_ret (pe_op op_cat (pe_op op_cat (pe_slice sl_list (pv 1) po_none (po_some (pv 4))) (pe_lst (pa_cons (pe_call (ok_take T F1) (hr.mono (by omega)) (by rfl) T.g_law_take T.k_law_take (b__law_take F1) .nil pass0 (pa_cons (pv 0) (pa_cons pe_int pa_nil))) pa_nil))) (pe_slice sl_list (pv 1) (po_some (pe_op op_add (pv 4) pe_int)) po_none))))
      pss_nil)
    (pss_cons (ps_if (pt_cmpR op_eq (pv 3) pe_int (nomark _))
      (pss_one (ps_ret (pe_op op_cat (pe_op op_cat (pe_slice sl_list (pv 1) po_none (po_some (pv 4))) (pe_lst (pa_cons (pe_op op_mod (pe_callTy call_int1 (by rfl) T.n_int (by decide +kernel) (pa_cons (pe_op op_add (pe_ix ix_list (pv 1) (pv 4) (fun _ _ => rfl)) (pe_ix ix_list (pe_lst (pa_cons pe_int (pa_cons pe_int pa_nil))) (pe_call (ok_take T F1) (hr.mono (by omega)) (by rfl) T.g_law_take T.k_law_take (b__law_take F1) .nil pass0 (pa_cons (pv 0) (pa_cons pe_int pa_nil))) (fun _ _ => rfl))) pa_nil)) pe_int) pa_nil))) (pe_slice sl_list (pv 1) (po_some (pe_op op_add (pv 4) pe_int)) po_none))))
      pss_nil)
    (pss_cons (ps_if (pt_cmpR op_eq (pv 3) pe_int (nomark _))
      (pss_one (ps_ret (pe_op op_cat (pv 1) (pv 2))))
      pss_nil)
    (pss_cons (ps_if (pt_cmpR op_eq (pv 3) pe_int (nomark _))
      (pss_one (ps_ret (pe_lc (own := [("_law_turn", 5)]) (g := gName 5) rfl nd (pi_range1 rfl T.n_range (pa_cons (pe_call (ok_take T F1) (hr.mono (by omega)) (by rfl) T.g_law_take T.k_law_take (b__law_take F1) .nil pass0 (pa_cons (pv 0) (pa_cons pe_int pa_nil))) pa_nil)) (blkOk_by (N := ["_law_pool_here", "_law_row", "_law_other", "_law_way", "_law_at", "_law_turn"]) (sc := defScope s__law_spoilt) (by decide +kernel)) (fun _ _ _ _ _ => (pg_name (i := 5) nd rfl (Or.inl rfl))) (fun _ _ _ _ _ => pts_nil) (fun _ _ _ _ _ => (pe_call (sp := spTake) (E := E0) (ok_take T F1) (hr.mono (by omega)) (by rfl) T.g_law_take T.k_law_take (b__law_take F1) .nil pass0 (pa_cons (pv 0) (pa_cons pe_int pa_nil)))))))
      pss_nil)
    (pss_one (ps_ret (pe_lc (own := [("_law_turn", 5)]) (g := gName 5) rfl nd (pi_range1 rfl T.n_range (pa_cons (pe_call (ok_take T F1) (hr.mono (by omega)) (by rfl) T.g_law_take T.k_law_take (b__law_take F1) .nil pass0 (pa_cons (pv 0) (pa_cons pe_int pa_nil))) pa_nil)) (blkOk_by (N := ["_law_pool_here", "_law_row", "_law_other", "_law_way", "_law_at", "_law_turn"]) (sc := defScope s__law_spoilt) (by decide +kernel)) (fun _ _ _ _ _ => (pg_name (i := 5) nd rfl (Or.inl rfl))) (fun _ _ _ _ _ => pts_nil) (fun _ _ _ _ _ => (pe_call (sp := spTake) (E := E0) (ok_take T F1) (hr.mono (by omega)) (by rfl) T.g_law_take T.k_law_take (b__law_take F1) .nil pass0 (pa_cons (pv 0) (pa_cons pe_int pa_nil)))))))))))))), ?_⟩
  refine ⟨_, rfl, _, rfl, ra, _, rfl, .inl (SqL.of hra), pool, _, rfl, hP, by omega, fun z G z0 z1 b1 hP1 => ?_⟩
  obtain ⟨j, rfl⟩ := Int.eq_ofNat_of_zero_le z0
  have hra1 := b1 _ _ na hra
  have hrb1 := b1 _ _ nb hrb
  have lj : j < xs.length := by omega
  have fresh : ∀ {G' : Hp} {p : Addr}, But pool H G' → PoolAt G' pool → G' p = none → p ≠ pool := fun _ hP' hp e => hP'.ne_new hp e.symm
  -- cut short
  refine ⟨_, rfl, rfl, _, rfl, ite2 (fun _ => ?_) (fun _ => ?_)⟩
  · refine ⟨_, rfl, _, rfl, _, rfl, ra, xs, rfl, SqL.of hra1, fun p hp => ?_⟩
    have s := same_new (o := .lst (cutV xs none (some (j : Int)))) hp
    refine q p _ _ (b1.trans (but_of s)) (hP1.same s) (hP1.ne_new hp).symm upd_same (by rw [cutV_take]; exact bx.take j) ?_
    rw [cutV_take, List.length_take]; omega
  -- a byte more
  refine ⟨_, rfl, rfl, _, rfl, ite2 (fun _ => ?_) (fun _ => ?_)⟩
  · refine ⟨_, rfl, _, rfl, pool, 256, rfl, hP1, by decide, fun w G2 w0 w1 b2 hP2 => ⟨by show 1 ≤ sizeLine; decide, fun l hl => ?_⟩⟩
    have s := same_new (o := .lst [V.int w]) hl
    have hra2 := s _ _ (b2 _ _ na hra1)
    refine ⟨ra, l, xs, [.int w], rfl, rfl, hra2, upd_same, by show xs.length + 1 ≤ sizeLine; omega, fun p hp => ?_⟩
    have s2 := same_new (o := .lst (xs ++ [V.int w])) hp
    refine q p _ _ (b1.trans (b2.trans (but_of (s.trans s2)))) (hP2.same (s.trans s2)) ((hP2.same s).ne_new hp).symm upd_same (bx.app (.one w0 w1)) ?_
    rw [List.length_append]; show xs.length + 1 ≤ _; omega
  -- one byte anew, or by one more or less
  refine ⟨_, rfl, rfl, _, rfl, ite2 (fun _ => ?_) (fun _ => ?_)⟩
  · refine ⟨_, rfl, _, rfl, _, rfl, ra, xs, rfl, SqL.of hra1, fun p hp => ?_⟩
    have s := same_new (o := .lst (cutV xs none (some (j : Int)))) hp
    refine ⟨_, rfl, pool, 256, rfl, hP1.same s, by decide, fun w G2 w0 w1 b2 hP2 => ⟨by show 1 ≤ sizeLine; decide, fun l hl => ?_⟩⟩
    have s2 := same_new (o := .lst [V.int w]) hl
    have np := (hP1.ne_new hp).symm
    have hp2 := s2 _ _ (b2 _ _ np upd_same)
    rw [cutV_take] at hp2
    have hra2 := s2 _ _ (b2 _ _ na (s _ _ hra1))
    refine ⟨p, l, _, _, rfl, rfl, hp2, upd_same, by rw [List.length_take]; show _ + 1 ≤ sizeLine; omega, fun p3 hp3 => ?_⟩
    have s3 := same_new (o := .lst (xs.take j ++ [V.int w])) hp3
    refine ⟨_, rfl, _, rfl, _, _, rfl, rfl, _, rfl, ra, xs, rfl, SqL.of (s3 _ _ hra2), fun p4 hp4 => ?_⟩
    have s4 := same_new (o := .lst (cutV xs (some ((j : Int) + 1)) none)) hp4
    have e4 : cutV xs (some ((j : Int) + 1)) none = xs.drop (j + 1) := cutV_drop xs (j + 1)
    rw [e4] at s4 ⊢
    have l4 : (xs.drop (j + 1)).length ≤ xs.length := by rw [List.length_drop]; omega
    have l3 : (xs.take j ++ [V.int w]).length ≤ xs.length + 1 := by rw [List.length_append, List.length_take]; show _ + 1 ≤ _; omega
    refine ⟨p3, p4, _, _, rfl, rfl, s4 _ _ upd_same, upd_same, by omega, fun p5 hp5 => ?_⟩
    have s5 := same_new (o := .lst ((xs.take j ++ [V.int w]) ++ xs.drop (j + 1))) hp5
    have s25 := s2.trans (s3.trans (s4.trans s5))
    refine q p5 _ _ (b1.trans ((but_of s).trans (b2.trans (but_of s25)))) (hP2.same s25) ((hP2.same (s2.trans (s3.trans s4))).ne_new hp5).symm upd_same (((bx.take j).app (.one w0 w1)).app (bx.drop _)) ?_
    rw [List.length_append]; omega
  refine ⟨_, rfl, rfl, _, rfl, ite2 (fun _ => ?_) (fun _ => ?_)⟩
  · refine ⟨_, rfl, _, rfl, _, rfl, ra, xs, rfl, SqL.of hra1, fun p hp => ?_⟩
    have s := same_new (o := .lst (cutV xs none (some (j : Int)))) hp
    have np := (hP1.ne_new hp).symm
    obtain ⟨n0, e0, l0⟩ := bx _ (List.getElem_mem lj)
    have ix0 : atI xs (j : Int) = some (.int (n0 : Nat)) := atI_nat (by rw [List.getElem?_eq_getElem lj, e0])
    refine ⟨_, rfl, _, rfl, ra, _, _, _, rfl, rfl, SqL.of (s _ _ hra1), ix0, by show 2 ≤ sizeLine; omega, fun l0 hl0 => ?_⟩
    have s0 := same_new (o := .lst [V.int 1, V.int 255]) hl0
    have nl0 := ((hP1.same s).ne_new hl0).symm
    refine ⟨_, rfl, pool, 2, rfl, (hP1.same s).same s0, by decide, fun u G2 u0 u1 b2 hP2 => ?_⟩
    obtain ⟨c, rfl⟩ := Int.eq_ofNat_of_zero_le u0
    have hl1 := b2 _ _ nl0 (upd_same (H := upd G p (.lst (cutV xs none (some (j : Int))))) (a := l0) (o := .lst [V.int 1, V.int 255]))
    obtain ⟨g, eg⟩ : ∃ g : Int, atI [V.int 1, V.int 255] (c : Int) = some (.int g) := by
      have : c = 0 ∨ c = 1 := by omega
      rcases this with rfl | rfl
      · exact ⟨1, atI_nat (j := 0) rfl⟩
      · exact ⟨255, atI_nat (j := 1) rfl⟩
    refine ⟨l0, _, _, _, rfl, rfl, SqL.of hl1, eg, _, _, rfl, rfl, ?_⟩
    refine .inl ⟨_, rfl, _, _, rfl, rfl, by show (0 : Int) < 256; decide, by show 1 ≤ sizeLine; decide, fun l hl => ?_⟩
    have w0 : 0 ≤ ((((n0 : Nat) : Int) + g) % 256) := by omega
    have w1 : ((((n0 : Nat) : Int) + g) % 256) < 256 := by omega
    have s2 := same_new (o := .lst [V.int ((((n0 : Nat) : Int) + g) % 256)]) hl
    have hp2 := s2 _ _ (b2 _ _ np (s0 _ _ upd_same))
    rw [cutV_take] at hp2
    have hra2 := s2 _ _ (b2 _ _ na (s0 _ _ (s _ _ hra1)))
    refine ⟨p, l, _, _, rfl, rfl, hp2, upd_same, by rw [List.length_take]; show _ + 1 ≤ sizeLine; omega, fun p3 hp3 => ?_⟩
    have s3 := same_new (o := .lst (xs.take j ++ [V.int ((((n0 : Nat) : Int) + g) % 256)])) hp3
    refine ⟨_, rfl, _, rfl, _, _, rfl, rfl, _, rfl, ra, xs, rfl, SqL.of (s3 _ _ hra2), fun p4 hp4 => ?_⟩
    have s4 := same_new (o := .lst (cutV xs (some ((j : Int) + 1)) none)) hp4
    have e4 : cutV xs (some ((j : Int) + 1)) none = xs.drop (j + 1) := cutV_drop xs (j + 1)
    rw [e4] at s4 ⊢
    have l4 : (xs.drop (j + 1)).length ≤ xs.length := by rw [List.length_drop]; omega
    have l3 : (xs.take j ++ [V.int ((((n0 : Nat) : Int) + g) % 256)]).length ≤ xs.length + 1 := by rw [List.length_append, List.length_take]; show _ + 1 ≤ _; omega
    refine ⟨p3, p4, _, _, rfl, rfl, s4 _ _ upd_same, upd_same, Nat.le_trans (Nat.add_le_add l3 l4) (by omega), fun p5 hp5 => ?_⟩
    have s5 := same_new (o := .lst ((xs.take j ++ [V.int ((((n0 : Nat) : Int) + g) % 256)]) ++ xs.drop (j + 1))) hp5
    have s25 := s2.trans (s3.trans (s4.trans s5))
    refine q p5 _ _ (b1.trans ((but_of s).trans ((but_of s0).trans (b2.trans (but_of s25))))) (hP2.same s25) ((hP2.same (s2.trans (s3.trans s4))).ne_new hp5).symm upd_same (((bx.take j).app (.one w0 w1)).app (bx.drop _)) ?_
    show ((xs.take j ++ [V.int ((((n0 : Nat) : Int) + g) % 256)]) ++ xs.drop (j + 1)).length ≤ _
    rw [List.length_append]; omega
  -- both
  refine ⟨_, rfl, rfl, _, rfl, ite2 (fun _ => ?_) (fun _ => ?_)⟩
  · refine ⟨_, rfl, _, rfl, ra, rb, xs, ys, rfl, rfl, hra1, hrb1, by omega, fun p hp => ?_⟩
    have s := same_new (o := .lst (xs ++ ys)) hp
    exact q p _ _ (b1.trans (but_of s)) (hP1.same s) (hP1.ne_new hp).symm upd_same (bx.app by_) (by rw [List.length_append]; omega)
  -- drawn rows
  refine ⟨_, rfl, rfl, _, rfl, ite2 (fun _ => ?_) (fun _ => ?_)⟩
  · refine ⟨_, rfl, pool, 61, rfl, hP1, by decide, fun m G2 m0 m1 b2 hP2 => ⟨_, rfl, by show -(2 ^ 62) ≤ m; omega, by show m < 2 ^ 62; omega, fun D hD => lc_it walk_range (fun i H4 => But pool G2 H4 ∧ PoolAt H4 pool ∧ ∃ zs, H4 D = some (.lst zs) ∧ ByV zs ∧ zs.length = i) ⟨but_of (same_new hD), hP2.same (same_new hD), [], upd_same, .nil, rfl⟩ (fun _ _ _ _ => trivial) ?_ ?_⟩⟩
    · rintro i x H4 H5 hi ⟨b4, hP4, zs, hz, bz, lz⟩ ⟨rfl, rfl⟩
      have nD := (hP2.ne_new hD).symm
      have li : i < m.toNat := hi
      refine ⟨rfl, _, rfl, pool, 4, rfl, hP4, by decide, fun w G5 w0 w1 b5 hP5 => ⟨zs, b5 _ _ nD hz, by rw [lz]; exact small1000 (by omega), ?_⟩⟩
      refine ⟨fun c o n e => ?_, hP5.upd nD.symm, _, upd_same, bz.app (.one w0 (by omega)), by rw [List.length_append, lz]; rfl⟩
      rw [upd_ne (ne_of_none e hD)]; exact b5 _ _ n (b4 _ _ n e)
    rintro H4 ⟨b4, hP4, zs, hz, bz, lz⟩
    have lz : zs.length = m.toNat := lz
    exact q D zs _ (b1.trans (b2.trans b4)) hP4 (hP2.ne_new hD).symm hz bz (by omega)
  refine ⟨_, rfl, pool, 31, rfl, hP1, by decide, fun m G2 m0 m1 b2 hP2 => ⟨_, rfl, by show -(2 ^ 62) ≤ m; omega, by show m < 2 ^ 62; omega, fun D hD => lc_it walk_range (fun i H4 => But pool G2 H4 ∧ PoolAt H4 pool ∧ ∃ zs, H4 D = some (.lst zs) ∧ ByV zs ∧ zs.length = i) ⟨but_of (same_new hD), hP2.same (same_new hD), [], upd_same, .nil, rfl⟩ (fun _ _ _ _ => trivial) ?_ ?_⟩⟩
  · rintro i x H4 H5 hi ⟨b4, hP4, zs, hz, bz, lz⟩ ⟨rfl, rfl⟩
    have nD := (hP2.ne_new hD).symm
    have li : i < m.toNat := hi
    refine ⟨rfl, _, rfl, pool, 256, rfl, hP4, by decide, fun w G5 w0 w1 b5 hP5 => ⟨zs, b5 _ _ nD hz, by rw [lz]; exact small1000 (by omega), ?_⟩⟩
    refine ⟨fun c o n e => ?_, hP5.upd nD.symm, _, upd_same, bz.app (.one w0 (by omega)), by rw [List.length_append, lz]; rfl⟩
    rw [upd_ne (ne_of_none e hD)]; exact b5 _ _ n (b4 _ _ n e)
  rintro H4 ⟨b4, hP4, zs, hz, bz, lz⟩
  have lz : zs.length = m.toNat := lz
  exact q D zs _ (b1.trans (b2.trans b4)) hP4 (hP2.ne_new hD).symm hz bz (by omega)
end
end Bg
set_option Elab.async false
set_option linter.all false
set_option maxRecDepth 100000
set_option maxHeartbeats 4000000
/-! what unpack answers, as a pair -/
namespace Bg
open PySem PySem.Spec PyProof.Rows L2
section
variable {P : Program} {w : World} {K : PySem.W.Frag} {mg : Str → Option Value} {base : Heap} {fd : FuncData}
def spLIntC : Sp := fun vs H Q _ => ∃ n : Int, vs = [.int n] ∧ Q (.bl true) H
theorem okc_lint (T : Tx K mg) (F : FnP K ("_law_int", none) "_law_int" "_law_int" s__law_int fd) : FnC P w K mg base 1 (He.fAd K ("_law_int", none)) fd ["_law_value"] spLIntC := by
  refine Bg.FunD.okC (k := 0) F sc__law_int (fun vs H Q E h => ?_) (fun cdv A outer s H vs Q E p hr h => ?_)
  · obtain ⟨_, rfl, _⟩ := h; rfl
  obtain ⟨v, rfl, q⟩ := h
  refine ⟨_, (pss_one (ps_ret (pe_and (pe_callB call_isi (by rfl) T.n_isinstance (by decide +kernel) (pa_cons (pv 0) (pa_cons (pe_bltn (v := .ty "int") (by rfl) T.n_int (by decide +kernel) rfl) pa_nil)))
    (pe_one (pe_not (pe_callB call_isi (by rfl) T.n_isinstance (by decide +kernel) (pa_cons (pv 0) (pa_cons (pe_bltn (v := .ty "bool") (by rfl) T.n_bool (by decide +kernel) rfl) pa_nil)))))))), ?_⟩
  refine ⟨_, rfl, .int v, .ty "int", .type "int", .type "int", true, rfl, ClsV.ty _, TyX.base (TyOf.int v), kit_ty (by decide +kernel), _, rfl, iteT ?_⟩
  exact ⟨_, rfl, .int v, .ty "bool", .type "int", .type "bool", false, rfl, ClsV.ty _, TyX.base (TyOf.int v), kit_ty (by decide +kernel), _, rfl, q⟩
theorem at_lk (i : Nat) : ([("at", V.int (i : Nat))] : List (Str × V)).lookup ("at" : Str) = some (.int (i : Nat)) := by simp [List.lookup]
def spUpd (K : PySem.W.Frag) : Sp := fun vs H Q _ => ∃ (y x ra : Addr) (k : Str) (row : List Nat) (rs : List Row) (S : Str → List Str), vs = [.ref y, .str k, .ref ra] ∧ LayAt K H y x rs S ∧ KindsF K H x rs ∧ ValidT rs ∧ SpecsOk rs S ∧
  H ra = some (.lst (rowV row)) ∧ (∀ b ∈ row, b ≤ 255) ∧ row.length ≤ 1000000 ∧ k ∈ rkinds rs ∧
  (∀ d, rdW rs (layS S) row k = .inr d → ∀ t tv H', Same H H' → H' t = some (.tup [.str "tree", tv]) → Td H' tv d → Q (.ref t) H') ∧ (∀ e, rdW rs (layS S) row k = .inl e → ∀ t H', Same H H' → H' t = some (.tup [.str "bad", .int (e : Nat)]) → Q (.ref t) H')
theorem ok_unpd (T : Tx K mg) (F : FnP K ("_law_unpacked", none) "_law_unpacked" "_law_unpacked" s__law_unpacked fd) : FnOk P w K mg base CX0 86 (He.fAd K ("_law_unpacked", none)) fd p__law_unpacked (spUpd K) := by
  refine F.ok (k := 85) sc__law_unpacked (fun vs H Q E h => ?_) (fun cdv A outer s H vs Q E hr h => ?_)
  · obtain ⟨_, _, _, _, _, _, _, rfl, _⟩ := h; rfl
  obtain ⟨y, x, ra, k, row, rs, S, rfl, hL, hK, val, so, hra, hb, lr, hk, qt, qf⟩ := h
  have hr1 : L2H.RoomH 1 _ := L2H.roomH_of (hr.mono (by decide) : Room 1 _)
  obtain ⟨f1, F1⟩ := T.F_unpack
  obtain ⟨f2, F2⟩ := T.F__law_int
  have nd := sc__law_unpacked.nd
  refine ⟨_, (pss_cons (ps_try_as (i := 3) (Wout := fun _ _ _ _ => False) (c := .ref (He.ga K "GroveError")) rfl rfl nd rfl rfl ⟨by rfl, by decide, Or.inl T.g_GroveError⟩ takesN
      (fun W pn xe tk _ =>
        (pss_one (ps_ret (pe_tup (pa_cons pe_str (pa_cons (pe_callS (okx_unpack T F1) (hr.mono (by omega)) (by rfl) T.g_unpack T.k_unpack (b_unpack F1) (fun σ => passAt tk σ) (pa_cons (pv 0) (pa_cons (pv 1) (pa_cons (pv 2) pa_nil)))) pa_nil))))))
      (fun a' oe cls d pn hz hf =>
        (pss_cons (ps_if (pt_val (pe_callB (id := "isinstance") (r := rIsGT K a' cls d) (call_isGT hz hf) (by rfl) T.n_isinstance (by decide +kernel) (pa_cons (pv 3) (pa_cons (pe_tup (pa_cons (pe_glob (v := .ref _) (by rfl) T.g_BadFunctions rfl) (pa_cons (pe_glob (v := .ref _) (by rfl) T.g_BadKinds rfl) (pa_cons (pe_glob (v := .ref _) (by rfl) T.g_BadLayout rfl) (pa_cons (pe_glob (v := .ref _) (by rfl) T.g_BadTree rfl) (pa_cons (pe_glob (v := .ref _) (by rfl) T.g_NoLayout rfl) (pa_cons (pe_glob (v := .ref _) (by rfl) T.g_NotThere rfl) (pa_cons (pe_glob (v := .ref _) (by rfl) T.g_Stuck rfl) (pa_cons (pe_glob (v := .ref _) (by rfl) T.g_WrongLayout rfl) pa_nil))))))))) pa_nil))))
          (pss_one (ps_ret (pe_tup (pa_cons pe_str (pa_cons pe_int pa_nil)))))
          pss_nil)
        (pss_one (ps_if (PW.pt (pw_and (pt_val (pe_callB (id := "isinstance") (r := rIsG K a' cls d) (call_isG hz hf) (by rfl) T.n_isinstance (by decide +kernel) (pa_cons (pv 3) (pa_cons (pe_glob (v := .ref _) (by rfl) T.g_BadRow rfl) pa_nil)))) (pw_and (pt_val (pe_callB (id := "isinstance") (r := rIsG K a' cls d) (call_isG hz hf) (by rfl) T.n_isinstance (by decide +kernel) (pa_cons (pv 3) (pa_cons (pe_bltn (v := .ty "ValueError") (by rfl) T.n_ValueError (by decide +kernel) rfl) pa_nil)))) (pw_and1 (pt_val (pe_callC (p := (a', oe)) (sp := spLIntC) (okc_lint T F2) ⟨hr1.dp, hr1.un⟩ (List.mem_cons_self) (by rfl) T.g_law_int T.k_law_int (b__law_int F2) (pa_cons (pe_xf T.x_BadRow.xf T.na_BadRow_at hz hf (pv 3)) pa_nil)))))))
          (pss_one (ps_ret (pe_tup (pa_cons pe_str (pa_cons (pe_xf T.x_BadRow.xf T.na_BadRow_at hz hf (pv 3)) pa_nil)))))
          pss_nil)))))
    (pss_one (ps_ret (pe_tup (pa_cons pe_str (pa_cons pe_int pa_nil)))))), ?_⟩
  refine ⟨_, rfl, _, rfl, _, rfl, y, x, ra, k, row, rs, S, rfl, hL, hK, val, so, hra, hb, lr, hk, fun d hd tv H1 s1 td => ?_, fun e he dd H1 s1 e1 => ?_⟩
  · refine ⟨by show 2 ≤ sizeLine; decide, fun t ht => ?_⟩
    have s2 := same_new (o := .tup [V.str "tree", tv]) ht
    exact qt d hd t tv _ (s1.trans s2) upd_same (td.mono (tups_of s2))
  refine ⟨true, T.e_BadRow_GroveError, fun _ a' ha' => ?_, fun z => nomatch z⟩
  refine ⟨_, rfl, (by show 8 ≤ sizeLine; decide), fun tp htp => ?_⟩
  have s2 := same_new (o := .tup [V.ref (He.ga K "BadFunctions"), V.ref (He.ga K "BadKinds"), V.ref (He.ga K "BadLayout"), V.ref (He.ga K "BadTree"), V.ref (He.ga K "NoLayout"), V.ref (He.ga K "NotThere"), V.ref (He.ga K "Stuck"), V.ref (He.ga K "WrongLayout")]) htp
  have e2 := s2 _ _ e1
  refine ⟨tp, _, _, false, BR K, rfl, rfl, .inr ⟨dd, _, rfl, e2⟩, T.x_BadRow, upd_same, (.cons (.own _) (.cons (.own _) (.cons (.own _) (.cons (.own _) (.cons (.own _) (.cons (.own _) (.cons (.own _) (.cons (.own _) .nil)))))))), T.kit_BadRow_any, _, rfl, iteF ?_⟩
  refine ⟨_, rfl, .ref (BR K), .ref (BR K), true, BR K, rfl, rfl, .inr ⟨dd, _, rfl, e2⟩, T.x_BadRow, ClsV.own _, if_pos (beq_self_eq_true _), _, rfl, iteT ?_⟩
  refine ⟨_, rfl, .ty "ValueError", .type "ValueError", true, BR K, rfl, rfl, .inr ⟨dd, _, rfl, e2⟩, T.x_BadRow, ClsV.ty _, T.kit_BadRow_ValueError, _, rfl, iteT ?_⟩
  refine ⟨_, rfl, rfl, rfl, dd, _, .int (e : Nat), rfl, e2, at_lk e, _, rfl, _, rfl, iteT ?_⟩
  refine ⟨_, rfl, rfl, rfl, dd, _, .int (e : Nat), rfl, e2, at_lk e, by show 2 ≤ sizeLine; decide, fun t ht => ?_⟩
  exact qf e he t _ ((s1.trans s2).trans (same_new ht)) upd_same
end
end Bg
set_option Elab.async false
set_option linter.all false
set_option maxRecDepth 100000
set_option maxHeartbeats 4000000
/-! the law's own pack -/
namespace Bg
open PySem PySem.Spec PyProof.Rows L2 CwR
section
variable {P : Program} {w : World} {K : PySem.W.Frag} {mg : Str → Option Value} {base : Heap} {fd : FuncData} {H : Hp} {Q : VK}
def spPK (n : Nat) : Sp := fun vs H Q _ => ∃ (lr sp : Addr) (v : V) (rs : List Row) (lay : LayM) (k : Str) (d : PyData), vs = [.ref lr, .ref sp, v] ∧ RowsAt H lr rs ∧ ValidT rs ∧ SpecAt H sp rs lay ∧ LayOk rs lay ∧ Td H v d ∧ fitB rs n k d = true ∧ wt d ≤ 1000000 ∧
  ∀ a H', Same H H' → H a = none → H' a = some (.lst ((packR rs lay d).map V.int)) → Q (.ref a) H'
theorem ok_pk0 : FnOk P w K mg base CX0 1 (He.fAd K ("_law_pack", none)) fd p__law_pack (spPK 0) := by
  refine ⟨fun vs H Q E h => ?_, fun A outer s H args us vs Q E hr e0 hb r h => ?_⟩
  · obtain ⟨_, _, _, _, _, _, _, rfl, _⟩ := h; rfl
  · obtain ⟨_, _, _, _, _, _, _, _, _, _, _, _, _, h, _⟩ := h; cases h
theorem ok_pk1 (T : Tx K mg) {n : Nat} (G : FnOk P w K mg base CX0 (n + 1) (He.fAd K ("_law_pack", none)) fd p__law_pack (spPK n)) (F : FnP K ("_law_pack", none) "_law_pack" "_law_pack" s__law_pack fd) : FnOk P w K mg base CX0 (n + 2) (He.fAd K ("_law_pack", none)) fd p__law_pack (spPK (n + 1)) := by
  refine F.ok (k := n + 1) sc__law_pack (fun vs H Q E h => ?_) (fun cdv A outer s H vs Q E hr h => ?_)
  · obtain ⟨_, _, _, _, _, _, _, rfl, _⟩ := h; rfl
  obtain ⟨lr, sp, v, rs, lay, k, d, rfl, ⟨us, ha, al⟩, val, hsp, ok, td, hf, hw, q⟩ := h
  have hu := hu_of hr
  obtain ⟨m, ds, r, rfl, hrow, hall⟩ := fitB_inv hf
  obtain ⟨hr', e1, e2⟩ := rowAt_of hrow
  subst e1 e2
  cases td with
  | @tup a xs _ ht ta =>
  cases ta with
  | cons t0 td =>
  rename_i ws
  cases t0
  have ld := allV_len hall
  have l4 := val.four r hr'
  have lw : ws.length = r.2.2.length := by rw [td.length, ld]
  have pok := (val.each.good r hr').2.2
  have nd := sc__law_pack.nd
  refine ⟨_, PSs.nox (pss_cons (ps_set (i := 3) nd rfl (.inr rfl) (pe_ix ix_list (pe_lc (own := [("_law_row", 3)]) (g := gName 3) rfl nd (pi_list (pv 0)) (blkOk_by (N := ["_law_rows_here", "_law_specs_here", "_law_tree_here", "_law_row", "_law_family", "_law_names", "_law_out", "_law_slot", "_law_value", "_law_inner", "_law_other", "_law_part"]) (sc := defScope s__law_pack) (by decide +kernel)) (fun _ _ _ _ _ => (pg_name (i := 3) nd rfl (Or.inl rfl))) (fun _ _ _ _ _ => pts_one (pt_cmpR op_eq (pe_ix (r := rIxT K) ix_tup (pv 3) pe_int (fun _ _ => rfl)) (pe_ix (r := rIxT K) ix_tup (pv 2) pe_int (fun _ _ => rfl)) (nomark _))) (fun _ _ _ _ _ => (pv 3))) pe_int (fun _ _ => rfl)))
    (pss_cons (ps_setLc (i := 4) (own := [("_law_other", 10)]) (g := gName 10) (by rfl) nd rfl rfl (sw_true rfl rfl rfl (by decide +kernel)) (pi_list (pv 0)) (blkOk_by (N := ["_law_rows_here", "_law_specs_here", "_law_tree_here", "_law_row", "_law_family", "_law_names", "_law_out", "_law_slot", "_law_value", "_law_inner", "_law_other", "_law_part"]) (sc := defScope s__law_pack) (by decide +kernel)) (fun _ _ _ _ _ => (pg_name (i := 10) nd rfl (Or.inl rfl))) (fun _ _ _ _ _ => pts_one (pt_cmpR op_eq (pe_ix (r := rIxT K) ix_tup (pv 10) pe_int (fun _ _ => rfl)) (pe_ix (r := rIxT K) ix_tup (pv 3) pe_int (fun _ _ => rfl)) (nomark _))) (fun _ _ _ _ _ => (pe_ix (r := rIxT K) ix_tup (pv 10) pe_int (fun _ _ => rfl))))
    (pss_cons (ps_setLc (i := 5) (own := [("_law_part", 11)]) (g := gName 11) (by rfl) nd rfl rfl (sw_true rfl rfl rfl (by decide +kernel)) (pi_tup (pe_ix ix_tup (pv 3) pe_int (fun _ _ => rfl))) (blkOk_by (N := ["_law_rows_here", "_law_specs_here", "_law_tree_here", "_law_row", "_law_family", "_law_names", "_law_out", "_law_slot", "_law_value", "_law_inner", "_law_other", "_law_part"]) (sc := defScope s__law_pack) (by decide +kernel)) (fun _ _ _ _ _ => (pg_name (i := 11) nd rfl (Or.inl rfl))) (fun _ _ _ _ _ => pts_nil) (fun _ _ _ _ _ => (pe_ix (r := rIxT K) ix_tup (pv 11) pe_int (fun _ _ => rfl))))
    (pss_first (i := 6) nd rfl rfl (pe_lst (pa_cons (pe_bm PySem.F.plainAttrs_list PySem.F.slot_list_index PySem.F.type_list_index mt_index (pv 4) (pa_cons (pe_ix ix_tup (pv 2) pe_int (fun _ _ => rfl)) pa_nil)) pa_nil))
    (psst_cons (pst_forT PassesOwn.never rfl (pi_tup (pe_dget hu (pv 1) (pe_ix ix_tup (pv 2) pe_int (fun _ _ => rfl)) (fun _ _ => rfl))) (pg_name (i := 7) nd rfl (Or.inl rfl))
      (psst_cons (pst_set (i := 8) nd rfl (.inl rfl) (pet_ix ix_tup (PET.of (pv 2)) (pet_op op_add (PET.of pe_int) (pet_bm PySem.F.plainAttrs_list PySem.F.slot_list_index PySem.F.type_list_index mt_index (PET.of (pv 5)) (pat_cons (pet_replC (pv 7)) pat_nil))) (fun _ _ => rfl)))
      (psst_one (PST.of (ps_if (pt_val (pe_callB call_isi (by rfl) T.n_isinstance (by decide +kernel) (pa_cons (pv 8) (pa_cons (pe_bltn (v := .ty "int") (by rfl) T.n_int (by decide +kernel) rfl) pa_nil))))
        (pss_one (ps_expr (pe_bm PySem.F.plainAttrs_list PySem.F.slot_list_append PySem.F.type_list_append mt_append (pv 6) (pa_cons (pv 8) pa_nil))))
        (pss_cons (ps_set (i := 9) nd rfl (.inl rfl) (pe_call G (hr.mono (by omega)) (by rfl) T.g_law_pack T.k_law_pack (b__law_pack F) .nil pass0 (pa_cons (pv 0) (pa_cons (pv 1) (pa_cons (pv 8) pa_nil)))))
        (pss_cons (ps_if (pt_cmpR op_eq (pe_ix ix_str (pv 7) pe_int (fun _ _ => rfl)) pe_str (nomark _))
          (pss_one (ps_set (i := 6) nd rfl (.inl rfl) (pe_op op_cat (pv 6) (pe_lst (pa_cons (pe_op op_fdiv (pe_callB call_len_seq (by rfl) T.n_len PySem.boot_len (pa_cons (pv 9) pa_nil)) pe_int) (pa_cons (pe_op op_mod (pe_callB call_len_seq (by rfl) T.n_len PySem.boot_len (pa_cons (pv 9) pa_nil)) pe_int) pa_nil))))))
          pss_nil)
        (pss_one (ps_set (i := 6) nd rfl (.inl rfl) (pe_op op_cat (pv 6) (pv 9)))))))))))
    (psst_one (PST.of (ps_ret (pv 6))))))))), ?_⟩
  -- the row
  refine ⟨_, rfl, lr, rfl, ⟨_, .inl (.inl ha)⟩, fun D1 hD1 => lc_it (walk_list (K := K) (a := lr) (xs := us)) (fun i H2 => Same H H2 ∧ ∃ acc, H2 D1 = some (.lst acc) ∧ All2 (RowAt H) acc ((rs.take i).filter fun x => decide (x.2.1 = r.2.1))) ⟨same_new hD1, [], upd_same, All2.nil⟩ (fun i H2 _ z => .inl (.inl (z.1 _ _ ha))) ?_ ?_⟩
  · rintro i x H2 H3 hi ⟨sm, acc, hacc, ala⟩ ⟨rfl, hx⟩
    obtain ⟨y, hyy, b, u, rfl, hb, pa⟩ := al.get hx
    have la : acc.length ≤ 1000 := by rw [ala.1]; exact Nat.le_trans (take_filter_len _ _ _) val.short.1
    refine ⟨rfl, _, rfl, b, _, _, _, rfl, rfl, SqT.of (sm _ _ hb), atI_nat (j := 1) rfl, _, rfl, a, _, _, _, rfl, rfl, SqT.of (sm _ _ ht), atI_nat (j := 0) rfl, rfl, _, rfl, ?_⟩
    rw [eqStr]
    cases hc : decide (y.2.1 = r.2.1) with
    | true =>
      refine iteT ⟨_, rfl, acc, hacc, small1000 la, same_mut sm hD1, _, upd_same, ?_⟩
      rw [take_filter hyy, hc]; exact ala.snoc ⟨b, u, rfl, hb, pa⟩
    | false =>
      refine iteF ⟨sm, acc, hacc, ?_⟩
      rw [take_filter hyy, hc]; simpa using ala
  rintro H2 ⟨sm2, acc, hacc, ala⟩
  rw [al.1, List.take_length, own_one val.nd hr'] at ala
  obtain ⟨vb, hvb, b, u, rfl, hb, pa⟩ := ala.get' (i := 0) rfl
  refine ⟨D1, _, _, .ref b, rfl, rfl, SqL.of hacc, atI_nat hvb, ?_⟩
  obtain ⟨c, cs, rfl, hc, alp⟩ := id pa
  have lc4 : cs.length = r.2.2.length := alp.1
  have hb2 := sm2 _ _ hb
  have hc2 := sm2 _ _ hc
  have ha2 := sm2 _ _ ha
  -- the family
  refine ⟨_, rfl, lr, rfl, ⟨_, .inl (.inl ha2)⟩, fun D2 hD2 => lc_it (walk_list (K := K) (a := lr) (xs := us)) (fun i H3 => Same H2 H3 ∧ H3 D2 = some (.lst ((((rs.take i).filter fun x => decide (x.1 = r.1)).map fun x => x.2.1).map V.str))) ⟨same_new hD2, upd_same⟩ (fun i H3 _ z => .inl (.inl (z.1 _ _ ha2))) ?_ ?_⟩
  · rintro i x H3 H4 hi ⟨s3, hacc3⟩ ⟨rfl, hx⟩
    obtain ⟨y, hyy, b2, u2, rfl, hb2', pa2⟩ := al.get hx
    have la : ((((rs.take i).filter fun x => decide (x.1 = r.1)).map fun x => x.2.1).map V.str).length ≤ 1000 := by rw [List.length_map, List.length_map]; exact Nat.le_trans (take_filter_len _ _ _) val.short.1
    have hb3 := s3 _ _ (sm2 _ _ hb2')
    refine ⟨rfl, _, rfl, b2, _, _, _, rfl, rfl, SqT.of hb3, atI_nat (j := 0) rfl, _, rfl, b, _, _, _, rfl, rfl, SqT.of (s3 _ _ hb2), atI_nat (j := 0) rfl, rfl, _, rfl, ?_⟩
    rw [eqStr]
    cases hc : decide (y.1 = r.1) with
    | true =>
      refine iteT ⟨_, rfl, b2, _, _, _, rfl, rfl, SqT.of hb3, atI_nat (j := 1) rfl, _, hacc3, small1000 la, same_mut s3 hD2, ?_⟩
      rw [upd_same, take_filter hyy, hc, List.map_append, List.map_append] <;> rfl
    | false =>
      refine iteF ⟨s3, ?_⟩
      rw [take_filter hyy, hc, hacc3]; simp
  rintro H3 ⟨s3, hfam⟩
  rw [al.1, List.take_length] at hfam
  have hfam : H3 D2 = some (.lst ((makersOf rs r.1).map V.str)) := hfam
  have sm3 := sm2.trans s3
  have hc3 := s3 _ _ hc2
  -- the names
  refine ⟨_, rfl, b, _, _, _, rfl, rfl, SqT.of (s3 _ _ hb2), atI_nat (j := 2) rfl, c, rfl, ⟨_, SqT.of hc3⟩, fun D5 hD5 => lc_it (walk_tup (K := K) (a := c) (xs := cs)) (fun i H4 => Same H3 H4 ∧ H4 D5 = some (.lst (((r.2.2.take i).map (·.1)).map V.str))) ⟨same_new hD5, upd_same⟩ (fun i H4 _ z => SqT.of (z.1 _ _ hc3)) ?_ ?_⟩
  · rintro i x H4 H5 hi ⟨s4, hacc4⟩ ⟨rfl, hx⟩
    obtain ⟨p, hp, pat⟩ := alp.get hx
    obtain ⟨e, xs, rfl, he, x0, x1⟩ := partAt_ix (pat.mono (tups_of (sm3.trans s4)))
    have li : i < 1000 := by have := (List.getElem?_eq_some_iff.mp hp).1; omega
    refine ⟨rfl, _, rfl, e, _, _, _, rfl, rfl, SqT.of he, atI_nat (j := 0) x0, _, hacc4, small1000 (by rw [List.length_map, List.length_map, List.length_take]; omega), same_mut s4 hD5, ?_⟩
    rw [upd_same, take_succ_of hp, List.map_append, List.map_append] <;> rfl
  rintro H4 ⟨s4, hnam⟩
  rw [lc4, List.take_length] at hnam
  have sm4 := sm3.trans s4
  have ht4 := sm4 _ _ ht
  -- the tag
  refine ⟨_, rfl, .inl ⟨rfl, _, SqL.of (s4 _ _ hfam)⟩, _, rfl, a, _, _, _, rfl, rfl, SqT.of ht4, atI_nat (j := 0) rfl, ?_⟩
  unfold tNil
  refine (?_ : rIndex K (.ref D2) [.str r.2.1] H4 (fun x H1 => _))
  refine idx_read (SqL.of (s4 _ _ hfam)) (mem_makersOf.mpr ⟨r, hr', rfl, rfl⟩) ?_
  refine ⟨by show 1 ≤ sizeLine; decide, fun o0 ho0 => ?_⟩
  -- the slots
  obtain ⟨kvs, hk, kd⟩ := hsp.same sm4
  obtain ⟨rv, erv, sc, rfl, hsc⟩ := KD.some kd (show r.2.1 ∈ rmakers rs from List.mem_map_of_mem hr')
  have s5 := same_new (o := .lst [V.int ((makersOf rs r.1).idxOf r.2.1 : Nat)]) ho0
  refine ⟨_, rfl, _, rfl, a, _, _, _, rfl, rfl, SqT.of (s5 _ _ ht4), atI_nat (j := 0) rfl, sp, _, rfl, (by rw [← erv]; exact DGet.k (k := Sum.inr r.2.1) (s5 _ _ hk)), sc, rfl, ⟨_, .inl (rd_same s5 hsc)⟩, ?_⟩
  let it : LSlot → List Int := fun s => itemP (packR rs lay) s.1 (valAt r.2.2 ds s.2)
  refine for_it (walk_tup (K := K) (a := sc) (xs := (lay r.2.1).map fun s => V.str (sText s))) (fun i σ H5 => ∃ o v7 v8 v9 v10 v11, σ = [some (.ref lr), some (.ref sp), some (.ref a), some (.ref b), some (.ref D2), some (.ref D5), some (.ref o), v7, v8, v9, v10, v11] ∧ Same H4 H5 ∧ H4 o = none ∧ H5 o = some (.lst (((tagOf rs r : Int) :: ((lay r.2.1).take i).flatMap it).map V.int)))
    ⟨o0, _, _, _, _, _, rfl, s5, ho0, upd_same⟩ (fun i σ H5 _ z => .inl (by obtain ⟨_, _, _, _, _, _, _, z, _⟩ := z; exact rd_same z hsc)) ?_ ?_
  · rintro i x σ H5 H6 hi ⟨o, v7, v8, v9, v10, v11, rfl, s5, no, ho⟩ ⟨rfl, hx⟩
    rw [List.getElem?_map, Option.map_eq_some_iff] at hx
    obtain ⟨s, hs, rfl⟩ := hx
    have hsm := List.mem_of_getElem? hs
    have hsn := ok.names hr' s hsm
    have hnb := part_name pok hsn
    obtain ⟨j, p, d, ej, hp, ep, hd, ev⟩ := valAt_get hsn ld
    obtain ⟨wv, hwv⟩ : ∃ v, ws[j]? = some v := ⟨_, List.getElem?_eq_getElem (show j < ws.length by have := (List.getElem?_eq_some_iff.mp hp).1; omega)⟩
    obtain ⟨d', hd', tdi⟩ := td.get hwv
    rw [hd] at hd'; cases hd'
    have hv := allV_get hall hp hd
    have ht5 := s5 _ _ ht4
    have hnam5 := s5 _ _ hnam
    have gx : atI (V.str r.2.1 :: ws) ((1 : Int) + (j : Nat)) = some wv := at_nat (j := j + 1) (by omega) (by rw [List.getElem?_cons_succ, hwv])
    have etk : ((lay r.2.1).take (i + 1)).flatMap it = ((lay r.2.1).take i).flatMap it ++ it s := by rw [take_succ_of hs, List.flatMap_append]; simp
    refine ⟨_, rfl, _, rfl, .inl ⟨rfl, _, SqL.of hnam5⟩, _, rfl, sText s, rfl, ?_, ?_⟩
    · have := sText_len hnb
      show (sText s).length + ((sText s).length + 1) * 0 ≤ 16777216
      omega
    refine (?_ : rIndex K (.ref D5) [.str (Txt.replace (sText s) plus ⟨#[]⟩)] H6 (fun x H1 => _))
    rw [show Txt.replace (sText s) plus ⟨#[]⟩ = s.2 from repl_plus (name_plain hnb) s.1]
    refine idx_read (SqL.of hnam5) hsn ?_
    rw [ej]
    refine ⟨_, _, rfl, rfl, a, _, _, _, rfl, rfl, SqT.of ht5, gx, ?_⟩
    have lpk := pack_len val ok (n + 1) _ _ hf
    have lit : ((tagOf rs r : Int) :: ((lay r.2.1).take i).flatMap it).length + (it s).length ≤ 2000001 := by
      have e : packR rs lay (.tuple (.str r.2.1 :: ds)) = ((tagOf rs r : Int) :: ((lay r.2.1).take (i + 1)).flatMap it) ++ ((lay r.2.1).drop (i + 1)).flatMap it := by
        rw [pack_node val.nd ok hr' hall, List.cons_append, ← List.flatMap_append, List.take_append_drop]
      rw [e, List.length_append, etk, List.length_cons, List.length_append] at lpk
      rw [List.length_cons]
      omega
    rcases val_cases hv with ⟨eb, z, rfl, z0, z1⟩ | ⟨nb, hfit, _⟩
    · cases tdi
      have ei : it s = [z] := by show itemP _ _ _ = _; rw [ev]; rfl
      refine ⟨_, rfl, .int z, .ty "int", .type "int", .type "int", true, rfl, ClsV.ty _, TyX.base (TyOf.int z), kit_ty (by decide +kernel), _, rfl, iteT ?_⟩
      refine ⟨_, rfl, .inl ⟨rfl, _, SqL.of ho⟩, _, rfl, o, _, _, rfl, rfl, ho, lt_line ?_, o, _, _, _, _, _, rfl, same_mut s5 no, no, ?_⟩
      · rw [List.length_map]; omega
      · rw [upd_same, etk, ei]; simp
    · have ei : it s = headP s.1 (packR rs lay d) ++ packR rs lay d := by
        show itemP _ _ _ = _; rw [ev]; unfold itemP; split
        · rw [fitB_int] at hfit; cases hfit
        · rfl
      rw [ei, List.length_append] at lit
      have ltd : (tagOf rs r : Int) :: ((lay r.2.1).take (i + 1)).flatMap it = ((tagOf rs r : Int) :: ((lay r.2.1).take i).flatMap it) ++ (headP s.1 (packR rs lay d) ++ packR rs lay d) := by rw [etk, ei, List.cons_append]
      have ety : ∃ a2 xs2, wv = .ref a2 ∧ H a2 = some (.tup xs2) := by
        cases n with
        | zero => cases hfit
        | succ n =>
        obtain ⟨m2, ds2, r2, rfl, _, _⟩ := fitB_inv hfit
        cases tdi with
        | tup h _ => exact ⟨_, _, rfl, h⟩
      obtain ⟨a2, xs2, rfl, ha2'⟩ := ety
      have ha25 := s5 _ _ (sm4 _ _ ha2')
      refine ⟨_, rfl, .ref a2, .ty "int", .type "tuple", .type "int", false, rfl, ClsV.ty _, TyX.base (TyOf.tup ha25), kit_ty (by decide +kernel), _, rfl, iteF ?_⟩
      have sm5 := sm4.trans s5
      have wd := wt_mem (List.mem_of_getElem? hd)
      rw [wt_node] at hw
      refine ⟨_, rfl, _, rfl, _, rfl, lr, sp, _, rs, lay, _, d, rfl, RowsAt.mono sm5 ⟨us, ha, al⟩, val, hsp.same sm5, ok, tdi.mono (tups_of sm5), hfit, by omega, fun a6 H7 s7 n7 h7 => ?_⟩
      have s47 := s5.trans s7
      have ho7 := s7 _ _ ho
      obtain ⟨hc0, eh, ec⟩ := sText_head hnb
      refine ⟨_, rfl, _, _, hc0, rfl, rfl, Nat.le_trans (sText_len hnb) (by decide), eh, rfl, _, rfl, ?_⟩
      rw [show decide (V.str ⟨#[hc0]⟩ = V.str (Str.ofString "+")) = s.1 by rw [show Str.ofString "+" = plus by decide +kernel]; exact ec]
      cases hs1 : s.1 with
      | false =>
        rw [hs1] at ltd lit
        refine iteF ⟨_, rfl, _, rfl, o, a6, _, _, rfl, rfl, ho7, h7, ?_, fun p9 hp9 => ⟨p9, _, _, _, _, _, rfl, s47.trans (same_new hp9), Same.none s47 hp9, ?_⟩⟩
        · rw [List.length_map, List.length_map]; exact Nat.le_of_lt (lt_line (by omega))
        · rw [upd_same, ltd, List.map_append] <;> rfl
      | true =>
        rw [hs1] at ltd lit
        refine iteT ⟨_, rfl, _, rfl, a6, _, rfl, .inl (SqL.of h7), _, _, rfl, rfl, ⟨by decide, by decide⟩, ?_⟩
        refine ⟨_, rfl, a6, _, rfl, .inl (SqL.of h7), _, _, rfl, rfl, by show (0 : Int) < 256; decide, by show 2 ≤ sizeLine; decide, fun l8 hl8 => ?_⟩
        have s8 := same_new (o := .lst [V.int (((List.map V.int (packR rs lay d)).length : Nat) / 256), V.int (((List.map V.int (packR rs lay d)).length : Nat) % 256)]) hl8
        refine ⟨o, l8, _, _, rfl, rfl, s8 _ _ ho7, upd_same, ?_, fun p9 hp9 => ?_⟩
        · rw [List.length_map]; show _ + 2 ≤ sizeLine; have := Nat.le_of_lt (lt_line lit); simp only [headP, if_true, List.length_cons, List.length_nil] at this ⊢; omega
        have s9 := same_new (o := .lst (((tagOf rs r : Int) :: ((lay r.2.1).take i).flatMap it).map V.int ++ [V.int (((List.map V.int (packR rs lay d)).length : Nat) / 256), V.int (((List.map V.int (packR rs lay d)).length : Nat) % 256)])) hp9
        have s79 := s8.trans s9
        refine ⟨_, rfl, _, rfl, p9, a6, _, _, rfl, rfl, upd_same, s79 _ _ h7, ?_, fun p10 hp10 => ⟨p10, _, _, _, _, _, rfl, (s47.trans s79).trans (same_new hp10), Same.none (s47.trans s79) hp10, ?_⟩⟩
        · rw [List.length_append, List.length_map, List.length_map]; have := Nat.le_of_lt (lt_line lit); simp only [headP, if_true, List.length_cons, List.length_nil] at this ⊢; omega
        · rw [upd_same, ltd]
          simp [headP]
  · rintro σ H5 ⟨o, v7, v8, v9, v10, v11, rfl, s5, no, ho⟩
    rw [List.length_map, List.take_length] at ho
    refine ⟨_, rfl, q o H5 (sm4.trans s5) (Same.none sm4 no) ?_⟩
    rw [ho, pack_node val.nd ok hr' hall]
theorem lpack (T : Tx K mg) (F : FnP K ("_law_pack", none) "_law_pack" "_law_pack" s__law_pack fd) : ∀ n, FnOk P w K mg base CX0 (n + 1) (He.fAd K ("_law_pack", none)) fd p__law_pack (spPK n)
  | 0 => ok_pk0
  | n + 1 => ok_pk1 T (lpack T F n) F
end
end Bg
set_option Elab.async false
set_option linter.all false
set_option maxRecDepth 100000
set_option maxHeartbeats 8000000
/-! the law's own reading of a row -/
namespace Bg
open PySem PySem.Spec PyProof.Rows L2 CwR
theorem filter_part {ps : List Part} (nd : (ps.map (·.1)).Nodup) {p : Part} (hp : p ∈ ps) {x : Str} (e : p.1 = x) : (ps.filter fun q => decide (q.1 = x)) = [p] := by
  subst e
  induction ps with
  | nil => cases hp
  | cons q qs ih =>
    rw [List.map_cons, List.nodup_cons] at nd
    rcases List.mem_cons.mp hp with rfl | h
    · rw [List.filter_cons, if_pos (by simp), List.filter_eq_nil_iff.mpr fun z hz => ?_]
      simp only [decide_eq_true_eq]
      exact fun e => nd.1 (e ▸ List.mem_map_of_mem hz)
    · rw [List.filter_cons, if_neg ?_]
      · exact ih nd.2 h
      · simp only [decide_eq_true_eq]
        exact fun e => nd.1 (e ▸ List.mem_map_of_mem h)
section
variable {P : Program} {w : World} {K : PySem.W.Frag} {mg : Str → Option Value} {base : Heap} {fd : FuncData} {H : Hp} {Q : VK}
def spRead (n : Nat) : Sp := fun vs H Q _ => ∃ (lr sp ra : Addr) (k : Str) (a : Nat) (row : List Nat) (rs : List Row) (lay : LayM), vs = [.ref lr, .ref sp, .str k, .ref ra, .int (a : Nat), .int (41 - (n : Int))] ∧ RowsAt H lr rs ∧ ValidT rs ∧ SpecAt H sp rs lay ∧ LayOk rs lay ∧
  H ra = some (.lst (rowV row)) ∧ (∀ b ∈ row, b ≤ 255) ∧ row.length ≤ 1000000 ∧ a ≤ row.length ∧ n ≤ 40 ∧
  (∀ d en, rdN rs lay row n k a = .inr (d, en) → ∀ t tv H', Same H H' → H' t = some (.tup [.ref tv, .int (en : Nat)]) → Td H' (.ref tv) d → Q (.ref t) H') ∧ (∀ e, rdN rs lay row n k a = .inl e → ∀ t H', Same H H' → H' t = some (.tup [.non, .int (e : Nat)]) → Q (.ref t) H')
/-- the level below, if there is one -/
def spLow : Nat → Sp
  | 0 => fun _ _ _ _ => False
  | n + 1 => spRead n
theorem ok_lrd (T : Tx K mg) {n m : Nat} (G : FnOk P w K mg base CX0 m (He.fAd K ("_law_read", none)) fd p__law_read (spLow n)) (hm : 1 ≤ m) (F : FnP K ("_law_read", none) "_law_read" "_law_read" s__law_read fd) : FnOk P w K mg base CX0 (m + 1) (He.fAd K ("_law_read", none)) fd p__law_read (spRead n) := by
  refine F.ok (k := m) sc__law_read (fun vs H Q E h => ?_) (fun cdv A outer s H vs Q E hr h => ?_)
  · obtain ⟨_, _, _, _, _, _, _, _, rfl, _⟩ := h; rfl
  obtain ⟨lr, sp, ra, k, a, row, rs, lay, rfl, ⟨us, ha, al⟩, val, hsp, ok, hra, hb, lrow, la, hn, qt, qf⟩ := h
  have hu := hu_of hr
  have lrv : (rowV row).length = row.length := List.length_map _
  have nd := sc__law_read.nd
  refine ⟨_, PSs.nox (pss_cons (ps_setLc (i := 6) (own := [("_law_other", 16)]) (g := gName 16) (by rfl) nd rfl rfl (sw_true rfl rfl rfl (by decide +kernel)) (pi_list (pv 0)) (blkOk_by (N := ["_law_rows_here", "_law_specs_here", "_law_kind", "_law_row", "_law_at", "_law_depth", "_law_family", "_law_maker", "_law_values", "_law_slot", "_law_name_here", "_law_part", "_law_inner", "_law_first", "_law_got", "_law_tree_here", "_law_other"]) (sc := defScope s__law_read) (by decide +kernel)) (fun _ _ _ _ _ => (pg_name (i := 16) nd rfl (Or.inl rfl))) (fun _ _ _ _ _ => pts_one (pt_cmpR op_eq (pe_ix (r := rIxT K) ix_tup (pv 16) pe_int (fun _ _ => rfl)) (pv 2) (nomark _))) (fun _ _ _ _ _ => (pv 16)))
    (pss_cons (ps_if (pt_cmpR op_ge (pv 4) (pe_callB call_len_seq (by rfl) T.n_len PySem.boot_len (pa_cons (pv 3) pa_nil)) (nomark _))
      (pss_one (ps_ret (pe_tup (pa_cons pe_non (pa_cons (pe_callB call_len_seq (by rfl) T.n_len PySem.boot_len (pa_cons (pv 3) pa_nil)) pa_nil)))))
      pss_nil)
    (pss_cons (ps_if (PW.pt (pw_or (pt_cmpR op_ge (pe_ix ix_list (pv 3) (pv 4) (fun _ _ => rfl)) (pe_callB call_len_seq (by rfl) T.n_len PySem.boot_len (pa_cons (pv 6) pa_nil)) (nomark _)) (pw_or1 (pt_cmpR op_gt (pv 5) pe_int (nomark _)))))
      (pss_one (ps_ret (pe_tup (pa_cons pe_non (pa_cons (pv 4) pa_nil)))))
      pss_nil)
    (pss_cons (ps_set (i := 7) nd rfl (.inl rfl) (pe_ix ix_list (pv 6) (pe_ix ix_list (pv 3) (pv 4) (fun _ _ => rfl)) (fun _ _ => rfl)))
    (pss_first (i := 4) nd rfl rfl (pe_op op_add (pv 4) pe_int)
    (psst_cons (PST.of (ps_set (i := 8) nd rfl (.inl rfl) pe_dnewK))
    (psst_cons (pst_forT PassesOwn.never rfl (pi_tup (pe_dget hu (pv 1) (pe_ix ix_tup (pv 7) pe_int (fun _ _ => rfl)) (fun _ _ => rfl))) (pg_name (i := 9) nd rfl (Or.inl rfl))
      (psst_cons (pst_set (i := 10) nd rfl (.inr rfl) (pet_replC (pv 9)))
      (psst_cons (PST.of (ps_set (i := 12) nd rfl (.inl rfl) (pe_ix ix_list (pe_lc (own := [("_law_part", 11)]) (g := gName 11) rfl nd (pi_tup (pe_ix ix_tup (pv 7) pe_int (fun _ _ => rfl))) (blkOk_by (N := ["_law_rows_here", "_law_specs_here", "_law_kind", "_law_row", "_law_at", "_law_depth", "_law_family", "_law_maker", "_law_values", "_law_slot", "_law_name_here", "_law_part", "_law_inner", "_law_first", "_law_got", "_law_tree_here", "_law_other"]) (sc := defScope s__law_read) (by decide +kernel)) (fun _ _ _ _ _ => (pg_name (i := 11) nd rfl (Or.inl rfl))) (fun _ _ _ _ _ => pts_one (pt_cmpR op_eq (pe_ix (r := rIxT K) ix_tup (pv 11) pe_int (fun _ _ => rfl)) (pv 10) (nomark _))) (fun _ _ _ _ _ => (pe_ix (r := rIxT K) ix_tup (pv 11) pe_int (fun _ _ => rfl)))) pe_int (fun _ _ => rfl))))
      (psst_cons (PST.of (ps_set (i := 13) nd rfl (.inl rfl) (pv 4)))
      (psst_one (PST.of (ps_if (pt_cmpR op_eq (pv 12) pe_str (nomark _))
        (pss_cons (ps_if (pt_cmpR op_ge (pv 4) (pe_callB call_len_seq (by rfl) T.n_len PySem.boot_len (pa_cons (pv 3) pa_nil)) (nomark _))
          (pss_one (ps_ret (pe_tup (pa_cons pe_non (pa_cons (pe_callB call_len_seq (by rfl) T.n_len PySem.boot_len (pa_cons (pv 3) pa_nil)) pa_nil)))))
          pss_nil)
        (pss_cons (ps_dput hu (pv 8) (pv 10) (pe_ix ix_list (pv 3) (pv 4) (fun _ _ => rfl)) rfl)
        (pss_one (ps_set (i := 4) nd rfl (.inl rfl) (pe_op op_add (pv 4) pe_int)))))
        (pss_cons (ps_if (pt_cmpR op_eq (pe_ix ix_str (pv 9) pe_int (fun _ _ => rfl)) pe_str (nomark _))
          (pss_cons (ps_set (i := 4) nd rfl (.inl rfl) (pe_op op_add (pv 4) pe_int))
          (pss_one (ps_if (pt_cmpR op_gt (pv 4) (pe_callB call_len_seq (by rfl) T.n_len PySem.boot_len (pa_cons (pv 3) pa_nil)) (nomark _))
            (pss_one (ps_ret (pe_tup (pa_cons pe_non (pa_cons (pe_callB call_len_seq (by rfl) T.n_len PySem.boot_len (pa_cons (pv 3) pa_nil)) pa_nil)))))
            pss_nil)))
          pss_nil)
        (pss_cons (ps_set (i := 14) nd rfl (.inl rfl) (pe_call G (hr.mono (by omega)) (by rfl) T.g_law_read T.k_law_read (b__law_read F) .nil pass0 (pa_cons (pv 0) (pa_cons (pv 1) (pa_cons (pv 12) (pa_cons (pv 3) (pa_cons (pv 4) (pa_cons (pe_op op_add (pv 5) pe_int) pa_nil))))))))
        (pss_cons (ps_if (pt_cmpR op_isN (pe_ix ix_tup (pv 14) pe_int (fun _ _ => rfl)) pe_non (nomark _))
          (pss_one (ps_ret (pv 14)))
          pss_nil)
        (pss_cons (ps_if (PW.pt (pw_and (pt_cmpR op_eq (pe_ix ix_str (pv 9) pe_int (fun _ _ => rfl)) pe_str (nomark _)) (pw_and1 (pt_cmpR op_ne (pe_op op_add (pe_op op_mul (pe_ix ix_list (pv 3) (pv 13) (fun _ _ => rfl)) pe_int) (pe_ix ix_list (pv 3) (pe_op op_add (pv 13) pe_int) (fun _ _ => rfl))) (pe_op op_sub (pe_ix ix_tup (pv 14) pe_int (fun _ _ => rfl)) (pv 4)) (nomark _)))))
          (pss_one (ps_ret (pe_tup (pa_cons pe_non (pa_cons (pv 13) pa_nil)))))
          pss_nil)
        (pss_cons (ps_dput hu (pv 8) (pv 10) (pe_ix ix_tup (pv 14) pe_int (fun _ _ => rfl)) rfl)
        (pss_one (ps_set (i := 4) nd rfl (.inl rfl) (pe_ix ix_tup (pv 14) pe_int (fun _ _ => rfl))))))))))))))))
    (psst_cons (PST.of (ps_set (i := 15) nd rfl (.inl rfl) (pe_tup (pa_cons (pe_ix ix_tup (pv 7) pe_int (fun _ _ => rfl)) pa_nil))))
    (psst_cons (PST.of (ps_for PassesOwn.never rfl (pi_tup (pe_ix ix_tup (pv 7) pe_int (fun _ _ => rfl))) (pg_name (i := 11) nd rfl (Or.inl rfl))
      (pss_one (ps_set (i := 15) nd rfl (.inl rfl) (pe_op op_catA (pv 15) (pe_tup (pa_cons (pe_dget hu (pv 8) (pe_ix ix_tup (pv 11) pe_int (fun _ _ => rfl)) (fun _ _ => rfl)) pa_nil)))))))
    (psst_one (PST.of (ps_ret (pe_tup (pa_cons (pv 15) (pa_cons (pv 4) pa_nil))))))))))))))), ?_⟩
  -- the family
  refine ⟨_, rfl, lr, rfl, ⟨_, .inl (.inl ha)⟩, fun D1 hD1 => lc_it (walk_list (K := K) (a := lr) (xs := us)) (fun i H2 => Same H H2 ∧ ∃ acc, H2 D1 = some (.lst acc) ∧ All2 (RowAt H) acc ((rs.take i).filter fun x => decide (x.1 = k))) ⟨same_new hD1, [], upd_same, All2.nil⟩ (fun i H2 _ z => .inl (.inl (z.1 _ _ ha))) ?_ ?_⟩
  · rintro i x H2 H3 hi ⟨sm, acc, hacc, ala⟩ ⟨rfl, hx⟩
    obtain ⟨y, hyy, b, u, rfl, hb, pa⟩ := al.get hx
    have la : acc.length ≤ 1000 := by rw [ala.1]; exact Nat.le_trans (take_filter_len _ _ _) val.short.1
    refine ⟨rfl, _, rfl, b, _, _, _, rfl, rfl, SqT.of (sm _ _ hb), atI_nat (j := 0) rfl, _, rfl, rfl, _, rfl, ?_⟩
    rw [eqStr]
    cases hc : decide (y.1 = k) with
    | true =>
      refine iteT ⟨_, rfl, acc, hacc, small1000 la, same_mut sm hD1, _, upd_same, ?_⟩
      rw [take_filter hyy, hc]; exact ala.snoc ⟨b, u, rfl, hb, pa⟩
    | false =>
      refine iteF ⟨sm, acc, hacc, ?_⟩
      rw [take_filter hyy, hc]; simpa using ala
  rintro H2 ⟨s2, fv, hfam, alf⟩
  rw [al.1, List.take_length] at alf
  have alf : All2 (RowAt H) fv (famOf rs k) := alf
  have lf : fv.length = (famOf rs k).length := alf.1
  have hra2 := s2 _ _ hra
  refine ⟨_, rfl, _, rfl, ra, _, rfl, .inl (SqL.of hra2), _, _, rfl, rfl, _, rfl, ?_⟩
  by_cases hl : row.length ≤ a
  · refine iteTe (decide_eq_true (by rw [lrv]; omega)) ⟨_, rfl, ra, _, rfl, .inl (SqL.of hra2), by show 2 ≤ sizeLine; decide, fun t ht => ?_⟩
    have e0 : rdN rs lay row n k a = .inl a := by
      cases n with
      | zero => rfl
      | succ n => unfold rdN; rw [List.getElem?_eq_none hl]
    refine qf a e0 t _ (s2.trans (same_new ht)) ?_
    rw [upd_same, lrv, show row.length = a by omega]
  refine iteFe (decide_eq_false (by rw [lrv]; omega)) ?_
  obtain ⟨t0, ht0⟩ : ∃ b, row[a]? = some b := ⟨_, List.getElem?_eq_getElem (by omega)⟩
  refine ⟨_, rfl, _, rfl, ra, _, _, _, rfl, rfl, SqL.of hra2, row_at ht0, _, rfl, D1, _, rfl, .inl (SqL.of hfam), _, _, rfl, rfl, _, rfl, ?_⟩
  by_cases ht : (famOf rs k).length ≤ t0
  · refine iteTe (decide_eq_true (by rw [lf]; omega)) (iteT ⟨_, rfl, by show 2 ≤ sizeLine; decide, fun t ht' => ?_⟩)
    have e0 : rdN rs lay row n k a = .inl a := by
      cases n with
      | zero => rfl
      | succ n => unfold rdN; rw [ht0]; dsimp only; rw [List.getElem?_eq_none ht]
    exact qf a e0 t _ (s2.trans (same_new ht')) upd_same
  refine iteFe (decide_eq_false (by rw [lf]; omega)) ?_
  refine ⟨_, rfl, _, _, rfl, rfl, _, rfl, ?_⟩
  cases n with
  | zero =>
    exact iteTe (decide_eq_true (by show (40 : Int) < 41 - ((0 : Nat) : Int); decide)) ⟨_, rfl, by show 2 ≤ sizeLine; decide, fun t ht' => qf a rfl t _ (s2.trans (same_new ht')) upd_same⟩
  | succ n =>
  refine iteFe (decide_eq_false (by omega)) ?_
  obtain ⟨r, hrt⟩ : ∃ r, (famOf rs k)[t0]? = some r := ⟨_, List.getElem?_eq_getElem (by omega)⟩
  unfold rdN at qt qf
  rw [ht0] at qt qf
  dsimp only at qt qf
  rw [hrt] at qt qf
  dsimp only at qt qf
  obtain ⟨hr', ek⟩ := fam_mem hrt
  obtain ⟨v, hv, hrow⟩ := alf.get' hrt
  obtain ⟨b, u, rfl, hb1, pa⟩ := hrow
  have hb2 := s2 _ _ hb1
  refine ⟨_, rfl, _, rfl, _, rfl, ra, _, _, _, rfl, rfl, SqL.of hra2, row_at ht0, D1, _, _, _, rfl, rfl, SqL.of hfam, atI_nat hv, ?_⟩
  refine ⟨_, rfl, _, _, rfl, rfl, ?_⟩
  intro vd hvd
  have s3 := same_new (o := .dK []) hvd
  have s03 := s2.trans s3
  obtain ⟨kvs, hk, kd⟩ := hsp.same s03
  obtain ⟨rv, erv, sc, rfl, hsc⟩ := KD.some kd (show r.2.1 ∈ rmakers rs from List.mem_map_of_mem hr')
  refine ⟨_, rfl, _, rfl, b, _, _, _, rfl, rfl, SqT.of (s3 _ _ hb2), atI_nat (j := 1) rfl, sp, _, rfl, (by rw [← erv]; exact DGet.k (k := Sum.inr r.2.1) hk), sc, rfl, ⟨_, .inl hsc⟩, ?_⟩
  obtain ⟨c, cs, rfl, hc, alp⟩ := id pa
  have lc4 : cs.length = r.2.2.length := alp.1
  have nd1 := val.ndp hr'
  have ndl := lay_nd val ok hr'
  have pok := (val.each.good r hr').2.2
  have l4 := val.four r hr'
  have hlay := (ok.perm r hr').length_eq
  rw [List.length_map, List.length_map] at hlay
  have rdf := rdN_ok val ok hb n
  have hd0 : H vd = none := Same.none s2 hvd
  generalize htot : rdS row (rdN rs lay row n) r (lay r.2.1) (a + 1) [] = tot at qt qf
  refine for_it (walk_tup (K := K) (a := sc) (xs := (lay r.2.1).map fun s => V.str (sText s))) (fun i σ G => ∃ (en : Nat) (acc : Acc) (v9 v10 v11 v12 v13 v14 v15 v16 : Option V) (kvs : List (Key × V)), σ = [some (.ref lr), some (.ref sp), some (.str k), some (.ref ra), some (.int (en : Nat)), some (.int (41 - ((n + 1 : Nat) : Int))), some (.ref D1), some (.ref b), some (.ref vd), v9, v10, v11, v12, v13, v14, v15, v16] ∧ Same H G ∧ Rd G sc (.tup ((lay r.2.1).map fun s => V.str (sText s))) ∧
      G vd = some (.dK kvs) ∧ KD kvs (acc.map (·.1)) (fun m v => Td G v (lookA acc m)) ∧ acc.map (·.1) = ((lay r.2.1).take i).map (·.2) ∧ en ≤ row.length ∧ rdS row (rdN rs lay row n) r ((lay r.2.1).drop i) en acc = tot)
    ⟨a + 1, [], _, _, _, _, _, _, _, _, [], rfl, s03, hsc, upd_same, KD.nil, by simp, by omega, htot⟩ (fun i σ G _ z => .inl (by obtain ⟨_, _, _, _, _, _, _, _, _, _, _, _, _, z, _⟩ := z; exact z)) ?_ ?_
  · rintro i z σ G0 G hi ⟨en, acc, v9, v10, v11, v12, v13, v14, v15, v16, kvs, rfl, sG, hcG, hvG, kd, eacc, len, etot⟩ ⟨rfl, hz⟩
    rw [List.getElem?_map, Option.map_eq_some_iff] at hz
    obtain ⟨sx, hsl, rfl⟩ := hz
    have hsm := List.mem_of_getElem? hsl
    have hsn := ok.names hr' _ hsm
    have hnb := part_name pok hsn
    obtain ⟨p, hpm, ep⟩ := List.mem_map.mp hsn
    have ep : p.1 = sx.2 := ep
    have epa : partAt r.2.2 sx.2 = p := by rw [← ep]; exact partAt_of nd1 hpm
    have li := (List.getElem?_eq_some_iff.mp hsl).1
    have drop : (lay r.2.1).drop i = sx :: (lay r.2.1).drop (i + 1) := by
      rw [List.drop_eq_getElem_cons li]
      congr 1
      rw [List.getElem?_eq_getElem li] at hsl
      exact Option.some.inj hsl
    rw [drop] at etot
    unfold rdS at etot
    have new : sx.2 ∉ acc.map (·.1) := by
      rw [eacc]
      exact not_mem_take_of_nodup (i := i) ndl (by rw [List.getElem?_map, hsl]; rfl) |> fun h => by rw [← List.map_take] at h; exact h
    have lk : kvs.length ≤ 1000 := by have := KD.length kd; rw [eacc, List.length_map, List.length_take] at this; omega
    have hcx := sG _ _ hc
    have hbx := sG _ _ hb1
    have hrax := sG _ _ hra
    refine ⟨_, rfl, sText sx, rfl, ?_, ?_⟩
    · have := sText_len hnb
      show (sText sx).length + ((sText sx).length + 1) * 0 ≤ 16777216
      omega
    refine (?_ : gName 10 (V.str (Txt.replace (sText sx) plus ⟨#[]⟩)) _ _ _)
    rw [show Txt.replace (sText sx) plus ⟨#[]⟩ = sx.2 from repl_plus (name_plain hnb) sx.1]
    -- the kind of the part
    refine ⟨_, rfl, b, _, _, _, rfl, rfl, SqT.of hbx, atI_nat (j := 2) rfl, c, rfl, ⟨_, SqT.of hcx⟩, fun D5 hD5 => lc_it (walk_tup (K := K) (a := c) (xs := cs)) (fun j H4 => Same G H4 ∧ H4 D5 = some (.lst ((((r.2.2.take j).filter fun q => decide (q.1 = sx.2)).map fun q => q.2.1).map V.str))) ⟨same_new hD5, upd_same⟩ (fun j H4 _ z => SqT.of (z.1 _ _ hcx)) ?_ ?_⟩
    · rintro j x H4 H5 hj ⟨s4, hacc4⟩ ⟨rfl, hx⟩
      obtain ⟨q, hq, pat⟩ := alp.get hx
      obtain ⟨e, xs, rfl, he, x0, x1⟩ := partAt_ix (pat.mono (tups_of (sG.trans s4)))
      have lj : j < 1000 := by have := (List.getElem?_eq_some_iff.mp hq).1; omega
      have lz : ((((r.2.2.take j).filter fun q => decide (q.1 = sx.2)).map fun q => q.2.1).map V.str).length ≤ 1000 := by rw [List.length_map, List.length_map]; exact Nat.le_trans (take_filter_len _ _ _) (by omega)
      refine ⟨rfl, _, rfl, e, _, _, _, rfl, rfl, SqT.of he, atI_nat (j := 0) x0, _, rfl, rfl, _, rfl, ?_⟩
      rw [eqStr]
      cases hc1 : decide (q.1 = sx.2) with
      | true =>
        refine iteT ⟨_, rfl, e, _, _, _, rfl, rfl, SqT.of he, atI_nat (j := 1) x1, _, hacc4, small1000 lz, same_mut s4 hD5, ?_⟩
        rw [upd_same, take_filter hq, hc1, List.map_append, List.map_append] <;> rfl
      | false =>
        refine iteF ⟨s4, ?_⟩
        rw [take_filter hq, hc1, hacc4]; simp
    rintro H4 ⟨s4, hin⟩
    rw [lc4, List.take_length, filter_part nd1 hpm ep] at hin
    refine ⟨D5, _, _, .str p.2.1, rfl, rfl, SqL.of hin, atI_nat (j := 0) rfl, ?_⟩
    refine ⟨_, rfl, ?_⟩
    have sG4 := sG.trans s4
    have hvG4 := s4 _ _ hvG
    have kd4 := KD.mono kd fun _ _ z => z.mono (tups_of s4)
    have hcG4 := rd_same s4 hcG
    have hra4 := s4 _ _ hrax
    unfold rdP at etot
    rw [epa] at etot
    -- what is kept behind a part
    have nxt : ∀ (d : PyData) (en' : Nat) (G2 : Hp) (v : V) (w9 w10 w11 w12 w13 w14 w15 w16 : Option V), Same H4 G2 → Td G2 v d → en' ≤ row.length → rdS row (rdN rs lay row n) r ((lay r.2.1).drop (i + 1)) en' (acc ++ [(sx.2, d)]) = tot →
        ∃ (en : Nat) (acc : Acc) (v9 v10 v11 v12 v13 v14 v15 v16 : Option V) (kvs2 : List (Key × V)), [some (V.ref lr), some (.ref sp), some (.str k), some (.ref ra), some (.int (en' : Nat)), some (.int (41 - ((n + 1 : Nat) : Int))), some (.ref D1), some (.ref b), some (.ref vd), w9, w10, w11, w12, w13, w14, w15, w16] = [some (V.ref lr), some (.ref sp), some (.str k), some (.ref ra), some (.int (en : Nat)), some (.int (41 - ((n + 1 : Nat) : Int))), some (.ref D1), some (.ref b), some (.ref vd), v9, v10, v11, v12, v13, v14, v15, v16] ∧
          Same H (upd G2 vd (.dK (putK kvs (Sum.inr sx.2) v))) ∧ Rd (upd G2 vd (.dK (putK kvs (Sum.inr sx.2) v))) sc (.tup ((lay r.2.1).map fun s => V.str (sText s))) ∧
          (upd G2 vd (.dK (putK kvs (Sum.inr sx.2) v))) vd = some (.dK kvs2) ∧ KD kvs2 (acc.map (·.1)) (fun m u => Td (upd G2 vd (.dK (putK kvs (Sum.inr sx.2) v))) u (lookA acc m)) ∧ acc.map (·.1) = ((lay r.2.1).take (i + 1)).map (·.2) ∧ en ≤ row.length ∧ rdS row (rdN rs lay row n) r ((lay r.2.1).drop (i + 1)) en acc = tot := fun d en' G2 v w9 w10 w11 w12 w13 w14 w15 w16 s2 td2 le2 et2 => by
      have hv2 := s2 _ _ hvG4
      have t2 := tups_upd (H := G2) (p := vd) (o := .dK (putK kvs (Sum.inr sx.2) v)) fun u f z => by rw [hv2] at z; cases z; exact f
      refine ⟨en', acc ++ [(sx.2, d)], w9, w10, w11, w12, w13, w14, w15, w16, _, rfl, same_mut (sG4.trans s2) hd0, rd_tups t2 (rd_same s2 hcG4), upd_same, ?_, ?_, le2, et2⟩
      · rw [List.map_append]
        show KD _ (acc.map (·.1) ++ [sx.2]) _
        rw [← addNew_of_not new]
        refine KD.put kd4 (fun j u nj h => ?_) ?_
        · rw [lookA_old nj]; exact (h.mono (tups_of s2)).mono t2
        · rw [lookA_new new]; exact td2.mono t2
      · rw [List.map_append, eacc, take_succ_of hsl, List.map_append]; rfl
    refine ⟨_, rfl, rfl, _, rfl, ?_⟩
    by_cases hby : p.2.1 = ("byte" : Str)
    · refine iteTe (by rw [eqStr]; exact decide_eq_true hby) ?_
      simp only [if_pos hby] at etot
      refine ⟨_, rfl, _, rfl, ra, _, rfl, .inl (SqL.of hra4), _, _, rfl, rfl, _, rfl, ?_⟩
      cases eb : row[en]? with
      | none =>
        have l2 : row.length ≤ en := by rw [List.getElem?_eq_none_iff] at eb; exact eb
        rw [eb] at etot
        dsimp only at etot
        refine iteTe (decide_eq_true (by rw [lrv]; omega)) ⟨_, rfl, ra, _, rfl, .inl (SqL.of hra4), by show 2 ≤ sizeLine; decide, fun t ht => ?_⟩
        refine qf row.length (by rw [← etot]) t _ (sG4.trans (same_new ht)) ?_
        rw [upd_same, lrv]
      | some bb =>
        have l2 := (List.getElem?_eq_some_iff.mp eb).1
        rw [eb] at etot
        dsimp only at etot
        refine iteFe (decide_eq_false (by rw [lrv]; omega)) ?_
        refine ⟨_, rfl, _, rfl, ra, _, _, _, rfl, rfl, SqL.of hra4, row_at eb, _, rfl, _, rfl, vd, _, rfl, DPut.k (k := Sum.inr sx.2) hvG4 (small1000 lk), ?_⟩
        refine ⟨_, rfl, _, _, rfl, rfl, ?_⟩
        exact nxt _ (en + 1) _ _ _ _ _ _ _ _ _ _ (fun _ _ z => z) (.int _) (by omega) etot
    · refine iteFe (by rw [eqStr]; exact decide_eq_false hby) ?_
      simp only [if_neg hby] at etot
      have lvl : (41 - ((n + 1 : Nat) : Int)) + 1 = 41 - ((n : Nat) : Int) := by omega
      obtain ⟨hc0, eh, ec⟩ := sText_head hnb
      have ec2 : decide (V.str ⟨#[hc0]⟩ = V.str (Str.ofString "+")) = sx.1 := by rw [show Str.ofString "+" = plus by decide +kernel]; exact ec
      have hsl25 : (sText sx).length ≤ sizeLine := Nat.le_trans (sText_len hnb) (by decide)
      refine ⟨_, rfl, _, _, hc0, rfl, rfl, Nat.le_trans (sText_len hnb) (by decide), eh, rfl, _, rfl, ?_⟩
      cases hs1 : sx.1 with
      | true =>
        rw [hs1] at ec2
        simp only [hs1, if_true] at etot
        refine iteTe ec2 ⟨_, rfl, _, _, rfl, rfl, _, rfl, _, rfl, ra, _, rfl, .inl (SqL.of hra4), _, _, rfl, rfl, _, rfl, ?_⟩
        by_cases hl2 : row.length < en + 2
        · simp only [if_pos hl2] at etot
          refine iteTe (decide_eq_true (by rw [lrv]; omega)) ⟨_, rfl, ra, _, rfl, .inl (SqL.of hra4), by show 2 ≤ sizeLine; decide, fun t ht => ?_⟩
          refine qf row.length (by rw [← etot]) t _ (sG4.trans (same_new ht)) ?_
          rw [upd_same, lrv]
        simp only [if_neg hl2] at etot
        refine iteFe (decide_eq_false (by rw [lrv]; omega)) ?_
        refine ⟨_, rfl, _, rfl, _, rfl, _, rfl, _, rfl, _, rfl, _, _, rfl, rfl, ?_⟩
        refine ⟨lr, sp, ra, p.2.1, en + 2, row, rs, lay, by show [V.ref lr, V.ref sp, V.str p.2.1, V.ref ra, V.int _, V.int ((41 - ((n + 1 : Nat) : Int)) + 1)] = _; rw [lvl]; rfl, RowsAt.mono sG4 ⟨us, ha, al⟩, val, hsp.same sG4, ok, hra4, hb, lrow, by omega, by omega, fun d en' hr1 t tv G2 s2 ht2 td2 => ?_, fun e hr1 t G2 s2 ht2 => ?_⟩
        · rw [hr1] at etot
          dsimp only at etot
          have le' := ((rdf p.2.1 (en + 2) (by omega)).good _ _ hr1).2.2
          refine ⟨_, rfl, t, _, _, _, rfl, rfl, SqT.of ht2, atI_nat (j := 0) rfl, rfl, _, rfl, iteFe (decide_eq_false (fun z => by cases z)) ?_⟩
          have hvG2 := s2 _ _ hvG4
          have ht3 : (upd G2 vd (.dK (putK kvs (Sum.inr sx.2) (.ref tv)))) t = some (.tup [.ref tv, .int ((en' : Nat) : Int)]) := by
            rw [upd_ne (fun z => by rw [z, hvG2] at ht2; cases ht2)]; exact ht2
          have hra5 := s2 _ _ hra4
          obtain ⟨b0, hb0⟩ : ∃ b, row[en]? = some b := ⟨_, List.getElem?_eq_getElem (by omega)⟩
          obtain ⟨b1, hb1'⟩ : ∃ b, row[en + 1]? = some b := ⟨_, List.getElem?_eq_getElem (by omega)⟩
          rw [hb0, hb1'] at etot
          simp only [Option.getD_some] at etot
          have at1 : atI (rowV row) ((en : Int) + 1) = some (.int (b1 : Nat)) := by
            rw [show ((en : Int) + 1) = ((en + 1 : Nat) : Int) by omega]; exact row_at hb1'
          refine ⟨_, rfl, _, _, hc0, rfl, rfl, hsl25, eh, rfl, _, rfl, iteTe ec2 ?_⟩
          refine ⟨_, rfl, _, rfl, ra, _, _, _, rfl, rfl, SqL.of hra5, row_at hb0, _, _, rfl, rfl, .inr ⟨by decide, by decide⟩, _, rfl, _, rfl, _, _, rfl, rfl, ra, _, _, _, rfl, rfl, SqL.of hra5, at1, _, _, rfl, rfl, _, rfl, t, _, _, _, rfl, rfl, SqT.of ht2, atI_nat (j := 1) rfl, _, rfl, _, _, rfl, rfl, rfl, _, rfl, ?_⟩
          have ent : (((b0 : Nat) : Int) * 256 + ((b1 : Nat) : Int) ≠ ((en' : Nat) : Int) - ((en : Int) + 2)) ↔ ¬ en' = en + 2 + (b0 * 256 + b1) := by omega
          by_cases he : en' = en + 2 + (b0 * 256 + b1)
          · have hne : (!decide (V.int (((b0 : Nat) : Int) * 256 + ((b1 : Nat) : Int)) = V.int (((en' : Nat) : Int) - ((en : Int) + 2)))) = false := by
              rw [eqInt, decide_eq_true (Decidable.byContradiction fun z => (ent.mp z) he)]; rfl
            rw [if_pos he] at etot
            refine iteFe hne ?_
            refine ⟨_, rfl, t, _, _, _, rfl, rfl, SqT.of ht2, atI_nat (j := 0) rfl, _, rfl, _, rfl, vd, _, rfl, DPut.k (k := Sum.inr sx.2) hvG2 (small1000 lk), ?_⟩
            refine ⟨_, rfl, t, _, _, _, rfl, rfl, SqT.of ht3, atI_nat (j := 1) rfl, ?_⟩
            exact nxt _ _ _ _ _ _ _ _ _ _ _ _ s2 td2 le' etot
          · have hne : (!decide (V.int (((b0 : Nat) : Int) * 256 + ((b1 : Nat) : Int)) = V.int (((en' : Nat) : Int) - ((en : Int) + 2)))) = true := by
              rw [eqInt, decide_eq_false (ent.mpr he)]; rfl
            rw [if_neg he] at etot
            dsimp only at etot
            refine iteTe hne ⟨_, rfl, by show 2 ≤ sizeLine; decide, fun t9 ht9 => ?_⟩
            exact qf en (by rw [← etot]) t9 _ (sG4.trans (s2.trans (same_new ht9))) upd_same
        · rw [hr1] at etot
          dsimp only at etot
          refine ⟨_, rfl, t, _, _, _, rfl, rfl, SqT.of ht2, atI_nat (j := 0) rfl, rfl, _, rfl, iteTe (decide_eq_true rfl) ⟨_, rfl, ?_⟩⟩
          exact qf e (by rw [← etot]) t G2 (sG4.trans s2) ht2
      | false =>
        rw [hs1] at ec2
        simp only [hs1, Bool.false_eq_true, if_false] at etot
        refine iteFe ec2 ?_
        refine ⟨_, rfl, _, rfl, _, rfl, _, rfl, _, rfl, _, rfl, _, _, rfl, rfl, ?_⟩
        refine ⟨lr, sp, ra, p.2.1, en, row, rs, lay, by show [V.ref lr, V.ref sp, V.str p.2.1, V.ref ra, V.int _, V.int ((41 - ((n + 1 : Nat) : Int)) + 1)] = _; rw [lvl], RowsAt.mono sG4 ⟨us, ha, al⟩, val, hsp.same sG4, ok, hra4, hb, lrow, by omega, by omega, fun d en' hr1 t tv G2 s2 ht2 td2 => ?_, fun e hr1 t G2 s2 ht2 => ?_⟩
        · rw [hr1] at etot
          dsimp only at etot
          have le' := ((rdf p.2.1 en len).good _ _ hr1).2.2
          refine ⟨_, rfl, t, _, _, _, rfl, rfl, SqT.of ht2, atI_nat (j := 0) rfl, rfl, _, rfl, iteFe (decide_eq_false (fun z => by cases z)) ?_⟩
          have hvG2 := s2 _ _ hvG4
          have ht3 : (upd G2 vd (.dK (putK kvs (Sum.inr sx.2) (.ref tv)))) t = some (.tup [.ref tv, .int ((en' : Nat) : Int)]) := by
            rw [upd_ne (fun z => by rw [z, hvG2] at ht2; cases ht2)]; exact ht2
          have hra5 := s2 _ _ hra4
          refine ⟨_, rfl, _, _, hc0, rfl, rfl, hsl25, eh, rfl, _, rfl, iteFe ec2 ?_⟩
          refine ⟨_, rfl, t, _, _, _, rfl, rfl, SqT.of ht2, atI_nat (j := 0) rfl, _, rfl, _, rfl, vd, _, rfl, DPut.k (k := Sum.inr sx.2) hvG2 (small1000 lk), ?_⟩
          refine ⟨_, rfl, t, _, _, _, rfl, rfl, SqT.of ht3, atI_nat (j := 1) rfl, ?_⟩
          exact nxt _ _ _ _ _ _ _ _ _ _ _ _ s2 td2 le' etot
        · rw [hr1] at etot
          dsimp only at etot
          refine ⟨_, rfl, t, _, _, _, rfl, rfl, SqT.of ht2, atI_nat (j := 0) rfl, rfl, _, rfl, iteTe (decide_eq_true rfl) ⟨_, rfl, ?_⟩⟩
          exact qf e (by rw [← etot]) t G2 (sG4.trans s2) ht2
  rintro σ G ⟨en, acc, v9, v10, v11, v12, v13, v14, v15, v16, kvs, rfl, sG, hcG, hvG, kd, eacc, len, etot⟩
  rw [List.length_map, List.take_length] at eacc
  rw [List.length_map, List.drop_length] at etot
  have etot : tot = .inr (acc, en) := by rw [← etot]; rfl
  have qt2 := qt (treeOf r acc) en (by rw [etot])
  have inn : ∀ q ∈ r.2.2, q.1 ∈ acc.map (·.1) := fun q hq => by rw [eacc]; exact (ok.perm r hr').mem_iff.mpr (List.mem_map_of_mem hq)
  have hcG1 := sG _ _ hc
  have hbG := sG _ _ hb1
  -- the tree
  refine ⟨_, rfl, b, _, _, _, rfl, rfl, SqT.of hbG, atI_nat (j := 1) rfl, by show 1 ≤ sizeLine; decide, fun t0 ht0' => ?_⟩
  have s2' := same_new (o := .tup [V.str r.2.1]) ht0'
  have sG2 := sG.trans s2'
  refine ⟨_, rfl, b, _, _, _, rfl, rfl, SqT.of (s2' _ _ hbG), atI_nat (j := 2) rfl, c, rfl, ⟨_, SqT.of (s2' _ _ hcG1)⟩, for_it (walk_tup (K := K) (a := c) (xs := cs)) (fun i σ G4 => ∃ (t : Addr) (ws : List V) (w11 : Option V), σ = [some (.ref lr), some (.ref sp), some (.str k), some (.ref ra), some (.int (en : Nat)), some (.int (41 - ((n + 1 : Nat) : Int))), some (.ref D1), some (.ref b), some (.ref vd), v9, v10, w11, v12, v13, v14, some (.ref t), v16] ∧ Same G G4 ∧ G4 t = some (.tup (V.str r.2.1 :: ws)) ∧ TdAll G4 ws ((r.2.2.take i).map fun q => lookA acc q.1))
    ⟨t0, [], _, rfl, s2', upd_same, .nil⟩ (fun i σ G4 _ z => by obtain ⟨_, _, _, _, z, _⟩ := z; exact SqT.of (z _ _ hcG1)) ?_ ?_⟩
  · rintro i z σ G5 G4 hi ⟨t, ws, w11, rfl, s4, htt, hws⟩ ⟨rfl, hz⟩
    obtain ⟨q, hq, pat⟩ := alp.get hz
    have hqm := List.mem_of_getElem? hq
    have s04 := sG.trans s4
    obtain ⟨e, xs, rfl, he, x0, x1⟩ := partAt_ix (pat.mono (tups_of s04))
    obtain ⟨u1, eu, hu1⟩ := KD.some kd (inn q hqm)
    have lws := hws.length
    rw [List.length_map, List.length_take] at lws
    refine ⟨_, rfl, _, rfl, _, rfl, e, _, _, _, rfl, rfl, SqT.of he, atI_nat (j := 0) x0, vd, _, rfl, (by rw [← eu]; exact DGet.k (k := Sum.inr q.1) (s4 _ _ hvG)), by show 1 ≤ sizeLine; decide, fun p1 hp1 => ?_⟩
    have s5 := same_new (o := .tup [u1]) hp1
    refine ⟨t, p1, _, _, rfl, rfl, SqT.of (s5 _ _ htt), SqT.of upd_same, by show (ws.length + 1) + 1 ≤ sizeLine; exact Nat.le_trans (show (ws.length + 1) + 1 ≤ 8 by omega) (by decide), fun z => by (cases z), fun _ z => by (cases z), fun _ _ p2 hp2 => ?_⟩
    have s6 := same_new (o := .tup ((V.str r.2.1 :: ws) ++ [u1])) hp2
    refine ⟨p2, ws ++ [u1], _, rfl, s4.trans (s5.trans s6), upd_same, ?_⟩
    rw [take_succ_of hq, List.map_append]
    exact TdAll.snoc (hws.mono (tups_of (s5.trans s6))) (hu1.mono (tups_of (s4.trans (s5.trans s6))))
  rintro σ G4 ⟨t, ws, w11, rfl, s4, htt, hws⟩
  rw [lc4, List.take_length] at hws
  refine ⟨_, rfl, _, rfl, by show 2 ≤ sizeLine; decide, fun t2 ht2 => ?_⟩
  have s5 := same_new (o := .tup [V.ref t, V.int ((en : Nat) : Int)]) ht2
  refine qt2 t2 t _ (sG.trans (s4.trans s5)) upd_same ?_
  exact .tup (xs := V.str r.2.1 :: ws) (s5 _ _ htt) (.cons (.str _) (TdAll.mono (tups_of s5) hws))
theorem lread (T : Tx K mg) (F : FnP K ("_law_read", none) "_law_read" "_law_read" s__law_read fd) : ∀ n, FnOk P w K mg base CX0 (n + 2) (He.fAd K ("_law_read", none)) fd p__law_read (spRead n)
  | 0 => ok_lrd (n := 0) T ⟨fun vs H Q E h => False.elim h, fun A outer s H args us vs Q E hr e0 hb r h => False.elim h⟩ (by decide) F
  | n + 1 => ok_lrd (n := n + 1) T (lread T F n) (by omega) F
theorem lread40 (T : Tx K mg) (F : FnP K ("_law_read", none) "_law_read" "_law_read" s__law_read fd) : FnOk P w K mg base CX0 42 (He.fAd K ("_law_read", none)) fd p__law_read (spRead 40) := lread T F 40
end
end Bg
set_option Elab.async false
set_option linter.all false
set_option maxRecDepth 100000
set_option maxHeartbeats 4000000
namespace Bg
open PySem PySem.Spec PyProof.Rows L2
section
variable {P : Program} {w : World} {K : PySem.W.Frag} {mg : Str → Option Value} {base : Heap} {fd : FuncData}
def spLInt : Sp := fun vs H Q _ => ∃ n : Int, vs = [.int n] ∧ Q (.bl true) H
theorem ok_lint (T : Tx K mg) (F : FnP K ("_law_int", none) "_law_int" "_law_int" s__law_int fd) : FnOk P w K mg base CX0 1 (He.fAd K ("_law_int", none)) fd ["_law_value"] spLInt := by
  refine F.ok sc__law_int (fun vs H Q E h => ?_) (fun cdv A outer s H vs Q E hr h => ?_)
  · obtain ⟨_, rfl, _⟩ := h; rfl
  obtain ⟨v, rfl, q⟩ := h
  refine ⟨_, PSs.nox (pss_one (ps_ret (pe_and (pe_callB call_isi (by rfl) T.n_isinstance (by decide +kernel) (pa_cons (pv 0) (pa_cons (pe_bltn (v := .ty "int") (by rfl) T.n_int (by decide +kernel) rfl) pa_nil)))
    (pe_one (pe_not (pe_callB call_isi (by rfl) T.n_isinstance (by decide +kernel) (pa_cons (pv 0) (pa_cons (pe_bltn (v := .ty "bool") (by rfl) T.n_bool (by decide +kernel) rfl) pa_nil)))))))), ?_⟩
  refine ⟨_, rfl, .int v, .ty "int", .type "int", .type "int", true, rfl, ClsV.ty _, TyX.base (TyOf.int v), kit_ty (by decide +kernel), _, rfl, iteT ?_⟩
  exact ⟨_, rfl, .int v, .ty "bool", .type "int", .type "bool", false, rfl, ClsV.ty _, TyX.base (TyOf.int v), kit_ty (by decide +kernel), _, rfl, q⟩
end
end Bg
set_option Elab.async false
set_option linter.all false
set_option maxRecDepth 100000
set_option maxHeartbeats 4000000
/-! values that are the same tree -/
namespace Bg
open PySem PySem.Spec PyProof.Rows L2
section
variable {P : Program} {w : World} {K : PySem.W.Frag} {mg : Str → Option Value} {base : Heap} {fd : FuncData}
def spSame (n : Nat) : Sp := fun vs H Q _ => ∃ (v u : V) (d : PyData), vs = [v, u] ∧ Td H v d ∧ Td H u d ∧ Pl d ∧ dep d ≤ n ∧ Q (.bl true) H
theorem ok_same1 (T : Tx K mg) {n : Nat} (G : ∀ m, m < n → FnOk P w K mg base CX0 (m + 2) (He.fAd K ("_law_same", none)) fd p__law_same (spSame m)) (F : FnP K ("_law_same", none) "_law_same" "_law_same" s__law_same fd) : FnOk P w K mg base CX0 (n + 2) (He.fAd K ("_law_same", none)) fd p__law_same (spSame n) := by
  refine F.ok (k := n + 1) sc__law_same (fun vs H Q E h => ?_) (fun cdv A outer s H vs Q E hr h => ?_)
  · obtain ⟨_, _, _, rfl, _⟩ := h; rfl
  obtain ⟨v, u, d, rfl, tv, tu, pl, dn, q⟩ := h
  cases n with
  | zero =>
    have G0 : FnOk P w K mg base CX0 0 (He.fAd K ("_law_same", none)) fd p__law_same (fun _ _ _ _ => False) := ⟨fun _ _ _ _ h => h.elim, fun _ _ _ _ _ _ _ _ _ _ _ _ _ h => h.elim⟩
    obtain ⟨f1, F1⟩ := T.F__law_int
    have nd := sc__law_same.nd
    refine ⟨_, PSs.nox (pss_cons (ps_if (pt_val (pe_callB call_isi (by rfl) T.n_isinstance (by decide +kernel) (pa_cons (pv 1) (pa_cons (pe_bltn (v := .ty "str") (by rfl) T.n_str (by decide +kernel) rfl) pa_nil))))
        (pss_one (ps_ret (pe_and (pe_callB call_isi (by rfl) T.n_isinstance (by decide +kernel) (pa_cons (pv 0) (pa_cons (pe_bltn (v := .ty "str") (by rfl) T.n_str (by decide +kernel) rfl) pa_nil))) (pe_one (pe_cmpR op_eq (pv 0) (pv 1) (nomark _))))))
        pss_nil)
      (pss_cons (ps_if (pt_val (pe_callB call_isi (by rfl) T.n_isinstance (by decide +kernel) (pa_cons (pv 1) (pa_cons (pe_bltn (v := .ty "int") (by rfl) T.n_int (by decide +kernel) rfl) pa_nil))))
        (pss_one (ps_ret (pe_and (pe_call (ok_lint T F1) (hr.mono (by omega)) (by rfl) T.g_law_int T.k_law_int (b__law_int F1) .nil pass0 (pa_cons (pv 0) pa_nil)) (pe_one (pe_cmpR op_eq (pv 0) (pv 1) (nomark _))))))
        pss_nil)
      (pss_cons (ps_if (PW.pt (pw_or (pt_not (pt_val (pe_callB call_isi (by rfl) T.n_isinstance (by decide +kernel) (pa_cons (pv 0) (pa_cons (pe_bltn (v := .ty "tuple") (by rfl) T.n_tuple (by decide +kernel) rfl) pa_nil))))) (pw_or1 (pt_cmpR op_ne (pe_callB call_len_seq (by rfl) T.n_len PySem.boot_len (pa_cons (pv 0) pa_nil)) (pe_callB call_len_seq (by rfl) T.n_len PySem.boot_len (pa_cons (pv 1) pa_nil)) (nomark _)))))
        (pss_one (ps_ret pe_bl))
        pss_nil)
      (pss_cons (ps_for PassesOwn.never rfl (pi_range1 rfl T.n_range (pa_cons (pe_callB call_len_seq (by rfl) T.n_len PySem.boot_len (pa_cons (pv 1) pa_nil)) pa_nil)) (pg_name (i := 2) nd rfl (Or.inl rfl))
        (pss_one (ps_if (pt_not (pt_val (pe_call G0 (hr.mono (by omega)) (by rfl) T.g_law_same T.k_law_same (b__law_same F) .nil pass0 (pa_cons (pe_ix ix_tup (pv 0) (pv 2) (fun _ _ => rfl)) (pa_cons (pe_ix ix_tup (pv 1) (pv 2) (fun _ _ => rfl)) pa_nil)))))
          (pss_one (ps_ret pe_bl))
          pss_nil)))
      (pss_one (ps_ret pe_bl)))))), ?_⟩
    cases tv with
    | bl => cases pl
    | tup e h => rw [dep] at dn; omega
    | str x =>
      cases tu
      refine ⟨_, rfl, .str x, .ty "str", .type "str", .type "str", true, rfl, ClsV.ty _, TyX.base (TyOf.str x), kit_ty (by decide +kernel), _, rfl, iteT ⟨_, rfl, .str x, .ty "str", .type "str", .type "str", true, rfl, ClsV.ty _, TyX.base (TyOf.str x), kit_ty (by decide +kernel), _, rfl, iteT ⟨_, rfl, _, rfl, rfl, ?_⟩⟩⟩
      show Q (.bl (decide (V.str x = V.str x))) H
      rw [decide_eq_true rfl]; exact q
    | int i =>
      cases tu
      refine ⟨_, rfl, .int i, .ty "str", .type "int", .type "str", false, rfl, ClsV.ty _, TyX.base (TyOf.int i), kit_ty (by decide +kernel), _, rfl, iteF ⟨_, rfl, .int i, .ty "int", .type "int", .type "int", true, rfl, ClsV.ty _, TyX.base (TyOf.int i), kit_ty (by decide +kernel), _, rfl, iteT ⟨_, rfl, i, rfl, _, rfl, iteT ⟨_, rfl, _, rfl, rfl, ?_⟩⟩⟩⟩
      show Q (.bl (decide (V.int i = V.int i))) H
      rw [decide_eq_true rfl]; exact q
  | succ n =>
    have G0 := G n (Nat.lt_succ_self n)
    obtain ⟨f1, F1⟩ := T.F__law_int
    have nd := sc__law_same.nd
    refine ⟨_, PSs.nox (pss_cons (ps_if (pt_val (pe_callB call_isi (by rfl) T.n_isinstance (by decide +kernel) (pa_cons (pv 1) (pa_cons (pe_bltn (v := .ty "str") (by rfl) T.n_str (by decide +kernel) rfl) pa_nil))))
        (pss_one (ps_ret (pe_and (pe_callB call_isi (by rfl) T.n_isinstance (by decide +kernel) (pa_cons (pv 0) (pa_cons (pe_bltn (v := .ty "str") (by rfl) T.n_str (by decide +kernel) rfl) pa_nil))) (pe_one (pe_cmpR op_eq (pv 0) (pv 1) (nomark _))))))
        pss_nil)
      (pss_cons (ps_if (pt_val (pe_callB call_isi (by rfl) T.n_isinstance (by decide +kernel) (pa_cons (pv 1) (pa_cons (pe_bltn (v := .ty "int") (by rfl) T.n_int (by decide +kernel) rfl) pa_nil))))
        (pss_one (ps_ret (pe_and (pe_call (ok_lint T F1) (hr.mono (by omega)) (by rfl) T.g_law_int T.k_law_int (b__law_int F1) .nil pass0 (pa_cons (pv 0) pa_nil)) (pe_one (pe_cmpR op_eq (pv 0) (pv 1) (nomark _))))))
        pss_nil)
      (pss_cons (ps_if (PW.pt (pw_or (pt_not (pt_val (pe_callB call_isi (by rfl) T.n_isinstance (by decide +kernel) (pa_cons (pv 0) (pa_cons (pe_bltn (v := .ty "tuple") (by rfl) T.n_tuple (by decide +kernel) rfl) pa_nil))))) (pw_or1 (pt_cmpR op_ne (pe_callB call_len_seq (by rfl) T.n_len PySem.boot_len (pa_cons (pv 0) pa_nil)) (pe_callB call_len_seq (by rfl) T.n_len PySem.boot_len (pa_cons (pv 1) pa_nil)) (nomark _)))))
        (pss_one (ps_ret pe_bl))
        pss_nil)
      (pss_cons (ps_for PassesOwn.never rfl (pi_range1 rfl T.n_range (pa_cons (pe_callB call_len_seq (by rfl) T.n_len PySem.boot_len (pa_cons (pv 1) pa_nil)) pa_nil)) (pg_name (i := 2) nd rfl (Or.inl rfl))
        (pss_one (ps_if (pt_not (pt_val (pe_call G0 (hr.mono (by omega)) (by rfl) T.g_law_same T.k_law_same (b__law_same F) .nil pass0 (pa_cons (pe_ix ix_tup (pv 0) (pv 2) (fun _ _ => rfl)) (pa_cons (pe_ix ix_tup (pv 1) (pv 2) (fun _ _ => rfl)) pa_nil)))))
          (pss_one (ps_ret pe_bl))
          pss_nil)))
      (pss_one (ps_ret pe_bl)))))), ?_⟩
    cases tv with
    | bl => cases pl
    | str x =>
      cases tu
      refine ⟨_, rfl, .str x, .ty "str", .type "str", .type "str", true, rfl, ClsV.ty _, TyX.base (TyOf.str x), kit_ty (by decide +kernel), _, rfl, iteT ⟨_, rfl, .str x, .ty "str", .type "str", .type "str", true, rfl, ClsV.ty _, TyX.base (TyOf.str x), kit_ty (by decide +kernel), _, rfl, iteT ⟨_, rfl, _, rfl, rfl, ?_⟩⟩⟩
      show Q (.bl (decide (V.str x = V.str x))) H
      rw [decide_eq_true rfl]; exact q
    | int i =>
      cases tu
      refine ⟨_, rfl, .int i, .ty "str", .type "int", .type "str", false, rfl, ClsV.ty _, TyX.base (TyOf.int i), kit_ty (by decide +kernel), _, rfl, iteF ⟨_, rfl, .int i, .ty "int", .type "int", .type "int", true, rfl, ClsV.ty _, TyX.base (TyOf.int i), kit_ty (by decide +kernel), _, rfl, iteT ⟨_, rfl, i, rfl, _, rfl, iteT ⟨_, rfl, _, rfl, rfl, ?_⟩⟩⟩⟩
      show Q (.bl (decide (V.int i = V.int i))) H
      rw [decide_eq_true rfl]; exact q
    | @tup a xs ds ha ta =>
      cases tu with
      | @tup b ys _ hb tb =>
      cases pl with
      | tup pl1 pl =>
      rw [dep] at dn
      have l1 := ta.length
      have l2 := tb.length
      refine ⟨_, rfl, .ref b, .ty "str", .type "tuple", .type "str", false, rfl, ClsV.ty _, TyX.base (TyOf.tup hb), kit_ty (by decide +kernel), _, rfl, iteF ⟨_, rfl, .ref b, .ty "int", .type "tuple", .type "int", false, rfl, ClsV.ty _, TyX.base (TyOf.tup hb), kit_ty (by decide +kernel), _, rfl, iteF ?_⟩⟩
      refine ⟨_, rfl, .ref a, .ty "tuple", .type "tuple", .type "tuple", true, rfl, ClsV.ty _, TyX.base (TyOf.tup ha), kit_ty (by decide +kernel), _, rfl, iteF ?_⟩
      refine ⟨_, rfl, a, _, rfl, .inr (SqT.of ha), _, rfl, b, _, rfl, .inr (SqT.of hb), rfl, _, rfl, ?_⟩
      show (if (!decide (V.int ((xs.length : Nat) : Int) = V.int ((ys.length : Nat) : Int))) = true then _ else _)
      rw [show decide (V.int ((xs.length : Nat) : Int) = V.int ((ys.length : Nat) : Int)) = true from decide_eq_true (by rw [l1, l2])]
      refine iteF ⟨_, rfl, b, _, rfl, .inr (SqT.of hb), _, rfl, by show -(2 ^ 62) ≤ ((ys.length : Nat) : Int); omega, by show ((ys.length : Nat) : Int) < 2 ^ 62; omega, ?_⟩
      refine for_it walk_range (fun i σ H2 => (∃ v2, σ = [some (.ref a), some (.ref b), v2]) ∧ H2 = H) ⟨⟨_, rfl⟩, rfl⟩ (fun _ _ _ _ _ => trivial) ?_ ?_
      · rintro i y σ H2 H3 hi ⟨⟨v2, rfl⟩, rfl⟩ ⟨rfl, rfl⟩
        have li : i < ys.length := by have z : i < ((ys.length : Nat) : Int).toNat := hi; omega
        have hy := List.getElem?_eq_getElem li
        have hx := List.getElem?_eq_getElem (show i < xs.length by omega)
        obtain ⟨d, hd, td⟩ := tb.get hy
        obtain ⟨d', hd', td'⟩ := ta.get hx
        rw [hd] at hd'; cases hd'
        have hm := List.mem_of_getElem? hd
        have dd := depAll_mem hm
        refine ⟨_, rfl, _, rfl, a, _, _, _, rfl, rfl, SqT.of ha, at_nat (j := i) (by omega) hx, _, rfl, _, rfl, b, _, _, _, rfl, rfl, SqT.of hb, at_nat (j := i) (by omega) hy, _, _, d, rfl, td', td, pl.mem d hm, by omega, ?_⟩
        exact ⟨_, rfl, iteF ⟨⟨_, rfl⟩, rfl⟩⟩
      · rintro σ H2 ⟨⟨v2, rfl⟩, rfl⟩
        exact q
theorem same_ok (T : Tx K mg) (F : FnP K ("_law_same", none) "_law_same" "_law_same" s__law_same fd) (n : Nat) : FnOk P w K mg base CX0 (n + 2) (He.fAd K ("_law_same", none)) fd p__law_same (spSame n) := by
  induction n using Nat.strongRecOn with
  | ind n ih => exact ok_same1 T ih F
end
end Bg
set_option Elab.async false
set_option linter.all false
set_option maxRecDepth 100000
set_option maxHeartbeats 4000000
/-! unpack answers as the law reads -/
namespace Bg
open PySem PySem.Spec PyProof.Rows L2
section
variable {P : Program} {w : World} {K : PySem.W.Frag} {mg : Str → Option Value} {base : Heap} {fd : FuncData}
theorem same45 (T : Tx K mg) (F : FnP K ("_law_same", none) "_law_same" "_law_same" s__law_same fd) : FnOk P w K mg base CX0 47 (He.fAd K ("_law_same", none)) fd p__law_same (spSame 45) := same_ok T F 45
theorem specAt_layS {H : Hp} {sp : Addr} {rs : List Row} {S : Str → List Str} (h : SpecD H sp (rmakers rs) S) : SpecAt H sp rs (layS S) := by
  obtain ⟨kvs, e, kd⟩ := h
  refine ⟨kvs, e, KD.mono kd fun m u ⟨c, e1, e2⟩ => ⟨c, e1, ?_⟩⟩
  have : ((layS S m).map fun s => V.str (sText s)) = (S m).map V.str := by
    unfold layS
    rw [List.map_map]
    exact List.map_congr_left fun s _ => by show V.str (sText (hasLen s, partOf s)) = V.str s; rw [sText_layS]
  rw [this]; exact e2
theorem bad_eqv (e : Nat) : PyData.eqv (.tuple [.str "bad", .int (e : Nat)]) (.tuple [.str "bad", .int (e : Nat)]) = true := by
  simp [PyData.eqv, PyData.eqvAll]
theorem bad_sh (e : Nat) : SeqAt.shaped (.tuple [.str "bad", .int (e : Nat)]) = true := by
  unfold SeqAt.shaped
  rw [Bool.and_eq_true]
  refine ⟨?_, decide_eq_true (by simp [PyData.depth, PyData.depthAll])⟩
  have : PyData.strOk (Str.ofString "bad") = true := by decide +kernel
  simp only [PyData.canLay0, PyData.canLayAll0, this]; rfl
def spRight (K : PySem.W.Frag) : Sp := fun vs H Q _ => ∃ (lr sp y x ra : Addr) (k : Str) (row : List Nat) (rs : List Row) (S : Str → List Str), vs = [.ref lr, .ref sp, .ref y, .str k, .ref ra] ∧ RowsAt H lr rs ∧ ValidT rs ∧ SpecAt H sp rs (layS S) ∧ LayAt K H y x rs S ∧ KindsF K H x rs ∧ SpecsOk rs S ∧
  H ra = some (.lst (rowV row)) ∧ (∀ b ∈ row, b ≤ 255) ∧ row.length ≤ 1000000 ∧ k ∈ rkinds rs ∧ ∀ H', Same H H' → Q (.bl true) H'
theorem ok_right13 (T : Tx K mg) (F : FnP K ("_law_right", none) "_law_right" "_law_right" s__law_right fd) : FnOk P w K mg base CX0 87 (He.fAd K ("_law_right", none)) fd p__law_right (spRight K) := by
  refine F.ok (k := 86) sc__law_right (fun vs H Q E h => ?_) (fun cdv A outer s H vs Q E hr h => ?_)
  · obtain ⟨_, _, _, _, _, _, _, _, _, rfl, _⟩ := h; rfl
  obtain ⟨lr, sp, y, x, ra, k, row, rs, S, rfl, hrw, val, hsp, hL, hK, so, hra, hb, lrow, hk, q⟩ := h
  have hu := hu_of hr
  have lok := layS_ok val so
  have lrv : (rowV row).length = row.length := List.length_map _
  have rok := rdN_ok val lok hb 40 k 0 (Nat.zero_le _)
  obtain ⟨f1, F1⟩ := T.F__law_read
  obtain ⟨f2, F2⟩ := T.F__law_unpacked
  obtain ⟨f3, F3⟩ := T.F__law_same
  have nd := sc__law_right.nd
  refine ⟨_, PSs.nox (pss_cons (ps_set (i := 5) nd rfl (.inl rfl) (pe_call (lread40 T F1) (hr.mono (by omega)) (by rfl) T.g_law_read T.k_law_read (b__law_read F1) .nil pass0 (pa_cons (pv 0) (pa_cons (pv 1) (pa_cons (pv 3) (pa_cons (pv 4) (pa_cons pe_int (pa_cons pe_int pa_nil))))))))
    (pss_cons (ps_set (i := 6) nd rfl (.inl rfl) (pe_call (ok_unpd T F2) (hr.mono (by omega)) (by rfl) T.g_law_unpacked T.k_law_unpacked (b__law_unpacked F2) .nil pass0 (pa_cons (pv 2) (pa_cons (pv 3) (pa_cons (pe_callTy call_list_of (by rfl) T.n_list (by decide +kernel) (pa_cons (pv 4) pa_nil)) pa_nil)))))
    (pss_cons (ps_if (PW.pt (pw_or (pt_cmpR op_isN (pe_ix ix_tup (pv 5) pe_int (fun _ _ => rfl)) pe_non (nomark _)) (pw_or1 (pt_cmpR op_lt (pe_ix ix_tup (pv 5) pe_int (fun _ _ => rfl)) (pe_callB call_len_seq (by rfl) T.n_len PySem.boot_len (pa_cons (pv 4) pa_nil)) (nomark _)))))
      (pss_one (ps_ret (pe_cmpR (op_eqD hr.units) (pv 6) (pe_tup (pa_cons pe_str (pa_cons (pe_ix ix_tup (pv 5) pe_int (fun _ _ => rfl)) pa_nil))) (nomark _))))
      pss_nil)
    (pss_one (ps_ret (pe_and (pe_cmpR op_eq (pe_ix ix_tup (pv 6) pe_int (fun _ _ => rfl)) pe_str (nomark _)) (pe_one (pe_call (same45 T F3) (hr.mono (by omega)) (by rfl) T.g_law_same T.k_law_same (b__law_same F3) .nil pass0 (pa_cons (pe_ix ix_tup (pv 6) pe_int (fun _ _ => rfl)) (pa_cons (pe_ix ix_tup (pv 5) pe_int (fun _ _ => rfl)) pa_nil)))))))))), ?_⟩
  refine ⟨_, rfl, _, rfl, _, rfl, _, rfl, lr, sp, ra, k, 0, row, rs, layS S, rfl, hrw, val, hsp, lok, hra, hb, lrow, Nat.zero_le _, by decide, fun d en hr1 t tv H1 s1 ht td => ?_, fun e hr1 t H1 s1 ht => ?_⟩
  · obtain ⟨g1, g2, g3⟩ := rok.good _ _ hr1
    refine ⟨_, rfl, _, rfl, _, rfl, ra, _, rfl, .inl (SqL.of (s1 _ _ hra)), fun l2 hl2 => ?_⟩
    have s2 := same_new (o := .lst (rowV row)) hl2
    have s02 := s1.trans s2
    refine ⟨y, x, l2, k, row, rs, S, rfl, hL.same s02, hK.same s02, val, so, upd_same, hb, lrow, hk, fun d2 hd2 t3 tv3 H3 s3 ht3 td3 => ?_, fun e2 he2 t3 H3 s3 ht3 => ?_⟩
    · have e1 : ¬ en < row.length := fun z => by
        unfold rdW at hd2; rw [hr1] at hd2; dsimp only at hd2; rw [if_pos z] at hd2; cases hd2
      have e2 : d2 = d := by
        unfold rdW at hd2; rw [hr1] at hd2; dsimp only at hd2; rw [if_neg e1] at hd2; cases hd2; rfl
      subst e2
      have s13 := s2.trans s3
      have ht4 := s13 _ _ ht
      refine ⟨_, rfl, t, _, _, _, rfl, rfl, SqT.of ht4, atI_nat (j := 0) rfl, rfl, _, rfl, iteFe (decide_eq_false (fun z => by cases z)) ?_⟩
      refine ⟨_, rfl, t, _, _, _, rfl, rfl, SqT.of ht4, atI_nat (j := 1) rfl, _, rfl, ra, _, rfl, .inl (SqL.of (s13 _ _ (s1 _ _ hra))), _, _, rfl, rfl, _, rfl, iteFe (decide_eq_false (by rw [lrv]; omega)) ?_⟩
      refine ⟨_, rfl, t3, _, _, _, rfl, rfl, SqT.of ht3, atI_nat (j := 0) rfl, rfl, _, rfl, iteT ?_⟩
      obtain ⟨p1, p2⟩ := fitB_pl val _ _ _ g1
      refine ⟨_, rfl, t3, _, _, _, rfl, rfl, SqT.of ht3, atI_nat (j := 1) rfl, _, rfl, t, _, _, _, rfl, rfl, SqT.of ht4, atI_nat (j := 0) rfl, tv3, .ref tv, d2, rfl, td3, td.mono (tups_of s13), p1, by omega, ?_⟩
      exact q _ (s02.trans s3)
    · have e1 : en < row.length := Decidable.byContradiction fun z => by
        unfold rdW at he2; rw [hr1] at he2; dsimp only at he2; rw [if_neg z] at he2; cases he2
      have e3 : e2 = en := by
        unfold rdW at he2; rw [hr1] at he2; dsimp only at he2; rw [if_pos e1] at he2; cases he2; rfl
      subst e3
      have s13 := s2.trans s3
      have ht4 := s13 _ _ ht
      refine ⟨_, rfl, t, _, _, _, rfl, rfl, SqT.of ht4, atI_nat (j := 0) rfl, rfl, _, rfl, iteFe (decide_eq_false (fun z => by cases z)) ?_⟩
      refine ⟨_, rfl, t, _, _, _, rfl, rfl, SqT.of ht4, atI_nat (j := 1) rfl, _, rfl, ra, _, rfl, .inl (SqL.of (s13 _ _ (s1 _ _ hra))), _, _, rfl, rfl, _, rfl, iteTe (decide_eq_true (by rw [lrv]; omega)) ?_⟩
      refine ⟨_, rfl, _, rfl, t, _, _, _, rfl, rfl, SqT.of ht4, atI_nat (j := 1) rfl, by show 2 ≤ sizeLine; decide, fun t5 ht5 => ?_⟩
      have s5 := same_new (o := .tup [V.str "bad", V.int ((e2 : Nat) : Int)]) ht5
      refine ⟨_, _, .tup (SqT.of (s5 _ _ ht3)) (.cons (.str _) (.cons (.int _) .nil)), .tup (SqT.of upd_same) (.cons (.str _) (.cons (.int _) .nil)), bad_sh _, bad_sh _, ?_⟩
      rw [bad_eqv]
      exact q _ ((s02.trans s3).trans s5)
  · refine ⟨_, rfl, _, rfl, _, rfl, ra, _, rfl, .inl (SqL.of (s1 _ _ hra)), fun l2 hl2 => ?_⟩
    have s2 := same_new (o := .lst (rowV row)) hl2
    have s02 := s1.trans s2
    have ew : rdW rs (layS S) row k = .inl e := by unfold rdW; rw [hr1]
    refine ⟨y, x, l2, k, row, rs, S, rfl, hL.same s02, hK.same s02, val, so, upd_same, hb, lrow, hk, fun d2 hd2 t3 tv3 H3 s3 ht3 td3 => ?_, fun e2 he2 t3 H3 s3 ht3 => ?_⟩
    · rw [ew] at hd2; cases hd2
    · rw [ew] at he2
      cases he2
      have s13 := s2.trans s3
      have ht4 := s13 _ _ ht
      refine ⟨_, rfl, t, _, _, _, rfl, rfl, SqT.of ht4, atI_nat (j := 0) rfl, rfl, _, rfl, iteTe (decide_eq_true rfl) ?_⟩
      refine ⟨_, rfl, _, rfl, t, _, _, _, rfl, rfl, SqT.of ht4, atI_nat (j := 1) rfl, by show 2 ≤ sizeLine; decide, fun t5 ht5 => ?_⟩
      have s5 := same_new (o := .tup [V.str "bad", V.int ((e : Nat) : Int)]) ht5
      refine ⟨_, _, .tup (SqT.of (s5 _ _ ht3)) (.cons (.str _) (.cons (.int _) .nil)), .tup (SqT.of upd_same) (.cons (.str _) (.cons (.int _) .nil)), bad_sh _, bad_sh _, ?_⟩
      rw [bad_eqv]
      exact q _ ((s02.trans s3).trans s5)
end
end Bg
set_option Elab.async false
set_option linter.all false
set_option maxRecDepth 100000
set_option maxHeartbeats 4000000
/-! unpack of a kind that is nowhere -/
namespace Bg
open PySem PySem.Spec PyProof.Rows L2
section
variable {P : Program} {w : World} {K : PySem.W.Frag} {mg : Str → Option Value} {base : Heap} {fd : FuncData}
def spMakersU (K : PySem.W.Frag) : Sp := fun vs H Q E => ∃ (x : Addr) (k : Str) (rs : List Row), vs = [.ref x, .str k] ∧ KindsF K H x rs ∧ k ∉ rkinds rs ∧ Tame k ∧ RaisesNT K H k E
theorem okx_makersU (T : Tx K mg) (F : FnP K ("Kinds", some "makers") "makers" "Kinds.makers" s_Kinds_makers fd) : FnOk P w K mg base (L2.CX P w) 5 (He.fAd K ("Kinds", some "makers")) fd ["self", "kind"] (spMakersU K) := by
  refine F.ok (k := 4) sc_Kinds_makers (fun vs H Q E h => ?_) (fun cdv A outer s H vs Q E hr h => ?_)
  · obtain ⟨_, _, _, rfl, _⟩ := h; rfl
  obtain ⟨x, k, rs, rfl, ⟨dx, dm, dk, dp, dl, tn, to, h0, mvs, kvs, pvs, lvs, ⟨h1, h2⟩, _⟩, hk, tk, q⟩ := h
  have hu := hu_of hr
  obtain ⟨f1, F1⟩ := T.F_NotThere_init
  have nd := sc_Kinds_makers.nd
  refine ⟨_, (pss_cons (ps_if (pt_cmp (pc_dnotin hu (pv 1) (pe_fld (pv 0) rfl)))
      (pss_one (ps_raise rfl (takes_of rfl rfl rfl rfl) (pmk_oex T.x_NotThere.oex T.m_NotThere_init.at_ (beq_iff_eq.mp T.m_NotThere_init.fn) (ok_nti T F1) (hr.mono (by omega)) (b_NotThere_init F1) .nil pass0 (by rfl) T.g_NotThere (pa_cons (pv 1) pa_nil))))
      pss_nil)
    pss_never), ?_⟩
  refine ⟨_, rfl, _, rfl, x, CK K, dx, _, _, rfl, h0, T.cl_Kinds, T.na_Kinds_makers_, kF_makers, dm, _, rfl, h1.get (Sum.inr k), _, rfl, ?_⟩
  rw [KD.isSome h2, decide_eq_false fun z => hk (mem_distinct.mp z)]
  exact iteT ⟨_, rfl, raise_read tk q⟩
def spRNU (K : PySem.W.Frag) : Sp := fun vs H Q E => ∃ (y x : Addr) (k : Str) (u v z : V) (rs : List Row) (S : Str → List Str), vs = [.ref y, .str k, u, v, z] ∧ LayAt K H y x rs S ∧ KindsF K H x rs ∧ k ∉ rkinds rs ∧ Tame k ∧ RaisesNT K H k E
theorem okx_rnU (T : Tx K mg) (F : FnP K ("read_node", none) "read_node" "read_node" s_read_node fd) : FnOk P w K mg base (L2.CX P w) 6 (He.fAd K ("read_node", none)) fd p_read_node (spRNU K) := by
  obtain ⟨f0, F0⟩ := T.F_Kinds_makers
  have G0 := okx_makersU (P := P) (w := w) (base := base) T F0
  refine F.ok (k := 5) sc_read_node (fun vs H Q E h => ?_) (fun cdv A outer s H vs Q E hr h => ?_)
  · obtain ⟨_, _, _, _, _, _, _, _, rfl, _⟩ := h; rfl
  obtain ⟨y, x, k, u, v, z, rs, S, rfl, hL, hK, hk, tk, q⟩ := h
  have hu := hu_of hr
  obtain ⟨dy, ty, hy⟩ := hL.ins
  obtain ⟨dx, dm, dk, dp, dl, tn, to, h0, _⟩ := id hK
  obtain ⟨f1, F1⟩ := T.F_Layout_getitem
  obtain ⟨f2, F2⟩ := T.F_part_of
  obtain ⟨f3, F3⟩ := T.F_Kinds_inner
  obtain ⟨f4, F4⟩ := T.F_read_byte
  obtain ⟨f5, F5⟩ := T.F_has_length
  obtain ⟨f6, F6⟩ := T.F_read_measured
  obtain ⟨f7, F7⟩ := T.F_read_node
  obtain ⟨f8, F8⟩ := T.F_Kinds_parts
  obtain ⟨t_BYTE, m_BYTE⟩ := T.c_BYTE
  obtain ⟨t_MOST_LEVELS, m_MOST_LEVELS⟩ := T.c_MOST_LEVELS
  have nd := sc_read_node.nd
  refine ⟨_, (pss_cons (ps_set (i := 5) nd rfl (.inl rfl) (pe_fld (pv 0) rfl))
    (pss_cons (ps_set (i := 6) nd rfl (.inl rfl) (pe_meth (pv 5) T.cl_Kinds T.m_Kinds_makers G0 (hr.mono (by omega)) (b_Kinds_makers F0) .nil (passX (takes_of rfl rfl rfl rfl)) (pa_cons (pv 1) pa_nil)))
    pss_never)), ?_⟩
  exact ⟨_, rfl, y, CL K, dy, _, _, rfl, hy, T.cl_Layout, T.na_Layout_kinds, lF3_kinds, _, rfl, x, dx, _, rfl, h0, kF_none (by decide +kernel), _, rfl, x, k, rs, rfl, hK, hk, tk, q⟩
def spUnpU (K : PySem.W.Frag) : Sp := fun vs H Q E => ∃ (y x : Addr) (k : Str) (u : V) (rs : List Row) (S : Str → List Str), vs = [.ref y, .str k, u] ∧ LayAt K H y x rs S ∧ KindsF K H x rs ∧ k ∉ rkinds rs ∧ Tame k ∧ RaisesNT K H k E
theorem okx_unpU (T : Tx K mg) (F : FnP K ("unpack", none) "unpack" "unpack" s_unpack fd) : FnOk P w K mg base (L2.CX P w) 7 (He.fAd K ("unpack", none)) fd p_unpack (spUnpU K) := by
  obtain ⟨f0, F0⟩ := T.F_read_node
  have G0 := okx_rnU (P := P) (w := w) (base := base) T F0
  refine F.ok (k := 6) sc_unpack (fun vs H Q E h => ?_) (fun cdv A outer s H vs Q E hr h => ?_)
  · obtain ⟨_, _, _, _, _, _, rfl, _⟩ := h; rfl
  obtain ⟨y, x, k, u, rs, S, rfl, hL, hK, hk, tk, q⟩ := h
  have nd := sc_unpack.nd
  refine ⟨_, (pss_cons (ps_asg (pe_call G0 (hr.mono (by omega)) (by rfl) T.g_read_node T.k_read_node (b_read_node F0) .nil (passX (takes_of rfl rfl rfl rfl)) (pa_cons (pv 0) (pa_cons (pv 1) (pa_cons (pv 2) (pa_cons pe_int (pa_cons pe_int pa_nil)))))) (pg_tup rfl (pgs_cons (pg_name (i := 3) nd rfl (Or.inl rfl)) (pgs_cons (pg_name (i := 4) nd rfl (Or.inl rfl)) pgs_nil))))
    pss_never), ?_⟩
  exact ⟨_, rfl, _, rfl, _, rfl, y, x, k, u, _, _, rs, S, rfl, hL, hK, hk, tk, q⟩
end
end Bg
set_option Elab.async false
set_option linter.all false
set_option maxRecDepth 100000
set_option maxHeartbeats 4000000
/-! a packed row is read back -/
namespace Bg
open PySem PySem.Spec PyProof.Rows L2
def packT (rs : List Row) (lay : LayM) (d : PyData) : List Nat := (packR rs lay d).map Int.toNat
theorem packT_len (rs : List Row) (lay : LayM) (d : PyData) : (packT rs lay d).length = (packR rs lay d).length := by unfold packT; rw [List.length_map]
theorem at_app {pre l post : List Nat} {x : Nat} : (pre ++ (x :: l) ++ post)[pre.length]? = some x := by simp
theorem at_app1 {pre l post : List Nat} {x y : Nat} : (pre ++ (x :: y :: l) ++ post)[pre.length + 1]? = some y := by
  rw [List.append_assoc, List.getElem?_append_right (by omega)]; simp
def itP (rs : List Row) (lay : LayM) (r : Row) (ds : List PyData) (s : LSlot) : List Int := itemP (packR rs lay) s.1 (valAt r.2.2 ds s.2)
theorem head_nat (b : Bool) (l : List Int) : (headP b l).map Int.toNat = if b = true then [l.length / 256, l.length % 256] else [] := by
  unfold headP
  split
  · simp only [List.map_cons, List.map_nil]
    congr 1
  · rfl
theorem rdS_pack {rs : List Row} (val : ValidT rs) {lay : LayM} (ok : LayOk rs lay) {n : Nat} {row : List Nat} (ih : ∀ (k : Str) (d : PyData) (pre post : List Nat), fitB rs n k d = true → row = pre ++ packT rs lay d ++ post → rdN rs lay row n k pre.length = .inr (d, pre.length + (packT rs lay d).length))
    {r : Row} (hr : r ∈ rs) {ds : List PyData} (hall : allV (fitB rs n) r.2.2 ds = true) : ∀ (sl : List LSlot) (acc : Acc) (pre post : List Nat), (∀ s ∈ sl, s.2 ∈ r.2.2.map (·.1)) → row = pre ++ (sl.flatMap (itP rs lay r ds)).map Int.toNat ++ post →
    rdS row (rdN rs lay row n) r sl pre.length acc = .inr (acc ++ sl.map fun s => (s.2, valAt r.2.2 ds s.2), pre.length + (sl.flatMap (itP rs lay r ds)).length)
  | [], acc, pre, post, _, _ => by simp [rdS]
  | s :: sl, acc, pre, post, hn, e => by
    obtain ⟨j, p, d, _, hp, ep, hd, ev⟩ := valAt_get (hn s (List.mem_cons_self ..)) (allV_len hall)
    have hpm := List.mem_of_getElem? hp
    have epa : partAt r.2.2 s.2 = p := by rw [← ep]; exact partAt_of (val.ndp hr) hpm
    have hv := allV_get hall hp hd
    have next : ∀ (it : List Int), itP rs lay r ds s = it → rdP row (rdN rs lay row n) r s pre.length = .inr (d, pre.length + it.length) →
        rdS row (rdN rs lay row n) r (s :: sl) pre.length acc = .inr (acc ++ (s :: sl).map (fun s => (s.2, valAt r.2.2 ds s.2)), pre.length + ((s :: sl).flatMap (itP rs lay r ds)).length) := fun it ei h => by
      unfold rdS
      rw [h]
      dsimp only
      have e2 : row = (pre ++ it.map Int.toNat) ++ (sl.flatMap (itP rs lay r ds)).map Int.toNat ++ post := by
        rw [e, List.flatMap_cons, ei, List.map_append]; simp
      have := rdS_pack val ok ih hr hall sl (acc ++ [(s.2, d)]) (pre ++ it.map Int.toNat) post (fun t ht => hn t (List.mem_cons_of_mem _ ht)) e2
      rw [List.length_append, List.length_map] at this
      rw [this, List.flatMap_cons, ei, List.length_append, List.map_cons, ev]
      simp [Nat.add_assoc]
    unfold rdP at next
    rw [epa] at next
    rcases val_cases hv with ⟨eb, z, rfl, z0, z1⟩ | ⟨nb, hfit, _⟩
    · refine next [z] (by unfold itP; rw [ev]; rfl) ?_
      simp only [if_pos eb]
      have ei : itP rs lay r ds s = [z] := by unfold itP; rw [ev]; rfl
      have : row[pre.length]? = some z.toNat := by
        rw [e, List.flatMap_cons, ei]
        show (pre ++ (z.toNat :: (sl.flatMap (itP rs lay r ds)).map Int.toNat) ++ post)[pre.length]? = _
        exact at_app
      rw [this]
      dsimp only
      rw [show ((z.toNat : Nat) : Int) = z by omega]; rfl
    · have ei : itP rs lay r ds s = headP s.1 (packR rs lay d) ++ packR rs lay d := by
        unfold itP; rw [ev]; unfold itemP; split
        · rw [fitB_int] at hfit; cases hfit
        · rfl
      refine next _ ei ?_
      simp only [if_neg nb]
      have er : row = pre ++ ((headP s.1 (packR rs lay d)).map Int.toNat ++ packT rs lay d ++ (sl.flatMap (itP rs lay r ds)).map Int.toNat) ++ post := by
        rw [e, List.flatMap_cons, ei, List.map_append, List.map_append]; rfl
      rw [head_nat] at er
      have lh : (headP s.1 (packR rs lay d)).length = if s.1 = true then 2 else 0 := by unfold headP; split <;> rfl
      rw [List.length_append, lh]
      by_cases hs : s.1 = true
      · simp only [if_pos hs] at er ⊢
        have hi := ih p.2.1 d (pre ++ [(packR rs lay d).length / 256, (packR rs lay d).length % 256]) ((sl.flatMap (itP rs lay r ds)).map Int.toNat ++ post) hfit (by rw [er]; simp)
        have ll : (pre ++ [(packR rs lay d).length / 256, (packR rs lay d).length % 256]).length = pre.length + 2 := by simp
        rw [ll, packT_len] at hi
        have hlen : ¬ row.length < pre.length + 2 := by rw [er]; simp
        rw [if_neg hlen, hi]
        dsimp only
        have g0 : row[pre.length]? = some ((packR rs lay d).length / 256) := by rw [er]; exact at_app
        have g1 : row[pre.length + 1]? = some ((packR rs lay d).length % 256) := by rw [er]; exact at_app1
        rw [g0, g1, if_pos (by show _ = pre.length + 2 + (_ / 256 * 256 + _ % 256); omega)]
        rw [Nat.add_assoc]
      · simp only [if_neg hs] at er ⊢
        have hi := ih p.2.1 d pre ((sl.flatMap (itP rs lay r ds)).map Int.toNat ++ post) hfit (by rw [er]; simp)
        rw [packT_len] at hi
        rw [hi, Nat.zero_add]
theorem fam_at {rs : List Row} (nd : (rmakers rs).Nodup) {r : Row} (hr : r ∈ rs) : (famOf rs r.1)[tagOf rs r]? = some r := by
  have hm : r.2.1 ∈ makersOf rs r.1 := mem_makersOf.mpr ⟨r, hr, rfl, rfl⟩
  obtain ⟨i1, i2⟩ := mem_idxOf hm
  have i2' : (famOf rs r.1).map (fun r => r.2.1) = makersOf rs r.1 := fam_names rs r.1
  have : ((famOf rs r.1).map fun r => r.2.1)[tagOf rs r]? = some r.2.1 := by
    rw [i2']
    unfold tagOf
    rw [List.getElem?_eq_getElem (List.idxOf_lt_length_of_mem hm), List.getElem_idxOf]
  rw [List.getElem?_map, Option.map_eq_some_iff] at this
  obtain ⟨r', h1, h2⟩ := this
  obtain ⟨h3, _⟩ := fam_mem h1
  rw [h1, row_unique nd h3 hr h2]
theorem flat_one {α β : Type} (g : α → β) : ∀ l : List α, l.flatMap (fun a => [g a]) = l.map g
  | [] => rfl
  | a :: l => by rw [List.flatMap_cons, List.map_cons, flat_one g l]; rfl
theorem vals_back {ps : List Part} {ds : List PyData} (nd : (ps.map (·.1)).Nodup) (l : ds.length = ps.length) : ps.map (fun p => valAt ps ds p.1) = ds := by
  have := valAt_all (fun d => [d]) nd l
  rw [flat_one (fun p : Part => valAt ps ds p.1), flat_one (fun d : PyData => d), List.map_id'] at this
  exact this
theorem lookA_map {sl : List LSlot} {g : Str → PyData} {x : Str} (h : x ∈ sl.map (·.2)) : lookA (sl.map fun s => (s.2, g s.2)) x = g x := by
  unfold lookA
  rw [List.find?_map]
  induction sl with
  | nil => simp at h
  | cons s sl ih =>
    rw [List.find?_cons]
    by_cases e : s.2 = x
    · have : ((fun q : Str × PyData => decide (q.1 = x)) ∘ fun s : LSlot => (s.2, g s.2)) s = true := decide_eq_true e
      rw [this]
      show g s.2 = g x
      rw [e]
    · have : ((fun q : Str × PyData => decide (q.1 = x)) ∘ fun s : LSlot => (s.2, g s.2)) s = false := decide_eq_false e
      rw [this]
      refine ih ?_
      rw [List.map_cons, List.mem_cons] at h
      exact h.resolve_left fun z => e z.symm
theorem rdN_pack {rs : List Row} (val : ValidT rs) {lay : LayM} (ok : LayOk rs lay) {row : List Nat} : ∀ (n : Nat) (k : Str) (d : PyData) (pre post : List Nat), fitB rs n k d = true → row = pre ++ packT rs lay d ++ post → rdN rs lay row n k pre.length = .inr (d, pre.length + (packT rs lay d).length)
  | 0, _, _, _, _, h, _ => by cases h
  | n + 1, k, d, pre, post, h, e => by
    obtain ⟨m, ds, r, rfl, hrow, hall⟩ := fitB_inv h
    obtain ⟨hr, e1, e2⟩ := rowAt_of hrow
    subst e1 e2
    have ld := allV_len hall
    have ep : packT rs lay (.tuple (.str r.2.1 :: ds)) = tagOf rs r :: ((lay r.2.1).flatMap (itP rs lay r ds)).map Int.toNat := by
      unfold packT
      rw [pack_node val.nd ok hr hall]; rfl
    rw [ep] at e ⊢
    unfold rdN
    have h0 : row[pre.length]? = some (tagOf rs r) := by rw [e]; exact at_app
    rw [h0]
    dsimp only
    rw [fam_at val.nd hr]
    dsimp only
    have hs := rdS_pack (row := row) val ok (fun k d pre post => rdN_pack val ok n k d pre post) hr hall (lay r.2.1) [] (pre ++ [tagOf rs r]) post (ok.names hr) (by rw [e]; simp)
    have ll : (pre ++ [tagOf rs r]).length = pre.length + 1 := by simp
    rw [ll] at hs
    rw [hs]
    dsimp only
    congr 2
    · unfold treeOf
      rw [List.nil_append]
      congr 2
      refine Eq.trans ?_ (vals_back (val.ndp hr) ld)
      refine List.map_congr_left fun p hp => ?_
      exact lookA_map (g := fun x => valAt r.2.2 ds x) ((ok.perm r hr).mem_iff.mpr (List.mem_map_of_mem hp))
    · rw [List.length_cons, List.length_map]; omega
end Bg
set_option Elab.async false
set_option linter.all false
set_option maxRecDepth 100000
set_option maxHeartbeats 4000000
/-! packed rows are rows of bytes; unpack of what is good -/
namespace Bg
open PySem PySem.Spec PyProof.Rows L2
theorem bz_le {rs : List Row} (val : ValidT rs) {k : Str} (hk : k ∈ rkinds rs) {f : Nat} (h : f ≤ 12) : bz (bN rs 4) k f ≤ 20000 := by
  have bo := BaseOk.n (rs := rs) 4
  have l := bo.len val
  unfold bz
  split
  · have := idx_lt (base_all val k hk)
    exact Nat.le_trans (Bd_le (show (rkinds (bN rs 4)).idxOf k ≤ 3 by omega)) (by decide)
  · omega
theorem tag_le {rs : List Row} (val : ValidT rs) {r : Row} (hr : r ∈ rs) : tagOf rs r ≤ 12 := by
  have h1 := fam_at val.nd hr
  have l := (List.getElem?_eq_some_iff.mp h1).1
  have h2 : (famOf rs r.1).length ≤ rs.length := List.length_filter_le ..
  have := val.each.few
  omega
theorem pack_byt {rs : List Row} (val : ValidT rs) {lay : LayM} (ok : LayOk rs lay) : ∀ (n : Nat) (k : Str) (d : PyData), fitB rs n k d = true → wt d ≤ 30000 → ∀ x ∈ packR rs lay d, 0 ≤ x ∧ x ≤ 255
  | 0, _, _, h, _, _, _ => by cases h
  | n + 1, k, d, h, hw, x, hx => by
    obtain ⟨m, ds, r, rfl, er, z⟩ := fitB_inv h
    obtain ⟨hr, e1, e2⟩ := rowAt_of er
    subst e2
    rw [pack_node val.nd ok hr z] at hx
    rw [wt_node] at hw
    rcases List.mem_cons.mp hx with e | hx
    · have := tag_le val hr; omega
    obtain ⟨s, hs, hx⟩ := List.mem_flatMap.mp hx
    obtain ⟨i, p, d, _, hp, _, hd, e⟩ := valAt_get (ok.names hr s hs) (allV_len z)
    rw [e] at hx
    have wd := wt_mem (List.mem_of_getElem? hd)
    rcases val_cases (allV_get z hp hd) with ⟨_, j, rfl, j0, j1⟩ | ⟨_, hf, _⟩
    · have : x = j := by simpa [itemP] using hx
      omega
    · have ei : itemP (packR rs lay) s.1 d = headP s.1 (packR rs lay d) ++ packR rs lay d := by
        unfold itemP; split
        · rw [fitB_int] at hf; cases hf
        · rfl
      rw [ei] at hx
      rcases List.mem_append.mp hx with hx | hx
      · have lp := pack_len val ok n _ _ hf
        unfold headP at hx
        split at hx
        · simp only [List.mem_cons, List.not_mem_nil, or_false] at hx
          omega
        · cases hx
      · exact pack_byt val ok n _ d hf (by omega) x hx
theorem packT_row {rs : List Row} {lay : LayM} {d : PyData} (h : ∀ x ∈ packR rs lay d, 0 ≤ x ∧ x ≤ 255) : (packR rs lay d).map V.int = rowV (packT rs lay d) ∧ ∀ b ∈ packT rs lay d, b ≤ 255 := by
  unfold packT rowV
  rw [List.map_map]
  refine ⟨List.map_congr_left fun x hx => ?_, fun b hb => ?_⟩
  · have := h x hx
    show V.int x = V.int ((x.toNat : Nat) : Int)
    congr 1; omega
  · obtain ⟨x, hx, rfl⟩ := List.mem_map.mp hb
    have := h x hx; omega
theorem rdW_pack {rs : List Row} (val : ValidT rs) {lay : LayM} (ok : LayOk rs lay) {k : Str} {d : PyData} (h : fitB rs 40 k d = true) : rdW rs lay (packT rs lay d) k = .inr d := by
  have := rdN_pack val ok (row := packT rs lay d) 40 k d [] [] h (by simp)
  unfold rdW
  rw [show ([] : List Nat).length = 0 from rfl, Nat.zero_add] at this
  rw [this]
  dsimp only
  rw [if_neg (by omega)]
section
variable {P : Program} {w : World} {K : PySem.W.Frag} {mg : Str → Option Value} {base : Heap} {fd : FuncData}
def spUnpG (K : PySem.W.Frag) : Sp := fun vs H Q _ => ∃ (y x ra : Addr) (k : Str) (row : List Nat) (rs : List Row) (S : Str → List Str) (d : PyData), vs = [.ref y, .str k, .ref ra] ∧ LayAt K H y x rs S ∧ KindsF K H x rs ∧ ValidT rs ∧ SpecsOk rs S ∧
  H ra = some (.lst (rowV row)) ∧ (∀ b ∈ row, b ≤ 255) ∧ row.length ≤ 1000000 ∧ k ∈ rkinds rs ∧ rdW rs (layS S) row k = .inr d ∧ ∀ tv H', Same H H' → Td H' tv d → Q tv H'
theorem ok_unpG (T : Tx K mg) (F : FnP K ("unpack", none) "unpack" "unpack" s_unpack fd) : FnOk P w K mg base CX0 85 (He.fAd K ("unpack", none)) fd p_unpack (spUnpG K) :=
  (calm (okx_unpack T F)).imp fun vs H Q E h => by
    obtain ⟨y, x, ra, k, row, rs, S, d, e, hL, hK, val, so, hra, hb, lr, hk, hd, q⟩ := h
    refine ⟨y, x, ra, k, row, rs, S, e, hL, hK, val, so, hra, hb, lr, hk, fun d' hd' => ?_, fun e' hd' => ?_⟩
    · rw [hd] at hd'; cases hd'; exact q
    · rw [hd] at hd'; cases hd'
end
end Bg
set_option Elab.async false
set_option linter.all false
set_option maxRecDepth 100000
set_option maxHeartbeats 1000000
/-! dicts are told behind an expression -/
namespace Bg
open PySem PySem.Spec PyProof.Rows L2
def tTellE (te : TE) : TE := fun σ H Q => te σ H fun v H1 => ∃ as : List Addr, Dicts as H1 ∧ ∀ H2, Told as H1 H2 → Q v H2
theorem pe_tell {X : Cx} {e : Expr} {te : TE} (h : PE X e te) : PE X e (tTellE te) :=
  ⟨fun pins s σ H Q I hw => thn (h.run pins s σ H _ I hw) fun v s1 ⟨x, H1, I1, r1, as, d, q⟩ => by
    obtain ⟨H2, t, I2⟩ := told_inv I1 as d
    exact ⟨x, H2, I2, r1, q H2 t⟩⟩
end Bg
set_option Elab.async false
set_option linter.all false
set_option maxRecDepth 100000
set_option maxHeartbeats 4000000
/-! rows that a law makes by hand; one row more -/
namespace Bg
open PySem PySem.Spec PyProof.Rows L2
structure PL (H0 G : Hp) (vs : List V) (ps : List Part) : Prop where
  same : Same H0 G
  all : All2 (PartAt G) vs ps
theorem pl_nil {H0 : Hp} : PL H0 H0 [] [] := ⟨Same.refl _, All2.nil⟩
theorem pl_snoc {H0 G : Hp} {vs : List V} {ps : List Part} {p : Addr} {part : Part} (h : PL H0 G vs ps) (hp : G p = none) : PL H0 (upd G p (.tup (partVs part))) (vs ++ [.ref p]) (ps ++ [part]) :=
  ⟨h.same.trans (same_new hp), (h.all.mono fun _ _ z => z.mono (tups_of (same_new hp))).snoc ⟨p, rfl, upd_same⟩⟩
theorem rowAt_new {H0 G : Hp} {vs : List V} {ps : List Part} {t row : Addr} {k m : Str} (pl : PL H0 G vs ps) (ht : G t = none) (hrow : (upd G t (.tup vs)) row = none) :
    RowAt (upd (upd G t (.tup vs)) row (.tup [.str k, .str m, .ref t])) (.ref row) (k, m, ps) ∧ Same H0 (upd (upd G t (.tup vs)) row (.tup [.str k, .str m, .ref t])) := by
  have s1 := pl.same.trans ((same_new (o := .tup vs) ht).trans (same_new (o := .tup [.str k, .str m, .ref t]) hrow))
  have pa : PartsAt (upd G t (.tup vs)) (.ref t) ps := ⟨t, vs, rfl, upd_same, pl.all.mono fun _ _ z => z.mono (tups_of (same_new ht))⟩
  exact ⟨⟨row, .ref t, rfl, upd_same, pa.mono (tups_of (same_new hrow))⟩, s1⟩
theorem ra_cat {H : Hp} {l b : Addr} {r1 r2 : List Row} {Q : VK} (h1 : RowsAt H l r1) (h2 : RowsAt H b r2) (sz : r1.length + r2.length ≤ 1000) (q : ∀ p H', H p = none → Same H H' → RowsAt H' p (r1 ++ r2) → Q (.ref p) H') : rCat (.ref l) (.ref b) H Q := by
  obtain ⟨u1, e1, a1⟩ := h1
  obtain ⟨u2, e2, a2⟩ := h2
  have bg : 4000 ≤ sizeLine := by rw [sizeLine_eq]; decide
  refine ⟨l, b, u1, u2, rfl, rfl, e1, e2, by rw [a1.1, a2.1]; omega, fun p hp => q p _ hp (same_new hp) ⟨u1 ++ u2, upd_same, (a1.app a2).mono fun _ _ z => z.mono (tups_of (same_new hp))⟩⟩
theorem ra_one {H : Hp} {p row : Addr} {r : Row} (h : RowAt H (.ref row) r) (hp : H p = none) : RowsAt (upd H p (.lst [.ref row])) p [r] :=
  ⟨[.ref row], upd_same, (All2.snoc All2.nil (h.mono (tups_of (same_new hp))))⟩
theorem snoc_each {rs : List Row} {r : Row} (ok : EachOk rs) (few : rs.length < 12) (g : kindB r.1 = true ∧ nameB r.2.1 = true ∧ partsB r.2.2 = true) (new : r.2.1 ∉ rmakers rs) (old : r.1 ∈ rkinds rs) : EachOk (rs ++ [r]) := by
  refine ⟨fun x hx => ?_, ?_, by rw [List.length_append]; simp; omega, ?_⟩
  · rcases List.mem_append.mp hx with z | z
    · exact ok.good x z
    · rw [List.mem_singleton.mp z]; exact g
  · unfold rmakers
    rw [List.map_append]
    refine (List.perm_append_comm.nodup_iff).mpr ?_
    exact List.nodup_cons.mpr ⟨new, ok.nd⟩
  · refine Nat.le_trans (nodup_sub_len _ (distinct (rkinds rs)) (nodup_distinct _) fun k hk => ?_) ok.kinds
    have hk := mem_distinct.mp hk
    unfold rkinds at hk
    rw [List.map_append, List.mem_append] at hk
    rcases hk with z | z
    · exact mem_distinct.mpr z
    · rw [List.mem_singleton.mp z]; exact mem_distinct.mpr old
/-- one row more, of a kind that is there -/
theorem snoc_valid {rs : List Row} {r : Row} (val : ValidT rs) (few : rs.length < 12) (sh : RowShort r) (g : kindB r.1 = true ∧ nameB r.2.1 = true ∧ partsB r.2.2 = true) (new : r.2.1 ∉ rmakers rs) (old : r.1 ∈ rkinds rs)
    (inn : ∀ p ∈ r.2.2, p.2.1 = ("byte" : Str) ∨ p.2.1 ∈ rkinds rs) : ValidT (rs ++ [r]) := by
  have sub : ∀ k ∈ rkinds rs, k ∈ rkinds (rs ++ [r]) := fun k hk => by
    unfold rkinds; rw [List.map_append, List.mem_append]; exact .inl hk
  have back : ∀ k ∈ rkinds (rs ++ [r]), k ∈ rkinds rs := fun k hk => by
    unfold rkinds at hk
    rw [List.map_append, List.mem_append] at hk
    rcases hk with z | z
    · exact z
    · rw [List.mem_singleton.mp z]; exact old
  obtain ⟨rank, f⟩ := val.fin
  refine ⟨⟨by rw [List.length_append]; simp; omega, fun x hx => ?_⟩, by simp, snoc_each val.each few g new old, fun x hx p hp => ?_, rank, fun k hk => ?_, fun k hk => ?_⟩
  · rcases List.mem_append.mp hx with z | z
    · exact val.short.2 x z
    · rw [List.mem_singleton.mp z]; exact sh
  · rcases List.mem_append.mp hx with z | z
    · exact (val.inner x z p hp).imp id (sub _)
    · rw [List.mem_singleton.mp z] at hp
      exact (inn p hp).imp id (sub _)
  · exact Nat.lt_of_lt_of_le (f.lt k (back k hk)) (nodup_sub_len _ _ (nodup_distinct _) fun x hx => mem_distinct.mpr (sub x (mem_distinct.mp hx)))
  · obtain ⟨x, hx, e, h⟩ := f.base k (back k hk)
    exact ⟨x, List.mem_append.mpr (.inl hx), e, fun p hp => (h p hp).imp id fun z => ⟨sub _ z.1, z.2⟩⟩
end Bg
set_option Elab.async false
set_option linter.all false
set_option maxRecDepth 100000
set_option maxHeartbeats 8000000
namespace Bg
open PySem PySem.Spec PyProof.Rows L2
section
variable {P : Program} {w : World} {K : PySem.W.Frag} {mg : Str → Option Value} {base : Heap} {fd : FuncData}
theorem lpack40 (T : Tx K mg) (F : FnP K ("_law_pack", none) "_law_pack" "_law_pack" s__law_pack fd) : FnOk P w K mg base CX0 41 (He.fAd K ("_law_pack", none)) fd p__law_pack (spPK 40) := lpack T F 40
theorem byV_rowV {row : List Nat} (h : ∀ b ∈ row, b ≤ 255) : ByV (rowV row) := fun v hv => by
  obtain ⟨b, hb, rfl⟩ := List.mem_map.mp hv
  exact ⟨b, rfl, h b hb⟩
def spLaw (K : PySem.W.Frag) : Sp := fun vs H Q _ => ∃ (a : Addr) (ns : List Int), vs = [.ref a] ∧ SqL K H a (ns.map V.int) ∧ ns.length ≤ 63 ∧ ∀ H', Q (.bl true) H'
theorem ok_law (T : Tx K mg) (F : FnP K ("law", none) "law" "law" s_law fd) : FnOk P w K mg base CX0 92 (He.fAd K ("law", none)) fd ["_law_script"] (spLaw K) := by
  refine F.ok (k := 91) sc_law (fun vs H Q E h => ?_) (fun cdv A outer s H vs Q E hr h => ?_)
  · obtain ⟨_, _, rfl, _⟩ := h; rfl
  obtain ⟨a, ns0, rfl, hS, h63, q⟩ := h
  have hu := hu_of hr
  obtain ⟨f1, F1⟩ := T.F__law_pool
  obtain ⟨f2, F2⟩ := T.F__law_rows
  obtain ⟨f3, F3⟩ := T.F__law_specs
  obtain ⟨f4, F4⟩ := T.F__law_hidden
  obtain ⟨f5, F5⟩ := T.F_Layout_init
  obtain ⟨f6, F6⟩ := T.F_Kinds_init
  obtain ⟨f7, F7⟩ := T.F__law_take
  obtain ⟨f8, F8⟩ := T.F__law_base
  obtain ⟨f9, F9⟩ := T.F__law_tree
  obtain ⟨f10, F10⟩ := T.F__law_pack
  obtain ⟨f11, F11⟩ := T.F__law_right
  obtain ⟨f12, F12⟩ := T.F__law_spoilt
  have nd := sc_law.nd
  refine ⟨_, PSs.nox (pss_cons (ps_set (i := 1) nd rfl (.inl rfl) (pe_call (ok_pool T F1) (hr.mono (by omega)) (by rfl) T.g_law_pool T.k_law_pool (b__law_pool F1) .nil pass0 (pa_cons (pv 0) pa_nil)))
    (pss_cons (ps_set (i := 2) nd rfl (.inl rfl) (pe_call (ok_rows T F2) (hr.mono (by omega)) (by rfl) T.g_law_rows T.k_law_rows (b__law_rows F2) .nil pass0 (pa_cons (pv 1) pa_nil)))
    (pss_cons (ps_set (i := 3) nd rfl (.inl rfl) (pe_call (ok_specs T F3) (hr.mono (by omega)) (by rfl) T.g_law_specs T.k_law_specs (b__law_specs F3) .nil pass0 (pa_cons (pv 1) (pa_cons (pv 2) (pa_cons (pe_call (ok_hidden T F4) (hr.mono (by omega)) (by rfl) T.g_law_hidden T.k_law_hidden (b__law_hidden F4) .nil pass0 (pa_cons (pv 1) (pa_cons (pv 2) pa_nil))) pa_nil)))))
    (pss_cons (ps_set (i := 4) nd rfl (.inl rfl) (pe_make T.mk_Layout (ok_layi T F5) (hr.mono (by omega)) (by rfl) T.g_Layout (b_Layout_init F5) .nil pass0 (pa_cons (pe_tell (pe_make T.mk_Kinds (ok_initN T F6) (hr.mono (by omega)) (by rfl) T.g_Kinds (b_Kinds_init F6) .nil pass0 (pa_cons (pe_callTy call_list_of (by rfl) T.n_list (by decide +kernel) (pa_cons (pv 2) pa_nil)) pa_nil))) (pa_cons (pe_callTy call_dictD (by rfl) T.n_dict (by decide +kernel) (pa_cons (pv 3) pa_nil)) pa_nil))))
    (pss_cons (ps_set (i := 5) nd rfl (.inl rfl) (pe_ix ix_tup (pe_ix ix_list (pv 2) (pe_call (ok_take T F7) (hr.mono (by omega)) (by rfl) T.g_law_take T.k_law_take (b__law_take F7) .nil pass0 (pa_cons (pv 1) (pa_cons (pe_callB call_len_seq (by rfl) T.n_len PySem.boot_len (pa_cons (pv 2) pa_nil)) pa_nil))) (fun _ _ => rfl)) pe_int (fun _ _ => rfl)))
    (pss_cons (ps_set (i := 6) nd rfl (.inl rfl) (pe_call (ok_base T F8) (hr.mono (by omega)) (by rfl) T.g_law_base T.k_law_base (b__law_base F8) .nil pass0 (pa_cons (pv 2) pa_nil)))
    (pss_cons (ps_set (i := 7) nd rfl (.inl rfl) (pe_call (tree16 T F9) (hr.mono (by omega)) (by rfl) T.g_law_tree T.k_law_tree (b__law_tree F9) .nil pass0 (pa_cons (pv 1) (pa_cons (pv 2) (pa_cons (pv 6) (pa_cons (pv 5) (pa_cons (pe_op op_add pe_int (pe_call (ok_take T F7) (hr.mono (by omega)) (by rfl) T.g_law_take T.k_law_take (b__law_take F7) .nil pass0 (pa_cons (pv 1) (pa_cons pe_int pa_nil)))) (pa_cons (pe_call (ok_take T F7) (hr.mono (by omega)) (by rfl) T.g_law_take T.k_law_take (b__law_take F7) .nil pass0 (pa_cons (pv 1) (pa_cons pe_int pa_nil))) pa_nil))))))))
    (pss_cons (ps_set (i := 8) nd rfl (.inl rfl) (pe_call (lpack40 T F10) (hr.mono (by omega)) (by rfl) T.g_law_pack T.k_law_pack (b__law_pack F10) .nil pass0 (pa_cons (pv 2) (pa_cons (pv 3) (pa_cons (pv 7) pa_nil)))))
    (pss_cons (ps_set (i := 9) nd rfl (.inl rfl) (pe_call (lpack40 T F10) (hr.mono (by omega)) (by rfl) T.g_law_pack T.k_law_pack (b__law_pack F10) .nil pass0 (pa_cons (pv 2) (pa_cons (pv 3) (pa_cons (pe_call (tree16 T F9) (hr.mono (by omega)) (by rfl) T.g_law_tree T.k_law_tree (b__law_tree F9) .nil pass0 (pa_cons (pv 1) (pa_cons (pv 2) (pa_cons (pv 6) (pa_cons (pv 5) (pa_cons (pe_op op_add pe_int (pe_call (ok_take T F7) (hr.mono (by omega)) (by rfl) T.g_law_take T.k_law_take (b__law_take F7) .nil pass0 (pa_cons (pv 1) (pa_cons pe_int pa_nil)))) (pa_cons pe_int pa_nil))))))) pa_nil)))))
    (pss_cons (ps_for PassesOwn.never rfl (pi_range1 rfl T.n_range (pa_cons pe_int pa_nil)) (pg_name (i := 10) nd rfl (Or.inl rfl))
      (pss_cons (ps_if (pt_not (pt_val (pe_call (ok_right13 T F11) (hr.mono (by omega)) (by rfl) T.g_law_right T.k_law_right (b__law_right F11) .nil pass0 (pa_cons (pv 2) (pa_cons (pv 3) (pa_cons (pv 4) (pa_cons (pv 5) (pa_cons (pe_call (ok_spoilt T F12) (hr.mono (by omega)) (by rfl) T.g_law_spoilt T.k_law_spoilt (b__law_spoilt F12) .nil pass0 (pa_cons (pv 1) (pa_cons (pv 8) (pa_cons (pv 9) (pa_cons (pv 10) pa_nil))))) pa_nil))))))))
        (pss_one (ps_ret pe_bl))
        pss_nil)
      (pss_one (ps_if (pt_not (pt_val (pe_call (ok_right13 T F11) (hr.mono (by omega)) (by rfl) T.g_law_right T.k_law_right (b__law_right F11) .nil pass0 (pa_cons (pv 2) (pa_cons (pv 3) (pa_cons (pv 4) (pa_cons (pv 5) (pa_cons (pv 8) pa_nil))))))))
        (pss_one (ps_ret pe_bl))
        pss_nil))))
    (pss_cons (ps_if (pt_not (pt_val (pe_call (ok_right13 T F11) (hr.mono (by omega)) (by rfl) T.g_law_right T.k_law_right (b__law_right F11) .nil pass0 (pa_cons (pv 2) (pa_cons (pv 3) (pa_cons (pv 4) (pa_cons (pv 5) (pa_cons (pe_lst pa_nil) pa_nil))))))))
      (pss_one (ps_ret pe_bl))
      pss_nil)
    (pss_cons (ps_set (i := 11) nd rfl (.inl rfl) (pe_lst (pa_cons (pe_tup (pa_cons pe_str (pa_cons pe_str (pa_cons (pe_tup (pa_cons (pe_tup (pa_cons pe_str (pa_cons pe_str (pa_cons pe_int pa_nil)))) pa_nil)) pa_nil)))) (pa_cons (pe_tup (pa_cons pe_str (pa_cons pe_str (pa_cons (pe_tup pa_nil) pa_nil)))) pa_nil))))
    (pss_cons (ps_set (i := 12) nd rfl (.inl rfl) (pe_disp (pps_cons pe_str (pe_tup (pa_cons pe_str pa_nil)) (pps_cons pe_str (pe_tup pa_nil) pps_nil)) rfl rfl (by simp) (by decide)))
    (pss_cons (ps_set (i := 4) nd rfl (.inl rfl) (pe_make T.mk_Layout (ok_layi T F5) (hr.mono (by omega)) (by rfl) T.g_Layout (b_Layout_init F5) .nil pass0 (pa_cons (pe_tell (pe_make T.mk_Kinds (ok_initN T F6) (hr.mono (by omega)) (by rfl) T.g_Kinds (b_Kinds_init F6) .nil pass0 (pa_cons (pv 11) pa_nil))) (pa_cons (pe_callTy call_dictD (by rfl) T.n_dict (by decide +kernel) (pa_cons (pv 12) pa_nil)) pa_nil))))
    (pss_cons (ps_for PassesOwn.never rfl (pi_range2 rfl T.n_range (pa_cons pe_int (pa_cons pe_int pa_nil))) (pg_name (i := 13) nd rfl (Or.inl rfl))
      (pss_cons (ps_set (i := 14) nd rfl (.inl rfl) (pe_op op_cat (pe_lc (own := [("_law_turn", 15)]) (g := gName 15) rfl nd (pi_range1 rfl T.n_range (pa_cons (pv 13) pa_nil)) (blkOk_by (N := ["_law_script", "_law_pool_here", "_law_rows_here", "_law_specs_here", "_law_layout", "_law_kind", "_law_base_here", "_law_tree_here", "_law_row", "_law_other", "_law_way", "_law_chains", "_law_plain", "_law_many", "_law_chain", "_law_turn"]) (sc := defScope s_law) (by decide +kernel)) (fun _ _ _ _ _ => (pg_name (i := 15) nd rfl (Or.inl rfl))) (fun _ _ _ _ _ => pts_nil) (fun _ _ _ _ _ => pe_int)) (pe_lst (pa_cons pe_int pa_nil))))
      (pss_one (ps_if (PW.pt (pw_or (pt_not (pt_val (pe_call (ok_right13 T F11) (hr.mono (by omega)) (by rfl) T.g_law_right T.k_law_right (b__law_right F11) .nil pass0 (pa_cons (pv 11) (pa_cons (pv 12) (pa_cons (pv 4) (pa_cons pe_str (pa_cons (pv 14) pa_nil)))))))) (pw_or1 (pt_not (pt_val (pe_call (ok_right13 T F11) (hr.mono (by omega)) (by rfl) T.g_law_right T.k_law_right (b__law_right F11) .nil pass0 (pa_cons (pv 11) (pa_cons (pv 12) (pa_cons (pv 4) (pa_cons pe_str (pa_cons (pe_op op_cat (pv 14) (pe_lst (pa_cons pe_int pa_nil))) pa_nil)))))))))))
        (pss_one (ps_ret pe_bl))
        pss_nil))))
    (pss_one (ps_ret pe_bl))))))))))))))))), ?_⟩
  -- the pool, the rows
  refine ⟨_, rfl, a, ns0, rfl, hS, h63, fun pool H1 s1 hpool hP1 => ⟨_, rfl, pool, rfl, hP1, fun lr rs ns H2 b2 hP2 hlr0 hrows draw => ?_⟩⟩
  have val := draw.valid
  obtain ⟨us, hus, al⟩ := id hrows
  have nlp : lr ≠ pool := fun e => by obtain ⟨_, e2, _⟩ := hP1; rw [e, e2] at hlr0; cases hlr0
  have lus : us.length = rs.length := al.1
  have pos : 0 < rs.length := List.length_pos_iff.mpr val.ne
  -- the specs
  refine ⟨_, rfl, _, rfl, _, rfl, _, rfl, pool, lr, rs, rfl, hP2, nlp, hrows, val, fun hd H3 b3 hP3 hhd0 nhd hhid => ⟨pool, lr, hd, rs, rfl, hP3, nlp, nhd, RowsAt.but b3 hP2.not nlp hrows, val, hhid, fun sp H4 lay b4 hP4 hsp0 nsp lo mo hspec => ?_⟩⟩
  have b24 : But pool H2 H4 := b3.trans b4
  have so := specs_ok val lo mo
  have hus4 := b24 _ _ nlp hus
  have al4 : All2 (RowAt H4) us rs := al.mono fun _ _ z => z.mono (but_tups b24 hP2.not)
  simp only [L2.start, List.map_cons, List.map_nil, List.length_cons, List.length_nil, List.cons_append, List.nil_append, List.set_cons_succ, List.set_cons_zero, List.replicate]
  -- the table
  refine ⟨_, rfl, lr, us, rfl, .inl (SqL.of hus4), fun lp hlp => fun x dx hx hdx nex => ?_⟩
  have s7 := (same_new (o := .lst us) hlp).trans (made_x (C := CK K) hx hdx)
  refine ⟨x, dx, lp, rs, rfl, upd_same, ⟨us, made_x (C := CK K) hx hdx _ _ upd_same, al4.mono fun _ _ z => z.mono (tups_of s7)⟩, val, fun H8 b8 hK8 => ⟨rfl, ?_⟩⟩
  obtain ⟨as, das, fresh, told⟩ := hK8
  refine ⟨as, das, fun H9 t9 => ?_⟩
  have hK9 := told _ t9
  have s49 : Same H4 H9 := fun b o e => by
    have e1 := s7 _ _ e
    have nb : b ≠ x := ne_of_none ((same_new (o := .lst us) hlp) _ _ e) hx
    rw [t9.out b fun z => by rw [fresh b z] at e1; cases e1]
    exact b8 _ _ nb e1
  have I9 : LawI K pool lr sp x us rs lay H9 := ⟨hP4.same s49, nlp, nsp, s49 _ _ hus4, al4.mono fun _ _ z => z.mono (tups_of s49), hK9, hspec.same s49⟩
  obtain ⟨kvl, hkl, kdl⟩ := I9.sp.specD
  refine ⟨_, rfl, sp, kvl, rfl, .inl hkl, fun p1 hp1 => fun y dy hy hdy ney => ?_⟩
  have s10 := same_new (o := .dK kvl) hp1
  have sA := made_x (C := CL K) hy hdy
  refine ⟨y, dy, x, p1, rs, rmakers rs, specOf lay, rfl, upd_same, (I9.kf.same s10).same sA, val, (SpecD.copy kdl hp1).same sA, fun m => Iff.rfl, so, fun H11 b11 hL11 => ⟨rfl, ?_⟩⟩
  have s911 : Same H9 H11 := fun b o e => b11 _ _ (ne_of_none (s10 _ _ e) hy) (sA _ _ (s10 _ _ e))
  have I11 := I9.same s911
  -- the kind
  refine ⟨_, rfl, _, rfl, _, rfl, lr, _, rfl, .inl (SqL.of I11.ls), pool, _, rfl, I11.pl, by omega, fun wz G w0 w1 b5 hP5 => ?_⟩
  obtain ⟨j, rfl⟩ := Int.eq_ofNat_of_zero_le w0
  have lj : j < us.length := by omega
  have I5 := I11.but b5 hP5
  have hL5 := hL11.but b5 I11.pl.notImm (hL11.ne_pool I11.pl)
  have hv := List.getElem?_eq_getElem lj
  obtain ⟨r0, hrr, b0, u0, eb, hb0, _⟩ := I5.al.get hv
  rw [eb] at hv
  have hr0 := List.mem_of_getElem? hrr
  have hkin : r0.1 ∈ rkinds rs := List.mem_map_of_mem hr0
  refine ⟨lr, _, _, .ref b0, rfl, rfl, SqL.of I5.ls, atI_nat hv, b0, _, _, _, rfl, rfl, SqT.of hb0, atI_nat (j := 0) rfl, ?_⟩
  simp only [List.set_cons_succ, List.set_cons_zero]
  -- the tree
  refine ⟨_, rfl, lr, rs, rfl, ⟨us, I5.ls, I5.al⟩, val, fun bd kvs H6 s6 hbd0 hbd bdd => ?_⟩
  have I6 := I5.same s6
  have nbd : bd ≠ pool := fun e => by obtain ⟨_, e2, _⟩ := I5.pl; rw [e, e2] at hbd0; cases hbd0
  refine ⟨_, rfl, _, rfl, _, rfl, _, rfl, _, rfl, pool, 255, rfl, I6.pl, by decide, fun z1 H7 z10 z11 b7 hP7 => ⟨_, _, rfl, rfl, _, rfl, pool, 13, rfl, hP7, by decide, fun z2 H8 z20 z21 b8 hP8 => ?_⟩⟩
  obtain ⟨f, rfl⟩ := Int.eq_ofNat_of_zero_le z20
  have I7 := I6.but b7 hP7
  have I8 := I7.but b8 hP8
  have b68 := b7.trans b8
  refine ⟨pool, lr, bd, r0.1, 1 + z1, f, rs, kvs, rfl, hP8, nlp, ⟨us, I8.ls, I8.al⟩, val, b68 _ _ nbd hbd, bdd.mono (but_tups b68 I6.pl.not), hkin, by omega, by omega, by omega, mz_le val hkin (by omega), fun tv d H10 b10 hP10 td10 hd10 fit10 wt10 => ?_⟩
  have I10 := I8.but b10 hP10
  have hL10 := ((hL5.same s6).but b68 I6.pl.notImm ((hL5.same s6).ne_pool I6.pl)).but b10 I8.pl.notImm (((hL5.same s6).but b68 I6.pl.notImm ((hL5.same s6).ne_pool I6.pl)).ne_pool I8.pl)
  have hbd10 := b10 _ _ nbd (b68 _ _ nbd hbd)
  have bdd10 := (bdd.mono (but_tups b68 I6.pl.not)).mono (but_tups b10 hP8.not)
  have fit40 : fitB rs 40 r0.1 d = true := fitB_le (by decide) fit10
  have wtd : wt d ≤ 20000 := by have := bz_le val hkin (f := f) (by omega); omega
  clear hrr hv I11 hL11 I9
  simp only [List.set_cons_succ, List.set_cons_zero]
  -- the rows
  refine ⟨_, rfl, _, rfl, _, rfl, lr, sp, tv, rs, lay, r0.1, d, rfl, ⟨us, I10.ls, I10.al⟩, val, I10.sp.at_, lo, td10, fit40, by omega, fun q1 Ga sa na ha => ?_⟩
  have Ia := I10.same sa
  have hLa := hL10.same sa
  have nq1 : q1 ≠ pool := fun e => by obtain ⟨_, e2, _⟩ := I10.pl; rw [e, e2] at na; cases na
  simp only [List.set_cons_succ, List.set_cons_zero]
  refine ⟨_, rfl, _, rfl, _, rfl, _, rfl, _, rfl, _, rfl, _, rfl, pool, 255, rfl, Ia.pl, by decide, fun z3 Gb z30 z31 bb hPb => ?_⟩
  have Ib := Ia.but bb hPb
  refine ⟨_, _, rfl, rfl, pool, lr, bd, r0.1, 1 + z3, 3, rs, kvs, rfl, hPb, nlp, ⟨us, Ib.ls, Ib.al⟩, val, bb _ _ nbd (sa _ _ hbd10), (bdd10.mono (tups_of sa)).mono (but_tups bb Ia.pl.not), hkin, by omega, by omega, by decide, mz_le val hkin (by decide), fun tv2 d2 Gc bc hPc tdc hdc fitc wtc => ?_⟩
  have Ic := Ib.but bc hPc
  have bac := bb.trans bc
  have fit40c : fitB rs 40 r0.1 d2 = true := fitB_le (by decide) fitc
  have wtd2 : wt d2 ≤ 20000 := by have := bz_le val hkin (f := 3) (by decide); omega
  refine ⟨lr, sp, tv2, rs, lay, r0.1, d2, rfl, ⟨us, Ic.ls, Ic.al⟩, val, Ic.sp.at_, lo, tdc, fit40c, by omega, fun q2 Gd sd nd2 hd2 => ?_⟩
  have Id := Ic.same sd
  have hLd := (hLa.but bac Ia.pl.notImm (hLa.ne_pool Ia.pl)).same sd
  have nq2 : q2 ≠ pool := fun e => by obtain ⟨_, e2, _⟩ := Ic.pl; rw [e, e2] at nd2; cases nd2
  have ha2 := sd _ _ (bac _ _ nq1 ha)
  have lpk := pack_len val lo 40 _ d fit40
  have lpk2 := pack_len val lo 40 _ d2 fit40c
  obtain ⟨er1, eb1⟩ := packT_row (pack_byt val lo 40 _ d fit40 (by omega))
  obtain ⟨er2, eb2⟩ := packT_row (pack_byt val lo 40 _ d2 fit40c (by omega))
  have lt1 := packT_len rs lay d
  have lt2 := packT_len rs lay d2
  have lpos : 0 < (packR rs lay d).length := by
    obtain ⟨m, ds, r, rfl, er, z⟩ := fitB_inv fit40
    obtain ⟨hr, e1, e2⟩ := rowAt_of er
    subst e2
    rw [pack_node val.nd lo hr z]; exact Nat.zero_lt_succ _
  rw [er1] at ha2
  rw [er2] at hd2
  simp only [List.set_cons_succ, List.set_cons_zero]
  clear tdc hdc fitc wtc Ic bac Ib bb bc hPb hPc Ia hLa sa ha na
  generalize hT1 : packT rs lay d = row1 at ha2 eb1 lt1
  generalize hT2 : packT rs lay d2 = row2 at hd2 eb2 lt2
  have arg : ∀ G, But pool Gd G → PoolAt G pool → RowsAt G lr rs ∧ SpecAt G sp rs (layS (specOf lay)) ∧ LayAt K G y x rs (specOf lay) ∧ KindsF K G x rs := fun G b hP => by
    have I := Id.but b hP
    exact ⟨⟨us, I.ls, I.al⟩, specAt_layS I.sp.specD, hLd.but b Id.pl.notImm (hLd.ne_pool Id.pl), I.kf⟩
  -- seven ways
  refine ⟨_, rfl, by decide, by decide, for_it walk_range (fun i σ G => (∃ v10, σ = [some (.ref a), some (.ref pool), some (.ref lr), some (.ref sp), some (.ref y), some (.str r0.1), some (.ref bd), some tv, some (.ref q1), some (.ref q2), v10, none, none, none, none, none]) ∧ But pool Gd G ∧ PoolAt G pool) ⟨⟨_, rfl⟩, but_of (Same.refl _), Id.pl⟩ (fun _ _ _ _ _ => trivial) ?_ ?_⟩
  · rintro i z σ G0 G hi ⟨⟨v10, rfl⟩, bG, hPG⟩ ⟨rfl, rfl⟩
    refine ⟨_, rfl, _, rfl, _, rfl, _, rfl, _, rfl, _, rfl, _, rfl, _, rfl, pool, q1, q2, rowV row1, rowV row2, i, (by show [V.ref pool, .ref q1, .ref q2, .int (0 + (i : Int))] = _; rw [Int.zero_add]), hPG, nq1, nq2, bG _ _ nq1 ha2, bG _ _ nq2 hd2, byV_rowV eb1, byV_rowV eb2, by rw [List.length_map]; omega, by rw [List.length_map]; omega, by rw [List.length_map]; omega, fun p zs Ge be hPe np hp bz lz => ?_⟩
    obtain ⟨row, rfl, hb⟩ := byV_row bz
    rw [List.length_map] at lz
    have bGe := bG.trans be
    obtain ⟨a1, a2, a3, a4⟩ := arg Ge bGe hPe
    refine ⟨lr, sp, y, x, p, r0.1, row, rs, specOf lay, rfl, a1, val, a2, a3, a4, so, hp, hb, by omega, hkin, fun Gf sf => ⟨_, rfl, iteF ?_⟩⟩
    have bGf := bGe.trans (but_of sf)
    obtain ⟨c1, c2, c3, c4⟩ := arg Gf bGf (hPe.same sf)
    refine ⟨_, rfl, _, rfl, _, rfl, _, rfl, _, rfl, lr, sp, y, x, q1, r0.1, row1, rs, specOf lay, rfl, c1, val, c2, c3, c4, so, bGf _ _ nq1 ha2, eb1, by omega, hkin, fun Gg sg => ⟨_, rfl, iteF ?_⟩⟩
    exact ⟨⟨_, rfl⟩, bGf.trans (but_of sg), (hPe.same sf).same sg⟩
  rintro σ G ⟨⟨v10, rfl⟩, bG, hPG⟩
  -- the empty row
  refine ⟨_, rfl, _, rfl, _, rfl, _, rfl, by show 0 ≤ sizeLine; decide, fun l0 hl0 => ?_⟩
  have s0 := same_new (o := .lst []) hl0
  obtain ⟨a1, a2, a3, a4⟩ := arg _ (bG.trans (but_of s0)) (hPG.same s0)
  refine ⟨lr, sp, y, x, l0, r0.1, [], rs, specOf lay, rfl, a1, val, a2, a3, a4, so, upd_same, by simp, by decide, hkin, fun Gf sf => ⟨_, rfl, iteF ?_⟩⟩
  clear a1 a2 a3 a4 arg s0 hPG bG
  -- the table of chains
  simp only [List.set_cons_succ, List.set_cons_zero]
  refine ⟨by show 3 ≤ sizeLine; decide, fun p0 h0 => ⟨by show 1 ≤ sizeLine; decide, fun t ht => ⟨by show 3 ≤ sizeLine; decide, fun row hrow => ?_⟩⟩⟩
  have pl1 := pl_snoc (part := ("tail", "List", some 3)) (pl_nil (H0 := Gf)) h0
  obtain ⟨rx1, tx1⟩ := rowAt_new (k := "List") (m := "Cons") (ps := [("tail", "List", some 3)]) pl1 ht hrow
  refine ⟨by show 0 ≤ sizeLine; decide, fun t' ht' => ⟨by show 3 ≤ sizeLine; decide, fun row' hrow' => ⟨by show 2 ≤ sizeLine; decide, fun lf hlf => ?_⟩⟩⟩
  obtain ⟨rx2, tx2⟩ := rowAt_new (k := "List") (m := "Nil") (ps := []) pl_nil ht' hrow'
  have sf2 := same_new (o := .lst [V.ref row, V.ref row']) hlf
  have hCT : RowsAt _ lf CT := ⟨[V.ref row, V.ref row'], upd_same (o := .lst [V.ref row, V.ref row']), ((All2.snoc (All2.snoc All2.nil (RowAt.mono (tups_of tx2) rx1)) rx2).mono fun _ _ z => RowAt.mono (tups_of sf2) z)⟩
  generalize upd _ lf (.lst [V.ref row, V.ref row']) = H16 at hCT ⊢
  clear rx1 rx2 tx1 tx2 pl1 sf2
  simp only [List.set_cons_succ, List.set_cons_zero]
  -- the specs
  intro wd hwd
  refine ⟨by show 1 ≤ sizeLine; decide, fun c0 g0 => ⟨by show 0 ≤ sizeLine; decide, fun c1 g1 => ?_⟩⟩
  have kw := same_new (o := .dK []) hwd
  have k0 := same_new (o := .tup [V.str "tail"]) g0
  have k1 := same_new (o := .tup []) g1
  have e0 := k1 _ _ (upd_same (H := upd H16 wd (.dK [])) (a := c0) (o := .tup [V.str "tail"]))
  have e1 := upd_same (H := upd (upd H16 wd (.dK [])) c0 (.tup [V.str "tail"])) (a := c1) (o := .tup [])
  have ew := k1 _ _ (k0 _ _ (upd_same (H := H16) (a := wd) (o := .dK [])))
  have s17 := kw.trans (k0.trans k1)
  have nlw : lf ≠ wd := fun e => by obtain ⟨_, e2, _⟩ := hCT; rw [e, hwd] at e2; cases e2
  have hCT17 := hCT.mono s17
  generalize upd _ c1 (.tup []) = H17 at e0 e1 ew s17 hCT17 ⊢
  clear kw k0 k1
  refine ⟨ew, [((Sum.inr "Cons" : Key), V.ref c0), (Sum.inr "Nil", V.ref c1)], rfl, by show 2 ≤ 15; decide, ?_⟩
  have tw := tups_upd (H := H17) (p := wd) (o := .dK (mergeK [] [((Sum.inr "Cons" : Key), V.ref c0), (Sum.inr "Nil", V.ref c1)])) fun u f z => by rw [ew] at z; cases z; exact f
  have bw := but_upd (H := H17) (a := wd) (o := .dK (mergeK [] [((Sum.inr "Cons" : Key), V.ref c0), (Sum.inr "Nil", V.ref c1)]))
  have hW : SpecD (upd H17 wd (.dK (mergeK [] [((Sum.inr "Cons" : Key), V.ref c0), (Sum.inr "Nil", V.ref c1)]))) wd (rmakers CT) SC := by
    refine ⟨_, upd_same, ?_⟩
    have := merge_kd (R := SpR (upd H17 wd (.dK (mergeK [] [((Sum.inr "Cons" : Key), V.ref c0), (Sum.inr "Nil", V.ref c1)]))) SC) [(("Cons" : Str), V.ref c0), ("Nil", V.ref c1)] [] [] KD.nil fun q hq => by
      simp only [List.mem_cons, List.not_mem_nil, or_false] at hq
      rcases hq with e | e <;> subst e
      · exact ⟨c0, rfl, .inl (by show _ = some (HO.tup ((if ("Cons" : Str) = "Cons" then (["tail"] : List Str) else []).map V.str)); rw [if_pos rfl]; exact tw _ (.tup _) trivial e0)⟩
      · exact ⟨c1, rfl, .inl (by show _ = some (HO.tup ((if ("Nil" : Str) = "Cons" then (["tail"] : List Str) else []).map V.str)); rw [if_neg nc]; exact tw _ (.tup _) trivial e1)⟩
    rw [show ([(("Cons" : Str), V.ref c0), ("Nil", V.ref c1)].map (·.1)).foldl addNew [] = rmakers CT from (by decide +kernel : (["Cons", "Nil"] : List Str).foldl addNew [] = rmakers CT)] at this
    exact this
  have hCT18 : RowsAt (upd H17 wd (.dK (mergeK [] [((Sum.inr "Cons" : Key), V.ref c0), (Sum.inr "Nil", V.ref c1)]))) lf CT := by
    obtain ⟨uf, ef, af⟩ := hCT17
    exact ⟨uf, bw _ _ nlw ef, af.mono fun _ _ z => RowAt.mono tw z⟩
  generalize upd H17 wd (.dK (mergeK [] [((Sum.inr "Cons" : Key), V.ref c0), (Sum.inr "Nil", V.ref c1)])) = H18 at hW hCT18 ⊢
  clear tw bw
  simp only [List.set_cons_succ, List.set_cons_zero]
  -- the table, the layout
  refine ⟨_, rfl, fun x2 dx2 hx2 hdx2 nex2 => ?_⟩
  have m1 := made_x (C := CK K) hx2 hdx2
  refine ⟨x2, dx2, lf, CT, rfl, upd_same, hCT18.mono m1, ct_valid, fun H27 b27 hK27 => ⟨rfl, ?_⟩⟩
  obtain ⟨as2, das2, fresh2, told2⟩ := hK27
  refine ⟨as2, das2, fun H28 t28 => ?_⟩
  have hK28 := told2 _ t28
  have s28 : Same H18 H28 := fun b o e => by
    have e1 := m1 _ _ e
    have nb : b ≠ x2 := ne_of_none e hx2
    rw [t28.out b fun z => by rw [fresh2 b z] at e1; cases e1]
    exact b27 _ _ nb e1
  have hW28 := hW.same s28
  have hCT28 := hCT18.mono s28
  obtain ⟨kvw, hkw, kdw⟩ := id hW28
  refine ⟨_, rfl, wd, kvw, rfl, .inl hkw, fun p9 hp9 => fun y2 dy2 hy2 hdy2 ney2 => ?_⟩
  have s29 := same_new (o := .dK kvw) hp9
  have m2 := made_x (C := CL K) hy2 hdy2
  refine ⟨y2, dy2, x2, p9, CT, rmakers CT, SC, rfl, upd_same, (hK28.same s29).same m2, ct_valid, (SpecD.copy kdw hp9).same m2, fun m => Iff.rfl, sc_ok, fun H30 b30 hL30 => ⟨rfl, ?_⟩⟩
  have s30 : Same H28 H30 := fun b o e => b30 _ _ (ne_of_none (s29 _ _ e) hy2) (m2 _ _ (s29 _ _ e))
  have hK30 := hK28.same s30
  have hW30 := specAt_layS (hW28.same s30)
  have hCT30 := hCT28.mono s30
  simp only [List.set_cons_succ, List.set_cons_zero]
  -- five chains
  refine ⟨37, 42, rfl, ⟨by decide, by decide, by decide, by decide⟩, for_it walk_range (fun i σ G => (∃ v10 v13 v14 v15, σ = [some (.ref a), some (.ref pool), some (.ref lr), some (.ref sp), some (.ref y2), some (.str r0.1), some (.ref bd), some tv, some (.ref q1), some (.ref q2), v10, some (.ref lf), some (.ref wd), v13, v14, v15]) ∧ Same H30 G) ⟨⟨_, _, _, _, rfl⟩, Same.refl _⟩ (fun _ _ _ _ _ => trivial) ?_ ?_⟩
  · rintro i z σ G0 G hi ⟨⟨v10', v13, v14, v15, rfl⟩, sG⟩ ⟨rfl, rfl⟩
    have li : i < 5 := hi
    refine ⟨_, rfl, _, rfl, by show -(2 ^ 62) ≤ (37 : Int) + (i : Int); omega, by show (37 : Int) + (i : Int) < 2 ^ 62; omega, fun D hD => lc_it walk_range (fun j H4 => Same G H4 ∧ H4 D = some (.lst (rowV (List.replicate j 0)))) ⟨same_new hD, upd_same⟩ (fun _ _ _ _ => trivial) ?_ ?_⟩
    · rintro j z H4 H5 hj ⟨s4, hz⟩ ⟨rfl, rfl⟩
      have lj : j < 42 := by have hj : j < ((37 : Int) + (i : Int)).toNat := hj; omega
      refine ⟨rfl, _, hz, small1000 (by rw [List.length_map, List.length_replicate]; omega), same_mut s4 hD, ?_⟩
      rw [upd_same, List.replicate_succ']
      unfold rowV
      rw [List.map_append] <;> rfl
    rintro H4 ⟨s4, hz⟩
    have lm : ((37 : Int) + (i : Int)).toNat ≤ 41 := by omega
    refine ⟨by show 1 ≤ sizeLine; decide, fun l1 hl1 => ?_⟩
    have s5 := same_new (o := .lst [V.int 1]) hl1
    generalize hn : ((37 : Int) + (i : Int)).toNat = n at hz lm ⊢
    have big : 1000 ≤ sizeLine := by rw [sizeLine_eq]; decide
    have lrep : (rowV (List.replicate n 0)).length = n := by rw [List.length_map, List.length_replicate]
    refine ⟨D, l1, _, _, rfl, rfl, s5 _ _ hz, upd_same, by rw [lrep]; show n + 1 ≤ _; omega, fun ch hch => ?_⟩
    have er : rowV (List.replicate n 0) ++ [V.int 1] = rowV (List.replicate n 0 ++ [1]) := by unfold rowV; rw [List.map_append]; rfl
    have s6 := same_new (o := .lst (rowV (List.replicate n 0) ++ [V.int 1])) hch
    have h6 := upd_same (H := upd H4 l1 (.lst [V.int 1])) (a := ch) (o := .lst (rowV (List.replicate n 0) ++ [V.int 1]))
    have h6 := h6.trans (congrArg (fun z => some (HO.lst z)) er)
    have sH := sG.trans (s4.trans (s5.trans s6))
    have by1 : ∀ b ∈ List.replicate n 0 ++ [1], b ≤ 255 := fun b hb => by
      rcases List.mem_append.mp hb with z | z
      · rw [(List.mem_replicate.mp z).2]; decide
      · rw [List.mem_singleton.mp z]; decide
    have len1 : (List.replicate n 0 ++ [1]).length = n + 1 := by rw [List.length_append, List.length_replicate]; rfl
    refine ⟨_, rfl, _, rfl, _, rfl, _, rfl, lf, wd, y2, x2, ch, "List", _, CT, SC, rfl, hCT30.mono sH, ct_valid, hW30.same sH, hL30.same sH, hK30.same sH, sc_ok, h6, by1, by omega, kList, fun H8 s8 => ⟨_, rfl, iteF ?_⟩⟩
    have h8 := s8 _ _ h6
    refine ⟨_, rfl, _, rfl, _, rfl, _, rfl, by show 1 ≤ sizeLine; decide, fun l2 hl2 => ?_⟩
    have s9 := same_new (o := .lst [V.int 0]) hl2
    have lr1 : (rowV (List.replicate n 0 ++ [1])).length = n + 1 := by rw [List.length_map]; exact len1
    refine ⟨ch, l2, _, _, rfl, rfl, s9 _ _ h8, upd_same, by rw [lr1]; show n + 1 + 1 ≤ _; omega, fun c2 hc2 => ?_⟩
    have er2 : rowV (List.replicate n 0 ++ [1]) ++ [V.int 0] = rowV ((List.replicate n 0 ++ [1]) ++ [0]) := by unfold rowV; rw [List.map_append (l₂ := [0])]; rfl
    have sA' := same_new (o := .lst (rowV (List.replicate n 0 ++ [1]) ++ [V.int 0])) hc2
    have hA' := upd_same (H := upd H8 l2 (.lst [V.int 0])) (a := c2) (o := .lst (rowV (List.replicate n 0 ++ [1]) ++ [V.int 0]))
    have hA' := hA'.trans (congrArg (fun z => some (HO.lst z)) er2)
    have sI := sH.trans (s8.trans (s9.trans sA'))
    have by2 : ∀ b ∈ (List.replicate n 0 ++ [1]) ++ [0], b ≤ 255 := fun b hb => by
      rcases List.mem_append.mp hb with z | z
      · exact by1 b z
      · rw [List.mem_singleton.mp z]; decide
    refine ⟨lf, wd, y2, x2, c2, "List", _, CT, SC, rfl, hCT30.mono sI, ct_valid, hW30.same sI, hL30.same sI, hK30.same sI, sc_ok, hA', by2, by rw [List.length_append, len1]; show n + 1 + 1 ≤ _; omega, kList, fun HA sB => ⟨_, rfl, iteF ?_⟩⟩
    exact ⟨⟨_, _, _, _, rfl⟩, sI.trans sB⟩
  rintro σ G ⟨⟨v10', v13, v14, v15, rfl⟩, sG⟩
  exact q _
end
end Bg
set_option Elab.async false
set_option linter.all false
set_option maxRecDepth 100000
set_option maxHeartbeats 0
namespace Bg
open PySem PySem.Spec PyProof.Rows L2
end Bg
open PySem PySem.W PySem.Calls PyProof.Rows
theorem PySem.Challenge.cw_bytegrove_k13_whole_every_row_is_read_or_holds : PySem.Challenge.rw_bytegrove_k13_whole_every_row_is_read_or.Holds := by
  w_on; o_law
  refine HandSHeadRun.head_any (r := Bg.R) (q := view (Bg.R).prog [69]) (H := Bg.hk) (ob := Bg.ob) (M := 8000) (loose := Bg.loose) (d := HandSHeadRun.topDef (Bg.R).prog 69) (kwd := []) Bg.ob_eq
    (by kernel_rfl) (fun s => by kernel_rfl) Bg.run (by kernel_rfl) (by kernel_rfl) (by kernel_rfl) (by rfl) (by first | assumption | decide +kernel) (by decide +kernel) ⟨rfl, rfl, rfl, rfl, rfl, by decide +kernel⟩ ?hw ?hc
  case hw => w_witness2
  case hc =>
    refine L2.walk_ofE (l := PySem.Challenge.rw_bytegrove_k13_whole_every_row_is_read_or) (n := 63) (k := 92) (x := "_law_script") (CX := L2.CX0) rfl (by decide) (by kernel_rfl) ⟨rfl, by decide, by decide⟩ ?F (fun _ _ _ _ z => z)
    intro w mg fa h Y G hmg0
    obtain ⟨K, KX, c, ex, c2⟩ := Y
    have T : Bg.Tx K mg := ⟨c, ex, c2, h, KX, G⟩
    have hmg : mg ("law" : PySem.Str) = some (.ref fa) := by
      have e : (HandSHeadRun.topDef (Bg.R).prog 69).name = ("law" : PySem.Str) := by kernel_rfl
      rw [← e]
      exact hmg0
    have e := hmg.symm.trans T.g_law
    cases e
    obtain ⟨fd, F⟩ := T.F_law
    refine ⟨K, fd, Bg.spLaw K, KX, fun s v => L2.FunD.bindsA (ps := ["_law_script"]) F (fun _ _ _ _ _ _ us hl => match us, hl with | [_], _ => rfl) s [v] rfl, fun H a ns hl _ hS => ⟨a, ns, rfl, hS, hl, fun _ => rfl⟩, fun base _ _ => ?_⟩
    exact Bg.ok_law T F
