import PyProof.Rows.All
import Wide.All
import OpenK.AllK
import Wide.FinOn
import HandS.ForMost
import HandS.IsInst
import HandS.StrMore
import HandS.Style
import HandS.Strs
import HandS.SetBool
import HandS.SetKeys
import HandS.DictComp
import HandS.Conv
import HandS.TupAny
import HandS.Defaults
import HandS.Head0
import HandS.Head1
import HandS.Head2
import HandS.HeadEnd
import HandS.HeadHook1
import HandS.HeadHook2
import HandS.Flow
import HandS.Zip
import KE.LtData
import KE.KExcIs
import HandS.Exc
import HandS.ExcInit
import HandS.ExcOwn
import HandS.ExcField
import HandS.ExcIs
import HandS.FStr
import HandS.Star
import HandS.ClsMeth
import HandS.HeadNt
import HandS.Property
import PySem.Challenge.RW_bytegrove_k17_runs_on_trees
import HandS.Walk
import HandS.Dict
import KE.KDictPairs
import HandS.HotCalls
import HandS.RaiseMore
import HandS.Small
import HandS.More
import HandS.SuiteRaise
import KE.GoesMore
import PyProof.EnumMake
import HandS.Iter
import HandS.Comp
import KE.KDictZip
import HandS.Replace
import HandS.ReplaceDef
import HandS.ReplaceLit
set_option Elab.async false
set_option linter.all false
set_option maxRecDepth 100000
set_option maxHeartbeats 8000000
namespace Bg
open PySem PySem.Spec PyProof.Rows L2
/-! ### what a class of errors must say -/
def oexB (K : PySem.W.Frag) (C : Addr) : Bool := match K.lookup C with
  | some ⟨.type "type", _, .cls cd, sl⟩ => (match cd.mro, sl.toList with
    | .ref C' :: bm, [_, _, _, _, some (.builtin n), _] => C' == C && (n == "ValueError.__new__" && (!cd.hasDel && (cd.hasDict && PySem.HandSPX.refsVE bm)))
    | _, _ => false)
  | _ => false
theorem oexB_ok {K : PySem.W.Frag} {C : Addr} (q : oexB K C = true) : ∃ nm q N bs bm sn sub ab col dd k0 k1 k2 k3 k5, K.lookup C = some (excClassObj nm q C N bs bm true sn sub ab col dd k0 k1 k2 k3 k5 "ValueError.__new__") ∧ PySem.HandSPX.refsVE bm = true := by
  unfold oexB at q
  split at q
  · rename_i dd cd sl ho
    split at q
    · rename_i C' bm k0 k1 k2 k3 n k5 hm hs
      simp only [Bool.and_eq_true, beq_iff_eq, Bool.not_eq_true'] at q
      obtain ⟨rfl, rfl, hdel, hdict, ht⟩ := q
      obtain ⟨nm, bs, mro, ns, qn, hd, sn, sub, ab, col, del⟩ := cd
      dsimp only at hm hdel hdict
      subst hm hdel hdict
      have hsl : sl = #[k0, k1, k2, k3, some (.builtin "ValueError.__new__"), k5] := by
        obtain ⟨l⟩ := sl
        simp only at hs
        rw [hs]
      subst hsl
      exact ⟨nm, qn, ns, bs, bm, sn, sub, ab, col, dd, k0, k1, k2, k3, k5, ho, ht⟩
    · cases q
  · cases q
structure ExT (K : PySem.W.Frag) (C : Addr) : Prop where
  oex : OexC K C
  xf : XfC K C
  cl : (PySem.W.clsIn K C).isSome = true
  ha : PySem.W.findIn K (.ref C) "__class__" = some (some (.builtin "object.__class__"))
  hn : PySem.W.specialIn K (.builtin "object.__class__") "__get__" = some (some (.builtin "getset_descriptor.__get__"))
  tk : PySem.W.takesIn K (.builtin "object.__class__") = some true
  hm : PySem.W.mroIn K C (.type "object") = some true
def exB (K : PySem.W.Frag) (C : Addr) : Bool := oexB K C && (He.eqO (PySem.W.findIn K (.ref C) "__setattr__") (some (some (.builtin "object.__setattr__"))) && (decide (PySem.W.subIn K (.ref C) (.type "BaseException") = some true) && (decide (PySem.W.typeIn K (.ref C) = some (.type "type")) &&
  (PySem.W.keepIn K (.ref C) && (xfB K C && ((PySem.W.clsIn K C).isSome && (He.eqO (PySem.W.findIn K (.ref C) "__class__") (some (some (.builtin "object.__class__"))) && (He.eqO (PySem.W.specialIn K (.builtin "object.__class__") "__get__") (some (some (.builtin "getset_descriptor.__get__"))) &&
  (decide (PySem.W.takesIn K (.builtin "object.__class__") = some true) && decide (PySem.W.mroIn K C (.type "object") = some true))))))))))
theorem exB_ok {K : PySem.W.Frag} {C : Addr} (h : exB K C = true) : ExT K C := by
  obtain ⟨h1, h⟩ := He.ba h
  obtain ⟨h2, h⟩ := He.ba h
  obtain ⟨h3, h⟩ := He.ba h
  obtain ⟨h4, h⟩ := He.ba h
  obtain ⟨h5, h⟩ := He.ba h
  obtain ⟨h6, h⟩ := He.ba h
  obtain ⟨h7, h⟩ := He.ba h
  obtain ⟨h8, h⟩ := He.ba h
  obtain ⟨h9, h⟩ := He.ba h
  obtain ⟨h10, h11⟩ := He.ba h
  exact ⟨⟨oexB_ok h1, He.eqO_ok h2, of_decide_eq_true h3, of_decide_eq_true h4, h5⟩, xfB_ok h6, h7, He.eqO_ok h8, He.eqO_ok h9, of_decide_eq_true h10, of_decide_eq_true h11⟩
/-- G.__init__ is ValueError's own -/
structure GiT (K : PySem.W.Frag) (G : Addr) : Prop where
  rd : PySem.W.readsIn K G (.type "type") = true
  ga : PySem.W.specialIn K (.ref G) "__getattribute__" = some (some (.builtin "type.__getattribute__"))
  at_ : PySem.W.findCls K (.ref G) (.type "type") "__init__" = some (.val (.builtin "ValueError.__init__"))
def giB (K : PySem.W.Frag) (G : Addr) : Bool := PySem.W.readsIn K G (.type "type") && (He.eqO (PySem.W.specialIn K (.ref G) "__getattribute__") (some (some (.builtin "type.__getattribute__"))) && (match PySem.W.findCls K (.ref G) (.type "type") "__init__" with
  | some (.val (.builtin n)) => n == "ValueError.__init__"
  | _ => false))
theorem giB_ok {K : PySem.W.Frag} {G : Addr} (h : giB K G = true) : GiT K G := by
  obtain ⟨h1, h⟩ := He.ba h
  obtain ⟨h2, h3⟩ := He.ba h
  refine ⟨h1, He.eqO_ok h2, ?_⟩
  split at h3
  · rename_i n e
    rw [e, beq_iff_eq.mp h3]
  · cases h3
/-! ### the hook: the statics beside what the globals reach -/
def asE (g : Addr → Option Obj) (n : Nat) : List Addr := PySem.cStatics :: He.asD g n
def obsE (n : Nat) (fa : List He.Fa) (fn : List He.DefD) (ex : PySem.W.Frag → Bool) (g : Addr → Option Obj) : He.AlD × Bool := (He.obsD fa fn (He.frG g (asE g n)), ex (He.frG g (asE g n)))
def hookE (n : Nat) (fa : List He.Fa) (fn : List He.DefD) (ex : PySem.W.Frag → Bool) : PySem.W.Hook where
  α := He.AlD × Bool
  obs := fun s => obsE n fa fn ex s.heap.get?
  val := fun _ => (He.valD fn, true)
  says := fun _ h => ∃ K : PySem.W.Frag, K.In h ∧ He.SaysD fa fn K ∧ ex K = true
  of := fun _ _ e => ⟨_, He.frG_in, congrArg (fun z : He.AlD × Bool => z.1) e, congrArg (fun z : He.AlD × Bool => z.2) e⟩
  keeps := fun _ _ _ ⟨K, hK, c⟩ k => ⟨K, PySem.W.Frag.In.keeps hK k, c⟩
theorem obsE_eq {n : Nat} {fa : List He.Fa} {fn : List He.DefD} {ex : PySem.W.Frag → Bool} {g : Addr → Option Obj} {s : Shared} (h : ∀ a, g a = s.heap.get? a) : obsE n fa fn ex g = (hookE n fa fn ex).obs s := by
  have e : g = s.heap.get? := funext h
  rw [e] <;> rfl
/-! ### rules -/
section
variable {X : Cx} {o e : Expr} {es : List Expr} {ta : TA} {p p1 p2 pos : Pos} {G : Addr} {x : Str}
/-- G.__init__(self, ..), G an own class that has ValueError's -/
theorem pe_ginit {pl : Sem Bool} (T : GiT X.K G) (hg : Gl X x) (hm : X.mg x = some (.ref G)) (ha : PA X (e :: es) ta)
    (hdb : (x == ("__debug__" : Str)) = false := by decide)
    (hc : eval (.Call (.Attribute (.Name x p1) "__init__" p2) (e :: es) [] pos) X.env = (do
      let ov ← eval (.Name x p1) X.env
      standAt p2.atName
      let (f, first) ← holding [ov] (getMethod ov "__init__" pl)
      callWith pos f first (backTo pos (starEach (e :: es) X.env)) (backToKw pos (keywordEach [] X.env))) := by rfl)
    (he : starEach (e :: es) X.env = (false, eval e X.env) :: starEach es X.env := by rfl) (hpl : (backTo pos (starEach es X.env)).any (·.1) = false := by rfl) :
    PE X (.Call (.Attribute (.Name x p1) "__init__" p2) (e :: es) [] pos) (tVeI X.K ta) := by
  refine ⟨fun pins s σ H Q I h => ?_⟩
  refine PySem.W.methodCall_KW (ld_glob I hg hm ?_ hdb) hc
  refine PySem.W.method_cls I.kIn T.ga ?_
  refine PySem.W.cls_value I.kIn T.rd T.at_ (by decide +kernel) ?_
  show wpAny _ _ (callWith pos (Value.builtin "ValueError.__init__") [] (backTo pos (starEach (e :: es) X.env)) []) _ _ _
  refine PyProof.Rows.callWith_method1 (thn (ha.run pos pins _ σ H _ (I.tok _) h) fun us s1 ⟨vs, H1, I1, r1, a, C, ws, ev, hl, T, ea, q⟩ => ?_) he hpl
  subst ev
  cases r1 with
  | @cons _ u0 _ ur ra rw' =>
    obtain rfl : u0 = Value.ref a := ra
    have hlen : ur.length ≤ sizeLine := by
      rw [← Paired.length rw', sizeLine_eq]
      omega
    exact oinit_ok T I1 ea hlen fun s' J => ⟨.non, H1, J, rfl, q⟩
end
section
variable {X : Cx} {a D : Addr} {oe : Obj} {pn : List (Addr × Obj)} {cls : Value} {d : Option Addr}
theorem exc_inst {pins : List (Addr × Obj)} {σ : L2.St} {H : Hp} {s : Shared} {dd : Addr} {fs : List (Str × V)} (I : Inv (X.suite a ((a, oe) :: pn)) pins σ H s) (hz : Zc (.ref D) (some dd) oe) (hf : ∃ vs, oe.data = .fields vs) (ea : H dd = some (.xd fs)) :
    ∃ od, PySem.W.InstAt s.heap a oe D (some od) := by
  obtain ⟨ha, _⟩ := I.pin (a, oe) (List.mem_append_left _ List.mem_cons_self)
  obtain ⟨vs, hd⟩ := hf
  have hx : ObjOk X.prog X.w H s.heap dd (.xd fs) := I.hok dd _ ea
  obtain ⟨mA, hns, hr⟩ := hx
  obtain ⟨od, ho, hl⟩ := lookIn_ns hns
  exact ⟨od, ha, hz.1, by unfold PySem.W.notCls; rw [hd] <;> rfl, by rw [hz.2]; exact ho⟩
/-- isinstance(e, c), e the error that the suite holds, its class D, its dict d -/
def rIsD (K : PySem.W.Frag) (a : Addr) (cls : Value) (d : Option Addr) : List V → Hp → VK → Prop := fun xs H Q => ∃ (c : V) (cv : Value) (b : Bool) (D dd : Addr) (fs : List (Str × V)), xs = [.ref a, c] ∧ cls = .ref D ∧ d = some dd ∧ H dd = some (.xd fs) ∧ ExT K D ∧ ClsV c cv ∧ PySem.W.kitOne K (.ref D) cv = some b ∧ Q (.bl b) H
theorem call_isD (hz : Zc cls d oe) (hf : ∃ vs, oe.data = .fields vs) : CallR (X.suite a ((a, oe) :: pn)) (.builtin "isinstance") (rIsD X.K a cls d) := by
  intro pins s σ H xs us Q I r h
  obtain ⟨c, cv, b, D, dd, fs, rfl, rfl, rfl, ea, T, hcv, e, q⟩ := h
  cases r with
  | cons rx rr =>
    cases rr with
    | cons rt rr =>
      cases rr
      cases rx
      have ec := ClsV.eq hcv rt
      subst ec
      obtain ⟨od, J⟩ := exc_inst I hz hf ea
      exact PySem.W.kia_one (PySem.W.kitx_exc T.cl T.xf.ga T.xf.gg T.xf.exC T.ha T.hn T.tk T.hm) I.kIn J e (fun z => nomatch z) fun tk => ⟨.bl b, H, I.kept (t' := tk) fun _ _ z => z, rfl, q⟩
/-- isinstance(e, (c, ..)) -/
def rIsDT (K : PySem.W.Frag) (a : Addr) (cls : Value) (d : Option Addr) : List V → Hp → VK → Prop := fun xs H Q => ∃ (tp : Addr) (cs : List V) (us : List Value) (b : Bool) (D dd : Addr) (fs : List (Str × V)), xs = [.ref a, .ref tp] ∧ cls = .ref D ∧ d = some dd ∧ H dd = some (.xd fs) ∧ ExT K D ∧ H tp = some (.tup cs) ∧ Paired ClsV cs us ∧ PySem.W.kitAny K (.ref D) us = some b ∧ Q (.bl b) H
theorem call_isDT (hz : Zc cls d oe) (hf : ∃ vs, oe.data = .fields vs) : CallR (X.suite a ((a, oe) :: pn)) (.builtin "isinstance") (rIsDT X.K a cls d) := by
  intro pins s σ H xs us Q I r h
  obtain ⟨tp, cs, ws, b, D, dd, fs, rfl, rfl, rfl, ea, T, hT, k, e, q⟩ := h
  cases r with
  | cons rx rr =>
    cases rr with
    | cons rt rr =>
      cases rr
      cases rx
      cases rt
      obtain ⟨od, J⟩ := exc_inst I hz hf ea
      obtain ⟨_, its, rv, o, h1, h2, n, h3⟩ := (show ObjOk (X.suite a ((a, oe) :: pn)).prog (X.suite a ((a, oe) :: pn)).w H s.heap tp (.tup cs) from I.hok tp _ hT)
      have e3 := ClsV.all k rv
      subst e3
      obtain ⟨oc, od', dt, sl⟩ := o
      simp only at h2 h3
      subst h2 h3
      exact PySem.W.kia_tup (PySem.W.kitx_exc T.cl T.xf.ga T.xf.gg T.xf.exC T.ha T.hn T.tk T.hm) I.kIn J h1 e (fun z => nomatch z) fun tk => ⟨.bl b, H, I.kept (t' := tk) fun _ _ z => z, rfl, q⟩
/-- what comes behind a sure raise -/
theorem pss_never {X : Cx} {st : List Stmt} : PSs X st (fun _ _ _ => False) := ⟨fun _ _ _ _ _ _ h => h.elim⟩
end
end Bg
set_option Elab.async false
set_option linter.all false
set_option maxRecDepth 100000
set_option maxHeartbeats 2000000
/-! the hook with defs at any address -/
namespace Bg
open PySem PySem.Spec PyProof.Rows L2
def obsF (n : Nat) (fa : List He.Fa) (fn : List He.DefD) (ex : PySem.W.Frag → Bool) (fn2 : List He5.DefA) (g : Addr → Option Obj) : He.AlD × Bool × He.AlD := (He.obsD fa fn (He.frG g (asE g n)), ex (He.frG g (asE g n)), He5.obsA [] fn2 (He.frG g (asE g n)))
def hookF (n : Nat) (fa : List He.Fa) (fn : List He.DefD) (ex : PySem.W.Frag → Bool) (fn2 : List He5.DefA) : PySem.W.Hook where
  α := He.AlD × Bool × He.AlD
  obs := fun s => obsF n fa fn ex fn2 s.heap.get?
  val := fun _ => (He.valD fn, true, He5.valA fn2)
  says := fun _ h => ∃ K : PySem.W.Frag, K.In h ∧ He.SaysD fa fn K ∧ ex K = true ∧ He5.SaysA [] fn2 K
  of := fun _ _ e => ⟨_, He.frG_in, congrArg (fun z : He.AlD × Bool × He.AlD => z.1) e, congrArg (fun z : He.AlD × Bool × He.AlD => z.2.1) e, congrArg (fun z : He.AlD × Bool × He.AlD => z.2.2) e⟩
  keeps := fun _ _ _ ⟨K, hK, c⟩ k => ⟨K, PySem.W.Frag.In.keeps hK k, c⟩
theorem obsF_eq {n : Nat} {fa : List He.Fa} {fn : List He.DefD} {ex : PySem.W.Frag → Bool} {fn2 : List He5.DefA} {g : Addr → Option Obj} {s : Shared} (h : ∀ a, g a = s.heap.get? a) : obsF n fa fn ex fn2 g = (hookF n fa fn ex fn2).obs s := by
  have e : g = s.heap.get? := funext h
  rw [e] <;> rfl
/-- a class read for its class- and staticmethods -/
theorem cread_ok {K : PySem.W.Frag} {C : Addr} (h0 : PySem.W.readsIn K C (.type "type") = true) : ClX.CRead K C (.type "type") := by
  refine ⟨h0, ?_⟩
  have h := h0
  unfold PySem.W.readsIn at h
  simp only [Bool.and_eq_true] at h
  obtain ⟨⟨⟨_, h2⟩, h3⟩, _⟩ := h.1
  unfold PySem.W.specialIn
  rw [beq_iff_eq.mp h2, Option.bind_some]
  exact beq_iff_eq.mp h3
theorem cmet_ok {K : PySem.W.Frag} {C : Addr} {m : Str} (h : He5.wrapB K C "classmethod" "classmethod.__get__" m = true) (hf : PySem.W.fnIn K (He5.wf K C "classmethod" m) = true) : ClX.CMet K C (.type "type") m (He.ma K C m) (He5.wf K C "classmethod" m) := He5.cmet_of h hf
/-- a property: its record, its getter -/
def propB (K : PySem.W.Frag) (C : Addr) (f : Str) : Bool := (match PySem.W.findIn K (.ref C) f with
    | some (some (.ref _)) => true
    | _ => false) && (He.eqO (PySem.W.specialIn K (.ref (He.ma K C f)) "__get__") (some (some (.builtin "property.__get__"))) && (decide (PySem.W.takesIn K (.ref (He.ma K C f)) = some true) && (match PySem.W.recIn K (He.ma K C f) "property" with
    | some (.ref _ :: _) => true
    | _ => false)))
theorem prop_ok {K : PySem.W.Frag} {C : Addr} {f : Str} (h : propB K C f = true) : PropOf K C f (He.ma K C f) (He5.wf K C "property" f) := by
  unfold propB at h
  simp only [Bool.and_eq_true] at h
  obtain ⟨h1, h2, h3, h4⟩ := h
  refine ⟨?_, He.eqO_ok h2, of_decide_eq_true h3, ?_⟩
  · clear h2 h3 h4
    unfold He.ma
    split at h1
    · rename_i p e; rw [e]
    · cases h1
  · clear h1 h2 h3
    unfold He5.wf
    split at h4
    · rename_i g r e; exact ⟨r, by rw [e]⟩
    · cases h4
structure SMet (K : PySem.W.Frag) (C : Addr) (m : Str) (p g : Addr) : Prop where
  at_ : PySem.W.findCls K (.ref C) (.type "type") m = some (.get (.builtin "staticmethod.__get__") (.ref p) .none (.ref C))
  rc : ∃ rest, PySem.W.recIn K p "staticmethod" = some (.ref g :: rest)
theorem smet_ok {K : PySem.W.Frag} {C : Addr} {m : Str} (h : He5.wrapB K C "staticmethod" "staticmethod.__get__" m = true) : SMet K C m (He.ma K C m) (He5.wf K C "staticmethod" m) := by
  obtain ⟨h1, h2⟩ := He5.wrapB_ok h
  exact ⟨h1, h2⟩
theorem cmet_ok2 {K : PySem.W.Frag} {C : Addr} {m : Str} (h : (He5.wrapB K C "classmethod" "classmethod.__get__" m && PySem.W.fnIn K (He5.wf K C "classmethod" m)) = true) : ClX.CMet K C (.type "type") m (He.ma K C m) (He5.wf K C "classmethod" m) := by
  rw [Bool.and_eq_true] at h
  exact cmet_ok h.1 h.2
end Bg
set_option Elab.async false
set_option linter.all false
set_option maxRecDepth 100000
set_option maxHeartbeats 8000000
namespace Bg
open PySem PySem.Spec PyProof.Rows L2
abbrev prg : Program := PySem.Challenge.pw_bytegrove_k17_runs_on_trees
def top (i : Nat) : Stmt := prg.main.body.getD i (.Pass ⟨0, 0, 0, 0⟩)
abbrev FnP (K : PySem.W.Frag) (p : Str × Option Str) (x qual : Str) (st : Stmt) (fd : FuncData) : Prop := FunD K x qual (defArgs st) (defBody st) (defScope st) [] [] (He.fAd K p) fd
abbrev s__wall : Stmt := top 0
theorem sc__wall : FnScope ["k"] ["k"] (defScope s__wall) := ⟨rfl, rfl, rfl, by decide +kernel, rfl, by decide +kernel, by decide +kernel⟩
abbrev s_BadKinds_init : Stmt := inClass (top 3) 0
theorem sc_BadKinds_init : FnScope ["self", "row"] ["self", "row"] (defScope s_BadKinds_init) := ⟨rfl, rfl, rfl, by decide +kernel, rfl, by decide +kernel, by decide +kernel⟩
abbrev s_BadFunctions_init : Stmt := inClass (top 4) 0
theorem sc_BadFunctions_init : FnScope ["self", "row"] ["self", "row"] (defScope s_BadFunctions_init) := ⟨rfl, rfl, rfl, by decide +kernel, rfl, by decide +kernel, by decide +kernel⟩
abbrev s_NotThere_init : Stmt := inClass (top 6) 0
theorem sc_NotThere_init : FnScope ["self", "name"] ["self", "name"] (defScope s_NotThere_init) := ⟨rfl, rfl, rfl, by decide +kernel, rfl, by decide +kernel, by decide +kernel⟩
abbrev s_is_name : Stmt := top 15
theorem sc_is_name : FnScope ["value"] ["value"] (defScope s_is_name) := ⟨rfl, rfl, rfl, by decide +kernel, rfl, by decide +kernel, by decide +kernel⟩
abbrev s_is_kind_name : Stmt := top 16
theorem sc_is_kind_name : FnScope ["value"] ["value"] (defScope s_is_kind_name) := ⟨rfl, rfl, rfl, by decide +kernel, rfl, by decide +kernel, by decide +kernel⟩
abbrev s_is_number : Stmt := top 17
theorem sc_is_number : FnScope ["value", "low", "high"] ["value", "low", "high"] (defScope s_is_number) := ⟨rfl, rfl, rfl, by decide +kernel, rfl, by decide +kernel, by decide +kernel⟩
abbrev s_is_part : Stmt := top 18
theorem sc_is_part : FnScope ["value"] ["value"] (defScope s_is_part) := ⟨rfl, rfl, rfl, by decide +kernel, rfl, by decide +kernel, by decide +kernel⟩
abbrev s_are_parts : Stmt := top 19
theorem sc_are_parts : FnScope ["value", "part"] ["value"] (defScope s_are_parts) := ⟨rfl, rfl, rfl, by decide +kernel, rfl, by decide +kernel, by decide +kernel⟩
abbrev s_check_each_row_kinds : Stmt := top 20
theorem sc_check_each_row_kinds : FnScope ["rows", "kinds", "makers", "at", "kind", "maker", "parts"] ["rows"] (defScope s_check_each_row_kinds) := ⟨rfl, rfl, rfl, by decide +kernel, rfl, by decide +kernel, by decide +kernel⟩
abbrev s_check_inner_kinds : Stmt := top 22
theorem sc_check_inner_kinds : FnScope ["rows", "kind", "maker", "parts", "known", "at", "part"] ["rows"] (defScope s_check_inner_kinds) := ⟨rfl, rfl, rfl, by decide +kernel, rfl, by decide +kernel, by decide +kernel⟩
abbrev s_check_finite : Stmt := top 23
theorem sc_check_finite : FnScope ["rows", "least", "at", "kind", "maker", "parts"] ["rows", "least"] (defScope s_check_finite) := ⟨rfl, rfl, rfl, by decide +kernel, rfl, by decide +kernel, by decide +kernel⟩
abbrev s_makers_by_kind : Stmt := top 24
theorem sc_makers_by_kind : FnScope ["rows", "makers", "kind", "maker", "parts"] ["rows"] (defScope s_makers_by_kind) := ⟨rfl, rfl, rfl, by decide +kernel, rfl, by decide +kernel, by decide +kernel⟩
abbrev s_holdings : Stmt := top 25
theorem sc_holdings : FnScope ["parts", "part"] ["parts"] (defScope s_holdings) := ⟨rfl, rfl, rfl, by decide +kernel, rfl, by decide +kernel, by decide +kernel⟩
abbrev s_least_node : Stmt := top 26
theorem sc_least_node : FnScope ["tag", "maker", "parts", "least", "row", "tree", "part"] ["tag", "maker", "parts", "least"] (defScope s_least_node) := ⟨rfl, rfl, rfl, by decide +kernel, rfl, by decide +kernel, by decide +kernel⟩
abbrev s_least_trees : Stmt := top 27
theorem sc_least_trees : FnScope ["rows", "makers", "least", "_", "kind", "maker", "parts", "node"] ["rows"] (defScope s_least_trees) := ⟨rfl, rfl, rfl, by decide +kernel, rfl, by decide +kernel, by decide +kernel⟩
abbrev s_Kinds_init : Stmt := inClass (top 28) 0
theorem sc_Kinds_init : FnScope ["self", "rows", "least", "kind", "maker", "parts"] ["self", "rows"] (defScope s_Kinds_init) := ⟨rfl, rfl, rfl, by decide +kernel, rfl, by decide +kernel, by decide +kernel⟩
abbrev s_Kinds_contains : Stmt := inClass (top 28) 1
theorem sc_Kinds_contains : FnScope ["self", "x"] ["self", "x"] (defScope s_Kinds_contains) := ⟨rfl, rfl, rfl, by decide +kernel, rfl, by decide +kernel, by decide +kernel⟩
abbrev s_Kinds_makers : Stmt := inClass (top 28) 2
theorem sc_Kinds_makers : FnScope ["self", "kind"] ["self", "kind"] (defScope s_Kinds_makers) := ⟨rfl, rfl, rfl, by decide +kernel, rfl, by decide +kernel, by decide +kernel⟩
abbrev s_Kinds_kind_of : Stmt := inClass (top 28) 3
theorem sc_Kinds_kind_of : FnScope ["self", "maker"] ["self", "maker"] (defScope s_Kinds_kind_of) := ⟨rfl, rfl, rfl, by decide +kernel, rfl, by decide +kernel, by decide +kernel⟩
abbrev s_Kinds_tag : Stmt := inClass (top 28) 4
theorem sc_Kinds_tag : FnScope ["self", "maker"] ["self", "maker"] (defScope s_Kinds_tag) := ⟨rfl, rfl, rfl, by decide +kernel, rfl, by decide +kernel, by decide +kernel⟩
abbrev s_Kinds_parts : Stmt := inClass (top 28) 5
theorem sc_Kinds_parts : FnScope ["self", "maker"] ["self", "maker"] (defScope s_Kinds_parts) := ⟨rfl, rfl, rfl, by decide +kernel, rfl, by decide +kernel, by decide +kernel⟩
abbrev s_Kinds_inner : Stmt := inClass (top 28) 6
theorem sc_Kinds_inner : FnScope ["self", "maker", "part"] ["self", "maker", "part"] (defScope s_Kinds_inner) := ⟨rfl, rfl, rfl, by decide +kernel, rfl, by decide +kernel, by decide +kernel⟩
abbrev s_Kinds_price_of : Stmt := inClass (top 28) 7
theorem sc_Kinds_price_of : FnScope ["self", "maker", "part"] ["self", "maker", "part"] (defScope s_Kinds_price_of) := ⟨rfl, rfl, rfl, by decide +kernel, rfl, by decide +kernel, by decide +kernel⟩
abbrev s_Kinds_holding : Stmt := inClass (top 28) 8
theorem sc_Kinds_holding : FnScope ["self", "maker", "part"] ["self", "maker", "part"] (defScope s_Kinds_holding) := ⟨rfl, rfl, rfl, by decide +kernel, rfl, by decide +kernel, by decide +kernel⟩
abbrev s_Kinds_fits : Stmt := inClass (top 28) 9
theorem sc_Kinds_fits : FnScope ["self", "tree", "kind"] ["self", "tree", "kind"] (defScope s_Kinds_fits) := ⟨rfl, rfl, rfl, by decide +kernel, rfl, by decide +kernel, by decide +kernel⟩
abbrev s_Kinds_tree_fits : Stmt := inClass (top 28) 10
theorem sc_Kinds_tree_fits : FnScope ["self", "tree", "kind", "levels", "parts", "part", "value"] ["self", "tree", "kind", "levels"] (defScope s_Kinds_tree_fits) := ⟨rfl, rfl, rfl, by decide +kernel, rfl, by decide +kernel, by decide +kernel⟩
abbrev s_Kinds_value_fits : Stmt := inClass (top 28) 11
theorem sc_Kinds_value_fits : FnScope ["self", "value", "inner", "levels"] ["self", "value", "inner", "levels"] (defScope s_Kinds_value_fits) := ⟨rfl, rfl, rfl, by decide +kernel, rfl, by decide +kernel, by decide +kernel⟩
abbrev s_Kinds_node : Stmt := inClass (top 28) 12
theorem sc_Kinds_node : FnScope ["self", "maker", "parts", "kind", "tree"] ["self", "maker", "parts"] (defScope s_Kinds_node) := ⟨rfl, rfl, rfl, by decide +kernel, rfl, by decide +kernel, by decide +kernel⟩
abbrev s_Kinds_least : Stmt := inClass (top 28) 13
theorem sc_Kinds_least : FnScope ["self", "kind"] ["self", "kind"] (defScope s_Kinds_least) := ⟨rfl, rfl, rfl, by decide +kernel, rfl, by decide +kernel, by decide +kernel⟩
abbrev s_folded : Stmt := top 30
theorem sc_folded : FnScope ["fold", "taken"] ["fold", "taken"] (defScope s_folded) := ⟨rfl, rfl, rfl, by decide +kernel, rfl, by decide +kernel, by decide +kernel⟩
abbrev s_answer_of : Stmt := top 31
theorem sc_answer_of : FnScope ["functions", "name", "node", "taken", "steps", "following", "step", "byte"] ["functions", "name", "node"] (defScope s_answer_of) := ⟨rfl, rfl, rfl, by decide +kernel, rfl, by decide +kernel, by decide +kernel⟩
abbrev s_TreeNode_init : Stmt := inClass (top 32) 0
theorem sc_TreeNode_init : FnScope ["self", "functions", "tree", "prints"] ["self", "functions", "tree", "prints"] (defScope s_TreeNode_init) := ⟨rfl, rfl, rfl, by decide +kernel, rfl, by decide +kernel, by decide +kernel⟩
abbrev s_TreeNode_byte_of : Stmt := inClass (top 32) 1
theorem sc_TreeNode_byte_of : FnScope ["self", "part"] ["self", "part"] (defScope s_TreeNode_byte_of) := ⟨rfl, rfl, rfl, by decide +kernel, rfl, by decide +kernel, by decide +kernel⟩
abbrev s_TreeNode_answer : Stmt := inClass (top 32) 2
theorem sc_TreeNode_answer : FnScope ["self", "name", "part"] ["self", "name", "part"] (defScope s_TreeNode_answer) := ⟨rfl, rfl, rfl, by decide +kernel, rfl, by decide +kernel, by decide +kernel⟩
abbrev s_run_tree : Stmt := top 33
theorem sc_run_tree : FnScope ["functions", "name", "tree", "prints", "answer"] ["functions", "name", "tree"] (defScope s_run_tree) := ⟨rfl, rfl, rfl, by decide +kernel, rfl, by decide +kernel, by decide +kernel⟩
abbrev s_asks_byte : Stmt := top 41
theorem sc_asks_byte : FnScope ["kinds", "maker", "part", "asked"] ["kinds", "maker", "part", "asked"] (defScope s_asks_byte) := ⟨rfl, rfl, rfl, by decide +kernel, rfl, by decide +kernel, by decide +kernel⟩
abbrev s_asks_tree : Stmt := top 42
theorem sc_asks_tree : FnScope ["kinds", "maker", "part", "asked"] ["kinds", "maker", "part", "asked"] (defScope s_asks_tree) := ⟨rfl, rfl, rfl, by decide +kernel, rfl, by decide +kernel, by decide +kernel⟩
abbrev s_is_step : Stmt := top 43
theorem sc_is_step : FnScope ["kinds", "maker", "step", "asked", "word"] ["kinds", "maker", "step", "asked"] (defScope s_is_step) := ⟨rfl, rfl, rfl, by decide +kernel, rfl, by decide +kernel, by decide +kernel⟩
abbrev s_is_branch : Stmt := top 44
theorem sc_is_branch : FnScope ["kinds", "maker", "step", "asked", "later"] ["kinds", "maker", "step", "asked"] (defScope s_is_branch) := ⟨rfl, rfl, rfl, by decide +kernel, rfl, by decide +kernel, by decide +kernel⟩
abbrev s_is_body : Stmt := top 45
theorem sc_is_body : FnScope ["kinds", "maker", "body", "asked", "at", "step"] ["kinds", "maker", "body", "asked"] (defScope s_is_body) := ⟨rfl, rfl, rfl, by decide +kernel, rfl, by decide +kernel, by decide +kernel⟩
abbrev s_are_bodies : Stmt := top 46
theorem sc_are_bodies : FnScope ["kinds", "kind", "bodies", "makers", "maker"] ["kinds", "kind", "bodies"] (defScope s_are_bodies) := ⟨rfl, rfl, rfl, by decide +kernel, rfl, by decide +kernel, by decide +kernel⟩
abbrev s_check_each_row_bodies : Stmt := top 47
theorem sc_check_each_row_bodies : FnScope ["kinds", "rows", "names", "at", "name", "kind", "fold", "bodies"] ["kinds", "rows"] (defScope s_check_each_row_bodies) := ⟨rfl, rfl, rfl, by decide +kernel, rfl, by decide +kernel, by decide +kernel⟩
abbrev s_check_called : Stmt := top 49
theorem sc_check_called : FnScope ["kinds", "rows", "name", "kind", "fold", "bodies", "takes", "at", "maker", "body", "part", "called", "inner"] ["kinds", "rows"] (defScope s_check_called) := ⟨rfl, rfl, rfl, by decide +kernel, rfl, by decide +kernel, by decide +kernel⟩
abbrev s_paths_of : Stmt := top 50
theorem sc_paths_of : FnScope ["body", "asked", "step", "below", "other", "rest"] ["body"] (defScope s_paths_of) := ⟨rfl, rfl, rfl, by decide +kernel, rfl, by decide +kernel, by decide +kernel⟩
abbrev s_asked_parts : Stmt := top 51
theorem sc_asked_parts : FnScope ["body", "path", "part", "called", "low"] ["body"] (defScope s_asked_parts) := ⟨rfl, rfl, rfl, by decide +kernel, rfl, by decide +kernel, by decide +kernel⟩
abbrev s_Functions_init : Stmt := inClass (top 52) 0
theorem sc_Functions_init : FnScope ["self", "kinds", "rows", "name", "kind", "fold", "bodies"] ["self", "kinds", "rows"] (defScope s_Functions_init) := ⟨rfl, rfl, rfl, by decide +kernel, rfl, by decide +kernel, by decide +kernel⟩
abbrev s_Functions_takes : Stmt := inClass (top 52) 1
theorem sc_Functions_takes : FnScope ["self", "name"] ["self", "name"] (defScope s_Functions_takes) := ⟨rfl, rfl, rfl, by decide +kernel, rfl, by decide +kernel, by decide +kernel⟩
abbrev s_Functions_fold : Stmt := inClass (top 52) 2
theorem sc_Functions_fold : FnScope ["self", "name"] ["self", "name"] (defScope s_Functions_fold) := ⟨rfl, rfl, rfl, by decide +kernel, rfl, by decide +kernel, by decide +kernel⟩
abbrev s_Functions_body : Stmt := inClass (top 52) 3
theorem sc_Functions_body : FnScope ["self", "name", "maker"] ["self", "name", "maker"] (defScope s_Functions_body) := ⟨rfl, rfl, rfl, by decide +kernel, rfl, by decide +kernel, by decide +kernel⟩
abbrev s_Functions_paths : Stmt := inClass (top 52) 4
theorem sc_Functions_paths : FnScope ["self", "name", "maker"] ["self", "name", "maker"] (defScope s_Functions_paths) := ⟨rfl, rfl, rfl, by decide +kernel, rfl, by decide +kernel, by decide +kernel⟩
abbrev s_Functions_reached : Stmt := inClass (top 52) 5
theorem sc_Functions_reached : FnScope ["self", "starts"] ["self", "starts"] (defScope s_Functions_reached) := ⟨rfl, rfl, rfl, by decide +kernel, rfl, by decide +kernel, by decide +kernel⟩
abbrev s_Functions_called : Stmt := inClass (top 52) 6
theorem sc_Functions_called : FnScope ["self", "name"] ["self", "name"] (defScope s_Functions_called) := ⟨rfl, rfl, rfl, by decide +kernel, rfl, by decide +kernel, by decide +kernel⟩
abbrev s__law_take : Stmt := top 54
theorem sc__law_take : FnScope ["_law_pool_here", "_law_many"] ["_law_pool_here", "_law_many"] (defScope s__law_take) := ⟨rfl, rfl, rfl, by decide +kernel, rfl, by decide +kernel, by decide +kernel⟩
abbrev s__law_pool : Stmt := top 55
theorem sc__law_pool : FnScope ["_law_script", "_law_pool_here", "_law_cell", "_law_number", "_law_turn", "_law_mixed"] ["_law_script"] (defScope s__law_pool) := ⟨rfl, rfl, rfl, by decide +kernel, rfl, by decide +kernel, by decide +kernel⟩
abbrev s__law_name : Stmt := top 56
theorem sc__law_name : FnScope ["_law_seed", "_law_k", "_law_taken", "_law_letters", "_law_number", "_law_name_here", "_law_turn"] ["_law_seed", "_law_k", "_law_taken"] (defScope s__law_name) := ⟨rfl, rfl, rfl, by decide +kernel, rfl, by decide +kernel, by decide +kernel⟩
abbrev s__law_parts : Stmt := top 57
theorem sc__law_parts : FnScope ["_law_pool_here", "_law_seed", "_law_names", "_law_base_here", "_law_parts_here", "_law_taken", "_law_trees", "_law_at", "_law_pick", "_law_price"] ["_law_pool_here", "_law_seed", "_law_names", "_law_base_here"] (defScope s__law_parts) := ⟨rfl, rfl, rfl, by decide +kernel, rfl, by decide +kernel, by decide +kernel⟩
abbrev s__law_rows : Stmt := top 58
theorem sc__law_rows : FnScope ["_law_pool_here", "_law_seed", "_law_names", "_law_k", "_law_rows_here", "_law_count", "_law_base_here", "_law_at", "_law_maker", "_law_inner", "_law_turn", "_law_row"] ["_law_pool_here"] (defScope s__law_rows) := ⟨rfl, rfl, rfl, by decide +kernel, rfl, by decide +kernel, by decide +kernel⟩
abbrev s__law_shuffle : Stmt := top 59
theorem sc__law_shuffle : FnScope ["_law_pool_here", "_law_items", "_law_left", "_law_out", "_law_turn"] ["_law_pool_here", "_law_items"] (defScope s__law_shuffle) := ⟨rfl, rfl, rfl, by decide +kernel, rfl, by decide +kernel, by decide +kernel⟩
abbrev s__law_hidden : Stmt := top 60
theorem sc__law_hidden : FnScope ["_law_pool_here", "_law_rows_here", "_law_hidden_here", "_law_row"] ["_law_pool_here", "_law_rows_here"] (defScope s__law_hidden) := ⟨rfl, rfl, rfl, by decide +kernel, rfl, by decide +kernel, by decide +kernel⟩
abbrev s__law_body : Stmt := top 61
theorem sc__law_body : FnScope ["_law_pool_here", "_law_heads", "_law_parts_here", "_law_cut", "_law_wild", "_law_nest", "_law_left", "_law_steps_here", "_law_turn", "_law_at", "_law_part", "_law_names", "_law_places", "_law_rest", "_law_bound", "_law_below", "_law_other", "_law_head"] ["_law_pool_here", "_law_heads", "_law_parts_here", "_law_cut", "_law_wild", "_law_nest"] (defScope s__law_body) := ⟨rfl, rfl, rfl, by decide +kernel, rfl, by decide +kernel, by decide +kernel⟩
abbrev s__law_functions : Stmt := top 62
theorem sc__law_functions : FnScope ["_law_pool_here", "_law_rows_here", "_law_hidden_here", "_law_cut", "_law_most", "_law_seed", "_law_kinds", "_law_row", "_law_heads", "_law_k", "_law_head", "_law_name_here", "_law_wild", "_law_table", "_law_bodies"] ["_law_pool_here", "_law_rows_here", "_law_hidden_here", "_law_cut", "_law_most"] (defScope s__law_functions) := ⟨rfl, rfl, rfl, by decide +kernel, rfl, by decide +kernel, by decide +kernel⟩
abbrev s__law_base : Stmt := top 63
theorem sc__law_base : FnScope ["_law_rows_here", "_law_base_here", "_law_turn", "_law_row", "_law_open_kinds", "_law_part"] ["_law_rows_here"] (defScope s__law_base) := ⟨rfl, rfl, rfl, by decide +kernel, rfl, by decide +kernel, by decide +kernel⟩
abbrev s__law_tree : Stmt := top 64
theorem sc__law_tree : FnScope ["_law_pool_here", "_law_rows_here", "_law_base_here", "_law_kind", "_law_cut", "_law_fuel", "_law_row", "_law_choices", "_law_left", "_law_tree_here", "_law_part", "_law_share"] ["_law_pool_here", "_law_rows_here", "_law_base_here", "_law_kind", "_law_cut", "_law_fuel"] (defScope s__law_tree) := ⟨rfl, rfl, rfl, by decide +kernel, rfl, by decide +kernel, by decide +kernel⟩
abbrev s__law_steps : Stmt := top 65
theorem sc__law_steps : FnScope ["_law_body_here", "_law_values", "_law_steps_here", "_law_turn", "_law_nest", "_law_step"] ["_law_body_here", "_law_values"] (defScope s__law_steps) := ⟨rfl, rfl, rfl, by decide +kernel, rfl, by decide +kernel, by decide +kernel⟩
abbrev s__law_fold : Stmt := top 66
theorem sc__law_fold : FnScope ["_law_fold_here", "_law_numbers", "_law_answer", "_law_number"] ["_law_fold_here", "_law_numbers"] (defScope s__law_fold) := ⟨rfl, rfl, rfl, by decide +kernel, rfl, by decide +kernel, by decide +kernel⟩
abbrev s__law_eval : Stmt := top 67
theorem sc__law_eval : FnScope ["_law_rows_here", "_law_table", "_law_name_here", "_law_tree_here", "_law_prints", "_law_head", "_law_parts_here", "_law_values", "_law_k", "_law_taken", "_law_step", "_law_row"] ["_law_rows_here", "_law_table", "_law_name_here", "_law_tree_here", "_law_prints"] (defScope s__law_eval) := ⟨rfl, rfl, rfl, by decide +kernel, rfl, by decide +kernel, by decide +kernel⟩
abbrev s__law_int : Stmt := top 68
theorem sc__law_int : FnScope ["_law_value"] ["_law_value"] (defScope s__law_int) := ⟨rfl, rfl, rfl, by decide +kernel, rfl, by decide +kernel, by decide +kernel⟩
abbrev s__law_ints : Stmt := top 69
theorem sc__law_ints : FnScope ["_law_value", "_law_due", "_law_k"] ["_law_value", "_law_due"] (defScope s__law_ints) := ⟨rfl, rfl, rfl, by decide +kernel, rfl, by decide +kernel, by decide +kernel⟩
abbrev s__law_refused : Stmt := top 70
theorem sc__law_refused : FnScope ["_law_program", "_law_name_here", "_law_tree_here", "e"] ["_law_program", "_law_name_here", "_law_tree_here"] (defScope s__law_refused) := ⟨rfl, rfl, rfl, by decide +kernel, rfl, by decide +kernel, by decide +kernel⟩
abbrev s__law_right : Stmt := top 71
theorem sc__law_right : FnScope ["_law_program", "_law_rows_here", "_law_table", "_law_name_here", "_law_tree_here", "_law_prints", "_law_answer", "_law_got", "_law_told"] ["_law_program", "_law_rows_here", "_law_table", "_law_name_here", "_law_tree_here"] (defScope s__law_right) := ⟨rfl, rfl, rfl, by decide +kernel, rfl, by decide +kernel, by decide +kernel⟩
abbrev s_law : Stmt := top 72
theorem sc_law : FnScope ["_law_script", "_law_pool_here", "_law_rows_here", "_law_base_here", "_law_cut", "_law_table", "_law_program", "_law_trees", "_law_head", "_law_turn", "_law_k", "_law_row", "_law_other", "_law_value", "_law_bodies", "_law_lists"] ["_law_script"] (defScope s_law) := ⟨rfl, rfl, rfl, by decide +kernel, rfl, by decide +kernel, by decide +kernel⟩
def d__wall : He.DefD := ⟨("_wall", none), "_wall", "_wall", defArgs s__wall, defBody s__wall, defScope s__wall, [], []⟩
def d_BadKinds_init : He.DefD := ⟨("BadKinds", some "__init__"), "__init__", "BadKinds.__init__", defArgs s_BadKinds_init, defBody s_BadKinds_init, defScope s_BadKinds_init, [], []⟩
def d_BadFunctions_init : He.DefD := ⟨("BadFunctions", some "__init__"), "__init__", "BadFunctions.__init__", defArgs s_BadFunctions_init, defBody s_BadFunctions_init, defScope s_BadFunctions_init, [], []⟩
def d_NotThere_init : He.DefD := ⟨("NotThere", some "__init__"), "__init__", "NotThere.__init__", defArgs s_NotThere_init, defBody s_NotThere_init, defScope s_NotThere_init, [], []⟩
def d_is_name : He.DefD := ⟨("is_name", none), "is_name", "is_name", defArgs s_is_name, defBody s_is_name, defScope s_is_name, [], []⟩
def d_is_kind_name : He.DefD := ⟨("is_kind_name", none), "is_kind_name", "is_kind_name", defArgs s_is_kind_name, defBody s_is_kind_name, defScope s_is_kind_name, [], []⟩
def d_is_number : He.DefD := ⟨("is_number", none), "is_number", "is_number", defArgs s_is_number, defBody s_is_number, defScope s_is_number, [], []⟩
def d_is_part : He.DefD := ⟨("is_part", none), "is_part", "is_part", defArgs s_is_part, defBody s_is_part, defScope s_is_part, [], []⟩
def d_are_parts : He.DefD := ⟨("are_parts", none), "are_parts", "are_parts", defArgs s_are_parts, defBody s_are_parts, defScope s_are_parts, [], []⟩
def d_check_each_row_kinds : He.DefD := ⟨("check_each_row_kinds", none), "check_each_row", "check_each_row", defArgs s_check_each_row_kinds, defBody s_check_each_row_kinds, defScope s_check_each_row_kinds, [], []⟩
def d_check_inner_kinds : He.DefD := ⟨("check_inner_kinds", none), "check_inner_kinds", "check_inner_kinds", defArgs s_check_inner_kinds, defBody s_check_inner_kinds, defScope s_check_inner_kinds, [], []⟩
def d_check_finite : He.DefD := ⟨("check_finite", none), "check_finite", "check_finite", defArgs s_check_finite, defBody s_check_finite, defScope s_check_finite, [], []⟩
def d_makers_by_kind : He.DefD := ⟨("makers_by_kind", none), "makers_by_kind", "makers_by_kind", defArgs s_makers_by_kind, defBody s_makers_by_kind, defScope s_makers_by_kind, [], []⟩
def d_holdings : He.DefD := ⟨("holdings", none), "holdings", "holdings", defArgs s_holdings, defBody s_holdings, defScope s_holdings, [], []⟩
def d_least_node : He.DefD := ⟨("least_node", none), "least_node", "least_node", defArgs s_least_node, defBody s_least_node, defScope s_least_node, [], []⟩
def d_least_trees : He.DefD := ⟨("least_trees", none), "least_trees", "least_trees", defArgs s_least_trees, defBody s_least_trees, defScope s_least_trees, [], []⟩
def d_Kinds_init : He.DefD := ⟨("Kinds", some "__init__"), "__init__", "Kinds.__init__", defArgs s_Kinds_init, defBody s_Kinds_init, defScope s_Kinds_init, [], []⟩
def d_Kinds_contains : He.DefD := ⟨("Kinds", some "__contains__"), "__contains__", "Kinds.__contains__", defArgs s_Kinds_contains, defBody s_Kinds_contains, defScope s_Kinds_contains, [], []⟩
def d_Kinds_makers : He.DefD := ⟨("Kinds", some "makers"), "makers", "Kinds.makers", defArgs s_Kinds_makers, defBody s_Kinds_makers, defScope s_Kinds_makers, [], []⟩
def d_Kinds_kind_of : He.DefD := ⟨("Kinds", some "kind_of"), "kind_of", "Kinds.kind_of", defArgs s_Kinds_kind_of, defBody s_Kinds_kind_of, defScope s_Kinds_kind_of, [], []⟩
def d_Kinds_tag : He.DefD := ⟨("Kinds", some "tag"), "tag", "Kinds.tag", defArgs s_Kinds_tag, defBody s_Kinds_tag, defScope s_Kinds_tag, [], []⟩
def d_Kinds_parts : He.DefD := ⟨("Kinds", some "parts"), "parts", "Kinds.parts", defArgs s_Kinds_parts, defBody s_Kinds_parts, defScope s_Kinds_parts, [], []⟩
def d_Kinds_inner : He.DefD := ⟨("Kinds", some "inner"), "inner", "Kinds.inner", defArgs s_Kinds_inner, defBody s_Kinds_inner, defScope s_Kinds_inner, [], []⟩
def d_Kinds_price_of : He.DefD := ⟨("Kinds", some "price_of"), "price_of", "Kinds.price_of", defArgs s_Kinds_price_of, defBody s_Kinds_price_of, defScope s_Kinds_price_of, [], []⟩
def d_Kinds_holding : He.DefD := ⟨("Kinds", some "_holding"), "_holding", "Kinds._holding", defArgs s_Kinds_holding, defBody s_Kinds_holding, defScope s_Kinds_holding, [], []⟩
def d_Kinds_fits : He.DefD := ⟨("Kinds", some "fits"), "fits", "Kinds.fits", defArgs s_Kinds_fits, defBody s_Kinds_fits, defScope s_Kinds_fits, [], []⟩
def d_Kinds_tree_fits : He.DefD := ⟨("Kinds", some "_tree_fits"), "_tree_fits", "Kinds._tree_fits", defArgs s_Kinds_tree_fits, defBody s_Kinds_tree_fits, defScope s_Kinds_tree_fits, [], []⟩
def d_Kinds_value_fits : He.DefD := ⟨("Kinds", some "_value_fits"), "_value_fits", "Kinds._value_fits", defArgs s_Kinds_value_fits, defBody s_Kinds_value_fits, defScope s_Kinds_value_fits, [], []⟩
def d_Kinds_node : He.DefD := ⟨("Kinds", some "node"), "node", "Kinds.node", defArgs s_Kinds_node, defBody s_Kinds_node, defScope s_Kinds_node, [], []⟩
def d_Kinds_least : He.DefD := ⟨("Kinds", some "least"), "least", "Kinds.least", defArgs s_Kinds_least, defBody s_Kinds_least, defScope s_Kinds_least, [], []⟩
def d_folded : He.DefD := ⟨("folded", none), "folded", "folded", defArgs s_folded, defBody s_folded, defScope s_folded, [], []⟩
def d_answer_of : He.DefD := ⟨("answer_of", none), "answer_of", "answer_of", defArgs s_answer_of, defBody s_answer_of, defScope s_answer_of, [], []⟩
def d_TreeNode_init : He.DefD := ⟨("TreeNode", some "__init__"), "__init__", "TreeNode.__init__", defArgs s_TreeNode_init, defBody s_TreeNode_init, defScope s_TreeNode_init, [], []⟩
def d_TreeNode_byte_of : He.DefD := ⟨("TreeNode", some "byte_of"), "byte_of", "TreeNode.byte_of", defArgs s_TreeNode_byte_of, defBody s_TreeNode_byte_of, defScope s_TreeNode_byte_of, [], []⟩
def d_TreeNode_answer : He.DefD := ⟨("TreeNode", some "answer"), "answer", "TreeNode.answer", defArgs s_TreeNode_answer, defBody s_TreeNode_answer, defScope s_TreeNode_answer, [], []⟩
def d_run_tree : He.DefD := ⟨("run_tree", none), "run_tree", "run_tree", defArgs s_run_tree, defBody s_run_tree, defScope s_run_tree, [], []⟩
def d_asks_byte : He.DefD := ⟨("asks_byte", none), "asks_byte", "asks_byte", defArgs s_asks_byte, defBody s_asks_byte, defScope s_asks_byte, [], []⟩
def d_asks_tree : He.DefD := ⟨("asks_tree", none), "asks_tree", "asks_tree", defArgs s_asks_tree, defBody s_asks_tree, defScope s_asks_tree, [], []⟩
def d_is_step : He.DefD := ⟨("is_step", none), "is_step", "is_step", defArgs s_is_step, defBody s_is_step, defScope s_is_step, [], []⟩
def d_is_branch : He.DefD := ⟨("is_branch", none), "is_branch", "is_branch", defArgs s_is_branch, defBody s_is_branch, defScope s_is_branch, [], []⟩
def d_is_body : He.DefD := ⟨("is_body", none), "is_body", "is_body", defArgs s_is_body, defBody s_is_body, defScope s_is_body, [], []⟩
def d_are_bodies : He.DefD := ⟨("are_bodies", none), "are_bodies", "are_bodies", defArgs s_are_bodies, defBody s_are_bodies, defScope s_are_bodies, [], []⟩
def d_check_each_row_bodies : He.DefD := ⟨("check_each_row_bodies", none), "check_each_row", "check_each_row", defArgs s_check_each_row_bodies, defBody s_check_each_row_bodies, defScope s_check_each_row_bodies, [], []⟩
def d_check_called : He.DefD := ⟨("check_called", none), "check_called", "check_called", defArgs s_check_called, defBody s_check_called, defScope s_check_called, [], []⟩
def d_paths_of : He.DefD := ⟨("paths_of", none), "paths_of", "paths_of", defArgs s_paths_of, defBody s_paths_of, defScope s_paths_of, [], []⟩
def d_asked_parts : He.DefD := ⟨("asked_parts", none), "asked_parts", "asked_parts", defArgs s_asked_parts, defBody s_asked_parts, defScope s_asked_parts, [], []⟩
def d_Functions_init : He.DefD := ⟨("Functions", some "__init__"), "__init__", "Functions.__init__", defArgs s_Functions_init, defBody s_Functions_init, defScope s_Functions_init, [], []⟩
def d_Functions_takes : He.DefD := ⟨("Functions", some "takes"), "takes", "Functions.takes", defArgs s_Functions_takes, defBody s_Functions_takes, defScope s_Functions_takes, [], []⟩
def d_Functions_fold : He.DefD := ⟨("Functions", some "fold"), "fold", "Functions.fold", defArgs s_Functions_fold, defBody s_Functions_fold, defScope s_Functions_fold, [], []⟩
def d_Functions_body : He.DefD := ⟨("Functions", some "body"), "body", "Functions.body", defArgs s_Functions_body, defBody s_Functions_body, defScope s_Functions_body, [], []⟩
def d_Functions_paths : He.DefD := ⟨("Functions", some "paths"), "paths", "Functions.paths", defArgs s_Functions_paths, defBody s_Functions_paths, defScope s_Functions_paths, [], []⟩
def d_Functions_reached : He.DefD := ⟨("Functions", some "reached"), "reached", "Functions.reached", defArgs s_Functions_reached, defBody s_Functions_reached, defScope s_Functions_reached, [], []⟩
def d_Functions_called : He.DefD := ⟨("Functions", some "_called"), "_called", "Functions._called", defArgs s_Functions_called, defBody s_Functions_called, defScope s_Functions_called, [], []⟩
def d__law_take : He.DefD := ⟨("_law_take", none), "_law_take", "_law_take", defArgs s__law_take, defBody s__law_take, defScope s__law_take, [], []⟩
def d__law_pool : He.DefD := ⟨("_law_pool", none), "_law_pool", "_law_pool", defArgs s__law_pool, defBody s__law_pool, defScope s__law_pool, [], []⟩
def d__law_name : He.DefD := ⟨("_law_name", none), "_law_name", "_law_name", defArgs s__law_name, defBody s__law_name, defScope s__law_name, [], []⟩
def d__law_parts : He.DefD := ⟨("_law_parts", none), "_law_parts", "_law_parts", defArgs s__law_parts, defBody s__law_parts, defScope s__law_parts, [], []⟩
def d__law_rows : He.DefD := ⟨("_law_rows", none), "_law_rows", "_law_rows", defArgs s__law_rows, defBody s__law_rows, defScope s__law_rows, [], []⟩
def d__law_shuffle : He.DefD := ⟨("_law_shuffle", none), "_law_shuffle", "_law_shuffle", defArgs s__law_shuffle, defBody s__law_shuffle, defScope s__law_shuffle, [], []⟩
def d__law_hidden : He.DefD := ⟨("_law_hidden", none), "_law_hidden", "_law_hidden", defArgs s__law_hidden, defBody s__law_hidden, defScope s__law_hidden, [], []⟩
def d__law_body : He.DefD := ⟨("_law_body", none), "_law_body", "_law_body", defArgs s__law_body, defBody s__law_body, defScope s__law_body, [], []⟩
def d__law_functions : He.DefD := ⟨("_law_functions", none), "_law_functions", "_law_functions", defArgs s__law_functions, defBody s__law_functions, defScope s__law_functions, [], []⟩
def d__law_base : He.DefD := ⟨("_law_base", none), "_law_base", "_law_base", defArgs s__law_base, defBody s__law_base, defScope s__law_base, [], []⟩
def d__law_tree : He.DefD := ⟨("_law_tree", none), "_law_tree", "_law_tree", defArgs s__law_tree, defBody s__law_tree, defScope s__law_tree, [], []⟩
def d__law_steps : He.DefD := ⟨("_law_steps", none), "_law_steps", "_law_steps", defArgs s__law_steps, defBody s__law_steps, defScope s__law_steps, [], []⟩
def d__law_fold : He.DefD := ⟨("_law_fold", none), "_law_fold", "_law_fold", defArgs s__law_fold, defBody s__law_fold, defScope s__law_fold, [], []⟩
def d__law_eval : He.DefD := ⟨("_law_eval", none), "_law_eval", "_law_eval", defArgs s__law_eval, defBody s__law_eval, defScope s__law_eval, [], []⟩
def d__law_int : He.DefD := ⟨("_law_int", none), "_law_int", "_law_int", defArgs s__law_int, defBody s__law_int, defScope s__law_int, [], []⟩
def d__law_ints : He.DefD := ⟨("_law_ints", none), "_law_ints", "_law_ints", defArgs s__law_ints, defBody s__law_ints, defScope s__law_ints, [], []⟩
def d__law_refused : He.DefD := ⟨("_law_refused", none), "_law_refused", "_law_refused", defArgs s__law_refused, defBody s__law_refused, defScope s__law_refused, [], []⟩
def d__law_right : He.DefD := ⟨("_law_right", none), "_law_right", "_law_right", defArgs s__law_right, defBody s__law_right, defScope s__law_right, [], []⟩
def d_law : He.DefD := ⟨("law", none), "law", "law", defArgs s_law, defBody s_law, defScope s_law, [], []⟩
abbrev p__wall : List Str := ["k"]
abbrev p_BadKinds_init : List Str := ["self", "row"]
abbrev p_BadFunctions_init : List Str := ["self", "row"]
abbrev p_NotThere_init : List Str := ["self", "name"]
abbrev p_is_name : List Str := ["value"]
abbrev p_is_kind_name : List Str := ["value"]
abbrev p_is_number : List Str := ["value", "low", "high"]
abbrev p_is_part : List Str := ["value"]
abbrev p_are_parts : List Str := ["value"]
abbrev p_check_each_row_kinds : List Str := ["rows"]
abbrev p_check_inner_kinds : List Str := ["rows"]
abbrev p_check_finite : List Str := ["rows", "least"]
abbrev p_makers_by_kind : List Str := ["rows"]
abbrev p_holdings : List Str := ["parts"]
abbrev p_least_node : List Str := ["tag", "maker", "parts", "least"]
abbrev p_least_trees : List Str := ["rows"]
abbrev p_Kinds_init : List Str := ["self", "rows"]
abbrev p_Kinds_contains : List Str := ["self", "x"]
abbrev p_Kinds_makers : List Str := ["self", "kind"]
abbrev p_Kinds_kind_of : List Str := ["self", "maker"]
abbrev p_Kinds_tag : List Str := ["self", "maker"]
abbrev p_Kinds_parts : List Str := ["self", "maker"]
abbrev p_Kinds_inner : List Str := ["self", "maker", "part"]
abbrev p_Kinds_price_of : List Str := ["self", "maker", "part"]
abbrev p_Kinds_holding : List Str := ["self", "maker", "part"]
abbrev p_Kinds_fits : List Str := ["self", "tree", "kind"]
abbrev p_Kinds_tree_fits : List Str := ["self", "tree", "kind", "levels"]
abbrev p_Kinds_value_fits : List Str := ["self", "value", "inner", "levels"]
abbrev p_Kinds_node : List Str := ["self", "maker", "parts"]
abbrev p_Kinds_least : List Str := ["self", "kind"]
abbrev p_folded : List Str := ["fold", "taken"]
abbrev p_answer_of : List Str := ["functions", "name", "node"]
abbrev p_TreeNode_init : List Str := ["self", "functions", "tree", "prints"]
abbrev p_TreeNode_byte_of : List Str := ["self", "part"]
abbrev p_TreeNode_answer : List Str := ["self", "name", "part"]
abbrev p_run_tree : List Str := ["functions", "name", "tree"]
abbrev p_asks_byte : List Str := ["kinds", "maker", "part", "asked"]
abbrev p_asks_tree : List Str := ["kinds", "maker", "part", "asked"]
abbrev p_is_step : List Str := ["kinds", "maker", "step", "asked"]
abbrev p_is_branch : List Str := ["kinds", "maker", "step", "asked"]
abbrev p_is_body : List Str := ["kinds", "maker", "body", "asked"]
abbrev p_are_bodies : List Str := ["kinds", "kind", "bodies"]
abbrev p_check_each_row_bodies : List Str := ["kinds", "rows"]
abbrev p_check_called : List Str := ["kinds", "rows"]
abbrev p_paths_of : List Str := ["body"]
abbrev p_asked_parts : List Str := ["body"]
abbrev p_Functions_init : List Str := ["self", "kinds", "rows"]
abbrev p_Functions_takes : List Str := ["self", "name"]
abbrev p_Functions_fold : List Str := ["self", "name"]
abbrev p_Functions_body : List Str := ["self", "name", "maker"]
abbrev p_Functions_paths : List Str := ["self", "name", "maker"]
abbrev p_Functions_reached : List Str := ["self", "starts"]
abbrev p_Functions_called : List Str := ["self", "name"]
abbrev p__law_take : List Str := ["_law_pool_here", "_law_many"]
abbrev p__law_pool : List Str := ["_law_script"]
abbrev p__law_name : List Str := ["_law_seed", "_law_k", "_law_taken"]
abbrev p__law_parts : List Str := ["_law_pool_here", "_law_seed", "_law_names", "_law_base_here"]
abbrev p__law_rows : List Str := ["_law_pool_here"]
abbrev p__law_shuffle : List Str := ["_law_pool_here", "_law_items"]
abbrev p__law_hidden : List Str := ["_law_pool_here", "_law_rows_here"]
abbrev p__law_body : List Str := ["_law_pool_here", "_law_heads", "_law_parts_here", "_law_cut", "_law_wild", "_law_nest"]
abbrev p__law_functions : List Str := ["_law_pool_here", "_law_rows_here", "_law_hidden_here", "_law_cut", "_law_most"]
abbrev p__law_base : List Str := ["_law_rows_here"]
abbrev p__law_tree : List Str := ["_law_pool_here", "_law_rows_here", "_law_base_here", "_law_kind", "_law_cut", "_law_fuel"]
abbrev p__law_steps : List Str := ["_law_body_here", "_law_values"]
abbrev p__law_fold : List Str := ["_law_fold_here", "_law_numbers"]
abbrev p__law_eval : List Str := ["_law_rows_here", "_law_table", "_law_name_here", "_law_tree_here", "_law_prints"]
abbrev p__law_int : List Str := ["_law_value"]
abbrev p__law_ints : List Str := ["_law_value", "_law_due"]
abbrev p__law_refused : List Str := ["_law_program", "_law_name_here", "_law_tree_here"]
abbrev p__law_right : List Str := ["_law_program", "_law_rows_here", "_law_table", "_law_name_here", "_law_tree_here"]
abbrev p_law : List Str := ["_law_script"]
def fn : List He.DefD := [d_BadFunctions_init, d_NotThere_init, d_is_name, d_is_kind_name, d_is_number, d_is_part, d_are_parts, d_check_each_row_kinds, d_check_inner_kinds, d_check_finite, d_makers_by_kind, d_holdings, d_least_node, d_least_trees, d_Kinds_init, d_Kinds_makers, d_Kinds_kind_of, d_Kinds_parts, d_Kinds_inner, d_Kinds_holding, d_Kinds_fits, d_Kinds_tree_fits, d_Kinds_value_fits, d_folded, d_answer_of, d_TreeNode_init, d_TreeNode_byte_of, d_TreeNode_answer, d_run_tree, d_asks_byte, d_asks_tree, d_is_step, d_is_branch, d_is_body, d_are_bodies, d_check_each_row_bodies, d_check_called, d_paths_of, d_asked_parts, d_Functions_init, d_Functions_takes, d_Functions_fold, d_Functions_body, d__law_take, d__law_pool, d__law_name, d__law_parts, d__law_rows, d__law_shuffle, d__law_hidden, d__law_body, d__law_functions, d__law_base, d__law_tree, d__law_steps, d__law_fold, d__law_eval, d__law_int, d__law_ints, d__law_refused, d__law_right, d_law]
def fn2 : List He5.DefA := []
def fa : List He.Fa := [.glo "is_name", .glo "is_kind_name", .glo "is_number", .glo "is_part", .glo "are_parts", .glo "check_each_row_kinds", .glo "check_inner_kinds", .glo "check_finite", .glo "makers_by_kind", .glo "holdings", .glo "least_node", .glo "least_trees", .glo "folded", .glo "answer_of", .glo "run_tree", .glo "asks_byte", .glo "asks_tree", .glo "is_step", .glo "is_branch", .glo "is_body", .glo "are_bodies", .glo "check_each_row_bodies", .glo "check_called", .glo "paths_of", .glo "asked_parts", .glo "_law_take", .glo "_law_pool", .glo "_law_name", .glo "_law_parts", .glo "_law_rows", .glo "_law_shuffle", .glo "_law_hidden", .glo "_law_body", .glo "_law_functions", .glo "_law_base", .glo "_law_tree", .glo "_law_steps", .glo "_law_fold", .glo "_law_eval", .glo "_law_int", .glo "_law_ints", .glo "_law_refused", .glo "_law_right", .glo "law", .glo "GroveError", .glo "BadFunctions", .glo "BadTree", .glo "NotThere", .glo "Kinds", .glo "TreeNode", .glo "Functions", .keep "is_name", .keep "is_kind_name", .keep "is_number", .keep "is_part", .keep "are_parts", .keep "check_each_row_kinds", .keep "check_inner_kinds", .keep "check_finite", .keep "makers_by_kind", .keep "holdings", .keep "least_node", .keep "least_trees", .keep "folded", .keep "answer_of", .keep "run_tree", .keep "asks_byte", .keep "asks_tree", .keep "is_step", .keep "is_branch", .keep "is_body", .keep "are_bodies", .keep "check_each_row_bodies", .keep "check_called", .keep "paths_of", .keep "asked_parts", .keep "_law_take", .keep "_law_pool", .keep "_law_name", .keep "_law_parts", .keep "_law_rows", .keep "_law_shuffle", .keep "_law_hidden", .keep "_law_body", .keep "_law_functions", .keep "_law_base", .keep "_law_tree", .keep "_law_steps", .keep "_law_fold", .keep "_law_eval", .keep "_law_int", .keep "_law_ints", .keep "_law_refused", .keep "_law_right", .free "bool", .free "dict", .free "enumerate", .free "int", .free "isinstance", .free "len", .free "list", .free "max", .free "range", .free "str", .free "sum", .free "tuple", .free "zip", .str "BYTE" "byte", .int "MOST_LETTERS" 24, .int "MOST_PARTS" 4, .int "MOST_PRICE" 1000, .int "MOST_ROWS" 12, .int "MOST_KINDS" 4, .int "MOST_LEVELS" 40, .int "MOST_STEPS" 12, .int "MOST_FUNCTIONS" 6, .int "MOST_SAID" 1000, .int "LEAST_BOUND" 1, .int "MOST_BOUND" 255, .cls "Kinds", .mkr "Kinds", .noat "Kinds" "_makers", .noat "Kinds" "_kinds", .noat "Kinds" "_parts", .noat "Kinds" "_least", .noat "Kinds" "names", .noat "Kinds" "order", .meth "Kinds" "makers", .meth "Kinds" "kind_of", .meth "Kinds" "parts", .meth "Kinds" "inner", .meth "Kinds" "_holding", .meth "Kinds" "fits", .meth "Kinds" "_tree_fits", .meth "Kinds" "_value_fits", .cls "TreeNode", .mkr "TreeNode", .noat "TreeNode" "maker", .noat "TreeNode" "prints", .noat "TreeNode" "_functions", .noat "TreeNode" "_values", .meth "TreeNode" "byte_of", .meth "TreeNode" "answer", .cls "Functions", .mkr "Functions", .noat "Functions" "kinds", .noat "Functions" "names", .noat "Functions" "_takes", .noat "Functions" "_folds", .noat "Functions" "_bodies", .meth "Functions" "takes", .meth "Functions" "fold", .meth "Functions" "body", .glo "FOLDS", .meth "BadFunctions" "__init__", .noat "BadFunctions" "row", .meth "NotThere" "__init__", .noat "NotThere" "name", .exc "BadTree", .exm "BadTree" "GroveError" true, .exm "NotThere" "GroveError" true]
def exs (K : PySem.W.Frag) : Bool := giB K (He.ga K "GroveError") && exB K (He.ga K "BadFunctions") && exB K (He.ga K "BadTree") && exB K (He.ga K "NotThere") && decide (PySem.W.kitOne K (.ref (He.ga K "BadTree")) (.ref (He.ga K "NotThere")) = some false) && decide (PySem.W.kitOne K (.ref (He.ga K "NotThere")) (.ref (He.ga K "BadTree")) = some false) && He.tupB K "FOLDS" [.str "sum", .str "max"]
structure Tx (K : PySem.W.Frag) (mg : Str → Option Value) : Prop where
  c : He.SaysD fa fn K
  e : exs K = true
  c2 : He5.SaysA [] fn2 K
  hh : ∃ h : Heap, K.In h ∧ h.Ns mainGlobals mg
theorem Tx.use {K : PySem.W.Frag} {mg : Str → Option Value} {A : Prop} (T : Tx K mg) (f : ∀ h : Heap, K.In h → h.Ns mainGlobals mg → A) : A := let ⟨h, a, b⟩ := T.hh; f h a b
namespace Tx
variable {K : PySem.W.Frag} {mg : Str → Option Value} (T : Tx K mg)
include T
theorem g_is_name : mg "is_name" = some (.ref (He.ga K "is_name")) := T.use fun _ X G => He.glo_ok X G (T.c.fact 0 (f := .glo "is_name") rfl)
theorem g_is_kind_name : mg "is_kind_name" = some (.ref (He.ga K "is_kind_name")) := T.use fun _ X G => He.glo_ok X G (T.c.fact 1 (f := .glo "is_kind_name") rfl)
theorem g_is_number : mg "is_number" = some (.ref (He.ga K "is_number")) := T.use fun _ X G => He.glo_ok X G (T.c.fact 2 (f := .glo "is_number") rfl)
theorem g_is_part : mg "is_part" = some (.ref (He.ga K "is_part")) := T.use fun _ X G => He.glo_ok X G (T.c.fact 3 (f := .glo "is_part") rfl)
theorem g_are_parts : mg "are_parts" = some (.ref (He.ga K "are_parts")) := T.use fun _ X G => He.glo_ok X G (T.c.fact 4 (f := .glo "are_parts") rfl)
theorem g_check_each_row_kinds : mg "check_each_row_kinds" = some (.ref (He.ga K "check_each_row_kinds")) := T.use fun _ X G => He.glo_ok X G (T.c.fact 5 (f := .glo "check_each_row_kinds") rfl)
theorem g_check_inner_kinds : mg "check_inner_kinds" = some (.ref (He.ga K "check_inner_kinds")) := T.use fun _ X G => He.glo_ok X G (T.c.fact 6 (f := .glo "check_inner_kinds") rfl)
theorem g_check_finite : mg "check_finite" = some (.ref (He.ga K "check_finite")) := T.use fun _ X G => He.glo_ok X G (T.c.fact 7 (f := .glo "check_finite") rfl)
theorem g_makers_by_kind : mg "makers_by_kind" = some (.ref (He.ga K "makers_by_kind")) := T.use fun _ X G => He.glo_ok X G (T.c.fact 8 (f := .glo "makers_by_kind") rfl)
theorem g_holdings : mg "holdings" = some (.ref (He.ga K "holdings")) := T.use fun _ X G => He.glo_ok X G (T.c.fact 9 (f := .glo "holdings") rfl)
theorem g_least_node : mg "least_node" = some (.ref (He.ga K "least_node")) := T.use fun _ X G => He.glo_ok X G (T.c.fact 10 (f := .glo "least_node") rfl)
theorem g_least_trees : mg "least_trees" = some (.ref (He.ga K "least_trees")) := T.use fun _ X G => He.glo_ok X G (T.c.fact 11 (f := .glo "least_trees") rfl)
theorem g_folded : mg "folded" = some (.ref (He.ga K "folded")) := T.use fun _ X G => He.glo_ok X G (T.c.fact 12 (f := .glo "folded") rfl)
theorem g_answer_of : mg "answer_of" = some (.ref (He.ga K "answer_of")) := T.use fun _ X G => He.glo_ok X G (T.c.fact 13 (f := .glo "answer_of") rfl)
theorem g_run_tree : mg "run_tree" = some (.ref (He.ga K "run_tree")) := T.use fun _ X G => He.glo_ok X G (T.c.fact 14 (f := .glo "run_tree") rfl)
theorem g_asks_byte : mg "asks_byte" = some (.ref (He.ga K "asks_byte")) := T.use fun _ X G => He.glo_ok X G (T.c.fact 15 (f := .glo "asks_byte") rfl)
theorem g_asks_tree : mg "asks_tree" = some (.ref (He.ga K "asks_tree")) := T.use fun _ X G => He.glo_ok X G (T.c.fact 16 (f := .glo "asks_tree") rfl)
theorem g_is_step : mg "is_step" = some (.ref (He.ga K "is_step")) := T.use fun _ X G => He.glo_ok X G (T.c.fact 17 (f := .glo "is_step") rfl)
theorem g_is_branch : mg "is_branch" = some (.ref (He.ga K "is_branch")) := T.use fun _ X G => He.glo_ok X G (T.c.fact 18 (f := .glo "is_branch") rfl)
theorem g_is_body : mg "is_body" = some (.ref (He.ga K "is_body")) := T.use fun _ X G => He.glo_ok X G (T.c.fact 19 (f := .glo "is_body") rfl)
theorem g_are_bodies : mg "are_bodies" = some (.ref (He.ga K "are_bodies")) := T.use fun _ X G => He.glo_ok X G (T.c.fact 20 (f := .glo "are_bodies") rfl)
theorem g_check_each_row_bodies : mg "check_each_row_bodies" = some (.ref (He.ga K "check_each_row_bodies")) := T.use fun _ X G => He.glo_ok X G (T.c.fact 21 (f := .glo "check_each_row_bodies") rfl)
theorem g_check_called : mg "check_called" = some (.ref (He.ga K "check_called")) := T.use fun _ X G => He.glo_ok X G (T.c.fact 22 (f := .glo "check_called") rfl)
theorem g_paths_of : mg "paths_of" = some (.ref (He.ga K "paths_of")) := T.use fun _ X G => He.glo_ok X G (T.c.fact 23 (f := .glo "paths_of") rfl)
theorem g_asked_parts : mg "asked_parts" = some (.ref (He.ga K "asked_parts")) := T.use fun _ X G => He.glo_ok X G (T.c.fact 24 (f := .glo "asked_parts") rfl)
theorem g_law_take : mg "_law_take" = some (.ref (He.ga K "_law_take")) := T.use fun _ X G => He.glo_ok X G (T.c.fact 25 (f := .glo "_law_take") rfl)
theorem g_law_pool : mg "_law_pool" = some (.ref (He.ga K "_law_pool")) := T.use fun _ X G => He.glo_ok X G (T.c.fact 26 (f := .glo "_law_pool") rfl)
theorem g_law_name : mg "_law_name" = some (.ref (He.ga K "_law_name")) := T.use fun _ X G => He.glo_ok X G (T.c.fact 27 (f := .glo "_law_name") rfl)
theorem g_law_parts : mg "_law_parts" = some (.ref (He.ga K "_law_parts")) := T.use fun _ X G => He.glo_ok X G (T.c.fact 28 (f := .glo "_law_parts") rfl)
theorem g_law_rows : mg "_law_rows" = some (.ref (He.ga K "_law_rows")) := T.use fun _ X G => He.glo_ok X G (T.c.fact 29 (f := .glo "_law_rows") rfl)
theorem g_law_shuffle : mg "_law_shuffle" = some (.ref (He.ga K "_law_shuffle")) := T.use fun _ X G => He.glo_ok X G (T.c.fact 30 (f := .glo "_law_shuffle") rfl)
theorem g_law_hidden : mg "_law_hidden" = some (.ref (He.ga K "_law_hidden")) := T.use fun _ X G => He.glo_ok X G (T.c.fact 31 (f := .glo "_law_hidden") rfl)
theorem g_law_body : mg "_law_body" = some (.ref (He.ga K "_law_body")) := T.use fun _ X G => He.glo_ok X G (T.c.fact 32 (f := .glo "_law_body") rfl)
theorem g_law_functions : mg "_law_functions" = some (.ref (He.ga K "_law_functions")) := T.use fun _ X G => He.glo_ok X G (T.c.fact 33 (f := .glo "_law_functions") rfl)
theorem g_law_base : mg "_law_base" = some (.ref (He.ga K "_law_base")) := T.use fun _ X G => He.glo_ok X G (T.c.fact 34 (f := .glo "_law_base") rfl)
theorem g_law_tree : mg "_law_tree" = some (.ref (He.ga K "_law_tree")) := T.use fun _ X G => He.glo_ok X G (T.c.fact 35 (f := .glo "_law_tree") rfl)
theorem g_law_steps : mg "_law_steps" = some (.ref (He.ga K "_law_steps")) := T.use fun _ X G => He.glo_ok X G (T.c.fact 36 (f := .glo "_law_steps") rfl)
theorem g_law_fold : mg "_law_fold" = some (.ref (He.ga K "_law_fold")) := T.use fun _ X G => He.glo_ok X G (T.c.fact 37 (f := .glo "_law_fold") rfl)
theorem g_law_eval : mg "_law_eval" = some (.ref (He.ga K "_law_eval")) := T.use fun _ X G => He.glo_ok X G (T.c.fact 38 (f := .glo "_law_eval") rfl)
theorem g_law_int : mg "_law_int" = some (.ref (He.ga K "_law_int")) := T.use fun _ X G => He.glo_ok X G (T.c.fact 39 (f := .glo "_law_int") rfl)
theorem g_law_ints : mg "_law_ints" = some (.ref (He.ga K "_law_ints")) := T.use fun _ X G => He.glo_ok X G (T.c.fact 40 (f := .glo "_law_ints") rfl)
theorem g_law_refused : mg "_law_refused" = some (.ref (He.ga K "_law_refused")) := T.use fun _ X G => He.glo_ok X G (T.c.fact 41 (f := .glo "_law_refused") rfl)
theorem g_law_right : mg "_law_right" = some (.ref (He.ga K "_law_right")) := T.use fun _ X G => He.glo_ok X G (T.c.fact 42 (f := .glo "_law_right") rfl)
theorem g_law : mg "law" = some (.ref (He.ga K "law")) := T.use fun _ X G => He.glo_ok X G (T.c.fact 43 (f := .glo "law") rfl)
theorem g_GroveError : mg "GroveError" = some (.ref (He.ga K "GroveError")) := T.use fun _ X G => He.glo_ok X G (T.c.fact 44 (f := .glo "GroveError") rfl)
theorem g_BadFunctions : mg "BadFunctions" = some (.ref (He.ga K "BadFunctions")) := T.use fun _ X G => He.glo_ok X G (T.c.fact 45 (f := .glo "BadFunctions") rfl)
theorem g_BadTree : mg "BadTree" = some (.ref (He.ga K "BadTree")) := T.use fun _ X G => He.glo_ok X G (T.c.fact 46 (f := .glo "BadTree") rfl)
theorem g_NotThere : mg "NotThere" = some (.ref (He.ga K "NotThere")) := T.use fun _ X G => He.glo_ok X G (T.c.fact 47 (f := .glo "NotThere") rfl)
theorem g_Kinds : mg "Kinds" = some (.ref (He.ga K "Kinds")) := T.use fun _ X G => He.glo_ok X G (T.c.fact 48 (f := .glo "Kinds") rfl)
theorem g_TreeNode : mg "TreeNode" = some (.ref (He.ga K "TreeNode")) := T.use fun _ X G => He.glo_ok X G (T.c.fact 49 (f := .glo "TreeNode") rfl)
theorem g_Functions : mg "Functions" = some (.ref (He.ga K "Functions")) := T.use fun _ X G => He.glo_ok X G (T.c.fact 50 (f := .glo "Functions") rfl)
theorem k_is_name : PySem.W.keepIn K (.ref (He.ga K "is_name")) = true := He.keep_ok (T.c.fact 51 (f := .keep "is_name") rfl)
theorem k_is_kind_name : PySem.W.keepIn K (.ref (He.ga K "is_kind_name")) = true := He.keep_ok (T.c.fact 52 (f := .keep "is_kind_name") rfl)
theorem k_is_number : PySem.W.keepIn K (.ref (He.ga K "is_number")) = true := He.keep_ok (T.c.fact 53 (f := .keep "is_number") rfl)
theorem k_is_part : PySem.W.keepIn K (.ref (He.ga K "is_part")) = true := He.keep_ok (T.c.fact 54 (f := .keep "is_part") rfl)
theorem k_are_parts : PySem.W.keepIn K (.ref (He.ga K "are_parts")) = true := He.keep_ok (T.c.fact 55 (f := .keep "are_parts") rfl)
theorem k_check_each_row_kinds : PySem.W.keepIn K (.ref (He.ga K "check_each_row_kinds")) = true := He.keep_ok (T.c.fact 56 (f := .keep "check_each_row_kinds") rfl)
theorem k_check_inner_kinds : PySem.W.keepIn K (.ref (He.ga K "check_inner_kinds")) = true := He.keep_ok (T.c.fact 57 (f := .keep "check_inner_kinds") rfl)
theorem k_check_finite : PySem.W.keepIn K (.ref (He.ga K "check_finite")) = true := He.keep_ok (T.c.fact 58 (f := .keep "check_finite") rfl)
theorem k_makers_by_kind : PySem.W.keepIn K (.ref (He.ga K "makers_by_kind")) = true := He.keep_ok (T.c.fact 59 (f := .keep "makers_by_kind") rfl)
theorem k_holdings : PySem.W.keepIn K (.ref (He.ga K "holdings")) = true := He.keep_ok (T.c.fact 60 (f := .keep "holdings") rfl)
theorem k_least_node : PySem.W.keepIn K (.ref (He.ga K "least_node")) = true := He.keep_ok (T.c.fact 61 (f := .keep "least_node") rfl)
theorem k_least_trees : PySem.W.keepIn K (.ref (He.ga K "least_trees")) = true := He.keep_ok (T.c.fact 62 (f := .keep "least_trees") rfl)
theorem k_folded : PySem.W.keepIn K (.ref (He.ga K "folded")) = true := He.keep_ok (T.c.fact 63 (f := .keep "folded") rfl)
theorem k_answer_of : PySem.W.keepIn K (.ref (He.ga K "answer_of")) = true := He.keep_ok (T.c.fact 64 (f := .keep "answer_of") rfl)
theorem k_run_tree : PySem.W.keepIn K (.ref (He.ga K "run_tree")) = true := He.keep_ok (T.c.fact 65 (f := .keep "run_tree") rfl)
theorem k_asks_byte : PySem.W.keepIn K (.ref (He.ga K "asks_byte")) = true := He.keep_ok (T.c.fact 66 (f := .keep "asks_byte") rfl)
theorem k_asks_tree : PySem.W.keepIn K (.ref (He.ga K "asks_tree")) = true := He.keep_ok (T.c.fact 67 (f := .keep "asks_tree") rfl)
theorem k_is_step : PySem.W.keepIn K (.ref (He.ga K "is_step")) = true := He.keep_ok (T.c.fact 68 (f := .keep "is_step") rfl)
theorem k_is_branch : PySem.W.keepIn K (.ref (He.ga K "is_branch")) = true := He.keep_ok (T.c.fact 69 (f := .keep "is_branch") rfl)
theorem k_is_body : PySem.W.keepIn K (.ref (He.ga K "is_body")) = true := He.keep_ok (T.c.fact 70 (f := .keep "is_body") rfl)
theorem k_are_bodies : PySem.W.keepIn K (.ref (He.ga K "are_bodies")) = true := He.keep_ok (T.c.fact 71 (f := .keep "are_bodies") rfl)
theorem k_check_each_row_bodies : PySem.W.keepIn K (.ref (He.ga K "check_each_row_bodies")) = true := He.keep_ok (T.c.fact 72 (f := .keep "check_each_row_bodies") rfl)
theorem k_check_called : PySem.W.keepIn K (.ref (He.ga K "check_called")) = true := He.keep_ok (T.c.fact 73 (f := .keep "check_called") rfl)
theorem k_paths_of : PySem.W.keepIn K (.ref (He.ga K "paths_of")) = true := He.keep_ok (T.c.fact 74 (f := .keep "paths_of") rfl)
theorem k_asked_parts : PySem.W.keepIn K (.ref (He.ga K "asked_parts")) = true := He.keep_ok (T.c.fact 75 (f := .keep "asked_parts") rfl)
theorem k_law_take : PySem.W.keepIn K (.ref (He.ga K "_law_take")) = true := He.keep_ok (T.c.fact 76 (f := .keep "_law_take") rfl)
theorem k_law_pool : PySem.W.keepIn K (.ref (He.ga K "_law_pool")) = true := He.keep_ok (T.c.fact 77 (f := .keep "_law_pool") rfl)
theorem k_law_name : PySem.W.keepIn K (.ref (He.ga K "_law_name")) = true := He.keep_ok (T.c.fact 78 (f := .keep "_law_name") rfl)
theorem k_law_parts : PySem.W.keepIn K (.ref (He.ga K "_law_parts")) = true := He.keep_ok (T.c.fact 79 (f := .keep "_law_parts") rfl)
theorem k_law_rows : PySem.W.keepIn K (.ref (He.ga K "_law_rows")) = true := He.keep_ok (T.c.fact 80 (f := .keep "_law_rows") rfl)
theorem k_law_shuffle : PySem.W.keepIn K (.ref (He.ga K "_law_shuffle")) = true := He.keep_ok (T.c.fact 81 (f := .keep "_law_shuffle") rfl)
theorem k_law_hidden : PySem.W.keepIn K (.ref (He.ga K "_law_hidden")) = true := He.keep_ok (T.c.fact 82 (f := .keep "_law_hidden") rfl)
theorem k_law_body : PySem.W.keepIn K (.ref (He.ga K "_law_body")) = true := He.keep_ok (T.c.fact 83 (f := .keep "_law_body") rfl)
theorem k_law_functions : PySem.W.keepIn K (.ref (He.ga K "_law_functions")) = true := He.keep_ok (T.c.fact 84 (f := .keep "_law_functions") rfl)
theorem k_law_base : PySem.W.keepIn K (.ref (He.ga K "_law_base")) = true := He.keep_ok (T.c.fact 85 (f := .keep "_law_base") rfl)
theorem k_law_tree : PySem.W.keepIn K (.ref (He.ga K "_law_tree")) = true := He.keep_ok (T.c.fact 86 (f := .keep "_law_tree") rfl)
theorem k_law_steps : PySem.W.keepIn K (.ref (He.ga K "_law_steps")) = true := He.keep_ok (T.c.fact 87 (f := .keep "_law_steps") rfl)
theorem k_law_fold : PySem.W.keepIn K (.ref (He.ga K "_law_fold")) = true := He.keep_ok (T.c.fact 88 (f := .keep "_law_fold") rfl)
theorem k_law_eval : PySem.W.keepIn K (.ref (He.ga K "_law_eval")) = true := He.keep_ok (T.c.fact 89 (f := .keep "_law_eval") rfl)
theorem k_law_int : PySem.W.keepIn K (.ref (He.ga K "_law_int")) = true := He.keep_ok (T.c.fact 90 (f := .keep "_law_int") rfl)
theorem k_law_ints : PySem.W.keepIn K (.ref (He.ga K "_law_ints")) = true := He.keep_ok (T.c.fact 91 (f := .keep "_law_ints") rfl)
theorem k_law_refused : PySem.W.keepIn K (.ref (He.ga K "_law_refused")) = true := He.keep_ok (T.c.fact 92 (f := .keep "_law_refused") rfl)
theorem k_law_right : PySem.W.keepIn K (.ref (He.ga K "_law_right")) = true := He.keep_ok (T.c.fact 93 (f := .keep "_law_right") rfl)
theorem n_bool : mg "bool" = none := T.use fun _ X G => He.free_ok X G (T.c.fact 94 (f := .free "bool") rfl)
theorem n_dict : mg "dict" = none := T.use fun _ X G => He.free_ok X G (T.c.fact 95 (f := .free "dict") rfl)
theorem n_enumerate : mg "enumerate" = none := T.use fun _ X G => He.free_ok X G (T.c.fact 96 (f := .free "enumerate") rfl)
theorem n_int : mg "int" = none := T.use fun _ X G => He.free_ok X G (T.c.fact 97 (f := .free "int") rfl)
theorem n_isinstance : mg "isinstance" = none := T.use fun _ X G => He.free_ok X G (T.c.fact 98 (f := .free "isinstance") rfl)
theorem n_len : mg "len" = none := T.use fun _ X G => He.free_ok X G (T.c.fact 99 (f := .free "len") rfl)
theorem n_list : mg "list" = none := T.use fun _ X G => He.free_ok X G (T.c.fact 100 (f := .free "list") rfl)
theorem n_max : mg "max" = none := T.use fun _ X G => He.free_ok X G (T.c.fact 101 (f := .free "max") rfl)
theorem n_range : mg "range" = none := T.use fun _ X G => He.free_ok X G (T.c.fact 102 (f := .free "range") rfl)
theorem n_str : mg "str" = none := T.use fun _ X G => He.free_ok X G (T.c.fact 103 (f := .free "str") rfl)
theorem n_sum : mg "sum" = none := T.use fun _ X G => He.free_ok X G (T.c.fact 104 (f := .free "sum") rfl)
theorem n_tuple : mg "tuple" = none := T.use fun _ X G => He.free_ok X G (T.c.fact 105 (f := .free "tuple") rfl)
theorem n_zip : mg "zip" = none := T.use fun _ X G => He.free_ok X G (T.c.fact 106 (f := .free "zip") rfl)
theorem c_BYTE : ∃ t, mg "BYTE" = some (.str "byte" t) := T.use fun _ X G => He.str_ok X G (T.c.fact 107 (f := .str "BYTE" "byte") rfl)
theorem c_MOST_LETTERS : ∃ t, mg "MOST_LETTERS" = some (.int 24 t) := T.use fun _ X G => He.int_ok X G (T.c.fact 108 (f := .int "MOST_LETTERS" 24) rfl)
theorem c_MOST_PARTS : ∃ t, mg "MOST_PARTS" = some (.int 4 t) := T.use fun _ X G => He.int_ok X G (T.c.fact 109 (f := .int "MOST_PARTS" 4) rfl)
theorem c_MOST_PRICE : ∃ t, mg "MOST_PRICE" = some (.int 1000 t) := T.use fun _ X G => He.int_ok X G (T.c.fact 110 (f := .int "MOST_PRICE" 1000) rfl)
theorem c_MOST_ROWS : ∃ t, mg "MOST_ROWS" = some (.int 12 t) := T.use fun _ X G => He.int_ok X G (T.c.fact 111 (f := .int "MOST_ROWS" 12) rfl)
theorem c_MOST_KINDS : ∃ t, mg "MOST_KINDS" = some (.int 4 t) := T.use fun _ X G => He.int_ok X G (T.c.fact 112 (f := .int "MOST_KINDS" 4) rfl)
theorem c_MOST_LEVELS : ∃ t, mg "MOST_LEVELS" = some (.int 40 t) := T.use fun _ X G => He.int_ok X G (T.c.fact 113 (f := .int "MOST_LEVELS" 40) rfl)
theorem c_MOST_STEPS : ∃ t, mg "MOST_STEPS" = some (.int 12 t) := T.use fun _ X G => He.int_ok X G (T.c.fact 114 (f := .int "MOST_STEPS" 12) rfl)
theorem c_MOST_FUNCTIONS : ∃ t, mg "MOST_FUNCTIONS" = some (.int 6 t) := T.use fun _ X G => He.int_ok X G (T.c.fact 115 (f := .int "MOST_FUNCTIONS" 6) rfl)
theorem c_MOST_SAID : ∃ t, mg "MOST_SAID" = some (.int 1000 t) := T.use fun _ X G => He.int_ok X G (T.c.fact 116 (f := .int "MOST_SAID" 1000) rfl)
theorem c_LEAST_BOUND : ∃ t, mg "LEAST_BOUND" = some (.int 1 t) := T.use fun _ X G => He.int_ok X G (T.c.fact 117 (f := .int "LEAST_BOUND" 1) rfl)
theorem c_MOST_BOUND : ∃ t, mg "MOST_BOUND" = some (.int 255 t) := T.use fun _ X G => He.int_ok X G (T.c.fact 118 (f := .int "MOST_BOUND" 255) rfl)
theorem cl_Kinds : Cls K (He.ga K "Kinds") := He.cls_ok (T.c.fact 119 (f := .cls "Kinds") rfl)
theorem mk_Kinds : Mk K (He.ga K "Kinds") (He.ma K (He.ga K "Kinds") "__init__") := He.mkr_ok (T.c.fact 120 (f := .mkr "Kinds") rfl)
theorem na_Kinds_makers_ : NoAttr K (He.ga K "Kinds") "_makers" := He.noat_ok (T.c.fact 121 (f := .noat "Kinds" "_makers") rfl)
theorem na_Kinds_kinds_ : NoAttr K (He.ga K "Kinds") "_kinds" := He.noat_ok (T.c.fact 122 (f := .noat "Kinds" "_kinds") rfl)
theorem na_Kinds_parts_ : NoAttr K (He.ga K "Kinds") "_parts" := He.noat_ok (T.c.fact 123 (f := .noat "Kinds" "_parts") rfl)
theorem na_Kinds_least_ : NoAttr K (He.ga K "Kinds") "_least" := He.noat_ok (T.c.fact 124 (f := .noat "Kinds" "_least") rfl)
theorem na_Kinds_names : NoAttr K (He.ga K "Kinds") "names" := He.noat_ok (T.c.fact 125 (f := .noat "Kinds" "names") rfl)
theorem na_Kinds_order : NoAttr K (He.ga K "Kinds") "order" := He.noat_ok (T.c.fact 126 (f := .noat "Kinds" "order") rfl)
theorem m_Kinds_makers : Meth K (He.ga K "Kinds") "makers" (He.ma K (He.ga K "Kinds") "makers") := He.meth_ok (T.c.fact 127 (f := .meth "Kinds" "makers") rfl)
theorem m_Kinds_kind_of : Meth K (He.ga K "Kinds") "kind_of" (He.ma K (He.ga K "Kinds") "kind_of") := He.meth_ok (T.c.fact 128 (f := .meth "Kinds" "kind_of") rfl)
theorem m_Kinds_parts : Meth K (He.ga K "Kinds") "parts" (He.ma K (He.ga K "Kinds") "parts") := He.meth_ok (T.c.fact 129 (f := .meth "Kinds" "parts") rfl)
theorem m_Kinds_inner : Meth K (He.ga K "Kinds") "inner" (He.ma K (He.ga K "Kinds") "inner") := He.meth_ok (T.c.fact 130 (f := .meth "Kinds" "inner") rfl)
theorem m_Kinds_holding : Meth K (He.ga K "Kinds") "_holding" (He.ma K (He.ga K "Kinds") "_holding") := He.meth_ok (T.c.fact 131 (f := .meth "Kinds" "_holding") rfl)
theorem m_Kinds_fits : Meth K (He.ga K "Kinds") "fits" (He.ma K (He.ga K "Kinds") "fits") := He.meth_ok (T.c.fact 132 (f := .meth "Kinds" "fits") rfl)
theorem m_Kinds_tree_fits : Meth K (He.ga K "Kinds") "_tree_fits" (He.ma K (He.ga K "Kinds") "_tree_fits") := He.meth_ok (T.c.fact 133 (f := .meth "Kinds" "_tree_fits") rfl)
theorem m_Kinds_value_fits : Meth K (He.ga K "Kinds") "_value_fits" (He.ma K (He.ga K "Kinds") "_value_fits") := He.meth_ok (T.c.fact 134 (f := .meth "Kinds" "_value_fits") rfl)
theorem cl_TreeNode : Cls K (He.ga K "TreeNode") := He.cls_ok (T.c.fact 135 (f := .cls "TreeNode") rfl)
theorem mk_TreeNode : Mk K (He.ga K "TreeNode") (He.ma K (He.ga K "TreeNode") "__init__") := He.mkr_ok (T.c.fact 136 (f := .mkr "TreeNode") rfl)
theorem na_TreeNode_maker : NoAttr K (He.ga K "TreeNode") "maker" := He.noat_ok (T.c.fact 137 (f := .noat "TreeNode" "maker") rfl)
theorem na_TreeNode_prints : NoAttr K (He.ga K "TreeNode") "prints" := He.noat_ok (T.c.fact 138 (f := .noat "TreeNode" "prints") rfl)
theorem na_TreeNode_functions_ : NoAttr K (He.ga K "TreeNode") "_functions" := He.noat_ok (T.c.fact 139 (f := .noat "TreeNode" "_functions") rfl)
theorem na_TreeNode_values_ : NoAttr K (He.ga K "TreeNode") "_values" := He.noat_ok (T.c.fact 140 (f := .noat "TreeNode" "_values") rfl)
theorem m_TreeNode_byte_of : Meth K (He.ga K "TreeNode") "byte_of" (He.ma K (He.ga K "TreeNode") "byte_of") := He.meth_ok (T.c.fact 141 (f := .meth "TreeNode" "byte_of") rfl)
theorem m_TreeNode_answer : Meth K (He.ga K "TreeNode") "answer" (He.ma K (He.ga K "TreeNode") "answer") := He.meth_ok (T.c.fact 142 (f := .meth "TreeNode" "answer") rfl)
theorem cl_Functions : Cls K (He.ga K "Functions") := He.cls_ok (T.c.fact 143 (f := .cls "Functions") rfl)
theorem mk_Functions : Mk K (He.ga K "Functions") (He.ma K (He.ga K "Functions") "__init__") := He.mkr_ok (T.c.fact 144 (f := .mkr "Functions") rfl)
theorem na_Functions_kinds : NoAttr K (He.ga K "Functions") "kinds" := He.noat_ok (T.c.fact 145 (f := .noat "Functions" "kinds") rfl)
theorem na_Functions_names : NoAttr K (He.ga K "Functions") "names" := He.noat_ok (T.c.fact 146 (f := .noat "Functions" "names") rfl)
theorem na_Functions_takes_ : NoAttr K (He.ga K "Functions") "_takes" := He.noat_ok (T.c.fact 147 (f := .noat "Functions" "_takes") rfl)
theorem na_Functions_folds_ : NoAttr K (He.ga K "Functions") "_folds" := He.noat_ok (T.c.fact 148 (f := .noat "Functions" "_folds") rfl)
theorem na_Functions_bodies_ : NoAttr K (He.ga K "Functions") "_bodies" := He.noat_ok (T.c.fact 149 (f := .noat "Functions" "_bodies") rfl)
theorem m_Functions_takes : Meth K (He.ga K "Functions") "takes" (He.ma K (He.ga K "Functions") "takes") := He.meth_ok (T.c.fact 150 (f := .meth "Functions" "takes") rfl)
theorem m_Functions_fold : Meth K (He.ga K "Functions") "fold" (He.ma K (He.ga K "Functions") "fold") := He.meth_ok (T.c.fact 151 (f := .meth "Functions" "fold") rfl)
theorem m_Functions_body : Meth K (He.ga K "Functions") "body" (He.ma K (He.ga K "Functions") "body") := He.meth_ok (T.c.fact 152 (f := .meth "Functions" "body") rfl)
theorem g_FOLDS : mg "FOLDS" = some (.ref (He.ga K "FOLDS")) := T.use fun _ X G => He.glo_ok X G (T.c.fact 153 (f := .glo "FOLDS") rfl)
theorem m_BadFunctions_init : Meth K (He.ga K "BadFunctions") "__init__" (He.ma K (He.ga K "BadFunctions") "__init__") := He.meth_ok (T.c.fact 154 (f := .meth "BadFunctions" "__init__") rfl)
theorem na_BadFunctions_row : NoAttr K (He.ga K "BadFunctions") "row" := He.noat_ok (T.c.fact 155 (f := .noat "BadFunctions" "row") rfl)
theorem m_NotThere_init : Meth K (He.ga K "NotThere") "__init__" (He.ma K (He.ga K "NotThere") "__init__") := He.meth_ok (T.c.fact 156 (f := .meth "NotThere" "__init__") rfl)
theorem na_NotThere_name : NoAttr K (He.ga K "NotThere") "name" := He.noat_ok (T.c.fact 157 (f := .noat "NotThere" "name") rfl)
theorem o_BadTree : PySem.W.excIn K (He.ga K "BadTree") He.veBase "ValueError.__new__" = true ∧ PySem.W.keepIn K (.ref (He.ga K "BadTree")) = true ∧ PySem.W.subIn K (.ref (He.ga K "BadTree")) (.type "BaseException") = some true ∧ PySem.W.typeIn K (.ref (He.ga K "BadTree")) = some (.type "type") := He.exc_ok (T.c.fact 158 (f := .exc "BadTree") rfl)
theorem e_BadTree_GroveError : PySem.W.exmOne K (.ref (He.ga K "BadTree")) (.ref (He.ga K "GroveError")) = some true := He.exm_ok (T.c.fact 159 (f := .exm "BadTree" "GroveError" true) rfl)
theorem e_NotThere_GroveError : PySem.W.exmOne K (.ref (He.ga K "NotThere")) (.ref (He.ga K "GroveError")) = some true := He.exm_ok (T.c.fact 160 (f := .exm "NotThere" "GroveError" true) rfl)
theorem gi : GiT K (He.ga K "GroveError") := giB_ok ((He.ba ((He.ba (He.ba (He.ba (He.ba (He.ba T.e).1).1).1).1).1)).1)
theorem x_BadFunctions : ExT K (He.ga K "BadFunctions") := exB_ok ((He.ba ((He.ba (He.ba (He.ba (He.ba (He.ba T.e).1).1).1).1).1)).2)
theorem x_BadTree : ExT K (He.ga K "BadTree") := exB_ok ((He.ba ((He.ba (He.ba (He.ba (He.ba T.e).1).1).1).1)).2)
theorem x_NotThere : ExT K (He.ga K "NotThere") := exB_ok ((He.ba ((He.ba (He.ba (He.ba T.e).1).1).1)).2)
theorem kit_BadTree_NotThere : PySem.W.kitOne K (.ref (He.ga K "BadTree")) (.ref (He.ga K "NotThere")) = some false := of_decide_eq_true ((He.ba ((He.ba (He.ba T.e).1).1)).2)
theorem kit_NotThere_BadTree : PySem.W.kitOne K (.ref (He.ga K "NotThere")) (.ref (He.ga K "BadTree")) = some false := of_decide_eq_true ((He.ba ((He.ba T.e).1)).2)
theorem t_FOLDS : He.tupB K "FOLDS" [.str "sum", .str "max"] = true := (He.ba T.e).2
theorem F_BadFunctions_init : ∃ fd, FnP K ("BadFunctions", some "__init__") "__init__" "BadFunctions.__init__" s_BadFunctions_init fd := T.c.def_ 0 (d := d_BadFunctions_init) rfl
theorem F_NotThere_init : ∃ fd, FnP K ("NotThere", some "__init__") "__init__" "NotThere.__init__" s_NotThere_init fd := T.c.def_ 1 (d := d_NotThere_init) rfl
theorem F_is_name : ∃ fd, FnP K ("is_name", none) "is_name" "is_name" s_is_name fd := T.c.def_ 2 (d := d_is_name) rfl
theorem F_is_kind_name : ∃ fd, FnP K ("is_kind_name", none) "is_kind_name" "is_kind_name" s_is_kind_name fd := T.c.def_ 3 (d := d_is_kind_name) rfl
theorem F_is_number : ∃ fd, FnP K ("is_number", none) "is_number" "is_number" s_is_number fd := T.c.def_ 4 (d := d_is_number) rfl
theorem F_is_part : ∃ fd, FnP K ("is_part", none) "is_part" "is_part" s_is_part fd := T.c.def_ 5 (d := d_is_part) rfl
theorem F_are_parts : ∃ fd, FnP K ("are_parts", none) "are_parts" "are_parts" s_are_parts fd := T.c.def_ 6 (d := d_are_parts) rfl
theorem F_check_each_row_kinds : ∃ fd, FnP K ("check_each_row_kinds", none) "check_each_row" "check_each_row" s_check_each_row_kinds fd := T.c.def_ 7 (d := d_check_each_row_kinds) rfl
theorem F_check_inner_kinds : ∃ fd, FnP K ("check_inner_kinds", none) "check_inner_kinds" "check_inner_kinds" s_check_inner_kinds fd := T.c.def_ 8 (d := d_check_inner_kinds) rfl
theorem F_check_finite : ∃ fd, FnP K ("check_finite", none) "check_finite" "check_finite" s_check_finite fd := T.c.def_ 9 (d := d_check_finite) rfl
theorem F_makers_by_kind : ∃ fd, FnP K ("makers_by_kind", none) "makers_by_kind" "makers_by_kind" s_makers_by_kind fd := T.c.def_ 10 (d := d_makers_by_kind) rfl
theorem F_holdings : ∃ fd, FnP K ("holdings", none) "holdings" "holdings" s_holdings fd := T.c.def_ 11 (d := d_holdings) rfl
theorem F_least_node : ∃ fd, FnP K ("least_node", none) "least_node" "least_node" s_least_node fd := T.c.def_ 12 (d := d_least_node) rfl
theorem F_least_trees : ∃ fd, FnP K ("least_trees", none) "least_trees" "least_trees" s_least_trees fd := T.c.def_ 13 (d := d_least_trees) rfl
theorem F_Kinds_init : ∃ fd, FnP K ("Kinds", some "__init__") "__init__" "Kinds.__init__" s_Kinds_init fd := T.c.def_ 14 (d := d_Kinds_init) rfl
theorem F_Kinds_makers : ∃ fd, FnP K ("Kinds", some "makers") "makers" "Kinds.makers" s_Kinds_makers fd := T.c.def_ 15 (d := d_Kinds_makers) rfl
theorem F_Kinds_kind_of : ∃ fd, FnP K ("Kinds", some "kind_of") "kind_of" "Kinds.kind_of" s_Kinds_kind_of fd := T.c.def_ 16 (d := d_Kinds_kind_of) rfl
theorem F_Kinds_parts : ∃ fd, FnP K ("Kinds", some "parts") "parts" "Kinds.parts" s_Kinds_parts fd := T.c.def_ 17 (d := d_Kinds_parts) rfl
theorem F_Kinds_inner : ∃ fd, FnP K ("Kinds", some "inner") "inner" "Kinds.inner" s_Kinds_inner fd := T.c.def_ 18 (d := d_Kinds_inner) rfl
theorem F_Kinds_holding : ∃ fd, FnP K ("Kinds", some "_holding") "_holding" "Kinds._holding" s_Kinds_holding fd := T.c.def_ 19 (d := d_Kinds_holding) rfl
theorem F_Kinds_fits : ∃ fd, FnP K ("Kinds", some "fits") "fits" "Kinds.fits" s_Kinds_fits fd := T.c.def_ 20 (d := d_Kinds_fits) rfl
theorem F_Kinds_tree_fits : ∃ fd, FnP K ("Kinds", some "_tree_fits") "_tree_fits" "Kinds._tree_fits" s_Kinds_tree_fits fd := T.c.def_ 21 (d := d_Kinds_tree_fits) rfl
theorem F_Kinds_value_fits : ∃ fd, FnP K ("Kinds", some "_value_fits") "_value_fits" "Kinds._value_fits" s_Kinds_value_fits fd := T.c.def_ 22 (d := d_Kinds_value_fits) rfl
theorem F_folded : ∃ fd, FnP K ("folded", none) "folded" "folded" s_folded fd := T.c.def_ 23 (d := d_folded) rfl
theorem F_answer_of : ∃ fd, FnP K ("answer_of", none) "answer_of" "answer_of" s_answer_of fd := T.c.def_ 24 (d := d_answer_of) rfl
theorem F_TreeNode_init : ∃ fd, FnP K ("TreeNode", some "__init__") "__init__" "TreeNode.__init__" s_TreeNode_init fd := T.c.def_ 25 (d := d_TreeNode_init) rfl
theorem F_TreeNode_byte_of : ∃ fd, FnP K ("TreeNode", some "byte_of") "byte_of" "TreeNode.byte_of" s_TreeNode_byte_of fd := T.c.def_ 26 (d := d_TreeNode_byte_of) rfl
theorem F_TreeNode_answer : ∃ fd, FnP K ("TreeNode", some "answer") "answer" "TreeNode.answer" s_TreeNode_answer fd := T.c.def_ 27 (d := d_TreeNode_answer) rfl
theorem F_run_tree : ∃ fd, FnP K ("run_tree", none) "run_tree" "run_tree" s_run_tree fd := T.c.def_ 28 (d := d_run_tree) rfl
theorem F_asks_byte : ∃ fd, FnP K ("asks_byte", none) "asks_byte" "asks_byte" s_asks_byte fd := T.c.def_ 29 (d := d_asks_byte) rfl
theorem F_asks_tree : ∃ fd, FnP K ("asks_tree", none) "asks_tree" "asks_tree" s_asks_tree fd := T.c.def_ 30 (d := d_asks_tree) rfl
theorem F_is_step : ∃ fd, FnP K ("is_step", none) "is_step" "is_step" s_is_step fd := T.c.def_ 31 (d := d_is_step) rfl
theorem F_is_branch : ∃ fd, FnP K ("is_branch", none) "is_branch" "is_branch" s_is_branch fd := T.c.def_ 32 (d := d_is_branch) rfl
theorem F_is_body : ∃ fd, FnP K ("is_body", none) "is_body" "is_body" s_is_body fd := T.c.def_ 33 (d := d_is_body) rfl
theorem F_are_bodies : ∃ fd, FnP K ("are_bodies", none) "are_bodies" "are_bodies" s_are_bodies fd := T.c.def_ 34 (d := d_are_bodies) rfl
theorem F_check_each_row_bodies : ∃ fd, FnP K ("check_each_row_bodies", none) "check_each_row" "check_each_row" s_check_each_row_bodies fd := T.c.def_ 35 (d := d_check_each_row_bodies) rfl
theorem F_check_called : ∃ fd, FnP K ("check_called", none) "check_called" "check_called" s_check_called fd := T.c.def_ 36 (d := d_check_called) rfl
theorem F_paths_of : ∃ fd, FnP K ("paths_of", none) "paths_of" "paths_of" s_paths_of fd := T.c.def_ 37 (d := d_paths_of) rfl
theorem F_asked_parts : ∃ fd, FnP K ("asked_parts", none) "asked_parts" "asked_parts" s_asked_parts fd := T.c.def_ 38 (d := d_asked_parts) rfl
theorem F_Functions_init : ∃ fd, FnP K ("Functions", some "__init__") "__init__" "Functions.__init__" s_Functions_init fd := T.c.def_ 39 (d := d_Functions_init) rfl
theorem F_Functions_takes : ∃ fd, FnP K ("Functions", some "takes") "takes" "Functions.takes" s_Functions_takes fd := T.c.def_ 40 (d := d_Functions_takes) rfl
theorem F_Functions_fold : ∃ fd, FnP K ("Functions", some "fold") "fold" "Functions.fold" s_Functions_fold fd := T.c.def_ 41 (d := d_Functions_fold) rfl
theorem F_Functions_body : ∃ fd, FnP K ("Functions", some "body") "body" "Functions.body" s_Functions_body fd := T.c.def_ 42 (d := d_Functions_body) rfl
theorem F__law_take : ∃ fd, FnP K ("_law_take", none) "_law_take" "_law_take" s__law_take fd := T.c.def_ 43 (d := d__law_take) rfl
theorem F__law_pool : ∃ fd, FnP K ("_law_pool", none) "_law_pool" "_law_pool" s__law_pool fd := T.c.def_ 44 (d := d__law_pool) rfl
theorem F__law_name : ∃ fd, FnP K ("_law_name", none) "_law_name" "_law_name" s__law_name fd := T.c.def_ 45 (d := d__law_name) rfl
theorem F__law_parts : ∃ fd, FnP K ("_law_parts", none) "_law_parts" "_law_parts" s__law_parts fd := T.c.def_ 46 (d := d__law_parts) rfl
theorem F__law_rows : ∃ fd, FnP K ("_law_rows", none) "_law_rows" "_law_rows" s__law_rows fd := T.c.def_ 47 (d := d__law_rows) rfl
theorem F__law_shuffle : ∃ fd, FnP K ("_law_shuffle", none) "_law_shuffle" "_law_shuffle" s__law_shuffle fd := T.c.def_ 48 (d := d__law_shuffle) rfl
theorem F__law_hidden : ∃ fd, FnP K ("_law_hidden", none) "_law_hidden" "_law_hidden" s__law_hidden fd := T.c.def_ 49 (d := d__law_hidden) rfl
theorem F__law_body : ∃ fd, FnP K ("_law_body", none) "_law_body" "_law_body" s__law_body fd := T.c.def_ 50 (d := d__law_body) rfl
theorem F__law_functions : ∃ fd, FnP K ("_law_functions", none) "_law_functions" "_law_functions" s__law_functions fd := T.c.def_ 51 (d := d__law_functions) rfl
theorem F__law_base : ∃ fd, FnP K ("_law_base", none) "_law_base" "_law_base" s__law_base fd := T.c.def_ 52 (d := d__law_base) rfl
theorem F__law_tree : ∃ fd, FnP K ("_law_tree", none) "_law_tree" "_law_tree" s__law_tree fd := T.c.def_ 53 (d := d__law_tree) rfl
theorem F__law_steps : ∃ fd, FnP K ("_law_steps", none) "_law_steps" "_law_steps" s__law_steps fd := T.c.def_ 54 (d := d__law_steps) rfl
theorem F__law_fold : ∃ fd, FnP K ("_law_fold", none) "_law_fold" "_law_fold" s__law_fold fd := T.c.def_ 55 (d := d__law_fold) rfl
theorem F__law_eval : ∃ fd, FnP K ("_law_eval", none) "_law_eval" "_law_eval" s__law_eval fd := T.c.def_ 56 (d := d__law_eval) rfl
theorem F__law_int : ∃ fd, FnP K ("_law_int", none) "_law_int" "_law_int" s__law_int fd := T.c.def_ 57 (d := d__law_int) rfl
theorem F__law_ints : ∃ fd, FnP K ("_law_ints", none) "_law_ints" "_law_ints" s__law_ints fd := T.c.def_ 58 (d := d__law_ints) rfl
theorem F__law_refused : ∃ fd, FnP K ("_law_refused", none) "_law_refused" "_law_refused" s__law_refused fd := T.c.def_ 59 (d := d__law_refused) rfl
theorem F__law_right : ∃ fd, FnP K ("_law_right", none) "_law_right" "_law_right" s__law_right fd := T.c.def_ 60 (d := d__law_right) rfl
theorem F_law : ∃ fd, FnP K ("law", none) "law" "law" s_law fd := T.c.def_ 61 (d := d_law) rfl
end Tx
theorem b__wall {K : PySem.W.Frag} {fd : FuncData} (F : FnP K ("_wall", none) "_wall" "_wall" s__wall fd) : Binds K fd ["k"] [] := F.bindsN fun _ _ _ _ _ _ us hl => match us, hl with | [_], _ => rfl
theorem b_BadKinds_init {K : PySem.W.Frag} {fd : FuncData} (F : FnP K ("BadKinds", some "__init__") "__init__" "BadKinds.__init__" s_BadKinds_init fd) : Binds K fd ["self", "row"] [] := F.bindsN fun _ _ _ _ _ _ us hl => match us, hl with | [_, _], _ => rfl
theorem b_BadFunctions_init {K : PySem.W.Frag} {fd : FuncData} (F : FnP K ("BadFunctions", some "__init__") "__init__" "BadFunctions.__init__" s_BadFunctions_init fd) : Binds K fd ["self", "row"] [] := F.bindsN fun _ _ _ _ _ _ us hl => match us, hl with | [_, _], _ => rfl
theorem b_NotThere_init {K : PySem.W.Frag} {fd : FuncData} (F : FnP K ("NotThere", some "__init__") "__init__" "NotThere.__init__" s_NotThere_init fd) : Binds K fd ["self", "name"] [] := F.bindsN fun _ _ _ _ _ _ us hl => match us, hl with | [_, _], _ => rfl
theorem b_is_name {K : PySem.W.Frag} {fd : FuncData} (F : FnP K ("is_name", none) "is_name" "is_name" s_is_name fd) : Binds K fd ["value"] [] := F.bindsN fun _ _ _ _ _ _ us hl => match us, hl with | [_], _ => rfl
theorem b_is_kind_name {K : PySem.W.Frag} {fd : FuncData} (F : FnP K ("is_kind_name", none) "is_kind_name" "is_kind_name" s_is_kind_name fd) : Binds K fd ["value"] [] := F.bindsN fun _ _ _ _ _ _ us hl => match us, hl with | [_], _ => rfl
theorem b_is_number {K : PySem.W.Frag} {fd : FuncData} (F : FnP K ("is_number", none) "is_number" "is_number" s_is_number fd) : Binds K fd ["value", "low", "high"] [] := F.bindsN fun _ _ _ _ _ _ us hl => match us, hl with | [_, _, _], _ => rfl
theorem b_is_part {K : PySem.W.Frag} {fd : FuncData} (F : FnP K ("is_part", none) "is_part" "is_part" s_is_part fd) : Binds K fd ["value"] [] := F.bindsN fun _ _ _ _ _ _ us hl => match us, hl with | [_], _ => rfl
theorem b_are_parts {K : PySem.W.Frag} {fd : FuncData} (F : FnP K ("are_parts", none) "are_parts" "are_parts" s_are_parts fd) : Binds K fd ["value"] [] := F.bindsN fun _ _ _ _ _ _ us hl => match us, hl with | [_], _ => rfl
theorem b_check_each_row_kinds {K : PySem.W.Frag} {fd : FuncData} (F : FnP K ("check_each_row_kinds", none) "check_each_row" "check_each_row" s_check_each_row_kinds fd) : Binds K fd ["rows"] [] := F.bindsN fun _ _ _ _ _ _ us hl => match us, hl with | [_], _ => rfl
theorem b_check_inner_kinds {K : PySem.W.Frag} {fd : FuncData} (F : FnP K ("check_inner_kinds", none) "check_inner_kinds" "check_inner_kinds" s_check_inner_kinds fd) : Binds K fd ["rows"] [] := F.bindsN fun _ _ _ _ _ _ us hl => match us, hl with | [_], _ => rfl
theorem b_check_finite {K : PySem.W.Frag} {fd : FuncData} (F : FnP K ("check_finite", none) "check_finite" "check_finite" s_check_finite fd) : Binds K fd ["rows", "least"] [] := F.bindsN fun _ _ _ _ _ _ us hl => match us, hl with | [_, _], _ => rfl
theorem b_makers_by_kind {K : PySem.W.Frag} {fd : FuncData} (F : FnP K ("makers_by_kind", none) "makers_by_kind" "makers_by_kind" s_makers_by_kind fd) : Binds K fd ["rows"] [] := F.bindsN fun _ _ _ _ _ _ us hl => match us, hl with | [_], _ => rfl
theorem b_holdings {K : PySem.W.Frag} {fd : FuncData} (F : FnP K ("holdings", none) "holdings" "holdings" s_holdings fd) : Binds K fd ["parts"] [] := F.bindsN fun _ _ _ _ _ _ us hl => match us, hl with | [_], _ => rfl
theorem b_least_node {K : PySem.W.Frag} {fd : FuncData} (F : FnP K ("least_node", none) "least_node" "least_node" s_least_node fd) : Binds K fd ["tag", "maker", "parts", "least"] [] := F.bindsN fun _ _ _ _ _ _ us hl => match us, hl with | [_, _, _, _], _ => rfl
theorem b_least_trees {K : PySem.W.Frag} {fd : FuncData} (F : FnP K ("least_trees", none) "least_trees" "least_trees" s_least_trees fd) : Binds K fd ["rows"] [] := F.bindsN fun _ _ _ _ _ _ us hl => match us, hl with | [_], _ => rfl
theorem b_Kinds_init {K : PySem.W.Frag} {fd : FuncData} (F : FnP K ("Kinds", some "__init__") "__init__" "Kinds.__init__" s_Kinds_init fd) : Binds K fd ["self", "rows"] [] := F.bindsN fun _ _ _ _ _ _ us hl => match us, hl with | [_, _], _ => rfl
theorem b_Kinds_contains {K : PySem.W.Frag} {fd : FuncData} (F : FnP K ("Kinds", some "__contains__") "__contains__" "Kinds.__contains__" s_Kinds_contains fd) : Binds K fd ["self", "x"] [] := F.bindsN fun _ _ _ _ _ _ us hl => match us, hl with | [_, _], _ => rfl
theorem b_Kinds_makers {K : PySem.W.Frag} {fd : FuncData} (F : FnP K ("Kinds", some "makers") "makers" "Kinds.makers" s_Kinds_makers fd) : Binds K fd ["self", "kind"] [] := F.bindsN fun _ _ _ _ _ _ us hl => match us, hl with | [_, _], _ => rfl
theorem b_Kinds_kind_of {K : PySem.W.Frag} {fd : FuncData} (F : FnP K ("Kinds", some "kind_of") "kind_of" "Kinds.kind_of" s_Kinds_kind_of fd) : Binds K fd ["self", "maker"] [] := F.bindsN fun _ _ _ _ _ _ us hl => match us, hl with | [_, _], _ => rfl
theorem b_Kinds_tag {K : PySem.W.Frag} {fd : FuncData} (F : FnP K ("Kinds", some "tag") "tag" "Kinds.tag" s_Kinds_tag fd) : Binds K fd ["self", "maker"] [] := F.bindsN fun _ _ _ _ _ _ us hl => match us, hl with | [_, _], _ => rfl
theorem b_Kinds_parts {K : PySem.W.Frag} {fd : FuncData} (F : FnP K ("Kinds", some "parts") "parts" "Kinds.parts" s_Kinds_parts fd) : Binds K fd ["self", "maker"] [] := F.bindsN fun _ _ _ _ _ _ us hl => match us, hl with | [_, _], _ => rfl
theorem b_Kinds_inner {K : PySem.W.Frag} {fd : FuncData} (F : FnP K ("Kinds", some "inner") "inner" "Kinds.inner" s_Kinds_inner fd) : Binds K fd ["self", "maker", "part"] [] := F.bindsN fun _ _ _ _ _ _ us hl => match us, hl with | [_, _, _], _ => rfl
theorem b_Kinds_price_of {K : PySem.W.Frag} {fd : FuncData} (F : FnP K ("Kinds", some "price_of") "price_of" "Kinds.price_of" s_Kinds_price_of fd) : Binds K fd ["self", "maker", "part"] [] := F.bindsN fun _ _ _ _ _ _ us hl => match us, hl with | [_, _, _], _ => rfl
theorem b_Kinds_holding {K : PySem.W.Frag} {fd : FuncData} (F : FnP K ("Kinds", some "_holding") "_holding" "Kinds._holding" s_Kinds_holding fd) : Binds K fd ["self", "maker", "part"] [] := F.bindsN fun _ _ _ _ _ _ us hl => match us, hl with | [_, _, _], _ => rfl
theorem b_Kinds_fits {K : PySem.W.Frag} {fd : FuncData} (F : FnP K ("Kinds", some "fits") "fits" "Kinds.fits" s_Kinds_fits fd) : Binds K fd ["self", "tree", "kind"] [] := F.bindsN fun _ _ _ _ _ _ us hl => match us, hl with | [_, _, _], _ => rfl
theorem b_Kinds_tree_fits {K : PySem.W.Frag} {fd : FuncData} (F : FnP K ("Kinds", some "_tree_fits") "_tree_fits" "Kinds._tree_fits" s_Kinds_tree_fits fd) : Binds K fd ["self", "tree", "kind", "levels"] [] := F.bindsN fun _ _ _ _ _ _ us hl => match us, hl with | [_, _, _, _], _ => rfl
theorem b_Kinds_value_fits {K : PySem.W.Frag} {fd : FuncData} (F : FnP K ("Kinds", some "_value_fits") "_value_fits" "Kinds._value_fits" s_Kinds_value_fits fd) : Binds K fd ["self", "value", "inner", "levels"] [] := F.bindsN fun _ _ _ _ _ _ us hl => match us, hl with | [_, _, _, _], _ => rfl
theorem b_Kinds_least {K : PySem.W.Frag} {fd : FuncData} (F : FnP K ("Kinds", some "least") "least" "Kinds.least" s_Kinds_least fd) : Binds K fd ["self", "kind"] [] := F.bindsN fun _ _ _ _ _ _ us hl => match us, hl with | [_, _], _ => rfl
theorem b_folded {K : PySem.W.Frag} {fd : FuncData} (F : FnP K ("folded", none) "folded" "folded" s_folded fd) : Binds K fd ["fold", "taken"] [] := F.bindsN fun _ _ _ _ _ _ us hl => match us, hl with | [_, _], _ => rfl
theorem b_answer_of {K : PySem.W.Frag} {fd : FuncData} (F : FnP K ("answer_of", none) "answer_of" "answer_of" s_answer_of fd) : Binds K fd ["functions", "name", "node"] [] := F.bindsN fun _ _ _ _ _ _ us hl => match us, hl with | [_, _, _], _ => rfl
theorem b_TreeNode_init {K : PySem.W.Frag} {fd : FuncData} (F : FnP K ("TreeNode", some "__init__") "__init__" "TreeNode.__init__" s_TreeNode_init fd) : Binds K fd ["self", "functions", "tree", "prints"] [] := F.bindsN fun _ _ _ _ _ _ us hl => match us, hl with | [_, _, _, _], _ => rfl
theorem b_TreeNode_byte_of {K : PySem.W.Frag} {fd : FuncData} (F : FnP K ("TreeNode", some "byte_of") "byte_of" "TreeNode.byte_of" s_TreeNode_byte_of fd) : Binds K fd ["self", "part"] [] := F.bindsN fun _ _ _ _ _ _ us hl => match us, hl with | [_, _], _ => rfl
theorem b_TreeNode_answer {K : PySem.W.Frag} {fd : FuncData} (F : FnP K ("TreeNode", some "answer") "answer" "TreeNode.answer" s_TreeNode_answer fd) : Binds K fd ["self", "name", "part"] [] := F.bindsN fun _ _ _ _ _ _ us hl => match us, hl with | [_, _, _], _ => rfl
theorem b_run_tree {K : PySem.W.Frag} {fd : FuncData} (F : FnP K ("run_tree", none) "run_tree" "run_tree" s_run_tree fd) : Binds K fd ["functions", "name", "tree"] [] := F.bindsN fun _ _ _ _ _ _ us hl => match us, hl with | [_, _, _], _ => rfl
theorem b_asks_byte {K : PySem.W.Frag} {fd : FuncData} (F : FnP K ("asks_byte", none) "asks_byte" "asks_byte" s_asks_byte fd) : Binds K fd ["kinds", "maker", "part", "asked"] [] := F.bindsN fun _ _ _ _ _ _ us hl => match us, hl with | [_, _, _, _], _ => rfl
theorem b_asks_tree {K : PySem.W.Frag} {fd : FuncData} (F : FnP K ("asks_tree", none) "asks_tree" "asks_tree" s_asks_tree fd) : Binds K fd ["kinds", "maker", "part", "asked"] [] := F.bindsN fun _ _ _ _ _ _ us hl => match us, hl with | [_, _, _, _], _ => rfl
theorem b_is_step {K : PySem.W.Frag} {fd : FuncData} (F : FnP K ("is_step", none) "is_step" "is_step" s_is_step fd) : Binds K fd ["kinds", "maker", "step", "asked"] [] := F.bindsN fun _ _ _ _ _ _ us hl => match us, hl with | [_, _, _, _], _ => rfl
theorem b_is_branch {K : PySem.W.Frag} {fd : FuncData} (F : FnP K ("is_branch", none) "is_branch" "is_branch" s_is_branch fd) : Binds K fd ["kinds", "maker", "step", "asked"] [] := F.bindsN fun _ _ _ _ _ _ us hl => match us, hl with | [_, _, _, _], _ => rfl
theorem b_is_body {K : PySem.W.Frag} {fd : FuncData} (F : FnP K ("is_body", none) "is_body" "is_body" s_is_body fd) : Binds K fd ["kinds", "maker", "body", "asked"] [] := F.bindsN fun _ _ _ _ _ _ us hl => match us, hl with | [_, _, _, _], _ => rfl
theorem b_are_bodies {K : PySem.W.Frag} {fd : FuncData} (F : FnP K ("are_bodies", none) "are_bodies" "are_bodies" s_are_bodies fd) : Binds K fd ["kinds", "kind", "bodies"] [] := F.bindsN fun _ _ _ _ _ _ us hl => match us, hl with | [_, _, _], _ => rfl
theorem b_check_each_row_bodies {K : PySem.W.Frag} {fd : FuncData} (F : FnP K ("check_each_row_bodies", none) "check_each_row" "check_each_row" s_check_each_row_bodies fd) : Binds K fd ["kinds", "rows"] [] := F.bindsN fun _ _ _ _ _ _ us hl => match us, hl with | [_, _], _ => rfl
theorem b_check_called {K : PySem.W.Frag} {fd : FuncData} (F : FnP K ("check_called", none) "check_called" "check_called" s_check_called fd) : Binds K fd ["kinds", "rows"] [] := F.bindsN fun _ _ _ _ _ _ us hl => match us, hl with | [_, _], _ => rfl
theorem b_paths_of {K : PySem.W.Frag} {fd : FuncData} (F : FnP K ("paths_of", none) "paths_of" "paths_of" s_paths_of fd) : Binds K fd ["body"] [] := F.bindsN fun _ _ _ _ _ _ us hl => match us, hl with | [_], _ => rfl
theorem b_asked_parts {K : PySem.W.Frag} {fd : FuncData} (F : FnP K ("asked_parts", none) "asked_parts" "asked_parts" s_asked_parts fd) : Binds K fd ["body"] [] := F.bindsN fun _ _ _ _ _ _ us hl => match us, hl with | [_], _ => rfl
theorem b_Functions_init {K : PySem.W.Frag} {fd : FuncData} (F : FnP K ("Functions", some "__init__") "__init__" "Functions.__init__" s_Functions_init fd) : Binds K fd ["self", "kinds", "rows"] [] := F.bindsN fun _ _ _ _ _ _ us hl => match us, hl with | [_, _, _], _ => rfl
theorem b_Functions_takes {K : PySem.W.Frag} {fd : FuncData} (F : FnP K ("Functions", some "takes") "takes" "Functions.takes" s_Functions_takes fd) : Binds K fd ["self", "name"] [] := F.bindsN fun _ _ _ _ _ _ us hl => match us, hl with | [_, _], _ => rfl
theorem b_Functions_fold {K : PySem.W.Frag} {fd : FuncData} (F : FnP K ("Functions", some "fold") "fold" "Functions.fold" s_Functions_fold fd) : Binds K fd ["self", "name"] [] := F.bindsN fun _ _ _ _ _ _ us hl => match us, hl with | [_, _], _ => rfl
theorem b_Functions_body {K : PySem.W.Frag} {fd : FuncData} (F : FnP K ("Functions", some "body") "body" "Functions.body" s_Functions_body fd) : Binds K fd ["self", "name", "maker"] [] := F.bindsN fun _ _ _ _ _ _ us hl => match us, hl with | [_, _, _], _ => rfl
theorem b_Functions_paths {K : PySem.W.Frag} {fd : FuncData} (F : FnP K ("Functions", some "paths") "paths" "Functions.paths" s_Functions_paths fd) : Binds K fd ["self", "name", "maker"] [] := F.bindsN fun _ _ _ _ _ _ us hl => match us, hl with | [_, _, _], _ => rfl
theorem b_Functions_called {K : PySem.W.Frag} {fd : FuncData} (F : FnP K ("Functions", some "_called") "_called" "Functions._called" s_Functions_called fd) : Binds K fd ["self", "name"] [] := F.bindsN fun _ _ _ _ _ _ us hl => match us, hl with | [_, _], _ => rfl
theorem b__law_take {K : PySem.W.Frag} {fd : FuncData} (F : FnP K ("_law_take", none) "_law_take" "_law_take" s__law_take fd) : Binds K fd ["_law_pool_here", "_law_many"] [] := F.bindsN fun _ _ _ _ _ _ us hl => match us, hl with | [_, _], _ => rfl
theorem b__law_pool {K : PySem.W.Frag} {fd : FuncData} (F : FnP K ("_law_pool", none) "_law_pool" "_law_pool" s__law_pool fd) : Binds K fd ["_law_script"] [] := F.bindsN fun _ _ _ _ _ _ us hl => match us, hl with | [_], _ => rfl
theorem b__law_name {K : PySem.W.Frag} {fd : FuncData} (F : FnP K ("_law_name", none) "_law_name" "_law_name" s__law_name fd) : Binds K fd ["_law_seed", "_law_k", "_law_taken"] [] := F.bindsN fun _ _ _ _ _ _ us hl => match us, hl with | [_, _, _], _ => rfl
theorem b__law_parts {K : PySem.W.Frag} {fd : FuncData} (F : FnP K ("_law_parts", none) "_law_parts" "_law_parts" s__law_parts fd) : Binds K fd ["_law_pool_here", "_law_seed", "_law_names", "_law_base_here"] [] := F.bindsN fun _ _ _ _ _ _ us hl => match us, hl with | [_, _, _, _], _ => rfl
theorem b__law_rows {K : PySem.W.Frag} {fd : FuncData} (F : FnP K ("_law_rows", none) "_law_rows" "_law_rows" s__law_rows fd) : Binds K fd ["_law_pool_here"] [] := F.bindsN fun _ _ _ _ _ _ us hl => match us, hl with | [_], _ => rfl
theorem b__law_shuffle {K : PySem.W.Frag} {fd : FuncData} (F : FnP K ("_law_shuffle", none) "_law_shuffle" "_law_shuffle" s__law_shuffle fd) : Binds K fd ["_law_pool_here", "_law_items"] [] := F.bindsN fun _ _ _ _ _ _ us hl => match us, hl with | [_, _], _ => rfl
theorem b__law_hidden {K : PySem.W.Frag} {fd : FuncData} (F : FnP K ("_law_hidden", none) "_law_hidden" "_law_hidden" s__law_hidden fd) : Binds K fd ["_law_pool_here", "_law_rows_here"] [] := F.bindsN fun _ _ _ _ _ _ us hl => match us, hl with | [_, _], _ => rfl
theorem b__law_body {K : PySem.W.Frag} {fd : FuncData} (F : FnP K ("_law_body", none) "_law_body" "_law_body" s__law_body fd) : Binds K fd ["_law_pool_here", "_law_heads", "_law_parts_here", "_law_cut", "_law_wild", "_law_nest"] [] := F.bindsN fun _ _ _ _ _ _ us hl => match us, hl with | [_, _, _, _, _, _], _ => rfl
theorem b__law_functions {K : PySem.W.Frag} {fd : FuncData} (F : FnP K ("_law_functions", none) "_law_functions" "_law_functions" s__law_functions fd) : Binds K fd ["_law_pool_here", "_law_rows_here", "_law_hidden_here", "_law_cut", "_law_most"] [] := F.bindsN fun _ _ _ _ _ _ us hl => match us, hl with | [_, _, _, _, _], _ => rfl
theorem b__law_base {K : PySem.W.Frag} {fd : FuncData} (F : FnP K ("_law_base", none) "_law_base" "_law_base" s__law_base fd) : Binds K fd ["_law_rows_here"] [] := F.bindsN fun _ _ _ _ _ _ us hl => match us, hl with | [_], _ => rfl
theorem b__law_tree {K : PySem.W.Frag} {fd : FuncData} (F : FnP K ("_law_tree", none) "_law_tree" "_law_tree" s__law_tree fd) : Binds K fd ["_law_pool_here", "_law_rows_here", "_law_base_here", "_law_kind", "_law_cut", "_law_fuel"] [] := F.bindsN fun _ _ _ _ _ _ us hl => match us, hl with | [_, _, _, _, _, _], _ => rfl
theorem b__law_steps {K : PySem.W.Frag} {fd : FuncData} (F : FnP K ("_law_steps", none) "_law_steps" "_law_steps" s__law_steps fd) : Binds K fd ["_law_body_here", "_law_values"] [] := F.bindsN fun _ _ _ _ _ _ us hl => match us, hl with | [_, _], _ => rfl
theorem b__law_fold {K : PySem.W.Frag} {fd : FuncData} (F : FnP K ("_law_fold", none) "_law_fold" "_law_fold" s__law_fold fd) : Binds K fd ["_law_fold_here", "_law_numbers"] [] := F.bindsN fun _ _ _ _ _ _ us hl => match us, hl with | [_, _], _ => rfl
theorem b__law_eval {K : PySem.W.Frag} {fd : FuncData} (F : FnP K ("_law_eval", none) "_law_eval" "_law_eval" s__law_eval fd) : Binds K fd ["_law_rows_here", "_law_table", "_law_name_here", "_law_tree_here", "_law_prints"] [] := F.bindsN fun _ _ _ _ _ _ us hl => match us, hl with | [_, _, _, _, _], _ => rfl
theorem b__law_int {K : PySem.W.Frag} {fd : FuncData} (F : FnP K ("_law_int", none) "_law_int" "_law_int" s__law_int fd) : Binds K fd ["_law_value"] [] := F.bindsN fun _ _ _ _ _ _ us hl => match us, hl with | [_], _ => rfl
theorem b__law_ints {K : PySem.W.Frag} {fd : FuncData} (F : FnP K ("_law_ints", none) "_law_ints" "_law_ints" s__law_ints fd) : Binds K fd ["_law_value", "_law_due"] [] := F.bindsN fun _ _ _ _ _ _ us hl => match us, hl with | [_, _], _ => rfl
theorem b__law_refused {K : PySem.W.Frag} {fd : FuncData} (F : FnP K ("_law_refused", none) "_law_refused" "_law_refused" s__law_refused fd) : Binds K fd ["_law_program", "_law_name_here", "_law_tree_here"] [] := F.bindsN fun _ _ _ _ _ _ us hl => match us, hl with | [_, _, _], _ => rfl
theorem b__law_right {K : PySem.W.Frag} {fd : FuncData} (F : FnP K ("_law_right", none) "_law_right" "_law_right" s__law_right fd) : Binds K fd ["_law_program", "_law_rows_here", "_law_table", "_law_name_here", "_law_tree_here"] [] := F.bindsN fun _ _ _ _ _ _ us hl => match us, hl with | [_, _, _, _, _], _ => rfl
theorem b_law {K : PySem.W.Frag} {fd : FuncData} (F : FnP K ("law", none) "law" "law" s_law fd) : Binds K fd ["_law_script"] [] := F.bindsN fun _ _ _ _ _ _ us hl => match us, hl with | [_], _ => rfl
def Good (P : Program) (w : World) (K : PySem.W.Frag) (mg : Str → Option Value) (base : Heap) (CX : CXT) (k : Nat) (f : Addr) (ps : List Str) (sp : Sp) : Prop := ∃ fd, FnOk P w K mg base CX k f fd ps sp ∧ Binds K fd ps []
end Bg
set_option Elab.async false
set_option linter.all false
set_option maxRecDepth 100000
set_option maxHeartbeats 0
namespace Bg
open PySem PySem.Spec PyProof.Rows L2
abbrev R : PySem.W.OpenRow := PySem.W.OpenLaw.row PySem.Challenge.rw_bytegrove_k17_runs_on_trees
abbrev hk : PySem.W.Hook := hookF 5 fa fn exs fn2
def ob (s : PySem.W.SharedT) : He.AlD × Bool × He.AlD := obsF 5 fa fn exs fn2 (HandSHeadRun.getT s)
theorem ob_eq (s : PySem.W.SharedT) : ob s = hk.obs s.abs := obsF_eq (HandSHeadRun.getT_eq s)
def loose : List PySem.Str := (["_wall", "GroveError", "BadKinds", "BadFunctions", "BadTree", "NotThere", "BYTE", "MOST_LETTERS", "MOST_PARTS", "MOST_PRICE", "MOST_ROWS", "MOST_KINDS", "MOST_LEVELS", "is_name", "is_kind_name", "is_number", "is_part", "are_parts", "check_each_row", "check_each_row_kinds"] : List PySem.Str) ++ (["check_inner_kinds", "check_finite", "makers_by_kind", "holdings", "least_node", "least_trees", "Kinds", "folded", "answer_of", "TreeNode", "run_tree", "MOST_STEPS", "MOST_FUNCTIONS", "MOST_SAID", "LEAST_BOUND", "MOST_BOUND", "FOLDS", "asks_byte", "asks_tree", "is_step"] : List PySem.Str) ++ (["is_branch", "is_body", "are_bodies", "check_each_row", "check_each_row_bodies", "check_called", "paths_of", "asked_parts", "Functions", "_law_take", "_law_pool", "_law_name", "_law_parts", "_law_rows", "_law_shuffle", "_law_hidden", "_law_body", "_law_functions", "_law_base", "_law_tree"] : List PySem.Str) ++ (["_law_steps", "_law_fold", "_law_eval", "_law_int", "_law_ints", "_law_refused", "_law_right"] : List PySem.Str)
theorem map_two {α β γ δ : Type} {x : Option α} {f : α → β} {g : α → γ} {h : α → δ} {a : β} {b : γ} {c : δ} (h1 : x.map (fun s => (f s, g s)) = some (a, b)) (h2 : x.map h = some c) : x.map (fun s => (f s, g s, h s)) = some (a, b, c) := by
  cases x with
  | none => cases h1
  | some s =>
    have e1 := Option.some.inj h1
    have e2 := Option.some.inj h2
    have e3 := congrArg Prod.fst e1
    have e4 := congrArg Prod.snd e1
    dsimp only at e2 e3 e4
    show some (f s, g s, h s) = _
    rw [e2, e3, e4]
section
open PySem.W HandSHeadRun
theorem runA (w : World) (os : OsState) : (endF (stepQ (denQ tabQ) R.prog w) 8000 R.prog w os).map (fun s => (looksF R.prog (boot_heap w.params) s.abs, seenQ (PySem.W.view R.prog [72]) loose (importedModules R.prog.main.body) (fun s => xlAt (PySem.W.view R.prog [72]) [] s && recOk R.toRowW.records s) s.abs)) = some (true, openGood (PySem.W.view R.prog [72]) loose) := by
  kernel_rfl
theorem runB (w : World) (os : OsState) : (endF (stepQ (denQ tabQ) R.prog w) 8000 R.prog w os).map ob = some (hk.val w) := by
  kernel_rfl
end
theorem run (w : World) : HandSHeadRun.RunEq R (PySem.W.view R.prog [72]) hk ob 8000 loose w := fun os => map_two (runA w os) (runB w os)
end Bg
set_option Elab.async false
set_option linter.all false
set_option maxRecDepth 100000
set_option maxHeartbeats 4000000
namespace Bg
open PySem PySem.Spec PyProof.Rows L2

/-! ### heaps -/
/-- what never changes: a tuple, also one whose object is told -/
def Fixed : HO → Prop
  | .tup _ => True
  | .frz _ (.tup _) => True
  | _ => False
/-- every tuple stays -/
def Tups (H H' : Hp) : Prop := ∀ b u, Fixed u → H b = some u → H' b = some u
theorem Tups.refl (H : Hp) : Tups H H := fun _ _ _ h => h
theorem Tups.trans {H H1 H2 : Hp} (a : Tups H H1) (b : Tups H1 H2) : Tups H H2 := fun c o f h => b c o f (a c o f h)
theorem tups_of {H H' : Hp} (s : Same H H') : Tups H H' := fun b u _ h => s b _ h
/-- an object that is no tuple is written -/
theorem tups_upd {H : Hp} {p : Addr} {o : HO} (h : ∀ u, Fixed u → H p ≠ some u) : Tups H (upd H p o) := fun b u f e => by
  rw [upd_ne (show b ≠ p from fun z => h u f (by rw [← z]; exact e))]; exact e
theorem tups_new {H : Hp} {p : Addr} {o : HO} (h : H p = none) : Tups H (upd H p o) := tups_upd fun u _ z => by rw [h] at z; cases z
theorem same_new {H : Hp} {p : Addr} {o : HO} (h : H p = none) : Same H (upd H p o) := fun b u e => by
  rw [upd_ne (ne_of_none e h)]; exact e
/-- all but the object at a -/
def But (a : Addr) (H H' : Hp) : Prop := ∀ b o, b ≠ a → H b = some o → H' b = some o
theorem But.refl (a : Addr) (H : Hp) : But a H H := fun _ _ _ h => h
theorem But.trans {a : Addr} {H H1 H2 : Hp} (x : But a H H1) (y : But a H1 H2) : But a H H2 := fun c o n h => y c o n (x c o n h)
theorem but_of {a : Addr} {H H' : Hp} (s : Same H H') : But a H H' := fun b o _ h => s b o h
theorem but_upd {a : Addr} {H : Hp} {o : HO} : But a H (upd H a o) := fun b u n e => by rw [upd_ne n]; exact e
/-- written at a place that the first heap did not have -/
theorem same_mut {H H' : Hp} {p : Addr} {o : HO} (s : Same H H') (h : H p = none) : Same H (upd H' p o) := fun b u e => by
  rw [upd_ne (ne_of_none e h)]; exact s b u e
theorem but_mut {a : Addr} {H H' : Hp} {p : Addr} {o : HO} (s : But a H H') (h : H p = none) : But a H (upd H' p o) := fun b u n e => by
  rw [upd_ne (ne_of_none e h)]; exact s b u n e
theorem but_tups {a : Addr} {H H' : Hp} (s : But a H H') (h : ∀ u, Fixed u → H a ≠ some u) : Tups H H' := fun b u f e => s b _ (fun z => h u f (by rw [← z]; exact e)) e

/-! ### lists item by item -/
def All2 {α β : Type} (R : α → β → Prop) (vs : List α) (xs : List β) : Prop := vs.length = xs.length ∧ ∀ (i : Nat) v x, vs[i]? = some v → xs[i]? = some x → R v x
section
variable {α β : Type} {R R' : α → β → Prop} {vs : List α} {xs : List β}
theorem All2.mono (h : All2 R vs xs) (f : ∀ v x, R v x → R' v x) : All2 R' vs xs := ⟨h.1, fun i v x a b => f v x (h.2 i v x a b)⟩
theorem All2.nil : All2 R [] [] := ⟨rfl, fun i v x a _ => by simp at a⟩
theorem All2.get (h : All2 R vs xs) {i : Nat} {v : α} (e : vs[i]? = some v) : ∃ x, xs[i]? = some x ∧ R v x := by
  have l := (List.getElem?_eq_some_iff.mp e).1
  have l2 : i < xs.length := h.1 ▸ l
  exact ⟨xs[i], List.getElem?_eq_getElem l2, h.2 i v _ e (List.getElem?_eq_getElem l2)⟩
theorem All2.get' (h : All2 R vs xs) {i : Nat} {x : β} (e : xs[i]? = some x) : ∃ v, vs[i]? = some v ∧ R v x := by
  have l := (List.getElem?_eq_some_iff.mp e).1
  have l2 : i < vs.length := h.1.symm ▸ l
  exact ⟨vs[i], List.getElem?_eq_getElem l2, h.2 i _ x (List.getElem?_eq_getElem l2) e⟩
theorem All2.snoc (h : All2 R vs xs) {v : α} {x : β} (r : R v x) : All2 R (vs ++ [v]) (xs ++ [x]) := by
  refine ⟨by simp [h.1], fun i u y a b => ?_⟩
  by_cases hi : i < vs.length
  · rw [List.getElem?_append_left hi] at a
    rw [List.getElem?_append_left (h.1 ▸ hi)] at b
    exact h.2 i u y a b
  · rw [List.getElem?_append_right (by omega)] at a
    rw [List.getElem?_append_right (by rw [← h.1]; omega), ← h.1] at b
    cases e : i - vs.length with
    | zero =>
      rw [e] at a b
      simp at a b
      subst a; subst b
      exact r
    | succ n => rw [e] at a; simp at a
end

/-! ### rows of a kinds table -/
abbrev Part := Str × Str × Option Int
abbrev Row := Str × Str × List Part
def partVs : Part → List V
  | (n, k, none) => [.str n, .str k]
  | (n, k, some c) => [.str n, .str k, .int c]
def PartAt (H : Hp) (v : V) (p : Part) : Prop := ∃ a, v = .ref a ∧ H a = some (.tup (partVs p))
def PartsAt (H : Hp) (v : V) (ps : List Part) : Prop := ∃ a vs, v = .ref a ∧ H a = some (.tup vs) ∧ All2 (PartAt H) vs ps
def RowAt (H : Hp) (v : V) (r : Row) : Prop := ∃ a u, v = .ref a ∧ H a = some (.tup [.str r.1, .str r.2.1, u]) ∧ PartsAt H u r.2.2
def RowsAt (H : Hp) (a : Addr) (rs : List Row) : Prop := ∃ vs, H a = some (.lst vs) ∧ All2 (RowAt H) vs rs
section
variable {H H' : Hp}
theorem PartAt.mono (t : Tups H H') {v : V} {p : Part} (h : PartAt H v p) : PartAt H' v p := by
  obtain ⟨a, e, x⟩ := h; exact ⟨a, e, t _ _ trivial x⟩
theorem PartsAt.mono (t : Tups H H') {v : V} {p : List Part} (h : PartsAt H v p) : PartsAt H' v p := by
  obtain ⟨a, vs, e, x, y⟩ := h; exact ⟨a, vs, e, t _ _ trivial x, y.mono fun _ _ z => z.mono t⟩
theorem RowAt.mono (t : Tups H H') {v : V} {r : Row} (h : RowAt H v r) : RowAt H' v r := by
  obtain ⟨a, u, e, x, y⟩ := h; exact ⟨a, u, e, t _ _ trivial x, y.mono t⟩
theorem RowsAt.mono (s : Same H H') {a : Addr} {rs : List Row} (h : RowsAt H a rs) : RowsAt H' a rs := by
  obtain ⟨vs, x, y⟩ := h; exact ⟨vs, s _ _ x, y.mono fun _ _ z => z.mono (tups_of s)⟩
theorem RowsAt.but {b : Addr} (s : But b H H') (hb : ∀ u, Fixed u → H b ≠ some u) {a : Addr} (n : a ≠ b) {rs : List Row} (h : RowsAt H a rs) : RowsAt H' a rs := by
  obtain ⟨vs, x, y⟩ := h; exact ⟨vs, s _ _ n x, y.mono fun _ _ z => z.mono (but_tups s hb)⟩
end

/-! ### what the program says of names, parts -/
def nameB (x : Str) : Bool := decide (1 ≤ x.length) && (decide (x.length ≤ 24) && (Txt.isascii x && (Txt.isalnum x && Txt.isalpha ⟨#[x.cps.toList.headD 0]⟩)))
def kindB (x : Str) : Bool := nameB x && !decide (x = ("byte" : Str))
def partB : Part → Bool
  | (n, k, none) => nameB n && decide (k = ("byte" : Str))
  | (n, k, some c) => nameB n && (kindB k && (decide (1 ≤ c) && decide (c ≤ 1000)))
/-- put behind, if it is new -/
def addNew {α : Type} [DecidableEq α] (l : List α) (k : α) : List α := if k ∈ l then l else l ++ [k]
def distinct {α : Type} [DecidableEq α] (l : List α) : List α := l.foldl addNew []
def partsB (ps : List Part) : Bool := decide (ps.length ≤ 4) && (ps.all partB && decide ((distinct (ps.map (·.1))).length = ps.length))
end Bg
set_option Elab.async false
set_option linter.all false
/-! an if whose test's value is shown -/
namespace Bg
theorem iteTe {c : Bool} {A B : Prop} (h : c = true) (a : A) : if c = true then A else B := by rw [if_pos h]; exact a
theorem iteFe {c : Bool} {A B : Prop} (h : c = false) (b : B) : if c = true then A else B := by rw [if_neg (by rw [h]; exact Bool.false_ne_true)]; exact b
end Bg
set_option Elab.async false
set_option linter.all false
set_option maxRecDepth 100000
set_option maxHeartbeats 4000000
namespace Bg
open PySem PySem.Spec PyProof.Rows L2
section
variable {P : Program} {w : World} {K : PySem.W.Frag} {mg : Str → Option Value} {base : Heap} {fd : FuncData}
theorem sz_of {n : Nat} (h : n ≤ 100000) : n ≤ sizeLine := Nat.le_trans h (by decide)
theorem sz_lt {n : Nat} (h : n ≤ 100000) : n < sizeLine := Nat.lt_of_le_of_lt h (by decide)
theorem len_pos_str {x : Str} (h : 1 ≤ x.length) : x.cps.toList[0]? = some (x.cps.toList.headD 0) := by
  unfold Str.length at h
  rw [← Array.length_toList] at h
  cases e : x.cps.toList with
  | nil => rw [e] at h; simp at h
  | cons a r => rfl
def spIsName : Sp := fun vs H Q _ => ∃ x : Str, vs = [.str x] ∧ x.length ≤ 100000 ∧ Q (.bl (nameB x)) H
theorem ok_is_name (T : Tx K mg) (F : FnP K ("is_name", none) "is_name" "is_name" s_is_name fd) : FnOk P w K mg base CX0 1 (He.fAd K ("is_name", none)) fd ["value"] spIsName := by
  refine F.ok sc_is_name (fun vs H Q E h => ?_) (fun cdv A outer s H vs Q E hr h => ?_)
  · obtain ⟨x, rfl, _⟩ := h; rfl
  obtain ⟨x, rfl, hx, q⟩ := h
  obtain ⟨t24, m24⟩ := T.c_MOST_LETTERS
  refine ⟨_, PSs.nox (pss_cons (ps_if (PW.pt (pw_or
        (pt_not (pt_val (pe_callB call_isi (by rfl) T.n_isinstance (by decide +kernel) (pa_cons (pv 0) (pa_cons (pe_bltn (v := .ty "str") (by rfl) T.n_str (by decide +kernel) rfl) pa_nil)))))
        (pw_or1 (pt_not (pt_chain op_le op_le pe_int (pe_callB call_len_str (by rfl) T.n_len PySem.boot_len (pa_cons (pv 0) pa_nil)) (pe_glob (v := .int 24) (by rfl) m24 ⟨_, rfl⟩))))))
      (pss_one (ps_ret pe_bl)) pss_nil)
    (pss_one (ps_ret (pe_and (pe_m0 PySem.F.slot_str_isascii PySem.F.type_str_isascii mt_isascii (pv 0)) (pe_and (pe_m0 PySem.F.slot_str_isalnum PySem.F.type_str_isalnum mt_isalnum (pv 0))
      (pe_one (pe_m0 PySem.F.slot_str_isalpha PySem.F.type_str_isalpha mt_isalpha (pe_ix ix_str (pv 0) pe_int (fun _ _ => rfl))))))))), ?_⟩
  have hs : x.length ≤ sizeLine := sz_of hx
  refine ⟨_, rfl, .str x, .ty "str", .type "str", .type "str", true, rfl, ClsV.ty _, TyX.base (TyOf.str x), kit_ty (by decide +kernel), true, rfl, iteF ?_⟩
  refine ⟨_, rfl, x, rfl, hs, _, _, rfl, rfl, _, rfl, ite2 (fun h1 => ?_) (fun h1 => ?_)⟩
  · refine ⟨_, _, rfl, rfl, _, rfl, ?_⟩
    have e1 : (1 : Int) ≤ (x.length : Int) := of_decide_eq_true h1
    refine ite2 (fun h2 => ?_) (fun h2 => ?_)
    · have e2 : ¬ (x.length : Int) ≤ 24 := fun z => by simp [z] at h2
      have : nameB x = false := by unfold nameB; simp; intro _ z; omega
      rw [this] at q; exact q
    · have e2 : (x.length : Int) ≤ 24 := Decidable.byContradiction fun z => h2 (by simp [z])
      have b1 : decide (1 ≤ x.length) = true := decide_eq_true (by omega)
      have b2 : decide (x.length ≤ 24) = true := decide_eq_true (by omega)
      have hq : nameB x = (Txt.isascii x && (Txt.isalnum x && Txt.isalpha ⟨#[x.cps.toList.headD 0]⟩)) := by unfold nameB; rw [b1, b2]; rfl
      rw [hq] at q
      refine ⟨_, rfl, ⟨x, rfl⟩, x, rfl, rfl, trivial, _, rfl, ite2 (fun h3 => ?_) (fun h3 => ?_)⟩
      · rw [h3] at q
        refine ⟨_, rfl, ⟨x, rfl⟩, x, rfl, rfl, trivial, _, rfl, ite2 (fun h4 => ?_) (fun h4 => ?_)⟩
        · rw [h4] at q
          exact ⟨_, rfl, x, 0, x.cps.toList.headD 0, rfl, rfl, hs, atI_nat (len_pos_str (by omega)), ⟨_, rfl⟩, _, rfl, rfl, trivial, q⟩
        · rw [Bool.eq_false_iff.mpr h4] at q; exact q
      · rw [Bool.eq_false_iff.mpr h3] at q; exact q
  · have e1 : ¬ (1 : Int) ≤ (x.length : Int) := fun z => h1 (decide_eq_true z)
    refine ⟨_, rfl, iteT ?_⟩
    have : nameB x = false := by unfold nameB; simp; intro z; omega
    rw [this] at q; exact q
end
end Bg
set_option Elab.async false
set_option linter.all false
set_option maxRecDepth 100000
set_option maxHeartbeats 4000000
namespace Bg
open PySem PySem.Spec PyProof.Rows L2
section
variable {P : Program} {w : World} {K : PySem.W.Frag} {mg : Str → Option Value} {base : Heap} {fd : FuncData}
def spIsKind : Sp := fun vs H Q _ => ∃ x : Str, vs = [.str x] ∧ x.length ≤ 100000 ∧ Q (.bl (kindB x)) H
theorem ok_is_kind_name (T : Tx K mg) (F : FnP K ("is_kind_name", none) "is_kind_name" "is_kind_name" s_is_kind_name fd) : FnOk P w K mg base CX0 2 (He.fAd K ("is_kind_name", none)) fd ["value"] spIsKind := by
  obtain ⟨f1, F1⟩ := T.F_is_name
  obtain ⟨tB, mB⟩ := T.c_BYTE
  refine F.ok sc_is_kind_name (fun vs H Q E h => ?_) (fun cdv A outer s H vs Q E hr h => ?_)
  · obtain ⟨x, rfl, _⟩ := h; rfl
  obtain ⟨x, rfl, hx, q⟩ := h
  refine ⟨_, PSs.nox (pss_one (ps_ret (pe_and (pe_call (ok_is_name T F1) hr (by rfl) T.g_is_name T.k_is_name (b_is_name F1) .nil pass0 (pa_cons (pv 0) pa_nil))
    (pe_one (pe_cmpR op_ne (pv 0) (pe_glob (v := .str "byte") (by rfl) mB ⟨_, rfl⟩) (nomark _)))))), ?_⟩
  refine ⟨_, rfl, x, rfl, hx, _, rfl, ite2 (fun h1 => ?_) (fun h1 => ?_)⟩
  · unfold kindB at q
    rw [h1] at q
    refine ⟨_, rfl, rfl, ?_⟩
    have e : decide (V.str x = V.str ("byte" : Str)) = decide (x = ("byte" : Str)) := by simp
    show Q (V.bl (!decide (V.str x = V.str ("byte" : Str)))) H
    rw [e]; exact q
  · unfold kindB at q
    rw [Bool.eq_false_iff.mpr h1] at q; exact q
def spIsNumber : Sp := fun vs H Q _ => ∃ v lo hi : Int, vs = [.int v, .int lo, .int hi] ∧ Q (.bl (decide (lo ≤ v) && decide (v ≤ hi))) H
theorem ok_is_number (T : Tx K mg) (F : FnP K ("is_number", none) "is_number" "is_number" s_is_number fd) : FnOk P w K mg base CX0 1 (He.fAd K ("is_number", none)) fd ["value", "low", "high"] spIsNumber := by
  refine F.ok sc_is_number (fun vs H Q E h => ?_) (fun cdv A outer s H vs Q E hr h => ?_)
  · obtain ⟨x, lo, hi, rfl, _⟩ := h; rfl
  obtain ⟨v, lo, hi, rfl, q⟩ := h
  refine ⟨_, PSs.nox (pss_one (ps_ret (pe_and (pe_callB call_isi (by rfl) T.n_isinstance (by decide +kernel) (pa_cons (pv 0) (pa_cons (pe_bltn (v := .ty "int") (by rfl) T.n_int (by decide +kernel) rfl) pa_nil)))
    (pe_and (pe_not (pe_callB call_isi (by rfl) T.n_isinstance (by decide +kernel) (pa_cons (pv 0) (pa_cons (pe_bltn (v := .ty "bool") (by rfl) T.n_bool (by decide +kernel) rfl) pa_nil))))
      (pe_one (pe_chain op_le op_le (pv 1) (pv 0) (pv 2))))))), ?_⟩
  refine ⟨_, rfl, .int v, .ty "int", .type "int", .type "int", true, rfl, ClsV.ty _, TyX.base (TyOf.int v), kit_ty (by decide +kernel), _, rfl, iteT ?_⟩
  refine ⟨_, rfl, .int v, .ty "bool", .type "int", .type "bool", false, rfl, ClsV.ty _, TyX.base (TyOf.int v), kit_ty (by decide +kernel), _, rfl, _, rfl, iteT ?_⟩
  refine ⟨_, rfl, _, rfl, _, _, rfl, rfl, _, rfl, ite2 (fun h1 => ?_) (fun h1 => ?_)⟩
  · rw [h1] at q
    exact ⟨_, rfl, _, _, rfl, rfl, q⟩
  · rw [Bool.eq_false_iff.mpr h1] at q; exact q
theorem partB_n (n k : Str) : partB (n, k, none) = (nameB n && decide (k = ("byte" : Str))) := rfl
theorem partB_s (n k : Str) (c : Int) : partB (n, k, some c) = (nameB n && (kindB k && (decide (1 ≤ c) && decide (c ≤ 1000)))) := rfl
/-- the strings of a part, a row are not too long for the machine -/
def PartShort (p : Part) : Prop := p.1.length ≤ 100000 ∧ p.2.1.length ≤ 100000
def spIsPart : Sp := fun vs H Q _ => ∃ (v : V) (p : Part), vs = [v] ∧ PartAt H v p ∧ PartShort p ∧ ∀ H', Same H H' → Q (.bl (partB p)) H'
theorem ok_is_part (T : Tx K mg) (F : FnP K ("is_part", none) "is_part" "is_part" s_is_part fd) : FnOk P w K mg base CX0 3 (He.fAd K ("is_part", none)) fd ["value"] spIsPart := by
  obtain ⟨f1, F1⟩ := T.F_is_name
  obtain ⟨f2, F2⟩ := T.F_is_kind_name
  obtain ⟨f3, F3⟩ := T.F_is_number
  obtain ⟨tB, mB⟩ := T.c_BYTE
  obtain ⟨tP, mP⟩ := T.c_MOST_PRICE
  refine F.ok sc_is_part (fun vs H Q E h => ?_) (fun cdv A outer s H vs Q E hr h => ?_)
  · obtain ⟨x, p, rfl, _⟩ := h; rfl
  obtain ⟨v, ⟨n, kd, c⟩, rfl, ⟨a, rfl, ha⟩, ⟨s1, s2⟩, q⟩ := h
  refine ⟨_, PSs.nox (pss_cons (ps_if (PW.pt (pw_or (pt_not (pt_val (pe_callB call_isi (by rfl) T.n_isinstance (by decide +kernel) (pa_cons (pv 0) (pa_cons (pe_bltn (v := .ty "tuple") (by rfl) T.n_tuple (by decide +kernel) rfl) pa_nil)))))
        (pw_or (pt_cmpR op_notIn_seq (pe_callB call_len_seq (by rfl) T.n_len PySem.boot_len (pa_cons (pv 0) pa_nil)) (pe_tup (pa_cons pe_int (pa_cons pe_int pa_nil))) (by rfl))
          (pw_or1 (pt_not (pt_val (pe_call (ok_is_name T F1) (hr.mono (by decide)) (by rfl) T.g_is_name T.k_is_name (b_is_name F1) .nil pass0 (pa_cons (pe_ix ix_tup (pv 0) pe_int (fun _ _ => rfl)) pa_nil))))))))
      (pss_one (ps_ret pe_bl)) pss_nil)
    (pss_cons (ps_if (pt_cmpR op_eq (pe_callB call_len_seq (by rfl) T.n_len PySem.boot_len (pa_cons (pv 0) pa_nil)) pe_int (nomark _))
      (pss_one (ps_ret (pe_cmpR op_eq (pe_ix ix_tup (pv 0) pe_int (fun _ _ => rfl)) (pe_glob (v := .str "byte") (by rfl) mB ⟨_, rfl⟩) (nomark _)))) pss_nil)
    (pss_one (ps_ret (pe_and (pe_call (ok_is_kind_name T F2) hr (by rfl) T.g_is_kind_name T.k_is_kind_name (b_is_kind_name F2) .nil pass0 (pa_cons (pe_ix ix_tup (pv 0) pe_int (fun _ _ => rfl)) pa_nil))
      (pe_one (pe_call (ok_is_number T F3) (hr.mono (by decide)) (by rfl) T.g_is_number T.k_is_number (b_is_number F3) .nil pass0 (pa_cons (pe_ix ix_tup (pv 0) pe_int (fun _ _ => rfl)) (pa_cons pe_int (pa_cons (pe_glob (v := .int 1000) (by rfl) mP ⟨_, rfl⟩) pa_nil)))))))))), ?_⟩
  refine ⟨_, rfl, .ref a, .ty "tuple", .type "tuple", .type "tuple", true, rfl, ClsV.ty _, TyX.base (TyOf.tup ha), kit_ty (by decide +kernel), _, rfl, iteF ?_⟩
  cases c with
  | none =>
    refine ⟨_, rfl, a, _, rfl, .inr (SqT.of ha), by show 2 ≤ sizeLine; decide, fun p np => ?_⟩
    have sm : Same H (upd H p (.tup [.int 2, .int 3])) := same_new np
    have ha' := sm _ _ ha
    refine ⟨p, _, rfl, .inr (SqT.of upd_same), rfl, rfl, _, rfl, iteF ?_⟩
    refine ⟨_, rfl, a, _, _, .str n, rfl, rfl, SqT.of ha', rfl, n, rfl, s1, _, rfl, ite2 (fun h1 => ?_) (fun h1 => ?_)⟩
    · have := q _ sm
      rw [partB_n] at this
      have e : nameB n = false := by simpa using h1
      rw [e] at this; exact this
    · have e : nameB n = true := by simpa using h1
      refine ⟨_, rfl, a, _, rfl, .inr (SqT.of ha'), rfl, _, rfl, iteT ?_⟩
      refine ⟨_, rfl, a, _, _, .str kd, rfl, rfl, SqT.of ha', rfl, rfl, ?_⟩
      have := q _ sm
      rw [partB_n] at this
      rw [e] at this
      have e : decide (V.str kd = V.str ("byte" : Str)) = decide (kd = ("byte" : Str)) := by simp
      show Q (V.bl (decide (V.str kd = V.str ("byte" : Str)))) _
      rw [e]; exact this
  | some c =>
    refine ⟨_, rfl, a, _, rfl, .inr (SqT.of ha), by show 2 ≤ sizeLine; decide, fun p np => ?_⟩
    have sm : Same H (upd H p (.tup [.int 2, .int 3])) := same_new np
    have ha' := sm _ _ ha
    refine ⟨p, _, rfl, .inr (SqT.of upd_same), rfl, rfl, _, rfl, iteF ?_⟩
    refine ⟨_, rfl, a, _, _, .str n, rfl, rfl, SqT.of ha', rfl, n, rfl, s1, _, rfl, ite2 (fun h1 => ?_) (fun h1 => ?_)⟩
    · have := q _ sm
      rw [partB_s] at this
      have e : nameB n = false := by simpa using h1
      rw [e] at this; exact this
    · have e : nameB n = true := by simpa using h1
      have qq := q _ sm
      rw [partB_s] at qq
      rw [e] at qq
      refine ⟨_, rfl, a, _, rfl, .inr (SqT.of ha'), rfl, _, rfl, iteF ?_⟩
      refine ⟨_, rfl, a, _, _, .str kd, rfl, rfl, SqT.of ha', rfl, kd, rfl, s2, _, rfl, ite2 (fun h2 => ?_) (fun h2 => ?_)⟩
      · rw [h2] at qq
        exact ⟨_, rfl, a, _, _, .int c, rfl, rfl, SqT.of ha', rfl, c, 1, 1000, rfl, qq⟩
      · rw [Bool.eq_false_iff.mpr h2] at qq; exact qq
end
end Bg
set_option Elab.async false
set_option linter.all false
set_option maxRecDepth 100000
set_option maxHeartbeats 4000000
namespace Bg
open PySem PySem.Spec PyProof.Rows L2 PpSet
/-! the set comprehension whose members are keys (texts, ints): the road of the list's, told anew for sets of keys -/
def tScK (P : Program) (w : World) (wi : TI) (g : TG) (te : TE) (vs : List Nat) : TE := fun σ H Q => wi σ H fun J H1 => ∀ D, H1 D = none →
  ∃ W : Nat → Nat → Hp → Prop, (∃ m, W 0 m (upd H1 D (SetK P w D (fun _ => false) 0))) ∧ ∀ i m H, W i m H → (J.stop i H ∧ Q (.ref D) H) ∨
    (J.go i H ∧ ∃ N : Hp → Prop, (∀ H', N H' → ∃ m', m' < m ∧ W (i + 1) m' H') ∧ ∀ x H', J.yld i H x H' → g x (wipe σ vs) H' fun σ2 H2 => wipe σ2 vs = wipe σ vs ∧
      te σ2 H2 fun y H4 => ∃ (k : Key) (S : Key → Bool) (n : Nat), y = kV k ∧ H4 D = some (SetK P w D S n) ∧ n + 1 < scanBound ∧ N (upd H4 D (SetK P w D (fun j => S j || decide (j = k)) (if S k = true then n else n + 1))))
section
variable {X : Cx}
theorem fresh_setK (P : Program) (w : World) (h : Heap) : (h.push { cls := .type "set", dict := none, data := .set #[] 0 (.fresh 0 0 (!w.params.followText "set-order")) }).SetOf (mixKind P w) h.objs.size (fun _ => false) 0 := by
  refine ⟨_, #[], 0, _, Heap.get?_push_size _ rfl, ⟨rfl, rfl, rfl⟩, rfl, ?_, ?_, by decide, by rfl, rfl⟩
  · intro e he
    simp at he
  · intro k
    simp
abbrev keyed (X : Cx) (D : Addr) : HO := SetK X.prog X.w D (fun _ => false) 0
theorem pe_scK {elt tg iter : Expr} {scope : Scope} {own : List (PySem.Str × Nat)} {pos : Pos} {wi : TI} {g : TG} {te : TE} (calm : X.calm = true) (nodup : X.N.Nodup) (walk : PI X tg iter wi) (blk : BlkOk X.N X.env.scope scope own)
    (targ : ∀ (s₀ : Shared) (H₀ : Hp) (C₀ : Addr) (cs : List (PySem.Str × Addr)) (its : List Addr), PG (X.blk s₀ H₀ scope (compEnvC scope cs C₀ X.env) its) tg g)
    (memb : ∀ (s₀ : Shared) (H₀ : Hp) (C₀ : Addr) (cs : List (PySem.Str × Addr)) (its : List Addr), PE (X.blk s₀ H₀ scope (compEnvC scope cs C₀ X.env) its) elt te)
    (fold : ∀ x, foldedSetIterable iter X.env x = pure x := by intro _; rfl) : PE X (.SetComp elt [⟨tg, iter, [], 0⟩] scope pos) (tScK X.prog X.w wi g te (own.map (·.2))) := by
  constructor
  intro pins s σ H Q I want
  rw [eval_SetComp]
  have captured : ∀ y ∈ scope.names, y.2 = .free → ∃ c, X.env.cells.lookup y.1 = some c := by
    intro y hy e
    exact (blk.free y hy e).elim (fun k => I.ok.has _ (.inl k)) (fun k => I.ok.has _ (.inr k))
  refine wpAny_comprehension_free (use := none) rfl fold (closure_ok captured) blk.kind (fun y hy e => by rw [blk.uniq y hy, e]) ?_
  refine thn (walk.run pins s σ H _ I want) fun _ _ begun => thn begun fun _ t2 got => ?_
  obtain ⟨it, its, stands, J, H2, rfl, I2, turns, here, apart, rest⟩ := got
  refine newSet_ok (newEnv_comp ?_)
  obtain ⟨D, hD⟩ : ∃ D, t2.heap.objs.size = D := ⟨_, rfl⟩
  rw [hD]
  have free : H2 D = none := I2.hok.fresh (Nat.le_of_eq hD)
  obtain ⟨W, ⟨m0, w0⟩, each⟩ := rest D free
  generalize ht3 : ({ t2 with heap := t2.heap.push { cls := .type "set", dict := none, data := .set #[] 0 (.fresh 0 0 (!X.w.params.followText "set-order")) } } : Shared) = t3
  have heap3 : t3.heap = t2.heap.push { cls := .type "set", dict := none, data := .set #[] 0 (.fresh 0 0 (!X.w.params.followText "set-order")) } := by rw [← ht3]
  have I3 : Inv X pins σ (upd H2 D (keyed X D)) t3 := by
    have z := fresh_setK X.prog X.w t2.heap
    rw [hD] at z
    rw [← ht3]
    exact I2.laid (t' := t2.toks) (fun b o e => Heap.get?_push_of_some _ e) (Nat.le_of_eq hD) (setK_new z)
  have below : ∀ b ∈ its, b < t2.heap.objs.size := by
    intro b hb
    obtain ⟨o, e, _⟩ := turns.obj _ _ here b hb
    exact Heap.lt_size e
  have apart3 : ∀ b ∈ its, FpOk X pins (upd H2 D (keyed X D)) b ∧ b < t3.heap.objs.size := by
    intro b hb
    have ne : b ≠ D := by rw [← hD]; exact Nat.ne_of_lt (below b hb)
    refine ⟨⟨by rw [upd_ne ne]; exact (apart b hb).1, (apart b hb).2⟩, ?_⟩
    rw [heap3, Heap.size_push]
    exact Nat.lt_succ_of_lt (below b hb)
  have here3 : stands 0 t3.heap := turns.keep _ _ _ here fun b _ o e => by rw [heap3]; exact Heap.get?_push_of_some _ e
  have I4 := block_start I3 blk nodup apart3
  obtain ⟨H3, hH3⟩ : ∃ H3, upd H2 D (keyed X D) = H3 := ⟨_, rfl⟩
  rw [hH3] at I3 I4 apart3 w0
  have g1 := targ t3 H3 t3.heap.objs.size (cellsFrom (t3.heap.objs.size + 1) scope.names (cloFrom X.env.cells scope.names [])) its
  have e1 := memb t3 H3 t3.heap.objs.size (cellsFrom (t3.heap.objs.size + 1) scope.names (cloFrom X.env.cells scope.names [])) its
  show codeAny (model X.prog X.w) X.A (.compStart (.SetComp elt [⟨tg, iter, [], 0⟩] scope pos) 0 (.ref it) (.ref D) (compEnvC scope (cellsFrom (t3.heap.objs.size + 1) scope.names (cloFrom X.env.cells scope.names [])) t3.heap.objs.size X.env))
    (compPost (model X.prog X.w) X.A X.xe none (EP X pins σ Q) (.ref D) t3.heap.objs.size) { t3 with heap := pushCells (t3.heap.push { cls := .type "dict", data := .dict #[] }) scope.names }
  generalize hce : compEnvC scope (cellsFrom (t3.heap.objs.size + 1) scope.names (cloFrom X.env.cells scope.names [])) t3.heap.objs.size X.env = ce at I4 g1 e1 ⊢
  generalize ht4 : ({ t3 with heap := pushCells (t3.heap.push { cls := .type "dict", data := .dict #[] }) scope.names } : Shared) = t4 at I4 ⊢
  have here4 : stands 0 t4.heap := turns.keep _ _ _ here3 fun b _ o e => by rw [← ht4]; exact pushCells_keeps _ _ _ _ (Heap.get?_push_of_some _ e)
  have local3 : ce.locals = t3.heap.objs.size := by rw [← hce] <;> rfl
  have ok5 : ∀ {σ' : L2.St} {H' : Hp} {s' : Shared}, Inv (X.blk t3 H3 scope ce its) [] σ' H' s' → (∀ b ∈ its, H' b = none) → ∀ b ∈ its, FpOk (X.blk t3 H3 scope ce its) [] H' b := by
    intro σ' H' s' I' none' b hb
    refine ⟨none' b hb, (I'.ok.exf b hb).1, I'.ok.exfs b hb, .inl hb, (fun x c e => (I'.ok.exf b hb).2 x c e), fun p hp => ?_⟩
    simp at hp
  refine codeAny_compStart_set ?_ ?_
  all_goals
    have go : codeAny (model X.prog X.w) X.A (.compLoop (.SetComp elt [⟨tg, iter, [], 0⟩] scope pos) 0 (.ref it) (.ref D) ce) (compPost (model X.prog X.w) X.A X.xe none (EP X pins σ Q) (.ref D) t3.heap.objs.size) t4 := by
      refine compLoopS_any (fun n s' => ∃ i H', Inv (X.blk t3 H3 scope ce its) [] (wipe σ (own.map (·.2))) H' s' ∧ stands i s'.heap ∧ (∀ b ∈ its, H' b = none) ∧ W i n H') ?_ m0 ⟨0, H3, I4, here4, fun b hb => (apart3 b hb).1.1, w0⟩
      rintro n t5 ⟨i, H5, I5, at5, no5, w5⟩
      rcases each i n H5 w5 with ⟨stop, done⟩ | ⟨more, N, hN, step⟩
      · refine thnF (turns.done (X.blk t3 H3 scope ce its) rfl rfl rfl calm i [] t5 _ H5 (fun _ _ => False) I5 (ok5 I5 no5) at5 stop) fun r t6 z => ?_
        obtain ⟨rfl, I6⟩ := z
        have I7 : Inv X pins σ H5 t6 := I3.call' (ch := its) I6.os I6.base I6.hok I6.bare fun b hb => by
          obtain ⟨q0, q1, q2, q3, q4, q5⟩ := (apart3 b hb).1
          exact ⟨q3, q1, q4, q5⟩
        have noC : H5 t3.heap.objs.size = none := local3 ▸ (show H5 ce.locals = none from I6.free)
        obtain ⟨m, hm, _⟩ := I6.loc
        have hm : t6.heap.Ns t3.heap.objs.size m := local3 ▸ (show t6.heap.Ns ce.locals m from hm)
        obtain ⟨q0, q1, q2, q3, q4, q5⟩ := I3.fpOk (Nat.le_refl _) noC
        exact ⟨m, hm, fun h' sb => ⟨.ref D, H5, I7.turned (t' := t6.toks) (fun b o hb e => (sb.2 b hb).trans e) q0 q1 q3 q4 q5, rfl, done⟩⟩
      · refine thnF (turns.item (X.blk t3 H3 scope ce its) rfl rfl rfl calm i [] t5 _ H5 (fun _ _ => False) I5 (ok5 I5 no5) at5 more) fun r t6 z => ?_
        obtain ⟨u, rfl, z⟩ := z
        refine thnF z fun _ t7 z => ?_
        obtain ⟨x, H7, I7, r7, y7, at7, no7⟩ := z
        refine thnF (g1.run _ t7 _ H7 x u _ (I7.pinned (ok5 I7 no7) (turns.obj _ _ at7)) r7 (step x H7 y7)) fun _ t8 z => ?_
        obtain ⟨σ8, H8, I8, same8, q8⟩ := z
        refine thnF ((pts_nil (X := X.blk t3 H3 scope ce its)).run _ t8 σ8 H8 (fun b H' => b = true ∧ te σ8 H' _) I8 ⟨rfl, q8⟩) fun b t9 z => ?_
        obtain ⟨H9, I9, rfl, q9⟩ := z
        simp only [if_true]
        refine thnF (e1.run _ t9 σ8 H9 _ I9 q9) fun v t10 z => ?_
        obtain ⟨y, H10, I10, rv, k, S, n0, rfl, hk, room, next⟩ := z
        refine thnF (mt_saddK (X := X.blk t3 H3 scope ce its) _ t10 σ8 H10 (.ref D) [kV k] (.ref D) [v] (fun _ H' => N H') I10 rfl (.cons rv .nil) ⟨D, k, S, n0, rfl, rfl, hk, room, next⟩) fun _ t11 z => ?_
        obtain ⟨_, H11, I11, _, nx⟩ := z
        obtain ⟨m', lt, w'⟩ := hN H11 nx
        have len8 : (wipe σ (own.map (·.2))).length = σ8.length := by rw [← same8, wipe_length]
        have stay : ∀ b ∈ its, ∀ o, t7.heap.get? b = some o → t11.heap.get? b = some o ∧ H11 b = none := by
          intro b hb o e
          have q := I11.pin (b, o) (List.mem_append_right _ (List.mem_append_right _ (mem_pinsAt hb e)))
          exact ⟨q.1, q.2.1⟩
        refine ⟨m', lt, i + 1, H11, (I11.unpinned (pins := [])).weak len8 ?_, turns.keep _ _ _ at7 (fun b hb o e => (stay b hb o e).1), ?_, w'⟩
        · intro j v e
          rw [← same8] at e
          exact (wipe_some e).1
        · intro b hb
          obtain ⟨o, e, _⟩ := turns.obj _ _ at7 b hb
          exact (stay b hb o e).2
  · exact go
  · exact turns.self X.A 0 _ _ _ here4 go
end
end Bg
set_option Elab.async false
set_option linter.all false
set_option maxRecDepth 100000
set_option maxHeartbeats 4000000
namespace Bg
open PySem PySem.Spec PyProof.Rows L2
/-! ### distinct -/
section
variable {α : Type} [DecidableEq α]
theorem distinct_snoc (l : List α) (k : α) : distinct (l ++ [k]) = addNew (distinct l) k := by
  unfold distinct; rw [List.foldl_append]; rfl
theorem mem_addNew {l : List α} {k j : α} : j ∈ addNew l k ↔ j ∈ l ∨ j = k := by
  unfold addNew
  split
  · rename_i h
    exact ⟨.inl, fun z => z.elim id fun e => e ▸ h⟩
  · simp
theorem mem_foldNew : ∀ (l acc : List α) (j : α), j ∈ l.foldl addNew acc ↔ j ∈ acc ∨ j ∈ l
  | [], acc, j => by simp
  | a :: r, acc, j => by
    rw [List.foldl_cons, mem_foldNew r, mem_addNew, List.mem_cons]
    exact or_assoc
theorem mem_distinct {l : List α} {j : α} : j ∈ distinct l ↔ j ∈ l := by
  unfold distinct; rw [mem_foldNew]; simp
theorem nodup_addNew {l : List α} {k : α} (h : l.Nodup) : (addNew l k).Nodup := by
  unfold addNew
  split
  · exact h
  · rename_i hk
    rw [List.nodup_append]
    exact ⟨h, by simp, fun a ha b hb e => hk (by simp at hb; rw [← hb, ← e]; exact ha)⟩
theorem nodup_foldNew : ∀ (l acc : List α), acc.Nodup → (l.foldl addNew acc).Nodup
  | [], acc, h => h
  | a :: r, acc, h => nodup_foldNew r _ (nodup_addNew h)
theorem nodup_distinct (l : List α) : (distinct l).Nodup := nodup_foldNew l [] List.nodup_nil
theorem foldNew_of_nodup : ∀ (l acc : List α), (acc ++ l).Nodup → l.foldl addNew acc = acc ++ l
  | [], acc, _ => by simp
  | a :: r, acc, h => by
    have ha : a ∉ acc := fun z => (List.nodup_append.mp h).2.2 a z a (List.mem_cons_self ..) rfl
    have e : addNew acc a = acc ++ [a] := by unfold addNew; rw [if_neg ha]
    rw [List.foldl_cons, e, foldNew_of_nodup r]
    · simp
    · simpa using h
theorem distinct_of_nodup {l : List α} (h : l.Nodup) : distinct l = l := by
  unfold distinct; rw [foldNew_of_nodup l [] (by simpa using h)]; simp
theorem length_addNew (l : List α) (k : α) : (addNew l k).length = if k ∈ l then l.length else l.length + 1 := by
  unfold addNew; split <;> simp
theorem length_foldNew : ∀ (l acc : List α), (l.foldl addNew acc).length ≤ acc.length + l.length
  | [], acc => by simp
  | a :: r, acc => by
    have h1 := length_foldNew r (addNew acc a)
    have h2 : (addNew acc a).length ≤ acc.length + 1 := by rw [length_addNew]; split <;> omega
    rw [List.foldl_cons, List.length_cons]; omega
theorem length_distinct (l : List α) : (distinct l).length ≤ l.length := by
  have := length_foldNew l []; simpa [distinct] using this
end
section
variable {P : Program} {w : World} {K : PySem.W.Frag} {mg : Str → Option Value} {base : Heap} {fd : FuncData}
theorem call_lenK {X : Cx} : CallR X (.builtin "len") (fun xs H Q => ∃ a S n, xs = [V.ref a] ∧ H a = some (SetK X.prog X.w a S n) ∧ Q (.int (n : Nat)) H) := by
  intro pins s σ H xs us Q I r h
  obtain ⟨a, S, n, rfl, ha, q⟩ := h
  obtain ⟨u, rfl, ru⟩ := vals1 r
  cases ru
  obtain ⟨o, es, ep, t, ho, hex, hd, _, _, hb, hf, hn⟩ := setK_get I ha
  exact call_len_set ho hex hd hf (by have : scanBound ≤ 2 ^ 62 := by decide
                                      omega) ⟨.int n, H, I.tok _, ⟨_, by rw [hn]⟩, q⟩
/-- a set comprehension over a tuple -/
theorem scK_tup {a : Addr} {xs : List V} {g : TG} {te : TE} {vs : List Nat} {σ : L2.St} {H1 : Hp} {D : Addr} {Qd : Hp → Prop} (Pv : Nat → Hp → Prop) (start : Pv 0 (upd H1 D (SetK P w D (fun _ => false) 0))) (stays : ∀ i H, i ≤ xs.length → Pv i H → SqT K H a xs)
    (turn : ∀ i x H, xs[i]? = some x → Pv i H → g x (wipe σ vs) H fun σ2 H2 => wipe σ2 vs = wipe σ vs ∧
      te σ2 H2 fun y H4 => ∃ (k : Key) (S : Key → Bool) (n : Nat), y = kV k ∧ H4 D = some (SetK P w D S n) ∧ n + 1 < scanBound ∧ Pv (i + 1) (upd H4 D (SetK P w D (fun j => S j || decide (j = k)) (if S k = true then n else n + 1)))) (fin : ∀ H, Pv xs.length H → Qd H) :
    ∃ W : Nat → Nat → Hp → Prop, (∃ m, W 0 m (upd H1 D (SetK P w D (fun _ => false) 0))) ∧ ∀ i m H, W i m H → ((Itt K a).stop i H ∧ Qd H) ∨
    ((Itt K a).go i H ∧ ∃ N : Hp → Prop, (∀ H', N H' → ∃ m', m' < m ∧ W (i + 1) m' H') ∧ ∀ x H', (Itt K a).yld i H x H' → g x (wipe σ vs) H' fun σ2 H2 => wipe σ2 vs = wipe σ vs ∧
      te σ2 H2 fun y H4 => ∃ (k : Key) (S : Key → Bool) (n : Nat), y = kV k ∧ H4 D = some (SetK P w D S n) ∧ n + 1 < scanBound ∧ N (upd H4 D (SetK P w D (fun j => S j || decide (j = k)) (if S k = true then n else n + 1)))) := by
  refine ⟨fun i m H => m + i = xs.length ∧ Pv i H, ⟨xs.length, rfl, start⟩, fun i m H h => ?_⟩
  obtain ⟨e, p⟩ := h
  have q := stays i H (by omega) p
  rcases Nat.lt_or_ge i xs.length with lt | ge
  · refine .inr ⟨⟨xs, xs[i], q, List.getElem?_eq_getElem lt⟩, Pv (i + 1), fun H' p' => ⟨m - 1, by omega, by omega, p'⟩, fun x H' y => ?_⟩
    obtain ⟨rfl, y⟩ := y
    exact turn i x _ (y xs q) p
  · have : i = xs.length := by omega
    subst this
    exact .inl ⟨⟨xs, q, Nat.le_refl _⟩, fin H p⟩
theorem partAt_ix {H : Hp} {v : V} {p : Part} (h : PartAt H v p) : ∃ a xs, v = .ref a ∧ H a = some (.tup xs) ∧ xs[0]? = some (.str p.1) ∧ xs[1]? = some (.str p.2.1) := by
  obtain ⟨a, e, x⟩ := h
  obtain ⟨n, k, c⟩ := p
  cases c with
  | none => exact ⟨a, _, e, x, rfl, rfl⟩
  | some c => exact ⟨a, _, e, x, rfl, rfl⟩
def PartsShort (ps : List Part) : Prop := ps.length ≤ 1000 ∧ ∀ p ∈ ps, PartShort p
theorem take_succ_of {α : Type} {l : List α} {i : Nat} {x : α} (h : l[i]? = some x) : l.take (i + 1) = l.take i ++ [x] := by
  rw [List.take_add_one, h]; rfl
def spAreParts : Sp := fun vs H Q _ => ∃ (v : V) (ps : List Part), vs = [v] ∧ PartsAt H v ps ∧ PartsShort ps ∧ ∀ H', Same H H' → Q (.bl (partsB ps)) H'
theorem ok_are_parts (T : Tx K mg) (F : FnP K ("are_parts", none) "are_parts" "are_parts" s_are_parts fd) : FnOk P w K mg base CX0 4 (He.fAd K ("are_parts", none)) fd ["value"] spAreParts := by
  obtain ⟨f1, F1⟩ := T.F_is_part
  obtain ⟨t4, m4⟩ := T.c_MOST_PARTS
  refine F.ok sc_are_parts (fun vs H Q E h => ?_) (fun cdv A outer s H vs Q E hr h => ?_)
  · obtain ⟨x, p, rfl, _⟩ := h; rfl
  obtain ⟨v, ps, rfl, ⟨a, us, rfl, ha, al⟩, ⟨sh1, sh2⟩, q⟩ := h
  refine ⟨_, PSs.nox (pss_cons (ps_if (PW.pt (pw_or (pt_not (pt_val (pe_callB call_isi (by rfl) T.n_isinstance (by decide +kernel) (pa_cons (pv 0) (pa_cons (pe_bltn (v := .ty "tuple") (by rfl) T.n_tuple (by decide +kernel) rfl) pa_nil)))))
        (pw_or1 (pt_cmpR op_gt (pe_callB call_len_seq (by rfl) T.n_len PySem.boot_len (pa_cons (pv 0) pa_nil)) (pe_glob (v := .int 4) (by rfl) m4 ⟨_, rfl⟩) (nomark _)))))
      (pss_one (ps_ret pe_bl)) pss_nil)
    (pss_cons (ps_for PassesOwn.never rfl (pi_tup (pv 0)) (pg_name (i := 1) sc_are_parts.nd rfl (Or.inl rfl))
      (pss_one (ps_if (pt_not (pt_val (pe_call (ok_is_part T F1) hr (by rfl) T.g_is_part T.k_is_part (b_is_part F1) .nil pass0 (pa_cons (pv 1) pa_nil)))) (pss_one (ps_ret pe_bl)) pss_nil)))
    (pss_one (ps_ret (pe_cmpR op_eq (pe_callB call_lenK (by rfl) T.n_len PySem.boot_len (pa_cons (pe_scK (own := [("part", 1)]) rfl sc_are_parts.nd (pi_tup (pv 0)) (blkOk_by (N := ["value", "part"]) (sc := defScope s_are_parts) (by decide +kernel))
        (fun _ _ _ _ _ => pg_name (i := 1) sc_are_parts.nd rfl (Or.inl rfl)) (fun _ _ _ _ _ => pe_ix (r := rIxT K) ix_tup (pv 1) pe_int (fun _ _ => rfl))) pa_nil))
      (pe_callB call_len_seq (by rfl) T.n_len PySem.boot_len (pa_cons (pv 0) pa_nil)) (nomark _)))))), ?_⟩
  refine ⟨_, rfl, .ref a, .ty "tuple", .type "tuple", .type "tuple", true, rfl, ClsV.ty _, TyX.base (TyOf.tup ha), kit_ty (by decide +kernel), _, rfl, iteF ?_⟩
  refine ⟨_, rfl, a, _, rfl, .inr (SqT.of ha), _, _, rfl, rfl, _, rfl, ite2 (fun h1 => ?_) (fun h1 => ?_)⟩
  · have l4 : ¬ ps.length ≤ 4 := by
      have e1 : (4 : Int) < (us.length : Int) := of_decide_eq_true h1
      rw [al.1] at e1; omega
    have := q H (Same.refl H)
    unfold partsB at this
    rw [decide_eq_false l4] at this; exact this
  have l4 : ps.length ≤ 4 := by
    have e1 : ¬ (4 : Int) < (us.length : Int) := fun z => h1 (decide_eq_true z)
    rw [al.1] at e1; omega
  -- for part in value
  refine ⟨_, rfl, a, rfl, ⟨_, SqT.of ha⟩, for_tup (K := K) (a := a) (xs := us) (fun i σ H2 => (∃ v1, σ = [some (.ref a), v1]) ∧ Same H H2 ∧ (ps.take i).all partB = true) ⟨⟨none, rfl⟩, Same.refl H, rfl⟩ (fun i σ H2 _ z => SqT.of (z.2.1 _ _ ha)) ?_ ?_⟩
  · rintro i x σ H2 hx ⟨⟨v1, rfl⟩, sm, hall⟩
    obtain ⟨p, hp, pa⟩ := al.get hx
    refine ⟨_, rfl, x, p, rfl, pa.mono (tups_of sm), sh2 p (List.mem_of_getElem? hp), fun H3 sm3 => ⟨_, rfl, ite2 (fun h2 => ?_) (fun h2 => ?_)⟩⟩
    · have e : partB p = false := by simpa using h2
      have hn : ps.all partB = false := Bool.eq_false_iff.mpr fun z => by
        have := List.all_eq_true.mp z p (List.mem_of_getElem? hp); rw [e] at this; cases this
      have := q H3 (sm.trans sm3)
      unfold partsB at this
      rw [decide_eq_true l4, hn] at this; exact this
    · have e : partB p = true := by simpa using h2
      refine ⟨⟨some x, rfl⟩, sm.trans sm3, ?_⟩
      rw [take_succ_of hp, List.all_append, hall, List.all_cons, e] <;> rfl
  · rintro σ H2 ⟨⟨v1, rfl⟩, sm, hall⟩
    rw [al.1, List.take_length] at hall
    -- the set of the names
    refine ⟨_, rfl, a, rfl, ⟨_, SqT.of (sm _ _ ha)⟩, fun D hD => ?_⟩
    refine scK_tup (K := K) (a := a) (xs := us) (fun i H3 => Same H2 H3 ∧ ∃ S, H3 D = some (SetK P w D S (distinct ((ps.take i).map (·.1))).length) ∧ ∀ j, S (Sum.inr j) = true ↔ j ∈ (ps.take i).map (·.1)) ?_ ?_ ?_ ?_
    · exact ⟨same_new hD, fun _ => false, upd_same, by simp⟩
    · rintro i H3 _ ⟨s3, _⟩
      exact SqT.of (s3 _ _ (sm _ _ ha))
    · rintro i x H3 hx ⟨s3, S, hS, hmem⟩
      obtain ⟨p, hp, pa⟩ := al.get hx
      obtain ⟨b, xs, rfl, hb, x0, x1⟩ := partAt_ix pa
      refine ⟨rfl, _, rfl, b, _, 0, _, rfl, rfl, SqT.of (s3 _ _ (sm _ _ hb)), atI_nat x0, Sum.inr p.1, S, _, rfl, hS, ?_, ?_, ?_⟩
      · have h3 := length_distinct ((ps.take i).map (·.1))
        rw [List.length_map, List.length_take] at h3
        have : 2000 < scanBound := by decide
        omega
      · exact same_mut s3 hD
      · refine ⟨fun j => S j || decide (j = Sum.inr p.1), ?_, fun j => ?_⟩
        · have en : (distinct ((ps.take (i + 1)).map (·.1))).length = if S (Sum.inr p.1) = true then (distinct ((ps.take i).map (·.1))).length else (distinct ((ps.take i).map (·.1))).length + 1 := by
            have em : (S (Sum.inr p.1) = true) = (p.1 ∈ distinct ((ps.take i).map (·.1))) := propext ((hmem _).trans mem_distinct.symm)
            rw [take_succ_of hp, List.map_append, List.map_cons, List.map_nil, distinct_snoc, length_addNew]
            simp only [em]
          rw [en, upd_same] <;> rfl
        · rw [take_succ_of hp, List.map_append]
          simp only [Bool.or_eq_true, hmem, decide_eq_true_eq, Sum.inr.injEq, List.mem_append, List.map_cons, List.map_nil, List.mem_singleton]
    · rintro H3 ⟨s3, S, hS, hmem⟩
      rw [al.1, List.take_length] at hS
      refine ⟨D, S, _, rfl, hS, _, rfl, a, _, rfl, .inr (SqT.of (s3 _ _ (sm _ _ ha))), rfl, ?_⟩
      have := q H3 (sm.trans s3)
      unfold partsB at this
      rw [decide_eq_true l4, hall] at this
      have e : decide (V.int ((distinct (ps.map (·.1))).length : Nat) = V.int (us.length : Nat)) = decide ((distinct (ps.map (·.1))).length = ps.length) := by
        rw [al.1]; simp <;> omega
      show Q (V.bl (decide (V.int ((distinct (ps.map (·.1))).length : Nat) = V.int (us.length : Nat)))) H3
      rw [e]; exact this
end
end Bg
set_option Elab.async false
set_option linter.all false
set_option maxRecDepth 100000
set_option maxHeartbeats 4000000
namespace Bg
open PySem PySem.Spec PyProof.Rows L2
/-! ### dicts whose keys are texts -/
def KD (kvs : List (Key × V)) (ks : List Str) (R : Str → V → Prop) : Prop := kvs.map (·.1) = ks.map Sum.inr ∧ ∀ k v, valV kvs (Sum.inr k) = some v → R k v
theorem mem_of_valV {kvs : List (Key × V)} {k : Key} {v : V} (h : valV kvs k = some v) : (k, v) ∈ kvs := by
  unfold valV at h
  cases e : kvs.find? (fun kv => decide (kv.1 = k)) with
  | none => rw [e] at h; cases h
  | some p =>
    rw [e] at h
    have h1 := List.find?_some e
    have h2 := List.mem_of_find?_eq_some e
    simp at h h1
    rw [← h, ← h1]
    exact h2
theorem valV_some_iff {kvs : List (Key × V)} {k : Key} : (∃ v, valV kvs k = some v) ↔ k ∈ kvs.map (·.1) := by
  constructor
  · rintro ⟨v, h⟩; exact List.mem_map.mpr ⟨_, mem_of_valV h, rfl⟩
  · intro h
    cases e : valV kvs k with
    | some v => exact ⟨v, rfl⟩
    | none => exact absurd h (valV_not e)
section
variable {kvs : List (Key × V)} {ks : List Str} {R R' : Str → V → Prop} {k : Str} {v : V}
theorem KD.nil : KD [] [] R := ⟨rfl, fun k v h => by cases h⟩
theorem KD.mono (h : KD kvs ks R) (f : ∀ k v, R k v → R' k v) : KD kvs ks R' := ⟨h.1, fun k v e => f k v (h.2 k v e)⟩
theorem KD.has (h : KD kvs ks R) : (∃ v, valV kvs (Sum.inr k) = some v) ↔ k ∈ ks := by
  rw [valV_some_iff, h.1]; simp
theorem KD.some (h : KD kvs ks R) (hk : k ∈ ks) : ∃ v, valV kvs (Sum.inr k) = some v ∧ R k v := by
  obtain ⟨v, e⟩ := h.has.mpr hk; exact ⟨v, e, h.2 k v e⟩
theorem KD.none (h : KD kvs ks R) (hk : k ∉ ks) : valV kvs (Sum.inr k) = none := by
  cases e : valV kvs (Sum.inr k) with
  | none => rfl
  | some v => exact absurd (h.has.mp ⟨v, e⟩) hk
theorem KD.isSome (h : KD kvs ks R) : (valV kvs (Sum.inr k)).isSome = decide (k ∈ ks) := by
  by_cases hk : k ∈ ks
  · obtain ⟨v, e, _⟩ := h.some hk; rw [e, decide_eq_true hk]; rfl
  · rw [h.none hk, decide_eq_false hk]; rfl
theorem KD.length (h : KD kvs ks R) : kvs.length = ks.length := by
  have := congrArg List.length h.1; simpa using this
theorem KD.put (h : KD kvs ks R) (f : ∀ j u, j ≠ k → R j u → R' j u) (hv : R' k v) : KD (putK kvs (Sum.inr k) v) (addNew ks k) R' := by
  constructor
  · by_cases hk : k ∈ ks
    · obtain ⟨u, e, _⟩ := h.some hk
      unfold putK addNew
      rw [if_pos hk, if_pos (by
        have := mem_of_valV e
        exact List.any_eq_true.mpr ⟨_, this, by simp⟩), List.map_map, ← h.1]
      refine List.map_congr_left fun p _ => ?_
      show (if p.1 = Sum.inr k then (p.1, v) else p).1 = p.1
      split <;> rfl
    · rw [putK_new _ (h.none hk)]
      unfold addNew
      rw [if_neg hk, List.map_append, List.map_append, h.1]
      rfl
  · intro j u e
    by_cases hj : j = k
    · subst hj
      have : valV (putK kvs (Sum.inr j) v) (Sum.inr j) = Option.some v := by rw [valV_put, if_pos rfl]
      rw [this] at e; cases e; exact hv
    · have : valV (putK kvs (Sum.inr k) v) (Sum.inr j) = valV kvs (Sum.inr j) := by rw [valV_put, if_neg (fun z => hj (Sum.inr.inj z))]
      rw [this] at e
      exact f j u hj (h.2 j u e)
theorem KD.at (h : KD kvs ks R) {i : Nat} {p : Key × V} (e : kvs[i]? = Option.some p) : ∃ j, ks[i]? = Option.some j ∧ p.1 = Sum.inr j := by
  have h1 : (kvs.map (·.1))[i]? = Option.some p.1 := by rw [List.getElem?_map, e]; rfl
  rw [h.1, List.getElem?_map] at h1
  cases q : ks[i]? with
  | none => rw [q] at h1; cases h1
  | some j => rw [q] at h1; exact ⟨j, rfl, (Option.some.inj h1).symm⟩
end
/-- a dict comprehension over a walk -/
theorem dc_it {J : It} {n : Nat} {G : Hp → Prop} {Y : Nat → Hp → V → Hp → Prop} (wk : Walk J n G Y) {g : TG} {tt : TT} {tk tv : TE} {vs : List Nat} {σ : L2.St} {H1 : Hp} {D : Addr} {Qd : Hp → Prop} (Pv : Nat → Hp → Prop) (start : Pv 0 (upd H1 D (.dK [])))
    (stays : ∀ i H, i ≤ n → Pv i H → G H)
    (turn : ∀ i x H H', i < n → Pv i H → Y i H x H' → g x (wipe σ vs) H' fun σ2 H2 => wipe σ2 vs = wipe σ vs ∧ tt σ2 H2 fun b H3 =>
      if b = true then tk σ2 H3 fun y H4 => tv σ2 H4 fun z H5 => ∃ kvs k, y = kV k ∧ H5 D = some (.dK kvs) ∧ kvs.length < sizeLine ∧ Pv (i + 1) (upd H5 D (.dK (putK kvs k z))) else Pv (i + 1) H3) (fin : ∀ H, Pv n H → Qd H) :
    ∃ W : Nat → Nat → Hp → Prop, (∃ m, W 0 m (upd H1 D (.dK []))) ∧ ∀ i m H, W i m H → (J.stop i H ∧ Qd H) ∨ (J.go i H ∧ ∃ N : Hp → Prop, (∀ H', N H' → ∃ m', m' < m ∧ W (i + 1) m' H') ∧ ∀ x H', J.yld i H x H' → g x (wipe σ vs) H' fun σ2 H2 =>
      wipe σ2 vs = wipe σ vs ∧ tt σ2 H2 fun b H3 => if b = true then tk σ2 H3 fun y H4 => tv σ2 H4 fun z H5 => ∃ kvs k, y = kV k ∧ H5 D = some (.dK kvs) ∧ kvs.length < sizeLine ∧ N (upd H5 D (.dK (putK kvs k z))) else N H3) := by
  refine ⟨fun i m H => m + i = n ∧ Pv i H, ⟨n, rfl, start⟩, fun i m H h => ?_⟩
  obtain ⟨e, p⟩ := h
  have q := stays i H (by omega) p
  rcases Nat.lt_or_ge i n with lt | ge
  · exact .inr ⟨wk.goes i H lt q, Pv (i + 1), fun H' p' => ⟨m - 1, by omega, by omega, p'⟩, fun x H' y => turn i x H H' lt p (wk.yields i H x H' lt q y)⟩
  · have : i = n := by omega
    subst this
    exact .inl ⟨wk.stops H q, fin H p⟩
end Bg
set_option Elab.async false
set_option linter.all false
set_option maxRecDepth 100000
set_option maxHeartbeats 4000000
namespace Bg
open PySem PySem.Spec PyProof.Rows L2
def rkinds (rs : List Row) : List Str := rs.map fun r => r.1
def rmakers (rs : List Row) : List Str := rs.map fun r => r.2.1
def RowShort (r : Row) : Prop := r.1.length ≤ 100000 ∧ r.2.1.length ≤ 100000 ∧ PartsShort r.2.2
def RowsShort (rs : List Row) : Prop := rs.length ≤ 1000 ∧ ∀ r ∈ rs, RowShort r
structure EachOk (rs : List Row) : Prop where
  good : ∀ r ∈ rs, kindB r.1 = true ∧ nameB r.2.1 = true ∧ partsB r.2.2 = true
  nd : (rmakers rs).Nodup
  few : rs.length ≤ 12
  kinds : (distinct (rkinds rs)).length ≤ 4
theorem foldNew_len_ge {α : Type} [DecidableEq α] : ∀ (l acc : List α), acc.length ≤ (l.foldl addNew acc).length
  | [], acc => Nat.le_refl _
  | a :: r, acc => by
    rw [List.foldl_cons]
    refine Nat.le_trans ?_ (foldNew_len_ge r _)
    rw [length_addNew]; split <;> omega
theorem distinct_take_len {α : Type} [DecidableEq α] (l : List α) (i : Nat) : (distinct (l.take i)).length ≤ (distinct l).length := by
  have e : distinct l = (l.drop i).foldl addNew (distinct (l.take i)) := by
    unfold distinct; rw [← List.foldl_append, List.take_append_drop]
  rw [e]; exact foldNew_len_ge _ _
theorem rkinds_take_succ {rs : List Row} {i : Nat} {r : Row} (h : rs[i]? = some r) : rkinds (rs.take (i + 1)) = rkinds (rs.take i) ++ [r.1] := by
  rw [take_succ_of h]; simp [rkinds]
theorem rmakers_take_succ {rs : List Row} {i : Nat} {r : Row} (h : rs[i]? = some r) : rmakers (rs.take (i + 1)) = rmakers (rs.take i) ++ [r.2.1] := by
  rw [take_succ_of h]; simp [rmakers]
theorem rkinds_take (rs : List Row) (i : Nat) : rkinds (rs.take i) = (rkinds rs).take i := by simp [rkinds, List.map_take]
theorem rmakers_take (rs : List Row) (i : Nat) : rmakers (rs.take i) = (rmakers rs).take i := by simp [rmakers, List.map_take]
theorem addNew_of_not {α : Type} [DecidableEq α] {l : List α} {k : α} (h : k ∉ l) : addNew l k = l ++ [k] := by unfold addNew; rw [if_neg h]
theorem addNew_of_mem {α : Type} [DecidableEq α] {l : List α} {k : α} (h : k ∈ l) : addNew l k = l := by unfold addNew; rw [if_pos h]
theorem not_mem_take_of_nodup {α : Type} {l : List α} (nd : l.Nodup) {i : Nat} {x : α} (h : l[i]? = some x) : x ∉ l.take i := by
  intro m
  obtain ⟨j, hj⟩ := List.getElem?_of_mem m
  have lt : j < i := by
    have := (List.getElem?_eq_some_iff.mp hj).1
    rw [List.length_take] at this; omega
  rw [List.getElem?_take_of_lt lt] at hj
  exact absurd (nd_ix nd hj h) (by omega)
/-- the unpacking of a row into three names -/
theorem row_open {H : Hp} {v : V} {r : Row} (h : RowAt H v r) : ∃ a u, v = .ref a ∧ H a = some (.tup [.str r.1, .str r.2.1, u]) ∧ PartsAt H u r.2.2 := h
section
variable {P : Program} {w : World} {K : PySem.W.Frag} {mg : Str → Option Value} {base : Heap} {fd : FuncData}
abbrev TrueR : Str → V → Prop := fun _ _ => True
def spCheckEach : Sp := fun vs H Q _ => ∃ (a : Addr) (rs : List Row), vs = [.ref a] ∧ RowsAt H a rs ∧ RowsShort rs ∧ EachOk rs ∧ ∀ H', Same H H' → Q .non H'
theorem ok_check_each_row (T : Tx K mg) (F : FnP K ("check_each_row_kinds", none) "check_each_row" "check_each_row" s_check_each_row_kinds fd) : FnOk P w K mg base CX0 5 (He.fAd K ("check_each_row_kinds", none)) fd ["rows"] spCheckEach := by
  obtain ⟨f1, F1⟩ := T.F_is_name
  obtain ⟨f2, F2⟩ := T.F_is_kind_name
  obtain ⟨f3, F3⟩ := T.F_are_parts
  obtain ⟨t4, m4⟩ := T.c_MOST_KINDS
  obtain ⟨t12, m12⟩ := T.c_MOST_ROWS
  refine F.ok sc_check_each_row_kinds (fun vs H Q E h => ?_) (fun cdv A outer s H vs Q E hr h => ?_)
  · obtain ⟨x, p, rfl, _⟩ := h; rfl
  obtain ⟨a, rs, rfl, ⟨us, ha, al⟩, ⟨n1000, sh⟩, ok, q⟩ := h
  have hu := hu_of hr
  have nd := sc_check_each_row_kinds.nd
  refine ⟨_, PSs.nox (pss_cons (ps_set (i := 1) nd rfl (.inl rfl) pe_dnewK) (pss_cons (ps_set (i := 2) nd rfl (.inl rfl) pe_dnewK)
    (pss_one (ps_for PassesOwn.never rfl (pi_enum (by rfl) T.n_enumerate (pa_cons (pv 0) pa_nil))
      (pg_tup rfl (pgs_cons (pg_name (i := 3) nd rfl (.inl rfl)) (pgs_cons (pg_tup rfl (pgs_cons (pg_name (i := 4) nd rfl (.inl rfl)) (pgs_cons (pg_name (i := 5) nd rfl (.inl rfl)) (pgs_cons (pg_name (i := 6) nd rfl (.inl rfl)) pgs_nil)))) pgs_nil)))
      (pss_cons (ps_if (PW.pt (pw_or (pt_not (pt_val (pe_call (ok_is_kind_name T F2) (hr.mono (by decide)) (by rfl) T.g_is_kind_name T.k_is_kind_name (b_is_kind_name F2) .nil pass0 (pa_cons (pv 4) pa_nil))))
          (pw_or (pt_not (pt_val (pe_call (ok_is_name T F1) (hr.mono (by decide)) (by rfl) T.g_is_name T.k_is_name (b_is_name F1) .nil pass0 (pa_cons (pv 5) pa_nil))))
            (pw_or1 (pt_not (pt_val (pe_call (ok_are_parts T F3) hr (by rfl) T.g_are_parts T.k_are_parts (b_are_parts F3) .nil pass0 (pa_cons (pv 6) pa_nil)))))))) (pss_one ps_never) pss_nil)
      (pss_cons (ps_dput hu (pv 1) (pv 4) pe_bl rfl)
      (pss_cons (ps_if (PW.pt (pw_or (pt_cmp (pc_din hu (pv 5) (pv 2))) (pw_or (pt_cmpR op_ge (pv 3) (pe_glob (v := .int 12) (by rfl) m12 ⟨_, rfl⟩) (nomark _))
          (pw_or1 (pt_cmpR op_gt (pe_callB call_lenD (by rfl) T.n_len PySem.boot_len (pa_cons (pv 1) pa_nil)) (pe_glob (v := .int 4) (by rfl) m4 ⟨_, rfl⟩) (nomark _)))))) (pss_one ps_never) pss_nil)
      (pss_one (ps_dput hu (pv 2) (pv 5) pe_bl rfl))))))))), ?_⟩
  intro dk hdk dm hdm
  have hdm0 : H dm = none := (same_new hdk).free hdm
  have kne : dk ≠ dm := ne_of_none upd_same hdm
  have s1 : Same H (upd (upd H dk (.dK [])) dm (.dK [])) := (same_new hdk).trans (same_new hdm)
  refine ⟨_, rfl, a, us, rfl, .inl (.inl (s1 _ _ ha)), for_it (walk_enum (K := K) (a := a) (xs := us)) (fun i σ H2 => (∃ v3 v4 v5 v6, σ = [some (.ref a), some (.ref dk), some (.ref dm), v3, v4, v5, v6]) ∧ Same H H2 ∧
    (∃ kvs, H2 dk = some (.dK kvs) ∧ KD kvs (distinct (rkinds (rs.take i))) TrueR) ∧ ∃ kvs, H2 dm = some (.dK kvs) ∧ KD kvs (rmakers (rs.take i)) TrueR) ?_ (fun i σ H2 _ z => .inl (.inl (z.2.1 _ _ ha))) ?_ ?_⟩
  · exact ⟨⟨none, none, none, none, rfl⟩, s1, ⟨[], by rw [upd_ne kne, upd_same], KD.nil⟩, [], upd_same, KD.nil⟩
  · rintro i x σ H2 H3 hi ⟨⟨v3, v4, v5, v6, rfl⟩, sm, ⟨kvs, hk, kd⟩, mvs, hm, md⟩ ⟨tp, x1, x2, rfl, ntp, rfl, e1, e2⟩
    cases e1
    obtain ⟨r, hrr, ra⟩ := al.get e2
    obtain ⟨b, u, rfl, hb, pa⟩ := ra
    obtain ⟨g1, g2, g3⟩ := ok.good r (List.mem_of_getElem? hrr)
    obtain ⟨l1, l2, l3⟩ := sh r (List.mem_of_getElem? hrr)
    have s3 : Same H (upd H2 tp (.tup [.int (i : Nat), .ref b])) := sm.trans (same_new ntp)
    refine ⟨tp, _, rfl, .inl (.inl upd_same), rfl, _, _, rfl, _, _, rfl, ⟨b, _, rfl, .inl (.inl (s3 _ _ hb)), rfl, _, _, rfl, _, _, rfl, _, _, rfl, rfl, rfl, ?_⟩⟩
    refine ⟨_, rfl, _, rfl, l1, _, rfl, ?_⟩
    rw [g1]
    refine iteF ⟨_, rfl, _, rfl, l2, _, rfl, ?_⟩
    rw [g2]
    refine iteF ⟨_, rfl, u, _, rfl, pa.mono (tups_of s3), l3, fun H4 s4 => ⟨_, rfl, ?_⟩⟩
    rw [g3]
    have s04 : Same H H4 := s3.trans s4
    have hk4 : H4 dk = some (.dK kvs) := s4 _ _ ((same_new ntp) _ _ hk)
    have hm4 : H4 dm = some (.dK mvs) := s4 _ _ ((same_new ntp) _ _ hm)
    have kl : kvs.length ≤ 1000 := by
      rw [kd.length]
      have := length_distinct (rkinds (rs.take i))
      unfold rkinds at this
      rw [List.length_map, List.length_take] at this
      unfold rkinds; omega
    have ml : mvs.length ≤ 1000 := by
      rw [md.length]; unfold rmakers; rw [List.length_map, List.length_take]; omega
    refine iteF ⟨_, rfl, _, rfl, dk, _, rfl, DPut.k (k := Sum.inr r.1) hk4 (small1000 kl), ?_⟩
    have kd' := kd.put (k := r.1) (v := .bl true) (R' := TrueR) (fun _ _ _ _ => trivial) trivial
    rw [← distinct_snoc, ← rkinds_take_succ hrr] at kd'
    have hm5 : (upd H4 dk (.dK (putK kvs (Sum.inr r.1) (.bl true)))) dm = some (.dK mvs) := by rw [upd_ne kne.symm]; exact hm4
    have notin : r.2.1 ∉ rmakers (rs.take i) := by
      rw [rmakers_take]
      exact not_mem_take_of_nodup ok.nd (by unfold rmakers; rw [List.getElem?_map, hrr]; rfl)
    refine ⟨_, rfl, _, rfl, dm, _, rfl, DGet.k (k := Sum.inr r.2.1) hm5, _, rfl, ?_⟩
    rw [md.none notin]
    refine iteF ⟨_, rfl, _, _, rfl, rfl, _, rfl, ?_⟩
    have lti : i < rs.length := (List.getElem?_eq_some_iff.mp hrr).1
    have few := ok.few
    have d1 : decide ((12 : Int) ≤ ((i : Nat) : Int)) = false := decide_eq_false (by omega)
    rw [d1]
    refine iteF ⟨_, rfl, dk, _, rfl, upd_same, _, _, rfl, rfl, _, rfl, ?_⟩
    have kl' : (putK kvs (Sum.inr r.1) (V.bl true)).length ≤ 4 := by
      rw [kd'.length, rkinds_take]; exact Nat.le_trans (distinct_take_len _ _) ok.kinds
    have d2 : decide ((4 : Int) < ((putK kvs (Sum.inr r.1) (V.bl true)).length : Int)) = false := decide_eq_false (by omega)
    rw [d2]
    refine iteF ⟨_, rfl, _, rfl, dm, _, rfl, DPut.k (k := Sum.inr r.2.1) hm5 (small1000 ml), ?_⟩
    have md' := md.put (k := r.2.1) (v := .bl true) (R' := TrueR) (fun _ _ _ _ => trivial) trivial
    rw [addNew_of_not notin, ← rmakers_take_succ hrr] at md'
    refine ⟨⟨_, _, _, _, rfl⟩, same_mut (same_mut s04 hdk) hdm0, ⟨_, by rw [upd_ne kne, upd_same], kd'⟩, _, upd_same, md'⟩
  · rintro σ H2 ⟨_, sm, _⟩
    exact q H2 sm
end
end Bg
set_option Elab.async false
set_option linter.all false
set_option maxRecDepth 100000
set_option maxHeartbeats 4000000
namespace Bg
open PySem PySem.Spec PyProof.Rows L2
theorem inV_strs (k : Str) (ks : List Str) : inV (.str k) (ks.map V.str) = decide (k ∈ ks) := by
  induction ks with
  | nil => rfl
  | cons a r ih =>
    have e : inV (.str k) ((a :: r).map V.str) = ((a == k) || inV (.str k) (r.map V.str)) := rfl
    rw [e, ih]
    by_cases h : a = k
    · subst h; simp
    · have h2 : ¬ k = a := fun z => h z.symm
      simp [h, h2, List.mem_cons]
theorem flat_str (ks : List Str) : (ks.map V.str).all flatV = true := by
  rw [List.all_eq_true]; intro v hv
  obtain ⟨x, _, rfl⟩ := List.mem_map.mp hv; rfl
def InnerOk (rs : List Row) : Prop := ∀ r ∈ rs, ∀ p ∈ r.2.2, p.2.1 = ("byte" : Str) ∨ p.2.1 ∈ rkinds rs
section
variable {P : Program} {w : World} {K : PySem.W.Frag} {mg : Str → Option Value} {base : Heap} {fd : FuncData}
/-- three names out of a row -/
abbrev gRow (K : PySem.W.Frag) (i j l : Nat) : TG := gTup K 3 (gCons (gName i) (gCons (gName j) (gCons (gName l) gNil)))
def spCheckInner : Sp := fun vs H Q _ => ∃ (a : Addr) (rs : List Row), vs = [.ref a] ∧ RowsAt H a rs ∧ RowsShort rs ∧ InnerOk rs ∧ ∀ H', Same H H' → Q .non H'
theorem ok_check_inner_kinds (T : Tx K mg) (F : FnP K ("check_inner_kinds", none) "check_inner_kinds" "check_inner_kinds" s_check_inner_kinds fd) : FnOk P w K mg base CX0 1 (He.fAd K ("check_inner_kinds", none)) fd ["rows"] spCheckInner := by
  obtain ⟨tB, mB⟩ := T.c_BYTE
  refine F.ok sc_check_inner_kinds (fun vs H Q E h => ?_) (fun cdv A outer s H vs Q E hr h => ?_)
  · obtain ⟨x, p, rfl, _⟩ := h; rfl
  obtain ⟨a, rs, rfl, ⟨us, ha, al⟩, ⟨n1000, sh⟩, ok, q⟩ := h
  have nd := sc_check_inner_kinds.nd
  refine ⟨_, PSs.nox (pss_cons (ps_setLc (i := 4) (own := [("kind", 1), ("maker", 2), ("parts", 3)]) (g := gRow K 1 2 3) (by rfl) nd rfl rfl (sw_true rfl rfl rfl (by decide +kernel)) (pi_list (pv 0))
      (blkOk_by (N := ["rows", "kind", "maker", "parts", "known", "at", "part"]) (sc := defScope s_check_inner_kinds) (by decide +kernel))
      (fun _ _ _ _ _ => pg_tup rfl (pgs_cons (pg_name (i := 1) nd rfl (Or.inl rfl)) (pgs_cons (pg_name (i := 2) nd rfl (Or.inl rfl)) (pgs_cons (pg_name (i := 3) nd rfl (Or.inl rfl)) pgs_nil)))) (fun _ _ _ _ _ => pts_nil) (fun _ _ _ _ _ => pv 1))
    (pss_one (ps_for PassesOwn.never rfl (pi_enum (by rfl) T.n_enumerate (pa_cons (pv 0) pa_nil))
      (pg_tup rfl (pgs_cons (pg_name (i := 5) nd rfl (.inl rfl)) (pgs_cons (pg_tup rfl (pgs_cons (pg_name (i := 1) nd rfl (.inl rfl)) (pgs_cons (pg_name (i := 2) nd rfl (.inl rfl)) (pgs_cons (pg_name (i := 3) nd rfl (.inl rfl)) pgs_nil)))) pgs_nil)))
      (pss_one (ps_for PassesOwn.never rfl (pi_tup (pv 3)) (pg_name (i := 6) nd rfl (.inl rfl))
        (pss_one (ps_if (PW.pt (pw_and (pt_cmpR op_ne (pe_ix ix_tup (pv 6) pe_int (fun _ _ => rfl)) (pe_glob (v := .str "byte") (by rfl) mB ⟨_, rfl⟩) (nomark _))
          (pw_and1 (pt_cmpR op_notIn_seq (pe_ix ix_tup (pv 6) pe_int (fun _ _ => rfl)) (pv 4) (by rfl))))) (pss_one ps_never) pss_nil))))))), ?_⟩
  refine ⟨_, rfl, a, rfl, ⟨_, .inl (.inl ha)⟩, fun D hD => lc_it (walk_list (K := K) (a := a) (xs := us)) (fun i H2 => Same H H2 ∧ H2 D = some (.lst ((rkinds (rs.take i)).map V.str))) ⟨same_new hD, upd_same⟩ (fun i H2 _ z => .inl (.inl (z.1 _ _ ha))) ?_ ?_⟩
  · rintro i x H2 H3 hi ⟨sm, hDi⟩ ⟨rfl, hx⟩
    obtain ⟨r, hrr, b, u, rfl, hb, pa⟩ := al.get hx
    refine ⟨b, _, rfl, .inl (.inl (sm _ _ hb)), rfl, _, _, rfl, _, _, rfl, _, _, rfl, rfl, rfl, _, rfl, _, hDi, ?_, same_mut sm hD, ?_⟩
    · unfold rkinds; rw [List.length_map, List.length_map, List.length_take]; exact small1000 (by omega)
    · rw [upd_same, rkinds_take_succ hrr, List.map_append] <;> rfl
  · rintro H2 ⟨sm, hDi⟩
    rw [al.1, List.take_length] at hDi
    have s2 : Same H2 H2 := Same.refl _
    refine ⟨_, rfl, a, us, rfl, .inl (.inl (sm _ _ ha)), for_it (walk_enum (K := K) (a := a) (xs := us)) (fun i σ H3 => (∃ v1 v2 v3 v5 v6, σ = [some (.ref a), v1, v2, v3, some (.ref D), v5, v6]) ∧ Same H2 H3) ⟨⟨_, _, _, _, _, rfl⟩, s2⟩ (fun i σ H3 _ z => .inl (.inl (z.2 _ _ (sm _ _ ha)))) ?_ ?_⟩
    · rintro i x σ H3 H4 hi ⟨⟨v1, v2, v3, v5, v6, rfl⟩, s3⟩ ⟨tp, x1, x2, rfl, ntp, rfl, e1, e2⟩
      cases e1
      obtain ⟨r, hrr, b, u, rfl, hb, pa⟩ := al.get e2
      have s4 : Same H2 (upd H3 tp (.tup [.int (i : Nat), .ref b])) := s3.trans (same_new ntp)
      have pa4 : PartsAt (upd H3 tp (.tup [.int (i : Nat), .ref b])) u r.2.2 := pa.mono (tups_of (sm.trans s4))
      obtain ⟨c, ws, rfl, hc, wl⟩ := pa4
      refine ⟨tp, _, rfl, .inl (.inl upd_same), rfl, _, _, rfl, _, _, rfl, ⟨b, _, rfl, .inl (.inl (s4 _ _ (sm _ _ hb))), rfl, _, _, rfl, _, _, rfl, _, _, rfl, rfl, rfl, ?_⟩⟩
      refine ⟨_, rfl, c, rfl, ⟨_, SqT.of hc⟩, for_it (walk_tup (K := K) (a := c) (xs := ws)) (fun j σ H5 => (∃ v1 v2 v5 v6, σ = [some (.ref a), v1, v2, some (.ref c), some (.ref D), v5, v6]) ∧ H5 = upd H3 tp (.tup [.int (i : Nat), .ref b])) ⟨⟨_, _, _, _, rfl⟩, rfl⟩ (fun j σ H5 _ z => by rw [z.2]; exact SqT.of hc) ?_ ?_⟩
      · rintro j y σ H5 H6 hj ⟨⟨v1, v2, v5, v6, rfl⟩, rfl⟩ ⟨rfl, hy⟩
        obtain ⟨p, hp, ppa⟩ := wl.get hy
        obtain ⟨d, xs, rfl, hd, x0, x1⟩ := partAt_ix ppa
        refine ⟨_, rfl, d, _, _, _, rfl, rfl, SqT.of hd, atI_nat (j := 1) x1, rfl, _, rfl, ite2 (fun h1 => ?_) (fun h1 => ⟨⟨_, _, _, _, rfl⟩, rfl⟩)⟩
        have nb : ¬ p.2.1 = ("byte" : Str) := by
          intro z; rw [z] at h1; simp at h1
        have kin : p.2.1 ∈ rkinds rs := (ok r (List.mem_of_getElem? hrr) p (List.mem_of_getElem? hp)).resolve_left nb
        refine ⟨_, rfl, d, _, _, _, rfl, rfl, SqT.of hd, atI_nat (j := 1) x1, _, rfl, D, _, rfl, .inl (SqL.of (s4 _ _ hDi)), rfl, flat_str _, _, rfl, ?_⟩
        rw [inV_strs, decide_eq_true kin]
        exact iteF ⟨⟨_, _, _, _, rfl⟩, rfl⟩
      · rintro σ H5 ⟨⟨v1, v2, v5, v6, rfl⟩, rfl⟩
        exact ⟨⟨_, _, _, _, _, rfl⟩, s4⟩
    · rintro σ H3 ⟨_, s3⟩
      exact q H3 (sm.trans s3)
def spCheckFinite : Sp := fun vs H Q _ => ∃ (a d : Addr) (rs : List Row) (kvs : List (Key × V)) (ks : List Str), vs = [.ref a, .ref d] ∧ RowsAt H a rs ∧ H d = some (.dK kvs) ∧ KD kvs ks TrueR ∧ (∀ r ∈ rs, r.1 ∈ ks) ∧ ∀ H', Same H H' → Q .non H'
theorem ok_check_finite (T : Tx K mg) (F : FnP K ("check_finite", none) "check_finite" "check_finite" s_check_finite fd) : FnOk P w K mg base CX0 1 (He.fAd K ("check_finite", none)) fd ["rows", "least"] spCheckFinite := by
  refine F.ok sc_check_finite (fun vs H Q E h => ?_) (fun cdv A outer s H vs Q E hr h => ?_)
  · obtain ⟨x, p, _, _, _, rfl, _⟩ := h; rfl
  obtain ⟨a, d, rs, kvs, ks, rfl, ⟨us, ha, al⟩, hd, kd, ok, q⟩ := h
  have hu := hu_of hr
  have nd := sc_check_finite.nd
  refine ⟨_, PSs.nox (pss_one (ps_for PassesOwn.never rfl (pi_enum (by rfl) T.n_enumerate (pa_cons (pv 0) pa_nil))
      (pg_tup rfl (pgs_cons (pg_name (i := 2) nd rfl (.inl rfl)) (pgs_cons (pg_tup rfl (pgs_cons (pg_name (i := 3) nd rfl (.inl rfl)) (pgs_cons (pg_name (i := 4) nd rfl (.inl rfl)) (pgs_cons (pg_name (i := 5) nd rfl (.inl rfl)) pgs_nil)))) pgs_nil)))
      (pss_one (ps_if (pt_cmp (pc_dnotin hu (pv 3) (pv 1))) (pss_one ps_never) pss_nil)))), ?_⟩
  refine ⟨_, rfl, a, us, rfl, .inl (.inl ha), for_it (walk_enum (K := K) (a := a) (xs := us)) (fun i σ H3 => (∃ v2 v3 v4 v5, σ = [some (.ref a), some (.ref d), v2, v3, v4, v5]) ∧ Same H H3) ⟨⟨_, _, _, _, rfl⟩, Same.refl _⟩ (fun i σ H3 _ z => .inl (.inl (z.2 _ _ ha))) ?_ ?_⟩
  · rintro i x σ H3 H4 hi ⟨⟨v2, v3, v4, v5, rfl⟩, s3⟩ ⟨tp, x1, x2, rfl, ntp, rfl, e1, e2⟩
    cases e1
    obtain ⟨r, hrr, b, u, rfl, hb, pa⟩ := al.get e2
    have s4 : Same H (upd H3 tp (.tup [.int (i : Nat), .ref b])) := s3.trans (same_new ntp)
    refine ⟨tp, _, rfl, .inl (.inl upd_same), rfl, _, _, rfl, _, _, rfl, ⟨b, _, rfl, .inl (.inl (s4 _ _ hb)), rfl, _, _, rfl, _, _, rfl, _, _, rfl, rfl, rfl, ?_⟩⟩
    refine ⟨_, rfl, _, rfl, d, _, rfl, DGet.k (k := Sum.inr r.1) (s4 _ _ hd), _, rfl, ?_⟩
    rw [kd.isSome, decide_eq_true (ok r (List.mem_of_getElem? hrr))]
    exact iteF ⟨⟨_, _, _, _, rfl⟩, s4⟩
  · rintro σ H3 ⟨_, s3⟩
    exact q H3 s3
end
end Bg
set_option Elab.async false
set_option linter.all false
set_option maxRecDepth 100000
set_option maxHeartbeats 4000000
namespace Bg
open PySem PySem.Spec PyProof.Rows L2
def makersOf (rs : List Row) (k : Str) : List Str := (rs.filter fun r => decide (r.1 = k)).map fun r => r.2.1
theorem makersOf_snoc (rs : List Row) (r : Row) (k : Str) : makersOf (rs ++ [r]) k = makersOf rs k ++ (if r.1 = k then [r.2.1] else []) := by
  unfold makersOf
  rw [List.filter_append, List.map_append]
  by_cases h : r.1 = k
  · simp [h]
  · simp [h]
theorem makersOf_ne {rs : List Row} {k : Str} (h : k ∈ rkinds rs) : makersOf rs k ≠ [] := by
  unfold rkinds at h
  obtain ⟨r, hr, e⟩ := List.mem_map.mp h
  unfold makersOf
  intro z
  have : r ∈ rs.filter fun r => decide (r.1 = k) := List.mem_filter.mpr ⟨hr, by simp [e]⟩
  have z2 := List.map_eq_nil_iff.mp z
  rw [z2] at this; cases this
theorem makersOf_nil {rs : List Row} {k : Str} (h : k ∉ rkinds rs) : makersOf rs k = [] := by
  unfold makersOf
  rw [List.map_eq_nil_iff, List.filter_eq_nil_iff]
  intro r hr z
  exact h (List.mem_map.mpr ⟨r, hr, by simpa using z⟩)
theorem makersOf_len (rs : List Row) (k : Str) : (makersOf rs k).length ≤ rs.length := by
  unfold makersOf; rw [List.length_map]; exact List.length_filter_le _ _
/-- a text's tuple -/
def TextsAt (H : Hp) (v : V) (ks : List Str) : Prop := ∃ t o, v = .ref t ∧ o.dict = none ∧ H t = some (.frz o (.tup (ks.map V.str)))
theorem TextsAt.mono {H H' : Hp} (t : Tups H H') {v : V} {ks : List Str} (h : TextsAt H v ks) : TextsAt H' v ks := by
  obtain ⟨a, o, e, d, x⟩ := h; exact ⟨a, o, e, d, t _ _ trivial x⟩
theorem sqT_frz {K : PySem.W.Frag} {H : Hp} {a : Addr} {o : Obj} {xs : List V} (h : H a = some (.frz o (.tup xs))) : SqT K H a xs := .inl (.inr ⟨o, h⟩)
/-! ### tuples whose object is told, for their methods -/
section
variable {X : Cx} {es : List Expr} {pos : Pos} {t : TA}
def tTupF (t : TA) : TE := fun σ H Q => t σ H fun xs H1 => xs.length ≤ sizeLine ∧ ∀ (p : Addr) (o : Obj), H1 p = none → o.dict = none → Q (.ref p) (upd H1 p (.frz o (.tup xs)))
theorem pe_tupF {x1} (h : PA X es t) : PE X (.Tuple es x1 pos) (tTupF t) := by
  constructor
  intro pins s σ H Q I hq
  refine wpAny_Tuple_spliced (thn (h.run pos pins s σ H _ I hq) fun us s1 got => ?_)
  obtain ⟨xs, H1, I1, r, z, q⟩ := got
  refine ⟨by rw [← r.length]; exact z, .ref s1.heap.objs.size, _, I1.laid (t' := s1.toks) (o := .frz { cls := .type "tuple", data := .seq us.toArray } (.tup xs)) (fun b u e => Heap.get?_push_of_some _ e) (Nat.le_refl _) ?told, rfl, q _ _ (I1.hok.fresh (Nat.le_refl _)) ?bare⟩
  case told => exact ⟨Heap.get?_push_size _ rfl, z, us, r, IsTup.new _ _⟩
  case bare => rfl
def rCatF (K : PySem.W.Frag) : R2 := fun x y H Q => ∃ a b xs ys, x = .ref a ∧ y = .ref b ∧ SqT K H a xs ∧ SqT K H b ys ∧ xs.length + ys.length ≤ sizeLine ∧ ys ≠ [] ∧
  (xs = [] → Q (.ref b) H) ∧ (xs ≠ [] → ∀ (p : Addr) (o : Obj), H p = none → o.dict = none → Q (.ref p) (upd H p (.frz o (.tup (xs ++ ys)))))
theorem op_catF : OpR X (binaryOp .Add) (rCatF X.K) := by
  intro pins s σ H x y v u Q I rx ry h
  obtain ⟨a, b, xs, ys, rfl, rfl, ha, hb, hz, hy, q0, q2⟩ := h
  by_cases hx : xs = []
  · exact op_catA pins s σ H _ _ v u Q I rx ry ⟨a, b, xs, ys, rfl, rfl, ha, hb, hz, q0, fun z => absurd hx z, fun z => absurd hx z⟩
  · cases rx
    cases ry
    obtain ⟨its, r1, p1, _⟩ := I.tuple ha
    obtain ⟨its2, r2, p2, _⟩ := I.tuple hb
    refine HT.cat_tup p1 p2 (fun z => hx (r1.nil_iff.mp z)) (fun z => absurd (r2.nil_iff.mp z) hy) (fun z => ?_) (by rw [← r1.length, ← r2.length]; exact hz)
    refine ⟨.ref s.heap.objs.size, _, I.laid (t' := s.toks) (o := .frz { cls := .type "tuple", data := .seq (its ++ its2).toArray } (.tup (xs ++ ys))) (fun b ob q => Heap.get?_push_of_some _ q) (Nat.le_refl _) ?told, rfl, q2 hx _ _ (I.hok.fresh (Nat.le_refl _)) ?bare⟩
    case told => exact ⟨Heap.get?_push_size _ rfl, by rw [List.length_append]; exact hz, _, r1.append r2, IsTup.new _ _⟩
    case bare => rfl
def tTM1 (r : V → List V → Hp → VK → Prop) (to te : TE) : TE := fun σ H Q => to σ H fun x H1 => (∃ a o xs, x = .ref a ∧ o.dict = none ∧ H1 a = some (.frz o (.tup xs))) ∧ te σ H1 fun y H2 => r x [y] H2 Q
/-- t.m(e), t a tuple whose object is told -/
theorem pe_tm1 {o e : Expr} {to te : TE} {id : String} {name : Str} {apos pos : Pos} {r : V → List V → Hp → VK → Prop} (slot : Slot "tuple" name id) (ty : typeOf (.builtin id) = pure (.type "method_descriptor")) (rule : MtR X id r) (ho : PE X o to) (he : PE X e te)
    (hs : starEach [e] X.env = [(false, eval e X.env)] := by rfl) (hbase : attributeBase o name X.env (eval o X.env) = eval o X.env := by rfl) (hline : (apos.endLine == pos.line) = true := by rfl) :
    PE X (.Call (.Attribute o name apos) [e] [] pos) (tTM1 r to te) := by
  constructor
  intro pins s σ H Q I h
  refine PySem.Call_method1 hbase hs hline (thn (ho.run pins s σ H _ I h) fun v s1 got => ?_)
  obtain ⟨x, H1, I1, r1, ⟨a, ob, xs, rfl, hd, hx⟩, q1⟩ := got
  cases r1
  obtain ⟨e1, _, its, _, t0⟩ := I1.hok a _ hx
  refine ⟨"tuple", id, PySem.F.plainAttrs_tuple, slot, ty, t0.typeIs, fun c e => by cases e; exact ⟨ob, e1, hd⟩, Calls.callWith_builtin rfl (Calls.evalArgs_plain (Calls.spliced_cons ?_))⟩
  exact thn (he.run pins s1 σ H1 _ I1 q1) fun u s2 got => by
    obtain ⟨y, H2, I2, r2, q2⟩ := got
    exact Calls.spliced_nil (rule pins s2 σ H2 (.ref a) [y] _ [u] Q I2 rfl (.cons r2 .nil) q2)
end
def MkD (H : Hp) (kvs : List (Key × V)) (rs : List Row) : Prop := KD kvs (distinct (rkinds rs)) fun k v => TextsAt H v (makersOf rs k)
theorem MkD.mono {H H' : Hp} (t : Tups H H') {kvs : List (Key × V)} {rs : List Row} (h : MkD H kvs rs) : MkD H' kvs rs := KD.mono h fun _ _ z => z.mono t
def holdOf : Part → Str × Int
  | (_, _, none) => ("byte", 0)
  | (_, k, some c) => (k, c)
def HoldAt (H : Hp) (v : V) (p : Part) : Prop := ∃ t, v = .ref t ∧ H t = some (.tup [.str (holdOf p).1, .int (holdOf p).2])
def HoldD (H : Hp) (kvs : List (Key × V)) (ps : List Part) : Prop := KD kvs (distinct (ps.map (·.1))) fun n v => ∃ p ∈ ps, p.1 = n ∧ HoldAt H v p
theorem HoldD.mono {H H' : Hp} (t : Tups H H') {kvs : List (Key × V)} {ps : List Part} (h : HoldD H kvs ps) : HoldD H' kvs ps := KD.mono h fun _ _ z => by
  obtain ⟨p, m, e, a, x, y⟩ := z; exact ⟨p, m, e, a, x, t _ _ trivial y⟩
section
variable {P : Program} {w : World} {K : PySem.W.Frag} {mg : Str → Option Value} {base : Heap} {fd : FuncData}
def spMakersBy : Sp := fun vs H Q _ => ∃ (a : Addr) (rs : List Row), vs = [.ref a] ∧ RowsAt H a rs ∧ rs.length ≤ 1000 ∧ ∀ d kvs H', Same H H' → H d = none → H' d = some (.dK kvs) → MkD H' kvs rs → Q (.ref d) H'
theorem ok_makers_by_kind (T : Tx K mg) (F : FnP K ("makers_by_kind", none) "makers_by_kind" "makers_by_kind" s_makers_by_kind fd) : FnOk P w K mg base CX0 1 (He.fAd K ("makers_by_kind", none)) fd ["rows"] spMakersBy := by
  refine F.ok sc_makers_by_kind (fun vs H Q E h => ?_) (fun cdv A outer s H vs Q E hr h => ?_)
  · obtain ⟨x, p, rfl, _⟩ := h; rfl
  obtain ⟨a, rs, rfl, ⟨us, ha, al⟩, n1000, q⟩ := h
  have hu := hu_of hr
  have nd := sc_makers_by_kind.nd
  refine ⟨_, PSs.nox (pss_cons (ps_set (i := 1) nd rfl (.inl rfl) pe_dnewK)
    (pss_cons (ps_for PassesOwn.never rfl (pi_list (pv 0)) (pg_tup rfl (pgs_cons (pg_name (i := 2) nd rfl (.inl rfl)) (pgs_cons (pg_name (i := 3) nd rfl (.inl rfl)) (pgs_cons (pg_name (i := 4) nd rfl (.inl rfl)) pgs_nil))))
      (pss_one (ps_dput hu (pv 1) (pv 2) (pe_op op_catF (pe_dget2 hu (pv 1) (pv 2) (pe_tup pa_nil) ⟨rfl, rfl, rfl, rfl⟩) (pe_tupF (pa_cons (pv 3) pa_nil))) rfl)))
    (pss_one (ps_ret (pv 1))))), ?_⟩
  intro d hd
  refine ⟨_, rfl, a, rfl, ⟨_, .inl (.inl ((same_new hd) _ _ ha))⟩, for_it (walk_list (K := K) (a := a) (xs := us)) (fun i σ H2 => (∃ v2 v3 v4, σ = [some (.ref a), some (.ref d), v2, v3, v4]) ∧ Same H H2 ∧ ∃ kvs, H2 d = some (.dK kvs) ∧ MkD H2 kvs (rs.take i))
    ⟨⟨_, _, _, rfl⟩, same_new hd, [], upd_same, KD.nil⟩ (fun i σ H2 _ z => .inl (.inl (z.2.1 _ _ ha))) ?_ ?_⟩
  · rintro i x σ H2 H3 hi ⟨⟨v2, v3, v4, rfl⟩, sm, kvs, hk, kd⟩ ⟨rfl, hx⟩
    obtain ⟨r, hrr, b, u, rfl, hb, pa⟩ := al.get hx
    refine ⟨b, _, rfl, .inl (.inl (sm _ _ hb)), rfl, _, _, rfl, _, _, rfl, _, _, rfl, rfl, ?_⟩
    refine ⟨_, rfl, d, rfl, .inl ⟨kvs, .inl hk⟩, _, rfl, Nat.zero_le _, fun e he => ?_⟩
    have hk2 : (upd H3 e (.tup [])) d = some (.dK kvs) := (same_new he) _ _ hk
    refine ⟨_, DGet.k (k := Sum.inr r.1) hk2, ?_⟩
    refine ⟨_, rfl, (by show 1 ≤ sizeLine; decide), fun f fo hf hfo => ?_⟩
    have s2 : Same H3 (upd (upd H3 e (.tup [])) f (.frz fo (.tup [.str r.2.1]))) := (same_new he).trans (same_new hf)
    have hk3 := s2 _ _ hk
    have kl : kvs.length ≤ 1000 := by
      rw [kd.length]
      have := length_distinct (rkinds (rs.take i))
      unfold rkinds at this
      rw [List.length_map, List.length_take] at this
      unfold rkinds; omega
    have done : ∀ (H5 : Hp) (v : V), Same H3 H5 → TextsAt H5 v (makersOf (rs.take (i + 1)) r.1) → ∃ kvs', (upd H5 d (.dK (putK kvs (Sum.inr r.1) v))) d = some (.dK kvs') ∧ MkD (upd H5 d (.dK (putK kvs (Sum.inr r.1) v))) kvs' (rs.take (i + 1)) := by
      intro H5 v s5 hv
      have tp : Tups H5 (upd H5 d (.dK (putK kvs (Sum.inr r.1) v))) := tups_upd fun u f z => by rw [s5 _ _ hk] at z; cases z; exact f
      refine ⟨_, upd_same, ?_⟩
      have z := KD.put (k := r.1) (v := v) (R' := fun k v' => TextsAt (upd H5 d (.dK (putK kvs (Sum.inr r.1) v))) v' (makersOf (rs.take (i + 1)) k)) (kd.mono (tups_of s5)) (fun j u hj hu => ?_) (hv.mono tp)
      · rw [← distinct_snoc, ← rkinds_take_succ hrr] at z; exact z
      · rw [take_succ_of hrr, makersOf_snoc, if_neg (fun z => hj z.symm), List.append_nil]
        exact TextsAt.mono tp hu
    by_cases hin : r.1 ∈ rkinds (rs.take i)
    · obtain ⟨v, e1, t, to, rfl, hto, ht⟩ := kd.some (mem_distinct.mpr hin)
      rw [e1]
      have ne : (makersOf (rs.take i) r.1).map V.str ≠ [] := fun z => makersOf_ne hin (List.map_eq_nil_iff.mp z)
      refine ⟨t, f, _, _, rfl, rfl, sqT_frz (s2 _ _ ht), sqT_frz upd_same, ?_, by simp, fun z => absurd z ne, fun _ p po hp hpo => ?_⟩
      · have := makersOf_len (rs.take i) r.1
        rw [List.length_map]
        rw [List.length_take] at this
        exact sz_of (by show _ + 1 ≤ _; omega)
      have s5 := s2.trans (same_new (o := .frz po (.tup ((makersOf (rs.take i) r.1).map V.str ++ [.str r.2.1]))) hp)
      refine ⟨_, rfl, _, rfl, d, _, rfl, DPut.k (k := Sum.inr r.1) (s5 _ _ hk) (small1000 kl), ⟨_, _, _, rfl⟩, same_mut (sm.trans s5) hd, ?_⟩
      refine done _ _ s5 ⟨p, po, rfl, hpo, ?_⟩
      rw [upd_same, take_succ_of hrr, makersOf_snoc, if_pos rfl, List.map_append] <;> rfl
    · rw [kd.none (fun z => hin (mem_distinct.mp z))]
      refine ⟨e, f, [], _, rfl, rfl, SqT.of ((same_new hf) _ _ upd_same), sqT_frz upd_same, (by show 1 ≤ sizeLine; decide), by simp, fun _ => ?_, fun z => absurd rfl z⟩
      refine ⟨_, rfl, _, rfl, d, _, rfl, DPut.k (k := Sum.inr r.1) hk3 (small1000 kl), ⟨_, _, _, rfl⟩, same_mut (sm.trans s2) hd, ?_⟩
      refine done _ _ s2 ⟨f, fo, rfl, hfo, ?_⟩
      rw [upd_same, take_succ_of hrr, makersOf_snoc, if_pos rfl, makersOf_nil hin] <;> rfl
  · rintro σ H2 ⟨⟨v2, v3, v4, rfl⟩, sm, kvs, hk, kd⟩
    rw [al.1, List.take_length] at kd
    exact ⟨_, rfl, q d kvs H2 sm hd hk kd⟩
abbrev rLenQ (K : PySem.W.Frag) : List V → Hp → VK → Prop := fun xs H Q => ∃ p ys, xs = [V.ref p] ∧ (SqL K H p ys ∨ SqT K H p ys) ∧ Q (.int ys.length) H
def spHoldings : Sp := fun vs H Q _ => ∃ (v : V) (ps : List Part), vs = [v] ∧ PartsAt H v ps ∧ ps.length ≤ 1000 ∧ ∀ d kvs H', Same H H' → H d = none → H' d = some (.dK kvs) → HoldD H' kvs ps → Q (.ref d) H'
theorem ok_holdings (T : Tx K mg) (F : FnP K ("holdings", none) "holdings" "holdings" s_holdings fd) : FnOk P w K mg base CX0 1 (He.fAd K ("holdings", none)) fd ["parts"] spHoldings := by
  obtain ⟨tB, mB⟩ := T.c_BYTE
  refine F.ok sc_holdings (fun vs H Q E h => ?_) (fun cdv A outer s H vs Q E hr h => ?_)
  · obtain ⟨x, p, rfl, _⟩ := h; rfl
  obtain ⟨v, ps, rfl, ⟨a, us, rfl, ha, al⟩, n1000, q⟩ := h
  have nd := sc_holdings.nd
  refine ⟨_, PSs.nox (pss_one (ps_ret (pe_dc (own := [("part", 1)]) (g := gName 1) rfl nd (pi_tup (pv 0)) (blkOk_by (N := ["parts", "part"]) (sc := defScope s_holdings) (by decide +kernel)) (fun _ _ _ _ _ => pg_name (i := 1) nd rfl (Or.inl rfl)) (fun _ _ _ _ _ => pts_nil)
    (fun _ _ _ _ _ => pe_ix (r := rIxT K) ix_tup (pv 1) pe_int (fun _ _ => rfl))
    (fun _ _ _ _ _ => pe_ifExp (pt_cmpR op_eq (pe_callB (r := rLenQ K) call_len_seq (by rfl) T.n_len PySem.boot_len (pa_cons (pv 1) pa_nil)) pe_int (nomark _))
      (pe_slice (r := rSlA K) sl_tupA (pv 1) (po_some pe_int) po_none) (pe_tup (pa_cons (pe_glob (v := .str "byte") (by rfl) mB ⟨_, rfl⟩) (pa_cons pe_int pa_nil))))))), ?_⟩
  refine ⟨_, rfl, a, rfl, ⟨_, SqT.of ha⟩, fun D hD => dc_it (walk_tup (K := K) (a := a) (xs := us)) (fun i H2 => Same H H2 ∧ ∃ kvs, H2 D = some (.dK kvs) ∧ HoldD H2 kvs (ps.take i)) ⟨same_new hD, [], upd_same, KD.nil⟩ (fun i H2 _ z => SqT.of (z.1 _ _ ha)) ?_ ?_⟩
  · rintro i x H2 H3 hi ⟨sm, kvs, hk, kd⟩ ⟨rfl, hx⟩
    obtain ⟨⟨n, kd', c⟩, hp, b, rfl, hb⟩ := al.get hx
    have kl : kvs.length ≤ 1000 := by
      rw [kd.length]
      have := length_distinct ((ps.take i).map (·.1))
      rw [List.length_map, List.length_take] at this
      omega
    have done : ∀ (H5 : Hp) (v : V), Same H3 H5 → HoldAt H5 v (n, kd', c) → ∃ kvs', (upd H5 D (.dK (putK kvs (Sum.inr n) v))) D = some (.dK kvs') ∧ HoldD (upd H5 D (.dK (putK kvs (Sum.inr n) v))) kvs' (ps.take (i + 1)) := by
      intro H5 v s5 hv
      have tp : Tups H5 (upd H5 D (.dK (putK kvs (Sum.inr n) v))) := tups_upd fun u f z => by rw [s5 _ _ hk] at z; cases z; exact f
      refine ⟨_, upd_same, ?_⟩
      have z := KD.put (k := n) (v := v) (R' := fun n' v' => ∃ p ∈ ps.take (i + 1), p.1 = n' ∧ HoldAt (upd H5 D (.dK (putK kvs (Sum.inr n) v))) v' p) (kd.mono (tups_of s5)) (fun j u hj hu => ?_) ?_
      · have e : (ps.take (i + 1)).map (·.1) = (ps.take i).map (·.1) ++ [n] := by rw [take_succ_of hp, List.map_append]; rfl
        unfold HoldD
        rw [e, distinct_snoc]; exact z
      · obtain ⟨p, m, e, t, rfl, ht⟩ := hu
        exact ⟨p, by rw [take_succ_of hp]; exact List.mem_append_left _ m, e, t, rfl, tp _ _ trivial ht⟩
      · obtain ⟨t, rfl, ht⟩ := hv
        exact ⟨_, by rw [take_succ_of hp]; exact List.mem_append_right _ (List.mem_singleton.mpr rfl), rfl, t, rfl, tp _ _ trivial ht⟩
    have sb := sm _ _ hb
    cases c with
    | none =>
      refine ⟨rfl, _, rfl, b, _, _, _, rfl, rfl, SqT.of sb, atI_nat (j := 0) rfl, _, rfl, b, _, rfl, .inr (SqT.of sb), rfl, _, rfl, iteF ⟨by show 2 ≤ sizeLine; decide, fun p hp' => ⟨kvs, Sum.inr n, rfl, (same_new hp') _ _ hk, small1000 kl, same_mut (sm.trans (same_new hp')) hD, done _ _ (same_new hp') ⟨p, rfl, upd_same⟩⟩⟩⟩
    | some c =>
      refine ⟨rfl, _, rfl, b, _, _, _, rfl, rfl, SqT.of sb, atI_nat (j := 0) rfl, _, rfl, b, _, rfl, .inr (SqT.of sb), rfl, _, rfl, iteT ⟨_, rfl, _, rfl, b, _, rfl, SqT.of sb, fun z => absurd (show HT.sIx 3 0 (some 1) = 0 from z.1) (by decide), fun _ p hp' => ⟨kvs, Sum.inr n, rfl, (same_new hp') _ _ hk, small1000 kl, same_mut (sm.trans (same_new hp')) hD, done _ _ (same_new hp') ⟨p, rfl, ?_⟩⟩⟩⟩
      rw [upd_same] <;> rfl
  · rintro H2 ⟨sm, kvs, hk, kd⟩
    rw [al.1, List.take_length] at kd
    exact q D kvs H2 sm hD hk kd
end
end Bg
set_option Elab.async false
set_option linter.all false
set_option maxRecDepth 100000
set_option maxHeartbeats 4000000
namespace Bg
open PySem PySem.Spec PyProof.Rows L2
/-! ### data of tuples, texts, ints -/
mutual
inductive Td (H : Hp) : V → PyData → Prop
  | bl (b : Bool) : Td H (.bl b) (.bool b)
  | int (i : Int) : Td H (.int i) (.int i)
  | str (x : Str) : Td H (.str x) (.str x)
  | tup {a : Addr} {xs : List V} {ds : List PyData} (e : H a = some (.tup xs)) (h : TdAll H xs ds) : Td H (.ref a) (.tuple ds)
inductive TdAll (H : Hp) : List V → List PyData → Prop
  | nil : TdAll H [] []
  | cons {v : V} {vs : List V} {d : PyData} {ds : List PyData} (h : Td H v d) (r : TdAll H vs ds) : TdAll H (v :: vs) (d :: ds)
end
mutual
theorem Td.mono {H H' : Hp} (t : Tups H H') : ∀ {v : V} {d : PyData}, Td H v d → Td H' v d
  | _, _, .bl b => .bl b
  | _, _, .int i => .int i
  | _, _, .str x => .str x
  | _, _, .tup e h => .tup (t _ _ trivial e) (TdAll.mono t h)
theorem TdAll.mono {H H' : Hp} (t : Tups H H') : ∀ {vs : List V} {ds : List PyData}, TdAll H vs ds → TdAll H' vs ds
  | _, _, .nil => .nil
  | _, _, .cons h r => .cons (Td.mono t h) (TdAll.mono t r)
end
mutual
theorem Td.dp {K : PySem.W.Frag} {H : Hp} : ∀ {v : V} {d : PyData}, Td H v d → Dp K H v d
  | _, _, .bl b => .bl b
  | _, _, .int i => .int i
  | _, _, .str x => .str x
  | _, _, .tup e h => .tup (SqT.of e) (TdAll.dp h)
theorem TdAll.dp {K : PySem.W.Frag} {H : Hp} : ∀ {vs : List V} {ds : List PyData}, TdAll H vs ds → DpAll K H vs ds
  | _, _, .nil => .nil
  | _, _, .cons h r => .cons (Td.dp h) (TdAll.dp r)
end
theorem TdAll.snoc {H : Hp} : ∀ {vs : List V} {ds : List PyData} {v : V} {d : PyData}, TdAll H vs ds → Td H v d → TdAll H (vs ++ [v]) (ds ++ [d])
  | _, _, _, _, .nil, h => .cons h .nil
  | _, _, _, _, .cons a r, h => .cons a (TdAll.snoc r h)
theorem TdAll.length {H : Hp} : ∀ {vs : List V} {ds : List PyData}, TdAll H vs ds → vs.length = ds.length
  | _, _, .nil => rfl
  | _, _, .cons _ r => congrArg Nat.succ (TdAll.length r)
/-! ### a least tree: its plain row, the tree -/
abbrev Ent := List Int × PyData
def EntAt (H : Hp) (v : V) (e : Ent) : Prop := ∃ t l tr, v = .ref t ∧ H t = some (.tup [.int (e.1.length : Nat), .ref l, tr]) ∧ H l = some (.lst (e.1.map V.int)) ∧ Td H tr e.2
theorem EntAt.mono {H H' : Hp} (s : Same H H') {v : V} {e : Ent} (h : EntAt H v e) : EntAt H' v e := by
  obtain ⟨t, l, tr, a, b, c, d⟩ := h
  exact ⟨t, l, tr, a, s _ _ b, s _ _ c, d.mono (tups_of s)⟩
def LeastD (H : Hp) (kvs : List (Key × V)) (ks : List Str) (L : Str → Ent) : Prop := KD kvs ks fun k v => EntAt H v (L k)
def nodeGo (ks : List Str) (L : Str → Ent) : List Part → List Int → List PyData → Option (List Int × List PyData)
  | [], row, ts => some (row, ts)
  | p :: ps, row, ts => if p.2.1 = ("byte" : Str) then nodeGo ks L ps (row ++ [0]) (ts ++ [.int 0]) else
    if p.2.1 ∈ ks then nodeGo ks L ps (row ++ (L p.2.1).1) (ts ++ [(L p.2.1).2]) else none
def nodeOf (ks : List Str) (L : Str → Ent) (tag : Int) (m : Str) (ps : List Part) : Option Ent := (nodeGo ks L ps [tag] [.str m]).map fun z => (z.1, .tuple z.2)
def NodeAt (H : Hp) (v : V) : Option Ent → Prop
  | none => v = .non
  | some e => EntAt H v e
section
variable {P : Program} {w : World} {K : PySem.W.Frag} {mg : Str → Option Value} {base : Heap} {fd : FuncData}
def spLeastNode : Sp := fun vs H Q _ => ∃ (tag : Int) (m : Str) (v : V) (d : Addr) (ps : List Part) (kvs : List (Key × V)) (ks : List Str) (L : Str → Ent), vs = [.int tag, .str m, v, .ref d] ∧ PartsAt H v ps ∧ ps.length ≤ 4 ∧ H d = some (.dK kvs) ∧ LeastD H kvs ks L ∧
  (∀ k ∈ ks, (L k).1.length ≤ 10000) ∧ ∀ r H', Same H H' → NodeAt H' r (nodeOf ks L tag m ps) → Q r H'
theorem ok_least_node (T : Tx K mg) (F : FnP K ("least_node", none) "least_node" "least_node" s_least_node fd) : FnOk P w K mg base CX0 1 (He.fAd K ("least_node", none)) fd ["tag", "maker", "parts", "least"] spLeastNode := by
  obtain ⟨tB, mB⟩ := T.c_BYTE
  refine F.ok sc_least_node (fun vs H Q E h => ?_) (fun cdv A outer s H vs Q E hr h => ?_)
  · obtain ⟨_, _, _, _, _, _, _, _, rfl, _⟩ := h; rfl
  obtain ⟨tag, m, v, d, ps, kvs, ks, L, rfl, ⟨a, us, rfl, ha, al⟩, n4, hd, kd, bd, q⟩ := h
  have hu := hu_of hr
  have nd := sc_least_node.nd
  refine ⟨_, PSs.nox (pss_cons (ps_set (i := 4) nd rfl (.inl rfl) (pe_lst (pa_cons (pv 0) pa_nil))) (pss_cons (ps_set (i := 5) nd rfl (.inl rfl) (pe_lst (pa_cons (pv 1) pa_nil)))
    (pss_cons (ps_for PassesOwn.never rfl (pi_tup (pv 2)) (pg_name (i := 6) nd rfl (.inl rfl))
      (pss_one (ps_if (pt_cmpR op_eq (pe_ix ix_tup (pv 6) pe_int (fun _ _ => rfl)) (pe_glob (v := .str "byte") (by rfl) mB ⟨_, rfl⟩) (nomark _))
        (pss_cons (ps_expr (pe_bm PySem.F.plainAttrs_list PySem.F.slot_list_append PySem.F.type_list_append mt_append (pv 4) (pa_cons pe_int pa_nil)))
          (pss_one (ps_expr (pe_bm PySem.F.plainAttrs_list PySem.F.slot_list_append PySem.F.type_list_append mt_append (pv 5) (pa_cons pe_int pa_nil)))))
        (pss_one (ps_if (pt_cmp (pc_din hu (pe_ix ix_tup (pv 6) pe_int (fun _ _ => rfl)) (pv 3)))
          (pss_cons (ps_expr (pe_bm PySem.F.plainAttrs_list PySem.F.slot_list_extend PySem.F.type_list_extend mt_extend (pv 4) (pa_cons (pe_ix ix_tup (pe_dget hu (pv 3) (pe_ix ix_tup (pv 6) pe_int (fun _ _ => rfl)) (fun _ _ => rfl)) pe_int (fun _ _ => rfl)) pa_nil)))
            (pss_one (ps_expr (pe_bm PySem.F.plainAttrs_list PySem.F.slot_list_append PySem.F.type_list_append mt_append (pv 5) (pa_cons (pe_ix ix_tup (pe_dget hu (pv 3) (pe_ix ix_tup (pv 6) pe_int (fun _ _ => rfl)) (fun _ _ => rfl)) pe_int (fun _ _ => rfl)) pa_nil)))))
          (pss_one (ps_ret pe_non)))))))
    (pss_one (ps_ret (pe_tup (pa_cons (pe_callB call_len_seq (by rfl) T.n_len PySem.boot_len (pa_cons (pv 4) pa_nil)) (pa_cons (pv 4) (pa_cons (pe_callTy call_tuple_of (by rfl) T.n_tuple (by decide +kernel) (pa_cons (pv 5) pa_nil)) pa_nil))))))))), ?_⟩
  refine ⟨_, rfl, (by show 1 ≤ sizeLine; decide), fun rw' hrw => ⟨_, rfl, (by show 1 ≤ sizeLine; decide), fun tw htw => ?_⟩⟩
  have htw0 : H tw = none := (same_new hrw).free htw
  have kne : rw' ≠ tw := ne_of_none upd_same htw
  have s1 : Same H (upd (upd H rw' (.lst [.int tag])) tw (.lst [.str m])) := (same_new hrw).trans (same_new htw)
  refine ⟨_, rfl, a, rfl, ⟨_, SqT.of (s1 _ _ ha)⟩, for_it (walk_tup (K := K) (a := a) (xs := us)) (fun i σ H2 => (∃ v6, σ = [some (.int tag), some (.str m), some (.ref a), some (.ref d), some (.ref rw'), some (.ref tw), v6]) ∧ Same H H2 ∧
    ∃ row ts vs, H2 rw' = some (.lst (row.map V.int)) ∧ H2 tw = some (.lst vs) ∧ TdAll H2 vs ts ∧ row.length ≤ 1 + i * 10000 ∧ vs.length = 1 + i ∧ nodeGo ks L ps [tag] [.str m] = nodeGo ks L (ps.drop i) row ts) ?_ (fun i σ H2 _ z => SqT.of (z.2.1 _ _ ha)) ?_ ?_⟩
  · exact ⟨⟨_, rfl⟩, s1, [tag], [.str m], [.str m], by rw [upd_ne kne, upd_same] <;> rfl, upd_same, .cons (.str m) .nil, by show 1 ≤ _; omega, rfl, rfl⟩
  · rintro i x σ H2 H3 hi ⟨⟨v6, rfl⟩, sm, row, ts, ws, hR, hT, td, lr, lw, eq⟩ ⟨rfl, hx⟩
    obtain ⟨p, hp, pa⟩ := al.get hx
    have lti : i < ps.length := (List.getElem?_eq_some_iff.mp hp).1
    have ed : ps.drop i = p :: ps.drop (i + 1) := by
      rw [List.drop_eq_getElem_cons lti]
      have := List.getElem?_eq_getElem lti
      rw [hp] at this; rw [← Option.some.inj this]
    rw [ed] at eq
    have l1 : row.length ≤ 50000 := by omega
    obtain ⟨b, xs, rfl, hb, x0, x1⟩ := partAt_ix (pa.mono (tups_of sm))
    refine ⟨_, rfl, b, _, _, _, rfl, rfl, SqT.of hb, atI_nat (j := 1) x1, rfl, _, rfl, ite2 (fun h1 => ?_) (fun h1 => ?_)⟩
    · have eb : p.2.1 = ("byte" : Str) := by simpa using h1
      refine ⟨_, rfl, .inl ⟨rfl, _, SqL.of hR⟩, rw', _, _, rfl, rfl, hR, (by rw [List.length_map]; exact sz_lt (by omega)), ?_⟩
      have hT2 : (upd H3 rw' (.lst (row.map V.int ++ [.int 0]))) tw = some (.lst ws) := by rw [upd_ne kne.symm]; exact hT
      refine ⟨_, rfl, .inl ⟨rfl, _, SqL.of hT2⟩, tw, _, _, rfl, rfl, hT2, (by exact small1000 (by omega)), ⟨_, rfl⟩, same_mut (same_mut sm hrw) htw0, row ++ [0], ts ++ [.int 0], ws ++ [.int 0], ?_, upd_same, ?_, ?_, ?_, ?_⟩
      · rw [upd_ne kne, upd_same, List.map_append] <;> rfl
      · refine TdAll.snoc (TdAll.mono (Tups.trans (tups_upd fun u f z => by rw [hR] at z; cases z; exact f) (tups_upd fun u f z => by rw [hT2] at z; cases z; exact f)) td) (.int 0)
      · rw [List.length_append, List.length_singleton]; omega
      · rw [List.length_append, List.length_singleton]; omega
      · rw [eq]
        show (if p.2.1 = _ then _ else _) = _
        rw [if_pos eb]
    · have eb : ¬ p.2.1 = ("byte" : Str) := by simpa using h1
      have hd3 := sm _ _ hd
      refine ⟨_, rfl, b, _, _, _, rfl, rfl, SqT.of hb, atI_nat (j := 1) x1, _, rfl, d, _, rfl, DGet.k (k := Sum.inr p.2.1) hd3, _, rfl, ?_⟩
      rw [KD.isSome kd]
      refine ite2 (fun h2 => ?_) (fun h2 => ?_)
      · have ek : p.2.1 ∈ ks := of_decide_eq_true h2
        obtain ⟨v, ev, t, l, tr, rfl, ht, hl, htr⟩ := KD.some kd ek
        have ht3 := sm _ _ ht
        have hl3 := sm _ _ hl
        have nlr : l ≠ rw' := ne_of_none hl hrw
        refine ⟨_, rfl, .inl ⟨rfl, _, SqL.of hR⟩, _, rfl, _, rfl, b, _, _, _, rfl, rfl, SqT.of hb, atI_nat (j := 1) x1, d, _, rfl, (by rw [← ev]; exact DGet.k (k := Sum.inr p.2.1) hd3), t, _, _, _, rfl, rfl, SqT.of ht3, atI_nat (j := 1) rfl, rw', l, _, _, rfl, rfl, hR, hl3, ?_, ?_⟩
        · rw [List.length_map, List.length_map]; have := bd _ ek; exact sz_of (by omega)
        have tp : Tups H3 (upd H3 rw' (.lst (row.map V.int ++ (L p.2.1).1.map V.int))) := tups_upd fun u f z => by rw [hR] at z; cases z; exact f
        have hT2 : (upd H3 rw' (.lst (row.map V.int ++ (L p.2.1).1.map V.int))) tw = some (.lst ws) := by rw [upd_ne kne.symm]; exact hT
        have hd4 : (upd H3 rw' (.lst (row.map V.int ++ (L p.2.1).1.map V.int))) d = some (.dK kvs) := by rw [upd_ne (ne_of_none hd hrw)]; exact hd3
        refine ⟨_, rfl, .inl ⟨rfl, _, SqL.of hT2⟩, _, rfl, _, rfl, b, _, _, _, rfl, rfl, SqT.of (tp _ _ trivial hb), atI_nat (j := 1) x1, d, _, rfl, (by rw [← ev]; exact DGet.k (k := Sum.inr p.2.1) hd4), t, _, _, _, rfl, rfl, SqT.of (tp _ _ trivial ht3), atI_nat (j := 2) rfl, tw, _, _, rfl, rfl, hT2, (by exact small1000 (by omega)),
          ⟨_, rfl⟩, same_mut (same_mut sm hrw) htw0, row ++ (L p.2.1).1, ts ++ [(L p.2.1).2], ws ++ [tr], ?_, upd_same, ?_, ?_, ?_, ?_⟩
        · rw [upd_ne kne, upd_same, List.map_append]
        · exact TdAll.snoc (TdAll.mono (Tups.trans tp (tups_upd fun u f z => by rw [hT2] at z; cases z; exact f)) td) (htr.mono (Tups.trans (tups_of sm) (Tups.trans tp (tups_upd fun u f z => by rw [hT2] at z; cases z; exact f))))
        · rw [List.length_append]; have := bd _ ek; omega
        · rw [List.length_append, List.length_singleton]; omega
        · rw [eq]
          show (if p.2.1 = _ then _ else if p.2.1 ∈ ks then _ else _) = _
          rw [if_neg eb, if_pos ek]
      · have ek : ¬ p.2.1 ∈ ks := fun z => h2 (decide_eq_true z)
        refine q _ _ sm ?_
        have e0 : nodeOf ks L tag m ps = none := by
          unfold nodeOf
          rw [eq]
          show Option.map _ (if p.2.1 = _ then _ else if p.2.1 ∈ ks then _ else _) = _
          rw [if_neg eb, if_neg ek] <;> rfl
        rw [e0] <;> rfl
  · rintro σ H2 ⟨⟨v6, rfl⟩, sm, row, ts, ws, hR, hT, td, lr, lw, eq⟩
    rw [al.1, List.drop_length] at eq
    have l1 : row.length ≤ 50000 := by rw [al.1] at lr; omega
    refine ⟨_, rfl, rw', _, rfl, .inl (SqL.of hR), _, rfl, _, rfl, tw, _, rfl, .inl ⟨SqL.of hT, fun tt htt => ?_⟩⟩
    have s2 : Same H2 (upd H2 tt (.tup ws)) := same_new htt
    refine ⟨by show 3 ≤ sizeLine; decide, fun ot hot => ?_⟩
    have s3 := s2.trans (same_new (o := .tup [.int ((row.map V.int).length : Nat), .ref rw', .ref tt]) hot)
    refine q _ _ (sm.trans s3) ?_
    have e0 : nodeOf ks L tag m ps = some (row, .tuple ts) := by unfold nodeOf; rw [eq] <;> rfl
    rw [e0]
    exact ⟨ot, rw', .ref tt, rfl, by rw [upd_same, List.length_map], s3 _ _ hR, .tup ((same_new hot) _ _ upd_same) (TdAll.mono (tups_of s3) td)⟩
end
end Bg
set_option Elab.async false
set_option linter.all false
set_option maxRecDepth 100000
set_option maxHeartbeats 4000000
namespace Bg
open PySem PySem.Spec PyProof.Rows L2
theorem nodup_sub_len {α : Type} [DecidableEq α] : ∀ (l l' : List α), l.Nodup → (∀ x ∈ l, x ∈ l') → l.length ≤ l'.length
  | [], l', _, _ => Nat.zero_le _
  | a :: r, l', nd, h => by
    obtain ⟨na, nr⟩ := List.nodup_cons.mp nd
    have ha : a ∈ l' := h a (List.mem_cons_self ..)
    have ih := nodup_sub_len r (l'.erase a) nr fun x hx => by
      have ne : x ≠ a := fun z => na (z ▸ hx)
      exact (List.mem_erase_of_ne ne).mpr (h x (List.mem_cons_of_mem _ hx))
    have el := List.length_erase_of_mem ha
    have pos : 0 < l'.length := List.length_pos_of_mem ha
    rw [List.length_cons]; omega
/-- the two items of an entry that are compared -/
def entD (e : Ent) : PyData := .tuple [.int (e.1.length : Nat), .list (e.1.map PyData.int)]
def entLt (e f : Ent) : Bool := PySem.W.dataLt (entD e) (entD f)
theorem entLt_len {e f : Ent} (h : entLt e f = true) : e.1.length ≤ f.1.length := by
  rcases Nat.lt_or_ge f.1.length e.1.length with lt | ge
  · exfalso
    unfold entLt PySem.W.dataLt entD at h
    simp only [PySem.W.keyToks, PySem.W.keyToksAll] at h
    rw [show (Sum.inl (1:Int) :: ([Sum.inl ((e.1.length : Nat) : Int)] ++ (Sum.inl (1:Int) :: (PySem.W.keyToksAll (e.1.map PyData.int) ++ [Sum.inl (0:Int)]))) : List (Int ⊕ List Nat)) = [Sum.inl 1] ++ (Sum.inl ((e.1.length : Nat) : Int) :: (Sum.inl (1:Int) :: (PySem.W.keyToksAll (e.1.map PyData.int) ++ [Sum.inl (0:Int)]))) from rfl,
      show (Sum.inl (1:Int) :: ([Sum.inl ((f.1.length : Nat) : Int)] ++ (Sum.inl (1:Int) :: (PySem.W.keyToksAll (f.1.map PyData.int) ++ [Sum.inl (0:Int)]))) : List (Int ⊕ List Nat)) = [Sum.inl 1] ++ (Sum.inl ((f.1.length : Nat) : Int) :: (Sum.inl (1:Int) :: (PySem.W.keyToksAll (f.1.map PyData.int) ++ [Sum.inl (0:Int)]))) from rfl,
      PySem.W.lex_pre, PySem.W.lex_atom (fun z => by have := Sum.inl.inj z; omega)] at h
    have e1 := PySem.W.dataLt_int (e.1.length : Int) (f.1.length : Int)
    unfold PySem.W.dataLt at e1
    simp only [PySem.W.keyToks] at e1
    rw [e1] at h
    have := of_decide_eq_true h
    omega
  · exact ge
/-! ### what least_trees does -/
abbrev LS := List Str × (Str → Ent)
def setL (L : Str → Ent) (k : Str) (e : Ent) : Str → Ent := fun j => if j = k then e else L j
def tagOf (rs : List Row) (r : Row) : Nat := (makersOf rs r.1).idxOf r.2.1
def stepL (rs : List Row) (s : LS) (r : Row) : LS := match nodeOf s.1 s.2 (tagOf rs r) r.2.1 r.2.2 with
  | none => s
  | some e => if r.1 ∉ s.1 ∨ entLt e (s.2 r.1) = true then (addNew s.1 r.1, setL s.2 r.1 e) else s
def roundL (rs : List Row) (s : LS) : LS := rs.foldl (stepL rs) s
def noEnt : Ent := ([], .none)
def leastN (rs : List Row) : Nat → LS
  | 0 => ([], fun _ => noEnt)
  | n + 1 => roundL rs (leastN rs n)
def leastOf (rs : List Row) : LS := leastN rs (distinct (rkinds rs)).length
def bnd : Nat → Nat
  | 0 => 1
  | n + 1 => 1 + 4 * bnd n
theorem bnd_pos : ∀ n, 1 ≤ bnd n
  | 0 => Nat.le_refl _
  | n + 1 => by unfold bnd; omega
theorem bnd_succ (n : Nat) : bnd n ≤ bnd (n + 1) := by show _ ≤ 1 + 4 * bnd n; omega
theorem bnd_mono {a b : Nat} (h : a ≤ b) : bnd a ≤ bnd b := by
  induction h with
  | refl => exact Nat.le_refl _
  | step _ ih => exact Nat.le_trans ih (bnd_succ _)
theorem nodeGo_len {ks : List Str} {L : Str → Ent} {B : Nat} (hB : 1 ≤ B) (hL : ∀ k ∈ ks, (L k).1.length ≤ B) : ∀ (ps : List Part) (row : List Int) (ts : List PyData) (z : List Int × List PyData), nodeGo ks L ps row ts = some z → z.1.length ≤ row.length + ps.length * B
  | [], row, ts, z, h => by
    have : (row, ts) = z := Option.some.inj h
    rw [← this]; simp
  | p :: ps, row, ts, z, h => by
    have h : (if p.2.1 = ("byte" : Str) then nodeGo ks L ps (row ++ [0]) (ts ++ [.int 0]) else if p.2.1 ∈ ks then nodeGo ks L ps (row ++ (L p.2.1).1) (ts ++ [(L p.2.1).2]) else none) = some z := h
    have em : (ps.length + 1) * B = ps.length * B + B := Nat.succ_mul _ _
    rw [List.length_cons, em]
    split at h
    · have := nodeGo_len hB hL ps _ _ z h
      rw [List.length_append, List.length_singleton] at this; omega
    · split at h
      · rename_i hk
        have := nodeGo_len hB hL ps _ _ z h
        have := hL _ hk
        rw [List.length_append] at *; omega
      · cases h
theorem nodeOf_len {ks : List Str} {L : Str → Ent} {B : Nat} (hB : 1 ≤ B) (hL : ∀ k ∈ ks, (L k).1.length ≤ B) {tag : Int} {m : Str} {ps : List Part} {e : Ent} (h4 : ps.length ≤ 4) (h : nodeOf ks L tag m ps = some e) : e.1.length ≤ 1 + 4 * B := by
  unfold nodeOf at h
  obtain ⟨z, hz, rfl⟩ := Option.map_eq_some_iff.mp h
  have := nodeGo_len hB hL ps _ _ z hz
  have h2 : ps.length * B ≤ 4 * B := Nat.mul_le_mul_right _ h4
  simp at this ⊢; omega
theorem nodeGo_some {ks : List Str} {L : Str → Ent} : ∀ (ps : List Part) (row : List Int) (ts : List PyData), (∀ p ∈ ps, p.2.1 = ("byte" : Str) ∨ p.2.1 ∈ ks) → ∃ z, nodeGo ks L ps row ts = some z
  | [], row, ts, _ => ⟨_, rfl⟩
  | p :: ps, row, ts, h => by
    show ∃ z, (if p.2.1 = ("byte" : Str) then nodeGo ks L ps (row ++ [0]) (ts ++ [.int 0]) else if p.2.1 ∈ ks then nodeGo ks L ps (row ++ (L p.2.1).1) (ts ++ [(L p.2.1).2]) else none) = some z
    have hr : ∀ q ∈ ps, q.2.1 = ("byte" : Str) ∨ q.2.1 ∈ ks := fun q hq => h q (List.mem_cons_of_mem _ hq)
    split
    · exact nodeGo_some ps _ _ hr
    · rename_i hb
      rw [if_pos ((h p (List.mem_cons_self ..)).resolve_left hb)]
      exact nodeGo_some ps _ _ hr
/-- what holds of the state between two rows -/
structure LInv (rs : List Row) (s : LS) : Prop where
  nd : s.1.Nodup
  sub : ∀ k ∈ s.1, k ∈ rkinds rs
  len : ∀ k ∈ s.1, (s.2 k).1.length ≤ bnd s.1.length
theorem LInv.small {rs : List Row} {s : LS} (h : LInv rs s) (h4 : (distinct (rkinds rs)).length ≤ 4) : ∀ k ∈ s.1, (s.2 k).1.length ≤ 10000 := by
  intro k hk
  have h1 : s.1.length ≤ 4 := Nat.le_trans (nodup_sub_len _ _ h.nd fun x hx => mem_distinct.mpr (h.sub x hx)) h4
  have := h.len k hk
  have := bnd_mono h1
  have : bnd 4 = 341 := rfl
  omega
theorem LInv.step {rs : List Row} {s : LS} (h : LInv rs s) {r : Row} (hr : r.1 ∈ rkinds rs) (h4 : r.2.2.length ≤ 4) : LInv rs (stepL rs s r) := by
  unfold stepL
  split
  · exact h
  · rename_i e he
    split
    · rename_i hc
      refine ⟨nodup_addNew h.nd, fun k hk => ?_, fun k hk => ?_⟩
      · rcases mem_addNew.mp hk with z | z
        · exact h.sub k z
        · rw [z]; exact hr
      · show (setL s.2 r.1 e k).1.length ≤ bnd (addNew s.1 r.1).length
        unfold setL
        by_cases hin : r.1 ∈ s.1
        · rw [addNew_of_mem hin]
          split
          · rename_i hk
            have lt : entLt e (s.2 r.1) = true := hc.resolve_left fun z => z hin
            exact Nat.le_trans (entLt_len lt) (h.len _ hin)
          · rename_i hk'
            rw [addNew_of_mem hin] at hk
            exact h.len k hk
        · rw [addNew_of_not hin, List.length_append]
          split
          · exact nodeOf_len (bnd_pos _) h.len h4 he
          · rename_i hk'
            rw [addNew_of_not hin] at hk
            have hk2 : k ∈ s.1 := by
              rcases List.mem_append.mp hk with z | z
              · exact z
              · exact absurd (List.mem_singleton.mp z) hk'
            exact Nat.le_trans (h.len k hk2) (bnd_succ _)
    · exact h
theorem LInv.zero (rs : List Row) : LInv rs (leastN rs 0) := by
  refine ⟨List.nodup_nil, ?_, ?_⟩
  · intro k hk; exact absurd (show k ∈ ([] : List Str) from hk) (List.not_mem_nil)
  · intro k hk; exact absurd (show k ∈ ([] : List Str) from hk) (List.not_mem_nil)
theorem stepL_mono (rs : List Row) (s : LS) (r : Row) : ∀ k ∈ s.1, k ∈ (stepL rs s r).1 := by
  intro k hk
  unfold stepL
  split
  · exact hk
  · split
    · exact mem_addNew.mpr (.inl hk)
    · exact hk
theorem foldL_mono (rs : List Row) : ∀ (l : List Row) (s : LS), ∀ k ∈ s.1, k ∈ (l.foldl (stepL rs) s).1
  | [], s, k, hk => hk
  | r :: l, s, k, hk => foldL_mono rs l _ k (stepL_mono rs s r k hk)
theorem stepL_has (rs : List Row) (s : LS) (r : Row) (h : ∀ p ∈ r.2.2, p.2.1 = ("byte" : Str) ∨ p.2.1 ∈ s.1) : r.1 ∈ (stepL rs s r).1 := by
  unfold stepL
  obtain ⟨z, hz⟩ := nodeGo_some (ks := s.1) (L := s.2) r.2.2 [(tagOf rs r : Int)] [.str r.2.1] h
  have e : nodeOf s.1 s.2 (tagOf rs r) r.2.1 r.2.2 = some (z.1, .tuple z.2) := by unfold nodeOf; rw [hz]; rfl
  rw [e]
  dsimp only
  split
  · exact mem_addNew.mpr (.inr rfl)
  · rename_i hc
    exact Decidable.byContradiction fun z => hc (.inl z)
theorem foldL_has (rs : List Row) : ∀ (l : List Row) (s : LS) (r : Row), r ∈ l → (∀ p ∈ r.2.2, p.2.1 = ("byte" : Str) ∨ p.2.1 ∈ s.1) → r.1 ∈ (l.foldl (stepL rs) s).1
  | [], s, r, hr, _ => by cases hr
  | a :: l, s, r, hr, h => by
    rcases List.mem_cons.mp hr with e | hr
    · subst e
      exact foldL_mono rs l _ _ (stepL_has rs s r h)
    · exact foldL_has rs l _ r hr fun p hp => (h p hp).imp id (stepL_mono rs s a _)
/-- each kind has a maker whose tree parts are of kinds of lower rank -/
structure FinOk (rs : List Row) (rank : Str → Nat) : Prop where
  lt : ∀ k ∈ rkinds rs, rank k < (distinct (rkinds rs)).length
  base : ∀ k ∈ rkinds rs, ∃ r ∈ rs, r.1 = k ∧ ∀ p ∈ r.2.2, p.2.1 = ("byte" : Str) ∨ (p.2.1 ∈ rkinds rs ∧ rank p.2.1 < rank k)
theorem leastN_has {rs : List Row} {rank : Str → Nat} (f : FinOk rs rank) : ∀ n k, k ∈ rkinds rs → rank k < n → k ∈ (leastN rs n).1
  | 0, k, _, h => absurd h (Nat.not_lt_zero _)
  | n + 1, k, hk, h => by
    obtain ⟨r, hr, e, hp⟩ := f.base k hk
    subst e
    exact foldL_has rs rs _ r hr fun p hpp => (hp p hpp).imp id fun z => leastN_has f n _ z.1 (by omega)
theorem least_all {rs : List Row} {rank : Str → Nat} (f : FinOk rs rank) : ∀ r ∈ rs, r.1 ∈ (leastOf rs).1 := fun r hr =>
  have hk : r.1 ∈ rkinds rs := List.mem_map.mpr ⟨r, hr, rfl⟩
  leastN_has f _ _ hk (f.lt _ hk)
end Bg
set_option Elab.async false
set_option linter.all false
set_option maxRecDepth 100000
set_option maxHeartbeats 4000000
namespace Bg
open PySem PySem.Spec PyProof.Rows L2
section
variable {P : Program} {w : World} {K : PySem.W.Frag} {mg : Str → Option Value} {base : Heap} {fd : FuncData}
/-- < of data that are alike -/
def rLtD (K : PySem.W.Frag) : R2 := fun x y H Q => ∃ d e, Dp K H x d ∧ Dp K H y e ∧ PySem.W.alike d e = true ∧ d ≠ .none ∧ min d.depth e.depth ≤ 60 ∧ Q (.bl (PySem.W.dataLt d e)) H
theorem op_ltD {X : Cx} (hu : X.A.units + 64 < cLine) : OpR X (compareOp .Lt) (rLtD X.K) := by
  intro pins s σ H x y v u Q I rx ry h
  obtain ⟨d, e, hd, he, al, nn, dp, q⟩ := h
  obtain ⟨as, r1⟩ := Dp.reads I d x v hd rx
  obtain ⟨bs, r2⟩ := Dp.reads I e y u he ry
  exact PySem.W.rcLt_alike d e X.A s v u as bs r1 r2 al nn (by omega) X.prog X.w X.xe _ ⟨.bl _, H, I, rfl, q⟩
theorem dpAll_ints {K : PySem.W.Frag} {H : Hp} : ∀ ns : List Int, DpAll K H (ns.map V.int) (ns.map PyData.int)
  | [] => .nil
  | n :: r => .cons (.int n) (dpAll_ints r)
theorem alikeAll_ints : ∀ (a b : List Int), PySem.W.alikeAll (a.map PyData.int) (b.map PyData.int) = true
  | [], _ => by simp [PySem.W.alikeAll]
  | _ :: _, [] => by simp [PySem.W.alikeAll]
  | x :: r, y :: t => by
    have := alikeAll_ints r t
    simp only [List.map_cons, PySem.W.alikeAll, PySem.W.alike, this] <;> rfl
theorem depthAll_ints : ∀ (a : List Int), PyData.depthAll (a.map PyData.int) ≤ 1
  | [] => by simp [PyData.depthAll]
  | x :: r => by
    have := depthAll_ints r
    simp only [List.map_cons, PyData.depthAll, PyData.depth]; omega
theorem entD_alike (e f : Ent) : PySem.W.alike (entD e) (entD f) = true := by
  unfold entD; simp only [PySem.W.alike, PySem.W.alikeAll, alikeAll_ints] <;> rfl
theorem entD_depth (e : Ent) : (entD e).depth ≤ 60 := by
  unfold entD
  have := depthAll_ints e.1
  simp only [PyData.depth, PyData.depthAll]; omega
theorem mem_idxOf {ks : List Str} {k : Str} (h : k ∈ ks) : ks[ks.idxOf k]? = some k ∧ ∀ m, m < ks.idxOf k → ks[m]? ≠ some k := by
  have lt := List.idxOf_lt_length_of_mem h
  refine ⟨by rw [List.getElem?_eq_getElem lt, List.getElem_idxOf], fun m hm z => ?_⟩
  have hm2 : m < ks.length := by omega
  have := List.not_of_lt_findIdx (p := (· == k)) hm
  rw [List.getElem?_eq_getElem hm2] at z
  have e := Option.some.inj z
  simp [e] at this
/-- the state of least_trees, in the heap -/
def LsAt (H : Hp) (d : Addr) (s : LS) : Prop := ∃ kvs, H d = some (.dK kvs) ∧ LeastD H kvs s.1 s.2
def spLeastTrees : Sp := fun vs H Q _ => ∃ (a : Addr) (rs : List Row), vs = [.ref a] ∧ RowsAt H a rs ∧ rs.length ≤ 1000 ∧ (∀ r ∈ rs, r.2.2.length ≤ 4) ∧ (distinct (rkinds rs)).length ≤ 4 ∧ ∀ d H', Same H H' → H d = none → LsAt H' d (leastOf rs) → Q (.ref d) H'
theorem ok_least_trees (T : Tx K mg) (F : FnP K ("least_trees", none) "least_trees" "least_trees" s_least_trees fd) : FnOk P w K mg base CX0 2 (He.fAd K ("least_trees", none)) fd ["rows"] spLeastTrees := by
  obtain ⟨f1, F1⟩ := T.F_makers_by_kind
  obtain ⟨f2, F2⟩ := T.F_least_node
  refine F.ok sc_least_trees (fun vs H Q E h => ?_) (fun cdv A outer s H vs Q E hr h => ?_)
  · obtain ⟨x, p, rfl, _⟩ := h; rfl
  obtain ⟨a, rs, rfl, ⟨us, ha, al⟩, n1000, n4, k4, q⟩ := h
  have hu := hu_of hr
  have nd := sc_least_trees.nd
  refine ⟨_, PSs.nox (pss_cons (ps_set (i := 1) nd rfl (.inl rfl) (pe_call (ok_makers_by_kind T F1) (hr.mono (by decide)) (by rfl) T.g_makers_by_kind T.k_makers_by_kind (b_makers_by_kind F1) .nil pass0 (pa_cons (pv 0) pa_nil)))
    (pss_cons (ps_set (i := 2) nd rfl (.inl rfl) pe_dnewK)
    (pss_cons (ps_lock (ps_for PassesOwn.never rfl (pi_keys (pv 1)) (pg_name (i := 3) nd rfl (.inl rfl))
      (pss_one (ps_for PassesOwn.never rfl (pi_list (pv 0)) (pg_tup rfl (pgs_cons (pg_name (i := 4) nd rfl (.inl rfl)) (pgs_cons (pg_name (i := 5) nd rfl (.inl rfl)) (pgs_cons (pg_name (i := 6) nd rfl (.inl rfl)) pgs_nil))))
        (pss_cons (ps_set (i := 7) nd rfl (.inl rfl) (pe_call (ok_least_node T F2) (hr.mono (by decide)) (by rfl) T.g_least_node T.k_least_node (b_least_node F2) .nil pass0
            (pa_cons (pe_tm1 PySem.F.slot_tuple_index PySem.F.type_tuple_index mt_tup_index (pe_dget hu (pv 1) (pv 4) (fun _ _ => rfl)) (pv 5)) (pa_cons (pv 5) (pa_cons (pv 6) (pa_cons (pv 2) pa_nil))))))
        (pss_one (ps_if (PW.pt (pw_and (pt_cmpR op_notN (pv 7) pe_non (nomark _)) (pw_and1 (PW.pt (pw_or (pt_cmp (pc_dnotin hu (pv 4) (pv 2)))
            (pw_or1 (pt_cmpR (op_ltD hr.units) (pe_slice sl_tup (pv 7) po_none (po_some pe_int)) (pe_slice sl_tup (pe_dget hu (pv 2) (pv 4) (fun _ _ => rfl)) po_none (po_some pe_int)) (nomark _))))))))
          (pss_one (ps_dput hu (pv 2) (pv 4) (pv 7) rfl)) pss_nil)))))))
    (pss_one (ps_ret (pv 2)))))), ?_⟩
  refine ⟨_, rfl, a, rs, rfl, ⟨us, ha, al⟩, n1000, fun dm mvs H1 s1 hdm hM mkd => ?_⟩
  intro dl hdl
  have hdl0 : H dl = none := s1.free hdl
  have kne : dm ≠ dl := ne_of_none hM hdl
  have s2 : Same H (upd H1 dl (.dK [])) := s1.trans (same_new hdl)
  have hM2 := (same_new (o := .dK []) hdl) _ _ hM
  refine ⟨dm, _, hM2, trivial, fun od => ?_⟩
  have s3 : Same H (upd (upd H1 dl (.dK [])) dm (.frz od (.dK mvs))) := same_mut s2 hdm
  have kl : mvs.length = (distinct (rkinds rs)).length := KD.length mkd
  -- what stands within the loops
  refine ⟨_, rfl, dm, od, rfl, .inl ⟨mvs, upd_same, for_it (walk_keys (d := dm) (o := od) (kvs := mvs)) (fun i σ H2 => (∃ v3 v4 v5 v6 v7, σ = [some (.ref a), some (.ref dm), some (.ref dl), v3, v4, v5, v6, v7]) ∧ Same H H2 ∧ H2 dm = some (.frz od (.dK mvs)) ∧ MkD H2 mvs rs ∧
    LsAt H2 dl (leastN rs i) ∧ LInv rs (leastN rs i)) ?_ (fun i σ H2 _ z => z.2.2.1) ?_ ?_⟩⟩
  · refine ⟨⟨_, _, _, _, _, rfl⟩, s3, upd_same, mkd.mono ?_, ⟨[], by rw [upd_ne kne.symm, upd_same], KD.nil⟩, LInv.zero rs⟩
    exact (tups_new hdl).trans (tups_upd fun u f z => by rw [hM2] at z; cases z; exact f)
  · rintro j x σ H2 H3 hj ⟨⟨v3, v4, v5, v6, v7, rfl⟩, sm, hfz, mk2, ls, li⟩ ⟨rfl, k, v, hkv, rfl⟩
    refine ⟨_, rfl, a, rfl, ⟨_, .inl (.inl (sm _ _ ha))⟩, for_it (walk_list (K := K) (a := a) (xs := us)) (fun i σ H4 => (∃ v3 v4 v5 v6 v7, σ = [some (.ref a), some (.ref dm), some (.ref dl), v3, v4, v5, v6, v7]) ∧ Same H H4 ∧ H4 dm = some (.frz od (.dK mvs)) ∧ MkD H4 mvs rs ∧
      LsAt H4 dl ((rs.take i).foldl (stepL rs) (leastN rs j)) ∧ LInv rs ((rs.take i).foldl (stepL rs) (leastN rs j))) ⟨⟨_, _, _, _, _, rfl⟩, sm, hfz, mk2, ls, li⟩ (fun i σ H4 _ z => .inl (.inl (z.2.1 _ _ ha))) ?_ ?_⟩
    · rintro i x σ H4 H5 hi ⟨⟨v3, v4, v5, v6, v7, rfl⟩, sm, hfz, mk2, ⟨lvs, hL, kd⟩, li⟩ ⟨rfl, hx⟩
      obtain ⟨r, hrr, b, u, rfl, hb, pa⟩ := al.get hx
      have hmem := List.mem_of_getElem? hrr
      have hk : r.1 ∈ rkinds rs := List.mem_map.mpr ⟨r, hmem, rfl⟩
      generalize hs : (rs.take i).foldl (stepL rs) (leastN rs j) = st at kd li
      have est : (rs.take (i + 1)).foldl (stepL rs) (leastN rs j) = stepL rs st r := by
        rw [take_succ_of hrr, List.foldl_append, hs] <;> rfl
      have li' : LInv rs (stepL rs st r) := li.step hk (n4 r hmem)
      refine ⟨b, _, rfl, .inl (.inl (sm _ _ hb)), rfl, _, _, rfl, _, _, rfl, _, _, rfl, rfl, ?_⟩
      obtain ⟨mv, emv, t, to, rfl, hto, ht⟩ := KD.some mk2 (mem_distinct.mpr hk)
      have hmk : r.2.1 ∈ makersOf rs r.1 := List.mem_map.mpr ⟨r, List.mem_filter.mpr ⟨hmem, by simp⟩, rfl⟩
      obtain ⟨ix1, ix2⟩ := mem_idxOf hmk
      refine ⟨_, rfl, _, rfl, dm, _, rfl, .inl ⟨mvs, Sum.inr r.1, .inr ⟨od, hfz⟩, rfl, emv.symm⟩, ⟨t, to, _, rfl, hto, ht⟩, _, rfl, t, _, r.2.1, _, rfl, rfl, sqT_frz ht, ix1, ix2, _, rfl, _, rfl, _, rfl,
        (tagOf rs r : Int), r.2.1, u, dl, r.2.2, lvs, st.1, st.2, rfl, pa.mono (tups_of sm), n4 r hmem, hL, kd, li.small k4, fun nv H6 s6 hn => ?_⟩
      have sm6 : Same H H6 := sm.trans s6
      have hfz6 := s6 _ _ hfz
      have hL6 := s6 _ _ hL
      have mk6 : MkD H6 mvs rs := mk2.mono (tups_of s6)
      have kd6 : LeastD H6 lvs st.1 st.2 := KD.mono kd fun _ _ z => z.mono s6
      have ll : lvs.length ≤ 1000 := by
        rw [KD.length kd]
        have := nodup_sub_len _ _ li.nd fun x hx => mem_distinct.mpr (li.sub x hx)
        omega
      refine ⟨_, rfl, rfl, _, rfl, ?_⟩
      cases hnode : nodeOf st.1 st.2 (tagOf rs r) r.2.1 r.2.2 with
      | none =>
        rw [hnode] at hn
        have hn : nv = .non := hn
        subst hn
        refine iteF ⟨⟨_, _, _, _, _, rfl⟩, sm6, hfz6, mk6, ?_, ?_⟩
        · rw [est]; unfold stepL; rw [hnode]; exact ⟨lvs, hL6, kd6⟩
        · rw [est]; exact li'
      | some e =>
        rw [hnode] at hn
        obtain ⟨nt, nl, ntr, rfl, hnt, hnl, htd⟩ := hn
        refine iteT ?_
        -- the entry is stored
        have put : ∀ H7, Same H6 H7 → (r.1 ∉ st.1 ∨ entLt e (st.2 r.1) = true) → Same H (upd H7 dl (.dK (putK lvs (Sum.inr r.1) (.ref nt)))) ∧ (upd H7 dl (.dK (putK lvs (Sum.inr r.1) (.ref nt)))) dm = some (.frz od (.dK mvs)) ∧ MkD (upd H7 dl (.dK (putK lvs (Sum.inr r.1) (.ref nt)))) mvs rs ∧
            LsAt (upd H7 dl (.dK (putK lvs (Sum.inr r.1) (.ref nt)))) dl ((rs.take (i + 1)).foldl (stepL rs) (leastN rs j)) ∧ LInv rs ((rs.take (i + 1)).foldl (stepL rs) (leastN rs j)) := by
          intro H7 s7 hc
          have tp : Tups H7 (upd H7 dl (.dK (putK lvs (Sum.inr r.1) (.ref nt)))) := tups_upd fun u f z => by rw [s7 _ _ hL6] at z; cases z; exact f
          have up : ∀ b o, b ≠ dl → H7 b = some o → (upd H7 dl (.dK (putK lvs (Sum.inr r.1) (.ref nt)))) b = some o := fun b o nb e => by rw [upd_ne nb]; exact e
          have ent : ∀ v e', EntAt H6 v e' → EntAt (upd H7 dl (.dK (putK lvs (Sum.inr r.1) (.ref nt)))) v e' := by
            rintro v e' ⟨a1, a2, a3, rfl, h1, h2, h3⟩
            have n1 : a1 ≠ dl := ne_of h1 hL6 (by intro z; cases z)
            have n2 : a2 ≠ dl := ne_of h2 hL6 (by intro z; cases z)
            exact ⟨a1, a2, a3, rfl, up _ _ n1 (s7 _ _ h1), up _ _ n2 (s7 _ _ h2), h3.mono ((tups_of s7).trans tp)⟩
          refine ⟨same_mut (sm6.trans s7) hdl0, up _ _ kne (s7 _ _ hfz6), mk6.mono ((tups_of s7).trans tp), ?_, by rw [est]; exact li'⟩
          have e2 : stepL rs st r = (addNew st.1 r.1, setL st.2 r.1 e) := by unfold stepL; rw [hnode]; exact if_pos hc
          rw [est, e2]
          refine ⟨_, upd_same, KD.put (k := r.1) kd6 (fun k' u' hk' hu' => ?_) ?_⟩
          · show EntAt _ u' (setL st.2 r.1 e k')
            unfold setL; rw [if_neg hk']; exact ent _ _ hu'
          · show EntAt _ (.ref nt) (setL st.2 r.1 e r.1)
            unfold setL; rw [if_pos rfl]; exact ent _ _ ⟨nt, nl, ntr, rfl, hnt, hnl, htd⟩
        refine ⟨_, rfl, _, rfl, dl, _, rfl, DGet.k (k := Sum.inr r.1) hL6, _, rfl, ?_⟩
        rw [KD.isSome kd6]
        by_cases hin : r.1 ∈ st.1
        · rw [decide_eq_true hin]
          obtain ⟨lv, elv, lt, lq, ltr, rfl, hlt, hlq, hltd⟩ := KD.some kd6 hin
          refine iteF ⟨_, rfl, _, rfl, nt, _, rfl, SqT.of hnt, (by show ¬ (HT.sIx 3 0 none = 0 ∧ HT.sIx 3 3 (some 2) = 3); decide), fun p1 hp1 => ?_⟩
          have s61 := same_new (o := .tup (cutV [.int (e.1.length : Nat), .ref nl, ntr] none (some 2))) hp1
          refine ⟨_, rfl, _, rfl, dl, _, rfl, (by rw [← elv]; exact DGet.k (k := Sum.inr r.1) (s61 _ _ hL6)), _, rfl, lt, _, rfl, SqT.of (s61 _ _ hlt), (by show ¬ (HT.sIx 3 0 none = 0 ∧ HT.sIx 3 3 (some 2) = 3); decide), fun p2 hp2 => ?_⟩
          have s62 := s61.trans (same_new (o := .tup (cutV [.int ((st.2 r.1).1.length : Nat), .ref lq, ltr] none (some 2))) hp2)
          refine ⟨entD e, entD (st.2 r.1), .tup (SqT.of ((same_new hp2) _ _ upd_same)) (.cons (.int _) (.cons (.lst (SqL.of (s62 _ _ hnl)) (dpAll_ints _)) .nil)), .tup (SqT.of upd_same) (.cons (.int _) (.cons (.lst (SqL.of (s62 _ _ hlq)) (dpAll_ints _)) .nil)),
            entD_alike _ _, (by intro z; cases z), Nat.le_trans (Nat.min_le_left _ _) (entD_depth _), _, rfl, ite2 (fun h1 => ?_) (fun h1 => ?_)⟩
          · obtain ⟨z1, z2⟩ := put _ s62 (.inr h1)
            exact ⟨_, rfl, _, rfl, _, rfl, dl, _, rfl, DPut.k (k := Sum.inr r.1) (s62 _ _ hL6) (small1000 ll), ⟨_, _, _, _, _, rfl⟩, z1, z2⟩
          · refine ⟨⟨_, _, _, _, _, rfl⟩, sm6.trans s62, s62 _ _ hfz6, mk6.mono (tups_of s62), ?_, by rw [est]; exact li'⟩
            have e2 : stepL rs st r = st := by
              unfold stepL; rw [hnode]
              exact if_neg fun z => z.elim (fun y => y hin) h1
            rw [est, e2]
            exact ⟨lvs, s62 _ _ hL6, KD.mono kd6 fun _ _ z => z.mono s62⟩
        · rw [decide_eq_false hin]
          obtain ⟨z1, z2⟩ := put _ (Same.refl _) (.inl hin)
          exact iteT (iteT ⟨_, rfl, _, rfl, _, rfl, dl, _, rfl, DPut.k (k := Sum.inr r.1) hL6 (small1000 ll), ⟨_, _, _, _, _, rfl⟩, z1, z2⟩)
    · rintro σ H4 ⟨⟨v3, v4, v5, v6, v7, rfl⟩, z⟩
      rw [al.1, List.take_length] at z
      exact ⟨⟨_, _, _, _, _, rfl⟩, z⟩
  · rintro σ H2 ⟨⟨v3, v4, v5, v6, v7, rfl⟩, sm, hfz, mk2, ls, li⟩
    rw [kl] at ls
    obtain ⟨lvs, hL, kd⟩ := ls
    have up : ∀ b o, b ≠ dm → H2 b = some o → (upd H2 dm (.dK mvs)) b = some o := fun b o nb e => by rw [upd_ne nb]; exact e
    have tp : Tups H2 (upd H2 dm (.dK mvs)) := tups_upd fun u f z => by rw [hfz] at z; cases z; exact f
    refine ⟨hfz, _, rfl, q dl _ (same_mut sm hdm) hdl0 ⟨lvs, up _ _ kne.symm hL, KD.mono kd fun k v z => ?_⟩⟩
    obtain ⟨a1, a2, a3, rfl, h1, h2, h3⟩ := z
    exact ⟨a1, a2, a3, rfl, up _ _ (ne_of h1 hfz (by intro z; cases z)) h1, up _ _ (ne_of h2 hfz (by intro z; cases z)) h2, h3.mono tp⟩
end
end Bg
set_option Elab.async false
set_option linter.all false
set_option maxRecDepth 100000
set_option maxHeartbeats 4000000
/-! tuple(d), d a dict: the keys in their order -/
namespace Bg
open PySem PySem.Spec PyProof.Rows L2 PySem.W
section
variable {prog : Program} {w : World} {T : String} {r d : Addr} {n : Nat} {Pk : Nat → Value → Prop} {OK : Heap → Prop}
theorem gather {A : Around} {E : Value → Shared → Prop} {s : Shared} {Q : List Value → Shared → Prop} (src : KdlSrc prog w T r d n Pk OK) (calm : A.handled = none) (ok : OK s.heap) (few : n ≤ sizeLine)
    (want : ∀ (h' : Heap) (tk : Nat) (got : Array Value), (∀ b o, s.heap.get? b = some o → h'.get? b = some o) → ItemsOf Pk got n → Q got.toList { s with heap := h', toks := tk }) : wpAny (model prog w) A (collect (.ref r)) Q E s := by
  obtain ⟨hr, hd⟩ := src.there _ ok
  unfold collect
  refine wpAny_bind (wpAny_runValue (codeAny_builtin PySem.F.entry_proto_collect ?_))
  rw [Around.under_plainId PySem.F.plain_proto_collect _]
  show wpAny _ A.in1 (newList [] >>= fun l => again (.builtin "list.__iadd__" ⟨[l, .ref r], []⟩)) _ _ s
  refine wpAny_bind (wpAny_newObj_type (wpAny_pure ⟨plainId_quiet PySem.F.plain_list_iadd _, codeAny_builtin PySem.F.entry_list_iadd ?_⟩))
  rw [Around.under_plainId PySem.F.plain_list_iadd _]
  show wpAny _ A.in1 (Builtin.List.listExtendWith (.ref s.heap.objs.size) (.ref r) (.ref s.heap.objs.size)) _ _ _
  have kept : ∀ b o, s.heap.get? b = some o → (s.heap.push { cls := .type "list", data := .seq ([] : List Value).toArray }).get? b = some o := fun b o e => Heap.get?_push_of_some _ e
  have end' : ∀ (h' : Heap) (tk : Nat) (got : Array Value) (c : Nat), (∀ b o, b ≠ s.heap.objs.size → (s.heap.push { cls := .type "list", data := .seq ([] : List Value).toArray }).get? b = some o → h'.get? b = some o) →
      h'.get? s.heap.objs.size = some { cls := .type "list", dict := none, data := .seq got c, slots := #[] } → ItemsOf Pk got n →
      wpAny (model prog w) A (load s.heap.objs.size >>= fun o => match o.data with | .seq items _ => pure items.toList | _ => pure []) Q E { s with heap := h', toks := tk } := fun h' tk got c hk e hi =>
    wpAny_bind (wpAny_load e (wpAny_pure (want h' tk got (fun b o q => hk b o (Nat.ne_of_lt (Heap.lt_size q)) (kept b o q)) hi)))
  refine wpAny_mono (kdl_extend (A := A) (R := fun res s' => res = .ok (.ret (.ref s.heap.objs.size)) ∧ ∃ (h' : Heap) (tk : Nat) (got : Array Value) (c : Nat), s' = { s with heap := h', toks := tk } ∧ (∀ b o, s.heap.get? b = some o → h'.get? b = some o) ∧
      h'.get? s.heap.objs.size = some { cls := .type "list", dict := none, data := .seq got c, slots := #[] } ∧ ItemsOf Pk got n) (s := { s with heap := s.heap.push { cls := .type "list", data := .seq ([] : List Value).toArray } }) src calm
    (src.keep _ _ ok fun b _ o e => kept b o e) s.heap.objs.size (Nat.ne_of_gt hr) (Nat.ne_of_gt hd) _ 0 (Heap.get?_push_size _ rfl) (fun h' tk got c hk e hi => ⟨rfl, h', tk, got, c, rfl, fun b o q => hk b o (Nat.ne_of_lt (Heap.lt_size q)) (kept b o q), e, hi⟩) few)
    (fun fin s' z => ?_) (fun e s' z => absurd z.1 (by simp))
  cases fin with
  | done f =>
    obtain ⟨e, h', tk, got, c, rfl, hk, hS, hi⟩ := z
    cases e
    show wpAny _ A (load s.heap.objs.size >>= _) _ _ _
    exact wpAny_bind (wpAny_load hS (wpAny_pure (want h' tk got hk hi)))
  | again c' =>
    refine ⟨z.1, codeAny_mono z.2 fun res s'' y => ?_⟩
    obtain ⟨rfl, h', tk, got, c, rfl, hk, hS, hi⟩ := y
    show wpAny _ A (load s.heap.objs.size >>= _) _ _ _
    exact wpAny_bind (wpAny_load hS (wpAny_pure (want h' tk got hk hi)))
theorem tuple_new {A : Around} {E : Value → Shared → Prop} {s : Shared} {Q₁ : Value → Shared → Prop} (src : KdlSrc prog w T r d n Pk OK) (calm : A.handled = none) (ok : OK s.heap) (few : n ≤ sizeLine)
    (want : ∀ (h' : Heap) (tk : Nat) (got : Array Value), (∀ b o, s.heap.get? b = some o → h'.get? b = some o) → ItemsOf Pk got n → Q₁ (.ref h'.objs.size) { s with heap := h'.push { cls := .type "tuple", data := .seq got }, toks := tk }) :
    codeAny (model prog w) A (.call (.builtin "tuple.__new__") ⟨[.type "tuple", .ref r], []⟩) (wants Q₁ E) s := by
  refine codeAny_of_tree ?_
  show wpAny _ A.in1 (do checkBuiltinCall "tuple.__new__" ⟨[.type "tuple", .ref r], []⟩; again (.builtin "tuple.__new__" ⟨[.type "tuple", .ref r], []⟩)) _ _ s
  refine wpAny_bind (wpAny_of_eq (PySem.F.newCall_tuple_1 _) (wpAny_pure ⟨plainId_quiet PySem.F.plain_tuple_new _, codeAny_builtin PySem.F.entry_tuple_new ?_⟩))
  rw [Around.under_plainId PySem.F.plain_tuple_new _]
  have q1 := sub_tuple_self
  have q2 := init_tuple_lookup
  have q3 := madeHere_tuple
  have q4 : A.in1.handled = none := calm
  have q5 := src.notTuple
  have q6 := src.type s ok
  wp_walk using wpAny_typeOf q6, gather (A := A.in1) src q4 ok few
  intro h' tk got hk hi
  show wpAny _ _ (Builtin.Tuple.tupleExact got.toList.toArray >>= fun v => ret v) _ _ _
  unfold Builtin.Tuple.tupleExact
  rw [Array.toArray_toList]
  exact wpAny_bind (wpAny_newObj_type (wpAny_pure (want h' tk got hk hi)) (by show got.size ≤ sizeLine; rw [hi.1]; exact few))
theorem tuple_of {A : Around} {E : Value → Shared → Prop} {s : Shared} {Q : Value → Shared → Prop} (src : KdlSrc prog w T r d n Pk OK) (calm : A.handled = none) (ok : OK s.heap) (few : n ≤ sizeLine)
    (want : ∀ (h' : Heap) (tk : Nat) (got : Array Value), (∀ b o, s.heap.get? b = some o → h'.get? b = some o) → ItemsOf Pk got n → Q (.ref h'.objs.size) { s with heap := h'.push { cls := .type "tuple", data := .seq got }, toks := tk }) :
    wpAny (model prog w) A (call (.type "tuple") [.ref r]) Q E s := by
  refine callType_codes (Q₁ := fun obj s₁ => s₁.TypeIs obj "tuple" ∧ Q obj s₁) PySem.F.called_tuple (PySem.F.typeCall_tuple_1 _) PySem.F.entry_object_init (tuple_new (A := A.in1) src calm ok few fun h' tk got hk hi => ⟨⟨_, Heap.get?_push_size _ rfl, rfl⟩, want h' tk got hk hi⟩) fun obj s₁ y => ?_
  exact ⟨y.1, PySem.F.args_object_init_2 obj _, object_init_meets PySem.F.called_tuple.init.lookup PySem.F.called_tuple.made (by decide) prog w A.in1 _ s₁ ⟨y.1, rfl, y.2⟩⟩
end
def rTupD : List V → Hp → VK → Prop := fun xs H Q => ∃ p kvs, xs = [.ref p] ∧ H p = some (.dK kvs) ∧ ∀ q o, H q = none → o.dict = none → Q (.ref q) (upd H q (.frz o (.tup (kvs.map fun kv => kV kv.1))))
theorem call_tuple_dK {X : Cx} (calm : X.calm = true) : CallR X (.type "tuple") rTupD := by
  intro pins s σ H xs us Q I r h
  obtain ⟨p, kvs, rfl, hk, q⟩ := h
  obtain ⟨u, rfl, rx⟩ := vals1 r
  obtain rfl : u = Value.ref p := rx
  obtain ⟨z, lo, vs, rk, hd⟩ := (show ObjOk X.prog X.w H s.heap p (.dK kvs) from I.hok p _ hk)
  obtain ⟨ep, hat⟩ := hd.dictAt
  have hl : kvs.length = vs.length := Paired.length rk
  refine tuple_of (kdl_dict (knd := mixKind X.prog X.w) (kvs := vs) (ep := ep) lo) (I.ok.hd calm) hat (by rw [← hl]; exact z) fun h' tk got keep items => ?_
  have I' : Inv X pins σ H { s with heap := h', toks := tk } := I.kept keep
  have len : (kvs.map fun kv => kV kv.1).length = got.toList.length := by
    rw [List.length_map]
    have z1 : got.toList.length = got.size := by simp
    rw [z1, items.1, hl]
  have rel : Vals (kvs.map fun kv => kV kv.1) got.toList := by
    refine vals_of_at len fun j x w h1 h2 => ?_
    obtain ⟨k, y, hky, hi⟩ := items.2 j w (by rw [← Array.getElem?_toList]; exact h2)
    have e1 : (kvs.map (·.1))[j]? = some k := by rw [KV.keys rk, List.getElem?_map, hky]; rfl
    have e2 : (kvs.map fun kv => kV kv.1) = (kvs.map (·.1)).map kV := by rw [List.map_map]; rfl
    rw [e2, List.getElem?_map, e1] at h1
    cases h1
    exact keyIs_rel hi
  refine ⟨.ref h'.objs.size, _, I'.laid (t' := tk) (o := .frz { cls := .type "tuple", data := .seq got } (.tup (kvs.map fun kv => kV kv.1))) (fun b u e => Heap.get?_push_of_some _ e) (Nat.le_refl _) ?_, rfl, q _ _ (I'.hok.fresh (Nat.le_refl _)) rfl⟩
  refine ⟨Heap.get?_push_size _ rfl, by rw [List.length_map]; exact z, got.toList, rel, ?_⟩
  rw [Array.toArray_toList]
  exact IsTup.new _ _
end Bg
set_option Elab.async false
set_option linter.all false
set_option maxRecDepth 100000
set_option maxHeartbeats 4000000
namespace Bg
open PySem PySem.Spec PyProof.Rows L2
/-- all but lists stays -/
def Still (H H' : Hp) : Prop := ∀ b o, (∀ xs, o ≠ .lst xs) → H b = some o → H' b = some o
theorem Still.refl (H : Hp) : Still H H := fun _ _ _ h => h
theorem Still.trans {H H1 H2 : Hp} (a : Still H H1) (b : Still H1 H2) : Still H H2 := fun c o n h => b c o n (a c o n h)
theorem still_of {H H' : Hp} (s : Same H H') : Still H H' := fun b o _ h => s b o h
theorem still_but {a : Addr} {H H' : Hp} (s : But a H H') {xs : List V} (h : H a = some (.lst xs)) : Still H H' := fun b o n e => s b o (fun z => n xs (by rw [z, h] at e; exact (Option.some.inj e).symm)) e
theorem Still.tups {H H' : Hp} (s : Still H H') : Tups H H' := fun b u f e => s b u (fun xs z => by rw [z] at f; exact f) e
abbrev CK (K : PySem.W.Frag) : Addr := He.ga K "Kinds"
def kF1 (dm : Addr) : List (Str × V) := putF "_makers" (.ref dm) []
def kF2 (dm dk : Addr) : List (Str × V) := putF "_kinds" (.ref dk) (kF1 dm)
def kF3 (dm dk dp : Addr) : List (Str × V) := putF "_parts" (.ref dp) (kF2 dm dk)
def kF4 (dm dk dp dl : Addr) : List (Str × V) := putF "_least" (.ref dl) (kF3 dm dk dp)
def kF5 (dm dk dp dl tn : Addr) : List (Str × V) := putF "names" (.ref tn) (kF4 dm dk dp dl)
def kF6 (dm dk dp dl tn to : Addr) : List (Str × V) := putF "order" (.ref to) (kF5 dm dk dp dl tn)
theorem putF_len (f : Str) (v : V) : ∀ fs : List (Str × V), (putF f v fs).length ≤ fs.length + 1
  | [] => Nat.le_refl _
  | p :: r => by
    have ih := putF_len f v r
    show (if p.1 = f then (p.1, v) :: r else p :: putF f v r).length ≤ _
    split
    · exact Nat.le_succ _
    · rw [List.length_cons, List.length_cons]; omega
section
variable {dm dk dp dl tn to : Addr}
theorem kF_makers : (kF6 dm dk dp dl tn to).lookup ("_makers" : Str) = some (.ref dm) := by
  unfold kF6 kF5 kF4 kF3 kF2 kF1
  rw [lookup_putF, if_neg (by decide +kernel), lookup_putF, if_neg (by decide +kernel), lookup_putF, if_neg (by decide +kernel), lookup_putF, if_neg (by decide +kernel), lookup_putF, if_neg (by decide +kernel), lookup_putF, if_pos rfl]
theorem kF_kinds : (kF6 dm dk dp dl tn to).lookup ("_kinds" : Str) = some (.ref dk) := by
  unfold kF6 kF5 kF4 kF3 kF2
  rw [lookup_putF, if_neg (by decide +kernel), lookup_putF, if_neg (by decide +kernel), lookup_putF, if_neg (by decide +kernel), lookup_putF, if_neg (by decide +kernel), lookup_putF, if_pos rfl]
theorem kF_parts : (kF6 dm dk dp dl tn to).lookup ("_parts" : Str) = some (.ref dp) := by
  unfold kF6 kF5 kF4 kF3
  rw [lookup_putF, if_neg (by decide +kernel), lookup_putF, if_neg (by decide +kernel), lookup_putF, if_neg (by decide +kernel), lookup_putF, if_pos rfl]
theorem kF_least : (kF6 dm dk dp dl tn to).lookup ("_least" : Str) = some (.ref dl) := by
  unfold kF6 kF5 kF4
  rw [lookup_putF, if_neg (by decide +kernel), lookup_putF, if_neg (by decide +kernel), lookup_putF, if_pos rfl]
theorem kF_names : (kF6 dm dk dp dl tn to).lookup ("names" : Str) = some (.ref tn) := by
  unfold kF6 kF5
  rw [lookup_putF, if_neg (by decide +kernel), lookup_putF, if_pos rfl]
theorem kF_order : (kF6 dm dk dp dl tn to).lookup ("order" : Str) = some (.ref to) := by
  unfold kF6
  rw [lookup_putF, if_pos rfl]
theorem kF_no {m : Str} (h1 : ¬ m = "order") (h2 : ¬ m = "names") (h3 : ¬ m = "_least") (h4 : ¬ m = "_parts") (h5 : ¬ m = "_kinds") (h6 : ¬ m = "_makers") : (kF6 dm dk dp dl tn to).lookup m = none := by
  unfold kF6 kF5 kF4 kF3 kF2 kF1
  rw [lookup_putF, if_neg h1, lookup_putF, if_neg h2, lookup_putF, if_neg h3, lookup_putF, if_neg h4, lookup_putF, if_neg h5, lookup_putF, if_neg h6]
  rfl
theorem kF4_makers : (kF3 dm dk dp).lookup ("_makers" : Str) = some (.ref dm) := by
  unfold kF3 kF2 kF1
  rw [lookup_putF, if_neg (by decide +kernel), lookup_putF, if_neg (by decide +kernel), lookup_putF, if_pos rfl]
theorem kF4_makers' : (kF4 dm dk dp dl).lookup ("_makers" : Str) = some (.ref dm) := by
  unfold kF4
  rw [lookup_putF, if_neg (by decide +kernel), kF4_makers]
theorem kF5_kinds : (kF5 dm dk dp dl tn).lookup ("_kinds" : Str) = some (.ref dk) := by
  unfold kF5 kF4 kF3 kF2
  rw [lookup_putF, if_neg (by decide +kernel), lookup_putF, if_neg (by decide +kernel), lookup_putF, if_neg (by decide +kernel), lookup_putF, if_pos rfl]
theorem kF_len5 : (kF5 dm dk dp dl tn).length < 1000 := by
  have h1 := putF_len "_makers" (.ref dm) []
  have h2 := putF_len "_kinds" (.ref dk) (kF1 dm)
  have h3 := putF_len "_parts" (.ref dp) (kF2 dm dk)
  have h4 := putF_len "_least" (.ref dl) (kF3 dm dk dp)
  have h5 := putF_len "names" (.ref tn) (kF4 dm dk dp dl)
  unfold kF5 kF4 kF3 kF2 kF1 at *
  simp at h1; omega
theorem kF_len4 : (kF4 dm dk dp dl).length < 1000 := by
  have h1 := putF_len "_makers" (.ref dm) []
  have h2 := putF_len "_kinds" (.ref dk) (kF1 dm)
  have h3 := putF_len "_parts" (.ref dp) (kF2 dm dk)
  have h4 := putF_len "_least" (.ref dl) (kF3 dm dk dp)
  unfold kF4 kF3 kF2 kF1 at *
  simp at h1; omega
theorem kF_len3 : (kF3 dm dk dp).length < 1000 := by
  have h1 := putF_len "_makers" (.ref dm) []
  have h2 := putF_len "_kinds" (.ref dk) (kF1 dm)
  have h3 := putF_len "_parts" (.ref dp) (kF2 dm dk)
  unfold kF3 kF2 kF1 at *
  simp at h1; omega
theorem kF_len2 : (kF2 dm dk).length < 1000 := by
  have h1 := putF_len "_makers" (.ref dm) []
  have h2 := putF_len "_kinds" (.ref dk) (kF1 dm)
  unfold kF2 kF1 at *
  simp at h1; omega
theorem kF_len1 : (kF1 dm).length < 1000 := by
  have h1 := putF_len "_makers" (.ref dm) []
  unfold kF1
  simp at h1; omega
end
def KindD (kvs : List (Key × V)) (rs : List Row) : Prop := KD kvs (distinct (rmakers rs)) fun m v => ∃ r ∈ rs, r.2.1 = m ∧ v = .str r.1
def PartsD (H : Hp) (pvs : List (Key × V)) (rs : List Row) : Prop := KD pvs (distinct (rmakers rs)) fun m v => ∃ r ∈ rs, r.2.1 = m ∧ ∃ d hv, v = .ref d ∧ H d = some (.dK hv) ∧ HoldD H hv r.2.2
def LeastT (H : Hp) (lvs : List (Key × V)) (rs : List Row) : Prop := KD lvs (distinct (rkinds rs)) fun k v => Td H v ((leastOf rs).2 k).2
def KindsAt (K : PySem.W.Frag) (H : Hp) (x : Addr) (rs : List Row) : Prop := ∃ dx dm dk dp dl tn to mvs kvs pvs lvs, H x = some (.ins (CK K) dx (kF6 dm dk dp dl tn to)) ∧ (H dm = some (.dK mvs) ∧ MkD H mvs rs) ∧ (H dk = some (.dK kvs) ∧ KindD kvs rs) ∧
  (H dp = some (.dK pvs) ∧ PartsD H pvs rs) ∧ (H dl = some (.dK lvs) ∧ LeastT H lvs rs) ∧ TextsAt H (.ref tn) (distinct (rkinds rs)) ∧ TextsAt H (.ref to) (distinct (rmakers rs))
theorem PartsD.mono {H H' : Hp} (s : Still H H') {pvs : List (Key × V)} {rs : List Row} (h : PartsD H pvs rs) : PartsD H' pvs rs := KD.mono h fun _ _ z => by
  obtain ⟨r, m, e, d, hv, e2, hd, hh⟩ := z
  exact ⟨r, m, e, d, hv, e2, s _ _ (by intro _ z; cases z) hd, hh.mono s.tups⟩
theorem LeastT.mono {H H' : Hp} (s : Tups H H') {lvs : List (Key × V)} {rs : List Row} (h : LeastT H lvs rs) : LeastT H' lvs rs := KD.mono h fun _ _ z => z.mono s
theorem KindsAt.mono {K : PySem.W.Frag} {H H' : Hp} (s : Still H H') {x : Addr} {rs : List Row} (h : KindsAt K H x rs) : KindsAt K H' x rs := by
  obtain ⟨dx, dm, dk, dp, dl, tn, to, mvs, kvs, pvs, lvs, h0, ⟨h1, h2⟩, ⟨h3, h4⟩, ⟨h5, h6⟩, ⟨h7, h8⟩, h9, h10⟩ := h
  have nl : ∀ o, (∀ xs, o ≠ HO.lst xs) → ∀ b, H b = some o → H' b = some o := fun o n b e => s b o n e
  exact ⟨dx, dm, dk, dp, dl, tn, to, mvs, kvs, pvs, lvs, s _ _ (by intro _ z; cases z) h0, ⟨s _ _ (by intro _ z; cases z) h1, h2.mono s.tups⟩, ⟨s _ _ (by intro _ z; cases z) h3, h4⟩, ⟨s _ _ (by intro _ z; cases z) h5, h6.mono s⟩, ⟨s _ _ (by intro _ z; cases z) h7, h8.mono s.tups⟩, h9.mono s.tups, h10.mono s.tups⟩
structure ValidT (rs : List Row) : Prop where
  short : RowsShort rs
  ne : rs ≠ []
  each : EachOk rs
  inner : InnerOk rs
  fin : ∃ rank, FinOk rs rank
theorem ValidT.four {rs : List Row} (v : ValidT rs) : ∀ r ∈ rs, r.2.2.length ≤ 4 := fun r hr => by
  have := (v.each.good r hr).2.2
  unfold partsB at this
  simp at this
  exact this.1
end Bg
set_option Elab.async false
set_option linter.all false
set_option maxRecDepth 100000
set_option maxHeartbeats 4000000
namespace Bg
open PySem PySem.Spec PyProof.Rows L2
section
variable {P : Program} {w : World} {K : PySem.W.Frag} {mg : Str → Option Value} {base : Heap} {fd : FuncData}
theorem rmakers_len {rs : List Row} (i : Nat) : (distinct (rmakers (rs.take i))).length ≤ rs.length := by
  have := length_distinct (rmakers (rs.take i))
  unfold rmakers at *
  rw [List.length_map, List.length_take] at this
  omega
def spInit (K : PySem.W.Frag) : Sp := fun vs H Q _ => ∃ (x dx a : Addr) (rs : List Row), vs = [.ref x, .ref a] ∧ H x = some (.ins (CK K) dx []) ∧ RowsAt H a rs ∧ ValidT rs ∧ ∀ H', But x H H' → KindsAt K H' x rs → Q .non H'
theorem ok_init (T : Tx K mg) (F : FnP K ("Kinds", some "__init__") "__init__" "Kinds.__init__" s_Kinds_init fd) : FnOk P w K mg base CX0 6 (He.fAd K ("Kinds", some "__init__")) fd ["self", "rows"] (spInit K) := by
  obtain ⟨f1, F1⟩ := T.F_check_each_row_kinds
  obtain ⟨f2, F2⟩ := T.F_check_inner_kinds
  obtain ⟨f3, F3⟩ := T.F_least_trees
  obtain ⟨f4, F4⟩ := T.F_check_finite
  obtain ⟨f5, F5⟩ := T.F_makers_by_kind
  obtain ⟨f6, F6⟩ := T.F_holdings
  refine F.ok sc_Kinds_init (fun vs H Q E h => ?_) (fun cdv A outer s H vs Q E hr h => ?_)
  · obtain ⟨x, _, _, _, rfl, _⟩ := h; rfl
  obtain ⟨x, dx, a, rs, rfl, hx, hra, val, q⟩ := h
  obtain ⟨us, ha, al⟩ := id hra
  have hu := hu_of hr
  have nd := sc_Kinds_init.nd
  have cl := T.cl_Kinds
  refine ⟨_, PSs.nox (pss_cons (ps_if (pt_cmpR op_eq (pe_callB call_len_seq (by rfl) T.n_len PySem.boot_len (pa_cons (pv 1) pa_nil)) pe_int (nomark _)) (pss_one ps_never) pss_nil)
    (pss_cons (ps_expr (pe_call (ok_check_each_row T F1) hr (by rfl) T.g_check_each_row_kinds T.k_check_each_row_kinds (b_check_each_row_kinds F1) .nil pass0 (pa_cons (pv 1) pa_nil)))
    (pss_cons (ps_expr (pe_call (ok_check_inner_kinds T F2) (hr.mono (by decide)) (by rfl) T.g_check_inner_kinds T.k_check_inner_kinds (b_check_inner_kinds F2) .nil pass0 (pa_cons (pv 1) pa_nil)))
    (pss_cons (ps_set (i := 2) nd rfl (Or.inr rfl) (pe_call (ok_least_trees T F3) (hr.mono (by decide)) (by rfl) T.g_least_trees T.k_least_trees (b_least_trees F3) .nil pass0 (pa_cons (pv 1) pa_nil)))
    (pss_cons (ps_expr (pe_call (ok_check_finite T F4) (hr.mono (by decide)) (by rfl) T.g_check_finite T.k_check_finite (b_check_finite F4) .nil pass0 (pa_cons (pv 1) (pa_cons (pv 2) pa_nil))))
    (pss_cons (ps_fld (pv 0) (pe_call (ok_makers_by_kind T F5) (hr.mono (by decide)) (by rfl) T.g_makers_by_kind T.k_makers_by_kind (b_makers_by_kind F5) .nil pass0 (pa_cons (pv 1) pa_nil)) rfl)
    (pss_cons (ps_fld (pv 0) (pe_dc (own := [("kind", 3), ("maker", 4), ("parts", 5)]) (g := gRow K 3 4 5) rfl nd (pi_list (pv 1)) (blkOk_by (N := ["self", "rows", "least", "kind", "maker", "parts"]) (sc := defScope s_Kinds_init) (by decide +kernel))
      (fun _ _ _ _ _ => pg_tup rfl (pgs_cons (pg_name (i := 3) nd rfl (Or.inl rfl)) (pgs_cons (pg_name (i := 4) nd rfl (Or.inl rfl)) (pgs_cons (pg_name (i := 5) nd rfl (Or.inl rfl)) pgs_nil)))) (fun _ _ _ _ _ => pts_nil) (fun _ _ _ _ _ => pv 4) (fun _ _ _ _ _ => pv 3)) rfl)
    (pss_cons (ps_fld (pv 0) (pe_dc (own := [("kind", 3), ("maker", 4), ("parts", 5)]) (g := gRow K 3 4 5) rfl nd (pi_list (pv 1)) (blkOk_by (N := ["self", "rows", "least", "kind", "maker", "parts"]) (sc := defScope s_Kinds_init) (by decide +kernel))
      (fun _ _ _ _ _ => pg_tup rfl (pgs_cons (pg_name (i := 3) nd rfl (Or.inl rfl)) (pgs_cons (pg_name (i := 4) nd rfl (Or.inl rfl)) (pgs_cons (pg_name (i := 5) nd rfl (Or.inl rfl)) pgs_nil)))) (fun _ _ _ _ _ => pts_nil) (fun _ _ _ _ _ => pv 4)
      (fun _ _ _ _ _ => pe_call (sp := spHoldings) (E := E0) (ok_holdings T F6) (hr.mono (by decide)) (by rfl) T.g_holdings T.k_holdings (b_holdings F6) .nil pass0 (pa_cons (pv 5) pa_nil))) rfl)
    (pss_cons (ps_fld (pv 0) (pe_lock (pe_dc (own := [("kind", 3)]) (g := gName 3) rfl nd (pi_keys (pe_fld (pv 0) rfl)) (blkOk_by (N := ["self", "rows", "least", "kind", "maker", "parts"]) (sc := defScope s_Kinds_init) (by decide +kernel))
      (fun _ _ _ _ _ => pg_name (i := 3) nd rfl (Or.inl rfl)) (fun _ _ _ _ _ => pts_nil) (fun _ _ _ _ _ => pv 3) (fun _ _ _ _ _ => pe_ix (r := rIxT K) ix_tup (pe_dget hu (pv 2) (pv 3) (fun _ _ => rfl)) pe_int (fun _ _ => rfl)))) rfl)
    (pss_cons (ps_fld (pv 0) (pe_callTy (call_tuple_dK rfl) (by rfl) T.n_tuple (by decide +kernel) (pa_cons (pe_fld (pv 0) rfl) pa_nil)) rfl)
    (pss_one (ps_fld (pv 0) (pe_callTy (call_tuple_dK rfl) (by rfl) T.n_tuple (by decide +kernel) (pa_cons (pe_fld (pv 0) rfl) pa_nil)) rfl)))))))))))), ?_⟩
  -- the checks
  have nz : decide (V.int ((us.length : Nat) : Int) = V.int 0) = false := by
    have : us.length ≠ 0 := by rw [al.1]; intro z; exact val.ne (List.length_eq_zero_iff.mp z)
    exact decide_eq_false fun z => this (by have := V.int.inj z; omega)
  refine ⟨_, rfl, a, _, rfl, .inl (SqL.of ha), rfl, _, rfl, ?_⟩
  rw [nz]
  refine iteF ⟨_, rfl, a, rs, rfl, hra, val.short, val.each, fun H1 s1 => ?_⟩
  refine ⟨_, rfl, a, rs, rfl, hra.mono s1, val.short, val.inner, fun H2 s2 => ?_⟩
  have s02 := s1.trans s2
  refine ⟨_, rfl, a, rs, rfl, hra.mono s02, val.short.1, val.four, val.each.kinds, fun dl0 H3 s3 hdl0 ⟨lvs0, hl0, ld0⟩ => ?_⟩
  have s03 := s02.trans s3
  obtain ⟨rank, fin⟩ := val.fin
  refine ⟨_, rfl, _, rfl, a, dl0, rs, lvs0, _, rfl, hra.mono s03, hl0, KD.mono ld0 (fun _ _ _ => trivial), least_all fin, fun H4 s4 => ?_⟩
  have s04 := s03.trans s4
  have hl4 := s4 _ _ hl0
  have ld4 : LeastD H4 lvs0 (leastOf rs).1 (leastOf rs).2 := KD.mono ld0 fun _ _ z => z.mono s4
  have hx4 := s04 _ _ hx
  have ndl0 : dl0 ≠ x := ne_of hl4 hx4 (by intro z; cases z)
  -- self._makers
  refine ⟨_, rfl, a, rs, rfl, hra.mono s04, val.short.1, fun dm mvs H5 s5 hdm hm5 mk5 => ?_⟩
  have s45 : Same H4 H5 := s5
  have hx5 := s5 _ _ hx4
  refine ⟨_, rfl, x, CK K, dx, [], rfl, hx5, cl, T.na_Kinds_makers_, by decide, ?_⟩
  generalize hH6 : upd H5 x (.ins (CK K) dx (putF "_makers" (.ref dm) [])) = H6
  have hx6 : H6 x = some (.ins (CK K) dx (kF1 dm)) := by rw [← hH6]; exact upd_same
  have b6 : But x H H6 := fun b o n e => by rw [← hH6, upd_ne n]; exact s5 _ _ (s04 _ _ e)
  have o6 : ∀ b o, b ≠ x → H5 b = some o → H6 b = some o := fun b o n e => by rw [← hH6, upd_ne n]; exact e
  have ndm : dm ≠ x := ne_of hm5 hx5 (by intro z; cases z)
  have t56 : Tups H5 H6 := by rw [← hH6]; exact tups_upd fun u f z => by rw [hx5] at z; cases z; exact f
  have hm6 := o6 _ _ ndm hm5
  have mk6 : MkD H6 mvs rs := mk5.mono t56
  have hl6 := o6 _ _ ndl0 (s5 _ _ hl4)
  have nax : a ≠ x := ne_of ha hx (by intro z; cases z)
  have al6 : All2 (RowAt H6) us rs := al.mono fun _ _ z => z.mono (Tups.trans (tups_of (s04.trans s5)) t56)
  have ha6 : H6 a = some (.lst us) := b6 _ _ nax ha
  have ent6 : LeastD H6 lvs0 (leastOf rs).1 (leastOf rs).2 := KD.mono ld4 fun _ _ z => by
    obtain ⟨a1, a2, a3, rfl, h1, h2, h3⟩ := z.mono s5
    exact ⟨a1, a2, a3, rfl, o6 _ _ (ne_of h1 hx5 (by intro z; cases z)) h1, o6 _ _ (ne_of h2 hx5 (by intro z; cases z)) h2, h3.mono t56⟩
  clear hH6
  -- self._kinds
  refine ⟨_, rfl, a, rfl, ⟨_, .inl (.inl ha6)⟩, fun dk hdk => dc_it (walk_list (K := K) (a := a) (xs := us)) (fun i H7 => Same H6 H7 ∧ ∃ kvs, H7 dk = some (.dK kvs) ∧ KD kvs (distinct (rmakers (rs.take i))) fun m v => ∃ r ∈ rs, r.2.1 = m ∧ v = .str r.1)
    ⟨same_new hdk, [], upd_same, KD.nil⟩ (fun i H7 _ z => .inl (.inl (z.1 _ _ ha6))) ?_ ?_⟩
  · rintro i y H7 H8 hi ⟨s7, kvs, hk, kd⟩ ⟨rfl, hy⟩
    obtain ⟨r, hrr, b, u, rfl, hb, pa⟩ := al6.get hy
    have kl : kvs.length ≤ 1000 := by rw [kd.length]; exact Nat.le_trans (rmakers_len i) val.short.1
    refine ⟨b, _, rfl, .inl (.inl (s7 _ _ hb)), rfl, _, _, rfl, _, _, rfl, _, _, rfl, rfl, rfl, _, rfl, _, rfl, kvs, Sum.inr r.2.1, rfl, hk, small1000 kl, same_mut s7 hdk, _, upd_same, ?_⟩
    rw [rmakers_take_succ hrr, distinct_snoc]
    exact kd.put (fun j u _ hu => hu) ⟨r, List.mem_of_getElem? hrr, rfl, rfl⟩
  rintro H7 ⟨s7, kvs, hk7, kd7⟩
  rw [al.1, List.take_length] at kd7
  have hx7 := s7 _ _ hx6
  refine ⟨_, rfl, x, CK K, dx, _, rfl, hx7, cl, T.na_Kinds_kinds_, kF_len1, ?_⟩
  generalize hH8 : upd H7 x (.ins (CK K) dx (putF "_kinds" (.ref dk) (kF1 dm))) = H8
  have hx8 : H8 x = some (.ins (CK K) dx (kF2 dm dk)) := by rw [← hH8]; exact upd_same
  have o8 : ∀ b o, b ≠ x → H7 b = some o → H8 b = some o := fun b o n e => by rw [← hH8, upd_ne n]; exact e
  have b8 : But x H6 H8 := fun b o n e => o8 b o n (s7 _ _ e)
  have st8 : Still H7 H8 → True := fun _ => trivial
  have t68 : Tups H6 H8 := Tups.trans (tups_of s7) (by rw [← hH8]; exact tups_upd fun u f z => by rw [hx7] at z; cases z; exact f)
  have ndk : dk ≠ x := fun z => by rw [z, hx6] at hdk; cases hdk
  have hk8 := o8 _ _ ndk hk7
  have ha8 := b8 _ _ nax ha6
  clear hH8
  -- self._parts
  refine ⟨_, rfl, a, rfl, ⟨_, .inl (.inl ha8)⟩, fun dp hdp => dc_it (walk_list (K := K) (a := a) (xs := us)) (fun i H9 => Same H8 H9 ∧ ∃ pvs, H9 dp = some (.dK pvs) ∧ KD pvs (distinct (rmakers (rs.take i))) fun m v => ∃ r ∈ rs, r.2.1 = m ∧ ∃ d hv, v = .ref d ∧ H9 d = some (.dK hv) ∧ d ≠ dp ∧ HoldD H9 hv r.2.2)
    ⟨same_new hdp, [], upd_same, KD.nil⟩ (fun i H9 _ z => .inl (.inl (z.1 _ _ ha8))) ?_ ?_⟩
  · rintro i y H9 H10 hi ⟨s9, pvs, hp, kd⟩ ⟨rfl, hy⟩
    obtain ⟨r, hrr, b, u, rfl, hb, pa⟩ := al6.get hy
    have hmem := List.mem_of_getElem? hrr
    have kl : pvs.length ≤ 1000 := by rw [kd.length]; exact Nat.le_trans (rmakers_len i) val.short.1
    have t610 := Tups.trans t68 (tups_of s9)
    refine ⟨b, _, rfl, .inl (.inl (t610 _ _ trivial hb)), rfl, _, _, rfl, _, _, rfl, _, _, rfl, rfl, rfl, _, rfl, _, rfl, u, r.2.2, rfl, pa.mono t610, (by have := val.four r hmem; omega), fun d hv H11 s11 hd hd11 hold => ?_⟩
    have hp11 := s11 _ _ hp
    have ndp : d ≠ dp := fun z => by rw [z] at hd; rw [hd] at hp; cases hp
    have tp : ∀ v, Tups H11 (upd H11 dp (.dK (putK pvs (Sum.inr r.2.1) v))) := fun v => tups_upd fun u f z => by rw [hp11] at z; cases z; exact f
    refine ⟨pvs, Sum.inr r.2.1, rfl, hp11, small1000 kl, same_mut (s9.trans s11) hdp, _, upd_same, ?_⟩
    rw [rmakers_take_succ hrr, distinct_snoc]
    refine kd.put (fun j u' _ hu' => ?_) ⟨r, hmem, rfl, d, hv, rfl, by rw [upd_ne ndp]; exact hd11, ndp, hold.mono (tp _)⟩
    obtain ⟨r', m', e', d', hv', e2', hd', n', hh'⟩ := hu'
    exact ⟨r', m', e', d', hv', e2', by rw [upd_ne n']; exact s11 _ _ hd', n', (hh'.mono (tups_of s11)).mono (tp _)⟩
  rintro H9 ⟨s9, pvs, hp9, kd9⟩
  rw [al.1, List.take_length] at kd9
  have hx9 := s9 _ _ hx8
  refine ⟨_, rfl, x, CK K, dx, _, rfl, hx9, cl, T.na_Kinds_parts_, kF_len2, ?_⟩
  generalize hH10 : upd H9 x (.ins (CK K) dx (putF "_parts" (.ref dp) (kF2 dm dk))) = H10
  have hx10 : H10 x = some (.ins (CK K) dx (kF3 dm dk dp)) := by rw [← hH10]; exact upd_same
  have o10 : ∀ b o, b ≠ x → H9 b = some o → H10 b = some o := fun b o n e => by rw [← hH10, upd_ne n]; exact e
  have b10 : But x H8 H10 := fun b o n e => o10 b o n (s9 _ _ e)
  have t910 : Tups H9 H10 := by rw [← hH10]; exact tups_upd fun u f z => by rw [hx9] at z; cases z; exact f
  have t610 : Tups H6 H10 := Tups.trans t68 (Tups.trans (tups_of s9) t910)
  have ndp : dp ≠ x := fun z => by rw [z, hx8] at hdp; cases hdp
  have hp10 := o10 _ _ ndp hp9
  have pd10 : PartsD H10 pvs rs := KD.mono kd9 fun _ _ z => by
    obtain ⟨r, m, e, d, hv, e2, hd, n, hh⟩ := z
    exact ⟨r, m, e, d, hv, e2, o10 _ _ (ne_of hd hx9 (by intro z; cases z)) hd, hh.mono t910⟩
  have hk10 := b10 _ _ ndk hk8
  have hm10 := b10 _ _ ndm (b8 _ _ ndm hm6)
  have mk10 : MkD H10 mvs rs := mk6.mono t610
  have hl10 := b10 _ _ ndl0 (b8 _ _ ndl0 hl6)
  have ent10 : LeastD H10 lvs0 (leastOf rs).1 (leastOf rs).2 := KD.mono ent6 fun _ _ z => by
    obtain ⟨a1, a2, a3, rfl, h1, h2, h3⟩ := z
    have n2 : a2 ≠ x := ne_of h2 hx6 (by intro z; cases z)
    exact ⟨a1, a2, a3, rfl, t610 _ _ trivial h1, b10 _ _ n2 (b8 _ _ n2 h2), h3.mono t610⟩
  clear hH10
  -- self._least
  refine ⟨dm, _, hm10, trivial, fun od => ?_⟩
  have nml : dl0 ≠ dm := fun z => by rw [z] at hl4; rw [hl4] at hdm; cases hdm
  have hxl : (upd H10 dm (.frz od (.dK mvs))) x = some (.ins (CK K) dx (kF3 dm dk dp)) := by rw [upd_ne ndm.symm]; exact hx10
  refine ⟨_, rfl, x, CK K, dx, _, _, rfl, hxl, cl, T.na_Kinds_makers_, kF4_makers, dm, od, rfl, .inl ⟨mvs, upd_same, fun dl hdl => ?_⟩⟩
  have ndl : dl ≠ dm := fun z => by rw [z, upd_same] at hdl; cases hdl
  have hdl10 : H10 dl = none := by rw [upd_ne ndl] at hdl; exact hdl
  refine dc_it (walk_keys (d := dm) (o := od) (kvs := mvs)) (fun i H11 => Same (upd H10 dm (.frz od (.dK mvs))) H11 ∧ ∃ lvs, H11 dl = some (.dK lvs) ∧ KD lvs (distinct ((distinct (rkinds rs)).take i)) fun k v => Td H11 v ((leastOf rs).2 k).2)
    ⟨same_new hdl, [], upd_same, KD.nil⟩ (fun i H11 _ z => z.1 _ _ upd_same) ?_ ?_
  · rintro i y H11 H12 hi ⟨s11, lvs, hl, kd⟩ ⟨rfl, k, v, hkv, rfl⟩
    obtain ⟨j, hj, ej⟩ := KD.at mk10 hkv
    cases (show k = Sum.inr j from ej)
    have kl : lvs.length ≤ 1000 := by
      rw [kd.length]
      have h1 := length_distinct ((distinct (rkinds rs)).take i)
      rw [List.length_take] at h1
      have := val.each.kinds
      omega
    have jin : j ∈ (leastOf rs).1 := by
      have jk : j ∈ rkinds rs := mem_distinct.mp (List.mem_of_getElem? hj)
      obtain ⟨r, hr', e⟩ := List.mem_map.mp jk
      rw [← e]; exact least_all fin r hr'
    obtain ⟨ev, e1, t, l, tr, rfl, ht, hlq, htd⟩ := KD.some ent10 jin
    have t0 : Tups H10 (upd H10 dm (.frz od (.dK mvs))) := tups_upd fun u f z => by rw [hm10] at z; cases z; exact f
    have t11 := Tups.trans t0 (tups_of s11)
    have hl11 : H12 dl0 = some (.dK lvs0) := s11 _ _ (by rw [upd_ne nml]; exact hl10)
    refine ⟨rfl, _, rfl, _, rfl, _, rfl, dl0, _, rfl, (by rw [← e1]; exact DGet.k (k := Sum.inr j) hl11), t, _, _, _, rfl, rfl, SqT.of (t11 _ _ trivial ht), atI_nat (j := 2) rfl, lvs, Sum.inr j, rfl, hl, small1000 kl, same_mut s11 hdl, _, upd_same, ?_⟩
    have tp : Tups H12 (upd H12 dl (.dK (putK lvs (Sum.inr j) tr))) := tups_upd fun u f z => by rw [hl] at z; cases z; exact f
    rw [take_succ_of hj, distinct_snoc]
    exact kd.put (fun j' u' _ hu' => hu'.mono tp) ((htd.mono t11).mono tp)
  rintro H11 ⟨s11, lvs, hl11, kd11⟩
  have ml : mvs.length = (distinct (rkinds rs)).length := KD.length mk10
  rw [ml, List.take_length, distinct_of_nodup (nodup_distinct _)] at kd11
  refine ⟨s11 _ _ upd_same, ?_⟩
  generalize hH12 : upd H11 dm (.dK mvs) = H12
  have hm12 : H12 dm = some (.dK mvs) := by rw [← hH12]; exact upd_same
  have s12 : Same H10 H12 := fun b o e => by
    rw [← hH12]
    by_cases hb : b = dm
    · rw [hb] at e ⊢; rw [hm10] at e; rw [upd_same]; exact e
    · rw [upd_ne hb]; exact s11 _ _ (by rw [upd_ne hb]; exact e)
  have t1112 : Tups H11 H12 := by rw [← hH12]; exact tups_upd fun u f z => by rw [s11 _ _ upd_same] at z; cases z; exact f
  have hl12 : H12 dl = some (.dK lvs) := by rw [← hH12, upd_ne ndl]; exact hl11
  have lt12 : LeastT H12 lvs rs := KD.mono kd11 fun _ _ z => z.mono t1112
  have hx12 := s12 _ _ hx10
  clear hH12
  refine ⟨_, rfl, x, CK K, dx, _, rfl, hx12, cl, T.na_Kinds_least_, kF_len3, ?_⟩
  generalize hH13 : upd H12 x (.ins (CK K) dx (putF "_least" (.ref dl) (kF3 dm dk dp))) = H13
  have hx13 : H13 x = some (.ins (CK K) dx (kF4 dm dk dp dl)) := by rw [← hH13]; exact upd_same
  have o13 : ∀ b o, b ≠ x → H12 b = some o → H13 b = some o := fun b o n e => by rw [← hH13, upd_ne n]; exact e
  have t1213 : Tups H12 H13 := by rw [← hH13]; exact tups_upd fun u f z => by rw [hx12] at z; cases z; exact f
  have ndl' : dl ≠ x := ne_of hl12 hx12 (by intro z; cases z)
  have pd13 : PartsD H13 pvs rs := KD.mono (pd10.mono (still_of s12)) fun _ _ z => by
    obtain ⟨r, m, e, d, hv, e2, hd, hh⟩ := z
    exact ⟨r, m, e, d, hv, e2, o13 _ _ (ne_of hd hx12 (by intro z; cases z)) hd, hh.mono t1213⟩
  have hm13 := o13 _ _ ndm hm12
  have hk13 := o13 _ _ ndk (s12 _ _ hk10)
  have hp13 := o13 _ _ ndp (s12 _ _ hp10)
  have hl13 := o13 _ _ ndl' hl12
  have mk13 : MkD H13 mvs rs := (mk10.mono (tups_of s12)).mono t1213
  have lt13 : LeastT H13 lvs rs := lt12.mono t1213
  have b13 : But x H H13 := fun b o n e => o13 _ _ n (s12 _ _ (b10 _ _ n (b8 _ _ n (b6 _ _ n e))))
  clear hH13
  -- names
  refine ⟨_, rfl, x, CK K, dx, _, _, rfl, hx13, cl, T.na_Kinds_makers_, kF4_makers', dm, _, rfl, hm13, fun tn on htn hon => ?_⟩
  have s14 := same_new (o := .frz on (.tup (mvs.map fun kv => kV kv.1))) htn
  have hx14 := s14 _ _ hx13
  refine ⟨_, rfl, x, CK K, dx, _, rfl, hx14, cl, T.na_Kinds_names, kF_len4, ?_⟩
  have ntn : tn ≠ x := fun z => by rw [z, hx13] at htn; cases htn
  generalize hH15 : upd (upd H13 tn (.frz on (.tup (mvs.map fun kv => kV kv.1)))) x (.ins (CK K) dx (putF "names" (.ref tn) (kF4 dm dk dp dl))) = H15
  have hx15 : H15 x = some (.ins (CK K) dx (kF5 dm dk dp dl tn)) := by rw [← hH15]; exact upd_same
  have o15 : ∀ b o, b ≠ x → H13 b = some o → H15 b = some o := fun b o n e => by rw [← hH15, upd_ne n]; exact s14 _ _ e
  have htn15 : H15 tn = some (.frz on (.tup (mvs.map fun kv => kV kv.1))) := by rw [← hH15, upd_ne ntn, upd_same]
  have t15 : Tups H13 H15 := Tups.trans (tups_of s14) (by rw [← hH15]; exact tups_upd fun u f z => by rw [hx14] at z; cases z; exact f)
  clear hH15
  -- order
  have hk15 := o15 _ _ ndk hk13
  refine ⟨_, rfl, x, CK K, dx, _, _, rfl, hx15, cl, T.na_Kinds_kinds_, kF5_kinds, dk, _, rfl, hk15, fun to oo hto hoo => ?_⟩
  have s16 := same_new (o := .frz oo (.tup (kvs.map fun kv => kV kv.1))) hto
  have hx16 := s16 _ _ hx15
  refine ⟨_, rfl, x, CK K, dx, _, rfl, hx16, cl, T.na_Kinds_order, kF_len5, ?_⟩
  have nto : to ≠ x := fun z => by rw [z, hx15] at hto; cases hto
  have o17 : ∀ b o, b ≠ x → H15 b = some o → (upd (upd H15 to (.frz oo (.tup (kvs.map fun kv => kV kv.1)))) x (.ins (CK K) dx (putF "order" (.ref to) (kF5 dm dk dp dl tn)))) b = some o := fun b o n e => by rw [upd_ne n]; exact s16 _ _ e
  have t17 : Tups H15 (upd (upd H15 to (.frz oo (.tup (kvs.map fun kv => kV kv.1)))) x (.ins (CK K) dx (putF "order" (.ref to) (kF5 dm dk dp dl tn)))) := Tups.trans (tups_of s16) (tups_upd fun u f z => by rw [hx16] at z; cases z; exact f)
  have tx := Tups.trans t15 t17
  have keysOf : ∀ {kvs : List (Key × V)} {ks : List Str} {R : Str → V → Prop}, KD kvs ks R → (kvs.map fun kv => kV kv.1) = ks.map V.str := fun {kvs ks R} h => by
    have : (kvs.map fun kv => kV kv.1) = (kvs.map (·.1)).map kV := by rw [List.map_map]; rfl
    rw [this, h.1, List.map_map]; rfl
  refine q _ (fun b o n e => o17 _ _ n (o15 _ _ n (b13 _ _ n e))) ⟨dx, dm, dk, dp, dl, tn, to, mvs, kvs, pvs, lvs, upd_same, ⟨o17 _ _ ndm (o15 _ _ ndm hm13), mk13.mono tx⟩, ⟨o17 _ _ ndk hk15, kd7⟩, ⟨o17 _ _ ndp (o15 _ _ ndp hp13), KD.mono pd13 fun _ _ z => ?_⟩, ⟨o17 _ _ ndl' (o15 _ _ ndl' hl13), lt13.mono tx⟩, ⟨tn, on, rfl, hon, ?_⟩, ⟨to, oo, rfl, hoo, ?_⟩⟩
  · obtain ⟨r, m, e, d, hv, e2, hd, hh⟩ := z
    have nd' : d ≠ x := ne_of hd hx13 (by intro z; cases z)
    exact ⟨r, m, e, d, hv, e2, o17 _ _ nd' (o15 _ _ nd' hd), hh.mono tx⟩
  · rw [← keysOf mk13]; exact o17 _ _ ntn htn15
  · rw [upd_ne nto, upd_same, keysOf kd7]
end
end Bg
set_option Elab.async false
set_option linter.all false
set_option maxRecDepth 100000
set_option maxHeartbeats 4000000
/-! dicts that are never changed any more, told so for good; a kinds table of such dicts -/
namespace Bg
open PySem PySem.Spec PyProof.Rows L2
/-- what never changes: a tuple, and each thing whose object is told -/
def Imm : HO → Prop
  | .tup _ => True
  | .frz _ _ => True
  | _ => False
def Imms (H H' : Hp) : Prop := ∀ b u, Imm u → H b = some u → H' b = some u
theorem Fixed.imm : ∀ {u : HO}, Fixed u → Imm u
  | .tup _, _ => trivial
  | .frz _ _, _ => trivial
theorem Imms.refl (H : Hp) : Imms H H := fun _ _ _ h => h
theorem Imms.trans {H H1 H2 : Hp} (a : Imms H H1) (b : Imms H1 H2) : Imms H H2 := fun c o f h => b c o f (a c o f h)
theorem Imms.tups {H H' : Hp} (s : Imms H H') : Tups H H' := fun b u f e => s b u f.imm e
theorem imms_of {H H' : Hp} (s : Same H H') : Imms H H' := fun b u _ h => s b _ h
theorem imms_but {a : Addr} {H H' : Hp} (s : But a H H') (h : ∀ u, Imm u → H a ≠ some u) : Imms H H' := fun b u f e => s b _ (fun z => h u f (by rw [← z]; exact e)) e
theorem imms_upd {H : Hp} {p : Addr} {o : HO} (h : ∀ u, Imm u → H p ≠ some u) : Imms H (upd H p o) := fun b u f e => by
  rw [upd_ne (show b ≠ p from fun z => h u f (by rw [← z]; exact e))]; exact e
theorem imms_new {H : Hp} {p : Addr} {o : HO} (h : H p = none) : Imms H (upd H p o) := imms_of (same_new h)
theorem notImm_lst {H : Hp} {a : Addr} {xs : List V} (h : H a = some (.lst xs)) : ∀ u, Imm u → H a ≠ some u := fun u f z => by rw [h] at z; cases z; exact f
theorem notImm_dK {H : Hp} {a : Addr} {kvs : List (Key × V)} (h : H a = some (.dK kvs)) : ∀ u, Imm u → H a ≠ some u := fun u f z => by rw [h] at z; cases z; exact f
theorem notImm_ins {H : Hp} {a C dx : Addr} {fs : List (Str × V)} (h : H a = some (.ins C dx fs)) : ∀ u, Imm u → H a ≠ some u := fun u f z => by rw [h] at z; cases z; exact f
/-- the dicts at as are told -/
structure Told (as : List Addr) (H H' : Hp) : Prop where
  out : ∀ b, b ∉ as → H' b = H b
  at_ : ∀ a ∈ as, ∀ kvs, H a = some (.dK kvs) → ∃ o, H' a = some (.frz o (.dK kvs))
def Dicts (as : List Addr) (H : Hp) : Prop := ∀ a ∈ as, ∃ kvs, H a = some (.dK kvs)
def tTell (t : TS) : TS := fun D σ H => ∃ as : List Addr, Dicts as H ∧ ∀ H', Told as H H' → t D σ H'
theorem told_inv {X : Cx} {pins : List (Addr × Obj)} {σ : L2.St} {H : Hp} {s : Shared} (I : Inv X pins σ H s) : ∀ as : List Addr, Dicts as H → ∃ H', Told as H H' ∧ Inv X pins σ H' s
  | [], _ => ⟨H, ⟨fun _ _ => rfl, fun a h => absurd h List.not_mem_nil⟩, I⟩
  | a :: r, d => by
    obtain ⟨H1, t, I1⟩ := told_inv I r fun b hb => d b (List.mem_cons_of_mem _ hb)
    by_cases h : a ∈ r
    · refine ⟨H1, ⟨fun b hb => t.out b fun z => hb (List.mem_cons_of_mem _ z), fun b hb => ?_⟩, I1⟩
      rcases List.mem_cons.mp hb with e | e
      · rw [e]; exact t.at_ a h
      · exact t.at_ b e
    · obtain ⟨kvs, e⟩ := d a (List.mem_cons_self ..)
      have e1 : H1 a = some (.dK kvs) := by rw [t.out a h]; exact e
      obtain ⟨o, I2⟩ := I1.lock e1 (show Mut (some (.dK kvs)) from trivial)
      refine ⟨_, ⟨fun b hb => ?_, fun b hb k2 e2 => ?_⟩, I2⟩
      · rw [upd_ne (fun z => hb (by rw [z]; exact List.mem_cons_self ..))]
        exact t.out b fun z => hb (List.mem_cons_of_mem _ z)
      · by_cases n : b = a
        · rw [n] at e2 ⊢
          rw [e] at e2; cases e2
          exact ⟨o, upd_same⟩
        · obtain ⟨o2, q⟩ := t.at_ b ((List.mem_cons.mp hb).resolve_left n) k2 e2
          exact ⟨o2, by rw [upd_ne n]; exact q⟩
theorem pss_tell {X : Cx} {st : List Stmt} {t : TS} (h : PSs X st t) : PSs X st (tTell t) := by
  refine ⟨fun pins s σ H D I hw => ?_⟩
  obtain ⟨as, d, q⟩ := hw
  obtain ⟨H', t, I'⟩ := told_inv I as d
  exact h.run pins s σ H' D I' (q H' t)
theorem Told.still {as : List Addr} {H H' : Hp} (t : Told as H H') (d : Dicts as H) {b : Addr} {u : HO} (n : ∀ kvs, u ≠ .dK kvs) (e : H b = some u) : H' b = some u := by
  rw [t.out b fun z => ?_]
  · exact e
  · obtain ⟨kvs, q⟩ := d b z
    rw [q] at e; exact n _ (Option.some.inj e).symm
theorem Told.imms {as : List Addr} {H H' : Hp} (t : Told as H H') (d : Dicts as H) : Imms H H' := fun b u f e => t.still d (fun kvs z => by rw [z] at f; exact f) e
/-! ### a kinds table whose dicts are told -/
def FzAt (H : Hp) (d : Addr) (kvs : List (Key × V)) : Prop := ∃ o, H d = some (.frz o (.dK kvs))
theorem FzAt.mono {H H' : Hp} (s : Imms H H') {d : Addr} {kvs : List (Key × V)} (h : FzAt H d kvs) : FzAt H' d kvs := by
  obtain ⟨o, e⟩ := h; exact ⟨o, s _ _ trivial e⟩
theorem FzAt.get {H : Hp} {d : Addr} {kvs : List (Key × V)} (h : FzAt H d kvs) (k : Key) : DGet H d (kV k) (valV kvs k) := by
  obtain ⟨o, e⟩ := h; exact .inl ⟨kvs, k, .inr ⟨o, e⟩, rfl, rfl⟩
def PartsF (H : Hp) (pvs : List (Key × V)) (rs : List Row) : Prop := KD pvs (distinct (rmakers rs)) fun m v => ∃ r ∈ rs, r.2.1 = m ∧ ∃ d hv, v = .ref d ∧ FzAt H d hv ∧ HoldD H hv r.2.2
theorem PartsF.mono {H H' : Hp} (s : Imms H H') {pvs : List (Key × V)} {rs : List Row} (h : PartsF H pvs rs) : PartsF H' pvs rs := KD.mono h fun _ _ z => by
  obtain ⟨r, m, e, d, hv, e2, hd, hh⟩ := z
  exact ⟨r, m, e, d, hv, e2, hd.mono s, hh.mono s.tups⟩
/-- the parts of a kinds table behind its object -/
def KindsIn (H : Hp) (dm dk dp dl tn to : Addr) (rs : List Row) : Prop := ∃ mvs kvs pvs lvs, (FzAt H dm mvs ∧ MkD H mvs rs) ∧ (FzAt H dk kvs ∧ KindD kvs rs) ∧ (FzAt H dp pvs ∧ PartsF H pvs rs) ∧ (FzAt H dl lvs ∧ LeastT H lvs rs) ∧
  TextsAt H (.ref tn) (distinct (rkinds rs)) ∧ TextsAt H (.ref to) (distinct (rmakers rs))
theorem KindsIn.mono {H H' : Hp} (s : Imms H H') {dm dk dp dl tn to : Addr} {rs : List Row} (h : KindsIn H dm dk dp dl tn to rs) : KindsIn H' dm dk dp dl tn to rs := by
  obtain ⟨mvs, kvs, pvs, lvs, ⟨h1, h2⟩, ⟨h3, h4⟩, ⟨h5, h6⟩, ⟨h7, h8⟩, h9, h10⟩ := h
  exact ⟨mvs, kvs, pvs, lvs, ⟨h1.mono s, h2.mono s.tups⟩, ⟨h3.mono s, h4⟩, ⟨h5.mono s, h6.mono s⟩, ⟨h7.mono s, h8.mono s.tups⟩, h9.mono s.tups, h10.mono s.tups⟩
def KindsF (K : PySem.W.Frag) (H : Hp) (x : Addr) (rs : List Row) : Prop := ∃ dx dm dk dp dl tn to, H x = some (.ins (CK K) dx (kF6 dm dk dp dl tn to)) ∧ KindsIn H dm dk dp dl tn to rs
theorem KindsF.mono {K : PySem.W.Frag} {H H' : Hp} (s : Imms H H') {x : Addr} (e : ∀ o, H x = some o → H' x = some o) {rs : List Row} (h : KindsF K H x rs) : KindsF K H' x rs := by
  obtain ⟨dx, dm, dk, dp, dl, tn, to, h0, h1⟩ := h
  exact ⟨dx, dm, dk, dp, dl, tn, to, e _ h0, h1.mono s⟩
theorem KindsF.same {K : PySem.W.Frag} {H H' : Hp} (s : Same H H') {x : Addr} {rs : List Row} (h : KindsF K H x rs) : KindsF K H' x rs := h.mono (imms_of s) fun o e => s _ _ e
theorem KindsF.ne_lst {K : PySem.W.Frag} {H : Hp} {x a : Addr} {rs : List Row} {xs : List V} (h : KindsF K H x rs) (e : H a = some (.lst xs)) : x ≠ a := by
  obtain ⟨dx, dm, dk, dp, dl, tn, to, h0, _⟩ := h
  exact ne_of h0 e (by intro z; cases z)
/-- all but a list -/
theorem KindsF.but {K : PySem.W.Frag} {H H' : Hp} {a : Addr} {xs : List V} (e : H a = some (.lst xs)) (s : But a H H') {x : Addr} {rs : List Row} (h : KindsF K H x rs) : KindsF K H' x rs :=
  h.mono (imms_but s (notImm_lst e)) fun o q => s _ _ (h.ne_lst e) q
/-- the addresses of the dicts of the parts -/
def refsOf (pvs : List (Key × V)) : List Addr := pvs.filterMap fun kv => match kv.2 with
  | .ref d => some d
  | _ => none
theorem mem_refsOf {pvs : List (Key × V)} {k : Key} {d : Addr} (h : (k, V.ref d) ∈ pvs) : d ∈ refsOf pvs := List.mem_filterMap.mpr ⟨_, h, rfl⟩
theorem nodup_inr {l : List Str} (h : l.Nodup) : (l.map (Sum.inr : Str → Key)).Nodup := by
  rw [List.nodup_iff_pairwise_ne] at h ⊢
  rw [List.pairwise_map]
  exact h.imp fun n z => n (Sum.inr.inj z)
theorem valV_of_mem {kvs : List (Key × V)} : (kvs.map (·.1)).Nodup → ∀ {k : Key} {v : V}, (k, v) ∈ kvs → valV kvs k = some v := by
  induction kvs with
  | nil => intro _ k v h; cases h
  | cons a r ih =>
    intro nd k v h
    rw [List.map_cons, List.nodup_cons] at nd
    unfold valV
    rw [List.find?_cons]
    by_cases e : a.1 = k
    · rw [decide_eq_true e]
      rcases List.mem_cons.mp h with z | z
      · rw [← z]; rfl
      · exact absurd (List.mem_map.mpr ⟨_, z, e.symm⟩) nd.1
    · rw [decide_eq_false e]
      rcases List.mem_cons.mp h with z | z
      · exact absurd (by rw [← z]) e
      · exact ih nd.2 z
/-- told once for all: each dict of a kinds table -/
theorem KindsAt.told {K : PySem.W.Frag} {H : Hp} {x : Addr} {rs : List Row} (h : KindsAt K H x rs) : ∃ as, Dicts as H ∧ ∀ H', Told as H H' → KindsF K H' x rs := by
  obtain ⟨dx, dm, dk, dp, dl, tn, to, mvs, kvs, pvs, lvs, h0, ⟨h1, h2⟩, ⟨h3, h4⟩, ⟨h5, h6⟩, ⟨h7, h8⟩, h9, h10⟩ := h
  have inn : ∀ d ∈ refsOf pvs, ∃ hv, H d = some (.dK hv) := by
    intro d hd
    obtain ⟨⟨k, v⟩, hm, e⟩ := List.mem_filterMap.mp hd
    obtain ⟨i, hi⟩ := List.getElem?_of_mem hm
    obtain ⟨j, hj, ej⟩ := KD.at h6 hi
    cases ej
    have nd : (pvs.map (·.1)).Nodup := by
      rw [h6.1]
      exact nodup_inr (nodup_distinct _)
    obtain ⟨r, _, _, d', hv, e2, hd', _⟩ := h6.2 j v (valV_of_mem nd hm)
    subst e2
    cases e
    exact ⟨hv, hd'⟩
  refine ⟨dm :: dk :: dp :: dl :: refsOf pvs, ?_, fun H' t => ?_⟩
  · intro a ha
    simp only [List.mem_cons] at ha
    rcases ha with e | e | e | e | e
    · rw [e]; exact ⟨_, h1⟩
    · rw [e]; exact ⟨_, h3⟩
    · rw [e]; exact ⟨_, h5⟩
    · rw [e]; exact ⟨_, h7⟩
    · exact inn a e
  have d : Dicts (dm :: dk :: dp :: dl :: refsOf pvs) H := by
    intro a ha
    simp only [List.mem_cons] at ha
    rcases ha with e | e | e | e | e
    · rw [e]; exact ⟨_, h1⟩
    · rw [e]; exact ⟨_, h3⟩
    · rw [e]; exact ⟨_, h5⟩
    · rw [e]; exact ⟨_, h7⟩
    · exact inn a e
  have im := t.imms d
  refine ⟨dx, dm, dk, dp, dl, tn, to, t.still d (by intro _ z; cases z) h0, mvs, kvs, pvs, lvs, ⟨t.at_ _ (by simp) _ h1, h2.mono im.tups⟩, ⟨t.at_ _ (by simp) _ h3, h4⟩, ⟨t.at_ _ (by simp) _ h5, ?_⟩, ⟨t.at_ _ (by simp) _ h7, h8.mono im.tups⟩, h9.mono im.tups, h10.mono im.tups⟩
  refine ⟨h6.1, fun k v e => ?_⟩
  obtain ⟨r, hr, e1, d', hv, e2, hd', hh⟩ := h6.2 k v e
  subst e2
  exact ⟨r, hr, e1, d', hv, rfl, t.at_ d' (by simp [mem_refsOf (mem_of_valV e)]) _ hd', hh.mono im.tups⟩
end Bg
set_option Elab.async false
set_option linter.all false
set_option maxRecDepth 100000
set_option maxHeartbeats 4000000
namespace Bg
open PySem PySem.Spec PyProof.Rows L2
section
variable {P : Program} {w : World} {K : PySem.W.Frag} {mg : Str → Option Value} {base : Heap} {fd : FuncData}
theorem canLay_ints : ∀ ns : List Int, PyData.canLayAll0 (ns.map PyData.int) = true
  | [] => by simp [PyData.canLayAll0]
  | n :: r => by
    have := canLay_ints r
    simp only [List.map_cons, PyData.canLayAll0, PyData.canLay0, this] <;> rfl
theorem shaped_ints (ns : List Int) : SeqAt.shaped (.list (ns.map PyData.int)) = true := by
  have := depthAll_ints ns
  unfold SeqAt.shaped
  rw [Bool.and_eq_true]
  refine ⟨by rw [PyData.canLay0, canLay_ints], decide_eq_true ?_⟩
  rw [PyData.depth]; omega
theorem eqv_ints_nil : ∀ ns : List Int, PyData.eqv (.list (ns.map PyData.int)) (.list []) = ns.isEmpty
  | [] => by simp [PyData.eqv, PyData.eqvAll]
  | _ :: _ => by simp [PyData.eqv, PyData.eqvAll]
theorem notFixed_lst {H : Hp} {a : Addr} {xs : List V} (h : H a = some (.lst xs)) : ∀ u, Fixed u → H a ≠ some u := fun u f z => by rw [h] at z; cases z; exact f
/-- the pool of drawn numbers -/
def PoolAt (H : Hp) (a : Addr) : Prop := ∃ ns : List Int, H a = some (.lst (ns.map V.int)) ∧ ns.length ≤ 50000
def spTake : Sp := fun vs H Q _ => ∃ (a : Addr) (m : Int), vs = [.ref a, .int m] ∧ PoolAt H a ∧ 0 < m ∧ ∀ z H', 0 ≤ z → z < m → But a H H' → PoolAt H' a → Q (.int z) H'
theorem ok_take (T : Tx K mg) (F : FnP K ("_law_take", none) "_law_take" "_law_take" s__law_take fd) : FnOk P w K mg base CX0 1 (He.fAd K ("_law_take", none)) fd ["_law_pool_here", "_law_many"] spTake := by
  refine F.ok sc__law_take (fun vs H Q E h => ?_) (fun cdv A outer s H vs Q E hr h => ?_)
  · obtain ⟨_, _, rfl, _⟩ := h; rfl
  obtain ⟨a, m, rfl, ⟨ns, ha, hl⟩, hm, q⟩ := h
  refine ⟨_, PSs.nox (pss_cons (ps_if (pt_cmpR (op_eqD hr.units) (pv 0) (pe_lst pa_nil) (nomark _)) (pss_one (ps_ret pe_int)) pss_nil)
    (pss_one (ps_ret (pe_op op_mod (pe_callTy call_int1 (by rfl) T.n_int (by decide +kernel) (pa_cons (pe_bm0 PySem.F.plainAttrs_list PySem.F.slot_list_pop PySem.F.type_list_pop mt_pop (pv 0)) pa_nil)) (pv 1))))), ?_⟩
  refine ⟨_, rfl, Nat.zero_le _, fun p hp => ?_⟩
  have s1 := same_new (o := .lst []) hp
  have ha1 := s1 _ _ ha
  refine ⟨.list (ns.map PyData.int), .list [], .lst (SqL.of ha1) (dpAll_ints _), .lst (SqL.of upd_same) .nil, shaped_ints _, shaped_ints [], _, rfl, ?_⟩
  rw [eqv_ints_nil]
  cases ns with
  | nil => exact iteT (q 0 _ (Int.le_refl _) hm (but_of s1) ⟨[], ha1, hl⟩)
  | cons n r =>
    refine iteF ⟨_, rfl, .inl ⟨rfl, _, SqL.of ha1⟩, a, _, .int ((n :: r).getLast (by simp)), rfl, rfl, ha1, ?_, ?_⟩
    · rw [List.length_map, List.getElem?_map]
      have : (n :: r)[(n :: r).length - 1]? = some ((n :: r).getLast (by simp)) := by
        rw [List.getLast_eq_getElem, List.getElem?_eq_getElem]
      rw [this]; rfl
    · refine .inl ⟨_, rfl, _, rfl, _, _, rfl, rfl, hm, ?_⟩
      refine q _ _ (Int.emod_nonneg _ (by omega)) (Int.emod_lt_of_pos _ hm) ((but_of s1).trans but_upd) ⟨(n :: r).dropLast, ?_, ?_⟩
      · rw [upd_same, List.map_dropLast]
      · rw [List.length_dropLast]; exact Nat.le_trans (Nat.sub_le _ _) hl
end
end Bg
set_option Elab.async false
set_option linter.all false
set_option maxRecDepth 100000
set_option maxHeartbeats 4000000
namespace Bg
open PySem PySem.Spec PyProof.Rows L2
section
variable {P : Program} {w : World} {K : PySem.W.Frag} {mg : Str → Option Value} {base : Heap} {fd : FuncData}
theorem cutV_ints (ns : List Int) (lo hi : Option Int) : ∃ ms : List Int, cutV (ns.map V.int) lo hi = ms.map V.int ∧ ms.length ≤ ns.length := by
  refine ⟨(ns.drop _).take _, by unfold cutV; rw [List.map_take, List.map_drop], ?_⟩
  rw [List.length_take, List.length_drop]; omega
theorem int_item {ms : List Int} {i : Nat} {x : V} (h : (ms.map V.int)[i]? = some x) : ∃ n, x = .int n := by
  rw [List.getElem?_map] at h
  cases e : ms[i]? with
  | none => rw [e] at h; cases h
  | some n => rw [e] at h; exact ⟨n, (Option.some.inj h).symm⟩
def PoolLen (H : Hp) (a : Addr) (n : Nat) : Prop := ∃ ns : List Int, H a = some (.lst (ns.map V.int)) ∧ ns.length ≤ n
def spPool (K : PySem.W.Frag) : Sp := fun vs H Q _ => ∃ (a : Addr) (ns : List Int), vs = [.ref a] ∧ SqL K H a (ns.map V.int) ∧ ns.length ≤ 63 ∧ ∀ p H', Same H H' → H p = none → PoolAt H' p → Q (.ref p) H'
theorem ok_pool (T : Tx K mg) (F : FnP K ("_law_pool", none) "_law_pool" "_law_pool" s__law_pool fd) : FnOk P w K mg base CX0 1 (He.fAd K ("_law_pool", none)) fd ["_law_script"] (spPool K) := by
  refine F.ok sc__law_pool (fun vs H Q E h => ?_) (fun cdv A outer s H vs Q E hr h => ?_)
  · obtain ⟨_, _, rfl, _⟩ := h; rfl
  obtain ⟨a, ns, rfl, hS, h63, q⟩ := h
  have nd := sc__law_pool.nd
  refine ⟨_, PSs.nox (pss_cons (ps_set (i := 1) nd rfl (.inl rfl) (pe_lst pa_nil))
    (pss_cons (ps_for PassesOwn.never rfl (pi_list (pe_slice sl_list (pv 0) po_none (po_some pe_int))) (pg_name (i := 2) nd rfl (.inl rfl))
      (pss_cons (ps_set (i := 3) nd rfl (.inl rfl) (pe_callTy call_int1 (by rfl) T.n_int (by decide +kernel) (pa_cons (pv 2) pa_nil)))
      (pss_one (ps_if (pt_cmpR op_ge (pv 3) (pe_op op_pow pe_int pe_int) (nomark _))
        (pss_one (ps_for PassesOwn.never rfl (pi_range1 rfl T.n_range (pa_cons pe_int pa_nil)) (pg_name (i := 4) nd rfl (.inl rfl))
          (pss_one (ps_if (pt_cmpR op_gt (pv 3) pe_int (nomark _))
            (pss_cons (ps_expr (pe_bm PySem.F.plainAttrs_list PySem.F.slot_list_append PySem.F.type_list_append mt_append (pv 1) (pa_cons (pe_op op_mod (pv 3) pe_int) pa_nil)))
            (pss_one (ps_set (i := 3) nd rfl (.inl rfl) (pe_op op_fdiv (pv 3) pe_int)))) pss_nil))))
        (pss_cons (ps_set (i := 5) nd rfl (.inl rfl) (pe_op op_mod (pe_callTy call_int1 (by rfl) T.n_int (by decide +kernel) (pa_cons (pe_op op_add (pe_op op_mul (pv 3) pe_int) pe_int) pa_nil)) pe_int))
        (pss_one (ps_for PassesOwn.never rfl (pi_range1 rfl T.n_range (pa_cons pe_int pa_nil)) (pg_name (i := 4) nd rfl (.inl rfl))
          (pss_cons (ps_set (i := 5) nd rfl (.inl rfl) (pe_op op_mod (pe_callTy call_int1 (by rfl) T.n_int (by decide +kernel) (pa_cons (pe_op op_add (pe_op op_add (pe_op op_mul (pv 5) pe_int) (pe_op op_mul pe_int (pv 4))) pe_int) pa_nil)) pe_int))
          (pss_one (ps_expr (pe_bm PySem.F.plainAttrs_list PySem.F.slot_list_append PySem.F.type_list_append mt_append (pv 1)
            (pa_cons (pe_op op_mod (pe_callTy call_int1 (by rfl) T.n_int (by decide +kernel) (pa_cons (pe_op op_fdiv (pe_op op_mul (pv 5) (pv 5)) pe_int) pa_nil)) pe_int) pa_nil))))))))))))
    (pss_one (ps_ret (pe_revL (pv 1)))))), ?_⟩
  refine ⟨Nat.zero_le _, fun p hp => ?_⟩
  have s1 := same_new (o := .lst []) hp
  refine ⟨_, rfl, _, rfl, a, _, rfl, s1.seq hS, fun c hc => ?_⟩
  obtain ⟨ms, em, hm⟩ := cutV_ints ns none (some 63)
  have s2 := s1.trans (same_new (o := .lst (cutV (ns.map V.int) none (some 63))) hc)
  have npc : p ≠ c := ne_of_none upd_same hc
  have hc0 : H c = none := s1.free hc
  refine ⟨c, rfl, ⟨_, SqL.of upd_same⟩, for_it (walk_list (K := K) (a := c) (xs := ms.map V.int)) (fun i σ H2 => (∃ v2 v3 v4 v5, σ = [some (.ref a), some (.ref p), v2, v3, v4, v5]) ∧ Same H H2 ∧ H2 c = some (.lst (ms.map V.int)) ∧ PoolLen H2 p (60 * i)) ?_ (fun i σ H2 _ z => SqL.of z.2.2.1) ?_ ?_⟩
  · exact ⟨⟨_, _, _, _, rfl⟩, s2, by rw [upd_same, em], [], by rw [upd_ne npc, upd_same] <;> rfl, Nat.zero_le _⟩
  · rintro i x σ H2 H3 hi ⟨⟨v2, v3, v4, v5, rfl⟩, sm, hcc, ps, hps, hpl⟩ ⟨rfl, hx⟩
    obtain ⟨n, rfl⟩ := int_item hx
    rw [List.length_map] at hi
    have i63 : i < 63 := by omega
    refine ⟨_, rfl, .inl ⟨_, rfl, ?_⟩⟩
    refine ⟨_, rfl, _, _, rfl, rfl, ⟨by decide, by decide, by decide⟩, _, _, rfl, rfl, _, rfl, ite2 (fun h1 => ?_) (fun h1 => ?_)⟩
    · refine ⟨_, rfl, by decide, by decide, for_it walk_range (fun j σ H4 => (∃ v2 z v4 v5, σ = [some (.ref a), some (.ref p), v2, some (.int z), v4, v5]) ∧ Same H H4 ∧ H4 c = some (.lst (ms.map V.int)) ∧ PoolLen H4 p (60 * i + j)) ⟨⟨_, _, _, _, rfl⟩, sm, hcc, ps, hps, hpl⟩ (fun _ _ _ _ _ => trivial) ?_ ?_⟩
      · rintro j y σ H4 H5 hj ⟨⟨v2, z, v4, v5, rfl⟩, sm, hcc, ps, hps, hpl⟩ ⟨rfl, rfl⟩
        refine ⟨_, rfl, _, _, rfl, rfl, _, rfl, ite2 (fun h2 => ?_) (fun h2 => ?_)⟩
        · refine ⟨_, rfl, .inl ⟨rfl, _, SqL.of hps⟩, _, rfl, _, _, rfl, rfl, (by show (0 : Int) < 1000000; decide), p, _, _, rfl, rfl, hps, (by rw [List.length_map]; exact sz_lt (by have : j < 60 := hj; omega)), ?_⟩
          refine ⟨_, rfl, _, _, rfl, rfl, ⟨by decide, by decide⟩, ⟨_, _, _, _, rfl⟩, same_mut sm hp, by rw [upd_ne npc.symm]; exact hcc, ps ++ [z % 1000000], by rw [upd_same, List.map_append] <;> rfl, ?_⟩
          rw [List.length_append, List.length_singleton]; omega
        · exact ⟨⟨_, _, _, _, rfl⟩, sm, hcc, ps, hps, by omega⟩
      · rintro σ H4 ⟨⟨v2, z, v4, v5, rfl⟩, sm, hcc, ps, hps, hpl⟩
        exact ⟨⟨_, _, _, _, rfl⟩, sm, hcc, ps, hps, by have : ((60 : Int)).toNat = 60 := rfl; omega⟩
    · refine ⟨_, rfl, _, _, rfl, rfl, .inr ⟨by decide, by decide⟩, _, _, rfl, rfl, .inl ⟨_, rfl, _, _, rfl, rfl, (by show (0 : Int) < 2147483647; decide), ?_⟩⟩
      have m0 : 0 ≤ (n * 48271 + 12345) % 2147483647 ∧ (n * 48271 + 12345) % 2147483647 < 2147483647 := ⟨Int.emod_nonneg _ (by decide), Int.emod_lt_of_pos _ (by decide)⟩
      refine ⟨_, rfl, by decide, by decide, for_it walk_range (fun j σ H4 => (∃ v2 v3 v4 m, σ = [some (.ref a), some (.ref p), v2, v3, v4, some (.int m)] ∧ 0 ≤ m ∧ m < 2147483647) ∧ Same H H4 ∧ H4 c = some (.lst (ms.map V.int)) ∧ PoolLen H4 p (60 * i + j)) ⟨⟨_, _, _, _, rfl, m0.1, m0.2⟩, sm, hcc, ps, hps, hpl⟩ (fun _ _ _ _ _ => trivial) ?_ ?_⟩
      · rintro j y σ H4 H5 hj ⟨⟨v2, v3, v4, m, rfl, m1, m2⟩, sm, hcc, ps, hps, hpl⟩ ⟨rfl, rfl⟩
        refine ⟨_, rfl, _, _, rfl, rfl, .inr ⟨by decide, by decide⟩, _, rfl, _, _, rfl, rfl, .inl ⟨by decide, by decide⟩, _, _, rfl, rfl, _, _, rfl, rfl, .inl ⟨_, rfl, _, _, rfl, rfl, (by show (0 : Int) < 2147483629; decide), ?_⟩⟩
        have m3 : 0 ≤ (m * 69621 + 7 * (0 + (j : Int)) + 1) % 2147483629 ∧ (m * 69621 + 7 * (0 + (j : Int)) + 1) % 2147483629 < 2147483629 := ⟨Int.emod_nonneg _ (by decide), Int.emod_lt_of_pos _ (by decide)⟩
        refine ⟨_, rfl, .inl ⟨rfl, _, SqL.of hps⟩, _, rfl, _, rfl, _, _, rfl, rfl, .inl ⟨by have := m3.1; omega, by have := m3.2; omega⟩, _, _, rfl, rfl, ⟨by decide, by decide⟩, .inl ⟨_, rfl, _, _, rfl, rfl, (by show (0 : Int) < 1000000; decide), p, _, _, rfl, rfl, hps, (by rw [List.length_map]; exact sz_lt (by have : j < 12 := hj; omega)), ?_⟩⟩
        exact ⟨⟨_, _, _, _, rfl, m3.1, by have := m3.2; omega⟩, same_mut sm hp, by rw [upd_ne npc.symm]; exact hcc, ps ++ [_], by rw [upd_same, List.map_append] <;> rfl, by rw [List.length_append, List.length_singleton]; omega⟩
      · rintro σ H4 ⟨⟨v2, v3, v4, m, rfl, m1, m2⟩, sm, hcc, ps, hps, hpl⟩
        exact ⟨⟨_, _, _, _, rfl⟩, sm, hcc, ps, hps, by have : ((12 : Int)).toNat = 12 := rfl; omega⟩
  · rintro σ H2 ⟨⟨v2, v3, v4, v5, rfl⟩, sm, hcc, ps, hps, hpl⟩
    rw [List.length_map] at hpl
    refine ⟨_, rfl, p, _, rfl, SqL.of hps, fun r hr' => ?_⟩
    refine q r _ (sm.trans (same_new hr')) (sm.free hr') ⟨ps.reverse, by rw [upd_same, List.map_reverse], by rw [List.length_reverse]; omega⟩
end
end Bg
set_option Elab.async false
set_option linter.all false
set_option maxRecDepth 100000
set_option maxHeartbeats 4000000
namespace Bg
open PySem PySem.Spec PyProof.Rows L2
/-! ### drawn names -/
def goodC (c : Nat) : Bool := decide (c < 128) && Unicode.isAlnum c
def lets : Str := "abcdefghijklmnopqrstuvwxyzABCDEFGHIJKLMNOPQRSTUVWXYZ0123456789"
theorem lets_len : lets.cps.toList.length = 62 := by decide +kernel
theorem lets_good : ∀ i, i < 62 → goodC (lets.cps.toList.getD i 0) = true := by decide +kernel
theorem lets_alpha : ∀ i, i < 52 → Unicode.isAlpha (lets.cps.toList.getD i 0) = true := by decide +kernel
theorem x_good : goodC 120 = true := by decide +kernel
/-- a drawn name of at most n signs -/
structure GN (x : Str) (n : Nat) : Prop where
  all : ∀ c ∈ x.cps.toList, goodC c = true
  head : ∃ c r, x.cps.toList = c :: r ∧ Unicode.isAlpha c = true
  len : x.cps.toList.length ≤ n
theorem str_len (x : Str) : x.length = x.cps.toList.length := by unfold Str.length; simp
theorem GN.mono {x : Str} {n m : Nat} (h : GN x n) (l : n ≤ m) : GN x m := ⟨h.all, h.head, Nat.le_trans h.len l⟩
theorem app_cps (x y : Str) : (x ++ y).cps.toList = x.cps.toList ++ y.cps.toList := by
  show (Str.append x y).cps.toList = _
  unfold Str.append; simp
theorem str_ext {x y : Str} (h : x.cps.toList = y.cps.toList) : x = y := PySem.W.str_of_cps h
theorem GN.app {x : Str} {n : Nat} (h : GN x n) {c : Nat} (hc : goodC c = true) : GN (x ++ (⟨#[c]⟩ : Str)) (n + 1) := by
  have e : (x ++ (⟨#[c]⟩ : Str)).cps.toList = x.cps.toList ++ [c] := app_cps _ _
  refine ⟨fun d hd => ?_, ?_, ?_⟩
  · rw [e] at hd
    rcases List.mem_append.mp hd with z | z
    · exact h.all d z
    · rw [List.mem_singleton.mp z]; exact hc
  · obtain ⟨a, r, e2, ha⟩ := h.head
    exact ⟨a, r ++ [c], by rw [e, e2]; rfl, ha⟩
  · rw [e, List.length_append, List.length_singleton]; have := h.len; omega
theorem GN.nameB {x : Str} {n : Nat} (h : GN x n) (hn : n ≤ 24) : nameB x = true := by
  obtain ⟨c, r, e, ha⟩ := h.head
  have hl := h.len
  have l1 : 1 ≤ x.cps.toList.length := by rw [e]; simp
  unfold Bg.nameB Txt.isascii Txt.isalnum Txt.isalpha
  have a1 : x.cps.all (fun z => decide (z < 128)) = true := by
    rw [← Array.all_toList, List.all_eq_true]
    intro d hd
    have := h.all d hd
    unfold goodC at this; simp at this; simpa using this.1
  have a2 : x.cps.all Unicode.isAlnum = true := by
    rw [← Array.all_toList, List.all_eq_true]
    intro d hd
    have := h.all d hd
    unfold goodC at this; simp at this; exact this.2
  have a3 : x.cps.toList.headD 0 = c := by rw [e]; rfl
  have l2 : x.length = x.cps.toList.length := str_len x
  rw [a1, a2, a3]
  have l3 : 0 < x.length := by omega
  simp only [l3, gt_iff_lt, decide_true, Bool.true_and, Bool.and_true]
  rw [decide_eq_true (show 1 ≤ x.length by omega), decide_eq_true (show x.length ≤ 24 by omega)]
  show (true && (true && (decide (0 < (⟨#[c]⟩ : Str).length) && (#[c] : Array Nat).all Unicode.isAlpha))) = true
  simp [ha, Str.length]
/-- base and j times x -/
def withX (b : Str) (j : Nat) : Str := ⟨(b.cps.toList ++ List.replicate j 120).toArray⟩
theorem withX_zero (b : Str) : withX b 0 = b := str_ext (by simp [withX])
theorem withX_succ (b : Str) (j : Nat) : withX b j ++ (⟨#[120]⟩ : Str) = withX b (j + 1) := str_ext (by
  rw [app_cps]
  simp [withX, List.replicate_succ'])
theorem withX_inj {b : Str} {i j : Nat} (h : withX b i = withX b j) : i = j := by
  have := congrArg (fun z : Str => z.cps.toList.length) h
  simp [withX] at this; exact this
theorem withX_out {b : Str} {ks : List Str} (h : ∀ j, j < ks.length → withX b j ∈ ks) : withX b ks.length ∉ ks := by
  intro hm
  have nd : ((List.range (ks.length + 1)).map (withX b)).Nodup := by
    rw [List.nodup_iff_pairwise_ne, List.pairwise_map]
    exact List.Pairwise.imp (fun {i j} ne z => ne (withX_inj z)) (List.nodup_iff_pairwise_ne.mp List.nodup_range)
  have := nodup_sub_len _ ks nd fun x hx => by
    obtain ⟨j, hj, rfl⟩ := List.mem_map.mp hx
    have hj := List.mem_range.mp hj
    by_cases e : j = ks.length
    · rw [e]; exact hm
    · exact h j (by omega)
  simp at this
  omega
theorem x_lit : ("x" : Str) = (⟨#[120]⟩ : Str) := by decide +kernel
theorem at_nat {α : Type} {l : List α} {z : Int} {j : Nat} {x : α} (e : z = (j : Int)) (h : l[j]? = some x) : atI l z = some x := by
  rw [e]; exact atI_nat h
theorem at_lets {z : Int} (h0 : 0 ≤ z) (h1 : z < 62) : atI lets.cps.toList z = some (lets.cps.toList.getD z.toNat 0) := by
  have lt : z.toNat < lets.cps.toList.length := by rw [lets_len]; omega
  refine at_nat (Int.toNat_of_nonneg h0).symm ?_
  rw [List.getD_eq_getElem?_getD, List.getElem?_eq_getElem lt] <;> rfl
section
variable {P : Program} {w : World} {K : PySem.W.Frag} {mg : Str → Option Value} {base : Heap} {fd : FuncData}
def spName (K : PySem.W.Frag) : Sp := fun vs H Q _ => ∃ (sd k : Int) (t : Addr) (ks : List Str), vs = [.int sd, .int k, .ref t] ∧ (0 ≤ sd ∧ sd ≤ 10000000) ∧ (0 ≤ k ∧ k ≤ 1000) ∧ SqL K H t (ks.map V.str) ∧ ks.length ≤ 20 ∧ ∀ x, GN x (4 + ks.length) → x ∉ ks → Q (.str x) H
theorem ok_name (T : Tx K mg) (F : FnP K ("_law_name", none) "_law_name" "_law_name" s__law_name fd) : FnOk P w K mg base CX0 1 (He.fAd K ("_law_name", none)) fd ["_law_seed", "_law_k", "_law_taken"] (spName K) := by
  refine F.ok sc__law_name (fun vs H Q E h => ?_) (fun cdv A outer s H vs Q E hr h => ?_)
  · obtain ⟨_, _, _, _, rfl, _⟩ := h; rfl
  obtain ⟨sd, k, t, ks, rfl, ⟨s0, s1⟩, ⟨k0, k1⟩, hS, h20, q⟩ := h
  have nd := sc__law_name.nd
  refine ⟨_, PSs.nox (pss_cons (ps_set (i := 3) nd rfl (.inl rfl) pe_str)
    (pss_cons (ps_set (i := 4) nd rfl (.inl rfl) (pe_op op_mod (pe_callTy call_int1 (by rfl) T.n_int (by decide +kernel) (pa_cons (pe_op op_mul (pe_op op_mul (pe_op op_add (pv 0) pe_int) (pe_op op_add (pv 1) pe_int)) pe_int) pa_nil)) pe_int))
    (pss_cons (ps_set (i := 5) nd rfl (.inl rfl) (pe_ix ix_str (pv 3) (pe_op op_mod (pv 4) pe_int) (fun _ _ => rfl)))
    (pss_cons (ps_for PassesOwn.never rfl (pi_range1 rfl T.n_range (pa_cons (pe_op op_mod (pe_op op_fdiv (pv 4) pe_int) pe_int) pa_nil)) (pg_name (i := 6) nd rfl (.inl rfl))
      (pss_cons (ps_set (i := 4) nd rfl (.inl rfl) (pe_op op_mod (pe_callTy call_int1 (by rfl) T.n_int (by decide +kernel) (pa_cons (pe_op op_add (pe_op op_mul (pv 4) pe_int) pe_int) pa_nil)) pe_int))
      (pss_one (ps_set (i := 5) nd rfl (.inl rfl) (pe_op op_add_str (pv 5) (pe_ix ix_str (pv 3) (pe_op op_mod (pe_op op_fdiv (pv 4) pe_int) pe_int) (fun _ _ => rfl)))))))
    (pss_cons (ps_for PassesOwn.never rfl (pi_range1 rfl T.n_range (pa_cons (pe_callB call_len_seq (by rfl) T.n_len PySem.boot_len (pa_cons (pv 2) pa_nil)) pa_nil)) (pg_name (i := 6) nd rfl (.inl rfl))
      (pss_one (ps_if (pt_cmpR op_in_seq (pv 5) (pv 2) (by rfl)) (pss_one (ps_set (i := 5) nd rfl (.inl rfl) (pe_op op_add_str (pv 5) pe_str))) pss_nil)))
    (pss_one (ps_ret (pv 5)))))))), ?_⟩
  have m0 : 0 ≤ (sd + 1) * (k + 5) * 48271 % 2147483647 := Int.emod_nonneg _ (by decide)
  have m1 : (sd + 1) * (k + 5) * 48271 % 2147483647 < 2147483647 := Int.emod_lt_of_pos _ (by decide)
  refine ⟨_, rfl, _, _, rfl, rfl, _, rfl, _, _, rfl, rfl, _, _, rfl, rfl, .inl ⟨by omega, by omega⟩, _, _, rfl, rfl, .inr ⟨by decide, by decide⟩, .inl ⟨_, rfl, _, _, rfl, rfl, (by show (0 : Int) < 2147483647; decide), ?_⟩⟩
  have c0 : 0 ≤ ((sd + 1) * (k + 5) * 48271 % 2147483647) % 52 := Int.emod_nonneg _ (by decide)
  have c1 : ((sd + 1) * (k + 5) * 48271 % 2147483647) % 52 < 52 := Int.emod_lt_of_pos _ (by decide)
  have ll : lets.length ≤ sizeLine := by rw [str_len, lets_len]; decide
  refine ⟨_, rfl, _, rfl, _, _, rfl, rfl, (by show (0 : Int) < 52; decide), lets, _, _, rfl, rfl, ll, at_lets c0 (by omega), ?_⟩
  have g1 : GN (⟨#[lets.cps.toList.getD (((sd + 1) * (k + 5) * 48271 % 2147483647) % 52).toNat 0]⟩ : Str) 1 := by
    have a := lets_good (((sd + 1) * (k + 5) * 48271 % 2147483647) % 52).toNat (by omega)
    have b := lets_alpha (((sd + 1) * (k + 5) * 48271 % 2147483647) % 52).toNat (by omega)
    refine ⟨fun c hc => ?_, ⟨_, [], rfl, b⟩, Nat.le_refl _⟩
    have : c = lets.cps.toList.getD (((sd + 1) * (k + 5) * 48271 % 2147483647) % 52).toNat 0 := by simpa using hc
    rw [this]; exact a
  have d0 : 0 ≤ ((sd + 1) * (k + 5) * 48271 % 2147483647) / 52 % 4 := Int.emod_nonneg _ (by decide)
  have d1 : ((sd + 1) * (k + 5) * 48271 % 2147483647) / 52 % 4 < 4 := Int.emod_lt_of_pos _ (by decide)
  refine ⟨_, rfl, _, _, rfl, rfl, ⟨by decide, by decide⟩, _, _, rfl, rfl, (by show (0 : Int) < 4; decide), _, rfl, ?_, ?_, for_it walk_range (fun i σ H2 => (∃ n x v6, σ = [some (.int sd), some (.int k), some (.ref t), some (.str lets), some (.int n), some (.str x), v6] ∧ 0 ≤ n ∧ n < 2147483647 ∧ GN x (1 + i)) ∧ H2 = H) ⟨⟨_, _, _, rfl, m0, m1, g1⟩, rfl⟩ (fun _ _ _ _ _ => trivial) ?_ ?_⟩
  · show -(2 ^ 62) ≤ ((sd + 1) * (k + 5) * 48271 % 2147483647) / 52 % 4; omega
  · show ((sd + 1) * (k + 5) * 48271 % 2147483647) / 52 % 4 < 2 ^ 62; omega
  · rintro i y σ H2 H3 hi ⟨⟨n, x, v6, rfl, n1, n2, gx⟩, rfl⟩ ⟨rfl, rfl⟩
    have e0 : 0 ≤ (n * 69621 + 1) % 2147483629 := Int.emod_nonneg _ (by decide)
    have e1 : (n * 69621 + 1) % 2147483629 < 2147483629 := Int.emod_lt_of_pos _ (by decide)
    refine ⟨_, rfl, _, _, rfl, rfl, .inr ⟨by decide, by decide⟩, _, _, rfl, rfl, .inl ⟨_, rfl, _, _, rfl, rfl, (by show (0 : Int) < 2147483629; decide), ?_⟩⟩
    have f0 : 0 ≤ ((n * 69621 + 1) % 2147483629) / 64 % 62 := Int.emod_nonneg _ (by decide)
    have f1 : ((n * 69621 + 1) % 2147483629) / 64 % 62 < 62 := Int.emod_lt_of_pos _ (by decide)
    have lx := gx.len
    have i4 : i < 4 := by have z : i < (((sd + 1) * (k + 5) * 48271 % 2147483647) / 52 % 4).toNat := hi; omega
    refine ⟨_, rfl, _, rfl, _, rfl, _, _, rfl, rfl, ⟨by decide, by decide⟩, _, _, rfl, rfl, (by show (0 : Int) < 62; decide), lets, _, _, rfl, rfl, ll, at_lets f0 f1, _, _, rfl, rfl, ?_, ?_⟩
    · rw [str_len]; show x.cps.toList.length + 1 ≤ sizeLine; exact sz_of (by omega)
    · exact ⟨⟨_, _, _, rfl, e0, by omega, by have := gx.app (lets_good (((n * 69621 + 1) % 2147483629) / 64 % 62).toNat (by omega)); rw [Nat.add_assoc] at this; exact this⟩, rfl⟩
  · rintro σ H2 ⟨⟨n, x, v6, rfl, n1, n2, gx⟩, rfl⟩
    have gx4 : GN x 4 := gx.mono (by omega)
    refine ⟨_, rfl, t, _, rfl, .inl hS, _, rfl, ?_, ?_, for_it walk_range (fun i σ H3 => (∃ y v6, σ = [some (.int sd), some (.int k), some (.ref t), some (.str lets), some (.int n), some (.str y), v6] ∧ GN y (4 + i) ∧ (y ∉ ks ∨ (y = withX x i ∧ ∀ j, j < i → withX x j ∈ ks))) ∧ H3 = H2) ?_ (fun _ _ _ _ _ => trivial) ?_ ?_⟩
    · show -(2 ^ 62) ≤ (((ks.map V.str).length : Nat) : Int); omega
    · show (((ks.map V.str).length : Nat) : Int) < 2 ^ 62; rw [List.length_map]; omega
    · exact ⟨⟨x, _, rfl, gx4, .inr ⟨(withX_zero x).symm, fun j hj => absurd hj (Nat.not_lt_zero _)⟩⟩, rfl⟩
    · rintro i y σ H3 H4 hi ⟨⟨z, v6, rfl, gz, hz⟩, rfl⟩ ⟨rfl, rfl⟩
      have ilt : i < ks.length := by have : i < (((ks.map V.str).length : Nat) : Int).toNat := hi; rw [List.length_map] at this; omega
      refine ⟨_, rfl, _, rfl, t, _, rfl, .inl hS, rfl, flat_str _, _, rfl, ?_⟩
      rw [inV_strs]
      refine ite2 (fun h1 => ?_) (fun h1 => ?_)
      · have hin : z ∈ ks := of_decide_eq_true h1
        obtain ⟨e1, e2⟩ := hz.resolve_left fun w => w hin
        have lz := gz.len
        refine ⟨_, rfl, _, _, rfl, rfl, ?_, ⟨_, _, rfl, ?_, .inr ⟨?_, fun j hj => ?_⟩⟩, rfl⟩
        · rw [str_len, str_len, x_lit]; show z.cps.toList.length + 1 ≤ sizeLine; exact sz_of (by omega)
        · rw [x_lit]; exact gz.app x_good
        · rw [x_lit, e1, withX_succ]
        · by_cases e : j = i
          · rw [e, ← e1]; exact hin
          · exact e2 j (by omega)
      · exact ⟨⟨_, _, rfl, gz.mono (by omega), .inl fun w => h1 (decide_eq_true w)⟩, rfl⟩
    · rintro σ H3 ⟨⟨z, v6, rfl, gz, hz⟩, rfl⟩
      have en : (((ks.map V.str).length : Nat) : Int).toNat = ks.length := by rw [List.length_map]; omega
      rw [en] at gz hz
      refine ⟨_, rfl, q z gz ?_⟩
      rcases hz with hz | ⟨e1, e2⟩
      · exact hz
      · rw [e1]; exact withX_out e2
end
end Bg
set_option Elab.async false
set_option linter.all false
set_option maxRecDepth 100000
set_option maxHeartbeats 4000000
namespace Bg
open PySem PySem.Spec PyProof.Rows L2
/-- drawn parts, of tree kinds ks -/
structure GP (ks : List Str) (ps : List Part) : Prop where
  few : ps.length ≤ 4
  nd : (ps.map (·.1)).Nodup
  each : ∀ p ∈ ps, GN p.1 8 ∧ (p.2 = (("byte" : Str), none) ∨ ∃ k ∈ ks, ∃ c : Int, p.2 = (k, some c) ∧ 1 ≤ c ∧ c ≤ 1000)
theorem but_at {a : Addr} {H H' : Hp} (s : But a H H') {b : Addr} {o : HO} (h : H b = some o) (n : b ≠ a) : H' b = some o := s b o n h
theorem PoolAt.not {H : Hp} {a : Addr} (h : PoolAt H a) : ∀ u, Fixed u → H a ≠ some u := by
  obtain ⟨ns, ha, _⟩ := h; exact notFixed_lst ha
theorem PoolAt.ne_new {H : Hp} {a p : Addr} (h : PoolAt H a) (hp : H p = none) : a ≠ p := by
  obtain ⟨ns, ha, _⟩ := h; exact ne_of_none ha hp
theorem PoolAt.same {H H' : Hp} {a : Addr} (s : Same H H') (h : PoolAt H a) : PoolAt H' a := by
  obtain ⟨ns, ha, l⟩ := h; exact ⟨ns, s _ _ ha, l⟩
theorem PoolAt.upd {H : Hp} {a p : Addr} {o : HO} (h : PoolAt H a) (n : a ≠ p) : PoolAt (upd H p o) a := by
  obtain ⟨ns, ha, l⟩ := h; exact ⟨ns, by rw [upd_ne n]; exact ha, l⟩
section
variable {P : Program} {w : World} {K : PySem.W.Frag} {mg : Str → Option Value} {base : Heap} {fd : FuncData}
def spLParts : Sp := fun vs H Q _ => ∃ (a tn : Addr) (sd : Int) (b : Bool) (ks : List Str), vs = [.ref a, .int sd, .ref tn, .bl b] ∧ PoolAt H a ∧ (0 ≤ sd ∧ sd ≤ 10000000) ∧ H tn = some (.lst (ks.map V.str)) ∧ tn ≠ a ∧ ks.length ≤ 10 ∧
  ∀ v ps H', But a H H' → PoolAt H' a → PartsAt H' v ps → GP ks ps → Q v H'
theorem ok_lparts (T : Tx K mg) (F : FnP K ("_law_parts", none) "_law_parts" "_law_parts" s__law_parts fd) : FnOk P w K mg base CX0 2 (He.fAd K ("_law_parts", none)) fd ["_law_pool_here", "_law_seed", "_law_names", "_law_base_here"] spLParts := by
  obtain ⟨f1, F1⟩ := T.F__law_take
  obtain ⟨f2, F2⟩ := T.F__law_name
  refine F.ok sc__law_parts (fun vs H Q E h => ?_) (fun cdv A outer s H vs Q E hr h => ?_)
  · obtain ⟨_, _, _, _, _, rfl, _⟩ := h; rfl
  obtain ⟨a, tn, sd, b, ks, rfl, hP, hsd, hn, nta, hk, q⟩ := h
  have nd := sc__law_parts.nd
  refine ⟨_, PSs.nox (pss_cons (ps_set (i := 4) nd rfl (.inl rfl) (pe_lst pa_nil)) (pss_cons (ps_set (i := 5) nd rfl (.inl rfl) (pe_lst pa_nil)) (pss_cons (ps_set (i := 6) nd rfl (.inl rfl) pe_int)
    (pss_cons (ps_for PassesOwn.never rfl (pi_range1 rfl T.n_range (pa_cons (pe_op op_mod (pe_callTy call_int1 (by rfl) T.n_int (by decide +kernel) (pa_cons (pe_op op_add pe_int (pe_call (ok_take T F1) hr (by rfl) T.g_law_take T.k_law_take (b__law_take F1) .nil pass0 (pa_cons (pv 0) (pa_cons pe_int pa_nil)))) pa_nil)) pe_int) pa_nil)) (pg_name (i := 7) nd rfl (.inl rfl))
      (pss_cons (ps_expr (pe_bm PySem.F.plainAttrs_list PySem.F.slot_list_append PySem.F.type_list_append mt_append (pv 5) (pa_cons (pe_call (ok_name T F2) hr (by rfl) T.g_law_name T.k_law_name (b__law_name F2) .nil pass0 (pa_cons (pv 1) (pa_cons (pv 7) (pa_cons (pv 5) pa_nil)))) pa_nil)))
      (pss_cons (ps_set (i := 8) nd rfl (.inl rfl) (pe_call (ok_take T F1) hr (by rfl) T.g_law_take T.k_law_take (b__law_take F1) .nil pass0 (pa_cons (pv 0) (pa_cons (pe_op op_add (pe_callB call_len_seq (by rfl) T.n_len PySem.boot_len (pa_cons (pv 2) pa_nil)) pe_int) pa_nil))))
      (pss_cons (ps_set (i := 9) nd rfl (.inl rfl) (pe_op op_add pe_int (pe_call (ok_take T F1) hr (by rfl) T.g_law_take T.k_law_take (b__law_take F1) .nil pass0 (pa_cons (pv 0) (pa_cons (pe_ix ix_list (pe_lst (pa_cons pe_int (pa_cons pe_int pa_nil)))
          (pe_call (ok_take T F1) hr (by rfl) T.g_law_take T.k_law_take (b__law_take F1) .nil pass0 (pa_cons (pv 0) (pa_cons pe_int pa_nil))) (fun _ _ => rfl)) pa_nil)))))
      (pss_one (ps_if (PW.pt (pw_or (pt_cmpR op_eq (pv 8) (pe_callB call_len_seq (by rfl) T.n_len PySem.boot_len (pa_cons (pv 2) pa_nil)) (nomark _)) (pw_or1 (PW.pt (pw_and (pt_val (pv 3)) (pw_and1 (pt_cmpR op_eq (pv 6) pe_int (nomark _))))))))
        (pss_one (ps_expr (pe_bm PySem.F.plainAttrs_list PySem.F.slot_list_append PySem.F.type_list_append mt_append (pv 4) (pa_cons (pe_tup (pa_cons (pe_ix ix_list (pv 5) (pv 7) (fun _ _ => rfl)) (pa_cons pe_str pa_nil))) pa_nil))))
        (pss_cons (ps_set (i := 6) nd rfl (.inl rfl) (pe_op op_add (pv 6) pe_int))
        (pss_one (ps_expr (pe_bm PySem.F.plainAttrs_list PySem.F.slot_list_append PySem.F.type_list_append mt_append (pv 4) (pa_cons (pe_tup (pa_cons (pe_ix ix_list (pv 5) (pv 7) (fun _ _ => rfl)) (pa_cons (pe_ix ix_list (pv 2) (pv 8) (fun _ _ => rfl)) (pa_cons (pv 9) pa_nil)))) pa_nil)))))))))))
    (pss_one (ps_ret (pe_callTy call_tuple_of (by rfl) T.n_tuple (by decide +kernel) (pa_cons (pv 4) pa_nil)))))))), ?_⟩
  refine ⟨Nat.zero_le _, fun p4 hp4 => ⟨Nat.zero_le _, fun p5 hp5 => ?_⟩⟩
  have s1 := (same_new (o := .lst []) hp4).trans (same_new (o := .lst []) hp5)
  have hp50 : H p5 = none := (same_new hp4).free hp5
  have n45 : p4 ≠ p5 := ne_of_none upd_same hp5
  have na4 : a ≠ p4 := hP.ne_new hp4
  have na5 : a ≠ p5 := hP.ne_new hp50
  have nt4 : tn ≠ p4 := ne_of_none hn hp4
  have nt5 : tn ≠ p5 := ne_of_none hn hp50
  refine ⟨_, rfl, a, 5, rfl, hP.same s1, by decide, fun z H1 z0 z1 b1 hP1 => ⟨_, _, rfl, rfl, .inl ⟨_, rfl, _, _, rfl, rfl, (by show (0 : Int) < 5; decide), ?_⟩⟩⟩
  have y0 : 0 ≤ (2 + z) % 5 := Int.emod_nonneg _ (by decide)
  have y1 : (2 + z) % 5 < 5 := Int.emod_lt_of_pos _ (by decide)
  refine ⟨_, rfl, (by show -(2 ^ 62) ≤ (2 + z) % 5; omega), (by show (2 + z) % 5 < 2 ^ 62; omega), for_it walk_range (fun i σ H2 => (∃ tr v7 v8 v9, σ = [some (.ref a), some (.int sd), some (.ref tn), some (.bl b), some (.ref p4), some (.ref p5), some (.int tr), v7, v8, v9]) ∧ But a H H2 ∧ PoolAt H2 a ∧
    ∃ vs ps, H2 p4 = some (.lst vs) ∧ H2 p5 = some (.lst (ps.map fun p => V.str p.1)) ∧ All2 (PartAt H2) vs ps ∧ ps.length = i ∧ (ps.map (·.1)).Nodup ∧ ∀ p ∈ ps, GN p.1 8 ∧ (p.2 = (("byte" : Str), none) ∨ ∃ k ∈ ks, ∃ c : Int, p.2 = (k, some c) ∧ 1 ≤ c ∧ c ≤ 1000)) ?_ (fun _ _ _ _ _ => trivial) ?_ ?_⟩
  · refine ⟨⟨_, _, _, _, rfl⟩, (but_of s1).trans b1, hP1, [], [], b1 _ _ na4.symm (by rw [upd_ne n45, upd_same]), b1 _ _ na5.symm upd_same, All2.nil, rfl, List.nodup_nil, fun p hp => absurd hp (List.not_mem_nil)⟩
  · rintro i y σ H2 H3 hi ⟨⟨tr, v7, v8, v9, rfl⟩, bu, hP2, vs, ps, h4, h5, al, len, ndp, each⟩ ⟨rfl, rfl⟩
    have i4 : i < 4 := by have w : i < ((2 + z) % 5).toNat := hi; omega
    have vl : vs.length = i := by rw [al.1, len]
    have e5 : (ps.map fun p => V.str p.1) = (ps.map (·.1)).map V.str := by rw [List.map_map]; rfl
    refine ⟨_, rfl, .inl ⟨rfl, _, SqL.of h5⟩, _, rfl, _, rfl, _, rfl, sd, _, p5, ps.map (·.1), rfl, hsd, ⟨by omega, by omega⟩, by rw [← e5]; exact SqL.of h5, by rw [List.length_map]; omega, fun x gx hx => ⟨p5, _, _, rfl, rfl, h5, by rw [List.length_map]; exact small1000 (by omega), ?_⟩⟩
    have gx8 : GN x 8 := gx.mono (by rw [List.length_map]; omega)
    -- the pick
    have hn3 : H3 tn = some (.lst (ks.map V.str)) := bu _ _ nta hn
    have hn4 : (upd H3 p5 (.lst ((ps.map fun p => V.str p.1) ++ [.str x]))) tn = some (.lst (ks.map V.str)) := by rw [upd_ne nt5]; exact hn3
    refine ⟨_, rfl, _, rfl, tn, _, rfl, .inl (SqL.of hn4), _, _, rfl, rfl, a, _, rfl, hP2.upd na5, (by rw [List.length_map]; omega), fun pick H5 k0 k1 b5 hP5 => ?_⟩
    rw [List.length_map] at k1
    -- the price
    refine ⟨_, rfl, (by show 2 ≤ sizeLine; decide), fun l hl => ?_⟩
    have nal : a ≠ l := hP5.ne_new hl
    have s6 := same_new (o := .lst [.int 4, .int 1000]) hl
    refine ⟨_, rfl, a, 2, rfl, hP5.same s6, by decide, fun zz H6 zz0 zz1 b6 hP6 => ?_⟩
    have hl6 : H6 l = some (.lst [.int 4, .int 1000]) := b6 _ _ nal.symm upd_same
    obtain ⟨mx, hmx, mx0, mx1⟩ : ∃ mx : Int, atI [V.int 4, V.int 1000] zz = some (.int mx) ∧ 0 < mx ∧ mx ≤ 1000 := by
      have : zz = 0 ∨ zz = 1 := by omega
      rcases this with e | e
      · rw [e]; exact ⟨4, rfl, by decide, by decide⟩
      · rw [e]; exact ⟨1000, rfl, by decide, by decide⟩
    refine ⟨l, _, _, _, rfl, rfl, SqL.of hl6, hmx, a, mx, rfl, hP6, mx0, fun pr H7 pr0 pr1 b7 hP7 => ⟨_, _, rfl, rfl, ?_⟩⟩
    have b57 : But a (upd H3 p5 (.lst ((ps.map fun p => V.str p.1) ++ [.str x]))) H7 := b5.trans ((but_of s6).trans (b6.trans b7))
    have b37 : ∀ c o, c ≠ a → c ≠ p5 → H3 c = some o → H7 c = some o := fun c o n1 n2 e => b57 _ _ n1 (by rw [upd_ne n2]; exact e)
    have bu7 : But a H H7 := fun c o n e => b37 c o n (ne_of_none e hp50) (bu _ _ n e)
    have h57 : H7 p5 = some (.lst ((ps.map fun p => V.str p.1) ++ [.str x])) := b57 _ _ na5.symm upd_same
    have h47 : H7 p4 = some (.lst vs) := b37 _ _ na4.symm n45 h4
    have hn7 : H7 tn = some (.lst (ks.map V.str)) := b37 _ _ nta nt5 hn3
    have t37 : Tups H3 H7 := fun c u f e => b37 c u (fun w => hP2.not u f (w ▸ e)) (fun w => notFixed_lst h5 u f (w ▸ e)) e
    have al7 : All2 (PartAt H7) vs ps := al.mono fun _ _ w => w.mono t37
    have atx : atI ((ps.map fun p => V.str p.1) ++ [V.str x]) ((0 : Int) + (i : Nat)) = some (V.str x) := by
      refine at_nat (j := i) (by omega) ?_
      rw [List.getElem?_append_right (by rw [List.length_map]; omega), List.length_map, len, Nat.sub_self] <;> rfl
    -- one more part
    have more : ∀ (c : Str × Option Int) (t : Addr), H7 t = none → (c = (("byte" : Str), none) ∨ ∃ k ∈ ks, ∃ e : Int, c = (k, some e) ∧ 1 ≤ e ∧ e ≤ 1000) →
        But a H (upd (upd H7 t (.tup (partVs (x, c)))) p4 (.lst (vs ++ [.ref t]))) ∧ PoolAt (upd (upd H7 t (.tup (partVs (x, c)))) p4 (.lst (vs ++ [.ref t]))) a ∧
        ∃ vs' ps', (upd (upd H7 t (.tup (partVs (x, c)))) p4 (.lst (vs ++ [.ref t]))) p4 = some (.lst vs') ∧ (upd (upd H7 t (.tup (partVs (x, c)))) p4 (.lst (vs ++ [.ref t]))) p5 = some (.lst (ps'.map fun p => V.str p.1)) ∧
        All2 (PartAt (upd (upd H7 t (.tup (partVs (x, c)))) p4 (.lst (vs ++ [.ref t])))) vs' ps' ∧ ps'.length = i + 1 ∧ (ps'.map (·.1)).Nodup ∧ ∀ p ∈ ps', GN p.1 8 ∧ (p.2 = (("byte" : Str), none) ∨ ∃ k ∈ ks, ∃ c : Int, p.2 = (k, some c) ∧ 1 ≤ c ∧ c ≤ 1000) := by
      intro c t ht hc
      have n4t : p4 ≠ t := ne_of_none h47 ht
      have n5t : p5 ≠ t := ne_of_none h57 ht
      have nat : a ≠ t := hP7.ne_new ht
      have s8 := same_new (o := .tup (partVs (x, c))) ht
      have t8 : Tups H7 (upd (upd H7 t (.tup (partVs (x, c)))) p4 (.lst (vs ++ [.ref t]))) := Tups.trans (tups_of s8) (tups_upd fun u f w => by rw [upd_ne n4t, h47] at w; cases w; exact f)
      refine ⟨fun d o n e => ?_, (hP7.upd nat).upd na4, vs ++ [.ref t], ps ++ [(x, c)], upd_same, ?_, ?_, ?_, ?_, ?_⟩
      · rw [upd_ne (ne_of_none e hp4)]; exact s8 _ _ (bu7 _ _ n e)
      · rw [upd_ne n45.symm, upd_ne n5t, h57, List.map_append] <;> rfl
      · exact (al7.mono fun _ _ w => w.mono t8).snoc ⟨t, rfl, by rw [upd_ne n4t.symm, upd_same]⟩
      · rw [List.length_append, List.length_singleton, len]
      · rw [List.map_append]
        exact List.nodup_append.mpr ⟨ndp, by simp, fun u hu w hw e => hx (by simp at hw; rw [← hw, ← e]; exact hu)⟩
      · intro p hp
        rcases List.mem_append.mp hp with w | w
        · exact each p w
        · rw [List.mem_singleton.mp w]; exact ⟨gx8, hc⟩
    refine ⟨_, rfl, _, rfl, tn, _, rfl, .inl (SqL.of hn7), rfl, _, rfl, ?_⟩
    have ep : decide (V.int pick = V.int (((ks.map V.str).length : Nat) : Int)) = decide (pick = (ks.length : Int)) := by rw [List.length_map]; simp
    show (if decide (V.int pick = V.int (((ks.map V.str).length : Nat) : Int)) = true then _ else _)
    rw [ep]
    have vlt : vs.length < sizeLine := small1000 (by omega)
    by_cases hpk : pick = (ks.length : Int)
    · rw [decide_eq_true hpk]
      refine iteT (iteT ⟨_, rfl, .inl ⟨rfl, _, SqL.of h47⟩, _, rfl, _, rfl, p5, _, _, _, rfl, rfl, SqL.of h57, atx, (by show 2 ≤ sizeLine; decide), fun t ht => ⟨p4, _, _, rfl, rfl, (same_new ht) _ _ h47, vlt, ⟨_, _, _, _, rfl⟩, more (_, none) t ht (.inl rfl)⟩⟩)
    · rw [decide_eq_false hpk]
      refine iteF ⟨_, rfl, b, rfl, ?_⟩
      have picked : ∃ k, k ∈ ks ∧ atI (ks.map V.str) pick = some (.str k) := by
        have lt : pick.toNat < ks.length := by omega
        refine ⟨ks[pick.toNat], List.getElem_mem lt, at_nat (Int.toNat_of_nonneg k0).symm ?_⟩
        rw [List.getElem?_map, List.getElem?_eq_getElem lt] <;> rfl
      obtain ⟨k, hkin, hka⟩ := picked
      cases b with
      | false =>
        refine iteF (iteF ⟨_, rfl, _, _, rfl, rfl, _, rfl, .inl ⟨rfl, _, SqL.of h47⟩, _, rfl, _, rfl, p5, _, _, _, rfl, rfl, SqL.of h57, atx, _, rfl, _, rfl, tn, _, _, _, rfl, rfl, SqL.of hn7, hka, _, rfl, (by show 3 ≤ sizeLine; decide), fun t ht => ⟨p4, _, _, rfl, rfl, (same_new ht) _ _ h47, vlt, ⟨_, _, _, _, rfl⟩, more (k, some (1 + pr)) t ht (.inr ⟨k, hkin, _, rfl, by omega, by omega⟩)⟩⟩)
      | true =>
        refine iteT ⟨_, rfl, rfl, _, rfl, ite2 (fun h1 => ?_) (fun h1 => ?_)⟩
        · exact ⟨_, rfl, .inl ⟨rfl, _, SqL.of h47⟩, _, rfl, _, rfl, p5, _, _, _, rfl, rfl, SqL.of h57, atx, (by show 2 ≤ sizeLine; decide), fun t ht => ⟨p4, _, _, rfl, rfl, (same_new ht) _ _ h47, vlt, ⟨_, _, _, _, rfl⟩, more (_, none) t ht (.inl rfl)⟩⟩
        · exact ⟨_, rfl, _, _, rfl, rfl, _, rfl, .inl ⟨rfl, _, SqL.of h47⟩, _, rfl, _, rfl, p5, _, _, _, rfl, rfl, SqL.of h57, atx, _, rfl, _, rfl, tn, _, _, _, rfl, rfl, SqL.of hn7, hka, _, rfl, (by show 3 ≤ sizeLine; decide), fun t ht => ⟨p4, _, _, rfl, rfl, (same_new ht) _ _ h47, vlt, ⟨_, _, _, _, rfl⟩, more (k, some (1 + pr)) t ht (.inr ⟨k, hkin, _, rfl, by omega, by omega⟩)⟩⟩
  · rintro σ H2 ⟨⟨tr, v7, v8, v9, rfl⟩, bu, hP2, vs, ps, h4, h5, al, len, ndp, each⟩
    refine ⟨_, rfl, p4, _, rfl, .inl ⟨SqL.of h4, fun t ht => ?_⟩⟩
    have s8 := same_new (o := .tup vs) ht
    exact q (.ref t) ps _ (bu.trans (but_of s8)) (hP2.same s8) ⟨t, vs, rfl, upd_same, al.mono fun _ _ w => w.mono (tups_of s8)⟩ ⟨by rw [len]; omega, ndp, each⟩
end
end Bg
set_option Elab.async false
set_option linter.all false
set_option maxRecDepth 100000
set_option maxHeartbeats 4000000
namespace Bg
open PySem PySem.Spec PyProof.Rows L2
theorem cutV_drop (xs : List V) (j : Nat) : cutV xs (some (j : Int)) none = xs.drop j := by
  unfold cutV
  rw [HT.sIx_nat, HT.sIx_none]
  by_cases h : j ≤ xs.length
  · rw [Nat.min_eq_left h]
    exact List.take_of_length_le (by rw [List.length_drop]; omega)
  · rw [Nat.min_eq_right (by omega), List.drop_of_length_le (Nat.le_refl _), List.drop_of_length_le (by omega), List.take_nil]
theorem cutV_take (xs : List V) (j : Nat) : cutV xs none (some (j : Int)) = xs.take j := by
  unfold cutV
  rw [HT.sIx_nat, HT.sIx_none, List.drop_zero, Nat.sub_zero]
  by_cases h : j ≤ xs.length
  · rw [Nat.min_eq_left h]
  · rw [Nat.min_eq_right (by omega), List.take_of_length_le (Nat.le_refl _), List.take_of_length_le (by omega)]
end Bg
set_option Elab.async false
set_option linter.all false
set_option maxRecDepth 100000
set_option maxHeartbeats 4000000
namespace Bg
open PySem PySem.Spec PyProof.Rows L2
/-! ### a drawn table is valid -/
structure Draw (ns : List Str) (rs : List Row) : Prop where
  n3 : ns.length ≤ 3
  n1 : ns ≠ []
  nd : ns.Nodup
  names : ∀ k ∈ ns, GN k 8 ∧ k ≠ ("byte" : Str)
  each : ∀ r ∈ rs, r.1 ∈ ns ∧ GN r.2.1 13 ∧ GP ns r.2.2
  makers : (rmakers rs).Nodup
  nine : rs.length ≤ 9
  base : ∀ j k, ns[j]? = some k → ∃ r ∈ rs, r.1 = k ∧ GP (ns.drop (j + 1)) r.2.2
theorem GN.short {x : Str} {n : Nat} (h : GN x n) (l : n ≤ 100000) : x.length ≤ 100000 := by rw [str_len]; have := h.len; omega
theorem byte_len : ("byte" : Str).length ≤ 100000 := by decide +kernel
theorem GP.partsB {ks : List Str} {ps : List Part} (h : GP ks ps) (hk : ∀ k ∈ ks, GN k 8 ∧ k ≠ ("byte" : Str)) : partsB ps = true := by
  unfold Bg.partsB
  have e1 : ps.all partB = true := by
    rw [List.all_eq_true]
    intro p hp
    obtain ⟨g, z⟩ := h.each p hp
    obtain ⟨n, k, c⟩ := p
    rcases z with z | ⟨k', hk', c', z, c0, c1⟩
    · cases z; rw [partB_n, g.nameB (by decide), decide_eq_true rfl]; rfl
    · cases z
      obtain ⟨gk, nk⟩ := hk k hk'
      rw [partB_s, g.nameB (by decide)]
      unfold kindB
      rw [gk.nameB (by decide), decide_eq_false nk, decide_eq_true c0, decide_eq_true c1]; rfl
  have e2 : (distinct (ps.map (·.1))).length = ps.length := by rw [distinct_of_nodup h.nd, List.length_map]
  rw [e1, decide_eq_true h.few, decide_eq_true e2]; rfl
theorem Draw.mem {ns : List Str} {rs : List Row} (d : Draw ns rs) {k : Str} (h : k ∈ ns) : k ∈ rkinds rs := by
  obtain ⟨j, hj⟩ := List.getElem?_of_mem h
  obtain ⟨r, hr, e, _⟩ := d.base j k hj
  exact List.mem_map.mpr ⟨r, hr, e⟩
theorem Draw.valid {ns : List Str} {rs : List Row} (d : Draw ns rs) : ValidT rs where
  short := by
    refine ⟨by have := d.nine; omega, fun r hr => ?_⟩
    obtain ⟨h1, h2, h3⟩ := d.each r hr
    refine ⟨(d.names _ h1).1.short (by decide), h2.short (by decide), by have := h3.few; omega, fun p hp => ?_⟩
    obtain ⟨g, z⟩ := h3.each p hp
    refine ⟨g.short (by decide), ?_⟩
    rcases z with z | ⟨k', hk', c', z, _⟩
    · rw [z]; exact byte_len
    · rw [z]; exact (d.names _ hk').1.short (by decide)
  ne := by
    intro z
    obtain ⟨k, r, e⟩ := List.exists_cons_of_ne_nil d.n1
    obtain ⟨r, hr, _⟩ := d.base 0 k (by rw [e]; rfl)
    rw [z] at hr; cases hr
  each := by
    refine ⟨fun r hr => ?_, d.makers, by have := d.nine; omega, ?_⟩
    · obtain ⟨h1, h2, h3⟩ := d.each r hr
      obtain ⟨gk, nk⟩ := d.names _ h1
      refine ⟨?_, h2.nameB (by decide), h3.partsB d.names⟩
      unfold kindB
      rw [gk.nameB (by decide), decide_eq_false nk]; rfl
    · refine Nat.le_trans (nodup_sub_len _ ns (nodup_distinct _) fun k hk => ?_) (by have := d.n3; omega)
      obtain ⟨r, hr, e⟩ := List.mem_map.mp (mem_distinct.mp hk)
      rw [← e]; exact (d.each r hr).1
  inner := fun r hr p hp => by
    rcases ((d.each r hr).2.2.each p hp).2 with z | ⟨k, hk, c, z, _⟩
    · rw [z]; exact .inl rfl
    · rw [z]; exact .inr (d.mem hk)
  fin := by
    refine ⟨fun k => ns.length - 1 - ns.idxOf k, fun k hk => ?_, fun k hk => ?_⟩
    · have h1 : ns.length ≤ (distinct (rkinds rs)).length := nodup_sub_len _ _ d.nd fun x hx => mem_distinct.mpr (d.mem hx)
      have : 0 < ns.length := List.length_pos_iff.mpr d.n1
      show ns.length - 1 - ns.idxOf k < _
      omega
    · obtain ⟨r0, hr0, e0⟩ := List.mem_map.mp hk
      have hkn : k ∈ ns := by rw [← e0]; exact (d.each r0 hr0).1
      obtain ⟨j, hj⟩ := List.getElem?_of_mem hkn
      obtain ⟨r, hr, e, gp⟩ := d.base j k hj
      have ej : ns.idxOf k = j := nd_ix d.nd (mem_idxOf hkn).1 hj
      refine ⟨r, hr, e, fun p hp => ?_⟩
      rcases (gp.each p hp).2 with z | ⟨k', hk', c, z, _⟩
      · rw [z]; exact .inl rfl
      · rw [z]
        have hk2 : k' ∈ ns := List.mem_of_mem_drop hk'
        refine .inr ⟨d.mem hk2, ?_⟩
        obtain ⟨i, hi⟩ := List.getElem?_of_mem hk'
        rw [List.getElem?_drop] at hi
        have ei : ns.idxOf k' = j + 1 + i := nd_ix d.nd (mem_idxOf hk2).1 hi
        have lt := (List.getElem?_eq_some_iff.mp hi).1
        show ns.length - 1 - ns.idxOf k' < ns.length - 1 - ns.idxOf k
        rw [ei, ej]; omega
theorem mem_rot {α : Type} {l : List α} {t : Nat} {x : α} : x ∈ l.drop t ++ l.take t ↔ x ∈ l := by
  rw [List.mem_append]
  constructor
  · intro h
    rcases h with h | h
    · exact List.mem_of_mem_drop h
    · exact List.mem_of_mem_take h
  · intro h
    rw [← List.take_append_drop t l, List.mem_append] at h
    exact h.symm
theorem nodup_rot {α : Type} {l : List α} (h : l.Nodup) (t : Nat) : (l.drop t ++ l.take t).Nodup := by
  rw [← List.take_append_drop t l] at h
  rw [List.nodup_append] at h ⊢
  exact ⟨h.2.1, h.1, fun a ha b hb e => h.2.2 b hb a ha e.symm⟩
theorem Draw.rot {ns : List Str} {rs : List Row} (d : Draw ns rs) (t : Nat) : Draw ns (rs.drop t ++ rs.take t) where
  n3 := d.n3
  n1 := d.n1
  nd := d.nd
  names := d.names
  each := fun r hr => d.each r (mem_rot.mp hr)
  makers := by
    have := nodup_rot d.makers t
    unfold rmakers at *
    rw [List.map_append, List.map_drop, List.map_take]; exact this
  nine := by
    have := d.nine
    rw [List.length_append, List.length_drop, List.length_take]; omega
  base := fun j k h => by
    obtain ⟨r, hr, z⟩ := d.base j k h
    exact ⟨r, mem_rot.mpr hr, z⟩
theorem GP.mono {ks ks' : List Str} (h : ∀ k ∈ ks, k ∈ ks') {ps : List Part} (g : GP ks ps) : GP ks' ps := ⟨g.few, g.nd, fun p hp => ⟨(g.each p hp).1, (g.each p hp).2.imp id fun ⟨k, hk, z⟩ => ⟨k, h k hk, z⟩⟩⟩
theorem All2.drop {α β : Type} {R : α → β → Prop} {vs : List α} {xs : List β} (h : All2 R vs xs) (t : Nat) : All2 R (vs.drop t) (xs.drop t) := ⟨by rw [List.length_drop, List.length_drop, h.1], fun i v x a b => by
  rw [List.getElem?_drop] at a b
  exact h.2 _ v x a b⟩
theorem All2.take {α β : Type} {R : α → β → Prop} {vs : List α} {xs : List β} (h : All2 R vs xs) (t : Nat) : All2 R (vs.take t) (xs.take t) := by
  refine ⟨by rw [List.length_take, List.length_take, h.1], fun i v x a b => ?_⟩
  have lt : i < t := by
    have := (List.getElem?_eq_some_iff.mp a).1
    rw [List.length_take] at this; omega
  rw [List.getElem?_take_of_lt lt] at a b
  exact h.2 _ v x a b
theorem All2.app {α β : Type} {R : α → β → Prop} {vs ws : List α} {xs ys : List β} (h : All2 R vs xs) (h' : All2 R ws ys) : All2 R (vs ++ ws) (xs ++ ys) := by
  refine ⟨by rw [List.length_append, List.length_append, h.1, h'.1], fun i v x a b => ?_⟩
  by_cases hi : i < vs.length
  · rw [List.getElem?_append_left hi] at a
    rw [List.getElem?_append_left (h.1 ▸ hi)] at b
    exact h.2 i v x a b
  · rw [List.getElem?_append_right (by omega)] at a
    rw [List.getElem?_append_right (by rw [← h.1]; omega), ← h.1] at b
    exact h'.2 _ v x a b
end Bg
set_option Elab.async false
set_option linter.all false
set_option maxRecDepth 100000
set_option maxHeartbeats 1000000
/-! tuple(list) made plain and held for good; dict(tuple of pairs) -/
namespace Bg
open PySem PySem.Spec PyProof.Rows L2
/-- a tuple whose object is told: a plain one -/
def PlT (H : Hp) (a : Addr) (xs : List V) : Prop := ∃ (its : Array Value) (n : Nat), H a = some (.frz { cls := .type "tuple", dict := none, data := .seq its n } (.tup xs))
theorem PlT.sq {K : PySem.W.Frag} {H : Hp} {a : Addr} {xs : List V} (h : PlT H a xs) : SqT K H a xs := by
  obtain ⟨its, n, e⟩ := h
  exact .inl (.inr ⟨_, e⟩)
theorem PlT.same {H H' : Hp} (s : Same H H') {a : Addr} {xs : List V} (h : PlT H a xs) : PlT H' a xs := by
  obtain ⟨its, n, e⟩ := h
  exact ⟨its, n, s _ _ e⟩
section
variable {X : Cx}
theorem call_tupleP : CallR X (.type "tuple") (fun xs H Q => ∃ p ys, xs = [.ref p] ∧ SqL X.K H p ys ∧ ∀ l H', H l = none → Same H H' → PlT H' l ys → (∀ b, b ≠ l → H' b = H b) → Q (.ref l) H') := by
  intro pins s σ H xs us Q I r h
  obtain ⟨p, ys, rfl, hq, q⟩ := h
  obtain ⟨u, rfl, rx⟩ := vals1 r
  cases rx
  obtain ⟨its, r', pl, hz⟩ := I.list hq
  have hlen := r'.length
  refine call_tuple_list pl.isList (fun h' kp => ?_) (by simp only [List.size_toArray] <;> omega)
  have I1 : Inv X pins σ H { s with heap := h' } := I.kept (t' := s.toks) kp
  have hf := I1.hok.fresh (a := h'.objs.size) (Nat.le_refl _)
  have I2 : Inv X pins σ (upd H h'.objs.size (.frz { cls := .type "tuple", dict := none, data := .seq its.toArray 0 } (.tup ys))) { s with heap := h'.push { cls := .type "tuple", data := .seq its.toArray 0 } } :=
    I1.laid (t' := s.toks) (fun b o e => Heap.get?_push_of_some _ e) (Nat.le_refl _) (show ObjOk X.prog X.w _ _ _ (.frz _ (.tup ys)) from ⟨Heap.get?_push_size _ rfl, hz, its, r', IsTup.new _ _⟩)
  exact ⟨.ref h'.objs.size, _, I2, rfl, q _ _ hf (same_new hf) ⟨_, _, upd_same⟩ fun b n => upd_ne n⟩
theorem pairs_list {h : Heap} : ∀ {ps : List Addr} {prs : List (Key × Value)}, prs.length = ps.length → (∀ (j : Nat) (q : Key × Value), prs[j]? = some q → ∃ (b : Addr) (u : Value), ps[j]? = some b ∧ IsTup h b #[u, q.2] ∧ keyIs q.1 u = true) →
    ∃ qs : List (Value × Value), qs.length = ps.length ∧ ∀ (j : Nat) (k v : Value), qs[j]? = some (k, v) → ∃ (b : Addr) (q : Key × Value), ps[j]? = some b ∧ prs[j]? = some q ∧ v = q.2 ∧ IsTup h b #[k, v] ∧ keyIs q.1 k = true
  | [], [], _, _ => ⟨[], rfl, fun j k v e => by simp at e⟩
  | [], _ :: _, l, _ => by simp at l
  | _ :: _, [], l, _ => by simp at l
  | p :: ps, q :: prs, l, hq => by
    obtain ⟨qs, hl, h2⟩ := pairs_list (ps := ps) (prs := prs) (by simpa using l) fun j q' e => by
      obtain ⟨b, u, e1, e2, e3⟩ := hq (j + 1) q' (by simpa using e)
      exact ⟨b, u, by simpa using e1, e2, e3⟩
    obtain ⟨b, u, e1, e2, e3⟩ := hq 0 q rfl
    refine ⟨(u, q.2) :: qs, by simp [hl], fun j k v e => ?_⟩
    cases j with
    | zero => cases (Option.some.inj e : (u, q.2) = (k, v)); exact ⟨b, q, e1, rfl, rfl, e2, e3⟩
    | succ j =>
      obtain ⟨b', q', f1, f2, f3⟩ := h2 j k v (by simpa using e)
      exact ⟨b', q', by simpa using f1, by simpa using f2, f3⟩
theorem call_dictT (hcalm : X.calm = true) : CallR X (.type "dict") (fun xs H Q => ∃ (a : Addr) (ps : List Addr) (kvs : List (Key × V)), xs = [.ref a] ∧ PlT H a (ps.map V.ref) ∧ Paired (fun p kv => SqT X.K H p [kV kv.1, kv.2]) ps kvs ∧
    ∀ p, H p = none → Q (.ref p) (upd H p (.dK (mergeK [] kvs)))) := by
  intro pins s σ H xs us Q I r q
  obtain ⟨a, ps, kvs, ex, ⟨its, n, ht⟩, hp, q⟩ := q
  subst ex
  obtain ⟨u, eu, rx⟩ := vals1 r
  subst eu
  cases rx
  obtain ⟨ho, hz, its', rv, ⟨o2, ho2, hc2, n2, hd2⟩⟩ := I.hok a _ ht
  rw [ho] at ho2
  cases ho2
  injection hd2 with e1 e2
  subst e1
  have ei := refs_at rv
  subst ei
  rw [List.length_map] at hz
  obtain ⟨prs, rel, hl, hpr⟩ := pairs_of I hp
  obtain ⟨qs, lq, hqs⟩ := pairs_list hl hpr
  have P := PySem.PairArg.tuple (prog := X.prog) (w := X.w) a (ps.map Value.ref).toArray (fun j => ps.getD j 0) qs
  have ok : PySem.PlainSeq "tuple" s.heap a (ps.map Value.ref).toArray ∧ PySem.PairItems s.heap (ps.map Value.ref).toArray (fun j => ps.getD j 0) qs := by
    refine ⟨⟨_, n, ho, rfl, rfl, rfl⟩, by simp [lq], fun j k v e => ?_⟩
    obtain ⟨b, q', e1, e2, e3, e4, e5⟩ := hqs j k v e
    have eb : ps.getD j 0 = b := by rw [List.getD_eq_getElem?_getD, e1]; rfl
    show (ps.map Value.ref).toArray[j]? = some (.ref (ps.getD j 0)) ∧ PySem.PairAt s.heap (ps.getD j 0) k v
    rw [eb]
    exact ⟨by simp [e1], .inl e4⟩
  have hc : PySem.PairsHave (mixKind X.prog X.w) qs.length (PySem.PairRel qs) prs := ⟨by rw [hl, lq], fun i key v e => by
    obtain ⟨b, q', e1, e2, e3, e4, e5⟩ := hqs i key v e
    exact ⟨q'.1, by rw [e2, e3], e5⟩⟩
  refine PySem.call_dict_pairs (knd := mixKind X.prog X.w) (kvs := prs) P (I.ok.hd hcalm) ok hc (by rw [lq]; exact hz) fun h' tk hd' k => ?_
  have hm : (s.heap.objs.size == sysModules) = false := beq_eq_false_iff_ne.mpr (Nat.ne_of_gt I.big)
  have hlen : (mergeK [] kvs).length ≤ sizeLine := by
    refine Nat.le_trans (length_mergeK kvs []) ?_
    rw [List.length_nil, Nat.zero_add, rel.length, hl]
    exact hz
  exact ⟨.ref s.heap.objs.size, upd H s.heap.objs.size (.dK (mergeK [] kvs)), I.laid (t' := tk) (fun b o e => k b o (by simp) e) (Nat.le_refl _) (show ObjOk X.prog X.w _ _ _ (.dK (mergeK [] kvs)) from ⟨hlen, hm, merged [] prs, KV.merge rel .nil, hd'⟩), rfl, q _ (I.hok.fresh (Nat.le_refl _))⟩
end
end Bg
set_option Elab.async false
set_option linter.all false
set_option maxRecDepth 100000
set_option maxHeartbeats 4000000
namespace Bg
open PySem PySem.Spec PyProof.Rows L2
/-! ### a def that raises nothing, called while an error is handled -/
structure FnC (P : Program) (w : World) (K : PySem.W.Frag) (mg : Str → Option Value) (base : Heap) (k : Nat) (f : Addr) (fd : FuncData) (ps : List Str) (sp : Sp) : Prop where
  len : ∀ vs H Q E, sp vs H Q E → vs.length = ps.length
  go : ∀ (A : Around) (outer : List Env) (s : Shared) (H : Hp) (us : List Value) (vs : List V) (Q : VK) (E : XK) (p : Addr × Obj), L2H.RoomH k A → L2H.PinOk outer H s p → Env0 P w K mg base A outer s H → BindsTo s fd ⟨us, []⟩ (ps.zip us) → Vals vs us → sp vs H Q E →
    codeAny (model P w) A (.call (.ref f) ⟨us, []⟩) (CR CX0 outer P w H s Q E) s
section
variable {P : Program} {w : World} {K : PySem.W.Frag} {mg : Str → Option Value} {base : Heap} {x qual : Str} {params : Arguments} {body : List Stmt} {scope : Scope} {dvs : List V} {kws : List (Str × V)} {f : Addr} {fd : FuncData} {k : Nat} {N ps : List Str} {sp : Sp}
theorem FunD.okC (F : FunD K x qual params body scope dvs kws f fd) (S : FnScope N ps scope) (len : ∀ vs H Q E, sp vs H Q E → vs.length = ps.length)
    (hbody : ∀ (cdv : Value) (A : Around) (outer : List Env) (s : Shared) (H : Hp) (vs : List V) (Q : VK) (E : XK) (p : Addr × Obj), L2H.RoomH k (A.deeper (envOfC qual scope s.heap.objs.size f cdv)) → sp vs H Q E →
      ∃ t, PSs (L2H.cxH CX0 P w K mg base N qual scope f cdv A outer s H E p) body t ∧ t { nx := fun _ H' => Q .non H', rt := Q } (L2.start N vs) H) : FnC P w K mg base (k + 1) f fd ps sp := by
  obtain ⟨oc, od, dV, kV, doc, pm, an, cdv, ct, osl, rfl, lk, hcd, _, _⟩ := F.ex
  refine ⟨len, fun A outer s H us vs Q E p room pin e0 hb r h => ?_⟩
  have inB : ∀ b o, base.get? b = some o → s.heap.get? b = some o := fun b o e => (e0.bs b o e).1
  have KX : K.In s.heap := e0.mod.kin.keeps inB
  refine codeAny_call_function room.depth (KX _ _ lk) rfl S.co S.gen rfl (PySem.W.codeRec_of KX hcd) (hb _ _ _ _ ?_)
  refine wpAny_newFunctionEnv_cells S.kind (fun ⟨n, v⟩ hy => ?_) fun env he s1 call => ?_
  · rcases S.par n (List.of_mem_zip hy).1 with q | q
    · exact Or.inl q
    · exact Or.inr ⟨q, PySem.W.cellsFrom_some _ _ _ (Or.inl q)⟩
  cases he
  refine ⟨(e0.mod.nolimit.keeps inB).keeps call.toInCall.keep, codeAny_func ?_⟩
  obtain ⟨t, ht, hq⟩ := hbody cdv A outer s H vs Q E p (room.deeper _) h
  have I : Inv (L2H.cxH CX0 P w K mg base N qual scope f cdv A outer s H E p) [] (L2.start N vs) H s1 := L2H.inv_startH S pin e0 (len _ _ _ _ h) r call
  refine wpAny_mono (ht.run [] s1 (L2.start N vs) H _ I hq) (fun fl s' hs => ?_) fun e s' hs => hs
  cases fl with
  | ret u =>
    obtain ⟨v, σ', H', J, rv, q⟩ := hs
    exact ⟨v, H', J.os, J.bare, J.base, J.hok, rv, q⟩
  | next =>
    obtain ⟨σ', H', J, q⟩ := hs
    exact ⟨V.non, H', J.os, J.bare, J.base, J.hok, rfl, q⟩
  | brk => exact hs.elim fun _ z => z.elim fun _ z => z.2.elim
  | cont => exact hs.elim fun _ z => z.elim fun _ z => z.2.elim
end
section
variable {X : Cx} {k : Nat} {f : Addr} {fd : FuncData} {ps : List Str} {sp : Sp} {x : Str} {q pos : Pos} {e : Expr} {es : List Expr} {t : TA} {p : Addr × Obj}
/-- the call, in a context that pins p (the error in hand) -/
theorem pe_callC (F : FnC X.prog X.w X.K X.mg X.base k f fd ps sp) (hr : L2H.RoomH k X.A) (hp : p ∈ X.pn) (hg : Gl X x) (hm : X.mg x = some (.ref f)) (hk : PySem.W.keepIn X.K (.ref f) = true) (hb : Binds X.K fd ps []) (ha : PA X (e :: es) t)
    (hdb : (x == ("__debug__" : Str)) = false := by decide) (he : starEach (e :: es) X.env = (false, eval e X.env) :: starEach es X.env := by rfl) (hpl : (backTo pos (starEach es X.env)).any (·.1) = false := by rfl) :
    PE X (.Call (.Name x q) (e :: es) [] pos) (tCall sp [] E0 t) := by
  refine ⟨fun pins s σ H Q I h => ?_⟩
  refine wpAny_Call_Name_kw (ld_glob I hg hm ?_ hdb)
  refine PySem.W.callWith_K (h₀ := X.base) I.ok.mod.kin hk (thn (ha.run pos pins s σ H _ I h) fun us s1 ⟨vs, H1, J, r, z⟩ => ⟨J.kIn, ?_⟩) he hpl
  show wpAny _ _ (call (.ref f) us) _ _ _
  have z : sp vs H1 Q E0 := by
    have z' : sp (vs ++ []) H1 Q E0 := z
    rwa [List.append_nil] at z'
  have hl : us.length = ps.length := by rw [← r.length]; exact F.len _ _ _ _ z
  have b := hb s1 us J.kIn (by rw [List.append_nil]; exact hl)
  rw [List.append_nil] at b
  obtain ⟨g1, g2, g3, g4, g5⟩ := J.pin p (List.mem_append_left _ hp)
  refine wpAny_call (codeAny_mono (F.go X.A X.stack s1 H1 us vs Q E0 p hr ⟨g1, g2, fun m => (List.mem_cons.mp (J.stkSub p.1 m)).elim g3 g4, g5⟩ J.env0 b r z) fun res s' hq => ?_)
  · cases res with
    | error er => exact hq.elim
    | ok fl =>
      cases fl with
      | ret u => exact J.after hq
      | next => exact hq.elim
      | brk => exact hq.elim
      | cont => exact hq.elim
end
end Bg
set_option Elab.async false
set_option linter.all false
set_option maxRecDepth 100000
set_option maxHeartbeats 4000000
/-! errors without a dict of their own; defs with *args -/
namespace Bg
open PySem PySem.Spec PyProof.Rows L2
section
variable {X : Cx} {a D : Addr} {oe : Obj} {pn : List (Addr × Obj)} {cls : Value}
theorem exc_inst0 {pins : List (Addr × Obj)} {σ : L2.St} {H : Hp} {s : Shared} (I : Inv (X.suite a ((a, oe) :: pn)) pins σ H s) (hz : Zc (.ref D) none oe) (hf : ∃ vs, oe.data = .fields vs) : PySem.W.InstAt s.heap a oe D none := by
  obtain ⟨ha, _⟩ := I.pin (a, oe) (List.mem_append_left _ List.mem_cons_self)
  obtain ⟨vs, hd⟩ := hf
  exact ⟨ha, hz.1, by unfold PySem.W.notCls; rw [hd] <;> rfl, by rw [hz.2]; trivial⟩
/-- isinstance(e, c), e the error that the suite holds, its class D, without a dict -/
def rIsN (K : PySem.W.Frag) (a : Addr) (cls : Value) (d : Option Addr) : List V → Hp → VK → Prop := fun xs H Q => ∃ (c : V) (cv : Value) (b : Bool) (D : Addr), xs = [.ref a, c] ∧ cls = .ref D ∧ d = none ∧ ExT K D ∧ ClsV c cv ∧ PySem.W.kitOne K (.ref D) cv = some b ∧ Q (.bl b) H
theorem call_isN {d : Option Addr} (hz : Zc cls d oe) (hf : ∃ vs, oe.data = .fields vs) : CallR (X.suite a ((a, oe) :: pn)) (.builtin "isinstance") (rIsN X.K a cls d) := by
  intro pins s σ H xs us Q I r h
  obtain ⟨c, cv, b, D, rfl, rfl, rfl, T, hcv, e, q⟩ := h
  cases r with
  | cons rx rr =>
    cases rr with
    | cons rt rr =>
      cases rr
      cases rx
      have ec := ClsV.eq hcv rt
      subst ec
      exact PySem.W.kia_one (PySem.W.kitx_exc T.cl T.xf.ga T.xf.gg T.xf.exC T.ha T.hn T.tk T.hm) I.kIn (exc_inst0 I hz hf) e (fun z => nomatch z) fun tk => ⟨.bl b, H, I.kept (t' := tk) fun _ _ z => z, rfl, q⟩
/-- isinstance(e, (c, ..)) -/
def rIsNT (K : PySem.W.Frag) (a : Addr) (cls : Value) (d : Option Addr) : List V → Hp → VK → Prop := fun xs H Q => ∃ (tp : Addr) (cs : List V) (us : List Value) (b : Bool) (D : Addr), xs = [.ref a, .ref tp] ∧ cls = .ref D ∧ d = none ∧ ExT K D ∧ H tp = some (.tup cs) ∧ Paired ClsV cs us ∧ PySem.W.kitAny K (.ref D) us = some b ∧ Q (.bl b) H
theorem call_isNT {d : Option Addr} (hz : Zc cls d oe) (hf : ∃ vs, oe.data = .fields vs) : CallR (X.suite a ((a, oe) :: pn)) (.builtin "isinstance") (rIsNT X.K a cls d) := by
  intro pins s σ H xs us Q I r h
  obtain ⟨tp, cs, ws, b, D, rfl, rfl, rfl, T, hT, k, e, q⟩ := h
  cases r with
  | cons rx rr =>
    cases rr with
    | cons rt rr =>
      cases rr
      cases rx
      cases rt
      obtain ⟨_, its, rv, o, h1, h2, n, h3⟩ := (show ObjOk (X.suite a ((a, oe) :: pn)).prog (X.suite a ((a, oe) :: pn)).w H s.heap tp (.tup cs) from I.hok tp _ hT)
      have e3 := ClsV.all k rv
      subst e3
      obtain ⟨oc, od', dt, sl⟩ := o
      simp only at h2 h3
      subst h2 h3
      exact PySem.W.kia_tup (PySem.W.kitx_exc T.cl T.xf.ga T.xf.gg T.xf.exC T.ha T.hn T.tk T.hm) I.kIn (exc_inst0 I hz hf) h1 e (fun z => nomatch z) fun tk => ⟨.bl b, H, I.kept (t' := tk) fun _ _ z => z, rfl, q⟩
end
section
variable {X : Cx} {a D : Addr} {oe : Obj} {pn : List (Addr × Obj)} {cls : Value}
/-- with a dict or without -/
def DictOf (H : Hp) (d : Option Addr) : Prop := d = none ∨ ∃ dd fs, d = some dd ∧ H dd = some (.xd fs)
def rIsG (K : PySem.W.Frag) (a : Addr) (cls : Value) (d : Option Addr) : List V → Hp → VK → Prop := fun xs H Q => ∃ (c : V) (cv : Value) (b : Bool) (D : Addr), xs = [.ref a, c] ∧ cls = .ref D ∧ DictOf H d ∧ ExT K D ∧ ClsV c cv ∧ PySem.W.kitOne K (.ref D) cv = some b ∧ Q (.bl b) H
theorem call_isG {d : Option Addr} (hz : Zc cls d oe) (hf : ∃ vs, oe.data = .fields vs) : CallR (X.suite a ((a, oe) :: pn)) (.builtin "isinstance") (rIsG X.K a cls d) := by
  intro pins s σ H xs us Q I r h
  obtain ⟨c, cv, b, D, e1, e2, dd | ⟨dd, fs, ed, eh⟩, T, hcv, e, q⟩ := h
  · exact call_isN hz hf pins s σ H xs us Q I r ⟨c, cv, b, D, e1, e2, dd, T, hcv, e, q⟩
  · exact call_isD hz hf pins s σ H xs us Q I r ⟨c, cv, b, D, dd, fs, e1, e2, ed, eh, T, hcv, e, q⟩
def rIsGT (K : PySem.W.Frag) (a : Addr) (cls : Value) (d : Option Addr) : List V → Hp → VK → Prop := fun xs H Q => ∃ (tp : Addr) (cs : List V) (us : List Value) (b : Bool) (D : Addr), xs = [.ref a, .ref tp] ∧ cls = .ref D ∧ DictOf H d ∧ ExT K D ∧ H tp = some (.tup cs) ∧ Paired ClsV cs us ∧ PySem.W.kitAny K (.ref D) us = some b ∧ Q (.bl b) H
theorem call_isGT {d : Option Addr} (hz : Zc cls d oe) (hf : ∃ vs, oe.data = .fields vs) : CallR (X.suite a ((a, oe) :: pn)) (.builtin "isinstance") (rIsGT X.K a cls d) := by
  intro pins s σ H xs us Q I r h
  obtain ⟨tp, cs, ws, b, D, e1, e2, dd | ⟨dd, fs, ed, eh⟩, T, hT, k, e, q⟩ := h
  · exact call_isNT hz hf pins s σ H xs us Q I r ⟨tp, cs, ws, b, D, e1, e2, dd, T, hT, k, e, q⟩
  · exact call_isDT hz hf pins s σ H xs us Q I r ⟨tp, cs, ws, b, D, dd, fs, e1, e2, ed, eh, T, hT, k, e, q⟩
end
theorem takesN {X : Cx} : Takes X (fun _ _ _ _ => False) := fun _ _ ⟨_, _, _, _, _, _, _, _, _, _, _, _, _, _, _, _, h⟩ => h.elim
/-- a callee's errors are the def's -/
theorem passX {X : Cx} {E : XK} (tk : Takes X (fun cls d _ H => E cls d H)) : Passes (L2.CX X.prog X.w) X E := passes_call tk fun _ _ _ _ h => h
/-! ### o.m(..) whose errors are taken at the slots of the call -/
def tMethRAt (C : Addr) (m : Str) (sp : Sp) (E : L2.St → XK) (ta : TE) (t : TA) : TE := fun σ H Q => ta σ H fun x H1 => ∃ a dx fs, x = .ref a ∧ H1 a = some (.ins C dx fs) ∧ fs.lookup m = none ∧ t σ H1 fun vs H2 => sp (x :: vs) H2 Q (E σ)
section
variable {X : Cx} {CX : CXT} {k : Nat} {C f : Addr} {m : Str} {sp : Sp} {E : L2.St → XK} {o e : Expr} {es : List Expr} {ta : TE} {t : TA} {apos pos : Pos} {pl : Sem Bool}
theorem pe_methRAt (ho : PE X o ta) (cl : Cls X.K C) (hm : Meth X.K C m f) (F : FnR X.prog X.w X.K X.mg X.base CX k f sp) (room : Room k X.A) (px : ∀ σ, PassesAt CX X σ (E σ)) (ha : PA X (e :: es) t)
    (hst : starEach (e :: es) X.env = (false, eval e X.env) :: starEach es X.env := by rfl) (hpl : (backTo pos (starEach es X.env)).any (·.1) = false := by rfl)
    (ht : eval (.Call (.Attribute o m apos) (e :: es) [] pos) X.env = (do
      let ov ← eval o X.env
      standAt apos.atName
      let (g, fst) ← holding [ov] (getMethod ov m pl)
      callWith pos g fst (backTo pos (starEach (e :: es) X.env)) (backToKw pos (keywordEach [] X.env))) := by rfl) :
    PE X (.Call (.Attribute o m apos) (e :: es) [] pos) (tMethRAt C m sp E ta t) := by
  refine ⟨fun pins s σ H Q I h => ?_⟩
  refine PySem.W.methodCall_KW (pl := pl) (thn (ho.run pins s σ H _ I h) fun u t1 ⟨x, G1, J1, rx, a, dx, fs, ex, ea, l, q⟩ => ?_) ht
  subst ex
  cases (show u = Value.ref a from rx)
  refine getmeth_ok J1 ea cl hm l ?_
  refine PySem.W.callWith_K (first := [.ref a]) (h₀ := X.base) I.ok.mod.kin hm.kp (thn (ha.run pos pins t1 σ G1 _ J1 q) fun us t2 ⟨vs, G2, J2, r, q2⟩ => ⟨J2.kIn, ?_⟩) hst hpl
  refine wpAny_call (codeAny_mono (F X.A X.stack t2 G2 (.ref a :: us) (.ref a :: vs) Q (E σ) room J2.env0 (.cons rfl r) q2) fun res t3 got => ?_)
  cases res with
  | error er => exact px σ pins G2 t2 er t3 J2 got
  | ok fl =>
    cases fl with
    | ret v => exact J2.after got
    | next => exact got.elim
    | brk => exact got.elim
    | cont => exact got.elim
end
/-! ### def f(a, .., *v) -/
section
variable {P : Program} {w : World} {K : PySem.W.Frag} {mg : Str → Option Value} {base : Heap} {x qual pv : Str} {params : Arguments} {body : List Stmt} {scope : Scope} {kws : List (Str × V)} {f : Addr} {fd : FuncData} {CX : CXT} {N ps : List Str} {k : Nat} {sp : Sp}
def spStar (n : Nat) (sp : Sp) : Sp := fun vs H Q E => ∃ ws rest, vs = ws ++ rest ∧ ws.length = n ∧ rest.length ≤ sizeLine ∧ ∀ p, H p = none → sp (ws ++ [V.ref p]) (upd H p (.tup rest)) Q E
theorem FunD.okS (F : FunD K x qual params body scope [] kws f fd) (S : FnScope N (ps ++ [pv]) scope) (hCX : StX.CXUp CX)
    (hb : ∀ (kV doc pm : Value) (an : Option Addr) (cdv ct : Value) (us rest : List Value), us.length = ps.length → bindArgs (PySem.W.fnOf x qual params body scope .none kV doc pm an cdv ct) ⟨us ++ rest, []⟩ = (newTuple rest >>= fun t => pure (ps.zip us ++ [(pv, t)])))
    (hbody : ∀ (cdv : Value) (A : Around) (outer : List Env) (s : Shared) (H : Hp) (vs : List V) (Q : VK) (E : XK), Room k (A.deeper (envOfC qual scope s.heap.objs.size f cdv)) → sp vs H Q E →
      ∃ t, PSs (cxOf CX P w K mg base N qual scope f cdv A outer s H E) body t ∧ t { nx := fun _ H' => Q .non H', rt := Q } (start N vs) H) : FnR P w K mg base CX (k + 1) f (spStar ps.length sp) := by
  obtain ⟨oc, od, dV, kV, doc, pm, an, cdv, ct, osl, rfl, lk, hcd, hD, hK⟩ := F.ex
  rcases hD with ⟨_, rfl⟩ | ⟨e, _⟩
  · exact StX.fn_star lk hcd S hCX (fun us rest hl => hb kV doc pm an cdv ct us rest hl) fun A outer s H vs Q E hr hs => hbody cdv A outer s H vs Q E hr hs
  · exact absurd rfl e
end
end Bg
set_option Elab.async false
set_option linter.all false
set_option maxRecDepth 100000
set_option maxHeartbeats 1000000
/-! a tuple, told or not -/
namespace Bg
open PySem PySem.Spec PyProof.Rows L2
theorem rd_same {H H' : Hp} (s : Same H H') {c : Addr} {u : HO} (h : Rd H c u) : Rd H' c u := by
  rcases h with h | ⟨o, h⟩
  · exact .inl (s _ _ h)
  · exact .inr ⟨o, s _ _ h⟩
theorem rd_tups {H H' : Hp} (t : Tups H H') {c : Addr} {xs : List V} (h : Rd H c (.tup xs)) : Rd H' c (.tup xs) := by
  rcases h with h | ⟨o, h⟩
  · exact .inl (t _ (.tup _) trivial h)
  · exact .inr ⟨o, t _ (.frz o (.tup _)) trivial h⟩
theorem PlT.rd {H : Hp} {a : Addr} {xs : List V} (h : PlT H a xs) : Rd H a (.tup xs) := by
  obtain ⟨its, n, e⟩ := h; exact .inr ⟨_, e⟩
theorem PlT.tups {H H' : Hp} (t : Tups H H') {a : Addr} {xs : List V} (h : PlT H a xs) : PlT H' a xs := by
  obtain ⟨its, n, e⟩ := h; exact ⟨its, n, t _ (.frz _ (.tup _)) trivial e⟩
theorem tyx_rd {K : PySem.W.Frag} {H : Hp} {a : Addr} {xs : List V} (h : Rd H a (.tup xs)) : TyX K H (.ref a) (.type "tuple") := by
  rcases h with h | ⟨o, h⟩
  · exact TyX.base (TyOf.tup h)
  · exact .fTuple h
end Bg
set_option Elab.async false
set_option linter.all false
set_option maxRecDepth 100000
set_option maxHeartbeats 4000000
/-! the methods of a kinds table whose dicts are told -/
namespace Bg
open PySem PySem.Spec PyProof.Rows L2
section
variable {P : Program} {w : World} {K : PySem.W.Frag} {mg : Str → Option Value} {base : Heap} {fd : FuncData}
theorem op_inOwn {X : Cx} {CX : CXT} {n : Nat} {C f : Addr} {fd : FuncData} {ps : List Str} {sp : Sp} {E : XK} (F : FnOk X.prog X.w X.K X.mg X.base CX n f fd ps sp) (hr : Room n X.A) (m : Meth X.K C "__contains__" f) (hb : Binds X.K fd ps []) (hx : Passes CX X E) :
    OpR X (compareOp .In) (fun x y H Q => ∃ a dx fs, y = .ref a ∧ H a = some (.ins C dx fs) ∧ sp [.ref a, x] H (fun v H' => ∃ b, v = .bl b ∧ Q (.bl b) H') E) := by
  intro pins s σ H x y v u Q I rx ry h
  obtain ⟨a, dx, fs, rfl, ha, q⟩ := h
  cases ry
  obtain ⟨mA, J, _⟩ := ins_get I.hok ha
  obtain ⟨od, J, _⟩ := J.look
  obtain ⟨m', hF⟩ := I.fr
  refine PySem.W.in_K hF I.ok.mod.kin J m.at_ m.fn ?_
  refine thn (run_fn F hr hb .nil hx I (.cons (show RelV (V.ref a) (Value.ref a) from rfl) (.cons rx .nil)) q) fun r s' z => ?_
  obtain ⟨z1, H', I', rz, b, rfl, q'⟩ := z
  cases rz
  exact wpAny_truthy_bool ⟨.bl b, H', I', rfl, q'⟩
theorem row_unique {rs : List Row} (nd : (rmakers rs).Nodup) {r r' : Row} (h : r ∈ rs) (h' : r' ∈ rs) (e : r.2.1 = r'.2.1) : r = r' := by
  obtain ⟨i, hi⟩ := List.getElem?_of_mem h
  obtain ⟨j, hj⟩ := List.getElem?_of_mem h'
  have a : (rmakers rs)[i]? = some r.2.1 := by unfold rmakers; rw [List.getElem?_map, hi]; rfl
  have b : (rmakers rs)[j]? = some r.2.1 := by unfold rmakers; rw [List.getElem?_map, hj, e]; rfl
  have := nd_ix nd a b
  rw [this, hj] at hi
  exact (Option.some.inj hi).symm
theorem part_unique {ps : List Part} (nd : (ps.map (·.1)).Nodup) {p q : Part} (h : p ∈ ps) (h' : q ∈ ps) (e : p.1 = q.1) : p = q := by
  obtain ⟨i, hi⟩ := List.getElem?_of_mem h
  obtain ⟨j, hj⟩ := List.getElem?_of_mem h'
  have a : (ps.map (·.1))[i]? = some p.1 := by rw [List.getElem?_map, hi]; rfl
  have b : (ps.map (·.1))[j]? = some p.1 := by rw [List.getElem?_map, hj, e]; rfl
  have := nd_ix nd a b
  rw [this, hj] at hi
  exact (Option.some.inj hi).symm
theorem ValidT.nd {rs : List Row} (v : ValidT rs) : (rmakers rs).Nodup := v.each.nd
theorem nodup_of_fold {α : Type} [DecidableEq α] : ∀ (l acc : List α), acc.Nodup → (l.foldl addNew acc).length = acc.length + l.length → (acc ++ l).Nodup
  | [], acc, h, _ => by simpa using h
  | a :: r, acc, h, e => by
    have h1 := length_foldNew r (addNew acc a)
    have h2 := length_addNew acc a
    rw [List.foldl_cons, List.length_cons] at e
    by_cases ha : a ∈ acc
    · rw [if_pos ha] at h2; omega
    · rw [if_neg ha] at h2
      have ea : addNew acc a = acc ++ [a] := by unfold addNew; rw [if_neg ha]
      have := nodup_of_fold r (addNew acc a) (nodup_addNew h) (by rw [h2]; omega)
      rw [ea] at this
      simpa using this
theorem nodup_of_len {α : Type} [DecidableEq α] {l : List α} (h : (distinct l).length = l.length) : l.Nodup := by
  have := nodup_of_fold l [] List.nodup_nil (by simpa [distinct] using h)
  simpa using this
theorem ValidT.ndp {rs : List Row} (v : ValidT rs) {r : Row} (h : r ∈ rs) : (r.2.2.map (·.1)).Nodup := by
  have := (v.each.good r h).2.2
  unfold partsB at this
  simp only [Bool.and_eq_true, decide_eq_true_eq] at this
  exact nodup_of_len (by rw [this.2.2, List.length_map])
/-- tuple(d), d a dict that is told -/
def rTupFz : List V → Hp → VK → Prop := fun xs H Q => ∃ p kvs, xs = [.ref p] ∧ FzAt H p kvs ∧ ∀ q o, H q = none → o.dict = none → Q (.ref q) (upd H q (.frz o (.tup (kvs.map fun kv => kV kv.1))))
theorem call_tuple_fz {X : Cx} (calm : X.calm = true) : CallR X (.type "tuple") rTupFz := by
  intro pins s σ H xs us Q I r h
  obtain ⟨p, kvs, rfl, ⟨o, hk⟩, q⟩ := h
  obtain ⟨u, rfl, rx⟩ := vals1 r
  obtain rfl : u = Value.ref p := rx
  obtain ⟨_, z, lo, vs, rk, hd⟩ := (show ObjOk X.prog X.w H s.heap p (.frz o (.dK kvs)) from I.hok p _ hk)
  obtain ⟨ep, hat⟩ := hd.dictAt
  have hl : kvs.length = vs.length := Paired.length rk
  refine tuple_of (PySem.W.kdl_dict (knd := mixKind X.prog X.w) (kvs := vs) (ep := ep) lo) (I.ok.hd calm) hat (by rw [← hl]; exact z) fun h' tk got keep items => ?_
  have I' : Inv X pins σ H { s with heap := h', toks := tk } := I.kept keep
  have len : (kvs.map fun kv => kV kv.1).length = got.toList.length := by
    rw [List.length_map]
    have z1 : got.toList.length = got.size := by simp
    rw [z1, items.1, hl]
  have rel : Vals (kvs.map fun kv => kV kv.1) got.toList := by
    refine vals_of_at len fun j x w h1 h2 => ?_
    obtain ⟨k, y, hky, hi⟩ := items.2 j w (by rw [← Array.getElem?_toList]; exact h2)
    have e1 : (kvs.map (·.1))[j]? = some k := by rw [KV.keys rk, List.getElem?_map, hky]; rfl
    have e2 : (kvs.map fun kv => kV kv.1) = (kvs.map (·.1)).map kV := by rw [List.map_map]; rfl
    rw [e2, List.getElem?_map, e1] at h1
    cases h1
    exact keyIs_rel hi
  refine ⟨.ref h'.objs.size, _, I'.laid (t' := tk) (o := .frz { cls := .type "tuple", data := .seq got } (.tup (kvs.map fun kv => kV kv.1))) (fun b u e => Heap.get?_push_of_some _ e) (Nat.le_refl _) ?_, rfl, q _ _ (I'.hok.fresh (Nat.le_refl _)) rfl⟩
  refine ⟨Heap.get?_push_size _ rfl, by rw [List.length_map]; exact z, got.toList, rel, ?_⟩
  rw [Array.toArray_toList]
  exact IsTup.new _ _
/-- len(d), d a dict that is told -/
def rLenFz : List V → Hp → VK → Prop := fun xs H Q => ∃ p kvs, xs = [.ref p] ∧ FzAt H p kvs ∧ Q (.int (kvs.length : Nat)) H
theorem kF_none {dm dk dp dl tn to : Addr} {m : Str} (h : decide (m ∈ ([("order" : Str), ("names" : Str), ("_least" : Str), ("_parts" : Str), ("_kinds" : Str), ("_makers" : Str)] : List Str)) = false) : (kF6 dm dk dp dl tn to).lookup m = none := by
  have q := of_decide_eq_false h
  simp only [List.mem_cons, List.not_mem_nil, or_false, not_or] at q
  exact kF_no q.1 q.2.1 q.2.2.1 q.2.2.2.1 q.2.2.2.2.1 q.2.2.2.2.2
def spContainsF (K : PySem.W.Frag) : Sp := fun vs H Q _ => ∃ (x : Addr) (k : Str) (rs : List Row), vs = [.ref x, .str k] ∧ KindsF K H x rs ∧ Q (.bl (decide (k ∈ rmakers rs))) H
theorem okf_contains (T : Tx K mg) (F : FnP K ("Kinds", some "__contains__") "__contains__" "Kinds.__contains__" s_Kinds_contains fd) : FnOk P w K mg base CX0 1 (He.fAd K ("Kinds", some "__contains__")) fd ["self", "x"] (spContainsF K) := by
  refine F.ok sc_Kinds_contains (fun vs H Q E h => ?_) (fun cdv A outer s H vs Q E hr h => ?_)
  · obtain ⟨x, _, _, rfl, _⟩ := h; rfl
  obtain ⟨x, k, rs, rfl, ⟨dx, dm, dk, dp, dl, tn, to, h0, mvs, kvs, pvs, lvs, h1, ⟨h3, h4⟩, _⟩, q⟩ := h
  have hu := hu_of hr
  refine ⟨_, PSs.nox (pss_one (ps_ret (pe_cmp (pc_din hu (pv 1) (pe_fld (pv 0) rfl)) rfl))), ?_⟩
  refine ⟨_, rfl, _, rfl, x, CK K, dx, _, _, rfl, h0, T.cl_Kinds, T.na_Kinds_kinds_, kF_kinds, dk, _, rfl, h3.get (Sum.inr k), ?_⟩
  rw [KD.isSome h4, show decide (k ∈ distinct (rmakers rs)) = decide (k ∈ rmakers rs) by simp only [mem_distinct]]
  exact q
def spMakersF (K : PySem.W.Frag) : Sp := fun vs H Q _ => ∃ (x : Addr) (k : Str) (rs : List Row), vs = [.ref x, .str k] ∧ KindsF K H x rs ∧ k ∈ rkinds rs ∧ ∀ v, TextsAt H v (makersOf rs k) → Q v H
theorem okf_makers (T : Tx K mg) (F : FnP K ("Kinds", some "makers") "makers" "Kinds.makers" s_Kinds_makers fd) : FnOk P w K mg base CX0 1 (He.fAd K ("Kinds", some "makers")) fd ["self", "kind"] (spMakersF K) := by
  refine F.ok sc_Kinds_makers (fun vs H Q E h => ?_) (fun cdv A outer s H vs Q E hr h => ?_)
  · obtain ⟨x, _, _, rfl, _⟩ := h; rfl
  obtain ⟨x, k, rs, rfl, ⟨dx, dm, dk, dp, dl, tn, to, h0, mvs, kvs, pvs, lvs, ⟨h1, h2⟩, _⟩, hk, q⟩ := h
  have hu := hu_of hr
  refine ⟨_, PSs.nox (pss_cons (ps_if (pt_cmp (pc_dnotin hu (pv 1) (pe_fld (pv 0) rfl))) (pss_one ps_never) pss_nil) (pss_one (ps_ret (pe_dget hu (pe_fld (pv 0) rfl) (pv 1) (fun _ _ => rfl))))), ?_⟩
  obtain ⟨v, e, hv⟩ := KD.some h2 (mem_distinct.mpr hk)
  refine ⟨_, rfl, _, rfl, x, CK K, dx, _, _, rfl, h0, T.cl_Kinds, T.na_Kinds_makers_, kF_makers, dm, _, rfl, h1.get (Sum.inr k), _, rfl, ?_⟩
  rw [e]
  exact iteF ⟨_, rfl, x, CK K, dx, _, _, rfl, h0, T.cl_Kinds, T.na_Kinds_makers_, kF_makers, _, rfl, dm, _, rfl, (by rw [← e]; exact h1.get (Sum.inr k)), q v hv⟩
def spKindOfF (K : PySem.W.Frag) : Sp := fun vs H Q _ => ∃ (x : Addr) (rs : List Row) (r : Row), vs = [.ref x, .str r.2.1] ∧ KindsF K H x rs ∧ ValidT rs ∧ r ∈ rs ∧ Q (.str r.1) H
theorem okf_kind_of (T : Tx K mg) (F : FnP K ("Kinds", some "kind_of") "kind_of" "Kinds.kind_of" s_Kinds_kind_of fd) : FnOk P w K mg base CX0 1 (He.fAd K ("Kinds", some "kind_of")) fd ["self", "maker"] (spKindOfF K) := by
  refine F.ok sc_Kinds_kind_of (fun vs H Q E h => ?_) (fun cdv A outer s H vs Q E hr h => ?_)
  · obtain ⟨x, _, _, rfl, _⟩ := h; rfl
  obtain ⟨x, rs, r, rfl, ⟨dx, dm, dk, dp, dl, tn, to, h0, mvs, kvs, pvs, lvs, _, ⟨h1, h2⟩, _⟩, val, hr', q⟩ := h
  have hu := hu_of hr
  refine ⟨_, PSs.nox (pss_cons (ps_if (pt_cmp (pc_dnotin hu (pv 1) (pe_fld (pv 0) rfl))) (pss_one ps_never) pss_nil) (pss_one (ps_ret (pe_dget hu (pe_fld (pv 0) rfl) (pv 1) (fun _ _ => rfl))))), ?_⟩
  obtain ⟨v, e, r2, hr2, e2, rfl⟩ := KD.some h2 (mem_distinct.mpr (List.mem_map.mpr ⟨r, hr', rfl⟩))
  cases row_unique val.nd hr2 hr' e2
  refine ⟨_, rfl, _, rfl, x, CK K, dx, _, _, rfl, h0, T.cl_Kinds, T.na_Kinds_kinds_, kF_kinds, dk, _, rfl, h1.get (Sum.inr _), _, rfl, ?_⟩
  rw [e]
  exact iteF ⟨_, rfl, x, CK K, dx, _, _, rfl, h0, T.cl_Kinds, T.na_Kinds_kinds_, kF_kinds, _, rfl, dk, _, rfl, (by rw [← e]; exact h1.get (Sum.inr _)), q⟩
def spTagF (K : PySem.W.Frag) : Sp := fun vs H Q _ => ∃ (x : Addr) (rs : List Row) (r : Row), vs = [.ref x, .str r.2.1] ∧ KindsF K H x rs ∧ ValidT rs ∧ r ∈ rs ∧ Q (.int (tagOf rs r : Nat)) H
theorem okf_tag (T : Tx K mg) (F : FnP K ("Kinds", some "tag") "tag" "Kinds.tag" s_Kinds_tag fd) : FnOk P w K mg base CX0 2 (He.fAd K ("Kinds", some "tag")) fd ["self", "maker"] (spTagF K) := by
  obtain ⟨f1, F1⟩ := T.F_Kinds_makers
  obtain ⟨f2, F2⟩ := T.F_Kinds_kind_of
  refine F.ok sc_Kinds_tag (fun vs H Q E h => ?_) (fun cdv A outer s H vs Q E hr h => ?_)
  · obtain ⟨x, _, _, rfl, _⟩ := h; rfl
  obtain ⟨x, rs, r, rfl, hK, val, hr', q⟩ := h
  obtain ⟨dx, dm, dk, dp, dl, tn, to, h0, _⟩ := id hK
  refine ⟨_, PSs.nox (pss_one (ps_ret (pe_tm1 PySem.F.slot_tuple_index PySem.F.type_tuple_index mt_tup_index
    (pe_meth (pv 0) T.cl_Kinds T.m_Kinds_makers (okf_makers T F1) hr (b_Kinds_makers F1) .nil pass0 (pa_cons (pe_meth (pv 0) T.cl_Kinds T.m_Kinds_kind_of (okf_kind_of T F2) hr (b_Kinds_kind_of F2) .nil pass0 (pa_cons (pv 1) pa_nil)) pa_nil)) (pv 1)))), ?_⟩
  have no : ∀ m : Str, decide (m ∈ ([("order" : Str), ("names" : Str), ("_least" : Str), ("_parts" : Str), ("_kinds" : Str), ("_makers" : Str)] : List Str)) = false → (kF6 dm dk dp dl tn to).lookup m = none := fun m h => kF_none h
  refine ⟨_, rfl, x, dx, _, rfl, h0, kF_none (by decide +kernel), _, rfl, x, dx, _, rfl, h0, kF_none (by decide +kernel), _, rfl, x, rs, r, rfl, hK, val, hr', ?_⟩
  refine ⟨x, r.1, rs, rfl, hK, List.mem_map.mpr ⟨r, hr', rfl⟩, fun v hv => ?_⟩
  obtain ⟨t, o, rfl, ho, ht⟩ := hv
  obtain ⟨ix1, ix2⟩ := mem_idxOf (show r.2.1 ∈ makersOf rs r.1 from List.mem_map.mpr ⟨r, List.mem_filter.mpr ⟨hr', by simp⟩, rfl⟩)
  exact ⟨⟨t, o, _, rfl, ho, ht⟩, _, rfl, t, _, r.2.1, _, rfl, rfl, sqT_frz ht, ix1, ix2, q⟩
theorem keys_of {kvs : List (Key × V)} {ks : List Str} {R : Str → V → Prop} (h : KD kvs ks R) : (kvs.map fun kv => kV kv.1) = ks.map V.str := by
  rw [show (kvs.map fun kv => kV kv.1) = (kvs.map (·.1)).map kV by rw [List.map_map]; rfl, h.1, List.map_map]; rfl
/-- the dict of the parts of a maker -/
theorem parts_at {H : Hp} {pvs : List (Key × V)} {rs : List Row} (h : PartsF H pvs rs) (val : ValidT rs) {r : Row} (hr : r ∈ rs) : ∃ d hv, valV pvs (Sum.inr r.2.1) = some (.ref d) ∧ FzAt H d hv ∧ KD hv (r.2.2.map (·.1)) fun n v => ∃ p ∈ r.2.2, p.1 = n ∧ HoldAt H v p := by
  obtain ⟨v, e, r2, hr2, e2, d, hv, rfl, hd, hh⟩ := KD.some h (mem_distinct.mpr (List.mem_map.mpr ⟨r, hr, rfl⟩))
  cases row_unique val.nd hr2 hr e2
  refine ⟨d, hv, e, hd, ?_⟩
  have : HoldD H hv r.2.2 := hh
  unfold HoldD at this
  rw [distinct_of_nodup (val.ndp hr)] at this
  exact this
def spPartsF (K : PySem.W.Frag) : Sp := fun vs H Q _ => ∃ (x : Addr) (rs : List Row) (r : Row), vs = [.ref x, .str r.2.1] ∧ KindsF K H x rs ∧ ValidT rs ∧ r ∈ rs ∧ ∀ v H', Same H H' → TextsAt H' v (r.2.2.map (·.1)) → Q v H'
theorem okf_parts (T : Tx K mg) (F : FnP K ("Kinds", some "parts") "parts" "Kinds.parts" s_Kinds_parts fd) : FnOk P w K mg base CX0 1 (He.fAd K ("Kinds", some "parts")) fd ["self", "maker"] (spPartsF K) := by
  refine F.ok sc_Kinds_parts (fun vs H Q E h => ?_) (fun cdv A outer s H vs Q E hr h => ?_)
  · obtain ⟨x, _, _, rfl, _⟩ := h; rfl
  obtain ⟨x, rs, r, rfl, ⟨dx, dm, dk, dp, dl, tn, to, h0, mvs, kvs, pvs, lvs, _, _, ⟨h1, h2⟩, _⟩, val, hr', q⟩ := h
  have hu := hu_of hr
  refine ⟨_, PSs.nox (pss_cons (ps_if (pt_cmp (pc_dnotin hu (pv 1) (pe_fld (pv 0) rfl))) (pss_one ps_never) pss_nil)
    (pss_one (ps_ret (pe_callTy (call_tuple_fz rfl) (by rfl) T.n_tuple (by decide +kernel) (pa_cons (pe_dget hu (pe_fld (pv 0) rfl) (pv 1) (fun _ _ => rfl)) pa_nil))))), ?_⟩
  obtain ⟨d, hv, e, hd, hh⟩ := parts_at h2 val hr'
  refine ⟨_, rfl, _, rfl, x, CK K, dx, _, _, rfl, h0, T.cl_Kinds, T.na_Kinds_parts_, kF_parts, dp, _, rfl, h1.get (Sum.inr _), _, rfl, ?_⟩
  rw [e]
  refine iteF ⟨_, rfl, x, CK K, dx, _, _, rfl, h0, T.cl_Kinds, T.na_Kinds_parts_, kF_parts, _, rfl, dp, _, rfl, (by rw [← e]; exact h1.get (Sum.inr _)), d, hv, rfl, hd, fun t o ht ho => ?_⟩
  exact q _ _ (same_new ht) ⟨t, o, rfl, ho, by rw [upd_same, keys_of hh]⟩
def spHoldingF (K : PySem.W.Frag) : Sp := fun vs H Q _ => ∃ (x : Addr) (rs : List Row) (r : Row) (p : Part), vs = [.ref x, .str r.2.1, .str p.1] ∧ KindsF K H x rs ∧ ValidT rs ∧ r ∈ rs ∧ p ∈ r.2.2 ∧ ∀ v, HoldAt H v p → Q v H
theorem okf_holding (T : Tx K mg) (F : FnP K ("Kinds", some "_holding") "_holding" "Kinds._holding" s_Kinds_holding fd) : FnOk P w K mg base CX0 1 (He.fAd K ("Kinds", some "_holding")) fd ["self", "maker", "part"] (spHoldingF K) := by
  refine F.ok sc_Kinds_holding (fun vs H Q E h => ?_) (fun cdv A outer s H vs Q E hr h => ?_)
  · obtain ⟨x, _, _, _, rfl, _⟩ := h; rfl
  obtain ⟨x, rs, r, p, rfl, ⟨dx, dm, dk, dp, dl, tn, to, h0, mvs, kvs, pvs, lvs, _, _, ⟨h1, h2⟩, _⟩, val, hr', hp, q⟩ := h
  have hu := hu_of hr
  refine ⟨_, PSs.nox (pss_cons (ps_if (pt_cmp (pc_dnotin hu (pv 1) (pe_fld (pv 0) rfl))) (pss_one ps_never) pss_nil)
    (pss_cons (ps_if (pt_cmp (pc_dnotin hu (pv 2) (pe_dget hu (pe_fld (pv 0) rfl) (pv 1) (fun _ _ => rfl)))) (pss_one ps_never) pss_nil)
    (pss_one (ps_ret (pe_dget hu (pe_dget hu (pe_fld (pv 0) rfl) (pv 1) (fun _ _ => rfl)) (pv 2) (fun _ _ => rfl)))))), ?_⟩
  obtain ⟨d, hv, e, hd, hh⟩ := parts_at h2 val hr'
  obtain ⟨v2, e3, p2, hp2, e4, hat⟩ := KD.some hh (List.mem_map.mpr ⟨p, hp, rfl⟩)
  cases part_unique (val.ndp hr') hp2 hp e4
  refine ⟨_, rfl, _, rfl, x, CK K, dx, _, _, rfl, h0, T.cl_Kinds, T.na_Kinds_parts_, kF_parts, dp, _, rfl, h1.get (Sum.inr _), _, rfl, ?_⟩
  rw [e]
  refine iteF ⟨_, rfl, _, rfl, x, CK K, dx, _, _, rfl, h0, T.cl_Kinds, T.na_Kinds_parts_, kF_parts, _, rfl, dp, _, rfl, (by rw [← e]; exact h1.get (Sum.inr _)), d, _, rfl, hd.get (Sum.inr _), _, rfl, ?_⟩
  rw [e3]
  exact iteF ⟨_, rfl, x, CK K, dx, _, _, rfl, h0, T.cl_Kinds, T.na_Kinds_parts_, kF_parts, _, rfl, dp, _, rfl, (by rw [← e]; exact h1.get (Sum.inr _)), _, rfl, d, _, rfl, (by rw [← e3]; exact hd.get (Sum.inr _)), q _ hat⟩
def spInnerF (K : PySem.W.Frag) : Sp := fun vs H Q _ => ∃ (x : Addr) (rs : List Row) (r : Row) (p : Part), vs = [.ref x, .str r.2.1, .str p.1] ∧ KindsF K H x rs ∧ ValidT rs ∧ r ∈ rs ∧ p ∈ r.2.2 ∧ Q (.str (holdOf p).1) H
theorem okf_inner (T : Tx K mg) (F : FnP K ("Kinds", some "inner") "inner" "Kinds.inner" s_Kinds_inner fd) : FnOk P w K mg base CX0 2 (He.fAd K ("Kinds", some "inner")) fd ["self", "maker", "part"] (spInnerF K) := by
  obtain ⟨f1, F1⟩ := T.F_Kinds_holding
  refine F.ok sc_Kinds_inner (fun vs H Q E h => ?_) (fun cdv A outer s H vs Q E hr h => ?_)
  · obtain ⟨x, _, _, _, rfl, _⟩ := h; rfl
  obtain ⟨x, rs, r, p, rfl, hK, val, hr', hp, q⟩ := h
  obtain ⟨dx, dm, dk, dp, dl, tn, to, h0, _⟩ := id hK
  refine ⟨_, PSs.nox (pss_one (ps_ret (pe_ix ix_tup (pe_meth (pv 0) T.cl_Kinds T.m_Kinds_holding (okf_holding T F1) hr (b_Kinds_holding F1) .nil pass0 (pa_cons (pv 1) (pa_cons (pv 2) pa_nil))) pe_int (fun _ _ => rfl)))), ?_⟩
  refine ⟨_, rfl, x, dx, _, rfl, h0, kF_none (by decide +kernel), _, rfl, _, rfl, x, rs, r, p, rfl, hK, val, hr', hp, fun v hv => ?_⟩
  obtain ⟨t, rfl, ht⟩ := hv
  exact ⟨t, _, _, _, rfl, rfl, SqT.of ht, atI_nat (j := 0) rfl, q⟩
end
end Bg
set_option Elab.async false
set_option linter.all false
set_option maxRecDepth 100000
set_option maxHeartbeats 4000000
/-! bodies of functions, as data; which are valid; their paths -/
namespace Bg
open PySem PySem.Spec PyProof.Rows L2
/-- a step; odd: any other word, or a known one with too many or too few texts -/
inductive Step where
  | say (n : Int) | read (p : Str) | call (f p : Str) | odd (w : Str) (xs : List Str) | br (p : Str) (c : Int) (a b : List Step)
abbrev Body := List Step
mutual
def stepD : Step → PyData
  | .say n => .tuple [.str "say", .int n]
  | .read p => .tuple [.str "read", .str p]
  | .call f p => .tuple [.str "call", .str f, .str p]
  | .odd w xs => .tuple (.str w :: xs.map .str)
  | .br p c a b => .tuple [.str "if", .str p, .int c, .tuple (bodyDs a), .tuple (bodyDs b)]
def bodyDs : List Step → List PyData
  | [] => []
  | s :: r => stepD s :: bodyDs r
end
abbrev bodyD (b : Body) : PyData := .tuple (bodyDs b)
/-- what an odd step is -/
def OddS (w : Str) (xs : List Str) : Prop := w ≠ ("if" : Str) ∧ (w = ("say" : Str) → xs.length ≠ 1) ∧ (w = ("read" : Str) → xs.length ≠ 1) ∧ (w = ("call" : Str) → xs.length ≠ 2)
mutual
def sdep : Step → Nat
  | .br _ _ a b => bdep a + bdep b + 1
  | _ => 0
def bdep : List Step → Nat
  | [] => 0
  | s :: r => sdep s + bdep r
end
mutual
def OddOkS : Step → Prop
  | .odd w xs => OddS w xs
  | .br _ _ a b => OddOk a ∧ OddOk b
  | _ => True
def OddOk : List Step → Prop
  | [] => True
  | s :: r => OddOkS s ∧ OddOk r
end
/-- a byte part, a tree part of a maker -/
def byteP (r : Row) (x : Str) : Bool := r.2.2.any fun p => decide (p.1 = x) && decide ((holdOf p).1 = ("byte" : Str))
def treeP (r : Row) (x : Str) : Bool := r.2.2.any fun p => decide (p.1 = x) && !decide ((holdOf p).1 = ("byte" : Str))
def asksOf : Step → List Str
  | .read p => [p]
  | .call _ p => [p]
  | _ => []
def isBr : Step → Bool
  | .br .. => true
  | _ => false
mutual
def stepB (r : Row) (asked : List Str) : Step → Bool
  | .say n => decide (0 ≤ n) && decide (n ≤ 1000)
  | .read p => byteP r p && !decide (p ∈ asked)
  | .call _ p => treeP r p && !decide (p ∈ asked)
  | .odd _ _ => false
  | .br p c a b => byteP r p && !decide (p ∈ asked) && decide (1 ≤ c) && decide (c ≤ 255) && (decide (a.length ≤ 12) && bodyB r (asked ++ [p]) a) && (decide (b.length ≤ 12) && bodyB r (asked ++ [p]) b)
def bodyB (r : Row) (asked : List Str) : List Step → Bool
  | [] => true
  | s :: l => (if isBr s = true then l.isEmpty else true) && stepB r asked s && bodyB r (asked ++ asksOf s) l
end
/-- a body that is let for a maker, behind steps that asked some parts -/
def bodyOk (r : Row) (asked : List Str) (b : Body) : Bool := decide (b.length ≤ 12) && bodyB r asked b
/-! ### paths -/
abbrev Tri := Str × Str × Int
def triOf : Step → List Tri
  | .read p => [(p, "", 0)]
  | .call f p => [(p, f, 0)]
  | _ => []
mutual
def pathsS (asked : List Tri) : Step → Option (List (List Tri))
  | .br p c a b => some ((pathsB [] a).map (fun r => asked ++ ([(p, "", 0)] : List Tri) ++ r) ++ (pathsB [] b).map (fun r => asked ++ ([(p, "", c)] : List Tri) ++ r))
  | _ => none
def pathsB (asked : List Tri) : List Step → List (List Tri)
  | [] => [asked]
  | s :: l => match pathsS asked s with
    | some ps => ps
    | none => pathsB (asked ++ triOf s) l
end
def askedB (b : Body) : List (Str × Str) := (pathsB [] b).flatMap fun p => p.map fun t => (t.1, t.2.1)
/-- on the heap: a body -/
abbrev BodyAt (H : Hp) (v : V) (b : Body) : Prop := Td H v (bodyD b)
theorem bodyDs_length : ∀ b : Body, (bodyDs b).length = b.length
  | [] => by simp [bodyDs]
  | s :: r => by simp [bodyDs, bodyDs_length r]
theorem bodyDs_get : ∀ (b : Body) (i : Nat), (bodyDs b)[i]? = (b[i]?).map stepD
  | [], i => by simp [bodyDs]
  | s :: r, 0 => by simp [bodyDs]
  | s :: r, i + 1 => by simp [bodyDs, bodyDs_get r i]
/-- a step's tuple: the word first -/
def wordOf : Step → Str
  | .say _ => "say" | .read _ => "read" | .call _ _ => "call" | .odd w _ => w | .br .. => "if"
theorem byteP_of {r : Row} {p : Part} (h : p ∈ r.2.2) (e : (holdOf p).1 = ("byte" : Str)) : byteP r p.1 = true := List.any_eq_true.mpr ⟨p, h, by simp [e]⟩
theorem askP {r : Row} (nd : (r.2.2.map (·.1)).Nodup) {p : Part} (h : p ∈ r.2.2) : byteP r p.1 = decide ((holdOf p).1 = ("byte" : Str)) ∧ treeP r p.1 = !decide ((holdOf p).1 = ("byte" : Str)) := by
  have un : ∀ q ∈ r.2.2, q.1 = p.1 → q = p := fun q hq e => part_unique nd hq h e
  have f : ∀ g : Part → Bool, (r.2.2.any fun q => decide (q.1 = p.1) && g q) = g p := fun g => by
    cases e : g p with
    | true => exact List.any_eq_true.mpr ⟨p, h, by simp [e]⟩
    | false =>
      refine List.any_eq_false.mpr fun q hq => ?_
      by_cases hh : q.1 = p.1
      · rw [un q hq hh, e]; simp
      · rw [decide_eq_false hh]; simp
  exact ⟨f fun p => decide ((holdOf p).1 = ("byte" : Str)), f fun p => !decide ((holdOf p).1 = ("byte" : Str))⟩
theorem askP_out {r : Row} {x : Str} (h : x ∉ r.2.2.map (·.1)) : byteP r x = false ∧ treeP r x = false := by
  have f : ∀ g : Part → Bool, (r.2.2.any fun q => decide (q.1 = x) && g q) = false := fun g => List.any_eq_false.mpr fun q hq => by
    have : q.1 ≠ x := fun e => h (e ▸ List.mem_map_of_mem hq)
    rw [decide_eq_false this]; simp
  exact ⟨f _, f _⟩
end Bg
set_option Elab.async false
set_option linter.all false
set_option maxRecDepth 100000
set_option maxHeartbeats 4000000
/-! zip(d, t), d a dict that is locked, t a tuple: the keys in their order beside the items -/
namespace Bg
open PySem PySem.Spec PyProof.Rows L2
section
variable {prog : Program} {w : World} {A : Around} {E : Value → Shared → Prop} {s : Shared}
theorem nextKey_item {it d : Addr} {i n ep : Nat} {dob : Obj} {ents : Array DictEntry} {en : DictEntry} {Q : Value → Shared → Prop} (iter : s.heap.IsKeyIter it d i n ep) (dh : s.heap.get? d = some dob) (dd : dob.data = .dict ents ep)
    (dsz : ents.size = n) (item : ents[i]? = some en) (want : ∀ h', h'.IsKeyIter it d (i + 1) n ep → Heap.SameBut it s.heap h' → Q en.key { s with heap := h' }) : wpAny (model prog w) A (Builtin.SmallTypes.nextOf (.ref it)) Q E s := by
  obtain ⟨o, io, ic, idt⟩ := id iter
  have it1 := iter.typeIs
  unfold Builtin.SmallTypes.nextOf
  refine wpAny_bind (wpAny_callSpecial?_slot (name := Str.ofString "__next__") it1 F.slot_dict_keyiterator_next (wpAny_call_entry F.slot_dict_keyiterator_next it1 F.entry_dict_keyiterator_next ?_ (F.args_dict_keyiterator_next_1 _)))
  refine wpAny_bind (wpAny_pure (wpAny_bind (wpAny_bind ?_)))
  first | refine wpAny_bind (wpAny_typeNameOfWhole_keyiter it1 (wpAny_pure ?_)) | refine wpAny_bind (wpAny_typeNameOf_keyiter it1 (wpAny_pure ?_))
  refine wpAny_bind (wpAny_fieldsOf io idt ?_)
  simp only [show Builtin.Dict_items.ownsTuple "dict_keyiterator" = false by decide, Bool.false_eq_true, if_false]
  show wpAny _ _ (if (Value.ref d == Value.none) = true then _ else _) _ E s
  rw [if_neg fun z : (Value.ref d == Value.none) = true => Bool.false_ne_true z]
  refine wpAny_bind (wpAny_pure (wpAny_bind (wpAny_dictEntries dh dd ?_)))
  rw [if_neg (by rw [dsz]; simp)]
  refine wpAny_bind (wpAny_pure (wpAny_bind (wpAny_dictEpoch dh dd ?_)))
  rw [if_neg (by simp)]
  obtain ⟨lt, ee⟩ := Array.getElem?_eq_some_iff.mp item
  refine wpAny_pure ?_
  simp only [if_neg (show ¬ ((i : Int) < 0) by omega), show ¬ ((i : Int) < 0) from by omega, if_false, Int.toNat_natCast, Array.getElem?_eq_getElem lt]
  refine wpAny_bind ?_
  first | refine wpAny_bind (wpAny_typeNameOfWhole_keyiter it1 (wpAny_pure ?_)) | refine wpAny_bind (wpAny_typeNameOf_keyiter it1 (wpAny_pure ?_))
  refine wpAny_bind (wpAny_isOneOf_keyiter it1 ?_)
  show wpAny _ _ (setField (.ref it) 1 (rawInt ((i : Int) + 1)) >>= _) _ E s
  refine wpAny_bind (wpAny_setField io idt (by simp) ?_)
  have next : (s.heap.update it (Obj.mapFields (·.setIfInBounds 1 (rawInt ((i : Int) + 1))))).IsKeyIter it d (i + 1) n ep := by
    refine ⟨_, Heap.get?_update_self _ io (Obj.isFreed_of_fields (Obj.data_mapFields idt _)), (Obj.cls_mapFields ..).trans ic, ?_⟩
    rw [Obj.data_mapFields idt]; simp [rawInt]
  refine wpAny_bind (wpAny_holding (wpAny_bind (wpAny_isOneOf_keyiter (s := { s with heap := s.heap.update it (Obj.mapFields (·.setIfInBounds 1 (rawInt ((i : Int) + 1)))) }) next.typeIs ?_)))
  show wpAny _ _ (pure ents[i].key) _ E _
  rw [ee]
  exact wpAny_pure (wpAny_pure ⟨en.key, rfl, wpAny_pure (want _ next (Heap.SameBut.update ..))⟩)
theorem nextKey_end {it d : Addr} {i n ep : Nat} {dob : Obj} {ents : Array DictEntry} {Q : Value → Shared → Prop} (calm : A.handled = none) (iter : s.heap.IsKeyIter it d i n ep) (dh : s.heap.get? d = some dob) (dd : dob.data = .dict ents ep)
    (dsz : ents.size = n) (behind : n ≤ i) (want : ∀ h' e, Heap.ExtBut it s.heap h' → (∃ o, h'.get? e = some o ∧ o.cls = .type "StopIteration") → E (.ref e) { s with heap := h' }) : wpAny (model prog w) A (Builtin.SmallTypes.nextOf (.ref it)) Q E s := by
  obtain ⟨o, io, ic, idt⟩ := id iter
  have it1 := iter.typeIs
  unfold Builtin.SmallTypes.nextOf
  refine wpAny_bind (wpAny_callSpecial?_slot (name := Str.ofString "__next__") it1 F.slot_dict_keyiterator_next (wpAny_call_entry F.slot_dict_keyiterator_next it1 F.entry_dict_keyiterator_next ?_ (F.args_dict_keyiterator_next_1 _)))
  refine wpAny_bind (wpAny_pure (wpAny_bind (wpAny_bind ?_)))
  first | refine wpAny_bind (wpAny_typeNameOfWhole_keyiter it1 (wpAny_pure ?_)) | refine wpAny_bind (wpAny_typeNameOf_keyiter it1 (wpAny_pure ?_))
  refine wpAny_bind (wpAny_fieldsOf io idt ?_)
  simp only [show Builtin.Dict_items.ownsTuple "dict_keyiterator" = false by decide, Bool.false_eq_true, if_false]
  show wpAny _ _ (if (Value.ref d == Value.none) = true then _ else _) _ E s
  rw [if_neg fun z : (Value.ref d == Value.none) = true => Bool.false_ne_true z]
  refine wpAny_bind (wpAny_pure (wpAny_bind (wpAny_dictEntries dh dd ?_)))
  rw [if_neg (by rw [dsz]; simp)]
  refine wpAny_bind (wpAny_pure (wpAny_bind (wpAny_dictEpoch dh dd ?_)))
  rw [if_neg (by simp)]
  refine wpAny_pure ?_
  simp only [show ¬ ((i : Int) < 0) from by omega, if_false, Int.toNat_natCast, Array.getElem?_eq_none (show ents.size ≤ i by rw [dsz]; exact behind)]
  refine wpAny_bind ?_
  first | refine wpAny_bind (wpAny_typeNameOfWhole_keyiter it1 (wpAny_pure ?_)) | refine wpAny_bind (wpAny_typeNameOf_keyiter it1 (wpAny_pure ?_))
  show wpAny _ _ (setField (.ref it) 0 .none >>= _) _ E s
  refine wpAny_bind (wpAny_setField io idt (by simp) ?_)
  show wpAny _ _ (newExc (.type "StopIteration") [] >>= _) _ E _
  refine wpAny_bind ?_
  simp only [newExc, newTuple]
  refine wpAny_bind (wpAny_newObj_type (wpAny_bind (m := firstArgMember _ _) (wpAny_of_eq (a := Value.none) (by first | rfl | (simp only [firstArgMember]; rfl)) (wpAny_newObj_type ?_ (by size_fits)))) (by size_fits))
  simp only [raiseNew]
  refine wpAny_bind (wpAny_handled ?_)
  first | rw [show A.in1.handled = none from calm] | rw [calm]
  refine wpAny_bind (wpAny_pure (wpAny_throw (want _ _ (((Heap.SameBut.update ..).extBut.push _).push _) ⟨_, Heap.get?_push_size _ rfl, rfl⟩)))
end
theorem draws_keys {prog : Program} {w : World} {A : Around} (calm : A.handled = none) {it d : Addr} (apart : d ≠ it) {dob : Obj} {ents : Array DictEntry} {ep n : Nat} (dd : dob.data = .dict ents ep) (dsz : ents.size = n) :
    Draws prog w A it [it, d] n (fun i v => ∃ en, ents[i]? = some en ∧ v = en.key) (fun i h => h.IsKeyIter it d i n ep ∧ h.get? d = some dob) where
  live := fun _ _ st => let ⟨o, ho, _⟩ := st.1; ⟨o, ho⟩
  frame := fun _ _ _ st k => ⟨st.1.at fun o e => k it (by simp) o e, k d (by simp) _ st.2⟩
  item := fun i s Q E hi st hQ => by
    refine nextKey_item st.1 st.2 dd dsz (en := ents[i]) (by simp [dsz, hi]) fun h' st' sb => ?_
    exact hQ _ h' s.toks ⟨_, by simp [dsz, hi], rfl⟩ ⟨st', sb.extBut _ _ apart st.2⟩ sb
  done := fun s Q E st hE => nextKey_end calm st.1 st.2 dd dsz (Nat.le_refl _) hE
theorem begins_keys {d : Addr} {dob : Obj} {ents : Array DictEntry} {ep : Nat} (live : (d == sysModules) = false) (ex : dob.ExactDict) (dd : dob.data = .dict ents ep) :
    Begins (.ref d) { cls := .type "dict_keyiterator", data := .fields #[.ref d, .int 0 0, .int ents.size 0, .int ep 0] } fun h => h.get? d = some dob where
  iter := fun prog w A E s Q e q => iter_keys live e ex dd q
  keeps := fun h h' x hk => hk d _ x
  free := rfl
/-- keys of the locked dict beside the items of the tuple, in new pairs -/
def Itzd (K : PySem.W.Frag) (d : Addr) (o : Obj) (kvs : List (Key × V)) (b : Addr) (ys : List V) : It :=
  ⟨fun i H => H d = some (.frz o (.dK kvs)) ∧ SqT K H b ys ∧ i < kvs.length ∧ i < ys.length,
    fun i H v H' => ∃ T k x y, v = .ref T ∧ H T = none ∧ H' = upd H T (.tup [kV k, y]) ∧ kvs[i]? = some (k, x) ∧ ys[i]? = some y,
    fun i H => H d = some (.frz o (.dK kvs)) ∧ SqT K H b ys ∧ i = kvs.length⟩
theorem walk_zipD {K : PySem.W.Frag} {d : Addr} {o : Obj} {kvs : List (Key × V)} {b : Addr} {ys : List V} (hl : kvs.length = ys.length) :
    Walk (Itzd K d o kvs b ys) kvs.length (fun H => H d = some (.frz o (.dK kvs)) ∧ SqT K H b ys) (fun i H v H' => ∃ T k x y, v = .ref T ∧ H T = none ∧ H' = upd H T (.tup [kV k, y]) ∧ kvs[i]? = some (k, x) ∧ ys[i]? = some y) :=
  ⟨fun i H hi g => ⟨g.1, g.2, hi, by omega⟩, fun H g => ⟨g.1, g.2, rfl⟩, fun i H v H' hi g y => y⟩
theorem sep_zipD (I d b : Nat) (h1 : d < I) (h2 : b < I) : ZipSep2 (I + 4) (I + 2) (I + 3) I (I + 1) [I, d] [I + 1, b] := by
  have q : ∀ n m : Nat, n ≠ m → (n : Addr) ≠ m := fun _ _ z => z
  constructor <;> first | (exact List.mem_cons_self ..) | (refine q _ _ ?_; omega) | (intro z; rcases List.mem_cons.mp z with z | z; (revert z; refine q _ _ ?_; omega); (have z := List.mem_singleton.mp z; revert z; refine q _ _ ?_; omega))
theorem turn_zipD {P : Program} {w : World} {K : PySem.W.Frag} {elts : List Expr} {kk : Nat} {tpos : Pos} {d b z TI TO i1 i2 : Addr} {o : Obj} {kvs : List (Key × V)} {ys : List V} {ents : Array DictEntry} {ep : Nat} (S : ZipSep2 z TI TO i1 i2 [i1, d] [i2, b]) (dd : o.data = .dict ents ep) (hl : kvs.length = ys.length) :
    Turn P w K (.Tuple elts kk tpos) (Itzd K d o kvs b ys) [z, TI, TO, i1, i2] z (fun i h => IsZip h z TI TO .none ∧ IsTupOf2 h TI (.ref i1) (.ref i2) ∧ (∃ x y, IsTupOf2 h TO x y) ∧ h.IsKeyIter i1 d i kvs.length ep ∧ h.IsTupleIter i2 b i) where
  mem := by simp
  obj := fun i h st c hc => by
    obtain ⟨hz, hTI, ⟨x, y, hTO⟩, ⟨o1, e1, _, d1⟩, ⟨o2, e2, _, d2⟩⟩ := st
    simp only [List.mem_cons, List.not_mem_nil, or_false] at hc
    rcases hc with q | q | q | q | q <;> rw [q]
    · exact ⟨_, hz, fun v q => nomatch q⟩
    · exact ⟨_, hTI, fun v q => nomatch q⟩
    · exact ⟨_, hTO, fun v q => nomatch q⟩
    · exact ⟨o1, e1, fun v q => by rw [d1] at q; cases q⟩
    · exact ⟨o2, e2, fun v q => by rw [d2] at q; cases q⟩
  keep := fun i h h' st k => by
    obtain ⟨hz, hTI, ⟨x, y, hTO⟩, h1, h2⟩ := st
    exact ⟨k z (by simp) _ hz, k TI (by simp) _ hTI, ⟨x, y, k TO (by simp) _ hTO⟩, h1.at fun o q => k i1 (by simp) o q, h2.at fun o q => k i2 (by simp) o q⟩
  item := by
    intro X hP hw hK hc i pins s σ H E I hf st hg
    subst hP hw hK
    obtain ⟨hz, hTI, ⟨x0, y0, hTO⟩, h1, h2⟩ := st
    obtain ⟨hd, hb, l1, l2⟩ := hg
    obtain ⟨hs, hgd, hx, es', ep', vs, hdt, hsz, kv, hm⟩ := I.frzK hd
    obtain ⟨rfl, rfl⟩ := dict_ep dd hdt
    obtain ⟨its, rv, pt, _⟩ := I.tuple hb
    have tl : its.length = ys.length := rv.length.symm
    obtain ⟨⟨k, v⟩, hkv⟩ : ∃ p, kvs[i]? = some p := ⟨kvs[i], List.getElem?_eq_getElem l1⟩
    obtain ⟨y, hy⟩ : ∃ y, ys[i]? = some y := ⟨ys[i], List.getElem?_eq_getElem l2⟩
    obtain ⟨u, hu, ru⟩ := kv_get kv hkv
    obtain ⟨u2, hu2, ru2⟩ := rv.get hy
    have hzl : z < s.heap.objs.size := Heap.lt_size hz
    have calm : X.A.in1.handled = none := I.ok.hd hc
    have nd : d ≠ i1 := fun e => by have q := (hf i1 (by simp)).1; rw [← e, hd] at q; cases q
    have nb : b ≠ i2 := fun e => by
      obtain ⟨o2, e2, c2, _⟩ := id h2
      obtain ⟨ob, eb, cb, _⟩ := id pt
      rw [e, e2] at eb; cases eb
      rw [cb] at c2; simp at c2
    refine wpAny_pyNext_zipD2_item S (draws_keys calm nd dd hsz) (Draws.tuple calm i2 b nb its.toArray) hz hTI hTO ⟨h1, hgd⟩ ⟨h2, pt⟩ l1 (by simp; omega) fun x1 x2 h' tk p1 p2 b1 b2 s1 s2 b5 b6 hk => ?_
    obtain ⟨en, hen, ex1⟩ := p1
    have ex2 : x2 = u2 := by
      have : its[i]? = some x2 := by simpa using p2
      rw [hu2] at this; exact (Option.some.inj this).symm
    have rk : RelV (kV k) x1 := by
      obtain ⟨o', es', ho', _, hdt', _, hp, _⟩ := id hm
      rw [hgd] at ho'; cases ho'
      obtain ⟨rfl, _⟩ := dict_ep dd hdt'
      rw [ex1]
      exact relV_key (show keyIs k en.key = true from (hp.get? (e := en) (by simpa using hen) hu).1)
    refine ⟨_, rfl, wpAny_letOwnedTupleGo_zip (s := { s with heap := h', toks := tk }) b1 fun h'' z'' sb => ?_⟩
    have hT2 : h''.get? s.heap.objs.size = some { cls := .type "tuple", data := .seq #[x1, x2] } := (sb.2 _ (Nat.ne_of_gt hzl)).trans b5
    have new : ObjOk X.prog X.w (upd H s.heap.objs.size (.tup [kV k, y])) h'' s.heap.objs.size (.tup [kV k, y]) :=
      ⟨by show 2 ≤ sizeLine; decide, [x1, x2], .cons rk (.cons (ex2 ▸ ru2) .nil), ⟨_, hT2, rfl, _, rfl⟩⟩
    have I1 : Inv X pins σ (upd H s.heap.objs.size (.tup [kV k, y])) { s with heap := h'', toks := tk } :=
      I.turnedNew (ch := [z, TI, TO, i1, i2]) (fun c o hb q => (sb.2 c (fun q' => hb (by simp [q']))).trans (hk c o (fun q' => hb (by simp [q'])) (fun q' => hb (by simp [q'])) (fun q' => hb (by simp [q'])) (fun q' => hb (by simp [q'])) q)) hf (Nat.le_refl _) new
    refine ⟨.ref s.heap.objs.size, _, I1, rfl, ⟨_, k, v, y, rfl, I.hok.fresh (Nat.le_refl _), rfl, hkv, hy⟩, ⟨z'', ?_, ⟨x1, x2, ?_⟩, ?_, ?_⟩, fun c hcm => ?_⟩
    · exact (sb.2 _ S.TIz).trans (hk _ _ S.TIz S.TITO S.TIi1 S.TIi2 hTI)
    · exact (sb.2 _ S.TOz).trans b2
    · exact s1.1.at fun o q => (sb.2 _ S.zi1.symm).trans q
    · exact s2.1.at fun o q => (sb.2 _ S.zi2.symm).trans q
    · have hlt : c < s.heap.objs.size := by
        simp only [List.mem_cons, List.not_mem_nil, or_false] at hcm
        rcases hcm with q | q | q | q | q <;> rw [q]
        · exact hzl
        · exact Heap.lt_size hTI
        · exact Heap.lt_size hTO
        · obtain ⟨_, e1, _⟩ := h1; exact Heap.lt_size e1
        · obtain ⟨_, e1, _⟩ := h2; exact Heap.lt_size e1
      rw [upd_ne (Nat.ne_of_lt hlt)]
      exact (hf c hcm).1
  done := by
    intro X hP hw hK hc i pins s σ H E I hf st hg
    subst hP hw hK
    obtain ⟨hz, hTI, ⟨x0, y0, hTO⟩, h1, h2⟩ := st
    obtain ⟨hd, hb, ei⟩ := hg
    obtain ⟨hs, hgd, hx, es', ep', vs, hdt, hsz, kv, hm⟩ := I.frzK hd
    obtain ⟨rfl, rfl⟩ := dict_ep dd hdt
    obtain ⟨its, rv, pt, _⟩ := I.tuple hb
    have tl : its.length = ys.length := rv.length.symm
    have calm : X.A.in1.handled = none := I.ok.hd hc
    have nd : d ≠ i1 := fun e => by have q := (hf i1 (by simp)).1; rw [← e, hd] at q; cases q
    have nb : b ≠ i2 := fun e => by
      obtain ⟨o2, e2, c2, _⟩ := id h2
      obtain ⟨ob, eb, cb, _⟩ := id pt
      rw [e, e2] at eb; cases eb
      rw [cb] at c2; simp at c2
    subst ei
    refine wpAny_pyNext_zipD2_end S (draws_keys calm nd dd hsz) (Draws.tuple calm i2 b nb its.toArray) hz hTI hTO ⟨h1, hgd⟩ ⟨h2, pt⟩ (Nat.le_refl _) (by simp; omega) (by simp) fun h' tk hk => ?_
    exact ⟨rfl, I.turnedL (ch := [z, TI, TO, i1, i2]) (fun c o hb q => hk c o (fun q' => hb (by simp [q'])) (fun q' => hb (by simp [q'])) (fun q' => hb (by simp [q'])) (fun q' => hb (by simp [q'])) q) hf⟩
  self := fun A i s Q E st h => wpAny_pyIter_zip st.1 h
def iZipD (K : PySem.W.Frag) (ta : TA) : TI := fun σ H R => ta σ H fun vs H1 => ∃ d o kvs b ys, vs = [.ref d, .ref b] ∧ H1 d = some (.frz o (.dK kvs)) ∧ SqT K H1 b ys ∧ kvs.length = ys.length ∧ R (Itzd K d o kvs b ys) H1
theorem pi_zipD {X : Cx} {e e2 : Expr} {ta : TA} {p pos tpos : Pos} {elts : List Expr} {kk : Nat} (hg : Gl X "zip") (hm : X.mg "zip" = none) (ha : PA X [e, e2] ta)
    (hs : starEach [e, e2] X.env = (false, eval e X.env) :: starEach [e2] X.env := by rfl) (hpl : (backTo pos (starEach [e2] X.env)).any (·.1) = false := by rfl) :
    PI X (.Tuple elts kk tpos) (.Call (.Name "zip" p) [e, e2] [] pos) (iZipD X.K ta) := by
  refine ⟨fun pins s σ H R I h => ?_⟩
  refine Call_ (ld_blt I hg hm PyProof.Rows.boot_zip (PyProof.Rows.callWith_type1 (thn (ha.run pos pins s σ H _ I h) fun us s1 ⟨vs, H1, I1, r1, q1⟩ => ?_) hs hpl))
  obtain ⟨d, o, kvs, b, ys, ex, hd, hb, hl, q⟩ := q1
  subst ex
  obtain ⟨u1, u2, rfl, r1, r2⟩ : ∃ u1 u2, us = [u1, u2] ∧ RelV (V.ref d) u1 ∧ RelV (V.ref b) u2 := by
    cases r1 with
    | cons r rr =>
      cases rr with
      | cons r' rr =>
        cases rr
        exact ⟨_, _, rfl, r, r'⟩
  obtain rfl : u1 = Value.ref d := r1
  obtain rfl : u2 = Value.ref b := r2
  obtain ⟨hs', hgd, hx, es, ep, vs, hdt, hsz, kv, hmm⟩ := I1.frzK hd
  obtain ⟨its, rv, pt, _⟩ := I1.tuple hb
  have ld : d < s1.heap.objs.size := Heap.lt_size hgd
  have lb : b < s1.heap.objs.size := by obtain ⟨_, e, _⟩ := id pt; exact Heap.lt_size e
  refine zip_begins2 (begins_keys hs' hx hdt) (begins_tuple b its.toArray) hgd pt fun h' hz hTI hTO g1 g2 hsz' hk => wpAny_pyIter_zip hz ?_
  have I2 : Inv X pins σ H1 { s1 with heap := h' } := I1.kept (t' := s1.toks) hk
  refine ⟨s1.heap.objs.size + 4, [s1.heap.objs.size + 4, s1.heap.objs.size + 2, s1.heap.objs.size + 3, s1.heap.objs.size, s1.heap.objs.size + 1], _, _, H1, rfl, I2, turn_zipD (sep_zipD s1.heap.objs.size d b ld lb) hdt hl, ⟨hz, hTI, ⟨_, _, hTO⟩, ⟨_, g1, rfl, by rw [hsz]; rfl⟩, ⟨_, g2, rfl, rfl⟩⟩, fun c hcm => ?_, q⟩
  have hle : s1.heap.objs.size ≤ c := by
    simp only [List.mem_cons, List.not_mem_nil, or_false] at hcm
    rcases hcm with z | z | z | z | z <;> rw [z] <;> first | exact Nat.le_refl _ | exact Nat.le_add_right _ _
  exact I1.fpOk hle (I1.hok.fresh hle)
end Bg
set_option Elab.async false
set_option linter.all false
set_option maxRecDepth 100000
set_option maxHeartbeats 4000000
/-! values that are trees -/
namespace Bg
open PySem PySem.Spec PyProof.Rows L2
/-! data whose tuples begin with a text, if with anything -/
mutual
inductive Hd : PyData → Prop
  | bl (b : Bool) : Hd (.bool b)
  | int (i : Int) : Hd (.int i)
  | str (x : Str) : Hd (.str x)
  | nil : Hd (.tuple [])
  | cons (m : Str) {ds : List PyData} (h : HdAll ds) : Hd (.tuple (.str m :: ds))
inductive HdAll : List PyData → Prop
  | nil : HdAll []
  | cons {d : PyData} {ds : List PyData} (h : Hd d) (r : HdAll ds) : HdAll (d :: ds)
end
theorem HdAll.mem : ∀ {ds : List PyData}, HdAll ds → ∀ d ∈ ds, Hd d
  | _, .nil, d, h => by cases h
  | _, .cons a r, d, h => by
    rcases List.mem_cons.mp h with e | e
    · rw [e]; exact a
    · exact HdAll.mem r d e
theorem HdAll.of : ∀ {ds : List PyData}, (∀ d ∈ ds, Hd d) → HdAll ds
  | [], _ => .nil
  | d :: ds, h => .cons (h d (List.mem_cons_self ..)) (HdAll.of fun e he => h e (List.mem_cons_of_mem _ he))
def byteB : PyData → Bool
  | .int i => decide (0 ≤ i) && decide (i ≤ 255)
  | _ => false
def valB (f : Str → PyData → Bool) (k : Str) (d : PyData) : Bool := if k = ("byte" : Str) then byteB d else f k d
def allV (f : Str → PyData → Bool) : List Part → List PyData → Bool
  | [], [] => true
  | p :: ps, d :: ds => valB f p.2.1 d && allV f ps ds
  | _, _ => false
def rowAt (rs : List Row) (k m : Str) : Option Row := rs.find? fun r => decide (r.1 = k ∧ r.2.1 = m)
/-- a tree of the kind k of at most so many levels -/
def fitB (rs : List Row) : Nat → Str → PyData → Bool
  | 0, _, _ => false
  | n + 1, k, .tuple (.str m :: ds) => match rowAt rs k m with
    | some r => allV (fitB rs n) r.2.2 ds
    | none => false
  | _ + 1, _, _ => false
theorem rowAt_some {rs : List Row} (nd : (rmakers rs).Nodup) {r : Row} (h : r ∈ rs) : rowAt rs r.1 r.2.1 = some r := by
  unfold rowAt
  cases e : rs.find? (fun r' => decide (r'.1 = r.1 ∧ r'.2.1 = r.2.1)) with
  | none => exact absurd (decide_eq_true ⟨rfl, rfl⟩) (List.find?_eq_none.mp e r h)
  | some r' =>
    have z := of_decide_eq_true (List.find?_some (p := fun r' : Row => decide (r'.1 = r.1 ∧ r'.2.1 = r.2.1)) e)
    rw [row_unique nd (List.mem_of_find?_eq_some e) h z.2]
theorem rowAt_of {rs : List Row} {k m : Str} {r : Row} (h : rowAt rs k m = some r) : r ∈ rs ∧ r.1 = k ∧ r.2.1 = m := by
  unfold rowAt at h
  have z := of_decide_eq_true (List.find?_some (p := fun r' : Row => decide (r'.1 = k ∧ r'.2.1 = m)) h)
  exact ⟨List.mem_of_find?_eq_some h, z⟩
theorem mem_makersOf {rs : List Row} {k m : Str} : m ∈ makersOf rs k ↔ ∃ r ∈ rs, r.1 = k ∧ r.2.1 = m := by
  unfold makersOf
  rw [List.mem_map]
  constructor
  · rintro ⟨r, h, e⟩
    obtain ⟨h1, h2⟩ := List.mem_filter.mp h
    exact ⟨r, h1, of_decide_eq_true h2, e⟩
  · rintro ⟨r, h, e, e2⟩
    exact ⟨r, List.mem_filter.mpr ⟨h, decide_eq_true e⟩, e2⟩
theorem rowAt_none {rs : List Row} {k m : Str} (h : m ∉ makersOf rs k) : rowAt rs k m = none := by
  cases e : rowAt rs k m with
  | none => rfl
  | some r => exact absurd (mem_makersOf.mpr ⟨r, rowAt_of e⟩) h
theorem fitB_row {rs : List Row} (nd : (rmakers rs).Nodup) {r : Row} (h : r ∈ rs) (n : Nat) (ds : List PyData) : fitB rs (n + 1) r.1 (.tuple (.str r.2.1 :: ds)) = allV (fitB rs n) r.2.2 ds := by
  rw [fitB, rowAt_some nd h]
theorem fitB_out {rs : List Row} {k m : Str} (h : m ∉ makersOf rs k) (n : Nat) (ds : List PyData) : fitB rs n k (.tuple (.str m :: ds)) = false := by
  cases n with
  | zero => rfl
  | succ n => rw [fitB, rowAt_none h]
theorem allV_len {f : Str → PyData → Bool} : ∀ {ps : List Part} {ds : List PyData}, allV f ps ds = true → ds.length = ps.length
  | [], [], _ => rfl
  | [], _ :: _, h => by cases h
  | _ :: _, [], h => by cases h
  | p :: ps, d :: ds, h => by
    have h : (valB f p.2.1 d && allV f ps ds) = true := h
    rw [Bool.and_eq_true] at h
    rw [List.length_cons, List.length_cons, allV_len h.2]
theorem allV_no {f : Str → PyData → Bool} {ps : List Part} {ds : List PyData} (h : ¬ ds.length = ps.length) : allV f ps ds = false := by
  cases e : allV f ps ds with
  | false => rfl
  | true => exact absurd (allV_len e) h
theorem part_kind {ps : List Part} (h : partsB ps = true) {p : Part} (hp : p ∈ ps) : partB p = true := by
  unfold partsB at h
  simp only [Bool.and_eq_true] at h
  exact List.all_eq_true.mp h.2.1 p hp
/-- what a part holds, as the table says it -/
theorem hold_kind {ps : List Part} (h : partsB ps = true) {p : Part} (hp : p ∈ ps) : (holdOf p).1 = p.2.1 := by
  have := part_kind h hp
  obtain ⟨n, k, c⟩ := p
  cases c with
  | none =>
    rw [partB_n, Bool.and_eq_true] at this
    exact (of_decide_eq_true this.2).symm
  | some c => rfl
theorem fitB_nil (rs : List Row) (n : Nat) (k : Str) : fitB rs n k (.tuple []) = false := by cases n <;> rfl
theorem fitB_str (rs : List Row) (n : Nat) (k x : Str) : fitB rs n k (.str x) = false := by cases n <;> rfl
theorem fitB_int (rs : List Row) (n : Nat) (k : Str) (i : Int) : fitB rs n k (.int i) = false := by cases n <;> rfl
theorem fitB_bool (rs : List Row) (n : Nat) (k : Str) (b : Bool) : fitB rs n k (.bool b) = false := by cases n <;> rfl
theorem allV_drop {f : Str → PyData → Bool} {ps : List Part} {ds : List PyData} {i : Nat} {p : Part} {d : PyData} (hp : ps[i]? = some p) (hd : ds[i]? = some d) : allV f (ps.drop i) (ds.drop i) = (valB f p.2.1 d && allV f (ps.drop (i + 1)) (ds.drop (i + 1))) := by
  have l1 := (List.getElem?_eq_some_iff.mp hp)
  have l2 := (List.getElem?_eq_some_iff.mp hd)
  rw [List.drop_eq_getElem_cons l1.1, List.drop_eq_getElem_cons l2.1, l1.2, l2.2]
  rfl
theorem TdAll.get {H : Hp} : ∀ {vs : List V} {ds : List PyData}, TdAll H vs ds → ∀ {i : Nat} {v : V}, vs[i]? = some v → ∃ d, ds[i]? = some d ∧ Td H v d
  | _, _, .nil, i, v, h => by simp at h
  | _, _, .cons a r, 0, v, h => by
    simp at h; subst h; exact ⟨_, by simp, a⟩
  | _, _, .cons a r, i + 1, v, h => by
    simp at h
    obtain ⟨d, e, t⟩ := TdAll.get r h
    exact ⟨d, by simpa using e, t⟩
/-! ### the methods -/
section
variable {P : Program} {w : World} {K : PySem.W.Frag} {mg : Str → Option Value} {base : Heap} {fd : FuncData}
def spIsByte : Sp := fun vs H Q _ => ∃ (v : V) (d : PyData), vs = [v, .int 0, .int 255] ∧ Td H v d ∧ Q (.bl (byteB d)) H
theorem ok_is_byte (T : Tx K mg) (F : FnP K ("is_number", none) "is_number" "is_number" s_is_number fd) : FnOk P w K mg base CX0 1 (He.fAd K ("is_number", none)) fd ["value", "low", "high"] spIsByte := by
  refine F.ok sc_is_number (fun vs H Q E h => ?_) (fun cdv A outer s H vs Q E hr h => ?_)
  · obtain ⟨_, _, rfl, _⟩ := h; rfl
  obtain ⟨v, d, rfl, td, q⟩ := h
  refine ⟨_, PSs.nox (pss_one (ps_ret (pe_and (pe_callB call_isi (by rfl) T.n_isinstance (by decide +kernel) (pa_cons (pv 0) (pa_cons (pe_bltn (v := .ty "int") (by rfl) T.n_int (by decide +kernel) rfl) pa_nil)))
    (pe_and (pe_not (pe_callB call_isi (by rfl) T.n_isinstance (by decide +kernel) (pa_cons (pv 0) (pa_cons (pe_bltn (v := .ty "bool") (by rfl) T.n_bool (by decide +kernel) rfl) pa_nil))))
      (pe_one (pe_chain op_le op_le (pv 1) (pv 0) (pv 2))))))), ?_⟩
  cases td with
  | bl b =>
    refine ⟨_, rfl, .bl b, .ty "int", .type "bool", .type "int", true, rfl, ClsV.ty _, TyX.base (TyOf.bl b), kit_ty (by decide +kernel), _, rfl, iteT ?_⟩
    exact ⟨_, rfl, .bl b, .ty "bool", .type "bool", .type "bool", true, rfl, ClsV.ty _, TyX.base (TyOf.bl b), kit_ty (by decide +kernel), _, rfl, _, rfl, iteF q⟩
  | str x => exact ⟨_, rfl, .str x, .ty "int", .type "str", .type "int", false, rfl, ClsV.ty _, TyX.base (TyOf.str x), kit_ty (by decide +kernel), _, rfl, iteF q⟩
  | tup e h => exact ⟨_, rfl, .ref _, .ty "int", .type "tuple", .type "int", false, rfl, ClsV.ty _, TyX.base (TyOf.tup e), kit_ty (by decide +kernel), _, rfl, iteF q⟩
  | int i =>
    refine ⟨_, rfl, .int i, .ty "int", .type "int", .type "int", true, rfl, ClsV.ty _, TyX.base (TyOf.int i), kit_ty (by decide +kernel), _, rfl, iteT ?_⟩
    refine ⟨_, rfl, .int i, .ty "bool", .type "int", .type "bool", false, rfl, ClsV.ty _, TyX.base (TyOf.int i), kit_ty (by decide +kernel), _, rfl, _, rfl, iteT ?_⟩
    have eb : byteB (.int i) = (decide ((0 : Int) ≤ i) && decide (i ≤ 255)) := rfl
    rw [eb] at q
    refine ⟨_, rfl, _, rfl, _, _, rfl, rfl, _, rfl, ite2 (fun h1 => ?_) (fun h1 => ?_)⟩
    · rw [show decide ((0 : Int) ≤ i) = true from h1] at q
      exact ⟨_, rfl, _, _, rfl, rfl, q⟩
    · rw [show decide ((0 : Int) ≤ i) = false from Bool.eq_false_iff.mpr h1] at q; exact q
theorem call_lenFz {X : Cx} : CallR X (.builtin "len") rLenFz := by
  intro pins s σ H xs us Q I r h
  obtain ⟨a, kvs, rfl, ⟨o, ha⟩, q⟩ := h
  obtain ⟨u, rfl, ru⟩ := vals1 r
  cases ru
  exact d_len I (.inr ⟨o, ha⟩) fun t s' I' => ⟨.int kvs.length, H, I', ⟨t, rfl⟩, q⟩
def spTF (K : PySem.W.Frag) (n : Nat) : Sp := fun vs H Q _ => ∃ (x : Addr) (v : V) (k : Str) (rs : List Row) (d : PyData), vs = [.ref x, v, .str k, .int (n : Nat)] ∧ KindsF K H x rs ∧ ValidT rs ∧ k ∈ rkinds rs ∧ Td H v d ∧ Hd d ∧ ∀ H', Same H H' → Q (.bl (fitB rs n k d)) H'
def spVF (K : PySem.W.Frag) (n : Nat) : Sp := fun vs H Q _ => ∃ (x : Addr) (v : V) (k : Str) (rs : List Row) (d : PyData), vs = [.ref x, v, .str k, .int (n : Nat)] ∧ KindsF K H x rs ∧ ValidT rs ∧ (k = ("byte" : Str) ∨ k ∈ rkinds rs) ∧ Td H v d ∧ Hd d ∧ ∀ H', Same H H' → Q (.bl (valB (fitB rs n) k d)) H'
theorem ok_value_fits (T : Tx K mg) {n : Nat} {ft : FuncData} (G : FnOk P w K mg base CX0 (2 * n + 2) (He.fAd K ("Kinds", some "_tree_fits")) ft ["self", "tree", "kind", "levels"] (spTF K n)) (bG : Binds K ft ["self", "tree", "kind", "levels"] [])
    (F : FnP K ("Kinds", some "_value_fits") "_value_fits" "Kinds._value_fits" s_Kinds_value_fits fd) : FnOk P w K mg base CX0 (2 * n + 3) (He.fAd K ("Kinds", some "_value_fits")) fd ["self", "value", "inner", "levels"] (spVF K n) := by
  obtain ⟨f1, F1⟩ := T.F_is_number
  obtain ⟨tB, mB⟩ := T.c_BYTE
  refine F.ok (k := 2 * n + 2) sc_Kinds_value_fits (fun vs H Q E h => ?_) (fun cdv A outer s H vs Q E hr h => ?_)
  · obtain ⟨_, _, _, _, _, rfl, _⟩ := h; rfl
  obtain ⟨x, v, k, rs, d, rfl, hK, val, hk, td, hd, q⟩ := h
  refine ⟨_, PSs.nox (pss_cons (ps_if (pt_cmpR op_eq (pv 2) (pe_glob (v := .str "byte") (by rfl) mB ⟨_, rfl⟩) (nomark _)) (pss_one (ps_ret (pe_call (ok_is_byte T F1) (hr.mono (by omega)) (by rfl) T.g_is_number T.k_is_number (b_is_number F1) .nil pass0 (pa_cons (pv 1) (pa_cons pe_int (pa_cons pe_int pa_nil)))))) pss_nil)
    (pss_one (ps_ret (pe_meth (pv 0) T.cl_Kinds T.m_Kinds_tree_fits G hr bG .nil pass0 (pa_cons (pv 1) (pa_cons (pv 2) (pa_cons (pv 3) pa_nil))))))), ?_⟩
  refine ⟨_, rfl, rfl, _, rfl, ite2 (fun h1 => ?_) (fun h1 => ?_)⟩
  · have e : k = ("byte" : Str) := by simpa using h1
    have := q H (Same.refl _)
    unfold valB at this
    rw [if_pos e] at this
    exact ⟨_, rfl, v, d, rfl, td, this⟩
  · have e : ¬ k = ("byte" : Str) := by simpa using h1
    obtain ⟨dx, dm, dk, dp, dl, tn, to, h0, _⟩ := id hK
    refine ⟨_, rfl, x, dx, _, rfl, h0, kF_none (by decide +kernel), _, rfl, _, rfl, _, rfl, x, v, k, rs, d, rfl, hK, val, hk.resolve_left e, td, hd, fun H' s' => ?_⟩
    have := q H' s'
    unfold valB at this
    rw [if_neg e] at this
    exact this
theorem ok_tree_fits0 (T : Tx K mg) (F : FnP K ("Kinds", some "_tree_fits") "_tree_fits" "Kinds._tree_fits" s_Kinds_tree_fits fd) : FnOk P w K mg base CX0 2 (He.fAd K ("Kinds", some "_tree_fits")) fd ["self", "tree", "kind", "levels"] (spTF K 0) := by
  refine F.ok sc_Kinds_tree_fits (fun vs H Q E h => ?_) (fun cdv A outer s H vs Q E hr h => ?_)
  · obtain ⟨_, _, _, _, _, rfl, _⟩ := h; rfl
  obtain ⟨x, v, k, rs, d, rfl, hK, val, hk, td, hd, q⟩ := h
  refine ⟨_, PSs.nox (pss_cons (ps_if (PW.pt (pw_or (pt_cmpR op_eq (pv 3) pe_int (nomark _)) (pw_or (pt_not (pt_val (pe_callB call_isi (by rfl) T.n_isinstance (by decide +kernel) (pa_cons (pv 1) (pa_cons (pe_bltn (v := .ty "tuple") (by rfl) T.n_tuple (by decide +kernel) rfl) pa_nil)))))
      (pw_or1 (pt_cmpR op_eq (pe_callB call_len_seq (by rfl) T.n_len PySem.boot_len (pa_cons (pv 1) pa_nil)) pe_int (nomark _)))))) (pss_one (ps_ret pe_bl)) pss_nil) pss_never), ?_⟩
  refine ⟨_, rfl, rfl, _, rfl, iteT (iteT ?_)⟩
  exact q H (Same.refl _)
theorem ok_tree_fits1 (T : Tx K mg) {n : Nat} {fv : FuncData} (G : FnOk P w K mg base CX0 (2 * n + 3) (He.fAd K ("Kinds", some "_value_fits")) fv ["self", "value", "inner", "levels"] (spVF K n)) (bG : Binds K fv ["self", "value", "inner", "levels"] [])
    (F : FnP K ("Kinds", some "_tree_fits") "_tree_fits" "Kinds._tree_fits" s_Kinds_tree_fits fd) : FnOk P w K mg base CX0 (2 * n + 4) (He.fAd K ("Kinds", some "_tree_fits")) fd ["self", "tree", "kind", "levels"] (spTF K (n + 1)) := by
  refine F.ok (k := 2 * n + 3) sc_Kinds_tree_fits (fun vs H Q E h => ?_) (fun cdv A outer s H vs Q E hr h => ?_)
  · obtain ⟨_, _, _, _, _, rfl, _⟩ := h; rfl
  obtain ⟨x, v, k, rs, d, rfl, hK, val, hk, td, hd, q⟩ := h
  have hu := hu_of hr
  have nd := sc_Kinds_tree_fits.nd
  refine ⟨_, PSs.nox (pss_cons (ps_if (PW.pt (pw_or (pt_cmpR op_eq (pv 3) pe_int (nomark _)) (pw_or (pt_not (pt_val (pe_callB call_isi (by rfl) T.n_isinstance (by decide +kernel) (pa_cons (pv 1) (pa_cons (pe_bltn (v := .ty "tuple") (by rfl) T.n_tuple (by decide +kernel) rfl) pa_nil)))))
      (pw_or1 (pt_cmpR op_eq (pe_callB call_len_seq (by rfl) T.n_len PySem.boot_len (pa_cons (pv 1) pa_nil)) pe_int (nomark _)))))) (pss_one (ps_ret pe_bl)) pss_nil)
    (pss_cons (ps_if (pt_cmpR op_notIn_seq (pe_ix ix_tup (pv 1) pe_int (fun _ _ => rfl)) (pe_dget hu (pe_fld (pv 0) rfl) (pv 2) (fun _ _ => rfl)) (by rfl)) (pss_one (ps_ret pe_bl)) pss_nil)
    (pss_cons (ps_set (i := 4) nd rfl (.inl rfl) (pe_dget hu (pe_fld (pv 0) rfl) (pe_ix ix_tup (pv 1) pe_int (fun _ _ => rfl)) (fun _ _ => rfl)))
    (pss_cons (ps_if (pt_cmpR op_ne (pe_callB call_len_seq (by rfl) T.n_len PySem.boot_len (pa_cons (pv 1) pa_nil)) (pe_op op_add (pe_callB call_lenFz (by rfl) T.n_len PySem.boot_len (pa_cons (pv 4) pa_nil)) pe_int) (nomark _)) (pss_one (ps_ret pe_bl)) pss_nil)
    (pss_cons (ps_for PassesOwn.never rfl (pi_zipD (by rfl) T.n_zip (pa_cons (pv 4) (pa_cons (pe_slice sl_tupA (pv 1) (po_some pe_int) po_none) pa_nil))) (pg_tup rfl (pgs_cons (pg_name (i := 5) nd rfl (.inl rfl)) (pgs_cons (pg_name (i := 6) nd rfl (.inl rfl)) pgs_nil)))
      (pss_one (ps_if (pt_not (pt_val (pe_meth (pv 0) T.cl_Kinds T.m_Kinds_value_fits G hr bG .nil pass0 (pa_cons (pv 6) (pa_cons (pe_ix ix_tup (pe_dget hu (pv 4) (pv 5) (fun _ _ => rfl)) pe_int (fun _ _ => rfl)) (pa_cons (pe_op op_sub (pv 3) pe_int) pa_nil)))))) (pss_one (ps_ret pe_bl)) pss_nil)))
    (pss_one (ps_ret pe_bl))))))), ?_⟩
  have nz : decide (V.int (((n + 1 : Nat) : Int)) = V.int 0) = false := decide_eq_false fun e => by have := V.int.inj e; omega
  refine ⟨_, rfl, rfl, _, rfl, ?_⟩
  rw [nz]
  refine iteF ?_
  cases td with
  | bl b => exact ⟨_, rfl, .bl b, .ty "tuple", .type "bool", .type "tuple", false, rfl, ClsV.ty _, TyX.base (TyOf.bl b), kit_ty (by decide +kernel), _, rfl, iteT (iteT (by have := q H (Same.refl _); exact this))⟩
  | str b => exact ⟨_, rfl, .str b, .ty "tuple", .type "str", .type "tuple", false, rfl, ClsV.ty _, TyX.base (TyOf.str b), kit_ty (by decide +kernel), _, rfl, iteT (iteT (by have := q H (Same.refl _); exact this))⟩
  | int b => exact ⟨_, rfl, .int b, .ty "tuple", .type "int", .type "tuple", false, rfl, ClsV.ty _, TyX.base (TyOf.int b), kit_ty (by decide +kernel), _, rfl, iteT (iteT (by have := q H (Same.refl _); exact this))⟩
  | @tup a xs ds ha ta =>
    refine ⟨_, rfl, .ref a, .ty "tuple", .type "tuple", .type "tuple", true, rfl, ClsV.ty _, TyX.base (TyOf.tup ha), kit_ty (by decide +kernel), _, rfl, iteF ?_⟩
    refine ⟨_, rfl, a, _, rfl, .inr (SqT.of ha), rfl, _, rfl, ?_⟩
    cases hd with
    | nil =>
      cases ta with
      | nil =>
        rw [show decide (V.int ((([] : List V).length : Nat) : Int) = V.int 0) = true from decide_eq_true rfl]
        refine iteT ?_
        have := q H (Same.refl _)
        rw [fitB_nil] at this
        show Q (V.bl false) H
        exact this
    | @cons m ds hds =>
    cases ta with
    | @cons v0 vs0 _ _ t0 tr =>
    cases t0 with
    | str =>
    have nz2 : decide (V.int (((V.str m :: vs0).length : Nat) : Int) = V.int 0) = false := decide_eq_false fun e => by
      have := V.int.inj e
      rw [List.length_cons] at this; omega
    rw [nz2]
    refine iteF ?_
    obtain ⟨dx, dm, dk, dp, dl, tn, to, h0, mvs, kvs, pvs, lvs, ⟨h1, h2⟩, ⟨h3, h4⟩, ⟨h5, h6⟩, h7⟩ := id hK
    obtain ⟨mv, e1, t, o, rfl, ho, ht⟩ := KD.some h2 (mem_distinct.mpr hk)
    refine ⟨_, rfl, a, _, _, .str m, rfl, rfl, SqT.of ha, atI_nat (j := 0) rfl, _, rfl, x, CK K, dx, _, _, rfl, h0, T.cl_Kinds, T.na_Kinds_makers_, kF_makers, _, rfl, dm, _, rfl, (by rw [← e1]; exact h1.get (Sum.inr k)), t, _, rfl, .inr (sqT_frz ht), rfl, flat_str _, _, rfl, ?_⟩
    rw [inV_strs]
    by_cases hm : m ∈ makersOf rs k
    · rw [decide_eq_true hm]
      refine iteF ?_
      obtain ⟨r, hr', rfl, rfl⟩ := mem_makersOf.mp hm
      obtain ⟨d, hv, e2, hd', hh⟩ := parts_at h6 val hr'
      refine ⟨_, rfl, x, CK K, dx, _, _, rfl, h0, T.cl_Kinds, T.na_Kinds_parts_, kF_parts, _, rfl, a, _, _, .str r.2.1, rfl, rfl, SqT.of ha, atI_nat (j := 0) rfl, dp, _, rfl, (by rw [← e2]; exact h5.get (Sum.inr _)), ?_⟩
      have lh : hv.length = r.2.2.length := by rw [KD.length hh, List.length_map]
      have lv : vs0.length = ds.length := tr.length
      refine ⟨_, rfl, a, _, rfl, .inr (SqT.of ha), _, rfl, d, hv, rfl, hd', _, _, rfl, rfl, rfl, _, rfl, ?_⟩
      rw [show decide (V.int (((V.str r.2.1 :: vs0).length : Nat) : Int) = V.int ((hv.length : Nat) + 1)) = decide (ds.length = r.2.2.length) from by
        rw [List.length_cons, lv, lh]
        by_cases z : ds.length = r.2.2.length
        · rw [z, decide_eq_true rfl]; exact decide_eq_true rfl
        · rw [decide_eq_false z]; exact decide_eq_false fun w => z (by have := V.int.inj w; omega)]
      by_cases hl : ds.length = r.2.2.length
      · rw [decide_eq_true hl]
        refine iteF ?_
        have cut : cutV (V.str r.2.1 :: vs0) (some 1) none = vs0 := by
          have := cutV_drop (V.str r.2.1 :: vs0) 1
          simpa using this
        refine ⟨_, rfl, _, rfl, _, rfl, a, _, rfl, SqT.of ha, ?_, fun _ b hb => ?_⟩
        · intro z
          have z1 : HT.sIx (V.str r.2.1 :: vs0).length 0 (some ((1 : Nat) : Int)) = 0 := z.1
          rw [HT.sIx_nat, List.length_cons] at z1
          omega
        rw [cut]
        have s1 := same_new (o := .tup vs0) hb
        obtain ⟨od, hd1⟩ := id hd'
        refine ⟨d, od, hv, b, vs0, rfl, s1 _ _ hd1, SqT.of upd_same, by omega, for_it (walk_zipD (by omega)) (fun i σ H2 => (∃ v5 v6, σ = [some (.ref x), some (.ref a), some (.str r.1), some (.int ((n + 1 : Nat) : Int)), some (.ref d), v5, v6]) ∧ Same H H2 ∧ H2 b = some (.tup vs0) ∧
          allV (fitB rs n) r.2.2 ds = allV (fitB rs n) (r.2.2.drop i) (ds.drop i)) ⟨⟨_, _, rfl⟩, s1, upd_same, rfl⟩ (fun i σ H2 _ z => ⟨z.2.1 _ _ hd1, SqT.of z.2.2.1⟩) ?_ ?_⟩
        · rintro i y σ H2 H3 hi ⟨⟨v5, v6, rfl⟩, sm, hbb, ea⟩ ⟨T1, kk, xx, yy, rfl, hT, rfl, hkv, hy⟩
          obtain ⟨j, hj, ej⟩ := KD.at hh hkv
          cases (show kk = Sum.inr j from ej)
          obtain ⟨p, hp, rfl⟩ : ∃ p, r.2.2[i]? = some p ∧ p.1 = j := by
            rw [List.getElem?_map] at hj
            cases e : r.2.2[i]? with
            | none => rw [e] at hj; cases hj
            | some p => rw [e] at hj; exact ⟨p, rfl, Option.some.inj hj⟩
          obtain ⟨dd, hdd, tdd⟩ := tr.get hy
          have sm3 : Same H (upd H2 T1 (.tup [kV (Sum.inr p.1), yy])) := sm.trans (same_new hT)
          have hp' := List.mem_of_getElem? hp
          obtain ⟨v2, e3, p2, hp2, e4, t2, rfl, ht2⟩ := KD.some hh (List.mem_map.mpr ⟨p, hp', rfl⟩)
          cases part_unique (val.ndp hr') hp2 hp' e4
          refine ⟨T1, _, rfl, .inl (.inl upd_same), rfl, _, _, rfl, _, _, rfl, rfl, ?_⟩
          have hd3 : FzAt (upd H2 T1 (.tup [kV (Sum.inr p.1), yy])) d hv := hd'.mono (imms_of sm3)
          refine ⟨_, rfl, x, dx, _, rfl, sm3 _ _ h0, kF_none (by decide +kernel), _, rfl, _, rfl, _, rfl, d, _, rfl, (by rw [← e3]; exact hd3.get (Sum.inr p.1)), t2, _, _, _, rfl, rfl, SqT.of (sm3 _ _ ht2), atI_nat (j := 0) rfl, _, rfl, _, _, rfl, rfl, ?_⟩
          refine ⟨x, yy, (holdOf p).1, rs, dd, by show [V.ref x, yy, V.str (holdOf p).1, V.int (((n + 1 : Nat) : Int) - 1)] = _; rw [show ((n + 1 : Nat) : Int) - 1 = ((n : Nat) : Int) by omega], hK.same sm3, val, ?_, tdd.mono (tups_of sm3), hds.mem _ (List.mem_of_getElem? hdd), fun H4 s4 => ?_⟩
          · obtain ⟨pn, pk, pc⟩ := p
            have := part_kind (val.each.good r hr').2.2 hp'
            cases pc with
            | none => exact .inl rfl
            | some c => exact (val.inner r hr' _ hp').imp (fun z => z) fun z => z
          · have eh : valB (fitB rs n) (holdOf p).1 dd = valB (fitB rs n) p.2.1 dd := by rw [hold_kind (val.each.good r hr').2.2 hp']
            rw [eh]
            have ed := allV_drop (f := fitB rs n) hp hdd
            refine ⟨_, rfl, ?_⟩
            cases hv' : valB (fitB rs n) p.2.1 dd with
            | false =>
              refine iteT ?_
              have := q H4 (sm3.trans s4)
              rw [fitB_row val.nd hr', ea, ed, hv'] at this
              exact this
            | true =>
              refine iteF ⟨⟨_, _, rfl⟩, sm3.trans s4, s4 _ _ ((same_new hT) _ _ hbb), ?_⟩
              rw [ea, ed, hv', Bool.true_and]
        · rintro σ H2 ⟨⟨v5, v6, rfl⟩, sm, hbb, ea⟩
          have := q H2 sm
          rw [fitB_row val.nd hr', ea, lh, List.drop_length, List.drop_of_length_le (by omega)] at this
          exact this
      · rw [decide_eq_false hl]
        refine iteT ?_
        have := q H (Same.refl _)
        rw [fitB_row val.nd hr', allV_no hl] at this
        exact this
    · rw [decide_eq_false hm]
      refine iteT ?_
      have := q H (Same.refl _)
      rw [fitB_out hm] at this
      exact this
end
end Bg
set_option Elab.async false
set_option linter.all false
set_option maxRecDepth 100000
set_option maxHeartbeats 4000000
/-! readings of slices and of tuple + tuple -/
namespace Bg
open PySem PySem.Spec PyProof.Rows L2
section
variable {K : PySem.W.Frag} {H : Hp} {a b : Addr} {xs ys : List V} {Q : VK}
theorem slA_read {lo hi : Option Int} (h : H a = some (.tup xs)) (q : ∀ p H', Same H H' → H' p = some (.tup (cutV xs lo hi)) → Q (.ref p) H') : rSlA K (.ref a) lo hi H Q :=
  ⟨a, xs, rfl, SqT.of h, fun z => q a H (Same.refl _) (by
    have : cutV xs lo hi = xs := by unfold cutV; rw [z.1, z.2]; simp
    rw [this]; exact h), fun _ p hp => q p _ (same_new hp) upd_same⟩
theorem slN_read {σ : L2.St} {lo : Option Int} (h : H a = some (.tup xs)) (q : ∀ p H', Same H H' → H' p = some (.tup (cutV xs lo none)) → Q (.ref p) H') : tNoPart σ H (fun hi H3 => rSlA K (.ref a) lo hi H3 Q) := slA_read (hi := none) h q
theorem catA_read (ha : H a = some (.tup xs)) (hb : H b = some (.tup ys)) (l : xs.length + ys.length ≤ 100000) (q : ∀ p H', Same H H' → H' p = some (.tup (xs ++ ys)) → Q (.ref p) H') : rCatA K (.ref a) (.ref b) H Q :=
  ⟨a, b, xs, ys, rfl, rfl, SqT.of ha, SqT.of hb, sz_of l, fun z => q b H (Same.refl _) (by rw [z]; exact hb), fun _ z => q a H (Same.refl _) (by rw [z, List.append_nil]; exact ha), fun _ _ p hp => q p _ (same_new hp) upd_same⟩
theorem eqInt {i j : Int} : decide (V.int i = V.int j) = decide (i = j) := by simp
theorem eqStr {x y : Str} : decide (V.str x = V.str y) = decide (x = y) := by simp
theorem take_filter {α : Type} {l : List α} {i : Nat} {x : α} (h : l[i]? = some x) (f : α → Bool) : (l.take (i + 1)).filter f = (l.take i).filter f ++ (if f x = true then [x] else []) := by
  rw [take_succ_of h, List.filter_append]
  cases e : f x <;> simp [e]
theorem take_filter_len {α : Type} (l : List α) (i : Nat) (f : α → Bool) : ((l.take i).filter f).length ≤ l.length := by
  have h1 := List.length_filter_le f (l.take i)
  rw [List.length_take] at h1; omega
/-- a list of ints against [] -/
theorem cut_set (m : V) (ws : List V) (k : Nat) (v : V) (h : k < ws.length) : cutV (m :: ws) none (some ((k : Int) + 1)) ++ [v] ++ cutV (m :: ws) (some ((k : Int) + 2)) none = m :: ws.set k v := by
  have e1 : ((k : Int) + 1) = ((k + 1 : Nat) : Int) := by omega
  have e2 : ((k : Int) + 2) = ((k + 2 : Nat) : Int) := by omega
  rw [e1, e2, cutV_take, cutV_drop, List.set_eq_take_append_cons_drop, if_pos h]
  simp
end
end Bg
set_option Elab.async false
set_option linter.all false
set_option maxRecDepth 100000
set_option maxHeartbeats 4000000
/-! which parts a step may ask -/
namespace Bg
open PySem PySem.Spec PyProof.Rows L2
section
variable {P : Program} {w : World} {K : PySem.W.Frag} {mg : Str → Option Value} {base : Heap} {fd : FuncData}
def spAskB (K : PySem.W.Frag) : Sp := fun vs H Q _ => ∃ (x ad : Addr) (rs : List Row) (r : Row) (p : Str) (asked : List Str), vs = [.ref x, .str r.2.1, .str p, .ref ad] ∧ KindsF K H x rs ∧ ValidT rs ∧ r ∈ rs ∧ H ad = some (.tup (asked.map V.str)) ∧ ∀ H', Same H H' → Q (.bl (byteP r p && !decide (p ∈ asked))) H'
def spAskT (K : PySem.W.Frag) : Sp := fun vs H Q _ => ∃ (x ad : Addr) (rs : List Row) (r : Row) (p : Str) (asked : List Str), vs = [.ref x, .str r.2.1, .str p, .ref ad] ∧ KindsF K H x rs ∧ ValidT rs ∧ r ∈ rs ∧ H ad = some (.tup (asked.map V.str)) ∧ ∀ H', Same H H' → Q (.bl (treeP r p && !decide (p ∈ asked))) H'
theorem ok_asks_byte (T : Tx K mg) (F : FnP K ("asks_byte", none) "asks_byte" "asks_byte" s_asks_byte fd) : FnOk P w K mg base CX0 3 (He.fAd K ("asks_byte", none)) fd p_asks_byte (spAskB K) := by
  refine F.ok (k := 2) sc_asks_byte (fun vs H Q E h => ?_) (fun cdv A outer s H vs Q E hr h => ?_)
  · obtain ⟨_, _, _, _, _, _, rfl, _⟩ := h; rfl
  obtain ⟨x, ad, rs, r, p, asked, rfl, hK, val, hr', had, q⟩ := h
  obtain ⟨dx, dm, dk, dp, dl, tn, to, h0, _⟩ := id hK
  obtain ⟨f1, F1⟩ := T.F_Kinds_inner
  obtain ⟨f2, F2⟩ := T.F_Kinds_parts
  obtain ⟨t_BYTE, m_BYTE⟩ := T.c_BYTE
  have nd := sc_asks_byte.nd
  refine ⟨_, PSs.nox (pss_one (ps_ret (pe_and (pe_cmpR op_in_seq (pv 2) (pe_meth (pv 0) T.cl_Kinds T.m_Kinds_parts (okf_parts T F2) (hr.mono (by omega)) (b_Kinds_parts F2) .nil pass0 (pa_cons (pv 1) pa_nil)) (by rfl)) (pe_and (pe_cmpR op_notIn_seq (pv 2) (pv 3) (by rfl)) (pe_one (pe_cmpR op_eq (pe_meth (pv 0) T.cl_Kinds T.m_Kinds_inner (okf_inner T F1) (hr.mono (by omega)) (b_Kinds_inner F1) .nil pass0 (pa_cons (pv 1) (pa_cons (pv 2) pa_nil))) (pe_glob (v := .str "byte") (by rfl) m_BYTE ⟨_, rfl⟩) (nomark _))))))), ?_⟩
  refine ⟨_, rfl, _, rfl, x, dx, _, rfl, h0, kF_none (by decide +kernel), _, rfl, x, rs, r, rfl, hK, val, hr', fun v H1 s1 hv => ?_⟩
  obtain ⟨t, o, rfl, ho, ht⟩ := hv
  refine ⟨t, _, rfl, .inr (sqT_frz ht), rfl, flat_str _, ?_⟩
  rw [if_neg Bool.false_ne_true, inV_strs]
  by_cases hp : p ∈ r.2.2.map (·.1)
  rotate_left
  · rw [decide_eq_false hp]
    refine ⟨_, rfl, iteF ?_⟩
    have := q H1 s1
    rw [(askP_out hp).1] at this
    exact this
  rw [decide_eq_true hp]
  refine ⟨_, rfl, iteT ?_⟩
  refine ⟨_, rfl, _, rfl, ad, _, rfl, .inr (SqT.of (s1 _ _ had)), rfl, flat_str _, ?_⟩
  rw [if_pos rfl, inV_strs]
  obtain ⟨pt, hpt, ep⟩ := List.mem_map.mp hp
  have ep : pt.1 = p := ep
  subst ep
  have e1 := (askP (val.ndp hr') hpt).1
  have h01 := s1 _ _ h0
  cases hd : decide (pt.1 ∈ asked) with
  | true =>
    refine ⟨_, rfl, iteF ?_⟩
    have := q H1 s1
    rw [hd, Bool.not_true, Bool.and_false] at this
    exact this
  | false =>
    refine ⟨_, rfl, iteT ?_⟩
    refine ⟨_, rfl, x, dx, _, rfl, h01, kF_none (by decide +kernel), _, rfl, _, rfl, x, rs, r, pt, rfl, hK.same s1, val, hr', hpt, rfl, ?_⟩
    have := q H1 s1
    rw [hd, Bool.not_false, Bool.and_true, e1] at this
    rw [eqStr]
    exact this
theorem ok_asks_tree (T : Tx K mg) (F : FnP K ("asks_tree", none) "asks_tree" "asks_tree" s_asks_tree fd) : FnOk P w K mg base CX0 3 (He.fAd K ("asks_tree", none)) fd p_asks_tree (spAskT K) := by
  refine F.ok (k := 2) sc_asks_tree (fun vs H Q E h => ?_) (fun cdv A outer s H vs Q E hr h => ?_)
  · obtain ⟨_, _, _, _, _, _, rfl, _⟩ := h; rfl
  obtain ⟨x, ad, rs, r, p, asked, rfl, hK, val, hr', had, q⟩ := h
  obtain ⟨dx, dm, dk, dp, dl, tn, to, h0, _⟩ := id hK
  obtain ⟨f1, F1⟩ := T.F_Kinds_inner
  obtain ⟨f2, F2⟩ := T.F_Kinds_parts
  obtain ⟨t_BYTE, m_BYTE⟩ := T.c_BYTE
  have nd := sc_asks_tree.nd
  refine ⟨_, PSs.nox (pss_one (ps_ret (pe_and (pe_cmpR op_in_seq (pv 2) (pe_meth (pv 0) T.cl_Kinds T.m_Kinds_parts (okf_parts T F2) (hr.mono (by omega)) (b_Kinds_parts F2) .nil pass0 (pa_cons (pv 1) pa_nil)) (by rfl)) (pe_and (pe_cmpR op_notIn_seq (pv 2) (pv 3) (by rfl)) (pe_one (pe_cmpR op_ne (pe_meth (pv 0) T.cl_Kinds T.m_Kinds_inner (okf_inner T F1) (hr.mono (by omega)) (b_Kinds_inner F1) .nil pass0 (pa_cons (pv 1) (pa_cons (pv 2) pa_nil))) (pe_glob (v := .str "byte") (by rfl) m_BYTE ⟨_, rfl⟩) (nomark _))))))), ?_⟩
  refine ⟨_, rfl, _, rfl, x, dx, _, rfl, h0, kF_none (by decide +kernel), _, rfl, x, rs, r, rfl, hK, val, hr', fun v H1 s1 hv => ?_⟩
  obtain ⟨t, o, rfl, ho, ht⟩ := hv
  refine ⟨t, _, rfl, .inr (sqT_frz ht), rfl, flat_str _, ?_⟩
  rw [if_neg Bool.false_ne_true, inV_strs]
  by_cases hp : p ∈ r.2.2.map (·.1)
  rotate_left
  · rw [decide_eq_false hp]
    refine ⟨_, rfl, iteF ?_⟩
    have := q H1 s1
    rw [(askP_out hp).2] at this
    exact this
  rw [decide_eq_true hp]
  refine ⟨_, rfl, iteT ?_⟩
  refine ⟨_, rfl, _, rfl, ad, _, rfl, .inr (SqT.of (s1 _ _ had)), rfl, flat_str _, ?_⟩
  rw [if_pos rfl, inV_strs]
  obtain ⟨pt, hpt, ep⟩ := List.mem_map.mp hp
  have ep : pt.1 = p := ep
  subst ep
  have e1 := (askP (val.ndp hr') hpt).2
  have h01 := s1 _ _ h0
  cases hd : decide (pt.1 ∈ asked) with
  | true =>
    refine ⟨_, rfl, iteF ?_⟩
    have := q H1 s1
    rw [hd, Bool.not_true, Bool.and_false] at this
    exact this
  | false =>
    refine ⟨_, rfl, iteT ?_⟩
    refine ⟨_, rfl, x, dx, _, rfl, h01, kF_none (by decide +kernel), _, rfl, _, rfl, x, rs, r, pt, rfl, hK.same s1, val, hr', hpt, rfl, ?_⟩
    have := q H1 s1
    rw [hd, Bool.not_false, Bool.and_true, e1] at this
    rw [eqStr]
    exact this
end
end Bg
set_option Elab.async false
set_option linter.all false
set_option maxRecDepth 100000
set_option maxHeartbeats 4000000
/-! steps, branches, bodies: which are let -/
namespace Bg
open PySem PySem.Spec PyProof.Rows L2
section
variable {P : Program} {w : World} {K : PySem.W.Frag} {mg : Str → Option Value} {base : Heap} {fd : FuncData}
def spStep (K : PySem.W.Frag) : Sp := fun vs H Q _ => ∃ (x ad : Addr) (v : V) (rs : List Row) (r : Row) (asked : List Str) (s : Step), vs = [.ref x, .str r.2.1, v, .ref ad] ∧ KindsF K H x rs ∧ ValidT rs ∧ r ∈ rs ∧ H ad = some (.tup (asked.map V.str)) ∧ Td H v (stepD s) ∧ OddOkS s ∧ isBr s = false ∧ ∀ H', Same H H' → Q (.bl (stepB r asked s)) H'
theorem ok_is_step (T : Tx K mg) (F : FnP K ("is_step", none) "is_step" "is_step" s_is_step fd) : FnOk P w K mg base CX0 4 (He.fAd K ("is_step", none)) fd p_is_step (spStep K) := by
  refine F.ok (k := 3) sc_is_step (fun vs H Q E h => ?_) (fun cdv A outer s H vs Q E hr h => ?_)
  · obtain ⟨_, _, _, _, _, _, _, rfl, _⟩ := h; rfl
  obtain ⟨x, ad, v, rs, r, asked, s, rfl, hK, val, hr', had, td, od, nb, q⟩ := h
  obtain ⟨f1, F1⟩ := T.F_is_number
  obtain ⟨f2, F2⟩ := T.F_asks_byte
  obtain ⟨f3, F3⟩ := T.F_asks_tree
  obtain ⟨t_MOST_SAID, m_MOST_SAID⟩ := T.c_MOST_SAID
  have nd := sc_is_step.nd
  refine ⟨_, PSs.nox (pss_cons (ps_set (i := 4) nd rfl (.inl rfl) (pe_ix ix_tup (pv 2) pe_int (fun _ _ => rfl)))
    (pss_cons (ps_if (pt_cmpR op_eq (pv 4) pe_str (nomark _))
      (pss_one (ps_ret (pe_and (pe_cmpR op_eq (pe_callB call_len_seq (by rfl) T.n_len PySem.boot_len (pa_cons (pv 2) pa_nil)) pe_int (nomark _)) (pe_one (pe_call (ok_is_number T F1) (hr.mono (by omega)) (by rfl) T.g_is_number T.k_is_number (b_is_number F1) .nil pass0 (pa_cons (pe_ix ix_tup (pv 2) pe_int (fun _ _ => rfl)) (pa_cons pe_int (pa_cons (pe_glob (v := .int 1000) (by rfl) m_MOST_SAID ⟨_, rfl⟩) pa_nil))))))))
      pss_nil)
    (pss_cons (ps_if (pt_cmpR op_eq (pv 4) pe_str (nomark _))
      (pss_one (ps_ret (pe_and (pe_cmpR op_eq (pe_callB call_len_seq (by rfl) T.n_len PySem.boot_len (pa_cons (pv 2) pa_nil)) pe_int (nomark _)) (pe_one (pe_call (ok_asks_byte T F2) (hr.mono (by omega)) (by rfl) T.g_asks_byte T.k_asks_byte (b_asks_byte F2) .nil pass0 (pa_cons (pv 0) (pa_cons (pv 1) (pa_cons (pe_ix ix_tup (pv 2) pe_int (fun _ _ => rfl)) (pa_cons (pv 3) pa_nil)))))))))
      pss_nil)
    (pss_one (ps_ret (pe_and (pe_cmpR op_eq (pv 4) pe_str (nomark _)) (pe_and (pe_cmpR op_eq (pe_callB call_len_seq (by rfl) T.n_len PySem.boot_len (pa_cons (pv 2) pa_nil)) pe_int (nomark _)) (pe_one (pe_call (ok_asks_tree T F3) (hr.mono (by omega)) (by rfl) T.g_asks_tree T.k_asks_tree (b_asks_tree F3) .nil pass0 (pa_cons (pv 0) (pa_cons (pv 1) (pa_cons (pe_ix ix_tup (pv 2) pe_int (fun _ _ => rfl)) (pa_cons (pv 3) pa_nil))))))))))))), ?_⟩
  cases s with
  | br p c a b => cases nb
  | say n =>
    unfold stepD at td
    cases td with
    | @tup a xs _ ht ta =>
    cases ta with
    | cons t0 ta =>
    cases ta with
    | cons t1 ta =>
    cases ta
    cases t0; cases t1
    refine ⟨_, rfl, a, _, _, _, rfl, rfl, SqT.of ht, atI_nat (j := 0) rfl, ?_⟩
    refine ⟨_, rfl, rfl, _, rfl, iteTe (by decide +kernel) ?_⟩
    refine ⟨_, rfl, a, _, rfl, .inr (SqT.of ht), rfl, _, rfl, iteTe (decide_eq_true rfl) ?_⟩
    refine ⟨_, rfl, a, _, _, _, rfl, rfl, SqT.of ht, atI_nat (j := 1) rfl, n, 0, 1000, rfl, q _ (Same.refl _)⟩
  | read p =>
    unfold stepD at td
    cases td with
    | @tup a xs _ ht ta =>
    cases ta with
    | cons t0 ta =>
    cases ta with
    | cons t1 ta =>
    cases ta
    cases t0; cases t1
    refine ⟨_, rfl, a, _, _, _, rfl, rfl, SqT.of ht, atI_nat (j := 0) rfl, ?_⟩
    refine ⟨_, rfl, rfl, _, rfl, iteFe (by decide +kernel) ?_⟩
    refine ⟨_, rfl, rfl, _, rfl, iteTe (by decide +kernel) ?_⟩
    refine ⟨_, rfl, a, _, rfl, .inr (SqT.of ht), rfl, _, rfl, iteTe (decide_eq_true rfl) ?_⟩
    refine ⟨_, rfl, _, rfl, _, rfl, a, _, _, _, rfl, rfl, SqT.of ht, atI_nat (j := 1) rfl, _, rfl, x, ad, rs, r, p, asked, rfl, hK, val, hr', had, fun H' s' => q _ s'⟩
  | call f p =>
    unfold stepD at td
    cases td with
    | @tup a xs _ ht ta =>
    cases ta with
    | cons t0 ta =>
    cases ta with
    | cons t1 ta =>
    cases ta with
    | cons t2 ta =>
    cases ta
    cases t0; cases t1; cases t2
    refine ⟨_, rfl, a, _, _, _, rfl, rfl, SqT.of ht, atI_nat (j := 0) rfl, ?_⟩
    refine ⟨_, rfl, rfl, _, rfl, iteFe (by decide +kernel) ?_⟩
    refine ⟨_, rfl, rfl, _, rfl, iteFe (by decide +kernel) ?_⟩
    refine ⟨_, rfl, rfl, _, rfl, iteTe (by decide +kernel) ?_⟩
    refine ⟨_, rfl, a, _, rfl, .inr (SqT.of ht), rfl, _, rfl, iteTe (decide_eq_true rfl) ?_⟩
    refine ⟨_, rfl, _, rfl, _, rfl, a, _, _, _, rfl, rfl, SqT.of ht, atI_nat (j := 2) rfl, _, rfl, x, ad, rs, r, p, asked, rfl, hK, val, hr', had, fun H' s' => q _ s'⟩
  | odd wd xs0 =>
    unfold stepD at td
    obtain ⟨n1, n2, n3, n4⟩ := od
    cases td with
    | @tup a xs _ ht ta =>
    cases ta with
    | @cons _ vs _ _ t0 ta =>
    cases t0
    have lv := ta.length
    rw [List.length_map] at lv
    have q' := q H (Same.refl _)
    unfold stepB at q'
    have ne2 : ∀ {k : Nat}, xs0.length ≠ k → decide (V.int (((V.str wd :: vs).length : Nat) : Int) = V.int ((k + 1 : Nat) : Int)) = false := fun {k} h => decide_eq_false fun e => h (by
      have := V.int.inj e
      rw [List.length_cons] at this
      omega)
    refine ⟨_, rfl, a, _, _, _, rfl, rfl, SqT.of ht, atI_nat (j := 0) rfl, ?_⟩
    by_cases h1 : wd = ("say" : Str)
    · refine ⟨_, rfl, rfl, _, rfl, iteTe (by rw [eqStr]; exact decide_eq_true h1) ?_⟩
      exact ⟨_, rfl, a, _, rfl, .inr (SqT.of ht), rfl, _, rfl, iteFe (ne2 (n2 h1)) q'⟩
    refine ⟨_, rfl, rfl, _, rfl, iteFe (by rw [eqStr]; exact decide_eq_false h1) ?_⟩
    by_cases h2 : wd = ("read" : Str)
    · refine ⟨_, rfl, rfl, _, rfl, iteTe (by rw [eqStr]; exact decide_eq_true h2) ?_⟩
      exact ⟨_, rfl, a, _, rfl, .inr (SqT.of ht), rfl, _, rfl, iteFe (ne2 (n3 h2)) q'⟩
    refine ⟨_, rfl, rfl, _, rfl, iteFe (by rw [eqStr]; exact decide_eq_false h2) ?_⟩
    by_cases h3 : wd = ("call" : Str)
    · refine ⟨_, rfl, rfl, _, rfl, iteTe (by rw [eqStr]; exact decide_eq_true h3) ?_⟩
      exact ⟨_, rfl, a, _, rfl, .inr (SqT.of ht), rfl, _, rfl, iteFe (ne2 (n4 h3)) q'⟩
    exact ⟨_, rfl, rfl, _, rfl, iteFe (by rw [eqStr]; exact decide_eq_false h3) q'⟩
theorem cat_one {H : Hp} {ad t1 : Addr} {ks : List Str} {p : Str} {Q : VK} (had : H ad = some (.tup (ks.map V.str))) (h1 : H t1 = some (.tup [V.str p])) (l : ks.length ≤ 1000) (q : ∀ t H', Same H H' → H' t = some (.tup ((ks ++ [p]).map V.str)) → Q (.ref t) H') : rCatA K (.ref ad) (.ref t1) H Q :=
  catA_read had h1 (by rw [List.length_map]; simp; omega) fun t H' s h => q t H' s (by rw [h, List.map_append]; rfl)
def spBr (K : PySem.W.Frag) (n : Nat) : Sp := fun vs H Q _ => ∃ (x ad : Addr) (v : V) (rs : List Row) (r : Row) (asked : List Str) (s : Step), vs = [.ref x, .str r.2.1, v, .ref ad] ∧ KindsF K H x rs ∧ ValidT rs ∧ r ∈ rs ∧ H ad = some (.tup (asked.map V.str)) ∧ asked.length + 14 * n ≤ 812 ∧ Td H v (stepD s) ∧ OddOkS s ∧ isBr s = true ∧ sdep s ≤ n ∧ ∀ H', Same H H' → Q (.bl (stepB r asked s)) H'
def spBody (K : PySem.W.Frag) (n : Nat) : Sp := fun vs H Q _ => ∃ (x ad : Addr) (v : V) (rs : List Row) (r : Row) (asked : List Str) (b : Body), vs = [.ref x, .str r.2.1, v, .ref ad] ∧ KindsF K H x rs ∧ ValidT rs ∧ r ∈ rs ∧ H ad = some (.tup (asked.map V.str)) ∧ asked.length + 14 * n ≤ 800 ∧ Td H v (bodyD b) ∧ OddOk b ∧ bdep b ≤ n ∧ ∀ H', Same H H' → Q (.bl (bodyOk r asked b)) H'
theorem ok_br0 : FnOk P w K mg base CX0 1 (He.fAd K ("is_branch", none)) fd p_is_branch (spBr K 0) := by
  refine ⟨fun vs H Q E h => ?_, fun A outer s H args us vs Q E hr e0 hb r h => ?_⟩
  · obtain ⟨_, _, _, _, _, _, _, rfl, _⟩ := h; rfl
  · obtain ⟨_, _, _, _, _, _, st, _, _, _, _, _, _, _, _, b, d, _⟩ := h
    cases st <;> simp [isBr, sdep] at b d
theorem stepB_br {r : Row} {asked : List Str} {p : Str} {c : Int} {a b : List Step} : stepB r asked (.br p c a b) = (byteP r p && !decide (p ∈ asked) && decide (1 ≤ c) && decide (c ≤ 255) && bodyOk r (asked ++ [p]) a && bodyOk r (asked ++ [p]) b) := by
  rw [stepB]; rfl
theorem ok_br1 (T : Tx K mg) {n m : Nat} {fb : FuncData} (G : FnOk P w K mg base CX0 m (He.fAd K ("is_body", none)) fb p_is_body (spBody K n)) (Fb : FnP K ("is_body", none) "is_body" "is_body" s_is_body fb) (hm : 3 ≤ m) (F : FnP K ("is_branch", none) "is_branch" "is_branch" s_is_branch fd) : FnOk P w K mg base CX0 (m + 1) (He.fAd K ("is_branch", none)) fd p_is_branch (spBr K (n + 1)) := by
  refine F.ok (k := m) sc_is_branch (fun vs H Q E h => ?_) (fun cdv A outer s H vs Q E hr h => ?_)
  · obtain ⟨_, _, _, _, _, _, _, rfl, _⟩ := h; rfl
  obtain ⟨x, ad, v, rs, r, asked, s, rfl, hK, val, hr', had, lad, td, od, hb, sd, q⟩ := h
  cases s with
  | say n => cases hb
  | read p => cases hb
  | call f p => cases hb
  | odd wd xs => cases hb
  | br p c ba bb =>
  unfold stepD at td
  unfold OddOkS at od
  unfold sdep at sd
  cases td with
  | @tup a xs _ ht ta =>
  cases ta with
  | cons t0 ta =>
  cases ta with
  | cons t1 ta =>
  cases ta with
  | cons t2 ta =>
  cases ta with
  | cons ta1 ta =>
  cases ta with
  | cons ta2 ta =>
  cases ta
  cases t0; cases t1; cases t2
  obtain ⟨f1, F1⟩ := T.F_asks_byte
  obtain ⟨f2, F2⟩ := T.F_is_number
  obtain ⟨t_LEAST_BOUND, m_LEAST_BOUND⟩ := T.c_LEAST_BOUND
  obtain ⟨t_MOST_BOUND, m_MOST_BOUND⟩ := T.c_MOST_BOUND
  have nd := sc_is_branch.nd
  refine ⟨_, PSs.nox (pss_cons (ps_if (PW.pt (pw_or (pt_cmpR op_ne (pe_callB call_len_seq (by rfl) T.n_len PySem.boot_len (pa_cons (pv 2) pa_nil)) pe_int (nomark _)) (pw_or1 (pt_not (pt_val (pe_call (ok_asks_byte T F1) (hr.mono (by omega)) (by rfl) T.g_asks_byte T.k_asks_byte (b_asks_byte F1) .nil pass0 (pa_cons (pv 0) (pa_cons (pv 1) (pa_cons (pe_ix ix_tup (pv 2) pe_int (fun _ _ => rfl)) (pa_cons (pv 3) pa_nil))))))))))
      (pss_one (ps_ret pe_bl))
      pss_nil)
    (pss_cons (ps_if (pt_not (pt_val (pe_call (ok_is_number T F2) (hr.mono (by omega)) (by rfl) T.g_is_number T.k_is_number (b_is_number F2) .nil pass0 (pa_cons (pe_ix ix_tup (pv 2) pe_int (fun _ _ => rfl)) (pa_cons (pe_glob (v := .int 1) (by rfl) m_LEAST_BOUND ⟨_, rfl⟩) (pa_cons (pe_glob (v := .int 255) (by rfl) m_MOST_BOUND ⟨_, rfl⟩) pa_nil))))))
      (pss_one (ps_ret pe_bl))
      pss_nil)
    (pss_cons (ps_set (i := 4) nd rfl (.inl rfl) (pe_op op_catA (pv 3) (pe_tup (pa_cons (pe_ix ix_tup (pv 2) pe_int (fun _ _ => rfl)) pa_nil))))
    (pss_one (ps_ret (pe_and (pe_call G (hr.mono (by omega)) (by rfl) T.g_is_body T.k_is_body (b_is_body Fb) .nil pass0 (pa_cons (pv 0) (pa_cons (pv 1) (pa_cons (pe_ix ix_tup (pv 2) pe_int (fun _ _ => rfl)) (pa_cons (pv 4) pa_nil))))) (pe_one (pe_call G (hr.mono (by omega)) (by rfl) T.g_is_body T.k_is_body (b_is_body Fb) .nil pass0 (pa_cons (pv 0) (pa_cons (pv 1) (pa_cons (pe_ix ix_tup (pv 2) pe_int (fun _ _ => rfl)) (pa_cons (pv 4) pa_nil)))))))))))), ?_⟩
  have ne : (!decide (V.int (((5 : Nat) : Int)) = V.int 5)) = false := by decide
  refine ⟨_, rfl, a, _, rfl, .inr (SqT.of ht), rfl, _, rfl, iteFe ne ?_⟩
  refine ⟨_, rfl, _, rfl, _, rfl, a, _, _, _, rfl, rfl, SqT.of ht, atI_nat (j := 1) rfl, _, rfl, x, ad, rs, r, p, asked, rfl, hK, val, hr', had, fun H1 s1 => ⟨_, rfl, ?_⟩⟩
  rw [stepB_br] at q
  cases c1 : (byteP r p && !decide (p ∈ asked)) with
  | false =>
    rw [c1] at q
    exact iteT (q H1 s1)
  | true =>
  rw [c1] at q
  simp only [Bool.true_and] at q
  have ht1 := s1 _ _ ht
  refine iteF ⟨_, rfl, a, _, _, _, rfl, rfl, SqT.of ht1, atI_nat (j := 2) rfl, c, 1, 255, rfl, ⟨_, rfl, ?_⟩⟩
  cases c2 : (decide (1 ≤ c) && decide (c ≤ 255)) with
  | false =>
    rw [c2] at q
    exact iteT (q H1 s1)
  | true =>
  rw [c2] at q
  simp only [Bool.true_and] at q
  refine iteF ⟨_, rfl, _, rfl, a, _, _, _, rfl, rfl, SqT.of ht1, atI_nat (j := 1) rfl, by show 1 ≤ sizeLine; decide, fun t1 ht1' => ?_⟩
  have s2 := same_new (o := .tup [V.str p]) ht1'
  refine cat_one (s2 _ _ (s1 _ _ had)) upd_same (by omega) fun l2 H2 s3 hl2 => ?_
  have s12 := s1.trans (s2.trans s3)
  have ht2 := s12 _ _ ht
  refine ⟨_, rfl, _, rfl, _, rfl, a, _, _, _, rfl, rfl, SqT.of ht2, atI_nat (j := 3) rfl, _, rfl, x, l2, _, rs, r, asked ++ [p], ba, rfl, hK.same s12, val, hr', hl2, by rw [List.length_append]; simp; omega, ta1.mono (tups_of s12), od.1, by omega, fun H3 s4 => ?_⟩
  cases c3 : bodyOk r (asked ++ [p]) ba with
  | false =>
    rw [c3] at q
    exact ⟨_, rfl, iteF (q H3 (s12.trans s4))⟩
  | true =>
  rw [c3] at q
  simp only [Bool.true_and] at q
  have s14 := s12.trans s4
  exact ⟨_, rfl, iteT ⟨_, rfl, _, rfl, _, rfl, a, _, _, _, rfl, rfl, SqT.of (s4 _ _ ht2), atI_nat (j := 4) rfl, _, rfl, x, l2, _, rs, r, asked ++ [p], bb, rfl, hK.same s14, val, hr', s4 _ _ hl2, by rw [List.length_append]; simp; omega, ta2.mono (tups_of s14), od.2, by omega, fun H5 s5 => q H5 (s14.trans s5)⟩⟩
end
end Bg
set_option Elab.async false
set_option linter.all false
set_option maxRecDepth 100000
set_option maxHeartbeats 2000000
/-! enumerate over a tuple -/
namespace Bg
open PySem PySem.Spec PyProof.Rows L2
open AutoSeq1 (wpAny_loadPart')
theorem meets_enum_tup (l : Addr) (items : Array Value) (n : Nat) (dct : Option Addr) (sl : Array (Option Value)) :
    Meets (Builtin.«enumerate.__new__» ⟨[.type "enumerate", .ref l], []⟩) (fun _ R s => s.heap.get? l = some { cls := .type "tuple", dict := dct, data := .seq items n, slots := sl } ∧
      R (.ok (.ret (.ref (s.heap.push { cls := .type "tuple_iterator", data := .fields #[.ref l, .int 0 0] }).objs.size)))
        { s with heap := (s.heap.push { cls := .type "tuple_iterator", data := .fields #[.ref l, .int 0 0] }).push { cls := .type "enumerate", data := .fields #[.none, .bool false, .ref s.heap.objs.size, rawInt 0, .none, .none] } }) :=
  .of_wp fun prog w A R s h => by
    obtain ⟨hp, g, d, tk, os⟩ := s; obtain ⟨hl, h⟩ := h
    have hsub := sub_enumerate
    have hL : Heap.IsTuple (Shared.heap ⟨hp, g, d, tk, os⟩) l items := ⟨_, hl, rfl, n, rfl⟩
    wp_walk using wpAny_loadPart' hl
    refine wpAny_stack_any fun st => wpAny_pure ?_
    split
    · rename_i c _ _ _ _ _
      cases (c == Value.type "enumerate")
      · wp_walk using wpAny_loadPart' hl, wpAny_pyIter_tuple hL
        exact ⟨_, rfl, h⟩
      · wp_walk using wpAny_loadPart' hl, wpAny_pyIter_tuple hL
        exact ⟨_, rfl, h⟩
    · wp_walk using wpAny_loadPart' hl, wpAny_pyIter_tuple hL
      exact ⟨_, rfl, h⟩
theorem call_enum_tup {prog : Program} {w : World} {A : Around} {E : Value → Shared → Prop} {s : Shared} {l : Addr} {items : Array Value} {Q : Value → Shared → Prop} (hL : s.heap.IsTuple l items)
    (h : ∀ h', IsEnum h' (s.heap.objs.size + 1) s.heap.objs.size 0 .none → h'.IsTupleIter s.heap.objs.size l 0 → h'.objs.size = s.heap.objs.size + 2 →
      (∀ b o, s.heap.get? b = some o → h'.get? b = some o) → Q (.ref (s.heap.objs.size + 1)) { s with heap := h' }) :
    wpAny (model prog w) A (call (.type "enumerate") [.ref l]) Q E s := by
  obtain ⟨⟨c, dct, dt, sl⟩, hl, hc, n, hd⟩ := hL
  replace hc : c = .type "tuple" := hc
  replace hd : dt = .seq items n := hd
  subst hc hd
  refine callType_new F.called_enumerate (by decide) (F.typeCall_enumerate_1 _) (F.newCall_enumerate_1 _) (fun obj => F.args_object_init_2 obj _) F.entry_enumerate_new
    (meets_enum_tup l items n dct sl) ⟨hl, ?_⟩
  have hz : (s.heap.push { cls := .type "tuple_iterator", data := .fields #[.ref l, .int 0 0] }).objs.size = s.heap.objs.size + 1 := Heap.size_push ..
  show _ ∧ _
  rw [hz]
  have he : IsEnum ((s.heap.push { cls := .type "tuple_iterator", data := .fields #[.ref l, .int 0 0] }).push
      { cls := .type "enumerate", data := .fields #[.none, .bool false, .ref s.heap.objs.size, rawInt 0, .none, .none] }) (s.heap.objs.size + 1) s.heap.objs.size 0 .none := by
    have := Heap.get?_push_size (s.heap.push { cls := .type "tuple_iterator", data := .fields #[.ref l, .int 0 0] })
      (o := { cls := .type "enumerate", data := .fields #[.none, .bool false, .ref s.heap.objs.size, rawInt 0, .none, .none] }) rfl
    rw [hz] at this; exact this
  refine ⟨⟨_, he, rfl⟩, h _ he ⟨_, Heap.get?_push_of_some _ (Heap.get?_push_size _ rfl), rfl, rfl⟩ (by rw [Heap.size_push, hz]) fun b o x => Heap.get?_push_of_some _ (Heap.get?_push_of_some _ x)⟩
/-- the tuple at a, each item in a new pair -/
def Itet (K : PySem.W.Frag) (a : Addr) : It :=
  ⟨fun i H => ∃ (xs : List V) (x : V), SqT K H a xs ∧ xs[i]? = some x, fun i H v H' => ∃ T x, v = .ref T ∧ H T = none ∧ H' = upd H T (.tup [.int (i : Nat), x]) ∧ ∀ xs, SqT K H a xs → xs[i]? = some x, fun i H => ∃ xs : List V, SqT K H a xs ∧ xs.length ≤ i⟩
theorem next_enumT_end {prog : Program} {w : World} {A : Around} {E : Value → Shared → Prop} {s : Shared} {e it l : Addr} {i : Nat} {c : Int} {items : Array Value} {old : Value} {Q : Option Value → Shared → Prop} (hh : A.handled = none)
    (he : IsEnum s.heap e it c old) (hit : s.heap.IsTupleIter it l i) (hl : s.heap.IsTuple l items) (hx : items[i]? = none)
    (hQ : ∀ h', Heap.ExtBut it s.heap h' → Q none { s with heap := h' }) : wpAny (model prog w) A (pyNext (.ref e)) Q E s := by
  have hT : s.TypeIs (.ref e) "enumerate" := ⟨_, he, rfl⟩
  unfold pyNext
  refine wpAny_bind (wpAny_attempt (wpAny_callSpecial?_slot (name := Str.ofString "__next__") hT F.slot_enumerate_next
    (wpAny_call_entry F.slot_enumerate_next hT F.entry_enumerate_next ?_ (F.args_enumerate_next_1 _))))
  show wpAny _ _ (field (.ref e) 2 >>= _) _ _ _
  refine wpAny_bind (wpAny_field he rfl (x := .ref it) rfl ?_)
  refine wpAny_bind (wpAny_nextOf_tuple_end hh hit hl hx fun h' x he' hx' => ?_)
  obtain ⟨o, ho, hc⟩ := hx'
  refine wpAny_bind (wpAny_isInstance (T := "StopIteration") (b := true) ⟨o, ho, hc⟩ isSubtype_stop ?_)
  exact wpAny_pure (hQ _ he')
theorem turn_enumT {P : Program} {w : World} {K : PySem.W.Frag} {elts : List Expr} {kk : Nat} {tpos : Pos} (a e it : Addr) (hai : a ≠ it) (hae : a ≠ e) :
    Turn P w K (.Tuple elts kk tpos) (Itet K a) [e, it] e (fun i h => (∃ old, IsEnum h e it ((i : Nat) : Int) old) ∧ h.IsTupleIter it a i ∧ e ≠ it) where
  mem := by simp
  obj := fun i h st b hb => by
    obtain ⟨⟨old, he⟩, ⟨o, ho, hc, hd⟩, _⟩ := st
    have e' : b = e ∨ b = it := by simpa using hb
    rcases e' with z | z
    · rw [z]; exact ⟨_, he, fun v q => nomatch q⟩
    · rw [z]; exact ⟨o, ho, fun v q => by rw [hd] at q; cases q⟩
  keep := fun i h h' st k => let ⟨⟨old, he⟩, hi, hne⟩ := st; ⟨⟨old, k e (by simp) _ he⟩, hi.at fun o q => k it (by simp) o q, hne⟩
  item := by
    intro X hP hw hK hc i pins s σ H E I hf st hg
    subst hP hw hK
    obtain ⟨⟨old, he⟩, hit, hne⟩ := st
    obtain ⟨xs, x, hq, hx⟩ := hg
    obtain ⟨its, rv, p, hz⟩ := I.tuple hq
    obtain ⟨u, hu, ru⟩ := rv.get hx
    have hel : e < s.heap.objs.size := Heap.lt_size he
    have hil : it < s.heap.objs.size := by obtain ⟨_, q, _⟩ := hit; exact Heap.lt_size q
    have ltl : i < its.toArray.size := by have := (List.getElem?_eq_some_iff.mp hu).1; simpa using this
    refine wpAny_pyNext_enum_itemD (Draws.tuple (A := X.A.in1) (I.ok.hd hc) it a hai its.toArray) he ⟨hit, p⟩ ltl hne (by simp; exact ⟨hne, Ne.symm hae⟩) fun y h' tk hy ho hst' hT hsz hk => ?_
    have ey : y = u := by
      have h1 : its[i]? = some y := by simpa using hy
      rw [hu] at h1; exact (Option.some.inj h1).symm
    subst ey
    have hit' := hst'.1
    refine ⟨_, rfl, wpAny_letOwnedTupleGo_enum (s := { s with heap := h', toks := tk + 1 }) ho fun h'' he' sb => ?_⟩
    have hT2 : h''.get? s.heap.objs.size = some { cls := .type "tuple", data := .seq #[.int i tk, y] } := (sb.2 _ (Nat.ne_of_gt hel)).trans hT
    have new : ObjOk X.prog X.w (upd H s.heap.objs.size (.tup [.int (i : Nat), x])) h'' s.heap.objs.size (.tup [.int (i : Nat), x]) :=
      ⟨by show 2 ≤ sizeLine; decide, [.int i tk, y], .cons ⟨_, rfl⟩ (.cons ru .nil), ⟨_, hT2, rfl, _, rfl⟩⟩
    have I1 : Inv X pins σ (upd H s.heap.objs.size (.tup [.int (i : Nat), x])) { s with heap := h'', toks := tk + 1 } :=
      I.turnedNew (ch := [e, it]) (fun b ob hb q => (sb.2 b (fun z => hb (by simp [z]))).trans (hk b ob (fun z => hb (by simp [z])) (fun z => hb (by simp [z])) q)) hf (Nat.le_refl _) new
    refine ⟨.ref s.heap.objs.size, _, I1, rfl, ⟨_, x, rfl, I.hok.fresh (Nat.le_refl _), rfl, fun ys hy => by rw [I.tuple_inj hy hq]; exact hx⟩, ⟨⟨y, ?_⟩, hit'.at fun o q => (sb.2 it (Ne.symm hne)).trans q, hne⟩, fun b hb => ?_⟩
    · have e1 : ((i + 1 : Nat) : Int) = (i : Int) + 1 := by omega
      rw [e1]; exact he'
    · have hb' : b < s.heap.objs.size := by
        have e' : b = e ∨ b = it := by simpa using hb
        rcases e' with z | z
        · rw [z]; exact hel
        · rw [z]; exact hil
      rw [upd_ne (Nat.ne_of_lt hb')]
      exact (hf b hb).1
  done := by
    intro X hP hw hK hc i pins s σ H E I hf st hg
    subst hP hw hK
    obtain ⟨⟨old, he⟩, hit, hne⟩ := st
    obtain ⟨xs, hq, hx⟩ := hg
    obtain ⟨its, rv, p, hz⟩ := I.tuple hq
    obtain ⟨f0, f1, f2, f3, f4, f5⟩ := hf it (by simp)
    have hl := rv.length
    exact next_enumT_end (I.ok.hd hc) he hit p (by simp; omega) fun h' eb => ⟨rfl, I.turned (t' := s.toks) (fun b o hb q => eb b o hb q) f0 f1 f3 f4 f5⟩
  self := fun A i s Q E st h => let ⟨⟨_, he⟩, _⟩ := st; wpAny_pyIter_enum he h
def iEnumT (K : PySem.W.Frag) (ta : TA) : TI := fun σ H R => ta σ H fun vs H1 => ∃ a xs, vs = [.ref a] ∧ SqT K H1 a xs ∧ R (Itet K a) H1
theorem pi_enumT {X : Cx} {e : Expr} {ta : TA} {p pos tpos : Pos} {elts : List Expr} {kk : Nat} (hg : Gl X "enumerate") (hm : X.mg "enumerate" = none) (ha : PA X [e] ta) (hs : starEach [e] X.env = [(false, eval e X.env)] := by rfl) :
    PI X (.Tuple elts kk tpos) (.Call (.Name "enumerate" p) [e] [] pos) (iEnumT X.K ta) := by
  refine ⟨fun pins s σ H R I h => ?_⟩
  refine Call_ (ld_blt I hg hm boot_enumerate (PyProof.Rows.callWith_type1 (thn (ha.run pos pins s σ H _ I h) fun us s1 ⟨vs, H1, I1, r1, q1⟩ => ?_) hs rfl))
  obtain ⟨a, xs, ex, hq, q⟩ := q1
  subst ex
  cases r1 with
  | cons r rr =>
    cases rr
    cases r
    obtain ⟨its, rv, p', hz⟩ := I1.tuple hq
    have hal : a < s1.heap.objs.size := by obtain ⟨_, z, _⟩ := p'; exact Heap.lt_size z
    refine call_enum_tup (show s1.heap.IsTuple a its.toArray from p') fun h' he hit hsz hk => wpAny_pyIter_enum he ?_
    have I2 : Inv X pins σ H1 { s1 with heap := h' } := I1.kept (t' := s1.toks) hk
    refine ⟨s1.heap.objs.size + 1, [s1.heap.objs.size + 1, s1.heap.objs.size], _, _, H1, rfl, I2, turn_enumT a (s1.heap.objs.size + 1) s1.heap.objs.size (Nat.ne_of_lt hal) (Nat.ne_of_lt (Nat.lt_succ_of_lt hal)), ⟨⟨.none, he⟩, hit, Nat.succ_ne_self _⟩, fun b hb => ?_, q⟩
    have e' : b = s1.heap.objs.size + 1 ∨ b = s1.heap.objs.size := by simpa using hb
    have hle : s1.heap.objs.size ≤ b := by
      rcases e' with z | z
      · rw [z]; exact Nat.le_add_right _ _
      · rw [z]; exact Nat.le_refl _
    exact I1.fpOk hle (I1.hok.fresh hle)
theorem walk_enumT {K : PySem.W.Frag} {a : Addr} {xs : List V} : Walk (Itet K a) xs.length (fun H => SqT K H a xs) (YPair (fun i => some (.int (i : Nat))) (fun i => xs[i]?)) := by
  refine ⟨fun i _ hi q => ⟨xs, xs[i], q, by simp [hi]⟩, fun _ q => ⟨xs, q, Nat.le_refl _⟩, fun i H v H' _ q y => ?_⟩
  obtain ⟨T, x, h1, h2, h3, h4⟩ := y
  exact ⟨T, .int (i : Nat), x, h1, h2, h3, rfl, h4 xs q⟩
end Bg
set_option Elab.async false
set_option linter.all false
set_option maxRecDepth 100000
set_option maxHeartbeats 4000000
/-! bodies: which are let -/
namespace Bg
open PySem PySem.Spec PyProof.Rows L2
theorem TdAll.at_ {H : Hp} : ∀ {vs : List V} {ds : List PyData} {i : Nat} {v : V}, TdAll H vs ds → vs[i]? = some v → ∃ d, ds[i]? = some d ∧ Td H v d := fun h e => by
  obtain ⟨d, h1, h2⟩ := h.get e; exact ⟨d, h1, h2⟩
theorem step_word {H : Hp} {v : V} {s : Step} (h : Td H v (stepD s)) : ∃ a xs, v = .ref a ∧ H a = some (.tup (.str (wordOf s) :: xs)) := by
  cases s <;> unfold stepD at h <;> cases h with
  | @tup a xs _ ht ta =>
    cases ta with
    | cons t0 ta => cases t0; exact ⟨a, _, rfl, ht⟩
theorem word_br {s : Step} (od : OddOkS s) : decide (V.str (wordOf s) = V.str (Str.ofString "if")) = isBr s := by
  cases s with
  | odd wd xs => rw [eqStr]; exact decide_eq_false (by unfold OddOkS at od; exact od.1)
  | br p c a b => exact decide_eq_true rfl
  | say n => exact (by decide +kernel : decide (V.str (Str.ofString "say") = V.str (Str.ofString "if")) = false)
  | read p => exact (by decide +kernel : decide (V.str (Str.ofString "read") = V.str (Str.ofString "if")) = false)
  | call f p => exact (by decide +kernel : decide (V.str (Str.ofString "call") = V.str (Str.ofString "if")) = false)
theorem oddOk_get : ∀ {b : Body} {i : Nat} {s : Step}, OddOk b → b[i]? = some s → OddOkS s
  | s0 :: r, 0, s, h, e => by unfold OddOk at h; simp at e; exact e ▸ h.1
  | s0 :: r, i + 1, s, h, e => by unfold OddOk at h; exact oddOk_get h.2 (by simpa using e)
theorem bdep_get : ∀ {b : Body} {i : Nat} {s : Step}, b[i]? = some s → sdep s ≤ bdep b
  | s0 :: r, 0, s, e => by unfold bdep; simp at e; rw [e]; omega
  | s0 :: r, i + 1, s, e => by unfold bdep; have := bdep_get (b := r) (by simpa using e); omega
theorem bodyB_cons {r : Row} {asked : List Str} {s : Step} {l : List Step} : bodyB r asked (s :: l) = ((if isBr s = true then l.isEmpty else true) && stepB r asked s && bodyB r (asked ++ asksOf s) l) := by rw [bodyB]
section
variable {P : Program} {w : World} {K : PySem.W.Frag} {mg : Str → Option Value} {base : Heap} {fd : FuncData}
theorem ok_body1 (T : Tx K mg) {n m : Nat} {fb : FuncData} (G : FnOk P w K mg base CX0 m (He.fAd K ("is_branch", none)) fb p_is_branch (spBr K n)) (Fb : FnP K ("is_branch", none) "is_branch" "is_branch" s_is_branch fb) (hm : 4 ≤ m) (F : FnP K ("is_body", none) "is_body" "is_body" s_is_body fd) : FnOk P w K mg base CX0 (m + 1) (He.fAd K ("is_body", none)) fd p_is_body (spBody K n) := by
  refine F.ok (k := m) sc_is_body (fun vs H Q E h => ?_) (fun cdv A outer s H vs Q E hr h => ?_)
  · obtain ⟨_, _, _, _, _, _, _, rfl, _⟩ := h; rfl
  obtain ⟨x, ad, v, rs, r, asked, b, rfl, hK, val, hr', had, lad, td, od, bd, q⟩ := h
  cases td with
  | @tup a xs _ ht ta =>
  have lx : xs.length = b.length := by rw [ta.length, bodyDs_length]
  obtain ⟨f1, F1⟩ := T.F_is_step
  obtain ⟨t_MOST_STEPS, m_MOST_STEPS⟩ := T.c_MOST_STEPS
  have nd := sc_is_body.nd
  refine ⟨_, PSs.nox (pss_cons (ps_if (PW.pt (pw_or (pt_not (pt_val (pe_callB call_isi (by rfl) T.n_isinstance (by decide +kernel) (pa_cons (pv 2) (pa_cons (pe_bltn (v := .ty "tuple") (by rfl) T.n_tuple (by decide +kernel) rfl) pa_nil))))) (pw_or1 (pt_cmpR op_gt (pe_callB call_len_seq (by rfl) T.n_len PySem.boot_len (pa_cons (pv 2) pa_nil)) (pe_glob (v := .int 12) (by rfl) m_MOST_STEPS ⟨_, rfl⟩) (nomark _)))))
      (pss_one (ps_ret pe_bl))
      pss_nil)
    (pss_cons (ps_for PassesOwn.never rfl (pi_enumT (by rfl) T.n_enumerate (pa_cons (pv 2) pa_nil)) (pg_tup rfl (pgs_cons (pg_name (i := 4) nd rfl (Or.inl rfl)) (pgs_cons (pg_name (i := 5) nd rfl (Or.inl rfl)) pgs_nil)))
      (pss_cons (ps_if (pt_cmpR op_eq (pe_ix ix_tup (pv 5) pe_int (fun _ _ => rfl)) pe_str (nomark _))
        (pss_one (ps_ret (pe_and (pe_cmpR op_eq (pv 4) (pe_op op_sub (pe_callB call_len_seq (by rfl) T.n_len PySem.boot_len (pa_cons (pv 2) pa_nil)) pe_int) (nomark _)) (pe_one (pe_call G (hr.mono (by omega)) (by rfl) T.g_is_branch T.k_is_branch (b_is_branch Fb) .nil pass0 (pa_cons (pv 0) (pa_cons (pv 1) (pa_cons (pv 5) (pa_cons (pv 3) pa_nil)))))))))
        pss_nil)
      (pss_cons (ps_if (pt_not (pt_val (pe_call (ok_is_step T F1) (hr.mono (by omega)) (by rfl) T.g_is_step T.k_is_step (b_is_step F1) .nil pass0 (pa_cons (pv 0) (pa_cons (pv 1) (pa_cons (pv 5) (pa_cons (pv 3) pa_nil)))))))
        (pss_one (ps_ret pe_bl))
        pss_nil)
      (pss_one (ps_if (pt_cmpR op_ne (pe_ix ix_tup (pv 5) pe_int (fun _ _ => rfl)) pe_str (nomark _))
        (pss_one (ps_set (i := 3) nd rfl (.inl rfl) (pe_op op_catA (pv 3) (pe_tup (pa_cons (pe_ix ix_tup (pv 5) (pe_un un_neg pe_int) (fun _ _ => rfl)) pa_nil)))))
        pss_nil)))))
    (pss_one (ps_ret pe_bl)))), ?_⟩
  refine ⟨_, rfl, .ref a, .ty "tuple", .type "tuple", .type "tuple", true, rfl, ClsV.ty _, TyX.base (TyOf.tup ht), kit_ty (by decide +kernel), _, rfl, iteF ?_⟩
  refine ⟨_, rfl, a, _, rfl, .inr (SqT.of ht), _, _, rfl, rfl, _, rfl, ?_⟩
  unfold bodyOk at q
  by_cases hl : b.length ≤ 12
  rotate_left
  · refine iteTe (decide_eq_true (by omega)) ?_
    have := q H (Same.refl _)
    rw [decide_eq_false hl] at this
    exact this
  rw [decide_eq_true hl, Bool.true_and] at q
  refine iteFe (decide_eq_false (by omega)) ?_
  generalize htot : bodyB r asked b = tot at q
  refine ⟨_, rfl, a, xs, rfl, SqT.of ht, for_it (walk_enumT (K := K) (a := a) (xs := xs)) (fun i σ G => ∃ (ad2 : Addr) (asked2 : List Str) (v4 v5 : Option V), σ = [some (.ref x), some (.str r.2.1), some (.ref a), some (.ref ad2), v4, v5] ∧ Same H G ∧ G ad2 = some (.tup (asked2.map V.str)) ∧ asked2.length ≤ asked.length + i ∧ bodyB r asked2 (b.drop i) = tot)
    ⟨ad, asked, _, _, rfl, Same.refl _, had, by omega, htot⟩ (fun i σ G _ z => by obtain ⟨_, _, _, _, _, z, _⟩ := z; exact SqT.of (z _ _ ht)) ?_ ?_⟩
  · rintro i z σ G1 G2 hi ⟨ad2, asked2, v4, v5, rfl, sG, had2, lad2, etot⟩ ⟨tp, x1, x2, rfl, ntp, rfl, e1, e2⟩
    cases e1
    obtain ⟨d, hd, tdi⟩ := TdAll.at_ ta e2
    rw [bodyDs_get, Option.map_eq_some_iff] at hd
    obtain ⟨st, hst, rfl⟩ := hd
    have odi := oddOk_get od hst
    have bdi := bdep_get hst
    have s3 : Same H (upd G1 tp (.tup [.int (i : Nat), x2])) := sG.trans (same_new ntp)
    have sg3 := same_new (o := .tup [V.int (i : Nat), x2]) ntp
    obtain ⟨sa, sxs, rfl, hsa⟩ := step_word tdi
    have hsa3 := s3 _ _ hsa
    have drop : b.drop i = st :: b.drop (i + 1) := by
      have li := (List.getElem?_eq_some_iff.mp hst).1
      rw [List.drop_eq_getElem_cons li]
      congr 1
      rw [List.getElem?_eq_getElem li] at hst
      exact Option.some.inj hst
    have li := (List.getElem?_eq_some_iff.mp hst).1
    rw [drop, bodyB_cons] at etot
    refine ⟨tp, _, rfl, .inl (.inl upd_same), rfl, _, _, rfl, _, _, rfl, rfl, ?_⟩
    refine ⟨_, rfl, sa, _, _, _, rfl, rfl, SqT.of hsa3, atI_nat (j := 0) rfl, rfl, _, rfl, ?_⟩
    have wb := word_br odi
    have hK3 := hK.same s3
    have had3 := sg3 _ _ had2
    have td3 := tdi.mono (tups_of s3)
    cases hbr : isBr st with
    | true =>
      rw [hbr] at wb
      rw [hbr, if_pos rfl] at etot
      refine iteTe wb ?_
      refine ⟨_, rfl, _, rfl, a, _, rfl, .inr (SqT.of (s3 _ _ ht)), _, _, rfl, rfl, rfl, _, rfl, ?_⟩
      have hemp : (b.drop (i + 1)).isEmpty = decide (V.int (i : Nat) = V.int (((xs.length : Nat) : Int) - 1)) := by
        rw [eqInt]
        by_cases h : i + 1 = b.length
        · rw [h, List.drop_length, decide_eq_true (by omega)]; rfl
        · rw [decide_eq_false (by omega)]
          cases e : b.drop (i + 1) with
          | nil => have := congrArg List.length e; rw [List.length_drop] at this; simp at this; omega
          | cons _ _ => rfl
      rw [hemp] at etot
      cases hdec : decide (V.int (i : Nat) = V.int (((xs.length : Nat) : Int) - 1)) with
      | false =>
        rw [hdec] at etot
        rw [← etot] at q
        exact iteF (q _ s3)
      | true =>
      rw [hdec] at etot hemp
      have rest : b.drop (i + 1) = [] := List.isEmpty_iff.mp hemp
      rw [rest, show bodyB r (asked2 ++ asksOf st) [] = true by rw [bodyB], Bool.and_true, Bool.true_and] at etot
      exact iteT ⟨_, rfl, _, rfl, _, rfl, _, rfl, x, ad2, .ref sa, rs, r, asked2, st, rfl, hK3, val, hr', had3, by omega, td3, odi, hbr, by omega, fun H4 s4 => by rw [etot]; exact q H4 (s3.trans s4)⟩
    | false =>
      rw [hbr] at wb
      rw [hbr] at etot
      simp only [Bool.false_eq_true, if_false, Bool.true_and] at etot
      refine iteFe wb ?_
      refine ⟨_, rfl, _, rfl, _, rfl, _, rfl, x, ad2, .ref sa, rs, r, asked2, st, rfl, hK3, val, hr', had3, td3, odi, hbr, fun H4 s4 => ⟨_, rfl, ?_⟩⟩
      cases hsb : stepB r asked2 st with
      | false =>
        rw [hsb, Bool.false_and] at etot
        rw [← etot] at q
        exact iteT (q H4 (s3.trans s4))
      | true =>
      rw [hsb, Bool.true_and] at etot
      have s34 := s3.trans s4
      have hsa4 := s4 _ _ hsa3
      refine iteF ⟨_, rfl, sa, _, _, _, rfl, rfl, SqT.of hsa4, atI_nat (j := 0) rfl, rfl, _, rfl, ?_⟩
      have keep : asksOf st = [] → ∃ (ad2' : Addr) (asked2' : List Str) (v4 v5 : Option V), [some (V.ref x), some (.str r.2.1), some (.ref a), some (.ref ad2), some (V.int (i : Nat)), some (V.ref sa)] = [some (.ref x), some (.str r.2.1), some (.ref a), some (.ref ad2'), v4, v5] ∧ Same H H4 ∧ H4 ad2' = some (.tup (asked2'.map V.str)) ∧ asked2'.length ≤ asked.length + (i + 1) ∧ bodyB r asked2' (b.drop (i + 1)) = tot := fun e => by
        rw [e, List.append_nil] at etot
        exact ⟨ad2, asked2, _, _, rfl, s34, s4 _ _ had3, by omega, etot⟩
      have more : ∀ (p : Str) (t1 l2 : Addr) (H6 : Hp), asksOf st = [p] → Same H4 H6 → H6 l2 = some (.tup ((asked2 ++ [p]).map V.str)) → ∃ (ad2' : Addr) (asked2' : List Str) (v4 v5 : Option V), [some (V.ref x), some (.str r.2.1), some (.ref a), some (.ref l2), some (V.int (i : Nat)), some (V.ref sa)] = [some (.ref x), some (.str r.2.1), some (.ref a), some (.ref ad2'), v4, v5] ∧ Same H H6 ∧ H6 ad2' = some (.tup (asked2'.map V.str)) ∧ asked2'.length ≤ asked.length + (i + 1) ∧ bodyB r asked2' (b.drop (i + 1)) = tot := fun p t1 l2 H6 e s6 hl => by
        rw [e] at etot
        exact ⟨l2, asked2 ++ [p], _, _, rfl, s34.trans s6, hl, by rw [List.length_append]; simp; omega, etot⟩
      have td4 := tdi.mono (tups_of s34)
      cases st with
      | br p c ba bb => cases hbr
      | odd wd ws => rw [stepB] at hsb; cases hsb
      | say n => exact iteFe (by decide +kernel : (!decide (V.str (Str.ofString "say") = V.str (Str.ofString "say"))) = false) (keep rfl)
      | read p =>
        refine iteTe (by decide +kernel : (!decide (V.str (Str.ofString "read") = V.str (Str.ofString "say"))) = true) ?_
        unfold stepD at td4
        cases td4 with
        | @tup _ xs2 _ ht2 ta2 =>
        cases ta2 with
        | cons t0 ta2 =>
        cases ta2 with
        | cons t1 ta2 =>
        cases ta2
        cases t0; cases t1
        refine ⟨_, rfl, _, rfl, 1, rfl, sa, _, _, _, rfl, rfl, SqT.of ht2, rfl, by show 1 ≤ sizeLine; decide, fun t1 ht1' => ?_⟩
        have s5 := same_new (o := .tup [V.str p]) ht1'
        exact cat_one (s5 _ _ (s4 _ _ had3)) upd_same (by omega) fun l2 H6 s6 hl2 => more p t1 l2 H6 rfl (s5.trans s6) hl2
      | call f p =>
        refine iteTe (by decide +kernel : (!decide (V.str (Str.ofString "call") = V.str (Str.ofString "say"))) = true) ?_
        unfold stepD at td4
        cases td4 with
        | @tup _ xs2 _ ht2 ta2 =>
        cases ta2 with
        | cons t0 ta2 =>
        cases ta2 with
        | cons t1 ta2 =>
        cases ta2 with
        | cons t2 ta2 =>
        cases ta2
        cases t0; cases t1; cases t2
        refine ⟨_, rfl, _, rfl, 1, rfl, sa, _, _, _, rfl, rfl, SqT.of ht2, rfl, by show 1 ≤ sizeLine; decide, fun t1 ht1' => ?_⟩
        have s5 := same_new (o := .tup [V.str p]) ht1'
        exact cat_one (s5 _ _ (s4 _ _ had3)) upd_same (by omega) fun l2 H6 s6 hl2 => more p t1 l2 H6 rfl (s5.trans s6) hl2
  · rintro σ G ⟨ad2, asked2, v4, v5, rfl, sG, had2, lad2, etot⟩
    rw [lx, List.drop_length] at etot
    have : tot = true := by rw [← etot, bodyB]
    rw [this] at q
    exact q G sG
theorem okBody (T : Tx K mg) {fb : FuncData} (Fb : FnP K ("is_branch", none) "is_branch" "is_branch" s_is_branch fb) (F : FnP K ("is_body", none) "is_body" "is_body" s_is_body fd) : ∀ n, FnOk P w K mg base CX0 (2 * n + 5) (He.fAd K ("is_body", none)) fd p_is_body (spBody K n)
  | 0 => ok_body1 (m := 4) T (ok_br0.mono (by decide)) Fb (by decide) F
  | n + 1 => ok_body1 (m := 2 * n + 6) T (ok_br1 T (okBody T Fb F n) F (by omega) Fb) Fb (by omega) F
end
end Bg
set_option Elab.async false
set_option linter.all false
set_option maxRecDepth 100000
set_option maxHeartbeats 4000000
/-! the paths of a body -/
namespace Bg
open PySem PySem.Spec PyProof.Rows L2
def triD (t : Tri) : PyData := .tuple [.str t.1, .str t.2.1, .int t.2.2]
abbrev pathD (p : List Tri) : PyData := .tuple (p.map triD)
mutual
def swt : Step → Nat
  | .br _ _ a b => bwt a + bwt b + 1
  | _ => 1
def bwt : List Step → Nat
  | [] => 0
  | s :: r => swt s + bwt r
end
theorem triOf_len (s : Step) : (triOf s).length ≤ swt s := by
  cases s <;> simp [triOf, swt]
mutual
theorem pathsS_len : ∀ (s : Step) (asked : List Tri) (ps : List (List Tri)), pathsS asked s = some ps → ps.length ≤ sdep s + 1 ∧ ∀ p ∈ ps, p.length ≤ asked.length + swt s
  | .br x c a b, asked, ps, h => by
    rw [pathsS] at h
    cases h
    obtain ⟨l1, m1⟩ := pathsB_len a []
    obtain ⟨l2, m2⟩ := pathsB_len b []
    refine ⟨by rw [List.length_append, List.length_map, List.length_map, sdep]; omega, fun p hp => ?_⟩
    rw [swt]
    rcases List.mem_append.mp hp with z | z
    · obtain ⟨q, hq, rfl⟩ := List.mem_map.mp z
      have := m1 q hq
      simp only [List.length_append, List.length_cons, List.length_nil] at this ⊢
      omega
    · obtain ⟨q, hq, rfl⟩ := List.mem_map.mp z
      have := m2 q hq
      simp only [List.length_append, List.length_cons, List.length_nil] at this ⊢
      omega
  | .say n, asked, ps, h => by rw [pathsS] at h; cases h; intro _ _ _ _ z; cases z
  | .read p, asked, ps, h => by rw [pathsS] at h; cases h; intro _ _ _ _ z; cases z
  | .call f p, asked, ps, h => by rw [pathsS] at h; cases h; intro _ _ _ _ z; cases z
  | .odd w xs, asked, ps, h => by rw [pathsS] at h; cases h; intro _ _ _ _ z; cases z
theorem pathsB_len : ∀ (b : List Step) (asked : List Tri), (pathsB asked b).length ≤ bdep b + 1 ∧ ∀ p ∈ pathsB asked b, p.length ≤ asked.length + bwt b
  | [], asked => by
    rw [pathsB]
    exact ⟨by simp, fun p hp => by rw [List.mem_singleton.mp hp]; omega⟩
  | s :: l, asked => by
    rw [pathsB, bdep, bwt]
    cases e : pathsS asked s with
    | some ps =>
      obtain ⟨h1, h2⟩ := pathsS_len s asked ps e
      exact ⟨by dsimp only; omega, fun p hp => by have := h2 p hp; omega⟩
    | none =>
      obtain ⟨h1, h2⟩ := pathsB_len l (asked ++ triOf s)
      have := triOf_len s
      refine ⟨by dsimp only; omega, fun p hp => ?_⟩
      have h3 := h2 p hp
      rw [List.length_append] at h3
      omega
end
end Bg
set_option Elab.async false
set_option linter.all false
set_option maxRecDepth 100000
set_option maxHeartbeats 4000000
/-! drawn bodies: what they keep (for the law's own _law_body) -/
namespace Bg
open PySem PySem.Spec PyProof.Rows L2
/-- name, kind, fold -/
abbrev Head := Str × Str × Str
theorem byteP_mem {r : Row} {x : Str} (h : byteP r x = true) : ∃ q ∈ r.2.2, q.1 = x ∧ (holdOf q).1 = ("byte" : Str) := by
  obtain ⟨q, hq, e⟩ := List.any_eq_true.mp h
  rw [Bool.and_eq_true] at e
  exact ⟨q, hq, of_decide_eq_true e.1, of_decide_eq_true e.2⟩
mutual
def callsS (hs : List Head) (r : Row) : Step → Prop
  | .call f p => ∃ q ∈ r.2.2, q.1 = p ∧ ∃ h ∈ hs, h.1 = f ∧ h.2.1 = (holdOf q).1
  | .br _ _ a b => callsB hs r a ∧ callsB hs r b
  | _ => True
def callsB (hs : List Head) (r : Row) : List Step → Prop
  | [] => True
  | s :: l => callsS hs r s ∧ callsB hs r l
end
def TriOk (hs : List Head) (r : Row) (t : Tri) : Prop := ∃ q ∈ r.2.2, q.1 = t.1 ∧ ((holdOf q).1 = ("byte" : Str) ∨ ∃ h ∈ hs, h.1 = t.2.1 ∧ h.2.1 = (holdOf q).1)
mutual
theorem trisS {hs : List Head} {r : Row} : ∀ (s : Step) (as : List Str) (asked : List Tri), stepB r as s = true → callsS hs r s → (∀ t ∈ asked, TriOk hs r t) → (∀ ps, pathsS asked s = some ps → ∀ p ∈ ps, ∀ t ∈ p, TriOk hs r t) ∧ (pathsS asked s = none → ∀ t ∈ triOf s, TriOk hs r t)
  | .say n, as, asked, _, _, _ => by
    refine ⟨fun ps h => ?_, fun _ t ht => ?_⟩
    · rw [pathsS] at h
      · cases h
      · intro _ _ _ _ z; cases z
    · cases ht
  | .odd w xs, as, asked, hb, _, _ => by
    rw [stepB] at hb; cases hb
  | .read x, as, asked, hb, _, _ => by
    refine ⟨fun ps h => ?_, fun _ t ht => ?_⟩
    · rw [pathsS] at h
      · cases h
      · intro _ _ _ _ z; cases z
    · rw [stepB, Bool.and_eq_true] at hb
      obtain ⟨q, hq, e1, e2⟩ := byteP_mem hb.1
      rw [List.mem_singleton.mp ht]
      exact ⟨q, hq, e1, .inl e2⟩
  | .call f x, as, asked, _, hc, _ => by
    refine ⟨fun ps h => ?_, fun _ t ht => ?_⟩
    · rw [pathsS] at h
      · cases h
      · intro _ _ _ _ z; cases z
    · rw [callsS] at hc
      obtain ⟨q, hq, e1, h, hh, e2, e3⟩ := hc
      rw [List.mem_singleton.mp ht]
      exact ⟨q, hq, e1, .inr ⟨h, hh, e2, e3⟩⟩
  | .br x c a b, as, asked, hb, hc, ha => by
    rw [stepB] at hb
    simp only [Bool.and_eq_true] at hb
    obtain ⟨⟨⟨⟨⟨h1, _⟩, _⟩, _⟩, ⟨_, h2⟩⟩, ⟨_, h3⟩⟩ := hb
    rw [callsS] at hc
    obtain ⟨q, hq, e1, e2⟩ := byteP_mem h1
    have i1 := trisB a (as ++ [x]) [] h2 hc.1 (fun t ht => by cases ht)
    have i2 := trisB b (as ++ [x]) [] h3 hc.2 (fun t ht => by cases ht)
    refine ⟨fun ps h p hp t ht => ?_, fun h => by rw [pathsS] at h; cases h⟩
    rw [pathsS] at h
    cases h
    have own : ∀ (c : Int), TriOk hs r (x, ("" : Str), c) := fun c => ⟨q, hq, e1, .inl e2⟩
    rcases List.mem_append.mp hp with z | z
    · obtain ⟨p1, hp1, rfl⟩ := List.mem_map.mp z
      rcases List.mem_append.mp ht with y | y
      · rcases List.mem_append.mp y with u | u
        · exact ha t u
        · rw [List.mem_singleton.mp u]; exact own 0
      · exact i1 p1 hp1 t y
    · obtain ⟨p1, hp1, rfl⟩ := List.mem_map.mp z
      rcases List.mem_append.mp ht with y | y
      · rcases List.mem_append.mp y with u | u
        · exact ha t u
        · rw [List.mem_singleton.mp u]; exact own c
      · exact i2 p1 hp1 t y
theorem trisB {hs : List Head} {r : Row} : ∀ (b : List Step) (as : List Str) (asked : List Tri), bodyB r as b = true → callsB hs r b → (∀ t ∈ asked, TriOk hs r t) → ∀ p ∈ pathsB asked b, ∀ t ∈ p, TriOk hs r t
  | [], as, asked, _, _, ha => fun p hp t ht => by
    rw [pathsB] at hp
    rw [List.mem_singleton.mp hp] at ht
    exact ha t ht
  | s :: l, as, asked, hb, hc, ha => by
    rw [bodyB, Bool.and_eq_true, Bool.and_eq_true] at hb
    rw [callsB] at hc
    obtain ⟨h1, h2⟩ := trisS s as asked hb.1.2 hc.1 ha
    rw [pathsB]
    cases e : pathsS asked s with
    | some ps => exact h1 ps e
    | none =>
      exact trisB l (as ++ asksOf s) (asked ++ triOf s) hb.2 hc.2 fun t ht => by
        rcases List.mem_append.mp ht with z | z
        · exact ha t z
        · exact h2 e t z
end
/-- steps without a branch, then more -/
theorem bodyB_app {r : Row} : ∀ {sl : List Step} {as : List Str} {t : List Step}, (∀ s ∈ sl, isBr s = false) → bodyB r as (sl ++ t) = (bodyB r as sl && bodyB r (as ++ sl.flatMap asksOf) t)
  | [], as, t, _ => by simp [bodyB]
  | s :: sl, as, t, h => by
    rw [List.cons_append, bodyB, bodyB, h s (List.mem_cons_self ..), bodyB_app (fun x hx => h x (List.mem_cons_of_mem _ hx))]
    simp [Bool.and_assoc, List.append_assoc]
theorem bdep_app : ∀ (a b : List Step), bdep (a ++ b) = bdep a + bdep b
  | [], b => by simp [bdep]
  | s :: a, b => by rw [List.cons_append, bdep, bdep, bdep_app a b]; omega
theorem bwt_app : ∀ (a b : List Step), bwt (a ++ b) = bwt a + bwt b
  | [], b => by simp [bwt]
  | s :: a, b => by rw [List.cons_append, bwt, bwt, bwt_app a b]; omega
theorem oddOk_app : ∀ {a b : List Step}, OddOk a → OddOk b → OddOk (a ++ b)
  | [], b, _, h => h
  | s :: a, b, g, h => by
    rw [List.cons_append, OddOk]
    rw [OddOk] at g
    exact ⟨g.1, oddOk_app g.2 h⟩
theorem callsB_app {hs : List Head} {r : Row} : ∀ {a b : List Step}, callsB hs r a → callsB hs r b → callsB hs r (a ++ b)
  | [], b, _, h => h
  | s :: a, b, g, h => by
    rw [List.cons_append, callsB]
    rw [callsB] at g
    exact ⟨g.1, callsB_app g.2 h⟩
/-- steps without a branch: nothing nested -/
theorem flat_bdep : ∀ {a : List Step}, (∀ s ∈ a, isBr s = false) → bdep a = 0 ∧ bwt a = a.length
  | [], _ => by simp [bdep, bwt]
  | s :: a, h => by
    obtain ⟨i1, i2⟩ := flat_bdep (a := a) fun x hx => h x (List.mem_cons_of_mem _ hx)
    have hs := h s (List.mem_cons_self ..)
    rw [bdep, bwt, i1, i2, List.length_cons]
    cases s with
    | br p c x y => cases hs
    | say n => simp [sdep, swt]; omega
    | read p => simp [sdep, swt]; omega
    | call f p => simp [sdep, swt]; omega
    | odd w xs => simp [sdep, swt]; omega
theorem bodyDs_app : ∀ (a b : List Step), bodyDs (a ++ b) = bodyDs a ++ bodyDs b
  | [], b => by simp [bodyDs]
  | s :: a, b => by rw [List.cons_append, bodyDs, bodyDs, bodyDs_app a b]; rfl
end Bg
set_option Elab.async false
set_option linter.all false
set_option maxRecDepth 100000
set_option maxHeartbeats 4000000
/-! the bodies of a function: one for each maker of its kind -/
namespace Bg
open PySem PySem.Spec PyProof.Rows L2
abbrev FBod := List (Str × Body)
def bodyIn (bs : FBod) (m : Str) : Option Body := (bs.find? fun q => decide (q.1 = m)).map (·.2)
/-- on the heap: a dict of bodies -/
def BodiesAt (H : Hp) (d : Addr) (bs : FBod) : Prop := ∃ kvs, H d = some (.dK kvs) ∧ KD kvs (bs.map (·.1)) fun m v => ∃ b, bodyIn bs m = some b ∧ Td H v (bodyD b)
structure FBodOk (bs : FBod) : Prop where
  few : bs.length ≤ 1000
  odd : ∀ q ∈ bs, OddOk q.2
  dep : ∀ q ∈ bs, bdep q.2 ≤ 8
  wt : ∀ q ∈ bs, bwt q.2 ≤ 1000
  nd : (bs.map (·.1)).Nodup
def kindRows (rs : List Row) (k : Str) : List Row := rs.filter fun r => decide (r.1 = k)
def bodiesOk (rs : List Row) (k : Str) (bs : FBod) : Bool := decide (bs.length = (kindRows rs k).length) && (kindRows rs k).all fun r => match bodyIn bs r.2.1 with
  | some b => bodyOk r [] b
  | none => false
theorem BodiesAt.same {H H' : Hp} {d : Addr} {bs : FBod} (s : Same H H') (h : BodiesAt H d bs) : BodiesAt H' d bs := by
  obtain ⟨kvs, e, kd⟩ := h
  exact ⟨kvs, s _ _ e, kd.mono fun _ _ ⟨b, e1, z⟩ => ⟨b, e1, z.mono (tups_of s)⟩⟩
theorem bodyIn_mem {bs : FBod} {m : Str} {b : Body} (h : bodyIn bs m = some b) : ∃ q ∈ bs, q.1 = m ∧ q.2 = b := by
  unfold bodyIn at h
  rw [Option.map_eq_some_iff] at h
  obtain ⟨q, hq, e⟩ := h
  exact ⟨q, List.mem_of_find?_eq_some hq, of_decide_eq_true (List.find?_some (p := fun q : Str × Body => decide (q.1 = m)) hq), e⟩
theorem bodyIn_none {bs : FBod} {m : Str} (h : m ∉ bs.map (·.1)) : bodyIn bs m = none := by
  unfold bodyIn
  rw [List.find?_eq_none.mpr fun q hq => by simp only [decide_eq_true_eq]; exact fun e => h (e ▸ List.mem_map_of_mem hq)]; rfl
section
variable {P : Program} {w : World} {K : PySem.W.Frag} {mg : Str → Option Value} {base : Heap} {fd : FuncData}
def spAreB (K : PySem.W.Frag) : Sp := fun vs H Q _ => ∃ (x d : Addr) (k : Str) (rs : List Row) (bs : FBod), vs = [.ref x, .str k, .ref d] ∧ KindsF K H x rs ∧ ValidT rs ∧ k ∈ rkinds rs ∧ BodiesAt H d bs ∧ FBodOk bs ∧ ∀ H', Same H H' → Q (.bl (bodiesOk rs k bs)) H'
theorem ok_are_bodies (T : Tx K mg) (F : FnP K ("are_bodies", none) "are_bodies" "are_bodies" s_are_bodies fd) : FnOk P w K mg base CX0 23 (He.fAd K ("are_bodies", none)) fd p_are_bodies (spAreB K) := by
  obtain ⟨fb, Fb⟩ := T.F_is_branch
  obtain ⟨fy, Fy⟩ := T.F_is_body
  have G := okBody (P := P) (w := w) (mg := mg) (base := base) T Fb Fy 8
  refine F.ok (k := 22) sc_are_bodies (fun vs H Q E h => ?_) (fun cdv A outer s H vs Q E hr h => ?_)
  · obtain ⟨_, _, _, _, _, rfl, _⟩ := h; rfl
  obtain ⟨x, d, k, rs, bs, rfl, hK, val, hk, hB, ok, q⟩ := h
  have hu := hu_of hr
  obtain ⟨dx, dm, dk, dp, dl, tn, to, h0, _⟩ := id hK
  obtain ⟨kvs, hd, kd⟩ := id hB
  obtain ⟨f1, F1⟩ := T.F_Kinds_makers
  have nd := sc_are_bodies.nd
  refine ⟨_, PSs.nox (pss_cons (ps_set (i := 3) nd rfl (.inl rfl) (pe_meth (pv 0) T.cl_Kinds T.m_Kinds_makers (okf_makers T F1) (hr.mono (by omega)) (b_Kinds_makers F1) .nil pass0 (pa_cons (pv 1) pa_nil)))
    (pss_cons (ps_if (PW.pt (pw_or (pt_not (pt_val (pe_callB call_isi (by rfl) T.n_isinstance (by decide +kernel) (pa_cons (pv 2) (pa_cons (pe_bltn (v := .ty "dict") (by rfl) T.n_dict (by decide +kernel) rfl) pa_nil))))) (pw_or1 (pt_cmpR op_ne (pe_callB call_lenD (by rfl) T.n_len PySem.boot_len (pa_cons (pv 2) pa_nil)) (pe_callB call_len_seq (by rfl) T.n_len PySem.boot_len (pa_cons (pv 3) pa_nil)) (nomark _)))))
      (pss_one (ps_ret pe_bl))
      pss_nil)
    (pss_cons (ps_for PassesOwn.never rfl (pi_tup (pv 3)) (pg_name (i := 4) nd rfl (Or.inl rfl))
      (pss_one (ps_if (PW.pt (pw_or (pt_cmp (pc_dnotin hu (pv 4) (pv 2))) (pw_or1 (pt_not (pt_val (pe_call G (hr.mono (by omega)) (by rfl) T.g_is_body T.k_is_body (b_is_body Fy) .nil pass0 (pa_cons (pv 0) (pa_cons (pv 4) (pa_cons (pe_dget hu (pv 2) (pv 4) (fun _ _ => rfl)) (pa_cons (pe_tup pa_nil) pa_nil))))))))))
        (pss_one (ps_ret pe_bl))
        pss_nil)))
    (pss_one (ps_ret pe_bl))))), ?_⟩
  refine ⟨_, rfl, x, dx, _, rfl, h0, kF_none (by decide +kernel), _, rfl, x, k, rs, rfl, hK, hk, fun v hv => ?_⟩
  obtain ⟨t, o, rfl, ho, ht⟩ := hv
  refine ⟨_, rfl, .ref d, .ty "dict", .type "dict", .type "dict", true, rfl, ClsV.ty _, TyX.base (TyOf.dK hd), kit_ty (by decide +kernel), _, rfl, iteF ?_⟩
  refine ⟨_, rfl, d, _, rfl, hd, _, rfl, t, _, rfl, .inr (sqT_frz ht), rfl, _, rfl, ?_⟩
  have mk : makersOf rs k = (kindRows rs k).map fun r => r.2.1 := rfl
  have lk : kvs.length = bs.length := by rw [kd.length, List.length_map]
  have lm : ((makersOf rs k).map V.str).length = (kindRows rs k).length := by rw [List.length_map, mk, List.length_map]
  let good : Row → Bool := fun r => match bodyIn bs r.2.1 with
    | some b => bodyOk r [] b
    | none => false
  have eq0 : bodiesOk rs k bs = (decide (bs.length = (kindRows rs k).length) && (kindRows rs k).all good) := rfl
  rw [eq0] at q
  by_cases hl : bs.length = (kindRows rs k).length
  rotate_left
  · refine iteTe (by rw [eqInt, decide_eq_false (by omega)]; rfl) ?_
    have := q H (Same.refl _)
    rw [decide_eq_false hl, Bool.false_and] at this
    exact this
  rw [decide_eq_true hl, Bool.true_and] at q
  refine iteFe (by rw [eqInt, decide_eq_true (by omega)]; rfl) ?_
  refine ⟨_, rfl, t, rfl, ⟨_, sqT_frz ht⟩, for_it (walk_tup (K := K) (a := t) (xs := (makersOf rs k).map V.str)) (fun i σ G1 => (∃ v4, σ = [some (.ref x), some (.str k), some (.ref d), some (.ref t), v4]) ∧ Same H G1 ∧ ((kindRows rs k).take i).all good = true)
    ⟨⟨_, rfl⟩, Same.refl _, by simp⟩ (fun i σ G1 _ z => sqT_frz (z.2.1 _ _ ht)) ?_ ?_⟩
  · rintro i z σ G1 G2 hi ⟨⟨v4, rfl⟩, s1, hall⟩ ⟨rfl, hz⟩
    rw [List.getElem?_map, Option.map_eq_some_iff] at hz
    obtain ⟨m, hm, rfl⟩ := hz
    rw [mk, List.getElem?_map, Option.map_eq_some_iff] at hm
    obtain ⟨r, hr0, rfl⟩ := hm
    have hrm := List.mem_of_getElem? hr0
    obtain ⟨hr', ek⟩ := List.mem_filter.mp hrm
    have notall : good r = false → (kindRows rs k).all good = false := fun e => List.all_eq_false.mpr ⟨r, hrm, by rw [e]; exact Bool.false_ne_true⟩
    have hd1 := s1 _ _ hd
    refine ⟨_, rfl, _, rfl, d, _, rfl, DGet.k (k := Sum.inr r.2.1) hd1, _, rfl, ?_⟩
    cases e : valV kvs (Sum.inr r.2.1) with
    | none =>
      have n1 : r.2.1 ∉ bs.map (·.1) := fun z => by obtain ⟨v, e2, _⟩ := kd.some z; rw [e] at e2; cases e2
      have g0 : good r = false := by show (match bodyIn bs r.2.1 with | some b => bodyOk r [] b | none => false) = false; rw [bodyIn_none n1]
      have := q _ s1
      rw [notall g0] at this
      exact iteT this
    | some v =>
      obtain ⟨b, eb, tb⟩ := kd.2 _ _ e
      obtain ⟨qq, hqm, _, eq2⟩ := bodyIn_mem eb
      have od := ok.odd qq hqm
      have bd := ok.dep qq hqm
      rw [eq2] at od bd
      refine iteF ⟨_, rfl, _, rfl, _, rfl, _, rfl, d, _, rfl, (by rw [← e]; exact DGet.k (k := Sum.inr r.2.1) hd1), by show 0 ≤ sizeLine; decide, fun t0 ht0 => ?_⟩
      have s2 := same_new (o := .tup []) ht0
      have s12 := s1.trans s2
      have g1 : good r = bodyOk r [] b := by show (match bodyIn bs r.2.1 with | some b => bodyOk r [] b | none => false) = _; rw [eb]
      refine ⟨x, t0, v, rs, r, [], b, rfl, hK.same s12, val, hr', upd_same, by decide, tb.mono (tups_of s12), od, bd, fun H3 s3 => ⟨_, rfl, ?_⟩⟩
      cases c : bodyOk r [] b with
      | false =>
        have := q _ (s12.trans s3)
        rw [notall (g1.trans c)] at this
        exact iteT this
      | true =>
        refine iteF ⟨⟨_, rfl⟩, s12.trans s3, ?_⟩
        rw [take_succ_of hr0, List.all_append, hall]
        simp [g1, c]
  rintro σ G1 ⟨⟨v4, rfl⟩, s1, hall⟩
  rw [lm, List.take_length] at hall
  have := q G1 s1
  rw [hall] at this
  exact this
end
end Bg
set_option Elab.async false
set_option linter.all false
set_option maxRecDepth 100000
set_option maxHeartbeats 4000000
/-! the error BadFunctions -/
namespace Bg
open PySem PySem.Spec PyProof.Rows L2
def BF (K : PySem.W.Frag) : Addr := He.ga K "BadFunctions"
section
variable {P : Program} {w : World} {K : PySem.W.Frag} {mg : Str → Option Value} {base : Heap} {fd : FuncData}
theorem sl_bigF : 4000 ≤ sizeLine := by rw [sizeLine_eq]; decide
def spBFI (K : PySem.W.Frag) : Sp := fun vs H Q _ => ∃ (a : Addr) (i : Nat), vs = [.ref a, .int (i : Nat)] ∧ i ≤ 1000 ∧ H a = some (exo a (BF K) none) ∧ ∀ dx, H dx = none → dx ≠ a → Q .non (upd (upd H dx (exd dx [("row", .int (i : Nat))])) a (exo a (BF K) (some dx)))
theorem toString_lenF : ∀ i : Nat, i ≤ 1000 → (Str.ofString (toString ((i : Nat) : Int))).length ≤ 5 := by decide +kernel
theorem log_smallF {i : Nat} (h : i ≤ 1000) : ((i : Nat) : Int).natAbs.log2 < 1920 := by
  have : i.log2 ≤ i := Nat.log2_le_self i
  show i.log2 < 1920
  omega
theorem ok_bfi (T : Tx K mg) (F : FnP K ("BadFunctions", some "__init__") "__init__" "BadFunctions.__init__" s_BadFunctions_init fd) : FnOk P w K mg base CX0 1 (He.fAd K ("BadFunctions", some "__init__")) fd ["self", "row"] (spBFI K) := by
  refine F.ok sc_BadFunctions_init (fun vs H Q E h => ?_) (fun cdv A outer s H vs Q E hr h => ?_)
  · obtain ⟨a, y, rfl, _⟩ := h; rfl
  obtain ⟨a, i, rfl, ti, ha, q⟩ := h
  refine ⟨_, PSs.nox (pss_cons (ps_expr (pe_ginit T.gi (by rfl) T.g_GroveError (pa_cons (pv 0) (pa_cons (pe_joined (.cons pe_str (.cons (pe_fmt (pv 1)) (.cons pe_str .nil)))) pa_nil))))
    (pss_one (ps_ost (f := "row") (pv 0) (pv 1)))), ?_⟩
  have tl : (Str.empty ++ ("row " : Str)).length ≤ 4 := by decide +kernel
  have tl2 : (" of the function table is not valid" : Str).length ≤ 40 := by decide +kernel
  have tl3 := toString_lenF i ti
  have b := sl_bigF
  refine ⟨_, rfl, _, rfl, Nat.le_trans tl (by omega), _, rfl, .inr ⟨((i : Nat) : Int), rfl, log_smallF ti, _, rfl, ?_, _, rfl, ?_, a, BF K, [_], rfl, (by show 1 ≤ 1000; decide), T.x_BadFunctions.oex, ha, ?_⟩⟩
  · rw [Str.length_append]
    have : (toString ((i : Nat) : Int) : Str).length = (Str.ofString (toString ((i : Nat) : Int))).length := rfl
    omega
  · rw [Str.length_append, Str.length_append]
    have : (toString ((i : Nat) : Int) : Str).length = (Str.ofString (toString ((i : Nat) : Int))).length := rfl
    omega
  exact ⟨_, rfl, _, rfl, a, BF K, rfl, T.x_BadFunctions.oex, T.na_BadFunctions_row, .inl ⟨ha, fun dx hdx ne => q dx hdx ne⟩⟩
/-- the error BadFunctions with the row i leaves, its dict new -/
def RaisesBF (K : PySem.W.Frag) (H : Hp) (i : Nat) (E : XK) : Prop := ∀ dx H', Same H H' → H' dx = some (.xd [("row", .int (i : Nat))]) → E (.ref (BF K)) (some dx) H'
theorem RaisesBF.mono {H H1 : Hp} {i : Nat} {E : XK} (q : RaisesBF K H i E) (s : Same H H1) : RaisesBF K H1 i E := fun dx H' s' e => q dx H' (s.trans s') e
theorem raiseF_read {H : Hp} {i : Nat} {E : XK} (n1000 : i ≤ 1000) (q : RaisesBF K H i E) : ([V.int (i : Nat)] : List V).length ≤ 1000 ∧ ∀ a, H a = none → spBFI K (.ref a :: ([.int (i : Nat)] ++ [])) (upd H a (exo a (BF K) none))
    (fun v H2 => v = .non ∧ ∃ (d : Addr) (fs : List (Str × V)), H2 a = some (exo a (BF K) (some d)) ∧ H2 d = some (exd d fs) ∧ H d = none ∧ E (.ref (BF K)) (some d) (upd (L2.del H2 a) d (.xd fs))) (fun _ _ _ => False) := by
  refine ⟨by show 1 ≤ 1000; decide, fun a ha => ⟨a, i, rfl, n1000, upd_same, fun dx hdx ne => ⟨rfl, dx, [("row", .int (i : Nat))], upd_same, by rw [upd_ne ne]; exact upd_same, ?_, q dx _ (fun b o e => ?_) upd_same⟩⟩⟩
  · rw [upd_ne ne] at hdx; exact hdx
  · have n1 : b ≠ a := ne_of_none e ha
    have n2 : b ≠ dx := ne_of_none (by rw [upd_ne n1]; exact e) hdx
    rw [upd_ne n2, del_ne n1, upd_ne n1, upd_ne n2, upd_ne n1]; exact e
end
end Bg
set_option Elab.async false
set_option linter.all false
set_option maxRecDepth 100000
set_option maxHeartbeats 4000000
namespace Bg
open PySem PySem.Spec PyProof.Rows L2
/-! a kinds table just made: its dicts were not there before -/
theorem none_same {H H' : Hp} (s : Same H H') {b : Addr} (h : H' b = none) : H b = none := by
  cases e : H b with
  | none => rfl
  | some o => rw [s _ _ e] at h; cases h
theorem none_but {x : Addr} {H H' : Hp} (s : But x H H') {b : Addr} (n : b ≠ x) (h : H' b = none) : H b = none := by
  cases e : H b with
  | none => rfl
  | some o => rw [s _ _ n e] at h; cases h
def KindsNew (K : PySem.W.Frag) (H0 H : Hp) (x : Addr) (rs : List Row) : Prop := ∃ as, Dicts as H ∧ (∀ a ∈ as, H0 a = none) ∧ ∀ H', Told as H H' → KindsF K H' x rs
theorem told_new {K : PySem.W.Frag} {H0 H : Hp} {x dx dm dk dp dl tn to : Addr} {rs : List Row} {mvs kvs pvs lvs : List (Key × V)} (h0 : H x = some (.ins (CK K) dx (kF6 dm dk dp dl tn to))) (h1 : H dm = some (.dK mvs)) (h2 : MkD H mvs rs) (h3 : H dk = some (.dK kvs)) (h4 : KindD kvs rs)
    (h5 : H dp = some (.dK pvs)) (h6 : PartsD H pvs rs) (h7 : H dl = some (.dK lvs)) (h8 : LeastT H lvs rs) (h9 : TextsAt H (.ref tn) (distinct (rkinds rs))) (h10 : TextsAt H (.ref to) (distinct (rmakers rs)))
    (n1 : H0 dm = none) (n3 : H0 dk = none) (n5 : H0 dp = none) (n7 : H0 dl = none) (n6 : KD pvs (distinct (rmakers rs)) fun _ v => ∀ d, v = .ref d → H0 d = none) : KindsNew K H0 H x rs := by
  have nd : (pvs.map (·.1)).Nodup := by
    rw [h6.1]
    exact nodup_inr (nodup_distinct _)
  have inn : ∀ d ∈ refsOf pvs, (∃ hv, H d = some (.dK hv)) ∧ H0 d = none := by
    intro d hd
    obtain ⟨⟨k, v⟩, hm, e⟩ := List.mem_filterMap.mp hd
    obtain ⟨i, hi⟩ := List.getElem?_of_mem hm
    obtain ⟨j, hj, ej⟩ := KD.at h6 hi
    cases ej
    obtain ⟨r, _, _, d', hv, e2, hd', _⟩ := h6.2 j v (valV_of_mem nd hm)
    have := n6.2 j v (valV_of_mem nd hm) d' e2
    subst e2
    cases e
    exact ⟨⟨hv, hd'⟩, this⟩
  have d : Dicts (dm :: dk :: dp :: dl :: refsOf pvs) H := by
    intro a ha
    simp only [List.mem_cons] at ha
    rcases ha with e | e | e | e | e
    · rw [e]; exact ⟨_, h1⟩
    · rw [e]; exact ⟨_, h3⟩
    · rw [e]; exact ⟨_, h5⟩
    · rw [e]; exact ⟨_, h7⟩
    · exact (inn a e).1
  refine ⟨dm :: dk :: dp :: dl :: refsOf pvs, d, ?_, fun H' t => ?_⟩
  · intro a ha
    simp only [List.mem_cons] at ha
    rcases ha with e | e | e | e | e
    · rw [e]; exact n1
    · rw [e]; exact n3
    · rw [e]; exact n5
    · rw [e]; exact n7
    · exact (inn a e).2
  have im := t.imms d
  refine ⟨dx, dm, dk, dp, dl, tn, to, t.still d (by intro _ z; cases z) h0, mvs, kvs, pvs, lvs, ⟨t.at_ _ (by simp) _ h1, h2.mono im.tups⟩, ⟨t.at_ _ (by simp) _ h3, h4⟩, ⟨t.at_ _ (by simp) _ h5, ?_⟩, ⟨t.at_ _ (by simp) _ h7, h8.mono im.tups⟩, h9.mono im.tups, h10.mono im.tups⟩
  refine ⟨h6.1, fun k v e => ?_⟩
  obtain ⟨r, hr, e1, d', hv, e2, hd', hh⟩ := h6.2 k v e
  subst e2
  exact ⟨r, hr, e1, d', hv, rfl, t.at_ d' (by simp [mem_refsOf (mem_of_valV e)]) _ hd', hh.mono im.tups⟩
section
variable {P : Program} {w : World} {K : PySem.W.Frag} {mg : Str → Option Value} {base : Heap} {fd : FuncData}
def spInitN (K : PySem.W.Frag) : Sp := fun vs H Q _ => ∃ (x dx a : Addr) (rs : List Row), vs = [.ref x, .ref a] ∧ H x = some (.ins (CK K) dx []) ∧ RowsAt H a rs ∧ ValidT rs ∧ ∀ H', But x H H' → KindsNew K H H' x rs → Q .non H'
theorem ok_initN (T : Tx K mg) (F : FnP K ("Kinds", some "__init__") "__init__" "Kinds.__init__" s_Kinds_init fd) : FnOk P w K mg base CX0 6 (He.fAd K ("Kinds", some "__init__")) fd ["self", "rows"] (spInitN K) := by
  obtain ⟨f1, F1⟩ := T.F_check_each_row_kinds
  obtain ⟨f2, F2⟩ := T.F_check_inner_kinds
  obtain ⟨f3, F3⟩ := T.F_least_trees
  obtain ⟨f4, F4⟩ := T.F_check_finite
  obtain ⟨f5, F5⟩ := T.F_makers_by_kind
  obtain ⟨f6, F6⟩ := T.F_holdings
  refine F.ok sc_Kinds_init (fun vs H Q E h => ?_) (fun cdv A outer s H vs Q E hr h => ?_)
  · obtain ⟨x, _, _, _, rfl, _⟩ := h; rfl
  obtain ⟨x, dx, a, rs, rfl, hx, hra, val, q⟩ := h
  obtain ⟨us, ha, al⟩ := id hra
  have hu := hu_of hr
  have nd := sc_Kinds_init.nd
  have cl := T.cl_Kinds
  refine ⟨_, PSs.nox (pss_cons (ps_if (pt_cmpR op_eq (pe_callB call_len_seq (by rfl) T.n_len PySem.boot_len (pa_cons (pv 1) pa_nil)) pe_int (nomark _)) (pss_one ps_never) pss_nil)
    (pss_cons (ps_expr (pe_call (ok_check_each_row T F1) hr (by rfl) T.g_check_each_row_kinds T.k_check_each_row_kinds (b_check_each_row_kinds F1) .nil pass0 (pa_cons (pv 1) pa_nil)))
    (pss_cons (ps_expr (pe_call (ok_check_inner_kinds T F2) (hr.mono (by decide)) (by rfl) T.g_check_inner_kinds T.k_check_inner_kinds (b_check_inner_kinds F2) .nil pass0 (pa_cons (pv 1) pa_nil)))
    (pss_cons (ps_set (i := 2) nd rfl (Or.inr rfl) (pe_call (ok_least_trees T F3) (hr.mono (by decide)) (by rfl) T.g_least_trees T.k_least_trees (b_least_trees F3) .nil pass0 (pa_cons (pv 1) pa_nil)))
    (pss_cons (ps_expr (pe_call (ok_check_finite T F4) (hr.mono (by decide)) (by rfl) T.g_check_finite T.k_check_finite (b_check_finite F4) .nil pass0 (pa_cons (pv 1) (pa_cons (pv 2) pa_nil))))
    (pss_cons (ps_fld (pv 0) (pe_call (ok_makers_by_kind T F5) (hr.mono (by decide)) (by rfl) T.g_makers_by_kind T.k_makers_by_kind (b_makers_by_kind F5) .nil pass0 (pa_cons (pv 1) pa_nil)) rfl)
    (pss_cons (ps_fld (pv 0) (pe_dc (own := [("kind", 3), ("maker", 4), ("parts", 5)]) (g := gRow K 3 4 5) rfl nd (pi_list (pv 1)) (blkOk_by (N := ["self", "rows", "least", "kind", "maker", "parts"]) (sc := defScope s_Kinds_init) (by decide +kernel))
      (fun _ _ _ _ _ => pg_tup rfl (pgs_cons (pg_name (i := 3) nd rfl (Or.inl rfl)) (pgs_cons (pg_name (i := 4) nd rfl (Or.inl rfl)) (pgs_cons (pg_name (i := 5) nd rfl (Or.inl rfl)) pgs_nil)))) (fun _ _ _ _ _ => pts_nil) (fun _ _ _ _ _ => pv 4) (fun _ _ _ _ _ => pv 3)) rfl)
    (pss_cons (ps_fld (pv 0) (pe_dc (own := [("kind", 3), ("maker", 4), ("parts", 5)]) (g := gRow K 3 4 5) rfl nd (pi_list (pv 1)) (blkOk_by (N := ["self", "rows", "least", "kind", "maker", "parts"]) (sc := defScope s_Kinds_init) (by decide +kernel))
      (fun _ _ _ _ _ => pg_tup rfl (pgs_cons (pg_name (i := 3) nd rfl (Or.inl rfl)) (pgs_cons (pg_name (i := 4) nd rfl (Or.inl rfl)) (pgs_cons (pg_name (i := 5) nd rfl (Or.inl rfl)) pgs_nil)))) (fun _ _ _ _ _ => pts_nil) (fun _ _ _ _ _ => pv 4)
      (fun _ _ _ _ _ => pe_call (sp := spHoldings) (E := E0) (ok_holdings T F6) (hr.mono (by decide)) (by rfl) T.g_holdings T.k_holdings (b_holdings F6) .nil pass0 (pa_cons (pv 5) pa_nil))) rfl)
    (pss_cons (ps_fld (pv 0) (pe_lock (pe_dc (own := [("kind", 3)]) (g := gName 3) rfl nd (pi_keys (pe_fld (pv 0) rfl)) (blkOk_by (N := ["self", "rows", "least", "kind", "maker", "parts"]) (sc := defScope s_Kinds_init) (by decide +kernel))
      (fun _ _ _ _ _ => pg_name (i := 3) nd rfl (Or.inl rfl)) (fun _ _ _ _ _ => pts_nil) (fun _ _ _ _ _ => pv 3) (fun _ _ _ _ _ => pe_ix (r := rIxT K) ix_tup (pe_dget hu (pv 2) (pv 3) (fun _ _ => rfl)) pe_int (fun _ _ => rfl)))) rfl)
    (pss_cons (ps_fld (pv 0) (pe_callTy (call_tuple_dK rfl) (by rfl) T.n_tuple (by decide +kernel) (pa_cons (pe_fld (pv 0) rfl) pa_nil)) rfl)
    (pss_one (ps_fld (pv 0) (pe_callTy (call_tuple_dK rfl) (by rfl) T.n_tuple (by decide +kernel) (pa_cons (pe_fld (pv 0) rfl) pa_nil)) rfl)))))))))))), ?_⟩
  -- the checks
  have nz : decide (V.int ((us.length : Nat) : Int) = V.int 0) = false := by
    have : us.length ≠ 0 := by rw [al.1]; intro z; exact val.ne (List.length_eq_zero_iff.mp z)
    exact decide_eq_false fun z => this (by have := V.int.inj z; omega)
  refine ⟨_, rfl, a, _, rfl, .inl (SqL.of ha), rfl, _, rfl, ?_⟩
  rw [nz]
  refine iteF ⟨_, rfl, a, rs, rfl, hra, val.short, val.each, fun H1 s1 => ?_⟩
  refine ⟨_, rfl, a, rs, rfl, hra.mono s1, val.short, val.inner, fun H2 s2 => ?_⟩
  have s02 := s1.trans s2
  refine ⟨_, rfl, a, rs, rfl, hra.mono s02, val.short.1, val.four, val.each.kinds, fun dl0 H3 s3 hdl0 ⟨lvs0, hl0, ld0⟩ => ?_⟩
  have s03 := s02.trans s3
  obtain ⟨rank, fin⟩ := val.fin
  refine ⟨_, rfl, _, rfl, a, dl0, rs, lvs0, _, rfl, hra.mono s03, hl0, KD.mono ld0 (fun _ _ _ => trivial), least_all fin, fun H4 s4 => ?_⟩
  have s04 := s03.trans s4
  have hl4 := s4 _ _ hl0
  have ld4 : LeastD H4 lvs0 (leastOf rs).1 (leastOf rs).2 := KD.mono ld0 fun _ _ z => z.mono s4
  have hx4 := s04 _ _ hx
  have ndl0 : dl0 ≠ x := ne_of hl4 hx4 (by intro z; cases z)
  -- self._makers
  refine ⟨_, rfl, a, rs, rfl, hra.mono s04, val.short.1, fun dm mvs H5 s5 hdm hm5 mk5 => ?_⟩
  have s45 : Same H4 H5 := s5
  have hx5 := s5 _ _ hx4
  refine ⟨_, rfl, x, CK K, dx, [], rfl, hx5, cl, T.na_Kinds_makers_, by decide, ?_⟩
  generalize hH6 : upd H5 x (.ins (CK K) dx (putF "_makers" (.ref dm) [])) = H6
  have hx6 : H6 x = some (.ins (CK K) dx (kF1 dm)) := by rw [← hH6]; exact upd_same
  have b6 : But x H H6 := fun b o n e => by rw [← hH6, upd_ne n]; exact s5 _ _ (s04 _ _ e)
  have o6 : ∀ b o, b ≠ x → H5 b = some o → H6 b = some o := fun b o n e => by rw [← hH6, upd_ne n]; exact e
  have ndm : dm ≠ x := ne_of hm5 hx5 (by intro z; cases z)
  have t56 : Tups H5 H6 := by rw [← hH6]; exact tups_upd fun u f z => by rw [hx5] at z; cases z; exact f
  have hm6 := o6 _ _ ndm hm5
  have mk6 : MkD H6 mvs rs := mk5.mono t56
  have hl6 := o6 _ _ ndl0 (s5 _ _ hl4)
  have nax : a ≠ x := ne_of ha hx (by intro z; cases z)
  have al6 : All2 (RowAt H6) us rs := al.mono fun _ _ z => z.mono (Tups.trans (tups_of (s04.trans s5)) t56)
  have ha6 : H6 a = some (.lst us) := b6 _ _ nax ha
  have ent6 : LeastD H6 lvs0 (leastOf rs).1 (leastOf rs).2 := KD.mono ld4 fun _ _ z => by
    obtain ⟨a1, a2, a3, rfl, h1, h2, h3⟩ := z.mono s5
    exact ⟨a1, a2, a3, rfl, o6 _ _ (ne_of h1 hx5 (by intro z; cases z)) h1, o6 _ _ (ne_of h2 hx5 (by intro z; cases z)) h2, h3.mono t56⟩
  clear hH6
  -- self._kinds
  refine ⟨_, rfl, a, rfl, ⟨_, .inl (.inl ha6)⟩, fun dk hdk => dc_it (walk_list (K := K) (a := a) (xs := us)) (fun i H7 => Same H6 H7 ∧ ∃ kvs, H7 dk = some (.dK kvs) ∧ KD kvs (distinct (rmakers (rs.take i))) fun m v => ∃ r ∈ rs, r.2.1 = m ∧ v = .str r.1)
    ⟨same_new hdk, [], upd_same, KD.nil⟩ (fun i H7 _ z => .inl (.inl (z.1 _ _ ha6))) ?_ ?_⟩
  · rintro i y H7 H8 hi ⟨s7, kvs, hk, kd⟩ ⟨rfl, hy⟩
    obtain ⟨r, hrr, b, u, rfl, hb, pa⟩ := al6.get hy
    have kl : kvs.length ≤ 1000 := by rw [kd.length]; exact Nat.le_trans (rmakers_len i) val.short.1
    refine ⟨b, _, rfl, .inl (.inl (s7 _ _ hb)), rfl, _, _, rfl, _, _, rfl, _, _, rfl, rfl, rfl, _, rfl, _, rfl, kvs, Sum.inr r.2.1, rfl, hk, small1000 kl, same_mut s7 hdk, _, upd_same, ?_⟩
    rw [rmakers_take_succ hrr, distinct_snoc]
    exact kd.put (fun j u _ hu => hu) ⟨r, List.mem_of_getElem? hrr, rfl, rfl⟩
  rintro H7 ⟨s7, kvs, hk7, kd7⟩
  rw [al.1, List.take_length] at kd7
  have hx7 := s7 _ _ hx6
  refine ⟨_, rfl, x, CK K, dx, _, rfl, hx7, cl, T.na_Kinds_kinds_, kF_len1, ?_⟩
  generalize hH8 : upd H7 x (.ins (CK K) dx (putF "_kinds" (.ref dk) (kF1 dm))) = H8
  have hx8 : H8 x = some (.ins (CK K) dx (kF2 dm dk)) := by rw [← hH8]; exact upd_same
  have o8 : ∀ b o, b ≠ x → H7 b = some o → H8 b = some o := fun b o n e => by rw [← hH8, upd_ne n]; exact e
  have b8 : But x H6 H8 := fun b o n e => o8 b o n (s7 _ _ e)
  have st8 : Still H7 H8 → True := fun _ => trivial
  have t68 : Tups H6 H8 := Tups.trans (tups_of s7) (by rw [← hH8]; exact tups_upd fun u f z => by rw [hx7] at z; cases z; exact f)
  have ndk : dk ≠ x := fun z => by rw [z, hx6] at hdk; cases hdk
  have hk8 := o8 _ _ ndk hk7
  have ha8 := b8 _ _ nax ha6
  clear hH8
  -- self._parts
  refine ⟨_, rfl, a, rfl, ⟨_, .inl (.inl ha8)⟩, fun dp hdp => dc_it (walk_list (K := K) (a := a) (xs := us)) (fun i H9 => Same H8 H9 ∧ ∃ pvs, H9 dp = some (.dK pvs) ∧ KD pvs (distinct (rmakers (rs.take i))) fun m v => ∃ r ∈ rs, r.2.1 = m ∧ ∃ d hv, v = .ref d ∧ H9 d = some (.dK hv) ∧ (d ≠ dp ∧ H8 d = none) ∧ HoldD H9 hv r.2.2)
    ⟨same_new hdp, [], upd_same, KD.nil⟩ (fun i H9 _ z => .inl (.inl (z.1 _ _ ha8))) ?_ ?_⟩
  · rintro i y H9 H10 hi ⟨s9, pvs, hp, kd⟩ ⟨rfl, hy⟩
    obtain ⟨r, hrr, b, u, rfl, hb, pa⟩ := al6.get hy
    have hmem := List.mem_of_getElem? hrr
    have kl : pvs.length ≤ 1000 := by rw [kd.length]; exact Nat.le_trans (rmakers_len i) val.short.1
    have t610 := Tups.trans t68 (tups_of s9)
    refine ⟨b, _, rfl, .inl (.inl (t610 _ _ trivial hb)), rfl, _, _, rfl, _, _, rfl, _, _, rfl, rfl, rfl, _, rfl, _, rfl, u, r.2.2, rfl, pa.mono t610, (by have := val.four r hmem; omega), fun d hv H11 s11 hd hd11 hold => ?_⟩
    have hp11 := s11 _ _ hp
    have ndp : d ≠ dp := fun z => by rw [z] at hd; rw [hd] at hp; cases hp
    have tp : ∀ v, Tups H11 (upd H11 dp (.dK (putK pvs (Sum.inr r.2.1) v))) := fun v => tups_upd fun u f z => by rw [hp11] at z; cases z; exact f
    refine ⟨pvs, Sum.inr r.2.1, rfl, hp11, small1000 kl, same_mut (s9.trans s11) hdp, _, upd_same, ?_⟩
    rw [rmakers_take_succ hrr, distinct_snoc]
    refine kd.put (fun j u' _ hu' => ?_) ⟨r, hmem, rfl, d, hv, rfl, by rw [upd_ne ndp]; exact hd11, ⟨ndp, none_same s9 hd⟩, hold.mono (tp _)⟩
    obtain ⟨r', m', e', d', hv', e2', hd', n', hh'⟩ := hu'
    exact ⟨r', m', e', d', hv', e2', by rw [upd_ne n'.1]; exact s11 _ _ hd', n', (hh'.mono (tups_of s11)).mono (tp _)⟩
  rintro H9 ⟨s9, pvs, hp9, kd9⟩
  rw [al.1, List.take_length] at kd9
  have hx9 := s9 _ _ hx8
  have fr9 : KD pvs (distinct (rmakers rs)) fun _ v => ∀ d, v = .ref d → H8 d = none := KD.mono kd9 fun _ _ z d0 e0 => by
    obtain ⟨r, m, e, d, hv, e2, hd, n, hh⟩ := z
    rw [e2] at e0; cases e0; exact n.2
  refine ⟨_, rfl, x, CK K, dx, _, rfl, hx9, cl, T.na_Kinds_parts_, kF_len2, ?_⟩
  generalize hH10 : upd H9 x (.ins (CK K) dx (putF "_parts" (.ref dp) (kF2 dm dk))) = H10
  have hx10 : H10 x = some (.ins (CK K) dx (kF3 dm dk dp)) := by rw [← hH10]; exact upd_same
  have o10 : ∀ b o, b ≠ x → H9 b = some o → H10 b = some o := fun b o n e => by rw [← hH10, upd_ne n]; exact e
  have b10 : But x H8 H10 := fun b o n e => o10 b o n (s9 _ _ e)
  have t910 : Tups H9 H10 := by rw [← hH10]; exact tups_upd fun u f z => by rw [hx9] at z; cases z; exact f
  have t610 : Tups H6 H10 := Tups.trans t68 (Tups.trans (tups_of s9) t910)
  have ndp : dp ≠ x := fun z => by rw [z, hx8] at hdp; cases hdp
  have hp10 := o10 _ _ ndp hp9
  have pd10 : PartsD H10 pvs rs := KD.mono kd9 fun _ _ z => by
    obtain ⟨r, m, e, d, hv, e2, hd, n, hh⟩ := z
    exact ⟨r, m, e, d, hv, e2, o10 _ _ (ne_of hd hx9 (by intro z; cases z)) hd, hh.mono t910⟩
  have hk10 := b10 _ _ ndk hk8
  have hm10 := b10 _ _ ndm (b8 _ _ ndm hm6)
  have mk10 : MkD H10 mvs rs := mk6.mono t610
  have hl10 := b10 _ _ ndl0 (b8 _ _ ndl0 hl6)
  have ent10 : LeastD H10 lvs0 (leastOf rs).1 (leastOf rs).2 := KD.mono ent6 fun _ _ z => by
    obtain ⟨a1, a2, a3, rfl, h1, h2, h3⟩ := z
    have n2 : a2 ≠ x := ne_of h2 hx6 (by intro z; cases z)
    exact ⟨a1, a2, a3, rfl, t610 _ _ trivial h1, b10 _ _ n2 (b8 _ _ n2 h2), h3.mono t610⟩
  clear hH10
  -- self._least
  refine ⟨dm, _, hm10, trivial, fun od => ?_⟩
  have nml : dl0 ≠ dm := fun z => by rw [z] at hl4; rw [hl4] at hdm; cases hdm
  have hxl : (upd H10 dm (.frz od (.dK mvs))) x = some (.ins (CK K) dx (kF3 dm dk dp)) := by rw [upd_ne ndm.symm]; exact hx10
  refine ⟨_, rfl, x, CK K, dx, _, _, rfl, hxl, cl, T.na_Kinds_makers_, kF4_makers, dm, od, rfl, .inl ⟨mvs, upd_same, fun dl hdl => ?_⟩⟩
  have ndl : dl ≠ dm := fun z => by rw [z, upd_same] at hdl; cases hdl
  have hdl10 : H10 dl = none := by rw [upd_ne ndl] at hdl; exact hdl
  refine dc_it (walk_keys (d := dm) (o := od) (kvs := mvs)) (fun i H11 => Same (upd H10 dm (.frz od (.dK mvs))) H11 ∧ ∃ lvs, H11 dl = some (.dK lvs) ∧ KD lvs (distinct ((distinct (rkinds rs)).take i)) fun k v => Td H11 v ((leastOf rs).2 k).2)
    ⟨same_new hdl, [], upd_same, KD.nil⟩ (fun i H11 _ z => z.1 _ _ upd_same) ?_ ?_
  · rintro i y H11 H12 hi ⟨s11, lvs, hl, kd⟩ ⟨rfl, k, v, hkv, rfl⟩
    obtain ⟨j, hj, ej⟩ := KD.at mk10 hkv
    cases (show k = Sum.inr j from ej)
    have kl : lvs.length ≤ 1000 := by
      rw [kd.length]
      have h1 := length_distinct ((distinct (rkinds rs)).take i)
      rw [List.length_take] at h1
      have := val.each.kinds
      omega
    have jin : j ∈ (leastOf rs).1 := by
      have jk : j ∈ rkinds rs := mem_distinct.mp (List.mem_of_getElem? hj)
      obtain ⟨r, hr', e⟩ := List.mem_map.mp jk
      rw [← e]; exact least_all fin r hr'
    obtain ⟨ev, e1, t, l, tr, rfl, ht, hlq, htd⟩ := KD.some ent10 jin
    have t0 : Tups H10 (upd H10 dm (.frz od (.dK mvs))) := tups_upd fun u f z => by rw [hm10] at z; cases z; exact f
    have t11 := Tups.trans t0 (tups_of s11)
    have hl11 : H12 dl0 = some (.dK lvs0) := s11 _ _ (by rw [upd_ne nml]; exact hl10)
    refine ⟨rfl, _, rfl, _, rfl, _, rfl, dl0, _, rfl, (by rw [← e1]; exact DGet.k (k := Sum.inr j) hl11), t, _, _, _, rfl, rfl, SqT.of (t11 _ _ trivial ht), atI_nat (j := 2) rfl, lvs, Sum.inr j, rfl, hl, small1000 kl, same_mut s11 hdl, _, upd_same, ?_⟩
    have tp : Tups H12 (upd H12 dl (.dK (putK lvs (Sum.inr j) tr))) := tups_upd fun u f z => by rw [hl] at z; cases z; exact f
    rw [take_succ_of hj, distinct_snoc]
    exact kd.put (fun j' u' _ hu' => hu'.mono tp) ((htd.mono t11).mono tp)
  rintro H11 ⟨s11, lvs, hl11, kd11⟩
  have ml : mvs.length = (distinct (rkinds rs)).length := KD.length mk10
  rw [ml, List.take_length, distinct_of_nodup (nodup_distinct _)] at kd11
  refine ⟨s11 _ _ upd_same, ?_⟩
  generalize hH12 : upd H11 dm (.dK mvs) = H12
  have hm12 : H12 dm = some (.dK mvs) := by rw [← hH12]; exact upd_same
  have s12 : Same H10 H12 := fun b o e => by
    rw [← hH12]
    by_cases hb : b = dm
    · rw [hb] at e ⊢; rw [hm10] at e; rw [upd_same]; exact e
    · rw [upd_ne hb]; exact s11 _ _ (by rw [upd_ne hb]; exact e)
  have t1112 : Tups H11 H12 := by rw [← hH12]; exact tups_upd fun u f z => by rw [s11 _ _ upd_same] at z; cases z; exact f
  have hl12 : H12 dl = some (.dK lvs) := by rw [← hH12, upd_ne ndl]; exact hl11
  have lt12 : LeastT H12 lvs rs := KD.mono kd11 fun _ _ z => z.mono t1112
  have hx12 := s12 _ _ hx10
  clear hH12
  refine ⟨_, rfl, x, CK K, dx, _, rfl, hx12, cl, T.na_Kinds_least_, kF_len3, ?_⟩
  generalize hH13 : upd H12 x (.ins (CK K) dx (putF "_least" (.ref dl) (kF3 dm dk dp))) = H13
  have hx13 : H13 x = some (.ins (CK K) dx (kF4 dm dk dp dl)) := by rw [← hH13]; exact upd_same
  have o13 : ∀ b o, b ≠ x → H12 b = some o → H13 b = some o := fun b o n e => by rw [← hH13, upd_ne n]; exact e
  have t1213 : Tups H12 H13 := by rw [← hH13]; exact tups_upd fun u f z => by rw [hx12] at z; cases z; exact f
  have ndl' : dl ≠ x := ne_of hl12 hx12 (by intro z; cases z)
  have pd13 : PartsD H13 pvs rs := KD.mono (pd10.mono (still_of s12)) fun _ _ z => by
    obtain ⟨r, m, e, d, hv, e2, hd, hh⟩ := z
    exact ⟨r, m, e, d, hv, e2, o13 _ _ (ne_of hd hx12 (by intro z; cases z)) hd, hh.mono t1213⟩
  have hm13 := o13 _ _ ndm hm12
  have hk13 := o13 _ _ ndk (s12 _ _ hk10)
  have hp13 := o13 _ _ ndp (s12 _ _ hp10)
  have hl13 := o13 _ _ ndl' hl12
  have mk13 : MkD H13 mvs rs := (mk10.mono (tups_of s12)).mono t1213
  have lt13 : LeastT H13 lvs rs := lt12.mono t1213
  have b13 : But x H H13 := fun b o n e => o13 _ _ n (s12 _ _ (b10 _ _ n (b8 _ _ n (b6 _ _ n e))))
  clear hH13
  -- names
  refine ⟨_, rfl, x, CK K, dx, _, _, rfl, hx13, cl, T.na_Kinds_makers_, kF4_makers', dm, _, rfl, hm13, fun tn on htn hon => ?_⟩
  have s14 := same_new (o := .frz on (.tup (mvs.map fun kv => kV kv.1))) htn
  have hx14 := s14 _ _ hx13
  refine ⟨_, rfl, x, CK K, dx, _, rfl, hx14, cl, T.na_Kinds_names, kF_len4, ?_⟩
  have ntn : tn ≠ x := fun z => by rw [z, hx13] at htn; cases htn
  generalize hH15 : upd (upd H13 tn (.frz on (.tup (mvs.map fun kv => kV kv.1)))) x (.ins (CK K) dx (putF "names" (.ref tn) (kF4 dm dk dp dl))) = H15
  have hx15 : H15 x = some (.ins (CK K) dx (kF5 dm dk dp dl tn)) := by rw [← hH15]; exact upd_same
  have o15 : ∀ b o, b ≠ x → H13 b = some o → H15 b = some o := fun b o n e => by rw [← hH15, upd_ne n]; exact s14 _ _ e
  have htn15 : H15 tn = some (.frz on (.tup (mvs.map fun kv => kV kv.1))) := by rw [← hH15, upd_ne ntn, upd_same]
  have t15 : Tups H13 H15 := Tups.trans (tups_of s14) (by rw [← hH15]; exact tups_upd fun u f z => by rw [hx14] at z; cases z; exact f)
  clear hH15
  -- order
  have hk15 := o15 _ _ ndk hk13
  refine ⟨_, rfl, x, CK K, dx, _, _, rfl, hx15, cl, T.na_Kinds_kinds_, kF5_kinds, dk, _, rfl, hk15, fun to oo hto hoo => ?_⟩
  have s16 := same_new (o := .frz oo (.tup (kvs.map fun kv => kV kv.1))) hto
  have hx16 := s16 _ _ hx15
  refine ⟨_, rfl, x, CK K, dx, _, rfl, hx16, cl, T.na_Kinds_order, kF_len5, ?_⟩
  have nto : to ≠ x := fun z => by rw [z, hx15] at hto; cases hto
  have o17 : ∀ b o, b ≠ x → H15 b = some o → (upd (upd H15 to (.frz oo (.tup (kvs.map fun kv => kV kv.1)))) x (.ins (CK K) dx (putF "order" (.ref to) (kF5 dm dk dp dl tn)))) b = some o := fun b o n e => by rw [upd_ne n]; exact s16 _ _ e
  have t17 : Tups H15 (upd (upd H15 to (.frz oo (.tup (kvs.map fun kv => kV kv.1)))) x (.ins (CK K) dx (putF "order" (.ref to) (kF5 dm dk dp dl tn)))) := Tups.trans (tups_of s16) (tups_upd fun u f z => by rw [hx16] at z; cases z; exact f)
  have tx := Tups.trans t15 t17
  have keysOf : ∀ {kvs : List (Key × V)} {ks : List Str} {R : Str → V → Prop}, KD kvs ks R → (kvs.map fun kv => kV kv.1) = ks.map V.str := fun {kvs ks R} h => by
    have : (kvs.map fun kv => kV kv.1) = (kvs.map (·.1)).map kV := by rw [List.map_map]; rfl
    rw [this, h.1, List.map_map]; rfl
  have back6 : ∀ {b : Addr}, b ≠ x → H6 b = none → H b = none := fun n e => none_but b6 n e
  have back8 : ∀ {b : Addr}, b ≠ x → H8 b = none → H b = none := fun n e => back6 n (none_but b8 n e)
  have back10 : ∀ {b : Addr}, b ≠ x → H10 b = none → H b = none := fun n e => back8 n (none_but b10 n e)
  refine q _ (fun b o n e => o17 _ _ n (o15 _ _ n (b13 _ _ n e))) (told_new upd_same (o17 _ _ ndm (o15 _ _ ndm hm13)) (mk13.mono tx) (o17 _ _ ndk hk15) kd7 (o17 _ _ ndp (o15 _ _ ndp hp13)) (KD.mono pd13 fun _ _ z => ?_) (o17 _ _ ndl' (o15 _ _ ndl' hl13)) (lt13.mono tx) ⟨tn, on, rfl, hon, ?_⟩ ⟨to, oo, rfl, hoo, ?_⟩ (none_same s04 hdm) (back6 ndk hdk) (back8 ndp hdp) (back10 ndl' hdl10) (KD.mono fr9 fun _ _ z d e => ?_))
  · obtain ⟨r, m, e, d, hv, e2, hd, hh⟩ := z
    have nd' : d ≠ x := ne_of hd hx13 (by intro z; cases z)
    exact ⟨r, m, e, d, hv, e2, o17 _ _ nd' (o15 _ _ nd' hd), hh.mono tx⟩
  · rw [← keysOf mk13]; exact o17 _ _ ntn htn15
  · rw [upd_ne nto, upd_same, keysOf kd7]
  · have h8n := z d e
    by_cases hdx : d = x
    · rw [hdx, hx8] at h8n; cases h8n
    · exact back8 hdx h8n
end
end Bg
set_option Elab.async false
set_option linter.all false
set_option maxRecDepth 100000
set_option maxHeartbeats 4000000
/-! the rows of a function table, one by one -/
namespace Bg
open PySem PySem.Spec PyProof.Rows L2
/-- name, kind, fold, bodies -/
abbrev FRow := Str × Str × Str × FBod
def FRowAt (H : Hp) (v : V) (f : FRow) : Prop := ∃ a d, v = .ref a ∧ H a = some (.tup [.str f.1, .str f.2.1, .str f.2.2.1, .ref d]) ∧ BodiesAt H d f.2.2.2
def FRowsAt (H : Hp) (a : Addr) (fs : List FRow) : Prop := ∃ us, H a = some (.lst us) ∧ All2 (FRowAt H) us fs
theorem FRowAt.same {H H' : Hp} {v : V} {f : FRow} (s : Same H H') (h : FRowAt H v f) : FRowAt H' v f := by
  obtain ⟨a, d, e, h1, h2⟩ := h; exact ⟨a, d, e, s _ _ h1, h2.same s⟩
theorem FRowsAt.same {H H' : Hp} {a : Addr} {fs : List FRow} (s : Same H H') (h : FRowsAt H a fs) : FRowsAt H' a fs := by
  obtain ⟨us, h1, h2⟩ := h; exact ⟨us, s _ _ h1, h2.mono fun _ _ z => z.same s⟩
structure FRowsOk (fs : List FRow) : Prop where
  few : fs.length ≤ 900
  short : ∀ f ∈ fs, f.1.length ≤ 100000
  bod : ∀ f ∈ fs, FBodOk f.2.2.2
def foldB (x : Str) : Bool := decide (x ∈ ([("sum" : Str), "max"] : List Str))
/-- the row i is let, by itself and behind these names -/
def rowF (rs : List Row) (ns : List Str) (i : Nat) (f : FRow) : Bool := decide (i < 6) && (nameB f.1 && (!decide (f.1 ∈ ns) && (decide (f.2.1 ∈ rkinds rs) && (foldB f.2.2.1 && bodiesOk rs f.2.1 f.2.2.2))))
/-- the first row that is not -/
def pass1 (rs : List Row) : List Str → Nat → List FRow → Option Nat
  | _, _, [] => none
  | ns, i, f :: fs => if rowF rs ns i f = true then pass1 rs (ns ++ [f.1]) (i + 1) fs else some i
section
variable {P : Program} {w : World} {K : PySem.W.Frag} {mg : Str → Option Value} {base : Heap} {fd : FuncData}
def spCer (K : PySem.W.Frag) : Sp := fun vs H Q E => ∃ (x a : Addr) (rs : List Row) (fs : List FRow), vs = [.ref x, .ref a] ∧ KindsF K H x rs ∧ ValidT rs ∧ FRowsAt H a fs ∧ FRowsOk fs ∧
  (pass1 rs [] 0 fs = none → ∀ H', Same H H' → Q .non H') ∧ (∀ i, pass1 rs [] 0 fs = some i → RaisesBF K H i E)
theorem okx_cer (T : Tx K mg) (F : FnP K ("check_each_row_bodies", none) "check_each_row" "check_each_row" s_check_each_row_bodies fd) : FnOk P w K mg base (L2.CX P w) 25 (He.fAd K ("check_each_row_bodies", none)) fd p_check_each_row_bodies (spCer K) := by
  refine F.ok (k := 24) sc_check_each_row_bodies (fun vs H Q E h => ?_) (fun cdv A outer s H vs Q E hr h => ?_)
  · obtain ⟨_, _, _, _, rfl, _⟩ := h; rfl
  obtain ⟨x, a, rs, fs, rfl, hK, val, ⟨us, ha, al⟩, ok, qn, qb⟩ := h
  have hu := hu_of hr
  obtain ⟨dx, dm, dk, dp, dl, tn, to, h0, hin⟩ := id hK
  obtain ⟨f1, F1⟩ := T.F_is_name
  obtain ⟨f2, F2⟩ := T.F_BadFunctions_init
  obtain ⟨f3, F3⟩ := T.F_are_bodies
  obtain ⟨t_MOST_FUNCTIONS, m_MOST_FUNCTIONS⟩ := T.c_MOST_FUNCTIONS
  have nd := sc_check_each_row_bodies.nd
  refine ⟨_, (pss_cons (ps_set (i := 2) nd rfl (.inl rfl) pe_dnewK)
    (pss_one (ps_for (passes_of rfl) rfl (pi_enum (by rfl) T.n_enumerate (pa_cons (pv 1) pa_nil)) (pg_tup rfl (pgs_cons (pg_name (i := 3) nd rfl (Or.inl rfl)) (pgs_cons (pg_tup rfl (pgs_cons (pg_name (i := 4) nd rfl (Or.inl rfl)) (pgs_cons (pg_name (i := 5) nd rfl (Or.inl rfl)) (pgs_cons (pg_name (i := 6) nd rfl (Or.inl rfl)) (pgs_cons (pg_name (i := 7) nd rfl (Or.inl rfl)) pgs_nil))))) pgs_nil)))
      (pss_cons (ps_if (PW.pt (pw_or (pt_cmpR op_ge (pv 3) (pe_glob (v := .int 6) (by rfl) m_MOST_FUNCTIONS ⟨_, rfl⟩) (nomark _)) (pw_or (pt_not (pt_val (pe_call (ok_is_name T F1) (hr.mono (by omega)) (by rfl) T.g_is_name T.k_is_name (b_is_name F1) .nil pass0 (pa_cons (pv 4) pa_nil)))) (pw_or1 (pt_cmp (pc_din hu (pv 4) (pv 2)))))))
        (pss_one (ps_raise rfl (takes_of rfl rfl rfl rfl) (pmk_oex T.x_BadFunctions.oex T.m_BadFunctions_init.at_ (beq_iff_eq.mp T.m_BadFunctions_init.fn) (ok_bfi T F2) (hr.mono (by omega)) (b_BadFunctions_init F2) .nil pass0 (by rfl) T.g_BadFunctions (pa_cons (pv 3) pa_nil))))
        pss_nil)
      (pss_cons (ps_if (PW.pt (pw_or (pt_cmpR op_notIn_seq (pv 5) (pe_fld (pv 0) rfl) (by rfl)) (pw_or (pt_cmpR op_notIn_seq (pv 6) (pe_glob (v := .ref _) (by rfl) T.g_FOLDS rfl) (by rfl)) (pw_or1 (pt_not (pt_val (pe_call (ok_are_bodies T F3) (hr.mono (by omega)) (by rfl) T.g_are_bodies T.k_are_bodies (b_are_bodies F3) .nil pass0 (pa_cons (pv 0) (pa_cons (pv 5) (pa_cons (pv 7) pa_nil))))))))))
        (pss_one (ps_raise rfl (takes_of rfl rfl rfl rfl) (pmk_oex T.x_BadFunctions.oex T.m_BadFunctions_init.at_ (beq_iff_eq.mp T.m_BadFunctions_init.fn) (ok_bfi T F2) (hr.mono (by omega)) (b_BadFunctions_init F2) .nil pass0 (by rfl) T.g_BadFunctions (pa_cons (pv 3) pa_nil))))
        pss_nil)
      (pss_one (ps_dput hu (pv 2) (pv 4) pe_bl rfl))))))), ?_⟩
  intro nd0 hnd
  have s1 := same_new (o := .dK []) hnd
  generalize hp1 : pass1 rs [] 0 fs = tot at qn qb
  refine ⟨_, rfl, a, us, rfl, .inl (.inl (s1 _ _ ha)), for_it (walk_enum (K := K) (a := a) (xs := us)) (fun i σ G => ∃ (ns : List Str) (kvs : List (Key × V)) (v3 v4 v5 v6 v7 : Option V), σ = [some (.ref x), some (.ref a), some (.ref nd0), v3, v4, v5, v6, v7] ∧ Same H G ∧ G nd0 = some (.dK kvs) ∧ KD kvs ns TrueR ∧ ns.length = i ∧ pass1 rs ns i (fs.drop i) = tot)
    ⟨[], [], _, _, _, _, _, rfl, s1, upd_same, KD.nil, rfl, hp1⟩ (fun i σ G _ z => by obtain ⟨_, _, _, _, _, _, _, _, z, _⟩ := z; exact .inl (.inl (z _ _ ha))) ?_ ?_⟩
  · rintro i z σ G1 G2 hi ⟨ns, kvs, v3, v4, v5, v6, v7, rfl, sG, hnG, kd, ln, etot⟩ ⟨tp, x1, x2, rfl, ntp, rfl, e1, e2⟩
    cases e1
    obtain ⟨f, hf, b, d, rfl, hb, hB⟩ := al.get e2
    have hfm := List.mem_of_getElem? hf
    have lti : i < fs.length := (List.getElem?_eq_some_iff.mp hf).1
    have few := ok.few
    have drop : fs.drop i = f :: fs.drop (i + 1) := by
      rw [List.drop_eq_getElem_cons lti]
      congr 1
      rw [List.getElem?_eq_getElem lti] at hf
      exact Option.some.inj hf
    rw [drop, pass1] at etot
    have s3 : Same H (upd G1 tp (.tup [.int (i : Nat), .ref b])) := sG.trans (same_new ntp)
    have hn3 := (same_new (o := .tup [V.int (i : Nat), V.ref b]) ntp) _ _ hnG
    have h03 := s3 _ _ h0
    have bad : rowF rs ns i f = false → ∀ {H'}, Same H H' → RaisesBF K H' i E := fun e {H'} s => by
      rw [e, if_neg Bool.false_ne_true] at etot
      exact (qb i etot.symm).mono s
    refine ⟨tp, _, rfl, .inl (.inl upd_same), rfl, _, _, rfl, _, _, rfl, ⟨b, _, rfl, .inl (.inl (s3 _ _ hb)), rfl, _, _, rfl, _, _, rfl, _, _, rfl, _, _, rfl, rfl, rfl, ?_⟩⟩
    refine ⟨_, rfl, _, _, rfl, rfl, _, rfl, ?_⟩
    unfold rowF at bad etot
    by_cases h6 : i < 6
    rotate_left
    · refine iteTe (decide_eq_true (by omega)) ⟨_, rfl, raiseF_read (by omega) (bad (by rw [decide_eq_false h6]; rfl) s3)⟩
    rw [decide_eq_true h6, Bool.true_and] at bad etot
    refine iteFe (decide_eq_false (by omega)) ⟨_, rfl, _, rfl, ok.short f hfm, _, rfl, ?_⟩
    cases hn : nameB f.1 with
    | false => exact iteT ⟨_, rfl, raiseF_read (by omega) (bad (by rw [hn]; rfl) s3)⟩
    | true =>
    rw [hn, Bool.true_and] at bad etot
    refine iteF ⟨_, rfl, _, rfl, nd0, _, rfl, DGet.k (k := Sum.inr f.1) hn3, _, rfl, ?_⟩
    rw [kd.isSome]
    cases hm : decide (f.1 ∈ ns) with
    | true => exact iteT ⟨_, rfl, raiseF_read (by omega) (bad (by rw [hm]; rfl) s3)⟩
    | false =>
    rw [hm, Bool.not_false, Bool.true_and] at bad etot
    obtain ⟨_, _, _, _, _, _, _, _, htx, _⟩ := id hin
    obtain ⟨tn', on, etn, _, htn⟩ := htx
    cases etn
    refine iteF ⟨_, rfl, _, rfl, x, CK K, dx, _, _, rfl, h03, T.cl_Kinds, T.na_Kinds_names, kF_names, tn, _, rfl, .inr (sqT_frz (s3 _ _ htn)), rfl, flat_str _, _, rfl, ?_⟩
    rw [if_pos rfl, inV_strs]
    have ek : decide (f.2.1 ∈ distinct (rkinds rs)) = decide (f.2.1 ∈ rkinds rs) := by simp only [mem_distinct]
    rw [ek]
    cases hk : decide (f.2.1 ∈ rkinds rs) with
    | false => exact iteT ⟨_, rfl, raiseF_read (by omega) (bad (by rw [hk]; rfl) s3)⟩
    | true =>
    rw [hk, Bool.true_and] at bad etot
    refine iteF ⟨_, rfl, He.ga K "FOLDS", _, rfl, .inr (He.tupB_ok T.t_FOLDS _), rfl, flat_str ["sum", "max"], _, rfl, ?_⟩
    rw [if_pos rfl, show inV (V.str f.2.2.1) ([He.Dv.str "sum", He.Dv.str "max"].map (He.Dv.v K)) = foldB f.2.2.1 from inV_strs _ ["sum", "max"]]
    cases hfo : foldB f.2.2.1 with
    | false => exact iteT ⟨_, rfl, raiseF_read (by omega) (bad (by rw [hfo]; rfl) s3)⟩
    | true =>
    rw [hfo, Bool.true_and] at bad etot
    refine iteF ⟨_, rfl, _, rfl, _, rfl, x, d, f.2.1, rs, f.2.2.2, rfl, hK.same s3, val, of_decide_eq_true hk, hB.same s3, ok.bod f hfm, fun H4 s4 => ⟨_, rfl, ?_⟩⟩
    cases hbo : bodiesOk rs f.2.1 f.2.2.2 with
    | false => exact iteT ⟨_, rfl, raiseF_read (by omega) (bad hbo (s3.trans s4))⟩
    | true =>
    rw [hbo, if_pos rfl] at etot
    have hn4 := s4 _ _ hn3
    have kl : kvs.length ≤ 1000 := by rw [kd.length]; omega
    refine iteF ⟨_, rfl, _, rfl, nd0, _, rfl, DPut.k (k := Sum.inr f.1) hn4 (small1000 kl), ?_⟩
    have kd' := kd.put (k := f.1) (v := .bl true) (R' := TrueR) (fun _ _ _ _ => trivial) trivial
    rw [addNew_of_not (of_decide_eq_false hm)] at kd'
    exact ⟨ns ++ [f.1], _, _, _, _, _, _, rfl, same_mut (s3.trans s4) hnd, upd_same, kd', by rw [List.length_append]; simp; omega, etot⟩
  · rintro σ G ⟨ns, kvs, v3, v4, v5, v6, v7, rfl, sG, hnG, kd, ln, etot⟩
    rw [al.1, List.drop_length, pass1] at etot
    exact qn etot.symm G sG
end
end Bg
set_option Elab.async false
set_option linter.all false
set_option maxRecDepth 100000
set_option maxHeartbeats 4000000
/-! paths_of -/
namespace Bg
open PySem PySem.Spec PyProof.Rows L2
theorem none_sm {H H' : Hp} (s : Same H H') {o : Addr} (h : H' o = none) : H o = none := by
  cases e : H o with
  | none => rfl
  | some u => rw [s _ _ e] at h; cases h
def PathsAt (H : Hp) (a : Addr) (ps : List (List Tri)) : Prop := ∃ us, H a = some (.lst us) ∧ All2 (fun v p => Td H v (pathD p)) us ps
theorem PathsAt.same {H H' : Hp} {a : Addr} {ps : List (List Tri)} (s : Same H H') (h : PathsAt H a ps) : PathsAt H' a ps := by
  obtain ⟨us, e, al⟩ := h; exact ⟨us, s _ _ e, al.mono fun _ _ z => z.mono (tups_of s)⟩
theorem td_tup {H : Hp} {v : V} {ds : List PyData} (h : Td H v (.tuple ds)) : ∃ a xs, v = .ref a ∧ H a = some (.tup xs) ∧ TdAll H xs ds := by
  cases h with
  | @tup a xs _ h1 h2 => exact ⟨a, xs, rfl, h1, h2⟩
theorem tdAll_app2 {H : Hp} : ∀ {xs ys : List V} {ds es : List PyData}, TdAll H xs ds → TdAll H ys es → TdAll H (xs ++ ys) (ds ++ es)
  | _, _, _, _, .nil, h => h
  | _, _, _, _, .cons a r, h => .cons a (tdAll_app2 r h)
section
variable {P : Program} {w : World} {K : PySem.W.Frag} {mg : Str → Option Value} {base : Heap} {fd : FuncData}
def spPathsN (n : Nat) : Sp := fun vs H Q _ => ∃ (v : V) (b : Body) (r : Row) (as : List Str), vs = [v] ∧ Td H v (bodyD b) ∧ bodyB r as b = true ∧ OddOk b ∧ bdep b ≤ n ∧ n ≤ 100 ∧ bwt b ≤ 1000 ∧ ∀ a H', Same H H' → H a = none → PathsAt H' a (pathsB [] b) → Q (.ref a) H'
/-- the level below, if there is one -/
def spPLow : Nat → Sp
  | 0 => fun _ _ _ _ => False
  | n + 1 => spPathsN n
theorem ok_pth (T : Tx K mg) {n m : Nat} (G : FnOk P w K mg base CX0 m (He.fAd K ("paths_of", none)) fd p_paths_of (spPLow n)) (hm : 1 ≤ m) (F : FnP K ("paths_of", none) "paths_of" "paths_of" s_paths_of fd) : FnOk P w K mg base CX0 (m + 1) (He.fAd K ("paths_of", none)) fd p_paths_of (spPathsN n) := by
  refine F.ok (k := m) sc_paths_of (fun vs H Q E h => ?_) (fun cdv A outer s H vs Q E hr h => ?_)
  · obtain ⟨_, _, _, _, rfl, _⟩ := h; rfl
  obtain ⟨v, b, r, as, rfl, td, hbb, od, bd, hn, hw, q⟩ := h
  cases td with
  | @tup a xs _ ht ta =>
  have lx : xs.length = b.length := by rw [ta.length, bodyDs_length]
  have nd := sc_paths_of.nd
  refine ⟨_, PSs.nox (pss_cons (ps_set (i := 1) nd rfl (.inl rfl) (pe_tup pa_nil))
    (pss_cons (ps_for PassesOwn.never rfl (pi_tup (pv 0)) (pg_name (i := 2) nd rfl (Or.inl rfl))
      (pss_one (ps_if (pt_cmpR op_eq (pe_ix ix_tup (pv 2) pe_int (fun _ _ => rfl)) pe_str (nomark _))
        (pss_one (ps_set (i := 1) nd rfl (.inl rfl) (pe_op op_catA (pv 1) (pe_tup (pa_cons (pe_tup (pa_cons (pe_ix ix_tup (pv 2) pe_int (fun _ _ => rfl)) (pa_cons pe_str (pa_cons pe_int pa_nil)))) pa_nil)))))
        (pss_one (ps_if (pt_cmpR op_eq (pe_ix ix_tup (pv 2) pe_int (fun _ _ => rfl)) pe_str (nomark _))
          (pss_one (ps_set (i := 1) nd rfl (.inl rfl) (pe_op op_catA (pv 1) (pe_tup (pa_cons (pe_tup (pa_cons (pe_ix ix_tup (pv 2) pe_int (fun _ _ => rfl)) (pa_cons (pe_ix ix_tup (pv 2) pe_int (fun _ _ => rfl)) (pa_cons pe_int pa_nil)))) pa_nil)))))
          (pss_one (ps_if (pt_cmpR op_eq (pe_ix ix_tup (pv 2) pe_int (fun _ _ => rfl)) pe_str (nomark _))
            (pss_cons (ps_set (i := 3) nd rfl (.inr rfl) (pe_op op_catA (pv 1) (pe_tup (pa_cons (pe_tup (pa_cons (pe_ix ix_tup (pv 2) pe_int (fun _ _ => rfl)) (pa_cons pe_str (pa_cons pe_int pa_nil)))) pa_nil))))
            (pss_cons (ps_set (i := 4) nd rfl (.inr rfl) (pe_op op_catA (pv 1) (pe_tup (pa_cons (pe_tup (pa_cons (pe_ix ix_tup (pv 2) pe_int (fun _ _ => rfl)) (pa_cons pe_str (pa_cons (pe_ix ix_tup (pv 2) pe_int (fun _ _ => rfl)) pa_nil)))) pa_nil))))
            (pss_one (ps_ret (pe_op op_cat (pe_lc (own := [("rest", 5)]) (g := gName 5) rfl nd (pi_list (pe_call G (hr.mono (by omega)) (by rfl) T.g_paths_of T.k_paths_of (b_paths_of F) .nil pass0 (pa_cons (pe_ix ix_tup (pv 2) pe_int (fun _ _ => rfl)) pa_nil))) (blkOk_by (N := ["body", "asked", "step", "below", "other", "rest"]) (sc := defScope s_paths_of) (by decide +kernel)) (fun _ _ _ _ _ => (pg_name (i := 5) nd rfl (Or.inl rfl))) (fun _ _ _ _ _ => pts_nil) (fun _ _ _ _ _ => (pe_op (r := rCatA K) op_catA (pv 3) (pv 5)))) (pe_lc (own := [("rest", 5)]) (g := gName 5) rfl nd (pi_list (pe_call G (hr.mono (by omega)) (by rfl) T.g_paths_of T.k_paths_of (b_paths_of F) .nil pass0 (pa_cons (pe_ix ix_tup (pv 2) pe_int (fun _ _ => rfl)) pa_nil))) (blkOk_by (N := ["body", "asked", "step", "below", "other", "rest"]) (sc := defScope s_paths_of) (by decide +kernel)) (fun _ _ _ _ _ => (pg_name (i := 5) nd rfl (Or.inl rfl))) (fun _ _ _ _ _ => pts_nil) (fun _ _ _ _ _ => (pe_op (r := rCatA K) op_catA (pv 4) (pv 5)))))))))
            pss_nil)))))))
    (pss_one (ps_ret (pe_lst (pa_cons (pv 1) pa_nil)))))), ?_⟩
  refine ⟨by show 0 ≤ sizeLine; decide, fun t0 ht0 => ?_⟩
  have s0 := same_new (o := .tup []) ht0
  generalize htot : pathsB [] b = tot at q
  refine ⟨_, rfl, a, rfl, ⟨_, SqT.of (s0 _ _ ht)⟩, for_it (walk_tup (K := K) (a := a) (xs := xs)) (fun i σ G1 => ∃ (ad : Addr) (asked : List Tri) (ws : List V) (as2 : List Str) (v2 v3 v4 : Option V), σ = [some (.ref a), some (.ref ad), v2, v3, v4, none] ∧ Same H G1 ∧ G1 ad = some (.tup ws) ∧ TdAll G1 ws (asked.map triD) ∧ asked.length + bwt (b.drop i) ≤ 1000 ∧ bodyB r as2 (b.drop i) = true ∧ pathsB asked (b.drop i) = tot)
    ⟨t0, [], [], as, _, _, _, rfl, s0, upd_same, .nil, by simp; omega, hbb, htot⟩ (fun i σ G1 _ z => by obtain ⟨_, _, _, _, _, _, _, _, z, _⟩ := z; exact SqT.of (z _ _ ht)) ?_ ?_⟩
  · rintro i z σ G0 G1 hi ⟨ad, asked, ws, as2, v2, v3, v4, rfl, sG, had, tds, lw, hbv, etot⟩ ⟨rfl, hz⟩
    obtain ⟨d, hd, tdi⟩ := TdAll.at_ ta hz
    rw [bodyDs_get, Option.map_eq_some_iff] at hd
    obtain ⟨st, hst, rfl⟩ := hd
    have odi := oddOk_get od hst
    have bdi := bdep_get hst
    have li := (List.getElem?_eq_some_iff.mp hst).1
    have drop : b.drop i = st :: b.drop (i + 1) := by
      rw [List.drop_eq_getElem_cons li]
      congr 1
      rw [List.getElem?_eq_getElem li] at hst
      exact Option.some.inj hst
    rw [drop, bodyB_cons, Bool.and_eq_true, Bool.and_eq_true] at hbv
    rw [drop, pathsB] at etot
    rw [drop, bwt] at lw
    obtain ⟨⟨hb1, hb2⟩, hb3⟩ := hbv
    have td1 := tdi.mono (tups_of sG)
    have lws := tds.length
    rw [List.length_map] at lws
    -- one question more
    have more : ∀ (Gx : Hp) (sx : Same G1 Gx) (x y : Str) (c : Int) (t3 t1 : Addr) {Q2 : VK}, Gx t3 = none → (upd Gx t3 (.tup [.str x, .str y, .int c])) t1 = none →
        (∀ l2 H6, Same Gx H6 → ∀ ws6, H6 l2 = some (.tup ws6) → TdAll H6 ws6 ((asked ++ [(x, y, c)]).map triD) → Q2 (.ref l2) H6) → rCatA K (.ref ad) (.ref t1) (upd (upd Gx t3 (.tup [.str x, .str y, .int c])) t1 (.tup [.ref t3])) Q2 := fun Gx sx x y c t3 t1 Q2 h3 h1 q2 => by
      have s3 := same_new (o := .tup [V.str x, V.str y, V.int c]) h3
      have s1 := same_new (o := .tup [V.ref t3]) h1
      have s31 := s3.trans s1
      refine catA_read (s31 _ _ (sx _ _ had)) upd_same (by simp; omega) fun l2 H6 s6 hl2 => q2 l2 H6 (s31.trans s6) _ hl2 ?_
      rw [List.map_append]
      have h36 := s6 _ _ (s1 _ _ (upd_same (H := Gx) (a := t3) (o := .tup [V.str x, V.str y, V.int c])))
      exact TdAll.snoc (TdAll.mono (tups_of (sx.trans (s31.trans s6))) tds) (.tup h36 (.cons (.str _) (.cons (.str _) (.cons (.int _) .nil))))
    cases st with
    | odd wd ws2 => rw [stepB] at hb2; cases hb2
    | say n2 =>
      unfold stepD at td1
      cases td1 with
      | @tup sa sxs _ hsa tsa =>
      cases tsa with
      | cons u0 tsa =>
      cases tsa with
      | cons u1 tsa =>
      cases tsa
      cases u0; cases u1
      have keep : pathsB (asked ++ triOf (.say n2)) (b.drop (i + 1)) = tot := etot
      simp only [triOf, List.append_nil] at keep
      refine ⟨_, rfl, sa, _, _, _, rfl, rfl, SqT.of hsa, atI_nat (j := 0) rfl, rfl, _, rfl, iteFe (by decide +kernel) ?_⟩
      refine ⟨_, rfl, sa, _, _, _, rfl, rfl, SqT.of hsa, atI_nat (j := 0) rfl, rfl, _, rfl, iteFe (by decide +kernel) ?_⟩
      refine ⟨_, rfl, sa, _, _, _, rfl, rfl, SqT.of hsa, atI_nat (j := 0) rfl, rfl, _, rfl, iteFe (by decide +kernel) ?_⟩
      exact ⟨ad, asked, ws, _, _, _, _, rfl, sG, had, tds, by omega, hb3, keep⟩
    | read p =>
      unfold stepD at td1
      cases td1 with
      | @tup sa sxs _ hsa tsa =>
      cases tsa with
      | cons u0 tsa =>
      cases tsa with
      | cons u1 tsa =>
      cases tsa
      cases u0; cases u1
      have keep : pathsB (asked ++ [(p, ("" : Str), (0 : Int))]) (b.drop (i + 1)) = tot := etot
      refine ⟨_, rfl, sa, _, _, _, rfl, rfl, SqT.of hsa, atI_nat (j := 0) rfl, rfl, _, rfl, iteTe (by decide +kernel) ?_⟩
      refine ⟨_, rfl, _, rfl, sa, _, _, _, rfl, rfl, SqT.of hsa, atI_nat (j := 1) rfl, by show 3 ≤ sizeLine; decide, fun t3 h3 => ⟨by show 1 ≤ sizeLine; decide, fun t1 h1 => ?_⟩⟩
      exact more G1 (Same.refl _) p "" 0 t3 t1 h3 h1 fun l2 H6 s6 ws6 hl2 t6 => ⟨l2, asked ++ [(p, ("" : Str), (0 : Int))], ws6, _, _, _, _, rfl, sG.trans s6, hl2, t6, by rw [List.length_append]; simp [swt] at lw ⊢; omega, hb3, keep⟩
    | call f p =>
      unfold stepD at td1
      cases td1 with
      | @tup sa sxs _ hsa tsa =>
      cases tsa with
      | cons u0 tsa =>
      cases tsa with
      | cons u1 tsa =>
      cases tsa with
      | cons u2 tsa =>
      cases tsa
      cases u0; cases u1; cases u2
      have keep : pathsB (asked ++ [(p, f, (0 : Int))]) (b.drop (i + 1)) = tot := etot
      refine ⟨_, rfl, sa, _, _, _, rfl, rfl, SqT.of hsa, atI_nat (j := 0) rfl, rfl, _, rfl, iteFe (by decide +kernel) ?_⟩
      refine ⟨_, rfl, sa, _, _, _, rfl, rfl, SqT.of hsa, atI_nat (j := 0) rfl, rfl, _, rfl, iteTe (by decide +kernel) ?_⟩
      refine ⟨_, rfl, _, rfl, sa, _, _, _, rfl, rfl, SqT.of hsa, atI_nat (j := 2) rfl, _, rfl, sa, _, _, _, rfl, rfl, SqT.of hsa, atI_nat (j := 1) rfl, by show 3 ≤ sizeLine; decide, fun t3 h3 => ⟨by show 1 ≤ sizeLine; decide, fun t1 h1 => ?_⟩⟩
      exact more G1 (Same.refl _) p f 0 t3 t1 h3 h1 fun l2 H6 s6 ws6 hl2 t6 => ⟨l2, asked ++ [(p, f, (0 : Int))], ws6, _, _, _, _, rfl, sG.trans s6, hl2, t6, by rw [List.length_append]; simp [swt] at lw ⊢; omega, hb3, keep⟩
    | br p c ba bb =>
      unfold stepD at td1
      unfold OddOkS at odi
      rw [sdep] at bdi
      rw [swt] at lw
      rw [stepB_br] at hb2
      simp only [Bool.and_eq_true] at hb2
      obtain ⟨⟨⟨⟨⟨_, _⟩, _⟩, _⟩, ok1⟩, ok2⟩ := hb2
      unfold bodyOk at ok1 ok2
      rw [Bool.and_eq_true] at ok1 ok2
      cases td1 with
      | @tup sa sxs _ hsa tsa =>
      cases tsa with
      | cons u0 tsa =>
      cases tsa with
      | cons u1 tsa =>
      cases tsa with
      | cons u2 tsa =>
      cases tsa with
      | cons ua tsa =>
      cases tsa with
      | cons ub tsa =>
      cases tsa
      cases u0; cases u1; cases u2
      rename_i va vb
      cases n with
      | zero => omega
      | succ n =>
      refine ⟨_, rfl, sa, _, _, _, rfl, rfl, SqT.of hsa, atI_nat (j := 0) rfl, rfl, _, rfl, iteFe (by decide +kernel) ?_⟩
      refine ⟨_, rfl, sa, _, _, _, rfl, rfl, SqT.of hsa, atI_nat (j := 0) rfl, rfl, _, rfl, iteFe (by decide +kernel) ?_⟩
      refine ⟨_, rfl, sa, _, _, _, rfl, rfl, SqT.of hsa, atI_nat (j := 0) rfl, rfl, _, rfl, iteTe (by decide +kernel) ?_⟩
      refine ⟨_, rfl, _, rfl, sa, _, _, _, rfl, rfl, SqT.of hsa, atI_nat (j := 1) rfl, by show 3 ≤ sizeLine; decide, fun t3 h3 => ⟨by show 1 ≤ sizeLine; decide, fun t1 h1 => more G1 (Same.refl _) p "" 0 t3 t1 h3 h1 fun bl H6 s6 ws6 hbl tbl => ?_⟩⟩
      have hsa6 := s6 _ _ hsa
      refine ⟨_, rfl, _, rfl, sa, _, _, _, rfl, rfl, SqT.of hsa6, atI_nat (j := 1) rfl, _, rfl, sa, _, _, _, rfl, rfl, SqT.of hsa6, atI_nat (j := 2) rfl, by show 3 ≤ sizeLine; decide, fun t4 h4 => ⟨by show 1 ≤ sizeLine; decide, fun t5 h5 => more H6 s6 p "" c t4 t5 h4 h5 fun ol H7 s7 ws7 hol tol => ?_⟩⟩
      have s17 := s6.trans s7
      have hbl7 := s7 _ _ hbl
      have tbl7 := TdAll.mono (tups_of s7) tbl
      have lbl := tbl.length
      have lol := tol.length
      rw [List.length_map, List.length_append] at lbl lol
      simp only [List.length_cons, List.length_nil] at lbl lol
      obtain ⟨_, len1⟩ := pathsB_len ba []
      obtain ⟨_, len2⟩ := pathsB_len bb []
      have cnt1 := (pathsB_len ba []).1
      have cnt2 := (pathsB_len bb []).1
      refine ⟨_, rfl, sa, _, _, _, rfl, rfl, SqT.of (s7 _ _ hsa6), atI_nat (j := 3) rfl, va, ba, r, as2 ++ [p], rfl, ua.mono (tups_of s17), ok1.2, odi.1, by omega, by omega, by omega, fun L1 H8 s8 nL1 hL1 => ?_⟩
      obtain ⟨us1, hu1, al1⟩ := id hL1
      refine ⟨L1, rfl, ⟨_, .inl (.inl hu1)⟩, fun D1 hD1 => lc_it (walk_list (K := K) (a := L1) (xs := us1)) (fun j G5 => Same H8 G5 ∧ ∃ acc, G5 D1 = some (.lst acc) ∧ All2 (fun v p => Td G5 v (pathD p)) acc (((pathsB [] ba).take j).map fun r => (asked ++ [(p, ("" : Str), (0 : Int))]) ++ r)) ⟨same_new hD1, [], upd_same, All2.nil⟩ (fun j G5 _ z => .inl (.inl (z.1 _ _ hu1))) ?_ ?_⟩
      · rintro j z G5 G6 hj ⟨s9, acc, hacc, ala⟩ ⟨rfl, hz2⟩
        obtain ⟨pp, hpp, tpp⟩ := al1.get hz2
        have lpp := len1 pp (List.mem_of_getElem? hpp)
        have lj := (List.getElem?_eq_some_iff.mp hpp).1
        have lacc := ala.1
        rw [List.length_map, List.length_take] at lacc
        simp only [List.length_nil] at lpp
        have tpp5 := tpp.mono (tups_of s9)
        obtain ⟨pa, pxs, rfl, hpa, tpa⟩ := td_tup tpp5
        have lpx := tpa.length
        rw [List.length_map] at lpx
        refine ⟨rfl, _, rfl, _, rfl, catA_read ((s8.trans s9) _ _ hbl7) hpa (by omega) fun l9 H9 s10 h9 => ⟨acc, s10 _ _ hacc, small1000 (by omega), same_mut (s9.trans s10) hD1, _, upd_same, ?_⟩⟩
        have nD : H9 D1 = some (.lst acc) := s10 _ _ hacc
        have tu := tups_upd (H := H9) (p := D1) (o := .lst (acc ++ [V.ref l9])) fun u f zz => by rw [nD] at zz; cases zz; exact f
        rw [take_succ_of hpp, List.map_append]
        refine (ala.mono fun _ _ zz => (zz.mono (tups_of s10)).mono tu).snoc ?_
        refine Td.mono tu (.tup h9 ?_)
        show TdAll H9 _ (List.map triD ((asked ++ [(p, ("" : Str), (0 : Int))]) ++ pp))
        rw [List.map_append]
        exact tdAll_app2 (TdAll.mono (tups_of ((s8.trans s9).trans s10)) tbl7) (TdAll.mono (tups_of s10) tpa)
      rintro G9 ⟨s9, acc1, hacc1, ala1⟩
      rw [al1.1, List.take_length] at ala1
      have s79 := s8.trans s9
      have s19 := s17.trans s79
      refine ⟨_, rfl, sa, _, _, _, rfl, rfl, SqT.of (s79 _ _ (s7 _ _ hsa6)), atI_nat (j := 4) rfl, vb, bb, r, as2 ++ [p], rfl, ub.mono (tups_of s19), ok2.2, odi.2, by omega, by omega, by omega, fun L2 HA sA nL2 hL2 => ?_⟩
      have s7A := s79.trans sA
      obtain ⟨us2, hu2, al2⟩ := id hL2
      refine ⟨L2, rfl, ⟨_, .inl (.inl hu2)⟩, fun D2 hD2 => lc_it (walk_list (K := K) (a := L2) (xs := us2)) (fun j G5 => Same HA G5 ∧ ∃ acc, G5 D2 = some (.lst acc) ∧ All2 (fun v p => Td G5 v (pathD p)) acc (((pathsB [] bb).take j).map fun r => (asked ++ [(p, ("" : Str), c)]) ++ r)) ⟨same_new hD2, [], upd_same, All2.nil⟩ (fun j G5 _ z => .inl (.inl (z.1 _ _ hu2))) ?_ ?_⟩
      · rintro j z G5 G6 hj ⟨s9, acc, hacc, ala⟩ ⟨rfl, hz2⟩
        obtain ⟨pp, hpp, tpp⟩ := al2.get hz2
        have lpp := len2 pp (List.mem_of_getElem? hpp)
        have lj := (List.getElem?_eq_some_iff.mp hpp).1
        have lacc := ala.1
        rw [List.length_map, List.length_take] at lacc
        simp only [List.length_nil] at lpp
        have tpp5 := tpp.mono (tups_of s9)
        obtain ⟨pa, pxs, rfl, hpa, tpa⟩ := td_tup tpp5
        have lpx := tpa.length
        rw [List.length_map] at lpx
        refine ⟨rfl, _, rfl, _, rfl, catA_read ((s7A.trans s9) _ _ hol) hpa (by omega) fun l9 H9 s10 h9 => ⟨acc, s10 _ _ hacc, small1000 (by omega), same_mut (s9.trans s10) hD2, _, upd_same, ?_⟩⟩
        have nD : H9 D2 = some (.lst acc) := s10 _ _ hacc
        have tu := tups_upd (H := H9) (p := D2) (o := .lst (acc ++ [V.ref l9])) fun u f zz => by rw [nD] at zz; cases zz; exact f
        rw [take_succ_of hpp, List.map_append]
        refine (ala.mono fun _ _ zz => (zz.mono (tups_of s10)).mono tu).snoc ?_
        refine Td.mono tu (.tup h9 ?_)
        show TdAll H9 _ (List.map triD ((asked ++ [(p, ("" : Str), c)]) ++ pp))
        rw [List.map_append]
        exact tdAll_app2 (TdAll.mono (tups_of ((s7A.trans s9).trans s10)) tol) (TdAll.mono (tups_of s10) tpa)
      rintro GB ⟨sB, acc2, hacc2, ala2⟩
      rw [al2.1, List.take_length] at ala2
      have lA1 := ala1.1
      have lA2 := ala2.1
      rw [List.length_map] at lA1 lA2
      have hacc1B := sB _ _ (sA _ _ hacc1)
      refine ⟨D1, D2, acc1, acc2, rfl, rfl, hacc1B, hacc2, Nat.le_of_lt (small1000 (by omega)), fun R hR => ?_⟩
      have sR := same_new (o := .lst (acc1 ++ acc2)) hR
      have sall := sG.trans (s17.trans (s7A.trans (sB.trans sR)))
      rw [pathsS] at etot
      dsimp only at etot
      refine q R _ sall (none_sm (sG.trans (s17.trans (s7A.trans sB))) hR) ⟨_, upd_same, ?_⟩
      rw [← etot]
      exact (ala1.mono fun _ _ z => z.mono (tups_of (sA.trans (sB.trans sR)))).app (ala2.mono fun _ _ z => z.mono (tups_of sR))
  · rintro σ G1 ⟨ad, asked, ws, as2, v2, v3, v4, rfl, sG, had, tds, lw, hbv, etot⟩
    rw [lx, List.drop_length, pathsB] at etot
    refine ⟨_, rfl, by show 1 ≤ sizeLine; decide, fun l hl => ?_⟩
    have s2 := same_new (o := .lst [V.ref ad]) hl
    refine q l _ (sG.trans s2) (none_sm sG hl) ⟨_, upd_same, ?_⟩
    rw [← etot]
    exact All2.snoc All2.nil (.tup (s2 _ _ had) (TdAll.mono (tups_of s2) tds))
theorem okPaths (T : Tx K mg) (F : FnP K ("paths_of", none) "paths_of" "paths_of" s_paths_of fd) : ∀ n, FnOk P w K mg base CX0 (n + 2) (He.fAd K ("paths_of", none)) fd p_paths_of (spPathsN n)
  | 0 => ok_pth (n := 0) T ⟨fun vs H Q E h => False.elim h, fun A outer s H args us vs Q E hr e0 hb r h => False.elim h⟩ (by decide) F
  | n + 1 => ok_pth (n := n + 1) T (okPaths T F n) (by omega) F
end
end Bg
set_option Elab.async false
set_option linter.all false
set_option maxRecDepth 100000
set_option maxHeartbeats 2000000
namespace Bg
open PySem PySem.Spec PyProof.Rows L2
/-! ### comprehensions of two clauses -/
theorem in_it {J : It} {n : Nat} {G : Hp → Prop} {Y : Nat → Hp → V → Hp → Prop} (w : Walk J n G Y) {g : TG} {tt : TT} {te : TE} {vs : List Nat} {σ : L2.St} {H1 : Hp} {D : Addr} {Qd : Hp → Prop} (Pv : Nat → Hp → Prop) (h0 : Pv 0 H1) (hG : ∀ i H, i ≤ n → Pv i H → G H)
    (hs : ∀ i x H H', i < n → Pv i H → Y i H x H' → g x (wipe σ vs) H' fun σ2 H2 => wipe σ2 vs = wipe σ vs ∧ tt σ2 H2 fun b H3 => if b = true then te σ2 H3 fun y H4 => ∃ acc, H4 D = some (.lst acc) ∧ acc.length < sizeLine ∧ Pv (i + 1) (upd H4 D (.lst (acc ++ [y]))) else Pv (i + 1) H3)
    (hd : ∀ H, Pv n H → Qd H) :
    ∃ W : Nat → Nat → Hp → Prop, (∃ m, W 0 m H1) ∧ ∀ i m H, W i m H → (J.stop i H ∧ Qd H) ∨ (J.go i H ∧ ∃ Nx : Hp → Prop, (∀ H', Nx H' → ∃ m', m' < m ∧ W (i + 1) m' H') ∧ ∀ x H', J.yld i H x H' → g x (wipe σ vs) H' fun σ2 H2 => wipe σ2 vs = wipe σ vs ∧ tt σ2 H2 fun b H3 =>
        if b = true then te σ2 H3 fun y H4 => ∃ acc, H4 D = some (.lst acc) ∧ acc.length < sizeLine ∧ Nx (upd H4 D (.lst (acc ++ [y]))) else Nx H3) := by
  refine ⟨fun i m H => (m = n - i ∧ i ≤ n) ∧ Pv i H, ⟨n, ⟨rfl, Nat.zero_le _⟩, h0⟩, fun i m H ⟨⟨em, hi⟩, p⟩ => ?_⟩
  subst em
  rcases Nat.lt_or_ge i n with lt | ge
  · exact .inr ⟨w.goes i H lt (hG i H hi p), Pv (i + 1), fun H' p' => ⟨n - (i + 1), by omega, ⟨rfl, lt⟩, p'⟩, fun x H' y => hs i x H H' lt p (w.yields i H x H' lt (hG i H hi p) y)⟩
  · obtain rfl : i = n := by omega
    exact .inl ⟨w.stops H (hG i H hi p), hd H p⟩
/-- the outer walk: its turn says what the inner walk keeps -/
theorem out_it {J : It} {n : Nat} {G : Hp → Prop} {Y : Nat → Hp → V → Hp → Prop} (w : Walk J n G Y) {H1 : Hp} {R : (Hp → Prop) → Nat → V → Hp → Prop} {Qd : Hp → Prop} (Pv : Nat → Hp → Prop) (h0 : Pv 0 H1) (hG : ∀ i H, i ≤ n → Pv i H → G H) (hs : ∀ i x H H', i < n → Pv i H → Y i H x H' → R (Pv (i + 1)) i x H')
    (hd : ∀ H, Pv n H → Qd H) : ∃ W : Nat → Nat → Hp → Prop, (∃ m, W 0 m H1) ∧ ∀ i m H, W i m H → (J.stop i H ∧ Qd H) ∨ (J.go i H ∧ ∃ Nx : Hp → Prop, (∀ H', Nx H' → ∃ m', m' < m ∧ W (i + 1) m' H') ∧ ∀ x H', J.yld i H x H' → R Nx i x H') := by
  refine ⟨fun i m H => (m = n - i ∧ i ≤ n) ∧ Pv i H, ⟨n, ⟨rfl, Nat.zero_le _⟩, h0⟩, fun i m H ⟨⟨em, hi⟩, p⟩ => ?_⟩
  subst em
  rcases Nat.lt_or_ge i n with lt | ge
  · exact .inr ⟨w.goes i H lt (hG i H hi p), Pv (i + 1), fun H' p' => ⟨n - (i + 1), by omega, ⟨rfl, lt⟩, p'⟩, fun x H' y => hs i x H H' lt p (w.yields i H x H' lt (hG i H hi p) y)⟩
  · obtain rfl : i = n := by omega
    exact .inl ⟨w.stops H (hG i H hi p), hd H p⟩
theorem flat_take {α β : Type} (f : α → List β) {l : List α} {i : Nat} {x : α} (h : l[i]? = some x) : (l.take (i + 1)).flatMap f = (l.take i).flatMap f ++ f x := by
  rw [take_succ_of h, List.flatMap_append]; simp
theorem flat_len {α β : Type} (f : α → List β) (b : Nat) : ∀ (l : List α), (∀ x ∈ l, (f x).length ≤ b) → (l.flatMap f).length ≤ b * l.length
  | [], _ => by simp
  | a :: r, h => by
    rw [List.flatMap_cons, List.length_append, List.length_cons]
    have := flat_len f b r fun x hx => h x (List.mem_cons_of_mem _ hx)
    have := h a (List.mem_cons_self ..)
    rw [Nat.mul_add]; omega
end Bg
set_option Elab.async false
set_option linter.all false
set_option maxRecDepth 100000
set_option maxHeartbeats 4000000
/-! asked_parts -/
namespace Bg
open PySem PySem.Spec PyProof.Rows L2
def prD2 (p : Str × Str) : PyData := .tuple [.str p.1, .str p.2]
def AskedAt (H : Hp) (a : Addr) (ps : List (Str × Str)) : Prop := ∃ us, H a = some (.lst us) ∧ All2 (fun v p => Td H v (prD2 p)) us ps
section
variable {P : Program} {w : World} {K : PySem.W.Frag} {mg : Str → Option Value} {base : Heap} {fd : FuncData}
def spAskedN : Sp := fun vs H Q _ => ∃ (v : V) (b : Body) (r : Row) (as : List Str), vs = [v] ∧ Td H v (bodyD b) ∧ bodyB r as b = true ∧ OddOk b ∧ bdep b ≤ 8 ∧ bwt b ≤ 1000 ∧ ∀ a H', Same H H' → H a = none → AskedAt H' a (askedB b) → Q (.ref a) H'
theorem ok_asked (T : Tx K mg) (F : FnP K ("asked_parts", none) "asked_parts" "asked_parts" s_asked_parts fd) : FnOk P w K mg base CX0 11 (He.fAd K ("asked_parts", none)) fd p_asked_parts spAskedN := by
  obtain ⟨fp, Fp⟩ := T.F_paths_of
  have G := okPaths (P := P) (w := w) (mg := mg) (base := base) T Fp 8
  refine F.ok (k := 10) sc_asked_parts (fun vs H Q E h => ?_) (fun cdv A outer s H vs Q E hr h => ?_)
  · obtain ⟨_, _, _, _, rfl, _⟩ := h; rfl
  obtain ⟨v, b, r, as, rfl, td, hbb, od, bd, hw, q⟩ := h
  have cnt := (pathsB_len b []).1
  have len := (pathsB_len b []).2
  let fl : List (List Tri) → List (Str × Str) := fun l => l.flatMap fun p => p.map fun t => (t.1, t.2.1)
  have big : 100000 < sizeLine := by rw [sizeLine_eq]; decide
  have nd := sc_asked_parts.nd
  refine ⟨_, PSs.nox (pss_one (ps_ret (pe_lc2 (own := [("path", 1), ("part", 2), ("called", 3), ("low", 4)]) (vs1 := [2, 3, 4]) (g := gName 1) (g1 := (gTup K 3 (gCons (gName 2) (gCons (gName 3) (gCons (gName 4) gNil))))) (wi1 := iTup K _) rfl nd (pi_list (pe_call G (hr.mono (by omega)) (by rfl) T.g_paths_of T.k_paths_of (b_paths_of Fp) .nil pass0 (pa_cons (pv 0) pa_nil))) (blkOk_by (N := ["body", "path", "part", "called", "low"]) (sc := defScope s_asked_parts) (by decide +kernel)) (by decide) (fun _ _ _ _ _ => (pg_name (i := 1) nd rfl (Or.inl rfl))) (fun _ _ _ _ _ => pts_nil) (fun _ _ _ _ _ => (pi_tup (pv 1))) (fun _ _ _ _ _ => (pg_tup rfl (pgs_cons (pg_name (i := 2) nd rfl (Or.inl rfl)) (pgs_cons (pg_name (i := 3) nd rfl (Or.inl rfl)) (pgs_cons (pg_name (i := 4) nd rfl (Or.inl rfl)) pgs_nil))))) (fun _ _ _ _ _ => pts_nil) (fun _ _ _ _ _ => (pe_tup (pa_cons (pv 2) (pa_cons (pv 3) pa_nil))))))), ?_⟩
  refine ⟨_, rfl, v, b, r, as, rfl, td, hbb, od, bd, by decide, hw, fun L1 H1 s1 nL hL => ?_⟩
  obtain ⟨us, hu, al⟩ := id hL
  refine ⟨L1, rfl, ⟨_, .inl (.inl hu)⟩, fun D hD => out_it (walk_list (K := K) (a := L1) (xs := us)) (fun i H2 => Same H1 H2 ∧ ∃ acc, H2 D = some (.lst acc) ∧ All2 (fun v p => Td H2 v (prD2 p)) acc (fl ((pathsB [] b).take i))) ⟨same_new hD, [], upd_same, All2.nil⟩ (fun i H2 _ z => .inl (.inl (z.1 _ _ hu))) ?_ ?_⟩
  · rintro i y H2 H3 hi ⟨s2, acc, hacc, ala⟩ ⟨rfl, hy⟩
    obtain ⟨p, hp, tp⟩ := al.get hy
    have lp := len p (List.mem_of_getElem? hp)
    simp only [List.length_nil] at lp
    have li := (List.getElem?_eq_some_iff.mp hp).1
    have efl : fl ((pathsB [] b).take (i + 1)) = fl ((pathsB [] b).take i) ++ p.map fun t => (t.1, t.2.1) := flat_take _ hp
    have bfl : (fl ((pathsB [] b).take i)).length ≤ 1000 * i := by
      refine Nat.le_trans (flat_len _ 1000 _ fun x hx => ?_) (Nat.mul_le_mul_left _ (by rw [List.length_take]; omega))
      have := len x (List.mem_of_mem_take hx)
      rw [List.length_map]; simp only [List.length_nil] at this; omega
    obtain ⟨pa, pxs, rfl, hpa, tpa⟩ := td_tup tp
    have lpx := tpa.length
    rw [List.length_map] at lpx
    refine ⟨rfl, ?_⟩
    refine ⟨_, rfl, pa, rfl, ⟨_, SqT.of (s2 _ _ hpa)⟩, in_it (walk_tup (K := K) (a := pa) (xs := pxs)) (fun j H5 => Same H1 H5 ∧ ∃ acc, H5 D = some (.lst acc) ∧ All2 (fun v p => Td H5 v (prD2 p)) acc (fl ((pathsB [] b).take i) ++ (p.take j).map fun t => (t.1, t.2.1))) ⟨s2, acc, hacc, by simpa using ala⟩ (fun j H5 _ z => SqT.of (z.1 _ _ hpa)) ?_ ?_⟩
    · rintro j z H5 H6 hj ⟨s5, acc5, hacc5, ala5⟩ ⟨rfl, hz⟩
      obtain ⟨d, hd, tdz⟩ := TdAll.at_ tpa hz
      rw [List.getElem?_map, Option.map_eq_some_iff] at hd
      obtain ⟨t3, ht3, rfl⟩ := hd
      obtain ⟨ta, txs, rfl, hta, tta⟩ := td_tup tdz
      cases tta with
      | cons u0 tta =>
      cases tta with
      | cons u1 tta =>
      cases tta with
      | cons u2 tta =>
      cases tta
      cases u0; cases u1; cases u2
      have lj := (List.getElem?_eq_some_iff.mp ht3).1
      have lacc := ala5.1
      rw [List.length_append, List.length_map, List.length_take] at lacc
      refine ⟨ta, _, rfl, .inl (.inl (s5 _ _ hta)), rfl, _, _, rfl, _, _, rfl, _, _, rfl, rfl, rfl, _, rfl, _, rfl, by show 2 ≤ sizeLine; decide, fun l2 hl2 => ?_⟩
      have s6 := same_new (o := .tup [V.str t3.1, V.str t3.2.1]) hl2
      have hD6 := s6 _ _ hacc5
      have tu := tups_upd (H := upd H6 l2 (.tup [V.str t3.1, V.str t3.2.1])) (p := D) (o := .lst (acc5 ++ [V.ref l2])) fun u f zz => by rw [hD6] at zz; cases zz; exact f
      refine ⟨acc5, hD6, by omega, same_mut (s5.trans s6) hD, _, upd_same, ?_⟩
      rw [take_succ_of ht3, List.map_append, ← List.append_assoc]
      exact (ala5.mono fun _ _ zz => (zz.mono (tups_of s6)).mono tu).snoc (Td.mono tu (.tup upd_same (.cons (.str _) (.cons (.str _) .nil))))
    rintro H5 ⟨s5, acc5, hacc5, ala5⟩
    rw [lpx, List.take_length] at ala5
    exact ⟨s5, acc5, hacc5, by rw [efl]; exact ala5⟩
  rintro H2 ⟨s2, acc, hacc, ala⟩
  rw [al.1, List.take_length] at ala
  exact q D H2 (s1.trans s2) (none_sm s1 hD) ⟨acc, hacc, ala⟩
end
end Bg
set_option Elab.async false
set_option linter.all false
set_option maxRecDepth 100000
set_option maxHeartbeats 2000000
/-! x = {k: v for ..} on one row: the name takes the dict while the block's names go -/
namespace Bg
open PySem PySem.Spec PyProof.Rows L2
variable {X : Cx}
theorem swd_true {kx vx : Expr} {gs : List Comprehension} {scope : Scope} {pos py : Pos} {y : Str} {l : Nat} {env : Env} (hk : env.scope.kind = .function) (hy : env.scope.names.lookup y = some .local) (hl : (py.line == pos.line) = true)
    (ha : (scope.names.any fun (n, k) => n == y && (k == .local || k == .cell)) = false) : swapsWith (.DictComp kx vx gs scope pos) (some (.Name y py)) l env = pure true := by
  have ky : env.kindOf y = some .local := hy
  have hb : env.blockKind = .function := by unfold Env.blockKind; rw [hk]; rfl
  unfold swapsWith
  simp only [hb, ky, ha, Expr.pos, hl]
  rfl
theorem ps_setDc {i : Nat} {y : Str} {py : Pos} {kx vx tg iter : Expr} {ifs : List Expr} {scope : Scope} {own : List (Str × Nat)} {pos spos : Pos} {wi : TI} {g : TG} {tt : TT} {tk tv : TE} (hc : X.calm = true) (hN : X.N.Nodup) (hy : X.N[i]? = some y) (hyl : X.env.scope.names.lookup y = some .local)
    (hsw : swapsWith (.DictComp kx vx [⟨tg, iter, ifs, 0⟩] scope pos) (some (.Name y py)) spos.line X.env = pure true) (hi : PI X tg iter wi) (ok : BlkOk X.N X.env.scope scope own)
    (hg : ∀ (s : Shared) (H : Hp) (C : Addr) (cl : List (Str × Addr)) (fp : List Addr), PG (X.blk s H scope (compEnvC scope cl C X.env) fp) tg g) (ht : ∀ (s : Shared) (H : Hp) (C : Addr) (cl : List (Str × Addr)) (fp : List Addr), PTs (X.blk s H scope (compEnvC scope cl C X.env) fp) ifs tt)
    (hk : ∀ (s : Shared) (H : Hp) (C : Addr) (cl : List (Str × Addr)) (fp : List Addr), PE (X.blk s H scope (compEnvC scope cl C X.env) fp) kx tk)
    (he : ∀ (s : Shared) (H : Hp) (C : Addr) (cl : List (Str × Addr)) (fp : List Addr), PE (X.blk s H scope (compEnvC scope cl C X.env) fp) vx tv) (hs : ∀ x, foldedSetIterable iter X.env x = pure x := by intro _; rfl) :
    PS X (.Assign [.Name y py] (.DictComp kx vx [⟨tg, iter, ifs, 0⟩] scope pos) spos) (tAsg (tDc wi g tt tk tv (own.map (·.2))) (gName i)) := by
  refine ⟨fun pins s σ H D I h => ?_⟩
  rw [exec_Assign_Name_used _ _ _ _ hsw]
  refine wpAny_bind (wpAny_standAt (wpAny_bind ?_))
  show wpAny _ X.A (do let _ ← comprehension (.DictComp kx vx [⟨tg, iter, ifs, 0⟩] scope pos) scope X.env (firstIterPos [⟨tg, iter, ifs, 0⟩] pos) newDict false (eval iter X.env) (some (assign (.Name y py) X.env))) _ _ s
  have h : tDc wi g tt tk tv (own.map (·.2)) σ H (fun x H1 => gName i x σ H1 D.nx) := h
  refine wpAny_bind (thn (dc_core (Qf := fun _ s' => SP X pins D .next s') hc hN I hi ok hg ht hk he hs h fun L C s' m H' I' q hn f => ?_) fun _ s' hq => wpAny_pure (wpAny_pure hq))
  show wpAny _ _ (assign (.Name y py) X.env (.ref L)) _ _ _
  refine wpAny_assign_Name (store_ok2 (v := V.ref L) I' hN hy (.inl hyl) rfl (fun s2 I2 ⟨a, sb, ha⟩ => ?_) (.inr hyl))
  obtain ⟨f0, f1, f2, f3, f4, f5⟩ := f
  have haC : C ≠ a := by
    rcases ha with z | z
    · rw [z]; exact f1
    · exact fun e => f4 y a z e.symm
  refine ⟨m, hn.sameBut sb haC, fun h3 sb3 => ?_⟩
  exact ⟨_, H', I2.turned (t' := s2.toks) (fun b o hb e => (sb3.2 b hb).trans e) f0 f1 f3 f4 f5, q⟩
end Bg
set_option Elab.async false
set_option linter.all false
set_option maxRecDepth 100000
set_option maxHeartbeats 4000000
/-! the functions that are called take what they are called on -/
namespace Bg
open PySem PySem.Spec PyProof.Rows L2
def takesOf (fs : List FRow) (n : Str) : Option Str := (fs.find? fun f => decide (f.1 = n)).map (·.2.1)
/-- each call of each body is of a function that takes the part's kind -/
def Called (rs : List Row) (fs : List FRow) : Prop := ∀ f ∈ fs, ∀ q ∈ f.2.2.2, ∃ r ∈ rs, r.2.1 = q.1 ∧ bodyOk r [] q.2 = true ∧ ∀ pr ∈ askedB q.2, ∃ p ∈ r.2.2, p.1 = pr.1 ∧ ((holdOf p).1 = ("byte" : Str) ∨ takesOf fs pr.2 = some (holdOf p).1)
theorem name_uniq : ∀ {fs : List FRow} {f g : FRow}, (fs.map (·.1)).Nodup → f ∈ fs → g ∈ fs → f.1 = g.1 → f = g
  | h :: fs, f, g, nd, hf, hg, e => by
    rw [List.map_cons, List.nodup_cons] at nd
    rcases List.mem_cons.mp hf with e1 | h1
    · rcases List.mem_cons.mp hg with e2 | h2
      · rw [e1, e2]
      · exact absurd (by rw [← e1, e]; exact List.mem_map_of_mem (f := fun f : FRow => f.1) h2) nd.1
    · rcases List.mem_cons.mp hg with e2 | h2
      · exact absurd (by rw [← e2, ← e]; exact List.mem_map_of_mem (f := fun f : FRow => f.1) h1) nd.1
      · exact name_uniq nd.2 h1 h2 e
section
variable {P : Program} {w : World} {K : PySem.W.Frag} {mg : Str → Option Value} {base : Heap} {fd : FuncData}
def spCalled (K : PySem.W.Frag) : Sp := fun vs H Q _ => ∃ (x a : Addr) (rs : List Row) (fs : List FRow), vs = [.ref x, .ref a] ∧ KindsF K H x rs ∧ ValidT rs ∧ FRowsAt H a fs ∧ FRowsOk fs ∧ (fs.map (·.1)).Nodup ∧ Called rs fs ∧ ∀ H', Same H H' → Q .non H'
theorem ok_called (T : Tx K mg) (F : FnP K ("check_called", none) "check_called" "check_called" s_check_called fd) : FnOk P w K mg base CX0 13 (He.fAd K ("check_called", none)) fd p_check_called (spCalled K) := by
  refine F.ok (k := 12) sc_check_called (fun vs H Q E h => ?_) (fun cdv A outer s H vs Q E hr h => ?_)
  · obtain ⟨_, _, _, _, rfl, _⟩ := h; rfl
  obtain ⟨x, a, rs, fs, rfl, hK, val, ⟨us, ha, al⟩, ok, nd1, hc, q⟩ := h
  have hu := hu_of hr
  obtain ⟨f1, F1⟩ := T.F_asked_parts
  obtain ⟨f2, F2⟩ := T.F_Kinds_inner
  obtain ⟨t_BYTE, m_BYTE⟩ := T.c_BYTE
  have nd := sc_check_called.nd
  refine ⟨_, PSs.nox (pss_cons (ps_setDc (i := 6) (own := [("name", 2), ("kind", 3), ("fold", 4), ("bodies", 5)]) (g := (gTup K 4 (gCons (gName 2) (gCons (gName 3) (gCons (gName 4) (gCons (gName 5) gNil)))))) (by rfl) nd rfl rfl (swd_true rfl rfl rfl (by decide +kernel)) (pi_list (pv 1)) (blkOk_by (N := ["kinds", "rows", "name", "kind", "fold", "bodies", "takes", "at", "maker", "body", "part", "called", "inner"]) (sc := defScope s_check_called) (by decide +kernel)) (fun _ _ _ _ _ => (pg_tup rfl (pgs_cons (pg_name (i := 2) nd rfl (Or.inl rfl)) (pgs_cons (pg_name (i := 3) nd rfl (Or.inl rfl)) (pgs_cons (pg_name (i := 4) nd rfl (Or.inl rfl)) (pgs_cons (pg_name (i := 5) nd rfl (Or.inl rfl)) pgs_nil)))))) (fun _ _ _ _ _ => pts_nil) (fun _ _ _ _ _ => (pv 2)) (fun _ _ _ _ _ => (pv 3)))
    (pss_one (ps_for PassesOwn.never rfl (pi_enum (by rfl) T.n_enumerate (pa_cons (pv 1) pa_nil)) (pg_tup rfl (pgs_cons (pg_name (i := 7) nd rfl (Or.inl rfl)) (pgs_cons (pg_tup rfl (pgs_cons (pg_name (i := 2) nd rfl (Or.inl rfl)) (pgs_cons (pg_name (i := 3) nd rfl (Or.inl rfl)) (pgs_cons (pg_name (i := 4) nd rfl (Or.inl rfl)) (pgs_cons (pg_name (i := 5) nd rfl (Or.inl rfl)) pgs_nil))))) pgs_nil)))
      (pss_one (ps_lock (ps_for PassesOwn.never rfl (pi_items (pv 5)) (pg_tup rfl (pgs_cons (pg_name (i := 8) nd rfl (Or.inl rfl)) (pgs_cons (pg_name (i := 9) nd rfl (Or.inl rfl)) pgs_nil)))
        (pss_one (ps_for PassesOwn.never rfl (pi_list (pe_call (ok_asked T F1) (hr.mono (by omega)) (by rfl) T.g_asked_parts T.k_asked_parts (b_asked_parts F1) .nil pass0 (pa_cons (pv 9) pa_nil))) (pg_tup rfl (pgs_cons (pg_name (i := 10) nd rfl (Or.inl rfl)) (pgs_cons (pg_name (i := 11) nd rfl (Or.inl rfl)) pgs_nil)))
          (pss_cons (ps_set (i := 12) nd rfl (.inl rfl) (pe_meth (pv 0) T.cl_Kinds T.m_Kinds_inner (okf_inner T F2) (hr.mono (by omega)) (b_Kinds_inner F2) .nil pass0 (pa_cons (pv 8) (pa_cons (pv 10) pa_nil))))
          (pss_one (ps_if (PW.pt (pw_and (pt_cmpR op_ne (pv 12) (pe_glob (v := .str "byte") (by rfl) m_BYTE ⟨_, rfl⟩) (nomark _)) (pw_and1 (pt_cmpR op_ne (pe_dget1 hu (pv 6) (pv 11) ⟨rfl, rfl, rfl, rfl⟩) (pv 12) (nomark _)))))
            (pss_one ps_never)
            pss_nil))))))))))), ?_⟩
  have few := ok.few
  -- what each function takes
  refine ⟨_, rfl, a, rfl, ⟨_, .inl (.inl ha)⟩, fun tk htk => dc_it (walk_list (K := K) (a := a) (xs := us)) (fun i H2 => Same H H2 ∧ ∃ kvs, H2 tk = some (.dK kvs) ∧ KD kvs ((fs.take i).map (·.1)) fun m v => ∃ f ∈ fs, f.1 = m ∧ v = .str f.2.1) ⟨same_new htk, [], upd_same, KD.nil⟩ (fun i H2 _ z => .inl (.inl (z.1 _ _ ha))) ?_ ?_⟩
  · rintro i y H2 H3 hi ⟨s2, kvs, hk, kd⟩ ⟨rfl, hy⟩
    obtain ⟨f, hf, b, d, rfl, hb, hB⟩ := al.get hy
    have lti := (List.getElem?_eq_some_iff.mp hf).1
    refine ⟨b, _, rfl, .inl (.inl (s2 _ _ hb)), rfl, _, _, rfl, _, _, rfl, _, _, rfl, _, _, rfl, rfl, ?_⟩
    have kl : kvs.length ≤ 1000 := by rw [kd.length, List.length_map, List.length_take]; omega
    have hnew : f.1 ∉ (fs.take i).map (·.1) := by
      rw [List.map_take]
      exact not_mem_take_of_nodup (i := i) nd1 (by rw [List.getElem?_map, hf]; rfl)
    refine ⟨rfl, _, rfl, _, rfl, kvs, Sum.inr f.1, rfl, hk, small1000 kl, same_mut s2 htk, _, upd_same, ?_⟩
    rw [take_succ_of hf, List.map_append]
    show KD _ ((fs.take i).map (·.1) ++ [f.1]) _
    rw [← addNew_of_not hnew]
    exact kd.put (fun j u _ hu => hu) ⟨f, List.mem_of_getElem? hf, rfl, rfl⟩
  rintro H2 ⟨s2, kvt, hkt, kdt⟩
  rw [al.1, List.take_length] at kdt
  refine ⟨_, rfl, a, us, rfl, .inl (.inl (s2 _ _ ha)), for_it (walk_enum (K := K) (a := a) (xs := us)) (fun i σ G => (∃ v2 v3 v4 v5 v7 v8 v9 v10 v11 v12, σ = [some (.ref x), some (.ref a), v2, v3, v4, v5, some (.ref tk), v7, v8, v9, v10, v11, v12]) ∧ Same H2 G)
    ⟨⟨_, _, _, _, _, _, _, _, _, _, rfl⟩, Same.refl _⟩ (fun i σ G _ z => .inl (.inl (z.2 _ _ (s2 _ _ ha)))) ?_ ?_⟩
  · rintro i z σ G1 G2 hi ⟨⟨v2, v3, v4, v5, v7, v8, v9, v10, v11, v12, rfl⟩, sG⟩ ⟨tp, x1, x2, rfl, ntp, rfl, e1, e2⟩
    cases e1
    obtain ⟨f, hf, b, d, rfl, hb, hB⟩ := al.get e2
    have hfm := List.mem_of_getElem? hf
    have s3 : Same H (upd G1 tp (.tup [.int (i : Nat), .ref b])) := s2.trans (sG.trans (same_new ntp))
    have s23 : Same H2 (upd G1 tp (.tup [.int (i : Nat), .ref b])) := sG.trans (same_new ntp)
    refine ⟨tp, _, rfl, .inl (.inl upd_same), rfl, _, _, rfl, _, _, rfl, ⟨b, _, rfl, .inl (.inl (s3 _ _ hb)), rfl, _, _, rfl, _, _, rfl, _, _, rfl, _, _, rfl, rfl, rfl, ?_⟩⟩
    obtain ⟨kvb, hd, kdb⟩ := hB
    have fok := ok.bod f hfm
    generalize hG3 : upd G1 tp (.tup [.int (i : Nat), .ref b]) = G3 at s3 s23
    have hd3 := s3 _ _ hd
    have ndk : (kvb.map (·.1)).Nodup := by rw [kdb.1]; exact (List.pairwise_map.mpr (fok.nd.imp fun h e => h (by injection e)))
    refine ⟨d, .dK kvb, hd3, trivial, fun o2 => ?_⟩
    have imm : Imms G3 (upd G3 d (.frz o2 (.dK kvb))) := imms_upd (notImm_dK hd3)
    have hx3 : KindsF K (upd G3 d (.frz o2 (.dK kvb))) x rs := (hK.same s3).mono imm fun o e => by
      obtain ⟨_, _, _, _, _, _, _, h0, _⟩ := hK.same s3
      rw [upd_ne (fun z => by rw [z, hd3] at h0; cases h0)]; exact e
    have ntd : tk ≠ d := (ne_of_none hd htk).symm
    have hk3 : (upd G3 d (.frz o2 (.dK kvb))) tk = some (.dK kvt) := by rw [upd_ne ntd]; exact s23 _ _ hkt
    have tu : Tups G3 (upd G3 d (.frz o2 (.dK kvb))) := tups_upd fun u ff z => by rw [hd3] at z; cases z; exact ff
    generalize hGL : upd G3 d (.frz o2 (.dK kvb)) = GL at hx3 hk3 tu
    have hdL : GL d = some (.frz o2 (.dK kvb)) := by rw [← hGL, upd_same]
    refine ⟨_, rfl, d, o2, kvb, rfl, hdL, for_it (walk_items (d := d) (o := o2) (kvs := kvb)) (fun j σ G5 => (∃ w8 w9 w10 w11 w12, σ = [some (.ref x), some (.ref a), some (.str f.1), some (.str f.2.1), some (.str f.2.2.1), some (.ref d), some (.ref tk), some (.int (i : Nat)), w8, w9, w10, w11, w12]) ∧ Same GL G5)
      ⟨⟨_, _, _, _, _, rfl⟩, Same.refl _⟩ (fun j σ G5 _ z => z.2 _ _ hdL) ?_ ?_⟩
    · rintro j z σ G5 G6 hj ⟨⟨w8, w9, w10, w11, w12, rfl⟩, s5⟩ ⟨tq, y1, y2, rfl, ntq, rfl, g1, g2⟩
      obtain ⟨kv, hkv⟩ : ∃ kv, kvb[j]? = some kv := ⟨_, List.getElem?_eq_getElem hj⟩
      dsimp only at g1 g2
      rw [hkv] at g1 g2
      obtain ⟨m, hm, ekv⟩ := kdb.at hkv
      obtain ⟨kk, v⟩ := kv
      cases ekv
      cases g1; cases g2
      obtain ⟨bd, ebd, tbd⟩ := kdb.2 m v (valV_of_mem ndk (List.mem_of_getElem? hkv))
      obtain ⟨qq, hqm, eq1, eq2⟩ := bodyIn_mem ebd
      obtain ⟨r, hr', er, bok, call⟩ := hc f hfm qq hqm
      subst eq1 eq2
      unfold bodyOk at bok
      rw [Bool.and_eq_true] at bok
      have s56 := s5.trans (same_new (o := .tup [V.str qq.1, v]) ntq)
      have tbd6 := ((tbd.mono (tups_of s3)).mono tu).mono (tups_of s56)
      refine ⟨tq, _, rfl, .inl (.inl upd_same), rfl, _, _, rfl, _, _, rfl, rfl, ?_⟩
      refine ⟨_, rfl, v, qq.2, r, [], rfl, tbd6, bok.2, fok.odd qq hqm, fok.dep qq hqm, fok.wt qq hqm, fun L1 H6 s6 nL hL => ?_⟩
      obtain ⟨ul, hul, all⟩ := hL
      have s66 := s56.trans s6
      refine ⟨L1, rfl, ⟨_, .inl (.inl hul)⟩, for_it (walk_list (K := K) (a := L1) (xs := ul)) (fun c σ G7 => (∃ w10 w11 w12, σ = [some (.ref x), some (.ref a), some (.str f.1), some (.str f.2.1), some (.str f.2.2.1), some (.ref d), some (.ref tk), some (.int (i : Nat)), some (.str qq.1), some v, w10, w11, w12]) ∧ Same H6 G7)
        ⟨⟨_, _, _, rfl⟩, Same.refl _⟩ (fun c σ G7 _ z => .inl (.inl (z.2 _ _ hul))) ?_ ?_⟩
      · rintro c z σ G7 G8 hc2 ⟨⟨w10, w11, w12, rfl⟩, s7⟩ ⟨rfl, hz⟩
        obtain ⟨pr, hpr, tpr⟩ := all.get hz
        obtain ⟨p, hpm, ep, ok2⟩ := call pr (List.mem_of_getElem? hpr)
        obtain ⟨ta, txs, rfl, hta, tta⟩ := td_tup tpr
        cases tta with
        | cons u0 tta =>
        cases tta with
        | cons u1 tta =>
        cases tta
        cases u0; cases u1
        have s67 := s66.trans s7
        have hx7 := hx3.same s67
        obtain ⟨dx, dm, dk, dp, dl, tn, to, h0, _⟩ := id hx7
        refine ⟨ta, _, rfl, .inl (.inl (s7 _ _ hta)), rfl, _, _, rfl, _, _, rfl, rfl, ?_⟩
        refine ⟨_, rfl, x, dx, _, rfl, h0, kF_none (by decide +kernel), _, rfl, _, rfl, x, rs, r, p, by rw [er, ep] <;> rfl, hx7, val, hr', hpm, ?_⟩
        refine ⟨_, rfl, rfl, _, rfl, ?_⟩
        by_cases hby : (holdOf p).1 = ("byte" : Str)
        · exact iteFe (by rw [eqStr, decide_eq_true hby]; rfl) ⟨⟨_, _, _, rfl⟩, s7⟩
        refine iteTe (by rw [eqStr, decide_eq_false hby]; rfl) ?_
        have htk := ok2.resolve_left hby
        unfold takesOf at htk
        rw [Option.map_eq_some_iff] at htk
        obtain ⟨f1', hf1, ek⟩ := htk
        have hf1m := List.mem_of_find?_eq_some hf1
        have en1 : f1'.1 = pr.2 := of_decide_eq_true (List.find?_some (p := fun f : FRow => decide (f.1 = pr.2)) hf1)
        obtain ⟨v2', ev, f2', hf2, en2, rfl⟩ := kdt.some (show pr.2 ∈ fs.map (·.1) from en1 ▸ List.mem_map_of_mem hf1m)
        have ef : f2'.2.1 = (holdOf p).1 := by
          rw [← ek]
          have := name_uniq nd1 hf2 hf1m (en2.trans en1.symm)
          rw [this]
        have hk7 := s67 _ _ hk3
        refine ⟨_, rfl, tk, rfl, .inl ⟨kvt, .inl hk7⟩, _, rfl, _, DGet.k (k := Sum.inr pr.2) hk7, ?_⟩
        rw [ev]
        refine ⟨_, rfl, rfl, _, rfl, iteFe ?_ ⟨⟨_, _, _, rfl⟩, s7⟩⟩
        show (!decide (V.str f2'.2.1 = V.str (holdOf p).1)) = false
        rw [eqStr, decide_eq_true ef]; rfl
      · rintro σ G7 ⟨⟨w10, w11, w12, rfl⟩, s7⟩
        exact ⟨⟨_, _, _, _, _, rfl⟩, s66.trans s7⟩
    · rintro σ G5 ⟨⟨w8, w9, w10, w11, w12, rfl⟩, s5⟩
      refine ⟨s5 _ _ hdL, ⟨_, _, _, _, _, _, _, _, _, _, rfl⟩, fun bb u e => ?_⟩
      by_cases eb : bb = d
      · subst eb
        have : u = .dK kvb := by
          have h1 := s23 _ _ e
          rw [hd3] at h1; exact (Option.some.inj h1).symm
        rw [upd_same, this]
      · rw [upd_ne eb]
        refine s5 _ _ ?_
        rw [← hGL, upd_ne eb]; exact s23 _ _ e
  · rintro σ G ⟨⟨v2, v3, v4, v5, v7, v8, v9, v10, v11, v12, rfl⟩, sG⟩
    exact q G (s2.trans sG)
end
end Bg
set_option Elab.async false
set_option linter.all false
set_option maxRecDepth 100000
set_option maxHeartbeats 8000000
namespace Bg
open PySem PySem.Spec PyProof.Rows L2
/-- the rows so far: n kinds done, and of the next one m makers, the base one among them or not -/
structure Half (ns : List Str) (rs : List Row) (n m : Nat) (b : Bool) : Prop where
  each : ∀ r ∈ rs, r.1 ∈ ns ∧ GN r.2.1 13 ∧ GP ns r.2.2
  makers : (rmakers rs).Nodup
  few : rs.length ≤ 3 * n + m
  base : ∀ j k, (j < n ∨ (j = n ∧ b = true)) → ns[j]? = some k → ∃ r ∈ rs, r.1 = k ∧ GP (ns.drop (j + 1)) r.2.2
section
variable {P : Program} {w : World} {K : PySem.W.Frag} {mg : Str → Option Value} {base : Heap} {fd : FuncData}
def spRows : Sp := fun vs H Q _ => ∃ (a : Addr), vs = [.ref a] ∧ PoolAt H a ∧ ∀ l rs ns H', But a H H' → PoolAt H' a → H l = none → RowsAt H' l rs → Draw ns rs → Q (.ref l) H'
theorem ok_rows (T : Tx K mg) (F : FnP K ("_law_rows", none) "_law_rows" "_law_rows" s__law_rows fd) : FnOk P w K mg base CX0 3 (He.fAd K ("_law_rows", none)) fd ["_law_pool_here"] spRows := by
  obtain ⟨f1, F1⟩ := T.F__law_take
  obtain ⟨f2, F2⟩ := T.F__law_name
  obtain ⟨f3, F3⟩ := T.F__law_parts
  refine F.ok sc__law_rows (fun vs H Q E h => ?_) (fun cdv A outer s H vs Q E hr h => ?_)
  · obtain ⟨_, rfl, _⟩ := h; rfl
  obtain ⟨a, rfl, hP, q⟩ := h
  have nd := sc__law_rows.nd
  have hr1 : Room 1 _ := hr.mono (by decide)
  refine ⟨_, PSs.nox (pss_cons (ps_set (i := 1) nd rfl (.inl rfl) (pe_call (ok_take T F1) hr1 (by rfl) T.g_law_take T.k_law_take (b__law_take F1) .nil pass0 (pa_cons (pv 0) (pa_cons pe_int pa_nil))))
    (pss_cons (ps_set (i := 2) nd rfl (.inl rfl) (pe_lst pa_nil))
    (pss_cons (ps_for PassesOwn.never rfl (pi_range1 rfl T.n_range (pa_cons (pe_op op_add pe_int (pe_call (ok_take T F1) hr1 (by rfl) T.g_law_take T.k_law_take (b__law_take F1) .nil pass0 (pa_cons (pv 0) (pa_cons pe_int pa_nil)))) pa_nil)) (pg_name (i := 3) nd rfl (.inl rfl))
      (pss_one (ps_expr (pe_bm PySem.F.plainAttrs_list PySem.F.slot_list_append PySem.F.type_list_append mt_append (pv 2)
        (pa_cons (pe_call (ok_name T F2) hr1 (by rfl) T.g_law_name T.k_law_name (b__law_name F2) .nil pass0 (pa_cons (pv 1) (pa_cons (pv 3) (pa_cons (pe_op op_cat (pe_lst (pa_cons pe_str pa_nil)) (pv 2)) pa_nil)))) pa_nil)))))
    (pss_cons (ps_set (i := 4) nd rfl (.inl rfl) (pe_lst pa_nil))
    (pss_cons (ps_for PassesOwn.never rfl (pi_range1 rfl T.n_range (pa_cons (pe_callB call_len_seq (by rfl) T.n_len PySem.boot_len (pa_cons (pv 2) pa_nil)) pa_nil)) (pg_name (i := 3) nd rfl (.inl rfl))
      (pss_cons (ps_set (i := 5) nd rfl (.inl rfl) (pe_op op_add pe_int (pe_op op_mod (pe_callTy call_int1 (by rfl) T.n_int (by decide +kernel) (pa_cons (pe_op op_add pe_int (pe_call (ok_take T F1) hr1 (by rfl) T.g_law_take T.k_law_take (b__law_take F1) .nil pass0 (pa_cons (pv 0) (pa_cons pe_int pa_nil)))) pa_nil)) pe_int)))
      (pss_cons (ps_set (i := 6) nd rfl (.inl rfl) (pe_call (ok_take T F1) hr1 (by rfl) T.g_law_take T.k_law_take (b__law_take F1) .nil pass0 (pa_cons (pv 0) (pa_cons (pv 5) pa_nil))))
      (pss_one (ps_for PassesOwn.never rfl (pi_range1 rfl T.n_range (pa_cons (pv 5) pa_nil)) (pg_name (i := 7) nd rfl (.inl rfl))
        (pss_cons (ps_set (i := 8) nd rfl (.inl rfl) (pe_call (ok_name T F2) hr1 (by rfl) T.g_law_name T.k_law_name (b__law_name F2) .nil pass0 (pa_cons (pe_op op_fdiv (pv 1) pe_int) (pa_cons (pe_callB call_len_seq (by rfl) T.n_len PySem.boot_len (pa_cons (pv 4) pa_nil))
            (pa_cons (pe_lc (own := [("_law_row", 11)]) (g := gName 11) (tt := tYes) (te := tOp (rIxT K) (tVar 11) (tC (.int 1))) rfl nd (pi_list (pv 4)) (blkOk_by (N := ["_law_pool_here", "_law_seed", "_law_names", "_law_k", "_law_rows_here", "_law_count", "_law_base_here", "_law_at", "_law_maker", "_law_inner", "_law_turn", "_law_row"]) (sc := defScope s__law_rows) (by decide +kernel))
              (fun _ _ _ _ _ => pg_name (i := 11) nd rfl (Or.inl rfl)) (fun _ _ _ _ _ => pts_nil) (fun _ _ _ _ _ => pe_ix (r := rIxT K) ix_tup (pv 11) pe_int (fun _ _ => rfl))) pa_nil)))))
        (pss_cons (ps_set (i := 9) nd rfl (.inl rfl) (pv 2))
        (pss_cons (ps_if (pt_cmpR op_eq (pv 7) (pv 6) (nomark _)) (pss_one (ps_set (i := 9) nd rfl (.inl rfl) (pe_slice sl_list (pv 2) (po_some (pe_op op_add (pv 3) pe_int)) po_none))) pss_nil)
        (pss_one (ps_expr (pe_bm PySem.F.plainAttrs_list PySem.F.slot_list_append PySem.F.type_list_append mt_append (pv 4) (pa_cons (pe_tup (pa_cons (pe_ix ix_list (pv 2) (pv 3) (fun _ _ => rfl)) (pa_cons (pv 8)
          (pa_cons (pe_call (ok_lparts T F3) hr (by rfl) T.g_law_parts T.k_law_parts (b__law_parts F3) .nil pass0 (pa_cons (pv 0) (pa_cons (pe_op op_add (pe_op op_fdiv (pv 1) pe_int) (pe_op op_fdiv (pe_callB call_len_seq (by rfl) T.n_len PySem.boot_len (pa_cons (pv 4) pa_nil)) pe_int))
            (pa_cons (pv 9) (pa_cons (pe_cmpR op_eq (pv 7) (pv 6) (nomark _)) pa_nil))))) pa_nil)))) pa_nil))))))))))))
    (pss_cons (ps_set (i := 10) nd rfl (.inl rfl) (pe_call (ok_take T F1) hr1 (by rfl) T.g_law_take T.k_law_take (b__law_take F1) .nil pass0 (pa_cons (pv 0) (pa_cons (pe_callB call_len_seq (by rfl) T.n_len PySem.boot_len (pa_cons (pv 4) pa_nil)) pa_nil))))
    (pss_one (ps_ret (pe_op op_cat (pe_slice sl_list (pv 4) (po_some (pv 10)) po_none) (pe_slice sl_list (pv 4) po_none (po_some (pv 10)))))))))))), ?_⟩
  -- seed, names
  refine ⟨_, rfl, a, _, rfl, hP, by decide, fun sd H1 sd0 sd1 b1 hP1 => ?_⟩
  refine ⟨Nat.zero_le _, fun tn htn => ?_⟩
  have nat : a ≠ tn := hP1.ne_new htn
  have bt : But a H (upd H1 tn (.lst [])) := b1.trans (but_of (same_new htn))
  have hP2 : PoolAt (upd H1 tn (.lst [])) a := hP1.upd nat
  have htn0 : H tn = none := by
    cases e : H tn with
    | none => rfl
    | some o => exact absurd (b1 _ _ nat.symm e) (by rw [htn]; exact fun z => nomatch z)
  refine ⟨_, rfl, a, 3, rfl, hP2, by decide, fun z3 H3 z30 z31 b3 hP3 => ⟨_, _, rfl, rfl, _, rfl, by show -(2 ^ 62) ≤ 1 + z3; omega, by show 1 + z3 < 2 ^ 62; omega, ?_⟩⟩
  refine for_it walk_range (fun i σ H4 => (∃ v3 v4 v5 v6 v7 v8 v9 v10 v11, σ = [some (.ref a), some (.int sd), some (.ref tn), v3, v4, v5, v6, v7, v8, v9, v10, v11]) ∧ But a H H4 ∧ PoolAt H4 a ∧
    ∃ ns : List Str, H4 tn = some (.lst (ns.map V.str)) ∧ ns.length = i ∧ ns.Nodup ∧ ∀ k ∈ ns, GN k 8 ∧ k ≠ ("byte" : Str)) ?_ (fun _ _ _ _ _ => trivial) ?_ ?_
  · exact ⟨⟨_, _, _, _, _, _, _, _, _, rfl⟩, bt.trans b3, hP3, [], b3 _ _ nat.symm upd_same, rfl, List.nodup_nil, fun k hk => absurd hk List.not_mem_nil⟩
  · rintro i y σ H4 H5 hi ⟨⟨v3, v4, v5, v6, v7, v8, v9, v10, v11, rfl⟩, bu, hP4, ns, hn, len, nnd, each⟩ ⟨rfl, rfl⟩
    have i3 : i < 3 := by have z : i < (1 + z3).toNat := hi; omega
    refine ⟨_, rfl, .inl ⟨rfl, _, SqL.of hn⟩, _, rfl, _, rfl, (by show 1 ≤ sizeLine; decide), fun l1 hl1 => ?_⟩
    have s5 := same_new (o := .lst [.str ("byte" : Str)]) hl1
    have hn5 := s5 _ _ hn
    refine ⟨_, rfl, l1, tn, _, _, rfl, rfl, upd_same, hn5, ?_, fun l2 hl2 => ?_⟩
    · show 1 + (ns.map V.str).length ≤ sizeLine
      rw [List.length_map]; exact sz_of (by omega)
    have s6 := same_new (o := .lst ([.str ("byte" : Str)] ++ ns.map V.str)) hl2
    refine ⟨sd, _, l2, ("byte" : Str) :: ns, rfl, ⟨sd0, by omega⟩, ⟨by omega, by omega⟩, SqL.of upd_same, by rw [List.length_cons]; omega, fun x gx hx => ?_⟩
    have gx8 : GN x 8 := gx.mono (by rw [List.length_cons]; omega)
    have hn6 := s6 _ _ hn5
    refine ⟨tn, _, _, rfl, rfl, hn6, (by rw [List.length_map]; exact small1000 (by omega)), ⟨_, _, _, _, _, _, _, _, _, rfl⟩, ?_, ?_, ns ++ [x], ?_, ?_, ?_, ?_⟩
    · intro c o n e
      rw [upd_ne (ne_of_none e htn0)]; exact s6 _ _ (s5 _ _ (bu _ _ n e))
    · exact ((hP4.same s5).same s6).upd nat
    · rw [upd_same, List.map_append] <;> rfl
    · rw [List.length_append, List.length_singleton, len]
    · exact List.nodup_append.mpr ⟨nnd, by simp, fun u hu w hw e => hx (by simp at hw; rw [← hw, ← e]; exact List.mem_cons_of_mem _ hu)⟩
    · intro k hk
      rcases List.mem_append.mp hk with w | w
      · exact each k w
      · rw [List.mem_singleton.mp w]; exact ⟨gx8, fun e => hx (by rw [e]; exact List.mem_cons_self ..)⟩
  rintro σ H4 ⟨⟨v3, v4, v5, v6, v7, v8, v9, v10, v11, rfl⟩, bu4, hP4, ns, hn4, len, nnd, names⟩
  have n3 : ns.length ≤ 3 := by rw [len]; omega
  have n1 : ns ≠ [] := by intro z; rw [z] at len; have : (0 : Nat) = (1 + z3).toNat := len; omega
  -- rows
  refine ⟨Nat.zero_le _, fun rl hrl => ?_⟩
  have nar : a ≠ rl := hP4.ne_new hrl
  have ntr : tn ≠ rl := ne_of_none hn4 hrl
  have hrl0 : H rl = none := by
    cases e : H rl with
    | none => rfl
    | some o => exact absurd (bu4 _ _ nar.symm e) (by rw [hrl]; exact fun z => nomatch z)
  have hn4' : (upd H4 rl (.lst [])) tn = some (.lst (ns.map V.str)) := by rw [upd_ne ntr]; exact hn4
  refine ⟨_, rfl, tn, _, rfl, .inl (SqL.of hn4'), _, rfl, by show -(2 ^ 62) ≤ (((ns.map V.str).length : Nat) : Int); omega, by show (((ns.map V.str).length : Nat) : Int) < 2 ^ 62; rw [List.length_map]; omega, ?_⟩
  have elen : (((ns.map V.str).length : Nat) : Int).toNat = ns.length := by rw [List.length_map]; omega
  refine for_it walk_range (fun i σ H5 => (∃ v3 v5 v6 v7 v8 v9 v10 v11, σ = [some (.ref a), some (.int sd), some (.ref tn), v3, some (.ref rl), v5, v6, v7, v8, v9, v10, v11]) ∧ But a H H5 ∧ PoolAt H5 a ∧ H5 tn = some (.lst (ns.map V.str)) ∧
    ∃ vs rs, H5 rl = some (.lst vs) ∧ All2 (RowAt H5) vs rs ∧ Half ns rs i 0 false) ?_ (fun _ _ _ _ _ => trivial) ?_ ?_
  · exact ⟨⟨_, _, _, _, _, _, _, _, rfl⟩, bu4.trans (but_of (same_new hrl)), hP4.upd nar, hn4', [], [], upd_same, All2.nil, ⟨fun r hr => absurd hr List.not_mem_nil, List.nodup_nil, Nat.zero_le _, fun j k hj _ => by rcases hj with z | z; exact absurd z (Nat.not_lt_zero _); exact absurd z.2 (by decide)⟩⟩
  · rintro i y σ H5 H6 hi ⟨⟨v3, v5, v6, v7, v8, v9, v10, v11, rfl⟩, bu5, hP5, hn5, vs, rs, hl5, al5, half⟩ ⟨rfl, rfl⟩
    have ilt : i < ns.length := by have z : i < (((ns.map V.str).length : Nat) : Int).toNat := hi; rw [elen] at z; exact z
    -- count
    refine ⟨_, rfl, a, 3, rfl, hP5, by decide, fun ct H7 ct0 ct1 b7 hP7 => ⟨_, _, rfl, rfl, .inl ⟨_, rfl, _, _, rfl, rfl, (by show (0 : Int) < 3; decide), _, _, rfl, rfl, ?_⟩⟩⟩
    have c0 : 0 ≤ (1 + ct) % 3 := Int.emod_nonneg _ (by decide)
    have c1 : (1 + ct) % 3 < 3 := Int.emod_lt_of_pos _ (by decide)
    -- base
    refine ⟨_, rfl, _, rfl, a, _, rfl, hP7, (by show (0 : Int) < 1 + (1 + ct) % 3; omega), fun bs H8 bs0 bs1 b8 hP8 => ?_⟩
    have b68 := b7.trans b8
    refine ⟨_, rfl, _, rfl, by show -(2 ^ 62) ≤ 1 + (1 + ct) % 3; omega, by show 1 + (1 + ct) % 3 < 2 ^ 62; omega, ?_⟩
    have t68 : Tups H6 H8 := but_tups b68 hP5.not
    refine for_it walk_range (fun m σ H9 => (∃ v7 v8 v9 v10 v11, σ = [some (.ref a), some (.int sd), some (.ref tn), some (.int (0 + (i : Nat))), some (.ref rl), some (.int (1 + (1 + ct) % 3)), some (.int bs), v7, v8, v9, v10, v11]) ∧ But a H H9 ∧ PoolAt H9 a ∧ H9 tn = some (.lst (ns.map V.str)) ∧
      ∃ vs rs, H9 rl = some (.lst vs) ∧ All2 (RowAt H9) vs rs ∧ Half ns rs i m (decide (bs < (m : Int)))) ?_ (fun _ _ _ _ _ => trivial) ?_ ?_
    · refine ⟨⟨_, _, _, _, _, rfl⟩, bu5.trans b68, hP8, b68 _ _ nat.symm hn5, vs, rs, b68 _ _ nar.symm hl5, al5.mono fun _ _ w => w.mono t68, half.each, half.makers, half.few, fun j k hj hk => ?_⟩
      refine half.base j k (hj.imp id fun z => ?_) hk
      have z2 : bs < ((0 : Nat) : Int) := of_decide_eq_true z.2
      exact absurd z2 (by omega)
    · rintro m y σ H9 H10 hm ⟨⟨v7, v8, v9, v10, v11, rfl⟩, bu9, hP9, hn9, vs, rs, hl9, al9, half⟩ ⟨rfl, rfl⟩
      have m3 : m < 3 := by have z : m < (1 + (1 + ct) % 3).toNat := hm; omega
      have rlen : rs.length ≤ 3 * 2 + 2 := by have := half.few; omega
      have hdiv0 : 0 ≤ sd / 2 ∧ sd / 2 ≤ 10000000 := ⟨by omega, by omega⟩
      -- the maker
      refine ⟨_, rfl, _, _, rfl, rfl, ⟨by decide, by decide⟩, _, rfl, rl, _, rfl, .inl (SqL.of hl9), _, rfl, rl, rfl, ⟨_, SqL.of hl9⟩, fun D hD => ?_⟩
      have naD : a ≠ D := hP9.ne_new hD
      refine lc_it (walk_list (K := K) (a := rl) (xs := vs)) (fun j H11 => Same H10 H11 ∧ H11 D = some (.lst ((rmakers (rs.take j)).map V.str))) ⟨same_new hD, upd_same⟩ (fun j H11 _ z => SqL.of (z.1 _ _ hl9)) ?_ ?_
      · rintro j x H11 H12 hj ⟨sm, hDj⟩ ⟨rfl, hx⟩
        obtain ⟨r, hrr, b, u, rfl, hb, pa⟩ := al9.get hx
        refine ⟨rfl, _, rfl, b, _, _, _, rfl, rfl, SqT.of (sm _ _ hb), atI_nat (j := 1) rfl, _, hDj, ?_, same_mut sm hD, ?_⟩
        · unfold rmakers; rw [List.length_map, List.length_map, List.length_take]; exact small1000 (by omega)
        · rw [upd_same, rmakers_take_succ hrr, List.map_append] <;> rfl
      rintro H11 ⟨s11, hD11⟩
      rw [al9.1, List.take_length] at hD11
      refine ⟨_, _, D, rmakers rs, rfl, hdiv0, ⟨by show (0 : Int) ≤ ((vs.length : Nat) : Int); omega, by show ((vs.length : Nat) : Int) ≤ 1000; rw [al9.1]; omega⟩, SqL.of hD11, by unfold rmakers; rw [List.length_map]; omega, fun x gx hx => ?_⟩
      have gx13 : GN x 13 := gx.mono (by unfold rmakers; rw [List.length_map]; omega)
      have hn11 := s11 _ _ hn9
      have hl11 := s11 _ _ hl9
      have hP11 := hP9.same s11
      have t911 := tups_of s11
      -- one more row, from the inner list li of kinds ks
      have more : ∀ (H12 : Hp) (li : Addr) (ks : List Str) (isb : Bool), Same H11 H12 → H12 li = some (.lst (ks.map V.str)) → li ≠ a → ks.length ≤ 3 → (∀ k ∈ ks, k ∈ ns) → (isb = true → ks = ns.drop (i + 1)) → (isb = decide ((m : Int) = bs)) →
          ∃ k, atI (ns.map V.str) (0 + (i : Nat)) = some (.str k) ∧ ∀ v ps H13, But a H12 H13 → PoolAt H13 a → PartsAt H13 v ps → GP ks ps → ∀ t, H13 t = none → H13 rl = some (.lst vs) ∧ ∀ (Q' : Hp → Prop),
            (∀ H14 vs' rs', But a H H14 → PoolAt H14 a → H14 tn = some (.lst (ns.map V.str)) → H14 rl = some (.lst vs') → All2 (RowAt H14) vs' rs' → Half ns rs' i (m + 1) (decide (bs < ((m + 1 : Nat) : Int))) → Q' H14) → Q' (upd (upd H13 t (.tup [.str k, .str x, v])) rl (.lst (vs ++ [.ref t]))) := by
        intro H12 li ks isb s12 hli nla lks sub hb1 hb2
        have hP12 := hP11.same s12
        obtain ⟨k, hk⟩ : ∃ k, ns[i]? = some k := ⟨ns[i], List.getElem?_eq_getElem ilt⟩
        refine ⟨k, at_nat (j := i) (by omega) (by rw [List.getElem?_map, hk]; rfl), fun v ps H13 b13 hP13 hps gp t ht => ?_⟩
        have t913 : Tups H10 H13 := Tups.trans t911 (Tups.trans (tups_of s12) (but_tups b13 hP12.not))
        have hl13 : H13 rl = some (.lst vs) := b13 _ _ nar.symm (s12 _ _ hl11)
        refine ⟨hl13, fun Q' fin => ?_⟩
        have nrt : rl ≠ t := ne_of_none hl13 ht
        have nat' : a ≠ t := hP13.ne_new ht
        have ntt : tn ≠ t := ne_of_none (b13 _ _ nat.symm (s12 _ _ hn11)) ht
        have s14 := same_new (o := .tup [.str k, .str x, v]) ht
        have t14 : Tups H13 (upd (upd H13 t (.tup [.str k, .str x, v])) rl (.lst (vs ++ [.ref t]))) := Tups.trans (tups_of s14) (tups_upd fun u f w => by rw [upd_ne nrt, hl13] at w; cases w; exact f)
        refine fin _ (vs ++ [.ref t]) (rs ++ [(k, x, ps)]) ?_ ((hP13.upd nat').upd nar) (by rw [upd_ne ntr, upd_ne ntt]; exact b13 _ _ nat.symm (s12 _ _ hn11)) upd_same ?_ ?_
        · intro c o n e
          rw [upd_ne (ne_of_none e hrl0)]
          exact s14 _ _ (b13 _ _ n (s12 _ _ (s11 _ _ (bu9 _ _ n e))))
        · exact (al9.mono fun _ _ w => w.mono (Tups.trans t913 t14)).snoc ⟨t, v, rfl, by rw [upd_ne nrt.symm, upd_same], hps.mono t14⟩
        · have hkn : k ∈ ns := List.mem_of_getElem? hk
          refine ⟨fun r hr' => ?_, ?_, ?_, fun j k' hj hk' => ?_⟩
          · rcases List.mem_append.mp hr' with w | w
            · exact half.each r w
            · rw [List.mem_singleton.mp w]; exact ⟨hkn, gx13, gp.mono sub⟩
          · unfold rmakers at hx ⊢
            rw [List.map_append]
            exact List.nodup_append.mpr ⟨half.makers, by simp, fun u hu w hw e => hx (by simp at hw; rw [← hw, ← e]; exact hu)⟩
          · rw [List.length_append, List.length_singleton]; have := half.few; omega
          · by_cases hj2 : j < i ∨ (j = i ∧ decide (bs < (m : Int)) = true)
            · obtain ⟨r, hr', w⟩ := half.base j k' hj2 hk'
              exact ⟨r, List.mem_append_left _ hr', w⟩
            · have hji : j = i := by
                rcases hj with w | w
                · exact absurd (.inl w) hj2
                · exact w.1
              have hbm : (m : Int) = bs := by
                have w1 : ¬ bs < (m : Int) := fun w => hj2 (.inr ⟨hji, decide_eq_true w⟩)
                have w2 : bs < ((m + 1 : Nat) : Int) := by
                  rcases hj with w | w
                  · exact absurd (.inl w) hj2
                  · exact of_decide_eq_true w.2
                omega
              have hks : ks = ns.drop (i + 1) := hb1 (by rw [hb2]; exact decide_eq_true hbm)
              rw [hji] at hk' ⊢
              rw [hk] at hk'
              cases hk'
              exact ⟨_, List.mem_append_right _ (List.mem_singleton.mpr rfl), rfl, by rw [← hks]; exact gp⟩
      -- inner
      refine ⟨_, rfl, ?_⟩
      have hdv : 0 ≤ sd / 3 + ((vs.length : Nat) : Int) / 2 ∧ sd / 3 + ((vs.length : Nat) : Int) / 2 ≤ 10000000 := by rw [al9.1]; omega
      have vl : vs.length < sizeLine := by rw [al9.1]; exact small1000 (by omega)
      have edec : decide (V.int (0 + (m : Nat)) = V.int bs) = decide ((m : Int) = bs) := by simp
      refine ⟨_, rfl, _, rfl, rfl, _, rfl, ?_⟩
      show (if decide (V.int (0 + (m : Nat)) = V.int bs) = true then _ else _)
      rw [edec]
      by_cases hb : (m : Int) = bs
      · rw [decide_eq_true hb]
        refine iteT ⟨_, rfl, _, rfl, _, _, rfl, rfl, _, rfl, tn, _, rfl, SqL.of hn11, fun li hli => ?_⟩
        have s12 := same_new (o := .lst (cutV (ns.map V.str) (some (0 + (i : Nat) + 1)) none)) hli
        have ecut : cutV (ns.map V.str) (some (0 + (i : Nat) + 1)) none = (ns.drop (i + 1)).map V.str := by
          rw [show (0 + (i : Nat) + 1 : Int) = ((i + 1 : Nat) : Int) by omega, cutV_drop, List.map_drop]
        obtain ⟨k, hka, go⟩ := more _ li (ns.drop (i + 1)) true s12 (by rw [upd_same, ecut]) (hP11.ne_new hli).symm (by rw [List.length_drop]; omega) (fun k hk => List.mem_of_mem_drop hk) (fun _ => rfl) (decide_eq_true hb).symm
        refine ⟨_, rfl, .inl ⟨rfl, _, SqL.of (s12 _ _ hl11)⟩, _, rfl, _, rfl, tn, _, _, _, rfl, rfl, SqL.of (s12 _ _ hn11), hka, _, rfl, _, rfl, _, rfl, _, _, rfl, rfl, ⟨by decide, by decide⟩, _, rfl, rl, _, rfl, .inl (SqL.of (s12 _ _ hl11)), _, _, rfl, rfl, ⟨by decide, by decide⟩, _, _, rfl, rfl, _, rfl, _, rfl, _, rfl, rfl,
          a, li, _, decide (V.int (0 + (m : Nat)) = V.int bs), ns.drop (i + 1), rfl, hP11.same s12, hdv, by rw [upd_same, ecut], (hP11.ne_new hli).symm, by rw [List.length_drop]; omega, fun v ps H13 b13 hP13 hps gp => ⟨by show 3 ≤ sizeLine; decide, fun t ht => ?_⟩⟩
        obtain ⟨g1, g2⟩ := go v ps H13 b13 hP13 hps gp t ht
        exact ⟨rl, _, _, rfl, rfl, (same_new ht) _ _ g1, vl, g2 _ fun H14 vs' rs' b14 hP14 hn14 hl14 al14 half14 => ⟨⟨_, _, _, _, _, rfl⟩, b14, hP14, hn14, vs', rs', hl14, al14, half14⟩⟩
      · rw [decide_eq_false hb]
        refine iteF ?_
        obtain ⟨k, hka, go⟩ := more _ tn ns false (Same.refl _) hn11 nat.symm n3 (fun k hk => hk) (fun z => absurd z (by decide)) (decide_eq_false hb).symm
        refine ⟨_, rfl, .inl ⟨rfl, _, SqL.of hl11⟩, _, rfl, _, rfl, tn, _, _, _, rfl, rfl, SqL.of hn11, hka, _, rfl, _, rfl, _, rfl, _, _, rfl, rfl, ⟨by decide, by decide⟩, _, rfl, rl, _, rfl, .inl (SqL.of hl11), _, _, rfl, rfl, ⟨by decide, by decide⟩, _, _, rfl, rfl, _, rfl, _, rfl, _, rfl, rfl,
          a, tn, _, decide (V.int (0 + (m : Nat)) = V.int bs), ns, rfl, hP11, hdv, hn11, nat.symm, by omega, fun v ps H13 b13 hP13 hps gp => ⟨by show 3 ≤ sizeLine; decide, fun t ht => ?_⟩⟩
        obtain ⟨g1, g2⟩ := go v ps H13 b13 hP13 hps gp t ht
        exact ⟨rl, _, _, rfl, rfl, (same_new ht) _ _ g1, vl, g2 _ fun H14 vs' rs' b14 hP14 hn14 hl14 al14 half14 => ⟨⟨_, _, _, _, _, rfl⟩, b14, hP14, hn14, vs', rs', hl14, al14, half14⟩⟩
    · rintro σ H9 ⟨⟨v7, v8, v9, v10, v11, rfl⟩, bu9, hP9, hn9, vs, rs, hl9, al9, half⟩
      refine ⟨⟨_, _, _, _, _, _, _, _, rfl⟩, bu9, hP9, hn9, vs, rs, hl9, al9, half.each, half.makers, ?_, fun j k hj hk => ?_⟩
      · have h1 := half.few
        have h2 : (1 + (1 + ct) % 3).toNat ≤ 3 := by omega
        omega
      · refine half.base j k ?_ hk
        rcases hj with z | z
        · by_cases e : j = i
          · exact .inr ⟨e, decide_eq_true (by omega)⟩
          · exact .inl (by omega)
        · exact absurd z.2 (by decide)
  · rintro σ H5 ⟨⟨v3, v5, v6, v7, v8, v9, v10, v11, rfl⟩, bu5, hP5, hn5, vs, rs, hl5, al5, half⟩
    rw [elen] at half
    have draw : Draw ns rs := ⟨n3, n1, nnd, names, half.each, half.makers, by have := half.few; omega, fun j k hk => half.base j k (.inl (List.getElem?_eq_some_iff.mp hk).1) hk⟩
    have rpos : 0 < rs.length := List.length_pos_iff.mpr draw.valid.ne
    refine ⟨_, rfl, _, rfl, rl, _, rfl, .inl (SqL.of hl5), a, _, rfl, hP5, (by show (0 : Int) < ((vs.length : Nat) : Int); rw [al5.1]; omega), fun tu H6 tu0 tu1 b6 hP6 => ?_⟩
    have hl6 : H6 rl = some (.lst vs) := b6 _ _ nar.symm hl5
    have etu : tu = ((tu.toNat : Nat) : Int) := (Int.toNat_of_nonneg tu0).symm
    refine ⟨_, rfl, _, rfl, _, rfl, rl, _, rfl, SqL.of hl6, fun l1 hl1 => ?_⟩
    have s7 := same_new (o := .lst (cutV vs (some tu) none)) hl1
    refine ⟨_, rfl, _, rfl, _, rfl, rl, _, rfl, SqL.of (s7 _ _ hl6), fun l2 hl2 => ?_⟩
    have s8 := same_new (o := .lst (cutV vs none (some tu))) hl2
    have e1 : cutV vs (some tu) none = vs.drop tu.toNat := by rw [etu, cutV_drop]; rfl
    have e2 : cutV vs none (some tu) = vs.take tu.toNat := by rw [etu, cutV_take]; rfl
    refine ⟨l1, l2, _, _, rfl, rfl, s8 _ _ upd_same, upd_same, ?_, fun l3 hl3 => ?_⟩
    · rw [e1, e2, List.length_drop, List.length_take, al5.1]; have := half.few; exact sz_of (by omega)
    have s9 := same_new (o := .lst (cutV vs (some tu) none ++ cutV vs none (some tu))) hl3
    have s69 := (s7.trans s8).trans s9
    have bb : But a H _ := (bu5.trans b6).trans (but_of s69)
    have t59 : Tups H5 _ := Tups.trans (but_tups b6 hP5.not) (tups_of s69)
    have hl30 : H l3 = none := by
      cases e : H l3 with
      | none => rfl
      | some o =>
        have n : l3 ≠ a := fun w => by
          have := (hP6.same (s7.trans s8)).ne_new hl3
          exact this w.symm
        have := (s7.trans s8) _ _ (b6 _ _ n (bu5 _ _ n e))
        rw [hl3] at this; cases this
    refine q l3 (rs.drop tu.toNat ++ rs.take tu.toNat) ns _ bb (hP6.same s69) hl30 ⟨vs.drop tu.toNat ++ vs.take tu.toNat, by rw [upd_same, e1, e2], ?_⟩ (draw.rot _)
    exact ((al5.drop _).app (al5.take _)).mono fun _ _ w => w.mono t59
end
end Bg
set_option Elab.async false
set_option linter.all false
set_option maxRecDepth 100000
set_option maxHeartbeats 4000000
/-! drawn names: a long one ends with an x -/
namespace Bg
open PySem PySem.Spec PyProof.Rows L2
def EndX (x : Str) : Prop := 4 < x.cps.toList.length → x.cps.toList.getLast? = some 120
theorem endX_short {x : Str} (h : x.cps.toList.length ≤ 4) : EndX x := fun z => absurd z (by omega)
theorem endX_app (z : Str) : EndX (z ++ ("x" : Str)) := fun _ => by rw [x_lit, app_cps]; simp
section
variable {P : Program} {w : World} {K : PySem.W.Frag} {mg : Str → Option Value} {base : Heap} {fd : FuncData}
def spNameX (K : PySem.W.Frag) : Sp := fun vs H Q _ => ∃ (sd k : Int) (t : Addr) (ks : List Str), vs = [.int sd, .int k, .ref t] ∧ (0 ≤ sd ∧ sd ≤ 10000000) ∧ (0 ≤ k ∧ k ≤ 1000) ∧ SqL K H t (ks.map V.str) ∧ ks.length ≤ 20 ∧ ∀ x, GN x (4 + ks.length) → EndX x → x ∉ ks → Q (.str x) H
theorem ok_nameX (T : Tx K mg) (F : FnP K ("_law_name", none) "_law_name" "_law_name" s__law_name fd) : FnOk P w K mg base CX0 1 (He.fAd K ("_law_name", none)) fd ["_law_seed", "_law_k", "_law_taken"] (spNameX K) := by
  refine F.ok sc__law_name (fun vs H Q E h => ?_) (fun cdv A outer s H vs Q E hr h => ?_)
  · obtain ⟨_, _, _, _, rfl, _⟩ := h; rfl
  obtain ⟨sd, k, t, ks, rfl, ⟨s0, s1⟩, ⟨k0, k1⟩, hS, h20, q⟩ := h
  have nd := sc__law_name.nd
  refine ⟨_, PSs.nox (pss_cons (ps_set (i := 3) nd rfl (.inl rfl) pe_str)
    (pss_cons (ps_set (i := 4) nd rfl (.inl rfl) (pe_op op_mod (pe_callTy call_int1 (by rfl) T.n_int (by decide +kernel) (pa_cons (pe_op op_mul (pe_op op_mul (pe_op op_add (pv 0) pe_int) (pe_op op_add (pv 1) pe_int)) pe_int) pa_nil)) pe_int))
    (pss_cons (ps_set (i := 5) nd rfl (.inl rfl) (pe_ix ix_str (pv 3) (pe_op op_mod (pv 4) pe_int) (fun _ _ => rfl)))
    (pss_cons (ps_for PassesOwn.never rfl (pi_range1 rfl T.n_range (pa_cons (pe_op op_mod (pe_op op_fdiv (pv 4) pe_int) pe_int) pa_nil)) (pg_name (i := 6) nd rfl (.inl rfl))
      (pss_cons (ps_set (i := 4) nd rfl (.inl rfl) (pe_op op_mod (pe_callTy call_int1 (by rfl) T.n_int (by decide +kernel) (pa_cons (pe_op op_add (pe_op op_mul (pv 4) pe_int) pe_int) pa_nil)) pe_int))
      (pss_one (ps_set (i := 5) nd rfl (.inl rfl) (pe_op op_add_str (pv 5) (pe_ix ix_str (pv 3) (pe_op op_mod (pe_op op_fdiv (pv 4) pe_int) pe_int) (fun _ _ => rfl)))))))
    (pss_cons (ps_for PassesOwn.never rfl (pi_range1 rfl T.n_range (pa_cons (pe_callB call_len_seq (by rfl) T.n_len PySem.boot_len (pa_cons (pv 2) pa_nil)) pa_nil)) (pg_name (i := 6) nd rfl (.inl rfl))
      (pss_one (ps_if (pt_cmpR op_in_seq (pv 5) (pv 2) (by rfl)) (pss_one (ps_set (i := 5) nd rfl (.inl rfl) (pe_op op_add_str (pv 5) pe_str))) pss_nil)))
    (pss_one (ps_ret (pv 5)))))))), ?_⟩
  have m0 : 0 ≤ (sd + 1) * (k + 5) * 48271 % 2147483647 := Int.emod_nonneg _ (by decide)
  have m1 : (sd + 1) * (k + 5) * 48271 % 2147483647 < 2147483647 := Int.emod_lt_of_pos _ (by decide)
  refine ⟨_, rfl, _, _, rfl, rfl, _, rfl, _, _, rfl, rfl, _, _, rfl, rfl, .inl ⟨by omega, by omega⟩, _, _, rfl, rfl, .inr ⟨by decide, by decide⟩, .inl ⟨_, rfl, _, _, rfl, rfl, (by show (0 : Int) < 2147483647; decide), ?_⟩⟩
  have c0 : 0 ≤ ((sd + 1) * (k + 5) * 48271 % 2147483647) % 52 := Int.emod_nonneg _ (by decide)
  have c1 : ((sd + 1) * (k + 5) * 48271 % 2147483647) % 52 < 52 := Int.emod_lt_of_pos _ (by decide)
  have ll : lets.length ≤ sizeLine := by rw [str_len, lets_len]; decide
  refine ⟨_, rfl, _, rfl, _, _, rfl, rfl, (by show (0 : Int) < 52; decide), lets, _, _, rfl, rfl, ll, at_lets c0 (by omega), ?_⟩
  have g1 : GN (⟨#[lets.cps.toList.getD (((sd + 1) * (k + 5) * 48271 % 2147483647) % 52).toNat 0]⟩ : Str) 1 := by
    have a := lets_good (((sd + 1) * (k + 5) * 48271 % 2147483647) % 52).toNat (by omega)
    have b := lets_alpha (((sd + 1) * (k + 5) * 48271 % 2147483647) % 52).toNat (by omega)
    refine ⟨fun c hc => ?_, ⟨_, [], rfl, b⟩, Nat.le_refl _⟩
    have : c = lets.cps.toList.getD (((sd + 1) * (k + 5) * 48271 % 2147483647) % 52).toNat 0 := by simpa using hc
    rw [this]; exact a
  have d0 : 0 ≤ ((sd + 1) * (k + 5) * 48271 % 2147483647) / 52 % 4 := Int.emod_nonneg _ (by decide)
  have d1 : ((sd + 1) * (k + 5) * 48271 % 2147483647) / 52 % 4 < 4 := Int.emod_lt_of_pos _ (by decide)
  refine ⟨_, rfl, _, _, rfl, rfl, ⟨by decide, by decide⟩, _, _, rfl, rfl, (by show (0 : Int) < 4; decide), _, rfl, ?_, ?_, for_it walk_range (fun i σ H2 => (∃ n x v6, σ = [some (.int sd), some (.int k), some (.ref t), some (.str lets), some (.int n), some (.str x), v6] ∧ 0 ≤ n ∧ n < 2147483647 ∧ GN x (1 + i)) ∧ H2 = H) ⟨⟨_, _, _, rfl, m0, m1, g1⟩, rfl⟩ (fun _ _ _ _ _ => trivial) ?_ ?_⟩
  · show -(2 ^ 62) ≤ ((sd + 1) * (k + 5) * 48271 % 2147483647) / 52 % 4; omega
  · show ((sd + 1) * (k + 5) * 48271 % 2147483647) / 52 % 4 < 2 ^ 62; omega
  · rintro i y σ H2 H3 hi ⟨⟨n, x, v6, rfl, n1, n2, gx⟩, rfl⟩ ⟨rfl, rfl⟩
    have e0 : 0 ≤ (n * 69621 + 1) % 2147483629 := Int.emod_nonneg _ (by decide)
    have e1 : (n * 69621 + 1) % 2147483629 < 2147483629 := Int.emod_lt_of_pos _ (by decide)
    refine ⟨_, rfl, _, _, rfl, rfl, .inr ⟨by decide, by decide⟩, _, _, rfl, rfl, .inl ⟨_, rfl, _, _, rfl, rfl, (by show (0 : Int) < 2147483629; decide), ?_⟩⟩
    have f0 : 0 ≤ ((n * 69621 + 1) % 2147483629) / 64 % 62 := Int.emod_nonneg _ (by decide)
    have f1 : ((n * 69621 + 1) % 2147483629) / 64 % 62 < 62 := Int.emod_lt_of_pos _ (by decide)
    have lx := gx.len
    have i4 : i < 4 := by have z : i < (((sd + 1) * (k + 5) * 48271 % 2147483647) / 52 % 4).toNat := hi; omega
    refine ⟨_, rfl, _, rfl, _, rfl, _, _, rfl, rfl, ⟨by decide, by decide⟩, _, _, rfl, rfl, (by show (0 : Int) < 62; decide), lets, _, _, rfl, rfl, ll, at_lets f0 f1, _, _, rfl, rfl, ?_, ?_⟩
    · rw [str_len]; show x.cps.toList.length + 1 ≤ sizeLine; exact sz_of (by omega)
    · exact ⟨⟨_, _, _, rfl, e0, by omega, by have := gx.app (lets_good (((n * 69621 + 1) % 2147483629) / 64 % 62).toNat (by omega)); rw [Nat.add_assoc] at this; exact this⟩, rfl⟩
  · rintro σ H2 ⟨⟨n, x, v6, rfl, n1, n2, gx⟩, rfl⟩
    have gx4 : GN x 4 := gx.mono (by omega)
    refine ⟨_, rfl, t, _, rfl, .inl hS, _, rfl, ?_, ?_, for_it walk_range (fun i σ H3 => (∃ y v6, σ = [some (.int sd), some (.int k), some (.ref t), some (.str lets), some (.int n), some (.str y), v6] ∧ GN y (4 + i) ∧ EndX y ∧ (y ∉ ks ∨ (y = withX x i ∧ ∀ j, j < i → withX x j ∈ ks))) ∧ H3 = H2) ?_ (fun _ _ _ _ _ => trivial) ?_ ?_⟩
    · show -(2 ^ 62) ≤ (((ks.map V.str).length : Nat) : Int); omega
    · show (((ks.map V.str).length : Nat) : Int) < 2 ^ 62; rw [List.length_map]; omega
    · exact ⟨⟨x, _, rfl, gx4, endX_short gx4.len, .inr ⟨(withX_zero x).symm, fun j hj => absurd hj (Nat.not_lt_zero _)⟩⟩, rfl⟩
    · rintro i y σ H3 H4 hi ⟨⟨z, v6, rfl, gz, ez, hz⟩, rfl⟩ ⟨rfl, rfl⟩
      have ilt : i < ks.length := by have : i < (((ks.map V.str).length : Nat) : Int).toNat := hi; rw [List.length_map] at this; omega
      refine ⟨_, rfl, _, rfl, t, _, rfl, .inl hS, rfl, flat_str _, _, rfl, ?_⟩
      rw [inV_strs]
      refine ite2 (fun h1 => ?_) (fun h1 => ?_)
      · have hin : z ∈ ks := of_decide_eq_true h1
        obtain ⟨e1, e2⟩ := hz.resolve_left fun w => w hin
        have lz := gz.len
        refine ⟨_, rfl, _, _, rfl, rfl, ?_, ⟨_, _, rfl, ?_, endX_app z, .inr ⟨?_, fun j hj => ?_⟩⟩, rfl⟩
        · rw [str_len, str_len, x_lit]; show z.cps.toList.length + 1 ≤ sizeLine; exact sz_of (by omega)
        · rw [x_lit]; exact gz.app x_good
        · rw [x_lit, e1, withX_succ]
        · by_cases e : j = i
          · rw [e, ← e1]; exact hin
          · exact e2 j (by omega)
      · exact ⟨⟨_, _, rfl, gz.mono (by omega), ez, .inl fun w => h1 (decide_eq_true w)⟩, rfl⟩
    · rintro σ H3 ⟨⟨z, v6, rfl, gz, ez, hz⟩, rfl⟩
      have en : (((ks.map V.str).length : Nat) : Int).toNat = ks.length := by rw [List.length_map]; omega
      rw [en] at gz hz
      refine ⟨_, rfl, q z gz ez ?_⟩
      rcases hz with hz | ⟨e1, e2⟩
      · exact hz
      · rw [e1]; exact withX_out e2
end
end Bg
set_option Elab.async false
set_option linter.all false
set_option maxRecDepth 100000
set_option maxHeartbeats 4000000
/-! drawn function tables: what holds of them -/
namespace Bg
open PySem PySem.Spec PyProof.Rows L2
structure DrawnB (hs : List Head) (r : Row) (b : Body) : Prop where
  ok : bodyB r [] b = true
  len : b.length ≤ 9
  odd : OddOk b
  dep : bdep b + 1 ≤ 4
  wt : bwt b + 9 ≤ 72
  calls : callsB hs r b
def headsOf (fs : List FRow) : List Head := fs.map fun f => (f.1, f.2.1, f.2.2.1)
structure DrawnF (rs : List Row) (fs : List FRow) : Prop where
  few : fs.length ≤ 6
  pos : 0 < fs.length
  gn : ∀ f ∈ fs, GN f.1 10
  ex : ∀ f ∈ fs, EndX f.1
  nd : (fs.map (·.1)).Nodup
  kind : ∀ f ∈ fs, f.2.1 ∈ rkinds rs
  fold : ∀ f ∈ fs, foldB f.2.2.1 = true
  keys : ∀ f ∈ fs, f.2.2.2.map (·.1) = (kindRows rs f.2.1).map (·.2.1)
  bod : ∀ f ∈ fs, ∀ q ∈ f.2.2.2, ∃ r ∈ rs, r.2.1 = q.1 ∧ r.1 = f.2.1 ∧ DrawnB (headsOf fs) r q.2
theorem bodyIn_some {bs : FBod} {m : Str} (h : m ∈ bs.map (·.1)) : ∃ b, bodyIn bs m = some b ∧ (m, b) ∈ bs := by
  cases e : bodyIn bs m with
  | none =>
    obtain ⟨q, hq, rfl⟩ := List.mem_map.mp h
    unfold bodyIn at e
    rw [Option.map_eq_none_iff, List.find?_eq_none] at e
    exact absurd (e q hq) (by simp)
  | some b =>
    obtain ⟨q, hq, e1, e2⟩ := bodyIn_mem e
    exact ⟨b, rfl, by rw [← e1, ← e2]; exact hq⟩
theorem bodyIn_app_old {bs : FBod} {m m' : Str} {b b' : Body} (h : bodyIn bs m' = some b') : bodyIn (bs ++ [(m, b)]) m' = some b' := by
  unfold bodyIn at *
  rw [List.find?_append]
  rw [Option.map_eq_some_iff] at h
  obtain ⟨q, hq, e⟩ := h
  rw [hq]; exact congrArg some e
theorem bodyIn_app_new {bs : FBod} {m : Str} {b : Body} (h : m ∉ bs.map (·.1)) : bodyIn (bs ++ [(m, b)]) m = some b := by
  unfold bodyIn
  rw [List.find?_append, List.find?_eq_none.mpr fun q hq => by simp only [decide_eq_true_eq]; exact fun e => h (e ▸ List.mem_map_of_mem hq)]
  simp
theorem bodyIn_uniq {bs : FBod} (nd : (bs.map (·.1)).Nodup) {m : Str} {b : Body} (h : (m, b) ∈ bs) : bodyIn bs m = some b := by
  obtain ⟨b', e, h'⟩ := bodyIn_some (List.mem_map_of_mem (f := fun q : Str × Body => q.1) h)
  rw [e]
  obtain ⟨i, hi⟩ := List.getElem?_of_mem h
  obtain ⟨j, hj⟩ := List.getElem?_of_mem h'
  have : i = j := (List.getElem?_inj (l := bs.map (·.1)) (by rw [List.length_map]; exact (List.getElem?_eq_some_iff.mp hi).1) nd).mp (by rw [List.getElem?_map, List.getElem?_map, hi, hj]; rfl)
  rw [this, hj] at hi
  exact congrArg some (congrArg Prod.snd (Option.some.inj hi))
theorem kindRows_nd {rs : List Row} (val : ValidT rs) (k : Str) : ((kindRows rs k).map (·.2.1)).Nodup := val.each.nd.sublist ((List.filter_sublist (p := fun r : Row => decide (r.1 = k))).map _)
section
variable {rs : List Row} {fs : List FRow} (val : ValidT rs) (D : DrawnF rs fs)
include val D
theorem DrawnF.bods {f : FRow} (hf : f ∈ fs) : FBodOk f.2.2.2 := by
  have l : f.2.2.2.length ≤ 12 := by
    have := congrArg List.length (D.keys f hf)
    rw [List.length_map, List.length_map] at this
    have l2 : (kindRows rs f.2.1).length ≤ rs.length := List.length_filter_le _ _
    have := val.each.few
    omega
  refine ⟨by omega, fun q hq => ?_, fun q hq => ?_, fun q hq => ?_, by rw [D.keys f hf]; exact kindRows_nd val _⟩
  · obtain ⟨_, _, _, _, d⟩ := D.bod f hf q hq; exact d.odd
  · obtain ⟨_, _, _, _, d⟩ := D.bod f hf q hq; have := d.dep; omega
  · obtain ⟨_, _, _, _, d⟩ := D.bod f hf q hq; have := d.wt; omega
theorem DrawnF.rowsOk : FRowsOk fs := ⟨by have := D.few; omega, fun f hf => by have := (D.gn f hf).len; rw [str_len]; omega, fun f hf => D.bods val hf⟩
theorem DrawnF.has {f : FRow} (hf : f ∈ fs) {r : Row} (hr : r ∈ rs) (e : r.1 = f.2.1) : ∃ b, bodyIn f.2.2.2 r.2.1 = some b ∧ DrawnB (headsOf fs) r b := by
  have hm : r.2.1 ∈ f.2.2.2.map (·.1) := by
    rw [D.keys f hf]
    exact List.mem_map_of_mem (List.mem_filter.mpr ⟨hr, decide_eq_true e⟩)
  obtain ⟨b, eb, hb⟩ := bodyIn_some hm
  obtain ⟨r', hr', e1, e2, d⟩ := D.bod f hf _ hb
  cases row_unique val.each.nd hr' hr e1
  exact ⟨b, eb, d⟩
theorem DrawnF.okB {f : FRow} (hf : f ∈ fs) : bodiesOk rs f.2.1 f.2.2.2 = true := by
  unfold bodiesOk
  rw [Bool.and_eq_true]
  refine ⟨decide_eq_true ?_, List.all_eq_true.mpr fun r hr => ?_⟩
  · have := congrArg List.length (D.keys f hf)
    rw [List.length_map, List.length_map] at this; exact this
  · obtain ⟨hr1, hr2⟩ := List.mem_filter.mp hr
    obtain ⟨b, eb, d⟩ := D.has val hf hr1 (of_decide_eq_true hr2)
    rw [eb]
    show bodyOk r [] b = true
    unfold bodyOk
    rw [d.ok, decide_eq_true (by have := d.len; omega)]; rfl
theorem DrawnF.pass_from : ∀ (post pre : List FRow), fs = pre ++ post → pass1 rs (pre.map (·.1)) pre.length post = none
  | [], pre, _ => by rw [pass1]
  | f :: post, pre, e => by
    have hf : f ∈ fs := by rw [e]; exact List.mem_append_right _ (List.mem_cons_self ..)
    have ih := DrawnF.pass_from post (pre ++ [f]) (by rw [e]; simp)
    rw [List.map_append, List.length_append] at ih
    rw [pass1, if_pos]
    · exact ih
    · unfold rowF
      have h1 : pre.length < 6 := by have := D.few; rw [e, List.length_append, List.length_cons] at this; omega
      have h2 : f.1 ∉ pre.map (·.1) := fun z => by
        have nd := D.nd
        rw [e, List.map_append] at nd
        exact (List.nodup_append.mp nd).2.2 _ z _ (by rw [List.map_cons]; exact List.mem_cons_self ..) rfl
      rw [decide_eq_true h1, (D.gn f hf).nameB (by decide), decide_eq_false h2, decide_eq_true (D.kind f hf), D.fold f hf, D.okB val hf]; rfl
theorem DrawnF.pass : pass1 rs [] 0 fs = none := D.pass_from val fs [] rfl
theorem takesOf_at {f : FRow} (nd : (fs.map (·.1)).Nodup) (hf : f ∈ fs) : takesOf fs f.1 = some f.2.1 := by
  unfold takesOf
  cases e : fs.find? fun g => decide (g.1 = f.1) with
  | none => exact absurd (List.find?_eq_none.mp e f hf) (by simp)
  | some g =>
    have h1 := List.mem_of_find?_eq_some e
    have h2 : g.1 = f.1 := of_decide_eq_true (List.find?_some (p := fun g : FRow => decide (g.1 = f.1)) e)
    rw [name_uniq nd h1 hf h2]; rfl
theorem DrawnF.called : Called rs fs := fun f hf q hq => by
  obtain ⟨r, hr, e1, e2, d⟩ := D.bod f hf q hq
  refine ⟨r, hr, e1, ?_, fun pr hpr => ?_⟩
  · unfold bodyOk
    rw [d.ok, decide_eq_true (by have := d.len; omega)]; rfl
  · obtain ⟨p, hp, hpr⟩ := List.mem_flatMap.mp hpr
    obtain ⟨t, ht, rfl⟩ := List.mem_map.mp hpr
    obtain ⟨x, hx, ex, ok⟩ := trisB q.2 [] [] d.ok d.calls (fun t ht => by cases ht) p hp t ht
    refine ⟨x, hx, ex, ok.imp id fun ⟨h, hh, q1, q2⟩ => ?_⟩
    obtain ⟨g, hg, rfl⟩ := List.mem_map.mp hh
    have := takesOf_at val D D.nd hg
    rw [← q1, ← q2]; exact this
end
end Bg
set_option Elab.async false
set_option linter.all false
set_option maxRecDepth 100000
set_option maxHeartbeats 4000000
/-! a row for each kind, its tree parts of kinds that were found before -/
namespace Bg
open PySem PySem.Spec PyProof.Rows L2
/-! ### parts as data -/
def partPD : Part → PyData
  | (n, k, none) => .tuple [.str n, .str k]
  | (n, k, some c) => .tuple [.str n, .str k, .int c]
theorem PartAt.td {H : Hp} {v : V} {p : Part} (h : PartAt H v p) : Td H v (partPD p) := by
  obtain ⟨a, rfl, e⟩ := h
  obtain ⟨n, k, c⟩ := p
  cases c with
  | none => exact .tup e (.cons (.str n) (.cons (.str k) .nil))
  | some c => exact .tup e (.cons (.str n) (.cons (.str k) (.cons (.int c) .nil)))
theorem strOk_of {x : Str} (h : nameB x = true) : PyData.strOk x = true := by
  unfold nameB at h
  simp only [Bool.and_eq_true] at h
  have h2 : x.cps.all (fun z => decide (z < 128)) = true := h.2.2.1
  unfold PyData.strOk
  rw [← Array.all_toList, List.all_eq_true] at h2 ⊢
  intro c hc
  have := of_decide_eq_true (h2 c hc)
  exact decide_eq_true (by omega)
theorem strOk_byte : PyData.strOk ("byte" : Str) = true := by decide +kernel
theorem partPD_lay {p : Part} (h : partB p = true) : (partPD p).canLay0 = true ∧ (partPD p).depth ≤ 2 := by
  obtain ⟨n, k, c⟩ := p
  cases c with
  | none =>
    rw [partB_n, Bool.and_eq_true] at h
    have e := of_decide_eq_true h.2
    subst e
    refine ⟨?_, ?_⟩
    · simp only [partPD, PyData.canLay0, PyData.canLayAll0, strOk_of h.1, strOk_byte, Bool.and_true]
    · simp [partPD, PyData.depth, PyData.depthAll]
  | some c =>
    rw [partB_s, Bool.and_eq_true, Bool.and_eq_true] at h
    have hk : nameB k = true := by have := h.2.1; unfold kindB at this; rw [Bool.and_eq_true] at this; exact this.1
    refine ⟨?_, ?_⟩
    · simp only [partPD, PyData.canLay0, PyData.canLayAll0, strOk_of h.1, strOk_of hk, Bool.and_true]
    · simp [partPD, PyData.depth, PyData.depthAll]
theorem parts_lay : ∀ {ps : List Part}, (∀ p ∈ ps, partB p = true) → PyData.canLayAll0 (ps.map partPD) = true ∧ PyData.depthAll (ps.map partPD) ≤ 2
  | [], _ => ⟨rfl, by simp [PyData.depthAll]⟩
  | p :: ps, h => by
    obtain ⟨a, b⟩ := partPD_lay (h p (List.mem_cons_self ..))
    obtain ⟨c, d⟩ := parts_lay fun q hq => h q (List.mem_cons_of_mem _ hq)
    simp only [List.map_cons, PyData.canLayAll0, PyData.depthAll, a, c]
    exact ⟨rfl, by omega⟩
theorem parts_shaped {ps : List Part} (h : ∀ p ∈ ps, partB p = true) : SeqAt.shaped (.list (ps.map partPD)) = true := by
  obtain ⟨a, b⟩ := parts_lay h
  unfold SeqAt.shaped
  rw [Bool.and_eq_true]
  exact ⟨by rw [PyData.canLay0]; exact a, decide_eq_true (by rw [PyData.depth]; omega)⟩
theorem eqv_nil (ds : List PyData) : PyData.eqv (.list ds) (.list []) = ds.isEmpty := by
  cases ds <;> simp [PyData.eqv, PyData.eqvAll]
theorem dpAll_of {K : PySem.W.Frag} {H : Hp} {α : Type} {f : α → PyData} {R : V → α → Prop} (hR : ∀ v x, R v x → Dp K H v (f x)) : ∀ {vs : List V} {xs : List α}, All2 R vs xs → DpAll K H vs (xs.map f)
  | [], [], _ => .nil
  | [], _ :: _, h => by have := h.1; simp at this
  | _ :: _, [], h => by have := h.1; simp at this
  | v :: vs, x :: xs, h => .cons (hR v x (h.2 0 v x rfl rfl)) (dpAll_of hR ⟨by have := h.1; simpa using this, fun i a b ha hb => h.2 (i + 1) a b (by simpa using ha) (by simpa using hb)⟩)
/-! ### the search, as data -/
def openB (S : List Row) (p : Part) : Bool := !decide (p.2.1 = ("byte" : Str)) && !decide (p.2.1 ∈ rkinds S)
def bStep (S : List Row) (r : Row) : List Row := if r.1 ∉ rkinds S ∧ (r.2.2.filter (openB S)).isEmpty = true then S ++ [r] else S
def bRound (rs : List Row) (S : List Row) : List Row := rs.foldl bStep S
def bN (rs : List Row) : Nat → List Row
  | 0 => []
  | n + 1 => bRound rs (bN rs n)
/-- a row for each kind in S: its tree parts are of kinds ahead of it -/
structure BaseOk (rs S : List Row) : Prop where
  sub : ∀ r ∈ S, r ∈ rs
  nd : (rkinds S).Nodup
  down : ∀ i r, S[i]? = some r → ∀ p ∈ r.2.2, p.2.1 = ("byte" : Str) ∨ p.2.1 ∈ rkinds (S.take i)
theorem open_none {S : List Row} {ps : List Part} (h : (ps.filter (openB S)).isEmpty = true) : ∀ p ∈ ps, p.2.1 = ("byte" : Str) ∨ p.2.1 ∈ rkinds S := fun p hp => by
  rw [List.isEmpty_iff, List.filter_eq_nil_iff] at h
  have := h p hp
  unfold openB at this
  by_cases e : p.2.1 = ("byte" : Str)
  · exact .inl e
  · right
    simp only [decide_eq_false e, Bool.not_false, Bool.true_and, Bool.not_eq_true', decide_eq_true_eq] at this
    exact Decidable.byContradiction fun z => this (decide_eq_false z)
theorem BaseOk.step {rs S : List Row} (h : BaseOk rs S) {r : Row} (hr : r ∈ rs) : BaseOk rs (bStep S r) := by
  unfold bStep
  split
  · rename_i c
    refine ⟨fun q hq => ?_, ?_, fun i q hi => ?_⟩
    · rcases List.mem_append.mp hq with z | z
      · exact h.sub q z
      · rw [List.mem_singleton.mp z]; exact hr
    · unfold rkinds
      rw [List.map_append]
      exact List.nodup_append.mpr ⟨h.nd, by simp, fun a ha b hb e => c.1 (by simp at hb; rw [← hb, ← e]; exact ha)⟩
    · by_cases l : i < S.length
      · rw [List.getElem?_append_left l] at hi
        rw [List.take_append_of_le_length (by omega)]
        exact h.down i q hi
      · have l2 : i = S.length := by
          have := (List.getElem?_eq_some_iff.mp hi).1
          rw [List.length_append, List.length_singleton] at this; omega
        subst l2
        rw [List.getElem?_append_right (Nat.le_refl _), Nat.sub_self] at hi
        have e : r = q := by simpa using hi
        subst e
        rw [List.take_left]
        exact open_none c.2
  · exact h
theorem bStep_mono (S : List Row) (r : Row) : ∀ k ∈ rkinds S, k ∈ rkinds (bStep S r) := fun k hk => by
  unfold bStep
  split
  · unfold rkinds at *; rw [List.map_append]; exact List.mem_append_left _ hk
  · exact hk
theorem bFold_mono : ∀ (l : List Row) (S : List Row), ∀ k ∈ rkinds S, k ∈ rkinds (l.foldl bStep S)
  | [], S, k, hk => hk
  | r :: l, S, k, hk => bFold_mono l _ k (bStep_mono S r k hk)
theorem bStep_has {S : List Row} {r : Row} (h : ∀ p ∈ r.2.2, p.2.1 = ("byte" : Str) ∨ p.2.1 ∈ rkinds S) : r.1 ∈ rkinds (bStep S r) := by
  unfold bStep
  split
  · unfold rkinds; rw [List.map_append]; exact List.mem_append_right _ (by simp)
  · rename_i c
    refine Decidable.byContradiction fun z => c ⟨z, ?_⟩
    rw [List.isEmpty_iff, List.filter_eq_nil_iff]
    intro p hp q
    unfold openB at q
    rcases h p hp with e | e
    · rw [decide_eq_true e] at q; cases q
    · rw [decide_eq_true e, Bool.and_comm] at q; cases q
theorem bFold_has : ∀ (l : List Row) (S : List Row) (r : Row), r ∈ l → (∀ p ∈ r.2.2, p.2.1 = ("byte" : Str) ∨ p.2.1 ∈ rkinds S) → r.1 ∈ rkinds (l.foldl bStep S)
  | [], S, r, h, _ => by cases h
  | a :: l, S, r, h, hp => by
    rcases List.mem_cons.mp h with e | h
    · subst e; exact bFold_mono l _ _ (bStep_has hp)
    · exact bFold_has l _ r h fun p q => (hp p q).imp id (bStep_mono S a _)
theorem BaseOk.fold {rs : List Row} : ∀ (l : List Row) (S : List Row), (∀ r ∈ l, r ∈ rs) → BaseOk rs S → BaseOk rs (l.foldl bStep S)
  | [], S, _, h => h
  | r :: l, S, hs, h => BaseOk.fold l _ (fun q hq => hs q (List.mem_cons_of_mem _ hq)) (h.step (hs r (List.mem_cons_self ..)))
theorem BaseOk.n {rs : List Row} : ∀ n, BaseOk rs (bN rs n)
  | 0 => ⟨fun r h => absurd h List.not_mem_nil, List.nodup_nil, fun i r h => by simp [bN] at h⟩
  | n + 1 => BaseOk.fold rs _ (fun _ h => h) (BaseOk.n n)
theorem bN_has {rs : List Row} {rank : Str → Nat} (f : FinOk rs rank) : ∀ n k, k ∈ rkinds rs → rank k < n → k ∈ rkinds (bN rs n)
  | 0, k, _, h => absurd h (Nat.not_lt_zero _)
  | n + 1, k, hk, h => by
    obtain ⟨r, hr, e, hp⟩ := f.base k hk
    subst e
    exact bFold_has rs _ r hr fun p hpp => (hp p hpp).imp id fun z => bN_has f n _ z.1 (by omega)
theorem base_all {rs : List Row} (val : ValidT rs) : ∀ k ∈ rkinds rs, k ∈ rkinds (bN rs 4) := fun k hk => by
  obtain ⟨rank, f⟩ := val.fin
  have := f.lt k hk
  have := val.each.kinds
  exact bN_has f 4 k hk (by omega)
theorem BaseOk.len {rs S : List Row} (val : ValidT rs) (h : BaseOk rs S) : S.length ≤ 4 := by
  have := nodup_sub_len (rkinds S) (distinct (rkinds rs)) h.nd fun k hk => mem_distinct.mpr (by
    obtain ⟨r, hr, e⟩ := List.mem_map.mp hk
    exact List.mem_map.mpr ⟨r, h.sub r hr, e⟩)
  have l : (rkinds S).length = S.length := by unfold rkinds; rw [List.length_map]
  have := val.each.kinds
  omega
def BaseD (H : Hp) (kvs : List (Key × V)) (S : List Row) : Prop := KD kvs (rkinds S) fun k v => ∃ r ∈ S, r.1 = k ∧ RowAt H v r
theorem BaseD.mono {H H' : Hp} (t : Tups H H') {kvs : List (Key × V)} {S : List Row} (h : BaseD H kvs S) : BaseD H' kvs S := KD.mono h fun _ _ z => by
  obtain ⟨r, hr, e, x⟩ := z; exact ⟨r, hr, e, x.mono t⟩
theorem rkinds_snoc (S : List Row) (r : Row) : rkinds (S ++ [r]) = rkinds S ++ [r.1] := by unfold rkinds; rw [List.map_append]; rfl
end Bg
set_option Elab.async false
set_option linter.all false
set_option maxRecDepth 100000
set_option maxHeartbeats 4000000
/-! a row for each kind, its tree parts of kinds that were found before -/
namespace Bg
open PySem PySem.Spec PyProof.Rows L2
section
variable {P : Program} {w : World} {K : PySem.W.Frag} {mg : Str → Option Value} {base : Heap} {fd : FuncData}
def spBase : Sp := fun vs H Q _ => ∃ (lr : Addr) (rs : List Row), vs = [.ref lr] ∧ RowsAt H lr rs ∧ ValidT rs ∧ ∀ d kvs H', Same H H' → H d = none → H' d = some (.dK kvs) → BaseD H' kvs (bN rs 4) → Q (.ref d) H'
theorem ok_base (T : Tx K mg) (F : FnP K ("_law_base", none) "_law_base" "_law_base" s__law_base fd) : FnOk P w K mg base CX0 1 (He.fAd K ("_law_base", none)) fd ["_law_rows_here"] spBase := by
  refine F.ok sc__law_base (fun vs H Q E h => ?_) (fun cdv A outer s H vs Q E hr h => ?_)
  · obtain ⟨_, _, rfl, _⟩ := h; rfl
  obtain ⟨lr, rs, rfl, ⟨us, ha, al⟩, val, q⟩ := h
  have hu := hu_of hr
  have nd := sc__law_base.nd
  refine ⟨_, PSs.nox (pss_cons (ps_set (i := 1) nd rfl (.inr rfl) pe_dnewK)
    (pss_cons (ps_for PassesOwn.never rfl (pi_range1 rfl T.n_range (pa_cons pe_int pa_nil)) (pg_name (i := 2) nd rfl (Or.inl rfl))
      (pss_one (ps_for PassesOwn.never rfl (pi_list (pv 0)) (pg_name (i := 3) nd rfl (Or.inl rfl))
        (pss_cons (ps_setLc (i := 4) (own := [("_law_part", 5)]) (g := gName 5) (by rfl) nd rfl rfl (sw_true rfl rfl rfl (by decide +kernel)) (pi_tup (pe_ix ix_tup (pv 3) pe_int (fun _ _ => rfl))) (blkOk_by (N := ["_law_rows_here", "_law_base_here", "_law_turn", "_law_row", "_law_open_kinds", "_law_part"]) (sc := defScope s__law_base) (by decide +kernel)) (fun _ _ _ _ _ => (pg_name (i := 5) nd rfl (Or.inl rfl))) (fun _ _ _ _ _ => pts_one (PW.pt (pw_and (pt_cmpR op_ne (pe_ix (r := rIxT K) ix_tup (pv 5) pe_int (fun _ _ => rfl)) pe_str (nomark _)) (pw_and1 (pt_cmp (pc_dnotin hu (pe_ix (r := rIxT K) ix_tup (pv 5) pe_int (fun _ _ => rfl)) (pv 1))))))) (fun _ _ _ _ _ => (pv 5)))
        (pss_one (ps_if (PW.pt (pw_and (pt_cmp (pc_dnotin hu (pe_ix ix_tup (pv 3) pe_int (fun _ _ => rfl)) (pv 1))) (pw_and1 (pt_cmpR (op_eqD hr.units) (pv 4) (pe_lst pa_nil) (nomark _)))))
          (pss_one (ps_dput hu (pv 1) (pe_ix ix_tup (pv 3) pe_int (fun _ _ => rfl)) (pv 3) rfl))
          pss_nil))))))
    (pss_one (ps_ret (pv 1))))), ?_⟩
  intro d hd
  refine ⟨_, rfl, by decide, by decide, for_it walk_range (fun i σ H2 => (∃ v2 v3 v4 v5, σ = [some (.ref lr), some (.ref d), v2, v3, v4, v5]) ∧ Same H H2 ∧ ∃ kvs, H2 d = some (.dK kvs) ∧ BaseD H2 kvs (bN rs i)) ⟨⟨_, _, _, _, rfl⟩, same_new hd, [], upd_same, KD.nil⟩ (fun _ _ _ _ _ => trivial) ?_ ?_⟩
  · rintro i x σ H2 H3 hi ⟨⟨v2, v3, v4, v5, rfl⟩, sm, kvs, hk, kd⟩ ⟨rfl, rfl⟩
    refine ⟨_, rfl, lr, rfl, ⟨_, .inl (.inl (sm _ _ ha))⟩, for_it (walk_list (K := K) (a := lr) (xs := us)) (fun j σ H4 => (∃ v2 v3 v4 v5, σ = [some (.ref lr), some (.ref d), v2, v3, v4, v5]) ∧ Same H H4 ∧ ∃ kvs, H4 d = some (.dK kvs) ∧ BaseD H4 kvs ((rs.take j).foldl bStep (bN rs i)) ∧ BaseOk rs ((rs.take j).foldl bStep (bN rs i)))
      ⟨⟨_, _, _, _, rfl⟩, sm, kvs, hk, kd, BaseOk.n i⟩ (fun j σ H4 _ z => .inl (.inl (z.2.1 _ _ ha))) ?_ ?_⟩
    · rintro j y σ H4 H5 hj ⟨⟨v2, v3, v4, v5, rfl⟩, sm, kvs, hk, kd, bo⟩ ⟨rfl, hy⟩
      obtain ⟨r, hrr, b, u, rfl, hb, pa⟩ := al.get hy
      have hmem := List.mem_of_getElem? hrr
      generalize hS : (rs.take j).foldl bStep (bN rs i) = S at kd bo
      have est : (rs.take (j + 1)).foldl bStep (bN rs i) = bStep S r := by rw [take_succ_of hrr, List.foldl_append, hS] <;> rfl
      have hb5 := sm _ _ hb
      obtain ⟨c, ws, rfl, hc, alp⟩ := pa.mono (tups_of sm)
      refine ⟨_, rfl, b, _, _, _, rfl, rfl, SqT.of hb5, atI_nat (j := 2) rfl, c, rfl, ⟨_, SqT.of hc⟩, fun D2 hD2 => ?_⟩
      have ndD : d ≠ D2 := ne_of_none hk hD2
      refine lc_it (walk_tup (K := K) (a := c) (xs := ws)) (fun n H6 => Same H5 H6 ∧ ∃ acc, H6 D2 = some (.lst acc) ∧ acc.length ≤ n ∧ All2 (PartAt H5) acc ((r.2.2.take n).filter (openB S))) ⟨same_new hD2, [], upd_same, Nat.le_refl _, All2.nil⟩ (fun n H6 _ z => SqT.of (z.1 _ _ hc)) ?_ ?_
      · rintro n z H6 H7 hn ⟨s6, acc, hacc, la, ala⟩ ⟨rfl, hz⟩
        obtain ⟨p, hp, pat⟩ := alp.get hz
        obtain ⟨e, xs, rfl, he, x0, x1⟩ := partAt_ix (pat.mono (tups_of s6))
        have w4 : n < 1000 := by
          have := (List.getElem?_eq_some_iff.mp hp).1
          have := val.four r hmem
          omega
        have tk : (r.2.2.take (n + 1)).filter (openB S) = (r.2.2.take n).filter (openB S) ++ (if openB S p then [p] else []) := by
          rw [take_succ_of hp, List.filter_append]
          cases h : openB S p <;> simp [h]
        refine ⟨rfl, _, rfl, e, _, _, _, rfl, rfl, SqT.of he, atI_nat (j := 1) x1, rfl, _, rfl, ite2 (fun h1 => ?_) (fun h1 => ?_)⟩
        · have eb : decide (p.2.1 = ("byte" : Str)) = false := by simpa using h1
          refine ⟨_, rfl, e, _, _, _, rfl, rfl, SqT.of he, atI_nat (j := 1) x1, _, rfl, d, _, rfl, DGet.k (k := Sum.inr p.2.1) (s6 _ _ hk), _, rfl, ?_⟩
          rw [KD.isSome kd]
          have eo : openB S p = !decide (p.2.1 ∈ rkinds S) := by unfold openB; rw [eb]; rfl
          cases hd2 : decide (p.2.1 ∈ rkinds S) with
          | true =>
            rw [hd2] at eo
            refine iteF ⟨s6, acc, hacc, by omega, ?_⟩
            rw [tk, eo]; simpa using ala
          | false =>
            rw [hd2] at eo
            refine iteT ⟨_, rfl, acc, hacc, small1000 (by omega), same_mut s6 hD2, _, upd_same, by rw [List.length_append, List.length_singleton]; omega, ?_⟩
            rw [tk, eo]
            exact ala.snoc ⟨e, rfl, by obtain ⟨a', e1, e2⟩ := pat; cases e1; exact e2⟩
        · have eb : decide (p.2.1 = ("byte" : Str)) = true := by simpa using h1
          have eo : openB S p = false := by unfold openB; rw [eb]; rfl
          refine ⟨s6, acc, hacc, by omega, ?_⟩
          rw [tk, eo]; simpa using ala
      · rintro H6 ⟨s6, acc, hacc, la, ala⟩
        rw [alp.1, List.take_length] at ala
        have sm6 := sm.trans s6
        have hk6 := s6 _ _ hk
        refine ⟨_, rfl, b, _, _, _, rfl, rfl, SqT.of (sm6 _ _ hb), atI_nat (j := 0) rfl, _, rfl, d, _, rfl, DGet.k (k := Sum.inr r.1) hk6, _, rfl, ?_⟩
        rw [KD.isSome kd]
        have bo' : BaseOk rs ((rs.take (j + 1)).foldl bStep (bN rs i)) := by rw [est]; exact bo.step hmem
        cases hin : decide (r.1 ∈ rkinds S) with
        | true =>
          have e1 : bStep S r = S := by unfold bStep; rw [if_neg fun z => z.1 (of_decide_eq_true hin)]
          refine iteF ⟨⟨_, _, _, _, rfl⟩, sm6, kvs, hk6, ?_, bo'⟩
          rw [est, e1]; exact kd.mono (tups_of s6)
        | false =>
          refine iteT ⟨_, rfl, Nat.zero_le _, fun l hl => ?_⟩
          have s7 := same_new (o := .lst []) hl
          have pb : ∀ p ∈ r.2.2.filter (openB S), partB p = true := fun p hp => part_kind (val.each.good r hmem).2.2 (List.mem_filter.mp hp).1
          refine ⟨.list ((r.2.2.filter (openB S)).map partPD), .list [], .lst (SqL.of (s7 _ _ hacc)) (dpAll_of (fun v x (h : PartAt H5 v x) => (h.td.mono (tups_of (s6.trans s7))).dp) ala), .lst (SqL.of upd_same) .nil, parts_shaped pb, by decide +kernel, _, rfl, ?_⟩
          have sm7 := sm6.trans s7
          have hk7 := s7 _ _ hk6
          rw [eqv_nil, List.isEmpty_map]
          cases hem : (r.2.2.filter (openB S)).isEmpty with
          | false =>
            have e1 : bStep S r = S := by unfold bStep; rw [if_neg fun z => by rw [hem] at z; exact Bool.noConfusion z.2]
            refine iteF ⟨⟨_, _, _, _, rfl⟩, sm7, kvs, hk7, ?_, bo'⟩
            rw [est, e1]; exact kd.mono (tups_of (s6.trans s7))
          | true =>
            have e1 : bStep S r = S ++ [r] := by unfold bStep; rw [if_pos ⟨of_decide_eq_false hin, hem⟩]
            have tp : Tups (upd H6 l (.lst [])) (upd (upd H6 l (.lst [])) d (.dK (putK kvs (Sum.inr r.1) (.ref b)))) := tups_upd fun u f z => by rw [hk7] at z; cases z; exact f
            have tx := Tups.trans (tups_of (s6.trans s7)) tp
            refine iteT ⟨_, rfl, _, rfl, _, rfl, b, _, _, _, rfl, rfl, SqT.of (sm7 _ _ hb), atI_nat (j := 0) rfl, d, _, rfl, DPut.k (k := Sum.inr r.1) hk7 ?_, ⟨_, _, _, _, rfl⟩, same_mut sm7 hd, _, upd_same, ?_, bo'⟩
            · have l1 := KD.length kd
              have l2 := bo.len val
              have l3 : (rkinds S).length = S.length := by unfold rkinds; rw [List.length_map]
              exact small1000 (by omega)
            · rw [est, e1]
              unfold BaseD
              rw [rkinds_snoc, ← addNew_of_not (of_decide_eq_false hin)]
              refine KD.put (k := r.1) kd (fun k' u' hk' hu' => ?_) ⟨r, List.mem_append_right _ (by simp), rfl, b, _, rfl, tx _ _ trivial hb5, ⟨c, ws, rfl, tx _ _ trivial hc, alp.mono fun _ _ z => z.mono tx⟩⟩
              obtain ⟨r', hr', e', x'⟩ := hu'
              exact ⟨r', List.mem_append_left _ hr', e', x'.mono tx⟩
    · rintro σ H4 ⟨⟨v2, v3, v4, v5, rfl⟩, sm, kvs, hk, kd, bo⟩
      rw [al.1, List.take_length] at kd
      exact ⟨⟨_, _, _, _, rfl⟩, sm, kvs, hk, kd⟩
  · rintro σ H2 ⟨⟨v2, v3, v4, v5, rfl⟩, sm, kvs, hk, kd⟩
    exact ⟨_, rfl, q d kvs H2 sm hd hk kd⟩
end
end Bg
set_option Elab.async false
set_option linter.all false
set_option maxRecDepth 100000
set_option maxHeartbeats 4000000
namespace Bg
open PySem PySem.Spec PyProof.Rows L2
/-- a statement, what holds behind it (chosen in the reading), the rest -/
def tMid (t u : TS) : TS := fun D σ H => ∃ M : L2.St → Hp → Prop, t { D with nx := M } σ H ∧ ∀ σ' H', M σ' H' → u D σ' H'
theorem pss_mid {X : Cx} {st : Stmt} {rest : List Stmt} {t u : TS} (h1 : PS X st t) (h2 : PSs X rest u) : PSs X (st :: rest) (tMid t u) := by
  refine ⟨fun pins s σ H D I h => ?_⟩
  obtain ⟨M, a, b⟩ := h
  refine wpAny_execs_cons (thn (h1.run pins s σ H { D with nx := M } I a) fun f s1 q => ?_)
  cases f with
  | next =>
    obtain ⟨σ1, H1, I1, q1⟩ := q
    exact h2.run pins s1 σ1 H1 D I1 (b _ _ q1)
  | ret v => exact q
  | brk => exact q
  | cont => exact q
end Bg
set_option Elab.async false
set_option linter.all false
set_option maxRecDepth 100000
set_option maxHeartbeats 4000000
/-! drawn trees -/
namespace Bg
open PySem PySem.Spec PyProof.Rows L2
mutual
def wt : PyData → Nat
  | .tuple ds => 1 + wtAll ds
  | _ => 1
def wtAll : List PyData → Nat
  | [] => 0
  | d :: ds => wt d + wtAll ds
end
theorem wtAll_app : ∀ (a b : List PyData), wtAll (a ++ b) = wtAll a + wtAll b
  | [], b => by simp [wtAll]
  | d :: ds, b => by rw [List.cons_append, wtAll, wtAll, wtAll_app ds b]; omega
def Bd : Nat → Nat
  | 0 => 6
  | i + 1 => 2 + 4 * Bd i
theorem Bd_le {i j : Nat} (h : i ≤ j) : Bd i ≤ Bd j := by
  induction h with
  | refl => exact Nat.le_refl _
  | step _ ih => exact Nat.le_trans ih (by show _ ≤ 2 + 4 * _; omega)
theorem Bd_pos (i : Nat) : 6 ≤ Bd i := Bd_le (Nat.zero_le i)
/-- the levels, the weight of a tree that is drawn with so much fuel -/
def mz (S : List Row) (k : Str) (f : Nat) : Nat := if f = 0 then (rkinds S).idxOf k + 1 else f + S.length
def bz (S : List Row) (k : Str) (f : Nat) : Nat := if f = 0 then Bd ((rkinds S).idxOf k) else 426 + 1280 * f
theorem rk_len (S : List Row) : (rkinds S).length = S.length := by unfold rkinds; rw [List.length_map]
theorem allV_mono {f g : Str → PyData → Bool} (h : ∀ k d, f k d = true → g k d = true) : ∀ {ps : List Part} {ds : List PyData}, allV f ps ds = true → allV g ps ds = true
  | [], [], _ => rfl
  | [], _ :: _, e => by cases e
  | _ :: _, [], e => by cases e
  | p :: ps, d :: ds, e => by
    have e : (valB f p.2.1 d && allV f ps ds) = true := e
    rw [Bool.and_eq_true] at e
    show (valB g p.2.1 d && allV g ps ds) = true
    rw [Bool.and_eq_true]
    refine ⟨?_, allV_mono h e.2⟩
    have z := e.1
    unfold valB at z ⊢
    split
    · rename_i c; rw [if_pos c] at z; exact z
    · rename_i c; rw [if_neg c] at z; exact h _ _ z
theorem fitB_inv {rs : List Row} {n : Nat} {k : Str} {d : PyData} (h : fitB rs (n + 1) k d = true) : ∃ m ds r, d = .tuple (.str m :: ds) ∧ rowAt rs k m = some r ∧ allV (fitB rs n) r.2.2 ds = true := by
  unfold fitB at h
  split at h
  · cases h
  · rename_i n' m ds e
    cases e
    split at h
    · rename_i r er
      exact ⟨m, ds, r, rfl, er, h⟩
    · cases h
  · cases h
theorem fitB_mono {rs : List Row} : ∀ (n : Nat) (k : Str) (d : PyData), fitB rs n k d = true → fitB rs (n + 1) k d = true
  | 0, k, d, h => by cases h
  | n + 1, k, d, h => by
    obtain ⟨m, ds, r, rfl, er, z⟩ := fitB_inv h
    rw [fitB, er]
    exact allV_mono (fitB_mono n) z
theorem fitB_le {rs : List Row} {n m : Nat} (l : n ≤ m) {k : Str} {d : PyData} (h : fitB rs n k d = true) : fitB rs m k d = true := by
  induction l with
  | refl => exact h
  | step _ ih => exact fitB_mono _ _ _ ih
theorem allV_snoc {f : Str → PyData → Bool} {p : Part} {d : PyData} (h : valB f p.2.1 d = true) : ∀ {ps : List Part} {ds : List PyData}, allV f ps ds = true → allV f (ps ++ [p]) (ds ++ [d]) = true
  | [], [], _ => by show (valB f p.2.1 d && true) = true; rw [h]; rfl
  | [], _ :: _, e => by cases e
  | _ :: _, [], e => by cases e
  | q :: ps, e :: ds, z => by
    have z : (valB f q.2.1 e && allV f ps ds) = true := z
    rw [Bool.and_eq_true] at z
    show (valB f q.2.1 e && allV f (ps ++ [p]) (ds ++ [d])) = true
    rw [z.1, allV_snoc h z.2]; rfl
theorem HdAll.snoc {ds : List PyData} (h : HdAll ds) {d : PyData} (hd : Hd d) : HdAll (ds ++ [d]) := HdAll.of fun e he => by
  rcases List.mem_append.mp he with z | z
  · exact h.mem e z
  · rw [List.mem_singleton.mp z]; exact hd
/-- what stands behind the pick of a row: the tree parts can be drawn with a smaller measure -/
structure Pick (rs S : List Row) (n : Nat) (r : Row) (left b : Nat) : Prop where
  mem : r ∈ rs
  ch : ∃ c0, 1 ≤ c0 ∧ 2 + 4 * c0 + 1280 * left ≤ b ∧ ∀ p ∈ r.2.2, p.2.1 ≠ ("byte" : Str) → ∀ s, s ≤ left → mz S p.2.1 s ≤ n ∧ bz S p.2.1 s ≤ c0 + 1280 * s
theorem idx_lt {S : List Row} {k : Str} (h : k ∈ rkinds S) : (rkinds S).idxOf k < S.length := by rw [← rk_len S]; exact List.idxOf_lt_length_of_mem h
theorem pick_base {rs S : List Row} (val : ValidT rs) (h : BaseOk rs S) {k : Str} {n : Nat} {r : Row} (hr : r ∈ S) (e : r.1 = k) (hm : mz S k 0 ≤ n + 1) : Pick rs S n r 0 (bz S k 0) := by
  refine ⟨h.sub r hr, ?_⟩
  obtain ⟨i, hi⟩ := List.getElem?_of_mem hr
  have li := (List.getElem?_eq_some_iff.mp hi).1
  have ek : (rkinds S)[i]? = some k := by unfold rkinds; rw [List.getElem?_map, hi, ← e]; rfl
  have ei : (rkinds S).idxOf k = i := nd_ix h.nd (mem_idxOf (List.mem_of_getElem? ek)).1 ek
  unfold mz at hm
  rw [if_pos rfl, ei] at hm
  unfold bz
  rw [if_pos rfl, ei]
  have down := h.down i r hi
  have idx : ∀ p ∈ r.2.2, p.2.1 ≠ ("byte" : Str) → (rkinds S).idxOf p.2.1 < i := fun p hp hb => by
    have z := (down p hp).resolve_left hb
    obtain ⟨j, hj⟩ := List.getElem?_of_mem z
    have lj : j < (rkinds (S.take i)).length := (List.getElem?_eq_some_iff.mp hj).1
    rw [rk_len, List.length_take] at lj
    have hj2 : (rkinds S)[j]? = some p.2.1 := by
      have : rkinds (S.take i) = (rkinds S).take i := by unfold rkinds; rw [List.map_take]
      rw [this, List.getElem?_take_of_lt (by omega)] at hj
      exact hj
    have : (rkinds S).idxOf p.2.1 = j := nd_ix h.nd (mem_idxOf (List.mem_of_getElem? hj2)).1 hj2
    omega
  cases i with
  | zero => exact ⟨1, Nat.le_refl _, by show 2 + 4 * 1 + 1280 * 0 ≤ 6; omega, fun p hp hb => absurd (idx p hp hb) (Nat.not_lt_zero _)⟩
  | succ i =>
    refine ⟨Bd i, Nat.le_trans (by decide) (Bd_pos i), by show _ ≤ 2 + 4 * Bd i; omega, fun p hp hb s hs => ?_⟩
    have z : s = 0 := by omega
    subst z
    have l := idx p hp hb
    unfold mz
    rw [if_pos rfl, if_pos rfl]
    exact ⟨by omega, Nat.le_trans (Bd_le (show _ ≤ i by omega)) (by omega)⟩
theorem pick_free {rs S : List Row} (val : ValidT rs) (h : BaseOk rs S) (all : ∀ k ∈ rkinds rs, k ∈ rkinds S) {k : Str} {n f : Nat} {r : Row} (hr : r ∈ rs) (hm : mz S k (f + 1) ≤ n + 1) : Pick rs S n r f (bz S k (f + 1)) := by
  refine ⟨hr, 426, by decide, ?_, fun p hp hb s hs => ?_⟩
  · unfold bz; rw [if_neg (by omega)]; omega
  · have hk := all _ ((val.inner r hr p hp).resolve_left hb)
    have l4 := h.len val
    have lt := idx_lt hk
    unfold mz at hm ⊢
    rw [if_neg (by omega)] at hm
    unfold bz
    by_cases z : s = 0
    · rw [if_pos z, if_pos z]
      have : Bd ((rkinds S).idxOf p.2.1) ≤ Bd 3 := Bd_le (by omega)
      have : Bd 3 = 426 := rfl
      exact ⟨by omega, by omega⟩
    · rw [if_neg z, if_neg z]
      exact ⟨by omega, by omega⟩
theorem wt_node (m : Str) (ds : List PyData) : wt (.tuple (.str m :: ds)) = 2 + wtAll ds := by simp [wt, wtAll]; omega
abbrev tSt (pool lr bd : Addr) (k : Str) (cut : Int) (f : Nat) (b : Addr) (v7 : Option V) (left : Nat) (t : Addr) (v10 v11 : Option V) : L2.St :=
  [some (.ref pool), some (.ref lr), some (.ref bd), some (.str k), some (.int cut), some (.int (f : Nat)), some (.ref b), v7, some (.int ((left : Nat) : Int)), some (.ref t), v10, v11]
/-- what holds between two parts -/
structure TInv (rs : List Row) (n : Nat) (r : Row) (c0 left : Nat) (H3 : Hp) (pool : Addr) (i : Nat) (left2 : Nat) (t : Addr) (vs : List V) (ds : List PyData) (H5 : Hp) : Prop where
  bu : But pool H3 H5
  pl : PoolAt H5 pool
  tup : H5 t = some (.tup (.str r.2.1 :: vs))
  td : TdAll H5 vs ds
  hd : HdAll ds
  len : ds.length = i
  fit : allV (fitB rs n) (r.2.2.take i) ds = true
  le : left2 ≤ left
  wb : wtAll ds + 1280 * left2 ≤ i * c0 + 1280 * left
theorem TInv.more {rs : List Row} {n : Nat} {r : Row} {c0 left : Nat} {H3 : Hp} {pool : Addr} {i left2 : Nat} {t : Addr} {vs : List V} {ds : List PyData} {H6 H7 : Hp} (h : TInv rs n r c0 left H3 pool i left2 t vs ds H6) {p : Part} (hp : r.2.2[i]? = some p)
    (bu : But pool H6 H7) (hP : PoolAt H7 pool) {v : V} {d : PyData} (td : Td H7 v d) (hd : Hd d) (fit : valB (fitB rs n) p.2.1 d = true) {left3 : Nat} (le : left3 ≤ left2) (w : wt d + 1280 * left3 ≤ c0 + 1280 * left2) {a : Addr} (ha : H7 a = none) :
    TInv rs n r c0 left H3 pool (i + 1) left3 a (vs ++ [v]) (ds ++ [d]) (upd H7 a (.tup (V.str r.2.1 :: vs ++ [v]))) := by
  have s8 := same_new (o := .tup (V.str r.2.1 :: vs ++ [v])) ha
  have t68 : Tups H6 (upd H7 a (.tup (V.str r.2.1 :: vs ++ [v]))) := (but_tups bu h.pl.not).trans (tups_of s8)
  refine ⟨h.bu.trans (bu.trans (but_of s8)), hP.same s8, by rw [upd_same] <;> rfl, (TdAll.mono t68 h.td).snoc (td.mono (tups_of s8)), h.hd.snoc hd, by rw [List.length_append, h.len]; rfl, ?_, Nat.le_trans le h.le, ?_⟩
  · rw [take_succ_of hp]; exact allV_snoc fit h.fit
  · have := h.wb
    have e : (i + 1) * c0 = i * c0 + c0 := Nat.succ_mul _ _
    rw [wtAll_app, e]
    simp only [wtAll]
    omega
section
variable {P : Program} {w : World} {K : PySem.W.Frag} {mg : Str → Option Value} {base : Heap} {fd : FuncData}
def spTree (n : Nat) : Sp := fun vs H Q _ => ∃ (pool lr bd : Addr) (k : Str) (cut : Int) (f : Nat) (rs : List Row) (kvs : List (Key × V)), vs = [.ref pool, .ref lr, .ref bd, .str k, .int cut, .int (f : Nat)] ∧ PoolAt H pool ∧ lr ≠ pool ∧ RowsAt H lr rs ∧ ValidT rs ∧ H bd = some (.dK kvs) ∧ BaseD H kvs (bN rs 4) ∧
  k ∈ rkinds rs ∧ 1 ≤ cut ∧ cut ≤ 255 ∧ f ≤ 1000 ∧ mz (bN rs 4) k f ≤ n ∧ ∀ v d H', But pool H H' → PoolAt H' pool → Td H' v d → Hd d → fitB rs n k d = true → wt d ≤ bz (bN rs 4) k f → Q v H'
theorem ok_tree0 : FnOk P w K mg base CX0 1 (He.fAd K ("_law_tree", none)) fd p__law_tree (spTree 0) := by
  have no : ∀ vs H Q E, ¬ spTree 0 vs H Q E := fun vs H Q E h => by
    obtain ⟨_, _, _, k, _, f, rs, _, _, _, _, _, _, _, _, _, _, _, _, m, _⟩ := h
    unfold mz at m
    split at m <;> omega
  exact ⟨fun vs H Q E h => absurd h (no vs H Q E), fun A outer s H args us vs Q E _ _ _ _ h => absurd h (no vs H Q E)⟩
theorem ok_tree1 (T : Tx K mg) {n : Nat} {ft : FuncData} (G : FnOk P w K mg base CX0 (n + 1) (He.fAd K ("_law_tree", none)) fd p__law_tree (spTree n)) (F : FnP K ("_law_tree", none) "_law_tree" "_law_tree" s__law_tree fd) : FnOk P w K mg base CX0 (n + 2) (He.fAd K ("_law_tree", none)) fd p__law_tree (spTree (n + 1)) := by
  refine F.ok (k := n + 1) sc__law_tree (fun vs H Q E h => ?_) (fun cdv A outer s H vs Q E hr h => ?_)
  · obtain ⟨_, _, _, _, _, _, _, _, rfl, _⟩ := h; rfl
  obtain ⟨pool, lr, bd, k, cut, f, rs, kvs, rfl, hP, nlp, ⟨us, ha, al⟩, val, hbd, kd, hk, c1, c2, f1000, hm, q⟩ := h
  have hu := hu_of hr
  have nbp : bd ≠ pool := by obtain ⟨ns, e, _⟩ := id hP; exact ne_of hbd e (by intro z; cases z)
  have bo := BaseOk.n (rs := rs) 4
  have all := base_all val
  obtain ⟨f1, F1⟩ := T.F__law_take
  have nd := sc__law_tree.nd
  refine ⟨_, PSs.nox (pss_cons (ps_setLc (i := 7) (own := [("_law_row", 6)]) (g := gName 6) (by rfl) nd rfl rfl (sw_true rfl rfl rfl (by decide +kernel)) (pi_list (pv 1)) (blkOk_by (N := ["_law_pool_here", "_law_rows_here", "_law_base_here", "_law_kind", "_law_cut", "_law_fuel", "_law_row", "_law_choices", "_law_left", "_law_tree_here", "_law_part", "_law_share"]) (sc := defScope s__law_tree) (by decide +kernel)) (fun _ _ _ _ _ => (pg_name (i := 6) nd rfl (Or.inl rfl))) (fun _ _ _ _ _ => pts_one (pt_cmpR op_eq (pe_ix (r := rIxT K) ix_tup (pv 6) pe_int (fun _ _ => rfl)) (pv 3) (nomark _))) (fun _ _ _ _ _ => (pv 6)))
    (pss_cons (ps_set (i := 6) nd rfl (.inl rfl) (pe_dget hu (pv 2) (pv 3) (fun _ _ => rfl)))
    (pss_cons (ps_set (i := 8) nd rfl (.inl rfl) pe_int)
    (pss_mid (ps_if (pt_cmpR op_gt (pv 5) pe_int (nomark _))
      (pss_cons (ps_set (i := 8) nd rfl (.inl rfl) (pe_op op_sub (pv 5) pe_int))
      (pss_one (ps_set (i := 6) nd rfl (.inl rfl) (pe_ix ix_list (pv 7) (pe_op op_mod (pe_callTy call_int1 (by rfl) T.n_int (by decide +kernel) (pa_cons (pe_op op_add pe_int (pe_call (ok_take T F1) (hr.mono (by omega)) (by rfl) T.g_law_take T.k_law_take (b__law_take F1) .nil pass0 (pa_cons (pv 0) (pa_cons (pe_callB call_len_seq (by rfl) T.n_len PySem.boot_len (pa_cons (pv 7) pa_nil)) pa_nil)))) pa_nil)) (pe_callB call_len_seq (by rfl) T.n_len PySem.boot_len (pa_cons (pv 7) pa_nil))) (fun _ _ => rfl)))))
      pss_nil)
    (pss_cons (ps_set (i := 9) nd rfl (.inl rfl) (pe_tup (pa_cons (pe_ix ix_tup (pv 6) pe_int (fun _ _ => rfl)) pa_nil)))
    (pss_cons (ps_for PassesOwn.never rfl (pi_tup (pe_ix ix_tup (pv 6) pe_int (fun _ _ => rfl))) (pg_name (i := 10) nd rfl (Or.inl rfl))
      (pss_one (ps_if (pt_cmpR op_eq (pe_ix ix_tup (pv 10) pe_int (fun _ _ => rfl)) pe_str (nomark _))
        (pss_one (ps_set (i := 9) nd rfl (.inl rfl) (pe_op op_catA (pv 9) (pe_tup (pa_cons (pe_ix ix_list (pe_lst (pa_cons (pe_op op_sub (pv 4) pe_int) (pa_cons (pv 4) (pa_cons (pe_call (ok_take T F1) (hr.mono (by omega)) (by rfl) T.g_law_take T.k_law_take (b__law_take F1) .nil pass0 (pa_cons (pv 0) (pa_cons pe_int pa_nil))) pa_nil)))) (pe_call (ok_take T F1) (hr.mono (by omega)) (by rfl) T.g_law_take T.k_law_take (b__law_take F1) .nil pass0 (pa_cons (pv 0) (pa_cons pe_int pa_nil))) (fun _ _ => rfl)) pa_nil)))))
        (pss_cons (ps_set (i := 11) nd rfl (.inl rfl) (pe_op op_sub (pv 8) (pe_call (ok_take T F1) (hr.mono (by omega)) (by rfl) T.g_law_take T.k_law_take (b__law_take F1) .nil pass0 (pa_cons (pv 0) (pa_cons (pe_op op_add (pv 8) pe_int) pa_nil)))))
        (pss_cons (ps_set (i := 8) nd rfl (.inl rfl) (pe_op op_sub (pv 8) (pv 11)))
        (pss_one (ps_set (i := 9) nd rfl (.inl rfl) (pe_op op_catA (pv 9) (pe_tup (pa_cons (pe_call G (hr.mono (by omega)) (by rfl) T.g_law_tree T.k_law_tree (b__law_tree F) .nil pass0 (pa_cons (pv 0) (pa_cons (pv 1) (pa_cons (pv 2) (pa_cons (pe_ix ix_tup (pv 10) pe_int (fun _ _ => rfl)) (pa_cons (pv 4) (pa_cons (pv 11) pa_nil))))))) pa_nil))))))))))
    (pss_one (ps_ret (pv 9))))))))), ?_⟩
  -- the rows of the kind
  refine ⟨_, rfl, lr, rfl, ⟨_, .inl (.inl ha)⟩, fun D1 hD1 => lc_it (walk_list (K := K) (a := lr) (xs := us)) (fun i H2 => Same H H2 ∧ ∃ acc, H2 D1 = some (.lst acc) ∧ All2 (RowAt H) acc ((rs.take i).filter fun r => decide (r.1 = k))) ⟨same_new hD1, [], upd_same, All2.nil⟩ (fun i H2 _ z => .inl (.inl (z.1 _ _ ha))) ?_ ?_⟩
  · rintro i x H2 H3 hi ⟨sm, acc, hacc, ala⟩ ⟨rfl, hx⟩
    obtain ⟨r, hrr, b, u, rfl, hb, pa⟩ := al.get hx
    have tk : (rs.take (i + 1)).filter (fun r => decide (r.1 = k)) = (rs.take i).filter (fun r => decide (r.1 = k)) ++ (if decide (r.1 = k) then [r] else []) := by
      rw [take_succ_of hrr, List.filter_append]
      cases h : decide (r.1 = k) <;> simp [h]
    have la : acc.length ≤ 1000 := by
      rw [ala.1]
      have h1 := List.length_filter_le (fun r : Row => decide (r.1 = k)) (rs.take i)
      rw [List.length_take] at h1
      have := val.short.1
      omega
    refine ⟨rfl, _, rfl, b, _, _, _, rfl, rfl, SqT.of (sm _ _ hb), atI_nat (j := 0) rfl, _, rfl, rfl, _, rfl, ?_⟩
    rw [show decide (V.str r.1 = V.str k) = decide (r.1 = k) by simp]
    cases hc : decide (r.1 = k) with
    | true =>
      refine iteT ⟨_, rfl, acc, hacc, small1000 la, same_mut sm hD1, _, upd_same, ?_⟩
      rw [tk, hc]; exact ala.snoc ⟨b, u, rfl, hb, pa⟩
    | false =>
      refine iteF ⟨sm, acc, hacc, ?_⟩
      rw [tk, hc]; simpa using ala
  rintro H2 ⟨sm2, acc, hacc, ala⟩
  rw [al.1, List.take_length] at ala
  -- the row of the base
  obtain ⟨rv, erv, r0, hr0, er0, b0, u0, rfl, hb0, pa0⟩ := KD.some kd (all k hk)
  refine ⟨_, rfl, _, rfl, bd, _, rfl, (by rw [← erv]; exact DGet.k (k := Sum.inr k) (sm2 _ _ hbd)), ?_⟩
  -- the pick
  refine ⟨fun σ H3 => ∃ b u r v7 left, σ = [some (.ref pool), some (.ref lr), some (.ref bd), some (.str k), some (.int cut), some (.int (f : Nat)), some (.ref b), v7, some (.int ((left : Nat) : Int)), none, none, none] ∧ But pool H H3 ∧ PoolAt H3 pool ∧ H3 b = some (.tup [.str r.1, .str r.2.1, u]) ∧ PartsAt H3 u r.2.2 ∧ r.1 = k ∧ left ≤ f ∧ Pick rs (bN rs 4) n r left (bz (bN rs 4) k f), ?_, ?_⟩
  · refine ⟨_, rfl, _, _, rfl, rfl, _, rfl, ?_⟩
    by_cases hf : f = 0
    · subst hf
      rw [show decide (((0 : Nat) : Int) > 0) = false from rfl]
      exact iteF ⟨b0, u0, r0, _, 0, rfl, but_of sm2, hP.same sm2, sm2 _ _ hb0, pa0.mono (tups_of sm2), er0, Nat.le_refl _, pick_base val bo hr0 er0 hm⟩
    · obtain ⟨g, rfl⟩ : ∃ g, f = g + 1 := ⟨f - 1, by omega⟩
      rw [show decide ((((g + 1 : Nat) : Int)) > 0) = true from decide_eq_true (by omega)]
      have pos : 0 < acc.length := by
        rw [ala.1]
        obtain ⟨r, hr', e⟩ := List.mem_map.mp hk
        exact List.length_pos_of_mem (List.mem_filter.mpr ⟨hr', decide_eq_true e⟩)
      refine iteT ⟨_, rfl, _, _, rfl, rfl, _, rfl, _, rfl, _, rfl, D1, _, rfl, .inl (SqL.of hacc), pool, _, rfl, hP.same sm2, (by omega), fun z H3 z0 z1 b3 hP3 => ?_⟩
      have nDp : D1 ≠ pool := fun e => by obtain ⟨ns, e2, _⟩ := hP; rw [e, e2] at hD1; cases hD1
      have hacc3 := b3 _ _ nDp hacc
      refine ⟨_, _, rfl, rfl, .inl ⟨_, rfl, _, rfl, D1, _, rfl, .inl (SqL.of hacc3), _, _, rfl, rfl, (by omega), ?_⟩⟩
      have y0 : 0 ≤ (1 + z) % (acc.length : Nat) := Int.emod_nonneg _ (by omega)
      have y1 : (1 + z) % (acc.length : Nat) < (acc.length : Nat) := Int.emod_lt_of_pos _ (by omega)
      obtain ⟨j, hj⟩ := Int.eq_ofNat_of_zero_le y0
      have lj : j < acc.length := by omega
      obtain ⟨r, hrj, b, u, eb, hb, pa⟩ := ala.get (List.getElem?_eq_getElem lj)
      obtain ⟨hr1, hr2⟩ := List.mem_filter.mp (List.mem_of_getElem? hrj)
      have b03 : But pool H H3 := (but_of sm2).trans b3
      have t03 : Tups H H3 := but_tups b03 hP.not
      refine ⟨D1, _, _, .ref b, rfl, rfl, SqL.of hacc3, (by rw [hj]; exact atI_nat (by rw [List.getElem?_eq_getElem lj, eb])), b, u, r, some (.ref D1), g, ?_, b03, hP3, t03 _ _ trivial hb, pa.mono t03, of_decide_eq_true hr2, by omega, pick_free val bo all hr1 hm⟩
      show [_, _, _, _, _, _, _, _, some (V.int (((g + 1 : Nat) : Int) - 1)), _, _, _] = _
      rw [show ((g + 1 : Nat) : Int) - 1 = ((g : Nat) : Int) by omega]
  rintro σ H3 ⟨b, u, r, v7, left, rfl, b03, hP3, hb, pa, ek, lf, pick⟩
  obtain ⟨hrs, c0, c01, cb, ch⟩ := pick
  have hparts := val.each.good r hrs
  obtain ⟨c, ws, rfl, hc, alp⟩ := id pa
  refine ⟨_, rfl, b, _, _, _, rfl, rfl, SqT.of hb, atI_nat (j := 1) rfl, (by show 1 ≤ sizeLine; decide), fun t0 ht0 => ?_⟩
  have s4 := same_new (o := .tup [V.str r.2.1]) ht0
  refine ⟨_, rfl, b, _, _, _, rfl, rfl, SqT.of (s4 _ _ hb), atI_nat (j := 2) rfl, c, rfl, ⟨_, SqT.of (s4 _ _ hc)⟩, ?_⟩
  have ncp : c ≠ pool := by obtain ⟨ns, e, _⟩ := id hP3; exact ne_of hc e (by intro z; cases z)
  refine for_it (walk_tup (K := K) (a := c) (xs := ws)) (fun i σ H5 => ∃ v7 v10 v11 t left2 vs ds, σ = tSt pool lr bd k cut f b v7 left2 t v10 v11 ∧ TInv rs n r c0 left H3 pool i left2 t vs ds H5) ?_ (fun i σ H5 _ z => ?_) ?_ ?_
  · exact ⟨_, _, _, t0, left, [], [], rfl, but_of s4, hP3.same s4, upd_same, .nil, .nil, rfl, rfl, Nat.le_refl _, by simp [wtAll]⟩
  · obtain ⟨_, _, _, _, _, _, _, _, inv⟩ := z
    exact SqT.of (inv.bu _ _ ncp hc)
  · rintro i x σ H5 H6 hi ⟨v7, v10, v11, t, left2, vs, ds, rfl, inv⟩ ⟨rfl, hx⟩
    obtain ⟨p, hp, pat⟩ := alp.get hx
    have hpm := List.mem_of_getElem? hp
    have i4 : i < 4 := by
      have := (List.getElem?_eq_some_iff.mp hp).1
      have := val.four r hrs
      omega
    have t35 : Tups H3 H6 := but_tups inv.bu hP3.not
    obtain ⟨e, xs, rfl, he, x0, x1⟩ := partAt_ix (pat.mono t35)
    have lv : vs.length = i := by rw [TdAll.length inv.td, inv.len]
    have hl6 := inv.le
    refine ⟨_, rfl, e, _, _, _, rfl, rfl, SqT.of he, atI_nat (j := 1) x1, rfl, _, rfl, ite2 (fun h1 => ?_) (fun h1 => ?_)⟩
    · have eb : p.2.1 = ("byte" : Str) := by simpa using h1
      refine ⟨_, rfl, _, rfl, _, _, rfl, rfl, _, rfl, _, rfl, pool, 256, rfl, inv.pl, by decide, fun z H7 z0 z1 b7 hP7 => ?_⟩
      refine ⟨by show 3 ≤ sizeLine; decide, fun l hl => ?_⟩
      have s8 := same_new (o := .lst [V.int (cut - 1), V.int cut, V.int z]) hl
      refine ⟨_, rfl, pool, 3, rfl, hP7.same s8, by decide, fun y H9 y0 y1 b9 hP9 => ?_⟩
      have npl : l ≠ pool := fun w => by obtain ⟨ns, e2, _⟩ := hP7; rw [w, e2] at hl; cases hl
      have hl9 : H9 l = some (.lst [V.int (cut - 1), V.int cut, V.int z]) := b9 _ _ npl upd_same
      obtain ⟨x, hx, hx0, hx1⟩ : ∃ x : Int, atI [V.int (cut - 1), V.int cut, V.int z] y = some (.int x) ∧ 0 ≤ x ∧ x ≤ 255 := by
        have : y = 0 ∨ y = 1 ∨ y = 2 := by omega
        rcases this with q | q | q
        · rw [q]; exact ⟨cut - 1, rfl, by omega, by omega⟩
        · rw [q]; exact ⟨cut, rfl, by omega, by omega⟩
        · rw [q]; exact ⟨z, rfl, by omega, by omega⟩
      have b69 : But pool H6 H9 := b7.trans ((but_of s8).trans b9)
      have nt : t ≠ pool := fun w => by obtain ⟨ns, e2, _⟩ := inv.pl; have := inv.tup; rw [w, e2] at this; cases this
      refine ⟨l, _, _, _, rfl, rfl, SqL.of hl9, hx, by show 1 ≤ sizeLine; decide, fun u hu' => ?_⟩
      have s10 := same_new (o := .tup [V.int x]) hu'
      refine ⟨t, u, _, _, rfl, rfl, SqT.of (s10 _ _ (b69 _ _ nt inv.tup)), SqT.of upd_same, sz_of (by rw [List.length_cons, lv]; show i + 1 + 1 ≤ _; omega), (fun w => nomatch w), (fun _ w => nomatch w), fun _ _ a ha' => ?_⟩
      exact ⟨_, _, _, a, left2, vs ++ [.int x], ds ++ [.int x], rfl, inv.more hp (b69.trans (but_of s10)) (hP9.same s10) (.int x) (.int x) (by unfold valB; rw [if_pos eb]; show (decide (0 ≤ x) && decide (x ≤ 255)) = true; rw [decide_eq_true hx0, decide_eq_true hx1]; rfl) (Nat.le_refl _) (by show 1 + _ ≤ _; omega) ha'⟩
    · have eb : ¬ p.2.1 = ("byte" : Str) := by simpa using h1
      refine ⟨_, rfl, _, rfl, _, rfl, _, _, rfl, rfl, pool, _, rfl, inv.pl, by omega, fun z H7 z0 z1 b7 hP7 => ⟨_, _, rfl, rfl, ?_⟩⟩
      obtain ⟨y, rfl⟩ := Int.eq_ofNat_of_zero_le z0
      have yl : y ≤ left2 := by omega
      refine ⟨_, rfl, _, rfl, _, _, rfl, rfl, ?_⟩
      have e1 : ((left2 : Nat) : Int) - (y : Nat) = ((left2 - y : Nat) : Int) := by omega
      have e2 : ((left2 : Nat) : Int) - (((left2 : Nat) : Int) - (y : Nat)) = ((y : Nat) : Int) := by omega
      have t7 : Tups H6 H7 := but_tups b7 inv.pl.not
      obtain ⟨cm, cw⟩ := ch p hpm eb (left2 - y) (by omega)
      have b07 : But pool H H7 := b03.trans (inv.bu.trans b7)
      have nt : t ≠ pool := fun w => by obtain ⟨ns, e2, _⟩ := inv.pl; have := inv.tup; rw [w, e2] at this; cases this
      refine ⟨_, rfl, _, rfl, _, rfl, _, rfl, _, rfl, e, _, _, _, rfl, rfl, SqT.of (t7 _ _ trivial he), atI_nat (j := 1) x1, _, rfl, _, rfl, ?_⟩
      refine ⟨pool, lr, bd, p.2.1, cut, left2 - y, rs, kvs, ?_, hP7, nlp, RowsAt.but b07 hP.not nlp ⟨us, ha, al⟩, val, b07 _ _ nbp hbd, kd.mono (but_tups b07 hP.not), (val.inner r hrs p hpm).resolve_left eb, c1, c2, by omega, cm, fun v d H8 b8 hP8 td8 hd8 fit8 wt8 => ?_⟩
      · show [V.ref pool, V.ref lr, V.ref bd, V.str p.2.1, V.int cut, V.int (((left2 : Nat) : Int) - (y : Nat))] = _
        rw [e1]
      refine ⟨by show 1 ≤ sizeLine; decide, fun u hu' => ?_⟩
      have s10 := same_new (o := .tup [v]) hu'
      have b68 : But pool H6 H8 := b7.trans b8
      refine ⟨t, u, _, _, rfl, rfl, SqT.of (s10 _ _ (b68 _ _ nt inv.tup)), SqT.of upd_same, sz_of (by rw [List.length_cons, lv]; show i + 1 + 1 ≤ _; omega), (fun w => nomatch w), (fun _ w => nomatch w), fun _ _ a ha' => ?_⟩
      refine ⟨v7, some (.ref e), some (.int ((left2 - y : Nat) : Int)), a, y, vs ++ [v], ds ++ [d], ?_, inv.more hp (b68.trans (but_of s10)) (hP8.same s10) (td8.mono (tups_of s10)) hd8 (by unfold valB; rw [if_neg eb]; exact fit8) yl (by omega) ha'⟩
      show [_, _, _, _, _, _, _, _, some (V.int (((left2 : Nat) : Int) - (((left2 : Nat) : Int) - (y : Nat)))), _, _, some (V.int (((left2 : Nat) : Int) - (y : Nat)))] = _
      rw [e2, e1]
  · rintro σ H5 ⟨v7, v10, v11, t, left2, vs, ds, rfl, inv⟩
    have fit := inv.fit
    have wtb := inv.wb
    rw [alp.1, List.take_length] at fit
    have l4 := val.four r hrs
    rw [alp.1] at wtb
    refine ⟨_, rfl, q (.ref t) (.tuple (.str r.2.1 :: ds)) H5 (b03.trans inv.bu) inv.pl (.tup inv.tup (.cons (.str _) inv.td)) (.cons _ inv.hd) ?_ ?_⟩
    · rw [← ek, fitB_row val.nd hrs]; exact fit
    · have : r.2.2.length * c0 ≤ 4 * c0 := Nat.mul_le_mul_right _ l4
      rw [wt_node]; omega
theorem tree_ok (T : Tx K mg) (F : FnP K ("_law_tree", none) "_law_tree" "_law_tree" s__law_tree fd) : ∀ n, FnOk P w K mg base CX0 (n + 1) (He.fAd K ("_law_tree", none)) fd p__law_tree (spTree n)
  | 0 => ok_tree0
  | n + 1 => ok_tree1 (ft := fd) T (tree_ok T F n) F
end
end Bg
set_option Elab.async false
set_option linter.all false
set_option maxRecDepth 100000
set_option maxHeartbeats 4000000
/-! readings that come often -/
namespace Bg
open PySem PySem.Spec PyProof.Rows L2
section
variable {K : PySem.W.Frag} {H : Hp} {a b : Addr} {xs ys : List V} {Q : VK}
theorem neNil_ints {l : Addr} {ks : List Int} (h : H a = some (.lst (ks.map V.int))) (e : H l = some (.lst [])) (q : Q (.bl (!ks.isEmpty)) H) : rNeD K (.ref a) (.ref l) H Q :=
  ⟨.list (ks.map PyData.int), .list [], .lst (SqL.of h) (dpAll_ints _), .lst (SqL.of e) .nil, shaped_ints _, shaped_ints [], by rw [eqv_ints_nil]; exact q⟩
theorem TdAll.set {vs : List V} {ds : List PyData} (h : TdAll H vs ds) {v : V} {d : PyData} (hv : Td H v d) : ∀ k, TdAll H (vs.set k v) (ds.set k d) := by
  induction vs generalizing ds with
  | nil => cases h with | nil => intro k; exact .nil
  | cons a r ih =>
    cases h with
    | cons x y =>
      intro k
      cases k with
      | zero => exact .cons hv y
      | succ k => exact .cons x (ih y k)
theorem HdAll.set {ds : List PyData} (h : HdAll ds) {d : PyData} (hd : Hd d) (k : Nat) : HdAll (ds.set k d) := HdAll.of fun e he => by
  rcases List.mem_or_eq_of_mem_set he with z | z
  · exact h.mem e z
  · rw [z]; exact hd
/-- one item behind the first changed -/
theorem allV_set {f : Str → PyData → Bool} {d : PyData} : ∀ {ps : List Part} {ds : List PyData} {k : Nat} {p : Part}, ps[k]? = some p → valB f p.2.1 d = false → allV f ps (ds.set k d) = false
  | [], _, k, p, h, _ => by simp at h
  | q :: ps, [], k, p, h, _ => rfl
  | q :: ps, e :: ds, 0, p, h, hv => by
    have : q = p := by simpa using h
    subst this
    show (valB f q.2.1 d && allV f ps ds) = false
    rw [hv]; rfl
  | q :: ps, e :: ds, k + 1, p, h, hv => by
    show (valB f q.2.1 e && allV f ps (ds.set k d)) = false
    rw [allV_set (by simpa using h) hv, Bool.and_comm]; rfl
end
/-- no tree of the kind -/
structure BadV (rs : List Row) (k : Str) (H : Hp) (v : V) (e : PyData) : Prop where
  td : Td H v e
  hd : Hd e
  no : ∀ n, fitB rs n k e = false
  wide : ∀ m es, e = .tuple (.str m :: es) → es.length ≤ 5
theorem fit_other {rs : List Row} (nd : (rmakers rs).Nodup) {n m : Nat} {k k2 : Str} {d : PyData} (h : fitB rs n k d = true) (ne : k2 ≠ k) : fitB rs m k2 d = false := by
  cases n with
  | zero => cases h
  | succ n =>
    obtain ⟨x, ds, r, rfl, er, z⟩ := fitB_inv h
    obtain ⟨h1, h2, h3⟩ := rowAt_of er
    refine fitB_out (fun w => ?_) m ds
    obtain ⟨r2, h4, h5, h6⟩ := mem_makersOf.mp w
    have := row_unique nd h1 h4 (h3.trans h6.symm)
    subst this
    exact ne (h5.symm.trans h2)
theorem fit_len {rs : List Row} (nd : (rmakers rs).Nodup) {r : Row} (hr : r ∈ rs) {ds : List PyData} (h : ds.length ≠ r.2.2.length) (n : Nat) : fitB rs n r.1 (.tuple (.str r.2.1 :: ds)) = false := by
  cases n with
  | zero => rfl
  | succ n => rw [fitB_row nd hr]; exact allV_no h
theorem fit_set {rs : List Row} (nd : (rmakers rs).Nodup) {r : Row} (hr : r ∈ rs) {ds : List PyData} {d : PyData} {k : Nat} {p : Part} (hp : r.2.2[k]? = some p) (h : ∀ n, valB (fitB rs n) p.2.1 d = false) (n : Nat) : fitB rs n r.1 (.tuple (.str r.2.1 :: ds.set k d)) = false := by
  cases n with
  | zero => rfl
  | succ n => rw [fitB_row nd hr]; exact allV_set hp (h n)
theorem BadV.mono {rs : List Row} {k : Str} {H H' : Hp} (t : Tups H H') {v : V} {e : PyData} (h : BadV rs k H v e) : BadV rs k H' v e := ⟨h.td.mono t, h.hd, h.no, h.wide⟩
theorem tree16 {P : Program} {w : World} {K : PySem.W.Frag} {mg : Str → Option Value} {base : Heap} {fd : FuncData} (T : Tx K mg) (F : FnP K ("_law_tree", none) "_law_tree" "_law_tree" s__law_tree fd) : FnOk P w K mg base CX0 17 (He.fAd K ("_law_tree", none)) fd p__law_tree (spTree 16) := tree_ok T F 16
theorem mz_le {rs : List Row} (val : ValidT rs) {k : Str} (hk : k ∈ rkinds rs) {f : Nat} (h : f ≤ 12) : mz (bN rs 4) k f ≤ 16 := by
  have l4 := (BaseOk.n (rs := rs) 4).len val
  have lt := idx_lt (base_all val k hk)
  unfold mz
  split <;> omega
end Bg
namespace Bg
open PySem PySem.Spec PyProof.Rows L2
theorem TdAll.take {H : Hp} : ∀ {vs : List V} {ds : List PyData}, TdAll H vs ds → ∀ k, TdAll H (vs.take k) (ds.take k)
  | _, _, .nil, k => by simp; exact .nil
  | _, _, .cons a r, 0 => .nil
  | _, _, .cons a r, k + 1 => .cons a (TdAll.take r k)
theorem TdAll.drop {H : Hp} : ∀ {vs : List V} {ds : List PyData}, TdAll H vs ds → ∀ k, TdAll H (vs.drop k) (ds.drop k)
  | _, _, .nil, k => by simp; exact .nil
  | _, _, .cons a r, 0 => .cons a r
  | _, _, .cons a r, k + 1 => TdAll.drop r k
theorem dpAll_strs {K : PySem.W.Frag} {H : Hp} : ∀ ks : List Str, DpAll K H (ks.map V.str) (ks.map PyData.str)
  | [] => .nil
  | k :: r => .cons (.str k) (dpAll_strs r)
theorem lay_strs : ∀ {ks : List Str}, (∀ k ∈ ks, PyData.strOk k = true) → PyData.canLayAll0 (ks.map PyData.str) = true ∧ PyData.depthAll (ks.map PyData.str) ≤ 2
  | [], _ => ⟨rfl, by simp [PyData.depthAll]⟩
  | p :: ps, h => by
    obtain ⟨c, d⟩ := lay_strs fun q hq => h q (List.mem_cons_of_mem _ hq)
    simp only [List.map_cons, PyData.canLayAll0, PyData.canLay0, PyData.depthAll, PyData.depth, h p (List.mem_cons_self ..), c]
    exact ⟨rfl, by omega⟩
theorem shaped_strs {ks : List Str} (h : ∀ k ∈ ks, PyData.strOk k = true) : SeqAt.shaped (.list (ks.map PyData.str)) = true := by
  obtain ⟨a, b⟩ := lay_strs h
  unfold SeqAt.shaped
  rw [Bool.and_eq_true]
  exact ⟨by rw [PyData.canLay0]; exact a, decide_eq_true (by rw [PyData.depth]; omega)⟩
end Bg
namespace Bg
open PySem PySem.Spec PyProof.Rows L2
theorem allV_get {f : Str → PyData → Bool} : ∀ {ps : List Part} {ds : List PyData}, allV f ps ds = true → ∀ {k : Nat} {p : Part} {d : PyData}, ps[k]? = some p → ds[k]? = some d → valB f p.2.1 d = true
  | [], [], _, k, p, d, h, _ => by simp at h
  | [], _ :: _, e, _, _, _, _, _ => by cases e
  | _ :: _, [], e, _, _, _, _, _ => by cases e
  | q :: ps, x :: ds, e, k, p, d, hp, hd => by
    have e : (valB f q.2.1 x && allV f ps ds) = true := e
    rw [Bool.and_eq_true] at e
    cases k with
    | zero =>
      have h1 : q = p := by simpa using hp
      have h2 : x = d := by simpa using hd
      subst h1; subst h2; exact e.1
    | succ k => exact allV_get e.2 (by simpa using hp) (by simpa using hd)
end Bg
set_option Elab.async false
set_option linter.all false
set_option maxRecDepth 100000
set_option maxHeartbeats 4000000
/-! runs on trees, as data -/
namespace Bg
open PySem PySem.Spec PyProof.Rows L2
def valIn : List Part → List PyData → Str → PyData
  | p :: ps, d :: ds, x => if p.1 = x then d else valIn ps ds x
  | _, _, _ => .none
def byteV : PyData → Int
  | .int i => i
  | _ => 0
mutual
/-- the steps that are taken, by the bytes of the node -/
def stepsS (bv : Str → Int) : Step → List Step
  | .br p c a b => if bv p < c then stepsB bv a else stepsB bv b
  | .say n => [.say n]
  | .read p => [.read p]
  | .call f p => [.call f p]
  | .odd w xs => [.odd w xs]
def stepsB (bv : Str → Int) : List Step → List Step
  | [] => []
  | s :: l => stepsS bv s ++ stepsB bv l
end
abbrev Out := Int × List Int
def outOf (rec : Str → PyData → Out) (bv : Str → Int) (dv : Str → PyData) : Step → Out
  | .say n => (n, [n])
  | .read p => (bv p, [bv p])
  | .call f p => rec f (dv p)
  | _ => (0, [])
def foldA (fo : Str) (l : List Int) : Int := if fo = ("max" : Str) then l.foldl max 0 else l.sum
def fnOf (fs : List FRow) (n : Str) : Option FRow := fs.find? fun f => decide (f.1 = n)
def runT (rs : List Row) (fs : List FRow) : Nat → Str → PyData → Out
  | n + 1, fn, .tuple (.str m :: ds) => match fnOf fs fn, rs.find? (fun r => decide (r.2.1 = m)) with
    | some f, some r => match bodyIn f.2.2.2 m with
      | some b =>
        let outs := (stepsB (fun p => byteV (valIn r.2.2 ds p)) b).map (outOf (runT rs fs n) (fun p => byteV (valIn r.2.2 ds p)) (valIn r.2.2 ds))
        (foldA f.2.2.1 (outs.map (·.1)), outs.flatMap (·.2))
      | none => (0, [])
    | _, _ => (0, [])
  | _, _, _ => (0, [])
theorem fnOf_at {fs : List FRow} (nd : (fs.map (·.1)).Nodup) {f : FRow} (hf : f ∈ fs) : fnOf fs f.1 = some f := by
  unfold fnOf
  cases e : fs.find? fun g => decide (g.1 = f.1) with
  | none => exact absurd (List.find?_eq_none.mp e f hf) (by simp)
  | some g =>
    have h1 := List.mem_of_find?_eq_some e
    have h2 : g.1 = f.1 := of_decide_eq_true (List.find?_some (p := fun g : FRow => decide (g.1 = f.1)) e)
    rw [name_uniq nd h1 hf h2]
theorem rowFind {rs : List Row} (nd : (rmakers rs).Nodup) {r : Row} (hr : r ∈ rs) : rs.find? (fun x => decide (x.2.1 = r.2.1)) = some r := by
  cases e : rs.find? (fun x => decide (x.2.1 = r.2.1)) with
  | none => exact absurd (List.find?_eq_none.mp e r hr) (by simp)
  | some g =>
    have h1 := List.mem_of_find?_eq_some e
    have h2 : g.2.1 = r.2.1 := of_decide_eq_true (List.find?_some (p := fun x : Row => decide (x.2.1 = r.2.1)) e)
    rw [row_unique nd h1 hr h2]
theorem runT_eq {rs : List Row} {fs : List FRow} (val : ValidT rs) (nd : (fs.map (·.1)).Nodup) {f : FRow} (hf : f ∈ fs) {r : Row} (hr : r ∈ rs) {b : Body} (hb : bodyIn f.2.2.2 r.2.1 = some b) (n : Nat) (ds : List PyData) :
    runT rs fs (n + 1) f.1 (.tuple (.str r.2.1 :: ds)) = (foldA f.2.2.1 (((stepsB (fun p => byteV (valIn r.2.2 ds p)) b).map (outOf (runT rs fs n) (fun p => byteV (valIn r.2.2 ds p)) (valIn r.2.2 ds))).map (·.1)), ((stepsB (fun p => byteV (valIn r.2.2 ds p)) b).map (outOf (runT rs fs n) (fun p => byteV (valIn r.2.2 ds p)) (valIn r.2.2 ds))).flatMap (·.2)) := by
  rw [runT, fnOf_at nd hf, rowFind val.nd hr]
  dsimp only
  rw [hb]
/-! ### values of parts -/
theorem valIn_at : ∀ {ps : List Part} {ds : List PyData} {i : Nat} {p : Part} {d : PyData}, (ps.map (·.1)).Nodup → ps[i]? = some p → ds[i]? = some d → valIn ps ds p.1 = d
  | q :: ps, e :: ds, 0, p, d, _, hp, hd => by
    simp at hp hd
    subst hp hd
    rw [valIn, if_pos rfl]
  | q :: ps, e :: ds, i + 1, p, d, nd, hp, hd => by
    rw [List.map_cons, List.nodup_cons] at nd
    have hp' : ps[i]? = some p := by simpa using hp
    rw [valIn, if_neg (fun z : q.1 = p.1 => nd.1 (by rw [z]; exact List.mem_map_of_mem (List.mem_of_getElem? hp')))]
    exact valIn_at nd.2 hp' (by simpa using hd)
theorem valIn_fit {rs : List Row} (val : ValidT rs) {n : Nat} {r : Row} (hr : r ∈ rs) {ds : List PyData} (h : allV (fitB rs n) r.2.2 ds = true) {p : Part} (hp : p ∈ r.2.2) : valB (fitB rs n) p.2.1 (valIn r.2.2 ds p.1) = true := by
  obtain ⟨i, hi⟩ := List.getElem?_of_mem hp
  have l := allV_len h
  have li := (List.getElem?_eq_some_iff.mp hi).1
  have hd := List.getElem?_eq_getElem (show i < ds.length by omega)
  rw [valIn_at (val.ndp hr) hi hd]
  exact allV_get h hi hd
theorem valIn_wt : ∀ (ps : List Part) (ds : List PyData) (xs : List Str), xs.Nodup → (∀ x ∈ xs, x ∈ ps.map (·.1)) → ds.length = ps.length → (xs.map fun x => wt (valIn ps ds x)).sum ≤ wtAll ds
  | [], ds, xs, _, hx, _ => by
    cases xs with
    | nil => simp
    | cons x xs => exact absurd (hx x (List.mem_cons_self ..)) (by simp)
  | p :: ps, [], xs, _, _, l => by simp at l
  | p :: ps, d :: ds, xs, nd, hx, l => by
    have ih := valIn_wt ps ds (xs.filter fun x => !decide (p.1 = x)) (nd.sublist (List.filter_sublist ..)) (fun x hm => by
      obtain ⟨h1, h2⟩ := List.mem_filter.mp hm
      have := hx x h1
      rw [List.map_cons, List.mem_cons] at this
      exact this.resolve_left fun e => by rw [e] at h2; simp at h2) (by simpa using l)
    have key : ∀ xs : List Str, xs.Nodup → (xs.map fun x => wt (valIn (p :: ps) (d :: ds) x)).sum ≤ wt d + ((xs.filter fun x => !decide (p.1 = x)).map fun x => wt (valIn ps ds x)).sum := fun xs => by
      induction xs with
      | nil => intro _; simp
      | cons x xs ih2 =>
        intro nd
        rw [List.nodup_cons] at nd
        rw [List.map_cons, List.sum_cons, valIn]
        by_cases e : p.1 = x
        · rw [if_pos e, List.filter_cons, if_neg (by simp [e])]
          have same : xs.filter (fun x => !decide (p.1 = x)) = xs := List.filter_eq_self.mpr fun z hz => by
            have : p.1 ≠ z := fun q => nd.1 (by rw [← e, q]; exact hz)
            simp [this]
          rw [same]
          have e2 : (xs.map fun x => wt (valIn (p :: ps) (d :: ds) x)) = xs.map fun x => wt (valIn ps ds x) := List.map_congr_left fun z hz => by
            have : p.1 ≠ z := fun q => nd.1 (by rw [← e, q]; exact hz)
            rw [valIn, if_neg this]
          rw [e2]
          exact Nat.le_refl _
        · rw [if_neg e, List.filter_cons, if_pos (by simp [e]), List.map_cons, List.sum_cons]
          have := ih2 nd.2
          omega
    have h1 := key xs nd
    rw [wtAll]
    omega
/-! ### which steps are taken -/
mutual
theorem stepsS_ok {r : Row} (bv : Str → Int) : ∀ (s : Step) (as : List Str), stepB r as s = true → (∀ t ∈ stepsS bv s, isBr t = false) ∧ ((stepsS bv s).flatMap asksOf).Nodup ∧ (∀ x ∈ (stepsS bv s).flatMap asksOf, x ∉ as) ∧ (∀ t ∈ stepsS bv s, ∃ as', stepB r as' t = true) ∧ (stepsS bv s).length ≤ swt s
  | .say n, as, h => by
    rw [stepsS]
    exact ⟨fun t ht => by rw [List.mem_singleton.mp ht]; rfl, by simp [asksOf], fun x hx => by simp [asksOf] at hx, fun t ht => ⟨as, by rw [List.mem_singleton.mp ht]; exact h⟩, by simp [swt]⟩
  | .read p, as, h => by
    have h0 := h
    rw [stepB, Bool.and_eq_true] at h
    rw [stepsS]
    exact ⟨fun t ht => by rw [List.mem_singleton.mp ht]; rfl, by simp [asksOf], fun x hx => by simp [asksOf] at hx; rw [hx]; simpa using h.2, fun t ht => ⟨as, by rw [List.mem_singleton.mp ht]; exact h0⟩, by simp [swt]⟩
  | .call f p, as, h => by
    have h0 := h
    rw [stepB, Bool.and_eq_true] at h
    rw [stepsS]
    exact ⟨fun t ht => by rw [List.mem_singleton.mp ht]; rfl, by simp [asksOf], fun x hx => by simp [asksOf] at hx; rw [hx]; simpa using h.2, fun t ht => ⟨as, by rw [List.mem_singleton.mp ht]; exact h0⟩, by simp [swt]⟩
  | .odd w xs, as, h => by rw [stepB] at h; cases h
  | .br p c a b, as, h => by
    rw [stepB] at h
    simp only [Bool.and_eq_true] at h
    obtain ⟨⟨_, ⟨_, h1⟩⟩, ⟨_, h2⟩⟩ := h
    obtain ⟨a1, a2, a3, a4, a5⟩ := stepsB_ok bv a (as ++ [p]) h1
    obtain ⟨b1, b2, b3, b4, b5⟩ := stepsB_ok bv b (as ++ [p]) h2
    rw [stepsS, swt]
    split
    · exact ⟨a1, a2, fun x hx z => a3 x hx (List.mem_append_left _ z), a4, by omega⟩
    · exact ⟨b1, b2, fun x hx z => b3 x hx (List.mem_append_left _ z), b4, by omega⟩
theorem stepsB_ok {r : Row} (bv : Str → Int) : ∀ (b : List Step) (as : List Str), bodyB r as b = true → (∀ t ∈ stepsB bv b, isBr t = false) ∧ ((stepsB bv b).flatMap asksOf).Nodup ∧ (∀ x ∈ (stepsB bv b).flatMap asksOf, x ∉ as) ∧ (∀ t ∈ stepsB bv b, ∃ as', stepB r as' t = true) ∧ (stepsB bv b).length ≤ bwt b
  | [], as, _ => by rw [stepsB]; exact ⟨fun t h => absurd h List.not_mem_nil, by simp, fun x h => by simp at h, fun t h => absurd h List.not_mem_nil, by simp⟩
  | s :: l, as, h => by
    rw [bodyB, Bool.and_eq_true, Bool.and_eq_true] at h
    obtain ⟨a1, a2, a3, a4, a5⟩ := stepsS_ok bv s as h.1.2
    obtain ⟨b1, b2, b3, b4, b5⟩ := stepsB_ok bv l (as ++ asksOf s) h.2
    rw [stepsB, bwt]
    refine ⟨fun t ht => (List.mem_append.mp ht).elim (a1 t) (b1 t), ?_, fun x hx => ?_, fun t ht => (List.mem_append.mp ht).elim (a4 t) (b4 t), by rw [List.length_append]; omega⟩
    · rw [List.flatMap_append]
      refine List.nodup_append.mpr ⟨a2, b2, fun x hx y hy e => ?_⟩
      by_cases hbr : isBr s = true
      · rw [if_pos hbr] at h
        have : l = [] := List.isEmpty_iff.mp h.1.1
        subst this
        rw [stepsB] at hy
        simp at hy
      · have es : (stepsS bv s).flatMap asksOf = asksOf s := by
          cases s <;> simp [isBr] at hbr <;> simp [stepsS]
        rw [es] at hx
        exact b3 y hy (List.mem_append_right _ (e ▸ hx))
    · rw [List.flatMap_append] at hx
      rcases List.mem_append.mp hx with z | z
      · exact a3 x z
      · exact fun q => b3 x z (List.mem_append_left _ q)
end
/-! ### answers, prints -/
theorem foldl_max : ∀ (l : List Int) (a : Int), a ≤ l.foldl max a ∧ (∀ x ∈ l, x ≤ l.foldl max a) ∧ (l.foldl max a = a ∨ l.foldl max a ∈ l)
  | [], a => ⟨Int.le_refl _, fun x h => absurd h List.not_mem_nil, .inl rfl⟩
  | x :: l, a => by
    obtain ⟨h1, h2, h3⟩ := foldl_max l (max a x)
    rw [List.foldl_cons]
    refine ⟨by omega, fun y hy => ?_, ?_⟩
    · rcases List.mem_cons.mp hy with e | h
      · rw [e]; omega
      · exact h2 y h
    · rcases h3 with e | h
      · rw [e]
        by_cases c : a ≤ x
        · right; rw [show max a x = x by omega]; exact List.mem_cons_self ..
        · left; omega
      · exact .inr (List.mem_cons_of_mem _ h)
theorem max_is {l : List Int} (h0 : ∀ x ∈ l, 0 ≤ x) {m : Int} (hm : m ∈ l) (hb : ∀ y ∈ l, y ≤ m) : l.foldl max 0 = m := by
  obtain ⟨h1, h2, h3⟩ := foldl_max l 0
  have a := h2 m hm
  rcases h3 with e | h
  · have := h0 m hm; omega
  · have := hb _ h; omega
theorem sum_nonneg : ∀ {l : List Int}, (∀ x ∈ l, 0 ≤ x) → 0 ≤ l.sum
  | [], _ => by simp
  | x :: l, h => by
    rw [List.sum_cons]
    have := h x (List.mem_cons_self ..)
    have := sum_nonneg (l := l) fun y hy => h y (List.mem_cons_of_mem _ hy)
    omega
theorem foldA_nonneg {fo : Str} {l : List Int} (h : ∀ x ∈ l, 0 ≤ x) : 0 ≤ foldA fo l := by
  unfold foldA
  split
  · exact (foldl_max l 0).1
  · exact sum_nonneg h
/-- what a drawn body asks is there -/
structure AskOk (rs : List Row) (fs : List FRow) (n : Nat) (r : Row) (ds : List PyData) (sl : List Step) : Prop where
  all : ∀ t ∈ sl, (∃ k, t = .say k ∧ 0 ≤ k ∧ k ≤ 1000) ∨ (∃ p ∈ r.2.2, t = .read p.1 ∧ p.2.1 = ("byte" : Str) ∧ ∃ i : Int, valIn r.2.2 ds p.1 = .int i ∧ 0 ≤ i ∧ i ≤ 255) ∨ (∃ p ∈ r.2.2, ∃ g ∈ fs, t = .call g.1 p.1 ∧ p.2.1 = g.2.1 ∧ p.2.1 ≠ ("byte" : Str) ∧ fitB rs n g.2.1 (valIn r.2.2 ds p.1) = true)
mutual
theorem callsS_st {hs : List Head} {r : Row} (bv : Str → Int) : ∀ (s : Step), callsS hs r s → ∀ t ∈ stepsS bv s, callsS hs r t
  | .say n, h => fun t ht => by rw [stepsS] at ht; rw [List.mem_singleton.mp ht]; exact h
  | .read p, h => fun t ht => by rw [stepsS] at ht; rw [List.mem_singleton.mp ht]; exact h
  | .call f p, h => fun t ht => by rw [stepsS] at ht; rw [List.mem_singleton.mp ht]; exact h
  | .odd w xs, h => fun t ht => by rw [stepsS] at ht; rw [List.mem_singleton.mp ht]; exact h
  | .br p c a b, h => fun t ht => by
    rw [callsS] at h
    rw [stepsS] at ht
    split at ht
    · exact callsB_st bv a h.1 t ht
    · exact callsB_st bv b h.2 t ht
theorem callsB_st {hs : List Head} {r : Row} (bv : Str → Int) : ∀ (b : List Step), callsB hs r b → ∀ t ∈ stepsB bv b, callsS hs r t
  | [], _ => fun t ht => by rw [stepsB] at ht; cases ht
  | s :: l, h => fun t ht => by
    rw [callsB] at h
    rw [stepsB] at ht
    exact (List.mem_append.mp ht).elim (callsS_st bv s h.1 t) (callsB_st bv l h.2 t)
end
theorem ask_ok {rs : List Row} {fs : List FRow} (val : ValidT rs) {n : Nat} {r : Row} (hr : r ∈ rs) {ds : List PyData} (fit : allV (fitB rs n) r.2.2 ds = true) (bv : Str → Int) {b : Body} (d : DrawnB (headsOf fs) r b) : AskOk rs fs n r ds (stepsB bv b) := by
  obtain ⟨s1, s2, s3, s4, s5⟩ := stepsB_ok bv b [] d.ok
  have pok := (val.each.good r hr).2.2
  refine ⟨fun t ht => ?_⟩
  obtain ⟨as, ok⟩ := s4 t ht
  have cs := callsB_st bv b d.calls t ht
  cases t with
  | say k =>
    rw [stepB, Bool.and_eq_true] at ok
    exact .inl ⟨k, rfl, of_decide_eq_true ok.1, of_decide_eq_true ok.2⟩
  | odd w xs => rw [stepB] at ok; cases ok
  | br p c a b => have := s1 _ ht; cases this
  | read x =>
    rw [stepB, Bool.and_eq_true] at ok
    obtain ⟨p, hp, rfl, e⟩ := byteP_mem ok.1
    rw [hold_kind pok hp] at e
    have v := valIn_fit val hr fit hp
    unfold valB at v
    rw [if_pos e] at v
    refine .inr (.inl ⟨p, hp, rfl, e, ?_⟩)
    unfold byteB at v
    split at v
    · rename_i i ei
      rw [Bool.and_eq_true] at v
      exact ⟨i, ei, of_decide_eq_true v.1, of_decide_eq_true v.2⟩
    · cases v
  | call f x =>
    rw [stepB, Bool.and_eq_true] at ok
    rw [callsS] at cs
    obtain ⟨p, hp, rfl, h, hh, rfl, e2⟩ := cs
    obtain ⟨g, hg, rfl⟩ := List.mem_map.mp hh
    rw [hold_kind pok hp] at e2
    have e2 : g.2.1 = p.2.1 := e2
    have nb : p.2.1 ≠ ("byte" : Str) := fun z => by
      have := (askP (val.ndp hr) hp).2
      rw [hold_kind pok hp, decide_eq_true z] at this
      rw [this] at ok
      exact absurd ok.1 (by simp)
    have v := valIn_fit val hr fit hp
    unfold valB at v
    rw [if_neg nb] at v
    exact .inr (.inr ⟨p, hp, g, hg, rfl, e2.symm, nb, by rw [e2]; exact v⟩)
theorem stepB_part {r : Row} {as : List Str} {t : Step} (h : stepB r as t = true) : ∀ x ∈ asksOf t, x ∈ r.2.2.map (·.1) := fun x hx => by
  cases t with
  | say k => simp [asksOf] at hx
  | odd w xs => simp [asksOf] at hx
  | br p c a b => simp [asksOf] at hx
  | read p =>
    simp [asksOf] at hx
    rw [stepB, Bool.and_eq_true] at h
    obtain ⟨q, hq, e, _⟩ := byteP_mem h.1
    rw [hx, ← e]; exact List.mem_map_of_mem hq
  | call f p =>
    simp [asksOf] at hx
    rw [stepB, Bool.and_eq_true] at h
    refine Decidable.byContradiction fun z => ?_
    have := (askP_out (r := r) (x := p) (by rw [← hx]; exact z)).2
    rw [this] at h
    exact absurd h.1 (by simp)
/-- answers are not below 0; few prints -/
theorem runT_ok {rs : List Row} {fs : List FRow} (val : ValidT rs) (D : DrawnF rs fs) : ∀ (n : Nat) (f : FRow), f ∈ fs → ∀ (d : PyData), fitB rs n f.2.1 d = true → 0 ≤ (runT rs fs n f.1 d).1 ∧ (runT rs fs n f.1 d).2.length ≤ 63 * wt d
  | 0, f, hf, d, h => by cases h
  | n + 1, f, hf, d, h => by
    obtain ⟨m, ds, r, rfl, er, fit⟩ := fitB_inv h
    obtain ⟨hr, ek, rfl⟩ := rowAt_of er
    obtain ⟨b, eb, dr⟩ := D.has val hf hr ek
    rw [runT_eq val D.nd hf hr eb]
    have ask := ask_ok val hr fit (fun p => byteV (valIn r.2.2 ds p)) dr
    obtain ⟨s1, s2, s3, s4, s5⟩ := stepsB_ok (fun p => byteV (valIn r.2.2 ds p)) b [] dr.ok
    have w9 := dr.wt
    generalize hsl : stepsB (fun p => byteV (valIn r.2.2 ds p)) b = sl at ask s1 s2 s3 s4 s5
    have each : ∀ t ∈ sl, 0 ≤ (outOf (runT rs fs n) (fun p => byteV (valIn r.2.2 ds p)) (valIn r.2.2 ds) t).1 ∧ (outOf (runT rs fs n) (fun p => byteV (valIn r.2.2 ds p)) (valIn r.2.2 ds) t).2.length ≤ 1 + 63 * ((asksOf t).map fun x => wt (valIn r.2.2 ds x)).sum := fun t ht => by
      rcases ask.all t ht with ⟨k, rfl, k0, _⟩ | ⟨p, hp, rfl, _, i, ei, i0, _⟩ | ⟨p, hp, g, hg, rfl, e, nb, fg⟩
      · exact ⟨k0, by simp [outOf]⟩
      · refine ⟨by show 0 ≤ byteV (valIn r.2.2 ds p.1); rw [ei]; exact i0, by simp [outOf]⟩
      · obtain ⟨i1, i2⟩ := runT_ok val D n g hg _ fg
        exact ⟨i1, by show (runT rs fs n g.1 (valIn r.2.2 ds p.1)).2.length ≤ _; simp [asksOf]; omega⟩
    refine ⟨foldA_nonneg fun x hx => ?_, ?_⟩
    · obtain ⟨o, ho, rfl⟩ := List.mem_map.mp hx
      obtain ⟨t, ht, rfl⟩ := List.mem_map.mp ho
      exact (each t ht).1
    · have sub : ∀ l : List Step, (∀ t ∈ l, t ∈ sl) → (((l.map (outOf (runT rs fs n) (fun p => byteV (valIn r.2.2 ds p)) (valIn r.2.2 ds))).flatMap (·.2)).length ≤ l.length + 63 * ((l.flatMap asksOf).map fun x => wt (valIn r.2.2 ds x)).sum) := fun l => by
        induction l with
        | nil => intro _; simp
        | cons t l ih =>
          intro h
          have h1 := (each t (h t (List.mem_cons_self ..))).2
          have h2 := ih fun z hz => h z (List.mem_cons_of_mem _ hz)
          rw [List.map_cons, List.flatMap_cons, List.length_append, List.flatMap_cons, List.map_append, List.sum_append, List.length_cons]
          omega
      have h1 := sub sl fun _ h => h
      have h2 := valIn_wt r.2.2 ds (sl.flatMap asksOf) s2 (fun x hx => by
        obtain ⟨t, ht, hx⟩ := List.mem_flatMap.mp hx
        obtain ⟨as, ok⟩ := s4 t ht
        exact stepB_part ok x hx) (allV_len fit)
      have e : wt (.tuple (.str r.2.1 :: ds)) = 2 + wtAll ds := by rw [wt, wtAll]; simp [wt]; omega
      rw [e]
      refine Nat.le_trans h1 ?_
      omega
end Bg
set_option Elab.async false
set_option linter.all false
set_option maxRecDepth 100000
set_option maxHeartbeats 1000000
/-! a def that may raise, called where it does not -/
namespace Bg
open PySem PySem.Spec PyProof.Rows L2
theorem cx_no {P : Program} {w : World} {outer : List Env} {H : Hp} {s s' : Shared} {u : Value} (h : L2.CX P w outer H s E0 u s') : False := by
  obtain ⟨_, _, _, _, _, _, _, _, _, _, _, _, z⟩ := h
  exact z
theorem calm {P : Program} {w : World} {K : PySem.W.Frag} {mg : Str → Option Value} {base : Heap} {k : Nat} {f : Addr} {fd : FuncData} {ps : List Str} {sp : Sp} (F : FnOk P w K mg base (L2.CX P w) k f fd ps sp) : FnOk P w K mg base CX0 k f fd ps (fun vs H Q _ => sp vs H Q E0) := by
  refine ⟨fun vs H Q E h => F.len vs H Q E0 h, fun A outer s H args us vs Q E hr e0 hb r h => ?_⟩
  refine codeAny_mono (F.run A outer s H args us vs Q E0 hr e0 hb r h) fun res s' z => ?_
  cases res with
  | error e => exact (cx_no z).elim
  | ok fl => cases fl <;> exact z
end Bg
set_option Elab.async false
set_option linter.all false
set_option maxRecDepth 100000
set_option maxHeartbeats 4000000
/-! a function table that is let -/
namespace Bg
open PySem PySem.Spec PyProof.Rows L2
abbrev CF (K : PySem.W.Frag) : Addr := He.ga K "Functions"
def fF1 (x : Addr) : List (Str × V) := putF "kinds" (.ref x) []
def fF2 (x tn : Addr) : List (Str × V) := putF "names" (.ref tn) (fF1 x)
def fF3 (x tn dt : Addr) : List (Str × V) := putF "_takes" (.ref dt) (fF2 x tn)
def fF4 (x tn dt df : Addr) : List (Str × V) := putF "_folds" (.ref df) (fF3 x tn dt)
def fF5 (x tn dt df db : Addr) : List (Str × V) := putF "_bodies" (.ref db) (fF4 x tn dt df)
theorem fF_len (x tn dt df db : Addr) : (fF1 x).length < 1000 ∧ (fF2 x tn).length < 1000 ∧ (fF3 x tn dt).length < 1000 ∧ (fF4 x tn dt df).length < 1000 := by
  have h1 := putF_len "kinds" (.ref x) []
  have h2 := putF_len "names" (.ref tn) (fF1 x)
  have h3 := putF_len "_takes" (.ref dt) (fF2 x tn)
  have h4 := putF_len "_folds" (.ref df) (fF3 x tn dt)
  unfold fF4 fF3 fF2 fF1 at *
  simp only [List.length_nil] at h1
  omega
def TakesR (fs : List FRow) : Str → V → Prop := fun n v => ∃ f ∈ fs, f.1 = n ∧ v = .str f.2.1
def FoldsR (fs : List FRow) : Str → V → Prop := fun n v => ∃ f ∈ fs, f.1 = n ∧ v = .str f.2.2.1
def BodsR (H : Hp) (fs : List FRow) : Str → V → Prop := fun n v => ∃ f ∈ fs, f.1 = n ∧ ∃ d, v = .ref d ∧ BodiesAt H d f.2.2.2
/-- a dict of bodies that is told -/
def BodiesF (H : Hp) (d : Addr) (bs : FBod) : Prop := ∃ kvs, FzAt H d kvs ∧ KD kvs (bs.map (·.1)) fun m v => ∃ b, bodyIn bs m = some b ∧ Td H v (bodyD b)
theorem BodiesF.mono {H H' : Hp} (s : Imms H H') {d : Addr} {bs : FBod} (h : BodiesF H d bs) : BodiesF H' d bs := by
  obtain ⟨kvs, e, kd⟩ := h
  exact ⟨kvs, e.mono s, kd.mono fun _ _ ⟨b, e1, z⟩ => ⟨b, e1, z.mono s.tups⟩⟩
def BodsF (H : Hp) (fs : List FRow) : Str → V → Prop := fun n v => ∃ f ∈ fs, f.1 = n ∧ ∃ d, v = .ref d ∧ BodiesF H d f.2.2.2
/-- a function table behind its object: all dicts told -/
def FunsIn (H : Hp) (tn dt df db : Addr) (fs : List FRow) : Prop := ∃ kvt kvf kvb, H tn = some (.tup ((fs.map (·.1)).map V.str)) ∧ (FzAt H dt kvt ∧ KD kvt (fs.map (·.1)) (TakesR fs)) ∧ (FzAt H df kvf ∧ KD kvf (fs.map (·.1)) (FoldsR fs)) ∧ (FzAt H db kvb ∧ KD kvb (fs.map (·.1)) (BodsF H fs))
theorem FunsIn.mono {H H' : Hp} (s : Imms H H') {tn dt df db : Addr} {fs : List FRow} (h : FunsIn H tn dt df db fs) : FunsIn H' tn dt df db fs := by
  obtain ⟨kvt, kvf, kvb, h0, ⟨h1, h2⟩, ⟨h3, h4⟩, ⟨h5, h6⟩⟩ := h
  exact ⟨kvt, kvf, kvb, s _ _ trivial h0, ⟨h1.mono s, h2⟩, ⟨h3.mono s, h4⟩, ⟨h5.mono s, h6.mono fun _ _ ⟨f, m, e, d, e2, hB⟩ => ⟨f, m, e, d, e2, hB.mono s⟩⟩⟩
def FunsF (K : PySem.W.Frag) (H : Hp) (y x : Addr) (fs : List FRow) : Prop := ∃ dy tn dt df db, H y = some (.ins (CF K) dy (fF5 x tn dt df db)) ∧ FunsIn H tn dt df db fs
theorem FunsF.mono {K : PySem.W.Frag} {H H' : Hp} (s : Imms H H') {y x : Addr} (k : ∀ o, H y = some o → H' y = some o) {fs : List FRow} (h : FunsF K H y x fs) : FunsF K H' y x fs := by
  obtain ⟨dy, tn, dt, df, db, h0, h1⟩ := h
  exact ⟨dy, tn, dt, df, db, k _ h0, h1.mono s⟩
theorem FunsF.same {K : PySem.W.Frag} {H H' : Hp} (s : Same H H') {y x : Addr} {fs : List FRow} (h : FunsF K H y x fs) : FunsF K H' y x fs := h.mono (imms_of s) fun _ e => s _ _ e
def FunsNew (K : PySem.W.Frag) (H0 H : Hp) (y x : Addr) (fs : List FRow) : Prop := ∃ as, Dicts as H ∧ (∀ a ∈ as, H0 a = none) ∧ ∀ H', Told as H H' → FunsF K H' y x fs
theorem told_funs {K : PySem.W.Frag} {H0 H : Hp} {y dy x tn dt df db : Addr} {fs : List FRow} {kvt kvf kvb : List (Key × V)} (nd1 : (fs.map (·.1)).Nodup) (h0 : H y = some (.ins (CF K) dy (fF5 x tn dt df db))) (h1 : H tn = some (.tup ((fs.map (·.1)).map V.str))) (h2 : H dt = some (.dK kvt)) (h3 : KD kvt (fs.map (·.1)) (TakesR fs))
    (h4 : H df = some (.dK kvf)) (h5 : KD kvf (fs.map (·.1)) (FoldsR fs)) (h6 : H db = some (.dK kvb)) (h7 : KD kvb (fs.map (·.1)) (fun n v => ∃ f ∈ fs, f.1 = n ∧ ∃ d, v = .ref d ∧ H0 d = none ∧ BodiesAt H d f.2.2.2)) (n2 : H0 dt = none) (n4 : H0 df = none) (n6 : H0 db = none) : FunsNew K H0 H y x fs := by
  have nd : (kvb.map (·.1)).Nodup := by
    rw [h7.1]
    exact nodup_inr nd1
  have inn : ∀ d ∈ refsOf kvb, (∃ hv, H d = some (.dK hv)) ∧ H0 d = none := by
    intro d hd
    obtain ⟨⟨k, v⟩, hm, e⟩ := List.mem_filterMap.mp hd
    obtain ⟨i, hi⟩ := List.getElem?_of_mem hm
    obtain ⟨j, hj, ej⟩ := KD.at h7 hi
    cases ej
    obtain ⟨f, _, _, d', e2, hn, kvs, hd', _⟩ := h7.2 j v (valV_of_mem nd hm)
    subst e2
    cases e
    exact ⟨⟨kvs, hd'⟩, hn⟩
  have d : Dicts (dt :: df :: db :: refsOf kvb) H := by
    intro a ha
    simp only [List.mem_cons] at ha
    rcases ha with e | e | e | e
    · rw [e]; exact ⟨_, h2⟩
    · rw [e]; exact ⟨_, h4⟩
    · rw [e]; exact ⟨_, h6⟩
    · exact (inn a e).1
  refine ⟨dt :: df :: db :: refsOf kvb, d, ?_, fun H' t => ?_⟩
  · intro a ha
    simp only [List.mem_cons] at ha
    rcases ha with e | e | e | e
    · rw [e]; exact n2
    · rw [e]; exact n4
    · rw [e]; exact n6
    · exact (inn a e).2
  have im := t.imms d
  refine ⟨dy, tn, dt, df, db, t.still d (by intro _ z; cases z) h0, kvt, kvf, kvb, im _ _ trivial h1, ⟨t.at_ _ (by simp) _ h2, h3⟩, ⟨t.at_ _ (by simp) _ h4, h5⟩, ⟨t.at_ _ (by simp) _ h6, h7.1, fun k v e => ?_⟩⟩
  obtain ⟨f, hf, e1, d', e2, _, kvs, hd', kd⟩ := h7.2 k v e
  subst e2
  exact ⟨f, hf, e1, d', rfl, kvs, t.at_ d' (by simp [mem_refsOf (mem_of_valV e)]) _ hd', kd.mono fun _ _ ⟨b, e4, z⟩ => ⟨b, e4, z.mono im.tups⟩⟩
theorem BodiesAt.but {H G : Hp} {y d C dy : Addr} {vs : List (Str × V)} {bs : FBod} (hy : H y = some (.ins C dy vs)) (b : But y H G) (h : BodiesAt H d bs) : BodiesAt G d bs := by
  obtain ⟨kvs, e, kd⟩ := h
  refine ⟨kvs, b _ _ (ne_of e hy (by intro z; cases z)) e, kd.mono fun _ _ ⟨bb, e1, z⟩ => ⟨bb, e1, z.mono (but_tups b fun u f e => by rw [hy] at e; cases e; exact f)⟩⟩
theorem FRowAt.but {H G : Hp} {y C dy : Addr} {vs : List (Str × V)} {v : V} {f : FRow} (hy : H y = some (.ins C dy vs)) (b : But y H G) (h : FRowAt H v f) : FRowAt G v f := by
  obtain ⟨a, d, e, h1, h2⟩ := h
  exact ⟨a, d, e, b _ _ (ne_of h1 hy (by intro z; cases z)) h1, h2.but hy b⟩
section
variable {P : Program} {w : World} {K : PySem.W.Frag} {mg : Str → Option Value} {base : Heap} {fd : FuncData}
theorem ok_cer (T : Tx K mg) (F : FnP K ("check_each_row_bodies", none) "check_each_row" "check_each_row" s_check_each_row_bodies fd) : FnOk P w K mg base CX0 25 (He.fAd K ("check_each_row_bodies", none)) fd p_check_each_row_bodies (fun vs H Q _ => spCer K vs H Q E0) := calm (okx_cer T F)
def spFunI (K : PySem.W.Frag) : Sp := fun vs H Q _ => ∃ (y dy x a : Addr) (rs : List Row) (fs : List FRow), vs = [.ref y, .ref x, .ref a] ∧ H y = some (.ins (CF K) dy []) ∧ KindsF K H x rs ∧ ValidT rs ∧ FRowsAt H a fs ∧ FRowsOk fs ∧ fs ≠ [] ∧ pass1 rs [] 0 fs = none ∧ (fs.map (·.1)).Nodup ∧ Called rs fs ∧
  ∀ H', But y H H' → FunsNew K H H' y x fs → Q .non H'
theorem ok_funI (T : Tx K mg) (F : FnP K ("Functions", some "__init__") "__init__" "Functions.__init__" s_Functions_init fd) : FnOk P w K mg base CX0 26 (He.fAd K ("Functions", some "__init__")) fd p_Functions_init (spFunI K) := by
  refine F.ok (k := 25) sc_Functions_init (fun vs H Q E h => ?_) (fun cdv A outer s H vs Q E hr h => ?_)
  · obtain ⟨_, _, _, _, _, _, rfl, _⟩ := h; rfl
  obtain ⟨y, dy, x, a, rs, fs, rfl, hy, hK, val, ⟨us, ha, al⟩, ok, ne, p1, nd1, hc, q⟩ := h
  have hu := hu_of hr
  have lus : us.length = fs.length := al.1
  have pos : 0 < fs.length := List.length_pos_iff.mpr ne
  have few := ok.few
  obtain ⟨f1, F1⟩ := T.F_check_each_row_bodies
  obtain ⟨f2, F2⟩ := T.F_check_called
  have nd := sc_Functions_init.nd
  refine ⟨_, PSs.nox (pss_cons (ps_if (pt_cmpR op_eq (pe_callB call_len_seq (by rfl) T.n_len PySem.boot_len (pa_cons (pv 2) pa_nil)) pe_int (nomark _))
      (pss_one ps_never)
      pss_nil)
    (pss_cons (ps_expr (pe_call (ok_cer T F1) (hr.mono (by omega)) (by rfl) T.g_check_each_row_bodies T.k_check_each_row_bodies (b_check_each_row_bodies F1) .nil pass0 (pa_cons (pv 1) (pa_cons (pv 2) pa_nil))))
    (pss_cons (ps_expr (pe_call (ok_called T F2) (hr.mono (by omega)) (by rfl) T.g_check_called T.k_check_called (b_check_called F2) .nil pass0 (pa_cons (pv 1) (pa_cons (pv 2) pa_nil))))
    (pss_cons (ps_fld (pv 0) (pv 1) rfl)
    (pss_cons (ps_fld (pv 0) (pe_callTy call_tuple_of (by rfl) T.n_tuple (by decide +kernel) (pa_cons (pe_lc (own := [("name", 3), ("kind", 4), ("fold", 5), ("bodies", 6)]) (g := (gTup K 4 (gCons (gName 3) (gCons (gName 4) (gCons (gName 5) (gCons (gName 6) gNil)))))) rfl nd (pi_list (pv 2)) (blkOk_by (N := ["self", "kinds", "rows", "name", "kind", "fold", "bodies"]) (sc := defScope s_Functions_init) (by decide +kernel)) (fun _ _ _ _ _ => (pg_tup rfl (pgs_cons (pg_name (i := 3) nd rfl (Or.inl rfl)) (pgs_cons (pg_name (i := 4) nd rfl (Or.inl rfl)) (pgs_cons (pg_name (i := 5) nd rfl (Or.inl rfl)) (pgs_cons (pg_name (i := 6) nd rfl (Or.inl rfl)) pgs_nil)))))) (fun _ _ _ _ _ => pts_nil) (fun _ _ _ _ _ => (pv 3))) pa_nil)) rfl)
    (pss_cons (ps_fld (pv 0) (pe_dc (own := [("name", 3), ("kind", 4), ("fold", 5), ("bodies", 6)]) (g := (gTup K 4 (gCons (gName 3) (gCons (gName 4) (gCons (gName 5) (gCons (gName 6) gNil)))))) rfl nd (pi_list (pv 2)) (blkOk_by (N := ["self", "kinds", "rows", "name", "kind", "fold", "bodies"]) (sc := defScope s_Functions_init) (by decide +kernel)) (fun _ _ _ _ _ => (pg_tup rfl (pgs_cons (pg_name (i := 3) nd rfl (Or.inl rfl)) (pgs_cons (pg_name (i := 4) nd rfl (Or.inl rfl)) (pgs_cons (pg_name (i := 5) nd rfl (Or.inl rfl)) (pgs_cons (pg_name (i := 6) nd rfl (Or.inl rfl)) pgs_nil)))))) (fun _ _ _ _ _ => pts_nil) (fun _ _ _ _ _ => (pv 3)) (fun _ _ _ _ _ => (pv 4))) rfl)
    (pss_cons (ps_fld (pv 0) (pe_dc (own := [("name", 3), ("kind", 4), ("fold", 5), ("bodies", 6)]) (g := (gTup K 4 (gCons (gName 3) (gCons (gName 4) (gCons (gName 5) (gCons (gName 6) gNil)))))) rfl nd (pi_list (pv 2)) (blkOk_by (N := ["self", "kinds", "rows", "name", "kind", "fold", "bodies"]) (sc := defScope s_Functions_init) (by decide +kernel)) (fun _ _ _ _ _ => (pg_tup rfl (pgs_cons (pg_name (i := 3) nd rfl (Or.inl rfl)) (pgs_cons (pg_name (i := 4) nd rfl (Or.inl rfl)) (pgs_cons (pg_name (i := 5) nd rfl (Or.inl rfl)) (pgs_cons (pg_name (i := 6) nd rfl (Or.inl rfl)) pgs_nil)))))) (fun _ _ _ _ _ => pts_nil) (fun _ _ _ _ _ => (pv 3)) (fun _ _ _ _ _ => (pv 5))) rfl)
    (pss_one (ps_fld (pv 0) (pe_dc (own := [("name", 3), ("kind", 4), ("fold", 5), ("bodies", 6)]) (g := (gTup K 4 (gCons (gName 3) (gCons (gName 4) (gCons (gName 5) (gCons (gName 6) gNil)))))) rfl nd (pi_list (pv 2)) (blkOk_by (N := ["self", "kinds", "rows", "name", "kind", "fold", "bodies"]) (sc := defScope s_Functions_init) (by decide +kernel)) (fun _ _ _ _ _ => (pg_tup rfl (pgs_cons (pg_name (i := 3) nd rfl (Or.inl rfl)) (pgs_cons (pg_name (i := 4) nd rfl (Or.inl rfl)) (pgs_cons (pg_name (i := 5) nd rfl (Or.inl rfl)) (pgs_cons (pg_name (i := 6) nd rfl (Or.inl rfl)) pgs_nil)))))) (fun _ _ _ _ _ => pts_nil) (fun _ _ _ _ _ => (pv 3)) (fun _ _ _ _ _ => (pe_callTy call_dictD (by rfl) T.n_dict (by decide +kernel) (pa_cons (pv 6) pa_nil)))) rfl))))))))), ?_⟩
  refine ⟨_, rfl, a, _, rfl, .inl (SqL.of ha), rfl, _, rfl, iteFe (decide_eq_false (fun z => by have := V.int.inj z; omega)) ?_⟩
  refine ⟨_, rfl, _, rfl, x, a, rs, fs, rfl, hK, val, ⟨us, ha, al⟩, ok, fun _ H1 s1 => ?_, fun i hi => by rw [p1] at hi; cases hi⟩
  refine ⟨_, rfl, _, rfl, x, a, rs, fs, rfl, hK.same s1, val, ⟨us, s1 _ _ ha, al.mono fun _ _ z => z.same s1⟩, ok, nd1, hc, fun H2 s2 => ?_⟩
  have s02 := s1.trans s2
  have hy2 := s02 _ _ hy
  -- kinds
  refine ⟨_, rfl, _, rfl, y, CF K, dy, [], rfl, hy2, T.cl_Functions, T.na_Functions_kinds, by decide, ?_⟩
  have b3 : But y H (upd H2 y (.ins (CF K) dy (fF1 x))) := fun c o n e => by rw [upd_ne n]; exact s02 _ _ e
  have hy3 : (upd H2 y (.ins (CF K) dy (fF1 x))) y = some (.ins (CF K) dy (fF1 x)) := upd_same
  refine (?_ : tSeq _ _ _ _ (upd H2 y (.ins (CF K) dy (fF1 x))))
  generalize upd H2 y (.ins (CF K) dy (fF1 x)) = H3 at b3 hy3 ⊢
  have nay : a ≠ y := ne_of ha hy (by intro z; cases z)
  have ha3 := b3 _ _ nay ha
  have al3 : All2 (FRowAt H3) us fs := al.mono fun _ _ z => z.but hy b3
  -- names
  refine ⟨_, rfl, a, rfl, ⟨_, .inl (.inl ha3)⟩, fun D hD => lc_it (walk_list (K := K) (a := a) (xs := us)) (fun i G => Same H3 G ∧ G D = some (.lst (((fs.take i).map (·.1)).map V.str))) ⟨same_new hD, upd_same⟩ (fun i G _ z => .inl (.inl (z.1 _ _ ha3))) ?_ ?_⟩
  · rintro i z G0 G hi ⟨s, hacc⟩ ⟨rfl, hz⟩
    obtain ⟨f, hf, b, d, rfl, hb, hB⟩ := al3.get hz
    refine ⟨b, _, rfl, .inl (.inl (s _ _ hb)), rfl, _, _, rfl, _, _, rfl, _, _, rfl, _, _, rfl, rfl, rfl, _, rfl, _, hacc, small1000 (by rw [List.length_map, List.length_map, List.length_take]; omega), same_mut s hD, ?_⟩
    rw [upd_same, take_succ_of hf, List.map_append, List.map_append] <;> rfl
  rintro G4 ⟨s34, hD4⟩
  rw [al.1, List.take_length] at hD4
  refine ⟨D, _, rfl, .inl ⟨SqL.of hD4, fun tn htn => ?_⟩⟩
  have s35 := s34.trans (same_new (o := .tup ((fs.map (·.1)).map V.str)) htn)
  have htn5 := upd_same (H := G4) (a := tn) (o := .tup ((fs.map (·.1)).map V.str))
  generalize upd G4 tn (.tup ((fs.map (·.1)).map V.str)) = H5 at s35 htn5 ⊢
  refine ⟨_, rfl, y, CF K, dy, _, rfl, s35 _ _ hy3, T.cl_Functions, T.na_Functions_names, (fF_len x y y y y).1, ?_⟩
  have o6 : ∀ c o, c ≠ y → H5 c = some o → (upd H5 y (.ins (CF K) dy (fF2 x tn))) c = some o := fun c o n e => by rw [upd_ne n]; exact e
  have hy6 : (upd H5 y (.ins (CF K) dy (fF2 x tn))) y = some (.ins (CF K) dy (fF2 x tn)) := upd_same
  refine (?_ : tSeq _ _ _ _ (upd H5 y (.ins (CF K) dy (fF2 x tn))))
  generalize upd H5 y (.ins (CF K) dy (fF2 x tn)) = H6 at o6 hy6 ⊢
  have b6 : But y H H6 := fun c o n e => o6 _ _ n (s35 _ _ (b3 _ _ n e))
  have htn6 := o6 _ _ (ne_of htn5 (s35 _ _ hy3) (by intro z; cases z)) htn5
  have ha6 := b6 _ _ nay ha
  have al6 : All2 (FRowAt H6) us fs := al.mono fun _ _ z => z.but hy b6
  -- _takes
  refine ⟨_, rfl, a, rfl, ⟨_, .inl (.inl ha6)⟩, fun dt hdt => dc_it (walk_list (K := K) (a := a) (xs := us)) (fun i G => Same H6 G ∧ ∃ kvs, G dt = some (.dK kvs) ∧ KD kvs ((fs.take i).map (·.1)) (TakesR fs)) ⟨same_new hdt, [], upd_same, KD.nil⟩ (fun i G _ z => .inl (.inl (z.1 _ _ ha6))) ?_ ?_⟩
  · rintro i z G0 G hi ⟨s, kvs, hk, kd⟩ ⟨rfl, hz⟩
    obtain ⟨f, hf, b, d, rfl, hb, hB⟩ := al6.get hz
    have kl : kvs.length ≤ 1000 := by rw [kd.length, List.length_map, List.length_take]; omega
    have hnew : f.1 ∉ (fs.take i).map (·.1) := by
      rw [List.map_take]
      exact not_mem_take_of_nodup (i := i) nd1 (by rw [List.getElem?_map, hf]; rfl)
    refine ⟨b, _, rfl, .inl (.inl (s _ _ hb)), rfl, _, _, rfl, _, _, rfl, _, _, rfl, _, _, rfl, rfl, rfl, _, rfl, _, rfl, kvs, Sum.inr f.1, rfl, hk, small1000 kl, same_mut s hdt, _, upd_same, ?_⟩
    rw [take_succ_of hf, List.map_append]
    show KD _ ((fs.take i).map (·.1) ++ [f.1]) _
    rw [← addNew_of_not hnew]
    exact kd.put (fun j u _ hu => hu) ⟨f, List.mem_of_getElem? hf, rfl, rfl⟩
  rintro H7 ⟨s7, kvt, hkvt, kdkvt⟩
  rw [al.1, List.take_length] at kdkvt
  refine ⟨_, rfl, y, CF K, dy, _, rfl, s7 _ _ hy6, T.cl_Functions, T.na_Functions_takes_, (fF_len x tn y y y).2.1, ?_⟩
  have o8 : ∀ c o, c ≠ y → H6 c = some o → (upd H7 y (.ins (CF K) dy (fF3 x tn dt))) c = some o := fun c o n e => by rw [upd_ne n]; exact s7 _ _ e
  have hy8 : (upd H7 y (.ins (CF K) dy (fF3 x tn dt))) y = some (.ins (CF K) dy (fF3 x tn dt)) := upd_same
  have hkvtn : (upd H7 y (.ins (CF K) dy (fF3 x tn dt))) dt = some (.dK kvt) := by rw [upd_ne (ne_of hkvt (s7 _ _ hy6) (by intro z; cases z))]; exact hkvt
  refine (?_ : tSeq _ _ _ _ (upd H7 y (.ins (CF K) dy (fF3 x tn dt))))
  generalize upd H7 y (.ins (CF K) dy (fF3 x tn dt)) = H8 at o8 hy8 hkvtn ⊢
  have b8 : But y H H8 := fun c o n e => o8 _ _ n (b6 _ _ n e)
  have ha8 := b8 _ _ nay ha
  have al8 : All2 (FRowAt H8) us fs := al.mono fun _ _ z => z.but hy b8
  have htn8 := o8 _ _ (ne_of htn6 hy6 (by intro z; cases z)) htn6
  -- _folds
  refine ⟨_, rfl, a, rfl, ⟨_, .inl (.inl ha8)⟩, fun df hdf => dc_it (walk_list (K := K) (a := a) (xs := us)) (fun i G => Same H8 G ∧ ∃ kvs, G df = some (.dK kvs) ∧ KD kvs ((fs.take i).map (·.1)) (FoldsR fs)) ⟨same_new hdf, [], upd_same, KD.nil⟩ (fun i G _ z => .inl (.inl (z.1 _ _ ha8))) ?_ ?_⟩
  · rintro i z G0 G hi ⟨s, kvs, hk, kd⟩ ⟨rfl, hz⟩
    obtain ⟨f, hf, b, d, rfl, hb, hB⟩ := al8.get hz
    have kl : kvs.length ≤ 1000 := by rw [kd.length, List.length_map, List.length_take]; omega
    have hnew : f.1 ∉ (fs.take i).map (·.1) := by
      rw [List.map_take]
      exact not_mem_take_of_nodup (i := i) nd1 (by rw [List.getElem?_map, hf]; rfl)
    refine ⟨b, _, rfl, .inl (.inl (s _ _ hb)), rfl, _, _, rfl, _, _, rfl, _, _, rfl, _, _, rfl, rfl, rfl, _, rfl, _, rfl, kvs, Sum.inr f.1, rfl, hk, small1000 kl, same_mut s hdf, _, upd_same, ?_⟩
    rw [take_succ_of hf, List.map_append]
    show KD _ ((fs.take i).map (·.1) ++ [f.1]) _
    rw [← addNew_of_not hnew]
    exact kd.put (fun j u _ hu => hu) ⟨f, List.mem_of_getElem? hf, rfl, rfl⟩
  rintro H9 ⟨s9, kvf, hkvf, kdkvf⟩
  rw [al.1, List.take_length] at kdkvf
  refine ⟨_, rfl, y, CF K, dy, _, rfl, s9 _ _ hy8, T.cl_Functions, T.na_Functions_folds_, (fF_len x tn dt y y).2.2.1, ?_⟩
  have o10 : ∀ c o, c ≠ y → H8 c = some o → (upd H9 y (.ins (CF K) dy (fF4 x tn dt df))) c = some o := fun c o n e => by rw [upd_ne n]; exact s9 _ _ e
  have hy10 : (upd H9 y (.ins (CF K) dy (fF4 x tn dt df))) y = some (.ins (CF K) dy (fF4 x tn dt df)) := upd_same
  have hkvfn : (upd H9 y (.ins (CF K) dy (fF4 x tn dt df))) df = some (.dK kvf) := by rw [upd_ne (ne_of hkvf (s9 _ _ hy8) (by intro z; cases z))]; exact hkvf
  refine (?_ : tSeq _ _ _ _ (upd H9 y (.ins (CF K) dy (fF4 x tn dt df))))
  generalize upd H9 y (.ins (CF K) dy (fF4 x tn dt df)) = H10 at o10 hy10 hkvfn ⊢
  have b10 : But y H H10 := fun c o n e => o10 _ _ n (b8 _ _ n e)
  have ha10 := b10 _ _ nay ha
  have al10 : All2 (FRowAt H10) us fs := al.mono fun _ _ z => z.but hy b10
  have htn10 := o10 _ _ (ne_of htn8 hy8 (by intro z; cases z)) htn8
  have hkvt10 := o10 _ _ (ne_of hkvtn hy8 (by intro z; cases z)) hkvtn
  have fresh : ∀ {c : Addr}, H10 c = none → H c = none := fun {c} h => by
    cases e : H c with
    | none => rfl
    | some o =>
      by_cases n : c = y
      · rw [n, hy10] at h; cases h
      · rw [b10 _ _ n e] at h; cases h
  -- _bodies
  refine ⟨_, rfl, a, rfl, ⟨_, .inl (.inl ha10)⟩, fun db hdb => dc_it (walk_list (K := K) (a := a) (xs := us)) (fun i G => Same H10 G ∧ ∃ kvs, G db = some (.dK kvs) ∧ KD kvs ((fs.take i).map (·.1)) (fun n v => ∃ f ∈ fs, f.1 = n ∧ ∃ d, v = .ref d ∧ (d ≠ db ∧ H d = none) ∧ BodiesAt G d f.2.2.2)) ⟨same_new hdb, [], upd_same, KD.nil⟩ (fun i G _ z => .inl (.inl (z.1 _ _ ha10))) ?_ ?_⟩
  · rintro i z G0 G hi ⟨s, kvs, hk, kd⟩ ⟨rfl, hz⟩
    obtain ⟨f, hf, b, d, rfl, hb, hB⟩ := al10.get hz
    have kl : kvs.length ≤ 1000 := by rw [kd.length, List.length_map, List.length_take]; omega
    have hnew : f.1 ∉ (fs.take i).map (·.1) := by
      rw [List.map_take]
      exact not_mem_take_of_nodup (i := i) nd1 (by rw [List.getElem?_map, hf]; rfl)
    obtain ⟨kvd, hkd, kdd⟩ := hB
    refine ⟨b, _, rfl, .inl (.inl (s _ _ hb)), rfl, _, _, rfl, _, _, rfl, _, _, rfl, _, _, rfl, rfl, rfl, _, rfl, _, rfl, d, kvd, rfl, .inl (s _ _ hkd), fun p hp => ?_⟩
    have sp := same_new (o := .dK kvd) hp
    have hk2 := sp _ _ hk
    have npd : p ≠ db := fun e => by rw [e, hk] at hp; cases hp
    refine ⟨kvs, Sum.inr f.1, rfl, hk2, small1000 kl, same_mut (s.trans sp) hdb, _, upd_same, ?_⟩
    rw [take_succ_of hf, List.map_append]
    show KD _ ((fs.take i).map (·.1) ++ [f.1]) _
    rw [← addNew_of_not hnew]
    have tu := fun (o : HO) => tups_upd (H := upd G p (.dK kvd)) (p := db) (o := o) fun u ff zz => by rw [hk2] at zz; cases zz; exact ff
    refine kd.put (fun j u _ ⟨f2, m2, e2, d2, e3, n2, kv2, h2, k2⟩ => ⟨f2, m2, e2, d2, e3, n2, kv2, by rw [upd_ne n2.1]; exact sp _ _ h2, k2.mono fun _ _ ⟨bb, e4, z4⟩ => ⟨bb, e4, (z4.mono (tups_of sp)).mono (tu _)⟩⟩) ?_
    exact ⟨f, List.mem_of_getElem? hf, rfl, p, rfl, ⟨npd, fresh (none_sm s hp)⟩, kvd, by rw [upd_ne npd]; exact upd_same, kdd.mono fun _ _ ⟨bb, e4, z4⟩ => ⟨bb, e4, ((z4.mono (tups_of s)).mono (tups_of sp)).mono (tu _)⟩⟩
  rintro H11 ⟨s11, kvb, hkvb, kdb⟩
  rw [al.1, List.take_length] at kdb
  refine ⟨_, rfl, y, CF K, dy, _, rfl, s11 _ _ hy10, T.cl_Functions, T.na_Functions_bodies_, (fF_len x tn dt df y).2.2.2, ?_⟩
  have hy11 := s11 _ _ hy10
  have o12 : ∀ c o, c ≠ y → H11 c = some o → (upd H11 y (.ins (CF K) dy (fF5 x tn dt df db))) c = some o := fun c o n e => by rw [upd_ne n]; exact e
  have bb11 : But y H11 (upd H11 y (.ins (CF K) dy (fF5 x tn dt df db))) := fun c o n e => o12 c o n e
  have fr6 : ∀ {c : Addr}, H6 c = none → H c = none := fun {c} h => by
    cases e : H c with
    | none => rfl
    | some o =>
      by_cases n : c = y
      · rw [n, hy6] at h; cases h
      · rw [b6 _ _ n e] at h; cases h
  have fr8 : ∀ {c : Addr}, H8 c = none → H c = none := fun {c} h => by
    cases e : H c with
    | none => rfl
    | some o =>
      by_cases n : c = y
      · rw [n, hy8] at h; cases h
      · rw [b8 _ _ n e] at h; cases h
  exact q _ (fun c o n e => o12 _ _ n (s11 _ _ (b10 _ _ n e))) (told_funs nd1 upd_same (o12 _ _ (ne_of htn10 hy10 (by intro z; cases z)) (s11 _ _ htn10)) (o12 _ _ (ne_of hkvt10 hy10 (by intro z; cases z)) (s11 _ _ hkvt10)) kdkvt (o12 _ _ (ne_of hkvfn hy10 (by intro z; cases z)) (s11 _ _ hkvfn)) kdkvf (o12 _ _ (ne_of hkvb hy11 (by intro z; cases z)) hkvb) (kdb.mono fun n v ⟨f, m, e, d, e2, hn, hB⟩ => ⟨f, m, e, d, e2, hn.2, hB.but hy11 bb11⟩) (fr6 hdt) (fr8 hdf) (fresh hdb))
end
end Bg
set_option Elab.async false
set_option linter.all false
set_option maxRecDepth 100000
set_option maxHeartbeats 4000000
namespace Bg
open PySem PySem.Spec PyProof.Rows L2
/-- a text whose repr is no trouble -/
def Tame (y : Str) : Prop := (reprText y).length ≤ 1000
def NT (K : PySem.W.Frag) : Addr := He.ga K "NotThere"
theorem nt_lk (k : Str) : ([("name", V.str k)] : List (Str × V)).lookup ("name" : Str) = some (.str k) := by simp [List.lookup]
section
variable {P : Program} {w : World} {K : PySem.W.Frag} {mg : Str → Option Value} {base : Heap} {fd : FuncData}
theorem unk_len : ("unknown: " : Str).length = 9 := by decide +kernel
theorem sl_big : 2000 ≤ sizeLine := by rw [sizeLine_eq]; decide
def spNTI (K : PySem.W.Frag) : Sp := fun vs H Q _ => ∃ (a : Addr) (y : Str), vs = [.ref a, .str y] ∧ Tame y ∧ H a = some (exo a (NT K) none) ∧ ∀ dx, H dx = none → dx ≠ a → Q .non (upd (upd H dx (exd dx [("name", .str y)])) a (exo a (NT K) (some dx)))
theorem ok_nti (T : Tx K mg) (F : FnP K ("NotThere", some "__init__") "__init__" "NotThere.__init__" s_NotThere_init fd) : FnOk P w K mg base CX0 1 (He.fAd K ("NotThere", some "__init__")) fd ["self", "name"] (spNTI K) := by
  refine F.ok sc_NotThere_init (fun vs H Q E h => ?_) (fun cdv A outer s H vs Q E hr h => ?_)
  · obtain ⟨a, y, rfl, _⟩ := h; rfl
  obtain ⟨a, y, rfl, ty, ha, q⟩ := h
  refine ⟨_, PSs.nox (pss_cons (ps_expr (pe_ginit T.gi (by rfl) T.g_GroveError (pa_cons (pv 0) (pa_cons (pe_joined (.cons pe_str (.cons (pe_fmtR (pv 1)) .nil))) pa_nil))))
    (pss_one (ps_ost (f := "name") (pv 0) (pv 1)))), ?_⟩
  have tl : (Str.empty ++ ("unknown: " : Str)).length ≤ 9 := by decide +kernel
  have e0 : (Str.empty ++ ("unknown: " : Str)) = ("unknown: " : Str) := by decide +kernel
  have b := sl_big
  refine ⟨_, rfl, _, rfl, Nat.le_trans tl (by omega), _, rfl, .inl ⟨y, rfl, Nat.le_trans ty (by omega), _, rfl, ?_, a, NT K, [_], rfl, (by show 1 ≤ 1000; decide), T.x_NotThere.oex, ha, ?_⟩⟩
  · rw [e0, Str.length_append, unk_len]
    have : (reprText y).length ≤ 1000 := ty
    omega
  exact ⟨_, rfl, _, rfl, a, NT K, rfl, T.x_NotThere.oex, T.na_NotThere_name, .inl ⟨ha, fun dx hdx ne => q dx hdx ne⟩⟩
/-- the error NotThere with the name k leaves, its dict new -/
def RaisesNT (K : PySem.W.Frag) (H : Hp) (k : Str) (E : XK) : Prop := ∀ dx H', Same H H' → H' dx = some (.xd [("name", .str k)]) → E (.ref (NT K)) (some dx) H'
theorem raise_read {H : Hp} {k : Str} {E : XK} (ty : Tame k) (q : RaisesNT K H k E) : ([V.str k] : List V).length ≤ 1000 ∧ ∀ a, H a = none → spNTI K (.ref a :: ([.str k] ++ [])) (upd H a (exo a (NT K) none))
    (fun v H2 => v = .non ∧ ∃ (d : Addr) (fs : List (Str × V)), H2 a = some (exo a (NT K) (some d)) ∧ H2 d = some (exd d fs) ∧ H d = none ∧ E (.ref (NT K)) (some d) (upd (L2.del H2 a) d (.xd fs))) (fun _ _ _ => False) := by
  refine ⟨by show 1 ≤ 1000; decide, fun a ha => ⟨a, k, rfl, ty, upd_same, fun dx hdx ne => ⟨rfl, dx, [("name", .str k)], upd_same, by rw [upd_ne ne]; exact upd_same, ?_, q dx _ (fun b o e => ?_) upd_same⟩⟩⟩
  · rw [upd_ne ne] at hdx; exact hdx
  · have n1 : b ≠ a := ne_of_none e ha
    have n2 : b ≠ dx := ne_of_none (by rw [upd_ne n1]; exact e) hdx
    rw [upd_ne n2, del_ne n1, upd_ne n1, upd_ne n2, upd_ne n1]; exact e
end
end Bg
set_option Elab.async false
set_option linter.all false
set_option maxRecDepth 100000
set_option maxHeartbeats 4000000
/-! what a function table tells: takes, body, paths -/
namespace Bg
open PySem PySem.Spec PyProof.Rows L2
theorem fF_takes {x tn dt df db : Addr} : (fF5 x tn dt df db).lookup ("_takes" : Str) = some (.ref dt) := by
  unfold fF5 fF4 fF3
  rw [lookup_putF, if_neg (by decide +kernel), lookup_putF, if_neg (by decide +kernel), lookup_putF, if_pos rfl]
theorem fF_bodies {x tn dt df db : Addr} : (fF5 x tn dt df db).lookup ("_bodies" : Str) = some (.ref db) := by
  unfold fF5
  rw [lookup_putF, if_pos rfl]
theorem fF_folds {x tn dt df db : Addr} : (fF5 x tn dt df db).lookup ("_folds" : Str) = some (.ref df) := by
  unfold fF5 fF4
  rw [lookup_putF, if_neg (by decide +kernel), lookup_putF, if_pos rfl]
theorem fF_kinds {x tn dt df db : Addr} : (fF5 x tn dt df db).lookup ("kinds" : Str) = some (.ref x) := by
  unfold fF5 fF4 fF3 fF2 fF1
  rw [lookup_putF, if_neg (by decide +kernel), lookup_putF, if_neg (by decide +kernel), lookup_putF, if_neg (by decide +kernel), lookup_putF, if_neg (by decide +kernel), lookup_putF, if_pos rfl]
theorem fF_names {x tn dt df db : Addr} : (fF5 x tn dt df db).lookup ("names" : Str) = some (.ref tn) := by
  unfold fF5 fF4 fF3 fF2
  rw [lookup_putF, if_neg (by decide +kernel), lookup_putF, if_neg (by decide +kernel), lookup_putF, if_neg (by decide +kernel), lookup_putF, if_pos rfl]
theorem fF_none {x tn dt df db : Addr} {m : Str} (h : decide (m ∈ ([("_bodies" : Str), ("_folds" : Str), ("_takes" : Str), ("names" : Str), ("kinds" : Str)] : List Str)) = false) : (fF5 x tn dt df db).lookup m = none := by
  have h := of_decide_eq_false h
  simp only [List.mem_cons, List.not_mem_nil, or_false, not_or] at h
  unfold fF5 fF4 fF3 fF2 fF1
  rw [lookup_putF, if_neg h.1, lookup_putF, if_neg h.2.1, lookup_putF, if_neg h.2.2.1, lookup_putF, if_neg h.2.2.2.1, lookup_putF, if_neg h.2.2.2.2]; rfl
section
variable {P : Program} {w : World} {K : PySem.W.Frag} {mg : Str → Option Value} {base : Heap} {fd : FuncData}
def spTakes (K : PySem.W.Frag) : Sp := fun vs H Q E => ∃ (y x : Addr) (n : Str) (fs : List FRow), vs = [.ref y, .str n] ∧ FunsF K H y x fs ∧ (∀ f ∈ fs, f.1 = n → Q (.str f.2.1) H) ∧ (n ∉ fs.map (·.1) → Tame n ∧ RaisesNT K H n E)
theorem okx_takes (T : Tx K mg) (F : FnP K ("Functions", some "takes") "takes" "Functions.takes" s_Functions_takes fd) : FnOk P w K mg base (L2.CX P w) 3 (He.fAd K ("Functions", some "takes")) fd p_Functions_takes (spTakes K) := by
  refine F.ok (k := 2) sc_Functions_takes (fun vs H Q E h => ?_) (fun cdv A outer s H vs Q E hr h => ?_)
  · obtain ⟨_, _, _, _, rfl, _⟩ := h; rfl
  obtain ⟨y, x, n, fs, rfl, ⟨dy, tn, dt, df, db, hy, kvt, kvf, kvb, _, ⟨ht, kt⟩, _, _⟩, qt, qf⟩ := h
  have hu := hu_of hr
  obtain ⟨f1, F1⟩ := T.F_NotThere_init
  have nd := sc_Functions_takes.nd
  refine ⟨_, (pss_cons (ps_if (pt_cmp (pc_dnotin hu (pv 1) (pe_fld (pv 0) rfl)))
      (pss_one (ps_raise rfl (takes_of rfl rfl rfl rfl) (pmk_oex T.x_NotThere.oex T.m_NotThere_init.at_ (beq_iff_eq.mp T.m_NotThere_init.fn) (ok_nti T F1) (hr.mono (by omega)) (b_NotThere_init F1) .nil pass0 (by rfl) T.g_NotThere (pa_cons (pv 1) pa_nil))))
      pss_nil)
    (pss_one (ps_ret (pe_dget hu (pe_fld (pv 0) rfl) (pv 1) (fun _ _ => rfl))))), ?_⟩
  refine ⟨_, rfl, _, rfl, y, CF K, dy, _, _, rfl, hy, T.cl_Functions, T.na_Functions_takes_, fF_takes, dt, _, rfl, ht.get (Sum.inr n), _, rfl, ?_⟩
  by_cases hn : n ∈ fs.map (·.1)
  · obtain ⟨v, ev, f, hf, ef, rfl⟩ := kt.some hn
    rw [ev]
    refine iteF ⟨_, rfl, y, CF K, dy, _, _, rfl, hy, T.cl_Functions, T.na_Functions_takes_, fF_takes, _, rfl, dt, _, rfl, (by rw [← ev]; exact ht.get (Sum.inr n)), qt f hf ef⟩
  · obtain ⟨tm, ra⟩ := qf hn
    rw [kt.none hn]
    exact iteT ⟨_, rfl, raise_read tm ra⟩
def spFBody (K : PySem.W.Frag) : Sp := fun vs H Q E => ∃ (y x : Addr) (n m : Str) (fs : List FRow), vs = [.ref y, .str n, .str m] ∧ FunsF K H y x fs ∧ (fs.map (·.1)).Nodup ∧ (∀ f ∈ fs, f.1 = n → (∀ b, bodyIn f.2.2.2 m = some b → ∀ v, Td H v (bodyD b) → Q v H) ∧ (m ∉ f.2.2.2.map (·.1) → Tame m ∧ RaisesNT K H m E)) ∧ (n ∉ fs.map (·.1) → Tame n ∧ RaisesNT K H n E)
theorem okx_fbody (T : Tx K mg) (F : FnP K ("Functions", some "body") "body" "Functions.body" s_Functions_body fd) : FnOk P w K mg base (L2.CX P w) 3 (He.fAd K ("Functions", some "body")) fd p_Functions_body (spFBody K) := by
  refine F.ok (k := 2) sc_Functions_body (fun vs H Q E h => ?_) (fun cdv A outer s H vs Q E hr h => ?_)
  · obtain ⟨_, _, _, _, _, rfl, _⟩ := h; rfl
  obtain ⟨y, x, n, m, fs, rfl, ⟨dy, tn, dt, df, db, hy, kvt, kvf, kvb, _, _, _, ⟨hb, kb⟩⟩, nd1, qt, qf⟩ := h
  have hu := hu_of hr
  obtain ⟨f1, F1⟩ := T.F_NotThere_init
  have nd := sc_Functions_body.nd
  refine ⟨_, (pss_cons (ps_if (pt_cmp (pc_dnotin hu (pv 1) (pe_fld (pv 0) rfl)))
      (pss_one (ps_raise rfl (takes_of rfl rfl rfl rfl) (pmk_oex T.x_NotThere.oex T.m_NotThere_init.at_ (beq_iff_eq.mp T.m_NotThere_init.fn) (ok_nti T F1) (hr.mono (by omega)) (b_NotThere_init F1) .nil pass0 (by rfl) T.g_NotThere (pa_cons (pv 1) pa_nil))))
      pss_nil)
    (pss_cons (ps_if (pt_cmp (pc_dnotin hu (pv 2) (pe_dget hu (pe_fld (pv 0) rfl) (pv 1) (fun _ _ => rfl))))
      (pss_one (ps_raise rfl (takes_of rfl rfl rfl rfl) (pmk_oex T.x_NotThere.oex T.m_NotThere_init.at_ (beq_iff_eq.mp T.m_NotThere_init.fn) (ok_nti T F1) (hr.mono (by omega)) (b_NotThere_init F1) .nil pass0 (by rfl) T.g_NotThere (pa_cons (pv 2) pa_nil))))
      pss_nil)
    (pss_one (ps_ret (pe_dget hu (pe_dget hu (pe_fld (pv 0) rfl) (pv 1) (fun _ _ => rfl)) (pv 2) (fun _ _ => rfl)))))), ?_⟩
  refine ⟨_, rfl, _, rfl, y, CF K, dy, _, _, rfl, hy, T.cl_Functions, T.na_Functions_bodies_, fF_bodies, db, _, rfl, hb.get (Sum.inr n), _, rfl, ?_⟩
  by_cases hn : n ∈ fs.map (·.1)
  · obtain ⟨v, ev, f, hf, ef, d, rfl, kvd, hd, kd⟩ := kb.some hn
    obtain ⟨q1, q2⟩ := qt f hf ef
    rw [ev]
    refine iteF ⟨_, rfl, _, rfl, y, CF K, dy, _, _, rfl, hy, T.cl_Functions, T.na_Functions_bodies_, fF_bodies, _, rfl, db, _, rfl, (by rw [← ev]; exact hb.get (Sum.inr n)), d, _, rfl, hd.get (Sum.inr m), _, rfl, ?_⟩
    by_cases hm : m ∈ f.2.2.2.map (·.1)
    · obtain ⟨v2, ev2, b, eb, tb⟩ := kd.some hm
      rw [ev2]
      exact iteF ⟨_, rfl, y, CF K, dy, _, _, rfl, hy, T.cl_Functions, T.na_Functions_bodies_, fF_bodies, _, rfl, db, _, rfl, (by rw [← ev]; exact hb.get (Sum.inr n)), _, rfl, d, _, rfl, (by rw [← ev2]; exact hd.get (Sum.inr m)), q1 b eb v2 tb⟩
    · obtain ⟨tm, ra⟩ := q2 hm
      rw [kd.none hm]
      exact iteT ⟨_, rfl, raise_read tm ra⟩
  · obtain ⟨tm, ra⟩ := qf hn
    rw [kb.none hn]
    exact iteT ⟨_, rfl, raise_read tm ra⟩
def spFPaths (K : PySem.W.Frag) : Sp := fun vs H Q E => ∃ (y x : Addr) (n m : Str) (fs : List FRow), vs = [.ref y, .str n, .str m] ∧ FunsF K H y x fs ∧ FRowsOk fs ∧ (fs.map (·.1)).Nodup ∧ (∀ f ∈ fs, f.1 = n → (∀ b, bodyIn f.2.2.2 m = some b → (∃ r as, bodyB r as b = true) ∧ ∀ a H', Same H H' → H a = none → PathsAt H' a (pathsB [] b) → Q (.ref a) H') ∧ (m ∉ f.2.2.2.map (·.1) → Tame m ∧ RaisesNT K H m E)) ∧ (n ∉ fs.map (·.1) → Tame n ∧ RaisesNT K H n E)
theorem okx_fpaths (T : Tx K mg) (F : FnP K ("Functions", some "paths") "paths" "Functions.paths" s_Functions_paths fd) : FnOk P w K mg base (L2.CX P w) 11 (He.fAd K ("Functions", some "paths")) fd p_Functions_paths (spFPaths K) := by
  obtain ⟨fp, Fp⟩ := T.F_paths_of
  have G := okPaths (P := P) (w := w) (mg := mg) (base := base) T Fp 8
  refine F.ok (k := 10) sc_Functions_paths (fun vs H Q E h => ?_) (fun cdv A outer s H vs Q E hr h => ?_)
  · obtain ⟨_, _, _, _, _, rfl, _⟩ := h; rfl
  obtain ⟨y, x, n, m, fs, rfl, hF, ok, nd1, qt, qf⟩ := h
  obtain ⟨dy, tn, dt, df, db, hy, _⟩ := id hF
  obtain ⟨fy, Fy⟩ := T.F_Functions_body
  have GB := okx_fbody (P := P) (w := w) (mg := mg) (base := base) T Fy
  have nd := sc_Functions_paths.nd
  refine ⟨_, (pss_one (ps_ret (pe_call G (hr.mono (by omega)) (by rfl) T.g_paths_of T.k_paths_of (b_paths_of Fp) .nil pass0 (pa_cons (pe_meth (pv 0) T.cl_Functions T.m_Functions_body GB (hr.mono (by omega)) (b_Functions_body Fy) .nil (passX (takes_of rfl rfl rfl rfl)) (pa_cons (pv 1) (pa_cons (pv 2) pa_nil))) pa_nil)))), ?_⟩
  refine ⟨_, rfl, y, dy, _, rfl, hy, fF_none (by decide +kernel), _, rfl, _, rfl, y, x, n, m, fs, rfl, hF, nd1, fun f hf ef => ⟨fun b eb v tb => ?_, (qt f hf ef).2⟩, qf⟩
  obtain ⟨⟨r, as, hb⟩, q⟩ := (qt f hf ef).1 b eb
  obtain ⟨qq, hqm, _, e2⟩ := bodyIn_mem eb
  have fok := ok.bod f hf
  subst e2
  exact ⟨v, qq.2, r, as, rfl, tb, hb, fok.odd qq hqm, fok.dep qq hqm, by decide, fok.wt qq hqm, fun a H' s' na pa => q a H' s' na pa⟩
theorem okc_takes (T : Tx K mg) (F : FnP K ("Functions", some "takes") "takes" "Functions.takes" s_Functions_takes fd) : FnOk P w K mg base CX0 3 (He.fAd K ("Functions", some "takes")) fd p_Functions_takes (fun vs H Q _ => spTakes K vs H Q E0) := calm (okx_takes T F)
theorem okc_fbody (T : Tx K mg) (F : FnP K ("Functions", some "body") "body" "Functions.body" s_Functions_body fd) : FnOk P w K mg base CX0 3 (He.fAd K ("Functions", some "body")) fd p_Functions_body (fun vs H Q _ => spFBody K vs H Q E0) := calm (okx_fbody T F)
theorem okc_fpaths (T : Tx K mg) (F : FnP K ("Functions", some "paths") "paths" "Functions.paths" s_Functions_paths fd) : FnOk P w K mg base CX0 11 (He.fAd K ("Functions", some "paths")) fd p_Functions_paths (fun vs H Q _ => spFPaths K vs H Q E0) := calm (okx_fpaths T F)
end
end Bg
set_option Elab.async false
set_option linter.all false
set_option maxRecDepth 100000
set_option maxHeartbeats 4000000
/-! dict(zip(t1, t2)) of two tuples -/
namespace Bg
open PySem PySem.Spec PyProof.Rows L2
section
variable {prog : Program} {w : World} {A : Around} {E : Value → Shared → Prop} {s : Shared} {z ti tt T j1 j2 b1 b2 : Addr} {fl : Bool} {ob : Obj} {n1 n2 : Nat} {us vs : Array Value}
theorem held_item {x y : Value} {Q : Value → Shared → Prop} (ap : ZipApart z ti tt j1 j2 b1 b2) (zh : IsZipHeld s.heap z ti tt T fl) (th : s.heap.get? T = some ob) (hti : IsPair s.heap ti (.ref j1) (.ref j2))
    (g1 : s.heap.IsTupleIter j1 b1 n1) (g2 : s.heap.IsTupleIter j2 b2 n2) (t1 : s.heap.IsTuple b1 us) (t2 : s.heap.IsTuple b2 vs) (ex : us[n1]? = some x) (ey : vs[n2]? = some y)
    (want : ∀ h', IsZipHeld h' z ti tt T true → h'.IsTupleIter j1 b1 (n1 + 1) → h'.IsTupleIter j2 b2 (n2 + 1) → IsPair h' s.heap.objs.size x y → h'.objs.size = s.heap.objs.size + 1 →
      (∀ b o, b ≠ z → b ≠ j1 → b ≠ j2 → s.heap.get? b = some o → h'.get? b = some o) → Q (.ref s.heap.objs.size) { s with heap := h' }) :
    wpAny (model prog w) A (Builtin.«zip.__next__» ⟨[.ref z], []⟩) (fun fin s' => ∃ r, fin = .done (.ret r) ∧ Q r s') E s := by
  show wpAny _ _ (field (.ref z) 2 >>= _) _ E s
  refine wpAny_bind (wpAny_field zh rfl (x := Value.bool false) rfl ?_)
  show wpAny _ _ (field (.ref z) 3 >>= _) _ E s
  refine wpAny_bind (wpAny_field zh rfl (x := Value.ref ti) rfl ?_)
  refine wpAny_bind (wpAny_seqItems hti rfl ?_)
  show wpAny _ _ (Builtin.SmallTypes.ownedTupleIsFree (.ref z) >>= _) _ E s
  refine wpAny_bind (wpAny_tupleHeld_zip zh th fun k1 zk1 sk1 => ?_)
  simp only [Bool.false_eq_true, if_false]
  refine wpAny_bind ?_
  rw [← Array.forIn_toList]
  simp only [List.forIn_cons, List.forIn_nil]
  refine wpAny_bind (wpAny_bind (wpAny_holding ?_))
  show wpAny _ _ (Builtin.SmallTypes.nextOf (.ref j1) >>= _) _ E { s with heap := k1 }
  refine wpAny_bind (RZ.nextOf_tuple_item (s := { s with heap := k1 }) (g1.extBut sk1.extBut ap.i1z) (t1.extBut sk1.extBut ap.l1z) ex fun k2 it2 sk2 => wpAny_pure ?_)
  refine wpAny_pure ?_
  refine wpAny_bind (wpAny_bind (wpAny_holding ?_))
  show wpAny _ _ (Builtin.SmallTypes.nextOf (.ref j2) >>= _) _ E { s with heap := k2 }
  refine wpAny_bind (RZ.nextOf_tuple_item (s := { s with heap := k2 }) ((g2.extBut sk1.extBut ap.i2z).extBut sk2.extBut ap.i12.symm) ((t2.extBut sk1.extBut ap.l2z).extBut sk2.extBut ap.l2i1) ey fun k3 it3 sk3 => wpAny_pure ?_)
  refine wpAny_pure (wpAny_pure ?_)
  show wpAny _ _ (newTuple [x, y] >>= _) _ E { s with heap := k3 }
  refine wpAny_bind (wpAny_newTuple ?_)
  have size3 : k3.objs.size = s.heap.objs.size := by rw [sk3.1, sk2.1, sk1.1]
  have z3 : IsZipHeld k3 z ti tt T true := sk3.extBut _ _ ap.i2z.symm (sk2.extBut _ _ ap.i1z.symm zk1)
  have old : ∀ b o, b ≠ z → b ≠ j1 → b ≠ j2 → s.heap.get? b = some o → k3.get? b = some o := fun b o d1 d2 d3 e => sk3.extBut _ _ d3 (sk2.extBut _ _ d2 (sk1.extBut _ _ d1 e))
  have it23 : k3.IsTupleIter j1 b1 (n1 + 1) := it2.extBut sk3.extBut ap.i12
  refine wpAny_pure ⟨_, rfl, ?_⟩
  show Q (.ref k3.objs.size) { s with heap := _ }
  have tp : IsPair (k3.push { cls := .type "tuple", data := .seq #[x, y] }) k3.objs.size x y := Heap.get?_push_size _ rfl
  have sz : (k3.push { cls := .type "tuple", data := .seq #[x, y] }).objs.size = k3.objs.size + 1 := Heap.size_push ..
  rw [size3] at tp sz ⊢
  exact want _ (Heap.get?_push_of_some _ z3) (it23.at fun o e => Heap.get?_push_of_some _ e) (it3.at fun o e => Heap.get?_push_of_some _ e) tp sz fun b o d1 d2 d3 e => Heap.get?_push_of_some _ (old b o d1 d2 d3 e)
theorem held_end {Q : Fin → Shared → Prop} (calm : A.handled = none) (ap : ZipApart z ti tt j1 j2 b1 b2) (zh : IsZipHeld s.heap z ti tt T fl) (th : s.heap.get? T = some ob) (hti : IsPair s.heap ti (.ref j1) (.ref j2))
    (g1 : s.heap.IsTupleIter j1 b1 n1) (t1 : s.heap.IsTuple b1 us) (ex : us[n1]? = none)
    (out : ∀ h' e, (∀ b o, b ≠ z → b ≠ j1 → b ≠ j2 → s.heap.get? b = some o → h'.get? b = some o) → (∃ o, h'.get? e = some o ∧ o.cls = .type "StopIteration") → E (.ref e) { s with heap := h' }) :
    wpAny (model prog w) A (Builtin.«zip.__next__» ⟨[.ref z], []⟩) Q E s := by
  show wpAny _ _ (field (.ref z) 2 >>= _) _ E s
  refine wpAny_bind (wpAny_field zh rfl (x := Value.bool false) rfl ?_)
  show wpAny _ _ (field (.ref z) 3 >>= _) _ E s
  refine wpAny_bind (wpAny_field zh rfl (x := Value.ref ti) rfl ?_)
  refine wpAny_bind (wpAny_seqItems hti rfl ?_)
  show wpAny _ _ (Builtin.SmallTypes.ownedTupleIsFree (.ref z) >>= _) _ E s
  refine wpAny_bind (wpAny_tupleHeld_zip zh th fun k1 zk1 sk1 => ?_)
  simp only [Bool.false_eq_true, if_false]
  refine wpAny_bind ?_
  rw [← Array.forIn_toList]
  simp only [List.forIn_cons, List.forIn_nil]
  refine wpAny_bind (wpAny_bind (wpAny_holding ?_))
  show wpAny _ _ (Builtin.SmallTypes.nextOf (.ref j1) >>= _) _ E { s with heap := k1 }
  refine wpAny_bind (RZ.nextOf_tuple_end (s := { s with heap := k1 }) calm (g1.extBut sk1.extBut ap.i1z) (t1.extBut sk1.extBut ap.l1z) ex fun k2 e sk2 he => ?_)
  exact out k2 e (fun b o d1 d2 _ q => sk2 _ _ d2 (sk1.extBut _ _ d1 q)) he
theorem next_held_item {x y : Value} {Q : Option Value → Shared → Prop} (ap : ZipApart z ti tt j1 j2 b1 b2) (zh : IsZipHeld s.heap z ti tt T fl) (th : s.heap.get? T = some ob) (hti : IsPair s.heap ti (.ref j1) (.ref j2))
    (g1 : s.heap.IsTupleIter j1 b1 n1) (g2 : s.heap.IsTupleIter j2 b2 n2) (t1 : s.heap.IsTuple b1 us) (t2 : s.heap.IsTuple b2 vs) (ex : us[n1]? = some x) (ey : vs[n2]? = some y)
    (want : ∀ h', IsZipHeld h' z ti tt T true → h'.IsTupleIter j1 b1 (n1 + 1) → h'.IsTupleIter j2 b2 (n2 + 1) → IsPair h' s.heap.objs.size x y → h'.objs.size = s.heap.objs.size + 1 →
      (∀ b o, b ≠ z → b ≠ j1 → b ≠ j2 → s.heap.get? b = some o → h'.get? b = some o) → Q (some (.ref s.heap.objs.size)) { s with heap := h' }) : wpAny (model prog w) A (pyNext (.ref z)) Q E s := by
  have ty : s.TypeIs (.ref z) "zip" := ⟨_, zh, rfl⟩
  unfold pyNext
  exact wpAny_bind (wpAny_attempt (wpAny_callSpecial?_slot (name := Str.ofString "__next__") ty F.slot_zip_next (wpAny_call_entry F.slot_zip_next ty F.entry_zip_next
    (held_item ap zh th hti g1 g2 t1 t2 ex ey fun h' p1 p2 p3 p4 p5 p6 => wpAny_pure (want h' p1 p2 p3 p4 p5 p6)) (F.args_zip_next_1 _))))
theorem next_held_end {Q : Option Value → Shared → Prop} (calm : A.handled = none) (ap : ZipApart z ti tt j1 j2 b1 b2) (zh : IsZipHeld s.heap z ti tt T fl) (th : s.heap.get? T = some ob) (hti : IsPair s.heap ti (.ref j1) (.ref j2))
    (g1 : s.heap.IsTupleIter j1 b1 n1) (t1 : s.heap.IsTuple b1 us) (ex : us[n1]? = none)
    (want : ∀ h', (∀ b o, b ≠ z → b ≠ j1 → b ≠ j2 → s.heap.get? b = some o → h'.get? b = some o) → Q none { s with heap := h' }) : wpAny (model prog w) A (pyNext (.ref z)) Q E s := by
  have ty : s.TypeIs (.ref z) "zip" := ⟨_, zh, rfl⟩
  unfold pyNext
  refine wpAny_bind (wpAny_attempt (wpAny_callSpecial?_slot (name := Str.ofString "__next__") ty F.slot_zip_next (wpAny_call_entry F.slot_zip_next ty F.entry_zip_next (held_end calm ap zh th hti g1 t1 ex fun h' e k he => ?_) (F.args_zip_next_1 _))))
  obtain ⟨o, ho, hc⟩ := he
  refine wpAny_bind (wpAny_isInstance (T := "StopIteration") (b := true) ⟨o, ho, hc⟩ isSubtype_stop ?_)
  exact wpAny_pure (want _ k)
end
/-- a zip of two tuples of one length, as what dict() is made of -/
theorem zipArg {prog : Program} {w : World} (z ti tt j1 j2 b1 b2 : Addr) (ap : ZipApart z ti tt j1 j2 b1 b2) (us vs : Array Value) (el : us.size = vs.size) :
    PairArg prog w "zip" z [z, ti, tt, j1, j2, b1, b2] [z, tt, j1, j2] us.size (fun i k v => us[i]? = some k ∧ vs[i]? = some v)
      (fun h => IsZip h z ti tt .none ∧ IsPair h ti (.ref j1) (.ref j2) ∧ (∃ x y, IsPair h tt x y) ∧ h.IsTupleIter j1 b1 0 ∧ h.IsTupleIter j2 b2 0 ∧ h.IsTuple b1 us ∧ h.IsTuple b2 vs) where
  type := fun s ok => ⟨_, ok.1, rfl⟩
  notDict := by decide
  keep := fun h h' ⟨q1, q2, ⟨x, y, q3⟩, q4, q5, q6, q7⟩ k => ⟨k _ _ q1, k _ _ q2, ⟨x, y, k _ _ q3⟩, q4.at fun o e => k _ o e, q5.at fun o e => k _ o e, q6.at fun o e => k _ o e, q7.at fun o e => k _ o e⟩
  there := fun h ok b hb => by
    obtain ⟨q1, q2, ⟨x, y, q3⟩, ⟨o1, q4, _⟩, ⟨o2, q5, _⟩, ⟨o3, q6, _⟩, ⟨o4, q7, _⟩⟩ := ok
    simp only [List.mem_cons, List.not_mem_nil, or_false] at hb
    rcases hb with e | e | e | e | e | e | e <;> rw [e]
    · exact ⟨_, q1⟩
    · exact ⟨_, q2⟩
    · exact ⟨_, q3⟩
    · exact ⟨_, q4⟩
    · exact ⟨_, q5⟩
    · exact ⟨_, q6⟩
    · exact ⟨_, q7⟩
  sub := fun b hb => by
    simp only [List.mem_cons, List.not_mem_nil, or_false] at hb ⊢
    rcases hb with e | e | e | e <;> simp [e]
  noKeys := fun A s Q E calm ok q => getAttrOr_miss_zip ok.1 rfl rfl rfl zip_no_keys (by decide +kernel) calm q
  iter := fun A s d Q E calm ok hd nd q => by
    obtain ⟨q1, q2, ⟨x, y, q3⟩, q4, q5, q6, q7⟩ := ok
    simp only [List.mem_cons, List.not_mem_nil, or_false, not_or] at nd
    obtain ⟨d1, d2, d3, d4, d5, d6, d7⟩ := nd
    refine wpAny_pyIter_zip q1 (q z [z, tt, j1, j2] (fun i h => IsPair h ti (.ref j1) (.ref j2) ∧ h.IsTupleIter j1 b1 i ∧ h.IsTupleIter j2 b2 i ∧ h.IsTuple b1 us ∧ h.IsTuple b2 vs ∧
      ((IsZip h z ti tt .none ∧ ∃ x y, IsPair h tt x y) ∨ ∃ T f o, IsZipHeld h z ti tt T f ∧ h.get? T = some o ∧ T ≠ z ∧ T ≠ j1 ∧ T ≠ j2 ∧ T ≠ d)) s.heap s.toks ?_ ⟨q2, q4, q5, q6, q7, .inl ⟨q1, x, y, q3⟩⟩ (fun _ _ e => e) fun b hb => .inl hb)
    refine { off := fun hm => ?_, frame := fun i h h' st k => ?_, item := fun i s1 Q1 E1 hi st hds q1 => ?_, done := fun s1 Q1 E1 st q1 => ?_ }
    · simp only [List.mem_cons, List.not_mem_nil, or_false] at hm
      rcases hm with e | e | e | e
      · exact d1 e
      · exact d3 e
      · exact d4 e
      · exact d5 e
    · obtain ⟨r2, r4, r5, r6, r7, rz⟩ := st
      refine ⟨k _ _ (Ne.symm d2) r2, r4.at fun o e => k _ o (Ne.symm d4) e, r5.at fun o e => k _ o (Ne.symm d5) e, r6.at fun o e => k _ o (Ne.symm d6) e, r7.at fun o e => k _ o (Ne.symm d7) e, ?_⟩
      rcases rz with ⟨rz, x, y, r3⟩ | ⟨T, f, o, rz, rT, n1, n2, n3, n4⟩
      · exact .inl ⟨k _ _ (Ne.symm d1) rz, x, y, k _ _ (Ne.symm d3) r3⟩
      · exact .inr ⟨T, f, o, k _ _ (Ne.symm d1) rz, k _ _ n4 rT, n1, n2, n3, n4⟩
    · obtain ⟨r2, r4, r5, r6, r7, rz⟩ := st
      have ex := Array.getElem?_eq_getElem hi
      have ey := Array.getElem?_eq_getElem (show i < vs.size by omega)
      have lt : ∀ {b o}, s1.heap.get? b = some o → s1.heap.objs.size ≠ b := fun e => Nat.ne_of_gt (Heap.lt_size e)
      have m1 : s1.heap.objs.size ≠ j1 := let ⟨_, e, _⟩ := r4; lt e
      have m2 : s1.heap.objs.size ≠ j2 := let ⟨_, e, _⟩ := r5; lt e
      have out : ∀ {b : Addr}, b ∉ [z, tt, j1, j2] → b ≠ z ∧ b ≠ tt ∧ b ≠ j1 ∧ b ≠ j2 := fun {b} hb => by
        simp only [List.mem_cons, List.not_mem_nil, or_false, not_or] at hb
        exact ⟨hb.1, hb.2.1, hb.2.2.1, hb.2.2.2⟩
      rcases rz with ⟨rz, x, y, r3⟩ | ⟨T, f, o, rz, rT, n1, n2, n3, n4⟩
      · refine RZ.pyNext_zipT_item ap rz r2 r3 r4 r5 r6 r7 ex ey fun h' p1 p2 p3 p4 p5 p6 k => ?_
        exact q1 s1.heap.objs.size _ _ h' s1.toks ⟨ex, ey⟩ (.inl ⟨_, p5, rfl, _, rfl⟩)
          ⟨k _ _ ap.TIz ap.TITO ap.TIi1 ap.TIi2 r2, p3, p4, r6.at fun o e => k _ o ap.l1z ap.l1TO ap.l1i1 ap.l1i2 e, r7.at fun o e => k _ o ap.l2z ap.l2TO ap.l2i1 ap.l2i2 e,
            .inr ⟨s1.heap.objs.size, false, _, p1, p5, lt rz, m1, m2, Nat.ne_of_gt hds⟩⟩
          fun b o hb e => let ⟨u1, u2, u3, u4⟩ := out hb; k b o u1 u2 u3 u4 e
      · refine next_held_item ap rz rT r2 r4 r5 r6 r7 ex ey fun h' p1 p3 p4 p5 p6 k => ?_
        exact q1 s1.heap.objs.size _ _ h' s1.toks ⟨ex, ey⟩ (.inl ⟨_, p5, rfl, _, rfl⟩)
          ⟨k _ _ ap.TIz ap.TIi1 ap.TIi2 r2, p3, p4, r6.at fun o e => k _ o ap.l1z ap.l1i1 ap.l1i2 e, r7.at fun o e => k _ o ap.l2z ap.l2i1 ap.l2i2 e,
            .inr ⟨T, true, o, p1, k _ _ n1 n2 n3 rT, n1, n2, n3, n4⟩⟩
          fun b o hb e => let ⟨u1, u2, u3, u4⟩ := out hb; k b o u1 u3 u4 e
    · obtain ⟨r2, r4, r5, r6, r7, rz⟩ := st
      have hend : us[us.size]? = none := Array.getElem?_eq_none (Nat.le_refl _)
      have out : ∀ {b : Addr}, b ∉ [z, tt, j1, j2] → b ≠ z ∧ b ≠ tt ∧ b ≠ j1 ∧ b ≠ j2 := fun {b} hb => by
        simp only [List.mem_cons, List.not_mem_nil, or_false, not_or] at hb
        exact ⟨hb.1, hb.2.1, hb.2.2.1, hb.2.2.2⟩
      rcases rz with ⟨rz, x, y, r3⟩ | ⟨T, f, o, rz, rT, n1, n2, n3, n4⟩
      · exact RZ.pyNext_zipT_end calm ap rz r2 r3 r4 r5 r6 r7 (.inl hend) fun h' k => q1 h' s1.toks fun b o hb e => let ⟨u1, u2, u3, u4⟩ := out hb; k b o u1 u2 u3 u4 e
      · exact next_held_end calm ap rz rT r2 r4 r6 hend fun h' k => q1 h' s1.toks fun b o hb e => let ⟨u1, u2, u3, u4⟩ := out hb; k b o u1 u3 u4 e
section
variable {X : Cx}
def tDictZip (K : PySem.W.Frag) (ta : TA) : TE := fun σ H Q => ta σ H fun vs H1 => ∃ (a b : Addr) (kvs : List (Key × V)), vs = [.ref a, .ref b] ∧ SqT K H1 a (kvs.map fun kv => kV kv.1) ∧ SqT K H1 b (kvs.map (·.2)) ∧ ∀ p, H1 p = none → Q (.ref p) (upd H1 p (.dK (mergeK [] kvs)))
theorem keyIs_of {k : Key} {u : Value} (r : RelV (kV k) u) : keyIs k u = true := by
  cases k with
  | inl i => obtain ⟨t, rfl⟩ := r; exact keyIs_int i t
  | inr x => obtain ⟨t, rfl⟩ := r; exact keyIs_str x t
theorem kv_vals : ∀ {kvs : List (Key × V)} {us : List Value}, Vals (kvs.map (·.2)) us → KV kvs ((kvs.map (·.1)).zip us)
  | [], _, h => by cases h; exact .nil
  | kv :: kvs, _, h => by
    cases h with
    | cons r t => exact .cons ⟨rfl, r⟩ (kv_vals t)
theorem pe_dictZip {e e2 : Expr} {ta : TA} {p pos p2 pos2 : Pos} (hc : X.calm = true) (hg : Gl X "zip") (hm : X.mg "zip" = none) (hg2 : Gl X "dict") (hm2 : X.mg "dict" = none) (ha : PA X [e, e2] ta)
    (hs : starEach [e, e2] X.env = (false, eval e X.env) :: starEach [e2] X.env := by rfl) (hpl : (backTo pos (starEach [e2] X.env)).any (·.1) = false := by rfl)
    (hs2 : starEach [.Call (.Name "zip" p) [e, e2] [] pos] X.env = (false, eval (.Call (.Name "zip" p) [e, e2] [] pos) X.env) :: starEach [] X.env := by rfl) (hpl2 : (backTo pos2 (starEach [] X.env)).any (·.1) = false := by rfl) :
    PE X (.Call (.Name "dict" p2) [.Call (.Name "zip" p) [e, e2] [] pos] [] pos2) (tDictZip X.K ta) := by
  refine ⟨fun pins s σ H Q I h => ?_⟩
  refine Call_ (ld_blt I hg2 hm2 (show bootBuiltins "dict" = some (.type "dict") by decide +kernel) (PyProof.Rows.callWith_type1 ?_ hs2 hpl2))
  rw [hs2]
  refine Calls.spliced_cons ?_
  refine Call_ (ld_blt I hg hm PyProof.Rows.boot_zip (PyProof.Rows.callWith_type1 (thn (ha.run pos pins s σ H _ I h) fun us s1 ⟨vs, H1, I1, r1, q1⟩ => ?_) hs hpl))
  obtain ⟨a, b, kvs, ex, qa, qb, q⟩ := q1
  subst ex
  cases r1 with
  | cons r rr =>
  cases rr with
  | cons r' rr =>
  cases rr
  cases r
  cases r'
  obtain ⟨its, rv, p1, z1⟩ := I1.tuple qa
  obtain ⟨its2, rv2, p2', z2⟩ := I1.tuple qb
  obtain ⟨o1, ho1, _⟩ := id p1
  obtain ⟨o2, ho2, _⟩ := id p2'
  refine RZ.call_zipT (show s1.heap.IsTuple a its.toArray from p1) (show s1.heap.IsTuple b its2.toArray from p2') fun h' hz hTI hTO g1 g2 hsz hk => ?_
  refine Calls.spliced_nil ?_
  have I2 : Inv X pins σ H1 { s1 with heap := h' } := I1.kept (t' := s1.toks) hk
  have l1 := rv.length
  have l2 := rv2.length
  rw [List.length_map] at l1 l2 z1 z2
  have e1 : its.toArray.size = its2.toArray.size := by rw [List.size_toArray, List.size_toArray]; omega
  have hb1 : h'.IsTuple a its.toArray := (show s1.heap.IsTuple a its.toArray from p1).at fun o e => hk _ o e
  have hb2 : h'.IsTuple b its2.toArray := (show s1.heap.IsTuple b its2.toArray from p2').at fun o e => hk _ o e
  have P := zipArg (prog := X.prog) (w := X.w) (s1.heap.objs.size + 4) (s1.heap.objs.size + 2) (s1.heap.objs.size + 3) s1.heap.objs.size (s1.heap.objs.size + 1) a b (PySem.W.ktu_apart s1.heap.objs.size a b (Heap.lt_size ho1) (Heap.lt_size ho2)) its.toArray its2.toArray e1
  have hc2 : PairsHave (mixKind X.prog X.w) its.toArray.size (fun i k v => its.toArray[i]? = some k ∧ its2.toArray[i]? = some v) ((kvs.map (·.1)).zip its2) := ⟨by rw [List.length_zip, List.length_map, List.size_toArray]; omega, fun i key v e => by
    obtain ⟨e3, e4⟩ := e
    rw [List.getElem?_toArray] at e3 e4
    have li := (List.getElem?_eq_some_iff.mp e3).1
    have hkv := List.getElem?_eq_getElem (show i < kvs.length by omega)
    obtain ⟨u, hu, ru⟩ := rv.get (i := i) (x := kV kvs[i].1) (by rw [List.getElem?_map, hkv]; rfl)
    rw [e3] at hu
    cases hu
    exact ⟨kvs[i].1, by rw [List.getElem?_zip_eq_some]; exact ⟨by rw [List.getElem?_map, hkv]; rfl, e4⟩, keyIs_of ru⟩⟩
  refine PySem.call_dict_pairs (knd := mixKind X.prog X.w) (kvs := (kvs.map (·.1)).zip its2) P (I.ok.hd hc) ⟨hz, hTI, ⟨_, _, hTO⟩, g1, g2, hb1, hb2⟩ hc2 (by rw [List.size_toArray]; omega) fun h'' tk hd' k => ?_
  have lt : ∀ {b : Addr} {o : Obj}, s1.heap.get? b = some o → b ∉ [s1.heap.objs.size + 4, s1.heap.objs.size + 3, s1.heap.objs.size, s1.heap.objs.size + 1] := fun {b o} e hm => by
    have l := Heap.lt_size e
    have d : ∀ n : Nat, b ≠ s1.heap.objs.size + n := fun n => Nat.ne_of_lt (Nat.lt_of_lt_of_le l (Nat.le_add_right _ _))
    simp only [List.mem_cons, List.not_mem_nil, or_false] at hm
    rcases hm with e1 | e1 | e1 | e1
    · exact d 4 e1
    · exact d 3 e1
    · exact d 0 e1
    · exact d 1 e1
  have hm : (h'.objs.size == sysModules) = false := beq_eq_false_iff_ne.mpr (Nat.ne_of_gt (by rw [hsz]; exact Nat.lt_of_lt_of_le I1.big (Nat.le_add_right _ _)))
  have rel := kv_vals (kvs := kvs) rv2
  have hlen : (mergeK [] kvs).length ≤ sizeLine := by
    refine Nat.le_trans (length_mergeK kvs []) ?_
    rw [List.length_nil, Nat.zero_add]; omega
  have hle : s1.heap.objs.size ≤ h'.objs.size := by rw [hsz]; exact Nat.le_add_right _ _
  exact ⟨.ref h'.objs.size, upd H1 h'.objs.size (.dK (mergeK [] kvs)), I1.laid (t' := tk) (fun b o e => k b o (lt e) (hk b o e)) hle (show ObjOk X.prog X.w _ _ _ (.dK (mergeK [] kvs)) from ⟨hlen, hm, merged [] ((kvs.map (·.1)).zip its2), KV.merge rel .nil, hd'⟩), rfl, q _ (I1.hok.fresh hle)⟩
end
end Bg
set_option Elab.async false
set_option linter.all false
set_option maxRecDepth 100000
set_option maxHeartbeats 4000000
/-! dict(zip(names, values)) as data -/
namespace Bg
open PySem PySem.Spec PyProof.Rows L2
theorem merge_kd {R : Str → V → Prop} : ∀ (more : List (Str × V)) (kvs : List (Key × V)) (ks : List Str), KD kvs ks R → (∀ q ∈ more, R q.1 q.2) → KD (mergeK kvs (more.map fun q => ((Sum.inr q.1 : Key), q.2))) ((more.map (·.1)).foldl addNew ks) R
  | [], _, _, h, _ => h
  | q :: more, kvs, ks, h, hr => merge_kd more (putK kvs (Sum.inr q.1) q.2) (addNew ks q.1) (h.put (fun _ _ _ z => z) (hr q (List.mem_cons_self ..))) fun x hx => hr x (List.mem_cons_of_mem _ hx)
theorem foldl_addNew_nodup : ∀ {ms ks : List Str}, (ks ++ ms).Nodup → ms.foldl addNew ks = ks ++ ms
  | [], ks, _ => by simp
  | m :: ms, ks, h => by
    have hn : m ∉ ks := fun z => (List.nodup_append.mp h).2.2 m z m (List.mem_cons_self ..) rfl
    rw [List.foldl_cons, addNew_of_not hn, foldl_addNew_nodup (by rw [List.append_assoc]; exact h), List.append_assoc]; rfl
theorem kd_zip {R : Str → V → Prop} {ns : List Str} {ws : List V} (nd : ns.Nodup) (l : ws.length = ns.length) (h : ∀ (i : Nat) n v, ns[i]? = some n → ws[i]? = some v → R n v) :
    ∃ kvs : List (Key × V), (kvs.map fun kv => kV kv.1) = ns.map V.str ∧ kvs.map (·.2) = ws ∧ KD (mergeK [] kvs) ns R := by
  have e1 : (ns.zip ws).map (·.1) = ns := by rw [List.map_fst_zip (by omega)]
  have e2 : (ns.zip ws).map (·.2) = ws := by rw [List.map_snd_zip (by omega)]
  refine ⟨(ns.zip ws).map fun q => ((Sum.inr q.1 : Key), q.2), ?_, ?_, ?_⟩
  · rw [List.map_map]
    conv => rhs; rw [← e1]
    rw [List.map_map]; rfl
  · rw [List.map_map]
    conv => rhs; rw [← e2]
    rfl
  · have := merge_kd (R := R) (ns.zip ws) [] [] KD.nil fun q hq => by
      obtain ⟨i, hi⟩ := List.getElem?_of_mem hq
      rw [List.getElem?_zip_eq_some] at hi
      exact h i _ _ hi.1 hi.2
    rw [e1, foldl_addNew_nodup (by simpa using nd)] at this
    simpa using this
end Bg
set_option Elab.async false
set_option linter.all false
set_option maxRecDepth 100000
set_option maxHeartbeats 2000000
namespace Bg
open PySem PySem.Spec PyProof.Rows L2
theorem made_x {H : Hp} {x dx C : Addr} (hx : H x = none) (hdx : H dx = none) : Same H (upd (upd H dx (.own x)) x (.ins C dx [])) := fun b o e => by
  rw [upd_ne (ne_of_none e hx), upd_ne (ne_of_none e hdx)]; exact e
theorem PoolAt.notImm {H : Hp} {a : Addr} (h : PoolAt H a) : ∀ u, Imm u → H a ≠ some u := by
  obtain ⟨ns, e, _⟩ := h; exact notImm_lst e
theorem KindsF.ins {K : PySem.W.Frag} {H : Hp} {x : Addr} {rs : List Row} (h : KindsF K H x rs) : ∃ dx dm dk dp dl tn to, H x = some (.ins (CK K) dx (kF6 dm dk dp dl tn to)) := by
  obtain ⟨dx, dm, dk, dp, dl, tn, to, h0, _⟩ := h; exact ⟨dx, dm, dk, dp, dl, tn, to, h0⟩
theorem KindsF.pool' {K : PySem.W.Frag} {H H' : Hp} {a : Addr} (e : PoolAt H a) (s : But a H H') {x : Addr} {rs : List Row} (h : KindsF K H x rs) : KindsF K H' x rs := by
  obtain ⟨ns, e, _⟩ := e; exact h.but e s
theorem KindsF.butD {K : PySem.W.Frag} {H H' : Hp} {d x : Addr} {rs : List Row} {kvs : List (Key × V)} (e : H d = some (.dK kvs)) (s : But d H H') (h : KindsF K H x rs) : KindsF K H' x rs :=
  h.mono (imms_but s (notImm_dK e)) fun o z => s _ _ (fun w => by obtain ⟨_, _, _, _, _, _, _, h0⟩ := h.ins; rw [w, e] at h0; cases h0) z
end Bg
set_option Elab.async false
set_option linter.all false
set_option maxRecDepth 100000
set_option maxHeartbeats 4000000
/-! folded; a node of a tree -/
namespace Bg
open PySem PySem.Spec PyProof.Rows L2
abbrev CN (K : PySem.W.Frag) : Addr := He.ga K "TreeNode"
def fT1 (m : Str) : List (Str × V) := putF "maker" (.str m) []
def fT2 (m : Str) (pr : Addr) : List (Str × V) := putF "prints" (.ref pr) (fT1 m)
def fT3 (m : Str) (pr y : Addr) : List (Str × V) := putF "_functions" (.ref y) (fT2 m pr)
def fT4 (m : Str) (pr y dv : Addr) : List (Str × V) := putF "_values" (.ref dv) (fT3 m pr y)
theorem fT_len (m : Str) (pr y : Addr) : (fT1 m).length < 1000 ∧ (fT2 m pr).length < 1000 ∧ (fT3 m pr y).length < 1000 := by
  have h1 := putF_len "maker" (.str m) []
  have h2 := putF_len "prints" (.ref pr) (fT1 m)
  have h3 := putF_len "_functions" (.ref y) (fT2 m pr)
  unfold fT3 fT2 fT1 at *
  simp only [List.length_nil] at h1
  omega
theorem fT_maker {m : Str} {pr y dv : Addr} : (fT4 m pr y dv).lookup ("maker" : Str) = some (.str m) := by
  unfold fT4 fT3 fT2 fT1
  rw [lookup_putF, if_neg (by decide +kernel), lookup_putF, if_neg (by decide +kernel), lookup_putF, if_neg (by decide +kernel), lookup_putF, if_pos rfl]
theorem fT_maker3 {m : Str} {pr y : Addr} : (fT3 m pr y).lookup ("maker" : Str) = some (.str m) := by
  unfold fT3 fT2 fT1
  rw [lookup_putF, if_neg (by decide +kernel), lookup_putF, if_neg (by decide +kernel), lookup_putF, if_pos rfl]
theorem fT_prints {m : Str} {pr y dv : Addr} : (fT4 m pr y dv).lookup ("prints" : Str) = some (.ref pr) := by
  unfold fT4 fT3 fT2
  rw [lookup_putF, if_neg (by decide +kernel), lookup_putF, if_neg (by decide +kernel), lookup_putF, if_pos rfl]
theorem fT_funs {m : Str} {pr y dv : Addr} : (fT4 m pr y dv).lookup ("_functions" : Str) = some (.ref y) := by
  unfold fT4 fT3
  rw [lookup_putF, if_neg (by decide +kernel), lookup_putF, if_pos rfl]
theorem fT_vals {m : Str} {pr y dv : Addr} : (fT4 m pr y dv).lookup ("_values" : Str) = some (.ref dv) := by
  unfold fT4
  rw [lookup_putF, if_pos rfl]
theorem fT_none {m : Str} {pr y dv : Addr} {z : Str} (h : decide (z ∈ ([("_values" : Str), ("_functions" : Str), ("prints" : Str), ("maker" : Str)] : List Str)) = false) : (fT4 m pr y dv).lookup z = none := by
  have h := of_decide_eq_false h
  simp only [List.mem_cons, List.not_mem_nil, or_false, not_or] at h
  unfold fT4 fT3 fT2 fT1
  rw [lookup_putF, if_neg h.1, lookup_putF, if_neg h.2.1, lookup_putF, if_neg h.2.2.1, lookup_putF, if_neg h.2.2.2]; rfl
/-- the values of a node's parts -/
def ValsAt (H : Hp) (dv : Addr) (r : Row) (ds : List PyData) : Prop := ∃ kvs, H dv = some (.dK kvs) ∧ KD kvs (r.2.2.map (·.1)) fun p v => Td H v (valIn r.2.2 ds p)
theorem ValsAt.mono {H H' : Hp} (t : Tups H H') {dv : Addr} (k : ∀ o, H dv = some o → H' dv = some o) {r : Row} {ds : List PyData} (h : ValsAt H dv r ds) : ValsAt H' dv r ds := by
  obtain ⟨kvs, e, kd⟩ := h
  exact ⟨kvs, k _ e, kd.mono fun _ _ z => z.mono t⟩
section
variable {P : Program} {w : World} {K : PySem.W.Frag} {mg : Str → Option Value} {base : Heap} {fd : FuncData}
def spFolded : Sp := fun vs H Q _ => ∃ (fo : Str) (a : Addr) (ns : List Int), vs = [.str fo, .ref a] ∧ H a = some (.lst (ns.map V.int)) ∧ (∀ x ∈ ns, 0 ≤ x) ∧ Q (.int (foldA fo ns)) H
theorem ok_folded (T : Tx K mg) (F : FnP K ("folded", none) "folded" "folded" s_folded fd) : FnOk P w K mg base CX0 2 (He.fAd K ("folded", none)) fd p_folded spFolded := by
  refine F.ok (k := 1) sc_folded (fun vs H Q E h => ?_) (fun cdv A outer s H vs Q E hr h => ?_)
  · obtain ⟨_, _, _, rfl, _⟩ := h; rfl
  obtain ⟨fo, a, ns, rfl, ha, h0, q⟩ := h
  have nd := sc_folded.nd
  refine ⟨_, PSs.nox (pss_cons (ps_if (pt_cmpR op_eq (pe_callB call_len_seq (by rfl) T.n_len PySem.boot_len (pa_cons (pv 1) pa_nil)) pe_int (nomark _))
      (pss_one (ps_ret pe_int))
      pss_nil)
    (pss_one (ps_ret (pe_ifExp (pt_cmpR op_eq (pv 0) pe_str (nomark _)) (pe_callB (cr_max rfl) (by rfl) T.n_max (by decide +kernel) (pa_cons (pv 1) pa_nil)) (pe_callB (cr_sum rfl) (by rfl) T.n_sum (by decide +kernel) (pa_cons (pv 1) pa_nil)))))), ?_⟩
  refine ⟨_, rfl, a, _, rfl, .inl (SqL.of ha), rfl, _, rfl, ?_⟩
  cases ns with
  | nil =>
    refine iteTe (by rfl) ?_
    have e : foldA fo [] = 0 := by unfold foldA; split <;> rfl
    rw [e] at q; exact q
  | cons x ns =>
  refine iteFe (decide_eq_false fun z => by have := V.int.inj z; simp at this; omega) ?_
  refine ⟨_, rfl, rfl, _, rfl, ?_⟩
  rw [eqStr]
  by_cases hf : fo = ("max" : Str)
  · refine iteTe (decide_eq_true hf) ⟨_, rfl, a, x :: ns, rfl, SqL.of ha, by simp, fun m hm hb => ?_⟩
    have e : foldA fo (x :: ns) = m := by unfold foldA; rw [if_pos hf]; exact max_is h0 hm hb
    rw [← e]; exact q
  · refine iteFe (decide_eq_false hf) ⟨_, rfl, a, x :: ns, rfl, SqL.of ha, ?_⟩
    have e : foldA fo (x :: ns) = (x :: ns).sum := by unfold foldA; rw [if_neg hf]
    rw [← e]; exact q
def spFFold (K : PySem.W.Frag) : Sp := fun vs H Q _ => ∃ (y x : Addr) (fs : List FRow) (f : FRow), vs = [.ref y, .str f.1] ∧ FunsF K H y x fs ∧ (fs.map (·.1)).Nodup ∧ f ∈ fs ∧ Q (.str f.2.2.1) H
theorem ok_ffold (T : Tx K mg) (F : FnP K ("Functions", some "fold") "fold" "Functions.fold" s_Functions_fold fd) : FnOk P w K mg base CX0 1 (He.fAd K ("Functions", some "fold")) fd p_Functions_fold (spFFold K) := by
  refine F.ok (k := 0) sc_Functions_fold (fun vs H Q E h => ?_) (fun cdv A outer s H vs Q E hr h => ?_)
  · obtain ⟨_, _, _, _, rfl, _⟩ := h; rfl
  obtain ⟨y, x, fs, f, rfl, ⟨dy, tn, dt, df, db, hy, kvt, kvf, kvb, _, _, ⟨hf, kf⟩, _⟩, nd1, hfm, q⟩ := h
  have hu := hu_of hr
  have nd := sc_Functions_fold.nd
  refine ⟨_, PSs.nox (pss_one (ps_ret (pe_dget hu (pe_fld (pv 0) rfl) (pv 1) (fun _ _ => rfl)))), ?_⟩
  obtain ⟨v, ev, g, hg, eg, rfl⟩ := kf.some (List.mem_map_of_mem (f := fun f : FRow => f.1) hfm)
  cases name_uniq nd1 hg hfm eg
  exact ⟨_, rfl, y, CF K, dy, _, _, rfl, hy, T.cl_Functions, T.na_Functions_folds_, fF_folds, _, rfl, df, _, rfl, (by rw [← ev]; exact hf.get (Sum.inr f.1)), q⟩
def spTNI (K : PySem.W.Frag) : Sp := fun vs H Q _ => ∃ (nd dn y x ta pr : Addr) (rs : List Row) (fs : List FRow) (r : Row) (ws : List V) (ds : List PyData), vs = [.ref nd, .ref y, .ref ta, .ref pr] ∧ H nd = some (.ins (CN K) dn []) ∧ FunsF K H y x fs ∧ KindsF K H x rs ∧ ValidT rs ∧ r ∈ rs ∧ H ta = some (.tup (.str r.2.1 :: ws)) ∧ TdAll H ws ds ∧ ds.length = r.2.2.length ∧
  ∀ H' dv, But nd H H' → H' nd = some (.ins (CN K) dn (fT4 r.2.1 pr y dv)) → ValsAt H' dv r ds → Q .non H'
theorem ok_tnI (T : Tx K mg) (F : FnP K ("TreeNode", some "__init__") "__init__" "TreeNode.__init__" s_TreeNode_init fd) : FnOk P w K mg base CX0 3 (He.fAd K ("TreeNode", some "__init__")) fd p_TreeNode_init (spTNI K) := by
  refine F.ok (k := 2) sc_TreeNode_init (fun vs H Q E h => ?_) (fun cdv A outer s H vs Q E hr h => ?_)
  · obtain ⟨_, _, _, _, _, _, _, _, _, _, _, rfl, _⟩ := h; rfl
  obtain ⟨nd0, dn, y, x, ta, pr, rs, fs, r, ws, ds, rfl, hnd, hF, hK, val, hr', hta, td, ld, q⟩ := h
  have lw : ws.length = r.2.2.length := by rw [td.length]; exact ld
  obtain ⟨f1, F1⟩ := T.F_Kinds_parts
  have nd := sc_TreeNode_init.nd
  refine ⟨_, PSs.nox (pss_cons (ps_fld (pv 0) (pe_ix ix_tup (pv 2) pe_int (fun _ _ => rfl)) rfl)
    (pss_cons (ps_fld (pv 0) (pv 3) rfl)
    (pss_cons (ps_fld (pv 0) (pv 1) rfl)
    (pss_one (ps_fld (pv 0) (pe_dictZip rfl (by rfl) T.n_zip (by rfl) T.n_dict (pa_cons (pe_meth (pe_fld (pv 1) rfl) T.cl_Kinds T.m_Kinds_parts (okf_parts T F1) (hr.mono (by omega)) (b_Kinds_parts F1) .nil pass0 (pa_cons (pe_fld (pv 0) rfl) pa_nil)) (pa_cons (pe_slice sl_tupA (pv 2) (po_some pe_int) po_none) pa_nil))) rfl))))), ?_⟩
  have ne1 : ta ≠ nd0 := ne_of hta hnd (by intro z; cases z)
  refine ⟨_, rfl, ta, _, _, _, rfl, rfl, SqT.of hta, atI_nat (j := 0) rfl, _, rfl, nd0, CN K, dn, [], rfl, hnd, T.cl_TreeNode, T.na_TreeNode_maker, by decide, ?_⟩
  have b1 : But nd0 H (upd H nd0 (.ins (CN K) dn (fT1 r.2.1))) := fun c o n e => by rw [upd_ne n]; exact e
  have h1 : (upd H nd0 (.ins (CN K) dn (fT1 r.2.1))) nd0 = some (.ins (CN K) dn (fT1 r.2.1)) := upd_same
  refine (?_ : tSeq _ _ _ _ (upd H nd0 (.ins (CN K) dn (fT1 r.2.1))))
  generalize upd H nd0 (.ins (CN K) dn (fT1 r.2.1)) = H1 at b1 h1 ⊢
  refine ⟨_, rfl, _, rfl, nd0, CN K, dn, _, rfl, h1, T.cl_TreeNode, T.na_TreeNode_prints, (fT_len r.2.1 pr y).1, ?_⟩
  have b2 : But nd0 H (upd H1 nd0 (.ins (CN K) dn (fT2 r.2.1 pr))) := fun c o n e => by rw [upd_ne n]; exact b1 _ _ n e
  have h2 : (upd H1 nd0 (.ins (CN K) dn (fT2 r.2.1 pr))) nd0 = some (.ins (CN K) dn (fT2 r.2.1 pr)) := upd_same
  refine (?_ : tSeq _ _ _ _ (upd H1 nd0 (.ins (CN K) dn (fT2 r.2.1 pr))))
  generalize upd H1 nd0 (.ins (CN K) dn (fT2 r.2.1 pr)) = H2 at b2 h2 ⊢
  refine ⟨_, rfl, _, rfl, nd0, CN K, dn, _, rfl, h2, T.cl_TreeNode, T.na_TreeNode_functions_, (fT_len r.2.1 pr y).2.1, ?_⟩
  have b3 : But nd0 H (upd H2 nd0 (.ins (CN K) dn (putF "_functions" (.ref y) (fT2 r.2.1 pr)))) := fun c o n e => by rw [upd_ne n]; exact b2 _ _ n e
  have h3 : (upd H2 nd0 (.ins (CN K) dn (putF "_functions" (.ref y) (fT2 r.2.1 pr)))) nd0 = some (.ins (CN K) dn (fT3 r.2.1 pr y)) := upd_same
  dsimp only
  generalize upd H2 nd0 (.ins (CN K) dn (putF "_functions" (.ref y) (fT2 r.2.1 pr))) = H3 at b3 h3 ⊢
  have ne2 : ∀ {a : Addr} {xs : List V}, H a = some (.tup xs) → a ≠ nd0 := fun h => ne_of h hnd (by intro z; cases z)
  have nimm : ∀ u, Imm u → H nd0 ≠ some u := notImm_ins hnd
  have hF3 : FunsF K H3 y x fs := hF.mono (imms_but b3 nimm) fun o z => b3 _ _ (fun w => by
    obtain ⟨_, _, _, _, _, h0, _⟩ := hF
    rw [w, hnd] at h0
    have := HO.ins.inj (Option.some.inj h0)
    exact absurd (congrArg (fun l : List (Str × V) => l.lookup ("_bodies" : Str)) this.2.2) (by rw [fF_bodies]; simp [List.lookup])) z
  have hK3 : KindsF K H3 x rs := hK.mono (imms_but b3 nimm) fun o z => b3 _ _ (fun w => by
    obtain ⟨_, _, _, _, _, _, _, h0⟩ := hK.ins
    rw [w, hnd] at h0
    have := HO.ins.inj (Option.some.inj h0)
    exact absurd (congrArg (fun l : List (Str × V) => l.lookup ("order" : Str)) this.2.2) (by rw [kF_order]; simp [List.lookup])) z
  obtain ⟨dy, tn, dt, df, db, hy3, _⟩ := id hF3
  obtain ⟨dx, dm, dk, dp, dl, tn2, to, h0, _⟩ := id hK3
  have hta3 := b3 _ _ ne1 hta
  have cut : cutV (V.str r.2.1 :: ws) (some 1) none = ws := by
    have := cutV_drop (V.str r.2.1 :: ws) 1
    simpa using this
  refine ⟨_, rfl, y, CF K, dy, _, _, rfl, hy3, T.cl_Functions, T.na_Functions_kinds, fF_kinds, x, dx, _, rfl, h0, kF_none (by decide +kernel), _, rfl, nd0, CN K, dn, _, _, rfl, h3, T.cl_TreeNode, T.na_TreeNode_maker, fT_maker3, x, rs, r, rfl, hK3, val, hr', fun v1 H4 s4 tx => ?_⟩
  obtain ⟨t1, o1, rfl, ho1, ht1⟩ := tx
  refine ⟨_, rfl, _, rfl, slN_read (s4 _ _ hta3) fun p2 H5 s5 hp2 => ?_⟩
  rw [cut] at hp2
  have s45 := s4.trans s5
  have nd1 := val.ndp hr'
  have td5 : TdAll H5 ws ds := TdAll.mono ((imms_but b3 nimm).tups.trans (tups_of s45)) td
  obtain ⟨kvs, ek, ev, kd⟩ := kd_zip (R := fun n v => Td H5 v (valIn r.2.2 ds n)) (ws := ws) nd1 (by rw [List.length_map]; exact lw) (fun i n v h1 h2 => by
    rw [List.getElem?_map, Option.map_eq_some_iff] at h1
    obtain ⟨p, hp, rfl⟩ := h1
    obtain ⟨d, hd, tdv⟩ := td5.get h2
    rw [valIn_at nd1 hp hd]; exact tdv)
  refine ⟨t1, p2, kvs, rfl, by rw [ek]; exact sqT_frz (s5 _ _ ht1), by rw [ev]; exact SqT.of hp2, fun dv hdv => ?_⟩
  have s6 := same_new (o := .dK (mergeK [] kvs)) hdv
  have s46 := s45.trans s6
  refine ⟨_, rfl, nd0, CN K, dn, _, rfl, s46 _ _ h3, T.cl_TreeNode, T.na_TreeNode_values_, (fT_len r.2.1 pr y).2.2, ?_⟩
  have ndv : dv ≠ nd0 := fun e => by rw [e, s45 _ _ h3] at hdv; cases hdv
  have bF : But nd0 (upd H5 dv (.dK (mergeK [] kvs))) (upd (upd H5 dv (.dK (mergeK [] kvs))) nd0 (.ins (CN K) dn (fT4 r.2.1 pr y dv))) := fun c o n e => by rw [upd_ne n]; exact e
  have tF := tups_upd (H := upd H5 dv (.dK (mergeK [] kvs))) (p := nd0) (o := .ins (CN K) dn (fT4 r.2.1 pr y dv)) fun u f zz => by rw [s46 _ _ h3] at zz; cases zz; exact f
  exact q _ dv (fun c o n e => bF _ _ n (s46 _ _ (b3 _ _ n e))) upd_same ⟨_, by rw [upd_ne ndv]; exact upd_same, kd.mono fun _ _ z => (z.mono (tups_of s6)).mono tF⟩
def spTNB (K : PySem.W.Frag) : Sp := fun vs H Q _ => ∃ (nd dn y pr dv : Addr) (m : Str) (r : Row) (ds : List PyData) (p : Str), vs = [.ref nd, .str p] ∧ H nd = some (.ins (CN K) dn (fT4 m pr y dv)) ∧ ValsAt H dv r ds ∧ p ∈ r.2.2.map (·.1) ∧ ∀ v, Td H v (valIn r.2.2 ds p) → Q v H
theorem ok_tnb (T : Tx K mg) (F : FnP K ("TreeNode", some "byte_of") "byte_of" "TreeNode.byte_of" s_TreeNode_byte_of fd) : FnOk P w K mg base CX0 1 (He.fAd K ("TreeNode", some "byte_of")) fd p_TreeNode_byte_of (spTNB K) := by
  refine F.ok (k := 0) sc_TreeNode_byte_of (fun vs H Q E h => ?_) (fun cdv A outer s H vs Q E hr h => ?_)
  · obtain ⟨_, _, _, _, _, _, _, _, _, rfl, _⟩ := h; rfl
  obtain ⟨nd0, dn, y, pr, dv, m, r, ds, p, rfl, hnd, ⟨kvs, hdv, kd⟩, hp, q⟩ := h
  have hu := hu_of hr
  have nd := sc_TreeNode_byte_of.nd
  refine ⟨_, PSs.nox (pss_one (ps_ret (pe_dget hu (pe_fld (pv 0) rfl) (pv 1) (fun _ _ => rfl)))), ?_⟩
  obtain ⟨v, ev, td⟩ := kd.some hp
  exact ⟨_, rfl, nd0, CN K, dn, _, _, rfl, hnd, T.cl_TreeNode, T.na_TreeNode_values_, fT_vals, _, rfl, dv, _, rfl, (by rw [← ev]; exact DGet.k (k := Sum.inr p) hdv), q v td⟩
end
end Bg
set_option Elab.async false
set_option linter.all false
set_option maxRecDepth 100000
set_option maxHeartbeats 4000000
/-! items in a drawn order -/
namespace Bg
open PySem PySem.Spec PyProof.Rows L2
theorem seqIx {n j : Nat} (h : j < n) : seqIndex? ((j : Nat) : Int) n = some j := (ixN_seq (by unfold ixN; rw [if_pos (by omega)]; simp; omega)).1
theorem erase_perm {α : Type} : ∀ (l : List α) (k : Nat) (y : α), l[k]? = some y → (y :: l.eraseIdx k).Perm l
  | [], k, y, h => by simp at h
  | a :: l, 0, y, h => by simp at h; subst h; exact List.Perm.refl _
  | a :: l, k + 1, y, h => by
    have ih := erase_perm l k y (by simpa using h)
    rw [List.eraseIdx_cons_succ]
    exact (List.Perm.swap a y _).trans (ih.cons a)
section
variable {P : Program} {w : World} {K : PySem.W.Frag} {mg : Str → Option Value} {base : Heap} {fd : FuncData}
def spShuf (K : PySem.W.Frag) : Sp := fun vs H Q _ => ∃ (pool it : Addr) (xs : List V), vs = [.ref pool, .ref it] ∧ PoolAt H pool ∧ (SqL K H it xs ∨ SqT K H it xs) ∧ (∀ H', Same H H' → SqL K H' it xs ∨ SqT K H' it xs) ∧ xs.length ≤ 1000 ∧
  ∀ l ys H', But pool H H' → PoolAt H' pool → H l = none → H' l = some (.lst ys) → ys.Perm xs → Q (.ref l) H'
theorem ok_shuffle (T : Tx K mg) (F : FnP K ("_law_shuffle", none) "_law_shuffle" "_law_shuffle" s__law_shuffle fd) : FnOk P w K mg base CX0 2 (He.fAd K ("_law_shuffle", none)) fd p__law_shuffle (spShuf K) := by
  refine F.ok (k := 1) sc__law_shuffle (fun vs H Q E h => ?_) (fun cdv A outer s H vs Q E hr h => ?_)
  · obtain ⟨_, _, _, rfl, _⟩ := h; rfl
  obtain ⟨pool, it, xs, rfl, hP, hq, hst, lx, q⟩ := h
  obtain ⟨f1, F1⟩ := T.F__law_take
  have nd := sc__law_shuffle.nd
  refine ⟨_, PSs.nox (pss_cons (ps_set (i := 2) nd rfl (.inl rfl) (pe_callTy call_list_of (by rfl) T.n_list (by decide +kernel) (pa_cons (pv 1) pa_nil)))
    (pss_cons (ps_set (i := 3) nd rfl (.inl rfl) (pe_lst pa_nil))
    (pss_cons (ps_for PassesOwn.never rfl (pi_range1 rfl T.n_range (pa_cons (pe_callB call_len_seq (by rfl) T.n_len PySem.boot_len (pa_cons (pv 1) pa_nil)) pa_nil)) (pg_name (i := 4) nd rfl (Or.inl rfl))
      (pss_one (ps_expr (pe_bm PySem.F.plainAttrs_list PySem.F.slot_list_append PySem.F.type_list_append mt_append (pv 3) (pa_cons (pe_bm PySem.F.plainAttrs_list PySem.F.slot_list_pop PySem.F.type_list_pop mt_popAt (pv 2) (pa_cons (pe_call (ok_take T F1) (hr.mono (by omega)) (by rfl) T.g_law_take T.k_law_take (b__law_take F1) .nil pass0 (pa_cons (pv 0) (pa_cons (pe_callB call_len_seq (by rfl) T.n_len PySem.boot_len (pa_cons (pv 2) pa_nil)) pa_nil))) pa_nil)) pa_nil)))))
    (pss_one (ps_ret (pv 3)))))), ?_⟩
  refine ⟨_, rfl, it, xs, rfl, hq, fun lf hlf => ?_⟩
  have s1 := same_new (o := .lst xs) hlf
  have hP1 := hP.same s1
  refine ⟨by show 0 ≤ sizeLine; decide, fun ou hou => ?_⟩
  have s2 := same_new (o := .lst []) hou
  have s12 := s1.trans s2
  have nfo : lf ≠ ou := fun e => by rw [← e, upd_same] at hou; cases hou
  have hlf2 := s2 _ _ (upd_same (H := H) (a := lf) (o := .lst xs))
  have nfp : lf ≠ pool := fun e => by obtain ⟨_, e2, _⟩ := hP; rw [← e, hlf] at e2; cases e2
  have hou0 : H ou = none := by
    cases e : H ou with
    | none => rfl
    | some u => rw [s1 _ _ e] at hou; cases hou
  have nop : ou ≠ pool := fun e => by obtain ⟨_, e2, _⟩ := hP; rw [← e, hou0] at e2; cases e2
  refine ⟨_, rfl, it, _, rfl, hst _ s12, _, rfl, by show -(2 ^ 62) ≤ ((xs.length : Nat) : Int); omega, by show ((xs.length : Nat) : Int) < 2 ^ 62; omega, ?_⟩
  refine for_it walk_range (fun j σ G => ∃ v4 ls os, σ = [some (.ref pool), some (.ref it), some (.ref lf), some (.ref ou), v4] ∧ But pool H G ∧ PoolAt G pool ∧ G lf = some (.lst ls) ∧ G ou = some (.lst os) ∧ (os ++ ls).Perm xs ∧ ls.length + j = xs.length)
    ⟨_, xs, [], rfl, but_of s12, hP1.same s2, hlf2, upd_same, List.Perm.refl _, by omega⟩ (fun _ _ _ _ _ => trivial) ?_ ?_
  · rintro j y σ G G' hj ⟨v4, ls, os, rfl, bG, hPG, hl, ho, pm, len⟩ ⟨rfl, rfl⟩
    have lj : j < xs.length := by have z : j < ((xs.length : Nat) : Int).toNat := hj; omega
    have pos : 0 < ls.length := by omega
    have lo : os.length ≤ 1000 := by have := pm.length_eq; rw [List.length_append] at this; omega
    refine ⟨_, rfl, .inl ⟨rfl, _, SqL.of ho⟩, _, rfl, .inl ⟨rfl, _, SqL.of hl⟩, _, rfl, _, rfl, lf, _, rfl, .inl (SqL.of hl), pool, _, rfl, hPG, (by omega), fun z G2 z0 z1 b2 hP2 => ?_⟩
    obtain ⟨k, rfl⟩ := Int.eq_ofNat_of_zero_le z0
    have hk : k < ls.length := by omega
    have hl2 := b2 _ _ nfp hl
    have ho2 := b2 _ _ nop ho
    have hy := List.getElem?_eq_getElem hk
    refine ⟨lf, ls, _, k, _, rfl, rfl, hl2, by omega, by omega, seqIx hk, hy, ou, os, _, rfl, rfl, by rw [upd_ne nfo.symm]; exact ho2, small1000 lo, ?_⟩
    refine ⟨_, ls.eraseIdx k, os ++ [ls[k]], rfl, ?_, ?_, ?_, upd_same, ?_, ?_⟩
    · intro c o n e
      have n1 : c ≠ lf := ne_of_none e hlf
      have n2 : c ≠ ou := ne_of_none e hou0
      rw [upd_ne n2, upd_ne n1]; exact b2 _ _ n (bG _ _ n e)
    · exact (hP2.upd nfp.symm).upd nop.symm
    · rw [upd_ne nfo, upd_same]
    · rw [List.append_assoc]
      exact ((erase_perm ls k _ hy).append_left os).trans pm
    · rw [List.length_eraseIdx_of_lt hk]; omega
  · rintro σ G ⟨v4, ls, os, rfl, bG, hPG, hl, ho, pm, len⟩
    have l0 : ls = [] := List.eq_nil_of_length_eq_zero (by have z : ls.length + ((xs.length : Nat) : Int).toNat = xs.length := len; omega)
    rw [l0, List.append_nil] at pm
    exact ⟨_, rfl, q ou os G bG hPG hou0 ho pm⟩
end
end Bg
set_option Elab.async false
set_option linter.all false
set_option maxRecDepth 100000
set_option maxHeartbeats 4000000
/-! lists of texts, of numbers: shaped; as data -/
namespace Bg
open PySem PySem.Spec PyProof.Rows L2
theorem strs_lay : ∀ {xs : List Str}, (∀ x ∈ xs, PyData.strOk x = true) → PyData.canLayAll0 (xs.map PyData.str) = true ∧ PyData.depthAll (xs.map PyData.str) ≤ 1
  | [], _ => ⟨rfl, by simp [PyData.depthAll]⟩
  | x :: xs, h => by
    obtain ⟨c, d⟩ := strs_lay (xs := xs) fun q hq => h q (List.mem_cons_of_mem _ hq)
    simp only [List.map_cons, PyData.canLayAll0, PyData.depthAll, PyData.canLay0, PyData.depth, h x (List.mem_cons_self ..), c]
    exact ⟨rfl, by omega⟩
theorem strs_shaped {xs : List Str} (h : ∀ x ∈ xs, nameB x = true) : SeqAt.shaped (.list (xs.map PyData.str)) = true := by
  obtain ⟨a, b⟩ := strs_lay fun x hx => strOk_of (h x hx)
  unfold SeqAt.shaped
  rw [Bool.and_eq_true]
  exact ⟨by rw [PyData.canLay0]; exact a, decide_eq_true (by rw [PyData.depth]; omega)⟩
theorem ints_lay : ∀ (xs : List Int), PyData.canLayAll0 (xs.map PyData.int) = true ∧ PyData.depthAll (xs.map PyData.int) ≤ 1
  | [] => ⟨rfl, by simp [PyData.depthAll]⟩
  | x :: xs => by
    obtain ⟨c, d⟩ := ints_lay xs
    simp only [List.map_cons, PyData.canLayAll0, PyData.depthAll, PyData.canLay0, PyData.depth, c]
    exact ⟨rfl, by omega⟩
theorem ints_shaped (xs : List Int) : SeqAt.shaped (.list (xs.map PyData.int)) = true := by
  obtain ⟨a, b⟩ := ints_lay xs
  unfold SeqAt.shaped
  rw [Bool.and_eq_true]
  exact ⟨by rw [PyData.canLay0]; exact a, decide_eq_true (by rw [PyData.depth]; omega)⟩
theorem dp_strs {K : PySem.W.Frag} {H : Hp} : ∀ (xs : List Str), DpAll K H (xs.map V.str) (xs.map PyData.str)
  | [] => .nil
  | x :: xs => .cons (.str x) (dp_strs xs)
theorem dp_ints {K : PySem.W.Frag} {H : Hp} : ∀ (xs : List Int), DpAll K H (xs.map V.int) (xs.map PyData.int)
  | [] => .nil
  | x :: xs => .cons (.int x) (dp_ints xs)
end Bg
set_option Elab.async false
set_option linter.all false
set_option maxRecDepth 100000
set_option maxHeartbeats 4000000
/-! the law's drawn body -/
namespace Bg
open PySem PySem.Spec PyProof.Rows L2
def HeadAt (H : Hp) (v : V) (h : Head) : Prop := ∃ a, v = .ref a ∧ H a = some (.tup [.str h.1, .str h.2.1, .str h.2.2])
def HeadsAt (H : Hp) (a : Addr) (hs : List Head) : Prop := ∃ us, H a = some (.lst us) ∧ All2 (HeadAt H) us hs
theorem all2_erase {α β : Type} {R : α → β → Prop} {xs : List α} {ys : List β} (h : All2 R xs ys) (k : Nat) : All2 R (xs.eraseIdx k) (ys.eraseIdx k) := by
  refine ⟨by rw [List.length_eraseIdx, List.length_eraseIdx, h.1], fun i a b ha hb => ?_⟩
  rw [List.getElem?_eraseIdx] at ha hb
  by_cases hi : i < k
  · rw [if_pos hi] at ha hb; exact h.2 i a b ha hb
  · rw [if_neg hi] at ha hb; exact h.2 (i + 1) a b ha hb
/-- steps so far, parts that are left -/
structure Mid (hs : List Head) (r : Row) (as : List Str) (ps lf : List Part) (sl : List Step) : Prop where
  sub : ∀ q ∈ lf, q ∈ ps
  nd : (lf.map (·.1)).Nodup
  flat : ∀ s ∈ sl, isBr s = false
  ok : bodyB r as sl = true
  odd : OddOk sl
  calls : callsB hs r sl
  new : ∀ q ∈ lf, q.1 ∉ as ++ sl.flatMap asksOf
theorem Mid.nil {hs : List Head} {r : Row} {as : List Str} {ps : List Part} (nd : (ps.map (·.1)).Nodup) (new : ∀ q ∈ ps, q.1 ∉ as) : Mid hs r as ps ps [] where
  sub := fun _ h => h
  nd := nd
  flat := fun s h => absurd h (by simp)
  ok := by rw [bodyB]
  odd := by rw [OddOk]; trivial
  calls := by rw [callsB]; trivial
  new := fun q hq => by simpa using new q hq
/-- a part is taken, its step is put or not -/
theorem Mid.drop {hs : List Head} {r : Row} {as : List Str} {ps lf : List Part} {sl : List Step} (m : Mid hs r as ps lf sl) (k : Nat) : Mid hs r as ps (lf.eraseIdx k) sl :=
  ⟨fun q hq => m.sub q (List.mem_of_mem_eraseIdx hq), (m.nd.sublist ((List.eraseIdx_sublist ..).map _)), m.flat, m.ok, m.odd, m.calls, fun q hq => m.new q (List.mem_of_mem_eraseIdx hq)⟩
theorem Mid.put {hs : List Head} {r : Row} {as : List Str} {ps lf : List Part} {sl : List Step} (m : Mid hs r as ps lf sl) {s : Step} (hb : isBr s = false) (ho : OddOkS s) (hc : callsS hs r s) (ok : stepB r (as ++ sl.flatMap asksOf) s = true) (new : ∀ q ∈ lf, q.1 ∉ asksOf s) : Mid hs r as ps lf (sl ++ [s]) where
  sub := m.sub
  nd := m.nd
  flat := fun x hx => by
    rcases List.mem_append.mp hx with z | z
    · exact m.flat x z
    · rw [List.mem_singleton.mp z]; exact hb
  ok := by
    rw [bodyB_app m.flat, m.ok, Bool.true_and, bodyB, hb, ok, bodyB]; rfl
  odd := oddOk_app m.odd (by rw [OddOk, OddOk]; exact ⟨ho, trivial⟩)
  calls := callsB_app m.calls (by rw [callsB, callsB]; exact ⟨hc, trivial⟩)
  new := fun q hq => by
    rw [List.flatMap_append, ← List.append_assoc]
    intro z
    rcases List.mem_append.mp z with y | y
    · exact m.new q hq y
    · exact new q hq (by simpa using y)
theorem tdAll_steps {H : Hp} : ∀ {vs : List V} {b : List Step}, All2 (fun v s => Td H v (stepD s)) vs b → TdAll H vs (bodyDs b)
  | [], [], _ => by rw [bodyDs]; exact .nil
  | [], _ :: _, h => by have := h.1; simp at this
  | _ :: _, [], h => by have := h.1; simp at this
  | v :: vs, s :: b, h => by
    rw [bodyDs]
    exact .cons (h.2 0 v s rfl rfl) (tdAll_steps ⟨by have := h.1; simpa using this, fun i x y ha hb => h.2 (i + 1) x y (by simpa using ha) (by simpa using hb)⟩)
theorem PartAt.kindb {H : Hp} {v : V} {p : Part} (h : PartAt H v p) : ∃ pe pxs, v = .ref pe ∧ H pe = some (.tup pxs) ∧ pxs[0]? = some (.str p.1) ∧ pxs[1]? = some (.str p.2.1) := partAt_ix h
/-- parts behind one that is asked, or without it -/
theorem rest_ok {hs : List Head} {r : Row} {as : List Str} {ps lf : List Part} {sl : List Step} (m : Mid hs r as ps lf sl) {j : Nat} {p : Part} (hp : lf[j]? = some p) {re : List Part} (h : re.Sublist (lf.eraseIdx j)) : (∀ q ∈ re, q ∈ ps ∧ q.1 ∉ as ++ sl.flatMap asksOf ++ [p.1]) ∧ (re.map (·.1)).Nodup ∧ re.length ≤ ps.length - 1 ∨ ps = [] := by
  left
  have hj := (List.getElem?_eq_some_iff.mp hp).1
  have sub := h.trans (List.eraseIdx_sublist ..)
  refine ⟨fun q hq => ⟨m.sub q (sub.subset hq), fun z => ?_⟩, m.nd.sublist (sub.map _), ?_⟩
  · rcases List.mem_append.mp z with y | y
    · exact m.new q (sub.subset hq) y
    · obtain ⟨j2, nj, hj2⟩ := List.mem_eraseIdx_iff_getElem?.mp (h.subset hq)
      refine nj ((List.getElem?_inj (l := lf.map (·.1)) (by rw [List.length_map]; exact (List.getElem?_eq_some_iff.mp hj2).1) m.nd).mp ?_)
      rw [List.getElem?_map, List.getElem?_map, hj2, hp]
      exact congrArg some (List.mem_singleton.mp y)
  · have := h.length_le
    have l1 : (lf.eraseIdx j).length + 1 = lf.length := by rw [List.length_eraseIdx, if_pos hj]; omega
    have l2 : lf.length ≤ ps.length := by
      have := nodup_sub_len (lf.map (·.1)) (ps.map (·.1)) m.nd fun x hx => by
        obtain ⟨q, hq, e⟩ := List.mem_map.mp hx
        exact e ▸ List.mem_map_of_mem (m.sub q hq)
      rw [List.length_map, List.length_map] at this; exact this
    omega
theorem HeadAt.mono {H H' : Hp} (t : Tups H H') {v : V} {h : Head} (g : HeadAt H v h) : HeadAt H' v h := by
  obtain ⟨a, e, x⟩ := g; exact ⟨a, e, t _ (.tup _) trivial x⟩
section
variable {P : Program} {w : World} {K : PySem.W.Frag} {mg : Str → Option Value} {base : Heap} {fd : FuncData}
def spLBody (n : Nat) : Sp := fun vs H Q _ => ∃ (pool hp lp : Addr) (cut : Int) (wild : Bool) (hs : List Head) (r : Row) (as : List Str) (ps : List Part) (us : List V), vs = [.ref pool, .ref hp, .ref lp, .int cut, .bl wild, .int (n : Nat)] ∧ PoolAt H pool ∧ hp ≠ pool ∧ lp ≠ pool ∧ HeadsAt H hp hs ∧ hs.length ≤ 100 ∧ (∀ h ∈ hs, nameB h.1 = true) ∧
  H lp = some (.lst us) ∧ All2 (PartAt H) us ps ∧ (∀ q ∈ ps, q ∈ r.2.2 ∧ q.1 ∉ as ∧ (holdOf q).1 = q.2.1) ∧ (ps.map (·.1)).Nodup ∧ (r.2.2.map (·.1)).Nodup ∧ ps.length ≤ 4 ∧ 1 ≤ cut ∧ cut ≤ 255 ∧ n ≤ 2 ∧
  ∀ v b H', But pool H H' → PoolAt H' pool → Td H' v (bodyD b) → bodyB r as b = true → b.length ≤ 9 → OddOk b → bdep b + 1 ≤ 2 ^ n → bwt b + 9 ≤ 9 * 2 ^ (n + 1) → callsB hs r b → Q v H'
/-- the level below, if there is one -/
def spLBLow : Nat → Sp
  | 0 => fun _ _ _ _ => False
  | n + 1 => spLBody n
theorem ok_lb (T : Tx K mg) {n m : Nat} (G : FnOk P w K mg base CX0 m (He.fAd K ("_law_body", none)) fd p__law_body (spLBLow n)) (hm : 2 ≤ m) (F : FnP K ("_law_body", none) "_law_body" "_law_body" s__law_body fd) : FnOk P w K mg base CX0 (m + 1) (He.fAd K ("_law_body", none)) fd p__law_body (spLBody n) := by
  refine F.ok (k := m) sc__law_body (fun vs H Q E h => ?_) (fun cdv A outer s H vs Q E hr h => ?_)
  · obtain ⟨_, _, _, _, _, _, _, _, _, _, rfl, _⟩ := h; rfl
  obtain ⟨pool, hp, lp, cut, wild, hs, r, as, ps, us, rfl, hP, nhp, nlp, ⟨uh, hhp, alh⟩, lhs, nmh, hlp, al, hps, ndp, ndr, l4, c1, c2, hn, q⟩ := h
  have hu := hu_of hr
  have lus : us.length = ps.length := al.1
  obtain ⟨f1, F1⟩ := T.F__law_take
  have nd := sc__law_body.nd
  refine ⟨_, PSs.nox (pss_cons (ps_set (i := 6) nd rfl (.inr rfl) (pe_callTy call_list_of (by rfl) T.n_list (by decide +kernel) (pa_cons (pv 2) pa_nil)))
    (pss_cons (ps_set (i := 7) nd rfl (.inl rfl) (pe_lst pa_nil))
    (pss_cons (ps_for PassesOwn.never rfl (pi_range1 rfl T.n_range (pa_cons (pe_op op_sub (pe_callB call_len_seq (by rfl) T.n_len PySem.boot_len (pa_cons (pv 6) pa_nil)) (pe_call (ok_take T F1) (hr.mono (by omega)) (by rfl) T.g_law_take T.k_law_take (b__law_take F1) .nil pass0 (pa_cons (pv 0) (pa_cons (pe_op op_add (pe_callB call_len_seq (by rfl) T.n_len PySem.boot_len (pa_cons (pv 6) pa_nil)) pe_int) pa_nil)))) pa_nil)) (pg_name (i := 8) nd rfl (Or.inl rfl))
      (pss_cons (ps_set (i := 9) nd rfl (.inl rfl) pe_int)
      (pss_mid (ps_if (pt_val (pv 4))
        (pss_one (ps_set (i := 9) nd rfl (.inl rfl) (pe_call (ok_take T F1) (hr.mono (by omega)) (by rfl) T.g_law_take T.k_law_take (b__law_take F1) .nil pass0 (pa_cons (pv 0) (pa_cons (pe_callB call_len_seq (by rfl) T.n_len PySem.boot_len (pa_cons (pv 6) pa_nil)) pa_nil)))))
        pss_nil)
      (pss_cons (ps_set (i := 10) nd rfl (.inr rfl) (pe_bm PySem.F.plainAttrs_list PySem.F.slot_list_pop PySem.F.type_list_pop mt_popAt (pv 6) (pa_cons (pv 9) pa_nil)))
      (pss_cons (ps_setLc (i := 11) (own := [("_law_head", 17)]) (g := gName 17) (by rfl) nd rfl rfl (sw_true rfl rfl rfl (by decide +kernel)) (pi_list (pv 1)) (blkOk_by (N := ["_law_pool_here", "_law_heads", "_law_parts_here", "_law_cut", "_law_wild", "_law_nest", "_law_left", "_law_steps_here", "_law_turn", "_law_at", "_law_part", "_law_names", "_law_places", "_law_rest", "_law_bound", "_law_below", "_law_other", "_law_head"]) (sc := defScope s__law_body) (by decide +kernel)) (fun _ _ _ _ _ => (pg_name (i := 17) nd rfl (Or.inl rfl))) (fun _ _ _ _ _ => pts_one (pt_cmpR op_eq (pe_ix (r := rIxT K) ix_tup (pv 17) pe_int (fun _ _ => rfl)) (pe_ix (r := rIxT K) ix_tup (pv 10) pe_int (fun _ _ => rfl)) (nomark _))) (fun _ _ _ _ _ => (pe_ix (r := rIxT K) ix_tup (pv 17) pe_int (fun _ _ => rfl))))
      (pss_mid (ps_if (pt_cmpR op_ne (pe_call (ok_take T F1) (hr.mono (by omega)) (by rfl) T.g_law_take T.k_law_take (b__law_take F1) .nil pass0 (pa_cons (pv 0) (pa_cons pe_int pa_nil))) pe_int (nomark _))
        (pss_one (ps_if (pt_cmpR op_eq (pe_ix ix_tup (pv 10) pe_int (fun _ _ => rfl)) pe_str (nomark _))
          (pss_one (ps_expr (pe_bm PySem.F.plainAttrs_list PySem.F.slot_list_append PySem.F.type_list_append mt_append (pv 7) (pa_cons (pe_tup (pa_cons pe_str (pa_cons (pe_ix ix_tup (pv 10) pe_int (fun _ _ => rfl)) pa_nil))) pa_nil))))
          (pss_one (ps_if (pt_cmpR (op_neD hr.units) (pv 11) (pe_lst pa_nil) (nomark _))
            (pss_one (ps_expr (pe_bm PySem.F.plainAttrs_list PySem.F.slot_list_append PySem.F.type_list_append mt_append (pv 7) (pa_cons (pe_tup (pa_cons pe_str (pa_cons (pe_ix ix_list (pv 11) (pe_call (ok_take T F1) (hr.mono (by omega)) (by rfl) T.g_law_take T.k_law_take (b__law_take F1) .nil pass0 (pa_cons (pv 0) (pa_cons (pe_callB call_len_seq (by rfl) T.n_len PySem.boot_len (pa_cons (pv 11) pa_nil)) pa_nil))) (fun _ _ => rfl)) (pa_cons (pe_ix ix_tup (pv 10) pe_int (fun _ _ => rfl)) pa_nil)))) pa_nil))))
            pss_nil))))
        pss_nil)
      (pss_one (ps_if (pt_cmpR op_eq (pe_call (ok_take T F1) (hr.mono (by omega)) (by rfl) T.g_law_take T.k_law_take (b__law_take F1) .nil pass0 (pa_cons (pv 0) (pa_cons pe_int pa_nil))) pe_int (nomark _))
        (pss_one (ps_expr (pe_bm PySem.F.plainAttrs_list PySem.F.slot_list_append PySem.F.type_list_append mt_append (pv 7) (pa_cons (pe_tup (pa_cons pe_str (pa_cons (pe_call (ok_take T F1) (hr.mono (by omega)) (by rfl) T.g_law_take T.k_law_take (b__law_take F1) .nil pass0 (pa_cons (pv 0) (pa_cons (pe_ix ix_list (pe_lst (pa_cons pe_int (pa_cons pe_int pa_nil))) (pe_call (ok_take T F1) (hr.mono (by omega)) (by rfl) T.g_law_take T.k_law_take (b__law_take F1) .nil pass0 (pa_cons (pv 0) (pa_cons pe_int pa_nil))) (fun _ _ => rfl)) pa_nil))) pa_nil))) pa_nil))))
        pss_nil))))))))
    (pss_cons (ps_setLc (i := 12) (own := [("_law_at", 9)]) (g := gName 9) (by rfl) nd rfl rfl (sw_true rfl rfl rfl (by decide +kernel)) (pi_range1 rfl T.n_range (pa_cons (pe_callB call_len_seq (by rfl) T.n_len PySem.boot_len (pa_cons (pv 6) pa_nil)) pa_nil)) (blkOk_by (N := ["_law_pool_here", "_law_heads", "_law_parts_here", "_law_cut", "_law_wild", "_law_nest", "_law_left", "_law_steps_here", "_law_turn", "_law_at", "_law_part", "_law_names", "_law_places", "_law_rest", "_law_bound", "_law_below", "_law_other", "_law_head"]) (sc := defScope s__law_body) (by decide +kernel)) (fun _ _ _ _ _ => (pg_name (i := 9) nd rfl (Or.inl rfl))) (fun _ _ _ _ _ => pts_one (pt_cmpR op_eq (pe_ix (r := rIxT K) ix_tup (pe_ix (r := rIxL K) ix_list (pv 6) (pv 9) (fun _ _ => rfl)) pe_int (fun _ _ => rfl)) pe_str (nomark _))) (fun _ _ _ _ _ => (pv 9)))
    (pss_mid (ps_if (PW.pt (pw_and (pt_cmpR op_gt (pv 5) pe_int (nomark _)) (pw_and (pt_cmpR (op_neD hr.units) (pv 12) (pe_lst pa_nil) (nomark _)) (pw_and1 (pt_cmpR op_eq (pe_call (ok_take T F1) (hr.mono (by omega)) (by rfl) T.g_law_take T.k_law_take (b__law_take F1) .nil pass0 (pa_cons (pv 0) (pa_cons pe_int pa_nil))) pe_int (nomark _))))))
      (pss_cons (ps_set (i := 9) nd rfl (.inl rfl) (pe_ix ix_list (pv 12) (pe_call (ok_take T F1) (hr.mono (by omega)) (by rfl) T.g_law_take T.k_law_take (b__law_take F1) .nil pass0 (pa_cons (pv 0) (pa_cons (pe_callB call_len_seq (by rfl) T.n_len PySem.boot_len (pa_cons (pv 12) pa_nil)) pa_nil))) (fun _ _ => rfl)))
      (pss_cons (ps_set (i := 13) nd rfl (.inl rfl) (pe_slice sl_list (pv 6) (po_some (pe_op op_add (pv 9) pe_int)) po_none))
      (pss_mid (ps_if (pt_val (pv 4))
        (pss_one (ps_set (i := 13) nd rfl (.inl rfl) (pe_op op_cat (pe_slice sl_list (pv 6) po_none (po_some (pv 9))) (pe_slice sl_list (pv 6) (po_some (pe_op op_add (pv 9) pe_int)) po_none))))
        pss_nil)
      (pss_cons (ps_set (i := 14) nd rfl (.inl rfl) (pe_ix ix_list (pe_lst (pa_cons (pv 3) (pa_cons (pe_op op_add pe_int (pe_call (ok_take T F1) (hr.mono (by omega)) (by rfl) T.g_law_take T.k_law_take (b__law_take F1) .nil pass0 (pa_cons (pv 0) (pa_cons pe_int pa_nil)))) pa_nil))) (pe_call (ok_take T F1) (hr.mono (by omega)) (by rfl) T.g_law_take T.k_law_take (b__law_take F1) .nil pass0 (pa_cons (pv 0) (pa_cons pe_int pa_nil))) (fun _ _ => rfl)))
      (pss_cons (ps_set (i := 15) nd rfl (.inl rfl) (pe_call G (hr.mono (by omega)) (by rfl) T.g_law_body T.k_law_body (b__law_body F) .nil pass0 (pa_cons (pv 0) (pa_cons (pv 1) (pa_cons (pv 13) (pa_cons (pv 3) (pa_cons (pv 4) (pa_cons (pe_op op_sub (pv 5) pe_int) pa_nil))))))))
      (pss_cons (ps_set (i := 16) nd rfl (.inl rfl) (pe_call G (hr.mono (by omega)) (by rfl) T.g_law_body T.k_law_body (b__law_body F) .nil pass0 (pa_cons (pv 0) (pa_cons (pv 1) (pa_cons (pv 13) (pa_cons (pv 3) (pa_cons (pv 4) (pa_cons (pe_op op_sub (pv 5) pe_int) pa_nil))))))))
      (pss_one (ps_expr (pe_bm PySem.F.plainAttrs_list PySem.F.slot_list_append PySem.F.type_list_append mt_append (pv 7) (pa_cons (pe_tup (pa_cons pe_str (pa_cons (pe_ix ix_tup (pe_ix ix_list (pv 6) (pv 9) (fun _ _ => rfl)) pe_int (fun _ _ => rfl)) (pa_cons (pv 14) (pa_cons (pv 15) (pa_cons (pv 16) pa_nil)))))) pa_nil))))))))))
      pss_nil)
    (pss_one (ps_ret (pe_callTy call_tuple_of (by rfl) T.n_tuple (by decide +kernel) (pa_cons (pv 7) pa_nil))))))))), ?_⟩
  refine ⟨_, rfl, lp, us, rfl, .inl (SqL.of hlp), fun ll hll => ?_⟩
  have s1 := same_new (o := .lst us) hll
  refine ⟨by show 0 ≤ sizeLine; decide, fun st hst => ?_⟩
  have s2 := s1.trans (same_new (o := .lst []) hst)
  have hll2 := (same_new (o := .lst []) hst) _ _ (upd_same (H := H) (a := ll) (o := .lst us))
  have hst2 := upd_same (H := upd H ll (.lst us)) (a := st) (o := .lst [])
  have hP2 := hP.same s2
  have nll : ll ≠ pool := (hP.ne_new hll).symm
  have nst : st ≠ pool := ((hP.same s1).ne_new hst).symm
  have nls : ll ≠ st := ne_of_none upd_same hst
  refine ⟨_, rfl, ll, _, rfl, .inl (SqL.of hll2), _, rfl, _, rfl, ll, _, rfl, .inl (SqL.of hll2), _, _, rfl, rfl, pool, _, rfl, hP2, by omega, fun z G2 z0 z1 b2 hP3 => ⟨_, _, rfl, rfl, ?_⟩⟩
  have b02 : But pool H G2 := (but_of s2).trans b2
  refine ⟨_, rfl, by omega, by omega, for_it walk_range (fun i σ G5 => ∃ (lfu : List V) (lf : List Part) (sws : List V) (sl : List Step) (w8 w9 w10 w11 : Option V), σ = [some (.ref pool), some (.ref hp), some (.ref lp), some (.int cut), some (.bl wild), some (.int (n : Nat)), some (.ref ll), some (.ref st), w8, w9, w10, w11, none, none, none, none, none, none] ∧ But pool H G5 ∧ PoolAt G5 pool ∧
      G5 ll = some (.lst lfu) ∧ All2 (PartAt G5) lfu lf ∧ G5 st = some (.lst sws) ∧ All2 (fun v s => Td G5 v (stepD s)) sws sl ∧ Mid hs r as ps lf sl ∧ lf.length + i = ps.length ∧ sl.length ≤ 2 * i)
    ⟨us, ps, [], [], _, _, _, _, rfl, b02, hP3, b2 _ _ nll hll2, al.mono fun _ _ z => (z.mono (tups_of s2)).mono (but_tups b2 hP2.not), b2 _ _ nst hst2, All2.nil, Mid.nil ndp fun q hq => (hps q hq).2.1, rfl, by simp⟩ (fun _ _ _ _ _ => trivial) ?_ ?_⟩
  · rintro i z0 σ G5 G6 hi ⟨lfu, lf, sws, sl, w8, w9, w10, w11, rfl, bG, hPG, hl5, al5, hs5, as5, mid, len, lsl⟩ ⟨rfl, rfl⟩
    have li : i < (((us.length : Nat) : Int) - z).toNat := hi
    have pos : 0 < lf.length := by omega
    have lfl : lfu.length = lf.length := al5.1
    -- which one
    refine ⟨fun σ' G => ∃ (k : Nat), k < lf.length ∧ σ' = [some (.ref pool), some (.ref hp), some (.ref lp), some (.int cut), some (.bl wild), some (.int (n : Nat)), some (.ref ll), some (.ref st), some (.int (0 + (i : Int))), some (.int (k : Nat)), w10, w11, none, none, none, none, none, none] ∧ But pool G6 G ∧ PoolAt G pool, ?_, ?_⟩
    · refine ⟨_, rfl, _, rfl, ?_⟩
      cases wild with
      | false => exact iteF ⟨0, pos, rfl, fun _ _ _ e => e, hPG⟩
      | true =>
        refine iteT ⟨_, rfl, _, rfl, ll, _, rfl, .inl (SqL.of hl5), pool, _, rfl, hPG, by omega, fun y G7 y0 y1 b7 hP7 => ?_⟩
        obtain ⟨k, rfl⟩ := Int.eq_ofNat_of_zero_le y0
        exact ⟨k, by omega, rfl, b7, hP7⟩
    rintro σ' G ⟨k, hk, rfl, b6, hP6⟩
    have hl6 := b6 _ _ nll hl5
    have hs6 := b6 _ _ nst hs5
    have t6 := but_tups b6 hPG.not
    have bG6 := bG.trans b6
    obtain ⟨y, hy⟩ : ∃ y, lfu[k]? = some y := ⟨_, List.getElem?_eq_getElem (by omega)⟩
    obtain ⟨p, hp', pat⟩ := al5.get hy
    have hpm := List.mem_of_getElem? hp'
    -- taken
    refine ⟨_, rfl, .inl ⟨rfl, _, SqL.of hl6⟩, _, rfl, ll, lfu, _, k, y, rfl, rfl, hl6, by omega, by omega, seqIx (by omega), hy, ?_⟩
    obtain ⟨pe, pxs, rfl, hpe, px0, px1⟩ := partAt_ix (pat.mono t6)
    have nll0 : H ll = none := hll
    have tP : Tups G (upd G ll (.lst (lfu.eraseIdx k))) := tups_upd fun u f zz => by rw [hl6] at zz; cases zz; exact f
    have bP : But pool H (upd G ll (.lst (lfu.eraseIdx k))) := fun c o nn e => by rw [upd_ne (ne_of_none e nll0)]; exact bG6 _ _ nn e
    have hPP : PoolAt (upd G ll (.lst (lfu.eraseIdx k))) pool := hP6.upd nll.symm
    have hlP := upd_same (H := G) (a := ll) (o := .lst (lfu.eraseIdx k))
    have hsP : (upd G ll (.lst (lfu.eraseIdx k))) st = some (.lst sws) := by rw [upd_ne nls.symm]; exact hs6
    have hpeP := tP _ (.tup _) trivial hpe
    generalize upd G ll (.lst (lfu.eraseIdx k)) = GP at tP bP hPP hlP hsP hpeP ⊢
    have hhpP := bP _ _ nhp hhp
    have alhP : All2 (HeadAt GP) uh hs := alh.mono fun _ _ z => z.mono (but_tups bP hP.not)
    -- the functions that take its kind
    refine ⟨_, rfl, hp, rfl, ⟨_, .inl (.inl hhpP)⟩, fun D hD => lc_it (walk_list (K := K) (a := hp) (xs := uh)) (fun j G8 => Same GP G8 ∧ G8 D = some (.lst ((((hs.take j).filter fun h => decide (h.2.1 = p.2.1)).map (·.1)).map V.str))) ⟨same_new hD, upd_same⟩ (fun j G8 _ z => .inl (.inl (z.1 _ _ hhpP))) ?_ ?_⟩
    · rintro j x G8 G9 hj ⟨s8, hacc⟩ ⟨rfl, hx⟩
      obtain ⟨h, hh, ha, rfl, hha⟩ := alhP.get hx
      have lz : ((((hs.take j).filter fun h => decide (h.2.1 = p.2.1)).map (·.1)).map V.str).length ≤ 1000 := by rw [List.length_map, List.length_map]; exact Nat.le_trans (take_filter_len _ _ _) (by omega)
      refine ⟨rfl, _, rfl, ha, _, _, _, rfl, rfl, SqT.of (s8 _ _ hha), atI_nat (j := 1) rfl, _, rfl, pe, _, _, _, rfl, rfl, SqT.of (s8 _ _ hpeP), atI_nat (j := 1) px1, rfl, _, rfl, ?_⟩
      rw [eqStr]
      cases hc : decide (h.2.1 = p.2.1) with
      | true =>
        refine iteT ⟨_, rfl, ha, _, _, _, rfl, rfl, SqT.of (s8 _ _ hha), atI_nat (j := 0) rfl, _, hacc, small1000 lz, same_mut s8 hD, ?_⟩
        rw [upd_same, take_filter hh, hc, List.map_append, List.map_append] <;> rfl
      | false =>
        refine iteF ⟨s8, ?_⟩
        rw [take_filter hh, hc, hacc]; simp
    rintro G8 ⟨s8, hnm⟩
    rw [alh.1, List.take_length] at hnm
    have bH8 : But pool H G8 := fun c o nn e => s8 _ _ (bP _ _ nn e)
    have hP8 := hPP.same s8
    have t68 : Tups G6 G8 := (t6.trans tP).trans (tups_of s8)
    have al8 : All2 (PartAt G8) (lfu.eraseIdx k) (lf.eraseIdx k) := all2_erase (al5.mono fun _ _ z => z.mono t68) k
    have as8 : All2 (fun v s => Td G8 v (stepD s)) sws sl := as5.mono fun _ _ z => z.mono t68
    have hl8 := s8 _ _ hlP
    have hs8 := s8 _ _ hsP
    have hpe8 := s8 _ _ hpeP
    have mid8 := mid.drop k
    have lel : (lf.eraseIdx k).length + 1 = lf.length := by rw [List.length_eraseIdx, if_pos hk]; omega
    -- what is asked, or not
    refine ⟨fun σ' G => ∃ (sws2 : List V) (sl2 : List Step), σ' = [some (.ref pool), some (.ref hp), some (.ref lp), some (.int cut), some (.bl wild), some (.int (n : Nat)), some (.ref ll), some (.ref st), some (.int (0 + (i : Int))), some (.int (k : Nat)), some (.ref pe), some (.ref D), none, none, none, none, none, none] ∧ But pool H G ∧ PoolAt G pool ∧ G ll = some (.lst (lfu.eraseIdx k)) ∧ All2 (PartAt G) (lfu.eraseIdx k) (lf.eraseIdx k) ∧ G st = some (.lst sws2) ∧ All2 (fun v s => Td G v (stepD s)) sws2 sl2 ∧ Mid hs r as ps (lf.eraseIdx k) sl2 ∧ sl2.length ≤ 2 * i + 1, ?_, ?_⟩
    · refine ⟨_, rfl, pool, 5, rfl, hP8, by decide, fun y GA y0 y1 bA hPA => ⟨rfl, _, rfl, ite2 (fun _ => ?_) (fun _ => ?_)⟩⟩
      rotate_left
      · have tA := but_tups bA hP8.not
        exact ⟨sws, sl, rfl, bH8.trans bA, hPA, bA _ _ nll hl8, al8.mono fun _ _ z => z.mono tA, bA _ _ nst hs8, as8.mono fun _ _ z => z.mono tA, mid8, by omega⟩
      have tA := but_tups bA hP8.not
      have hpeA := tA _ (.tup _) trivial hpe8
      have hsA := bA _ _ nst hs8
      have hlA := bA _ _ nll hl8
      have lsw : sws.length = sl.length := as8.1
      have nst0 : H st = none := none_sm s1 hst
      have hnmA : D ≠ pool → GA D = some (.lst (((hs.filter fun h => decide (h.2.1 = p.2.1)).map (·.1)).map V.str)) := fun nD => bA _ _ nD hnm
      have pps := mid.sub p hpm
      obtain ⟨pr, pas, phold⟩ := hps p pps
      have pnew := mid.new p hpm
      have perase : ∀ q ∈ lf.eraseIdx k, q.1 ≠ p.1 := fun q hq e => by
        obtain ⟨j2, nj, hj2⟩ := List.mem_eraseIdx_iff_getElem?.mp hq
        refine nj ((List.getElem?_inj (l := lf.map (·.1)) (by rw [List.length_map]; exact (List.getElem?_eq_some_iff.mp hj2).1) mid.nd).mp ?_)
        rw [List.getElem?_map, List.getElem?_map, hj2, hp']
        exact congrArg some e
      refine ⟨_, rfl, pe, _, _, _, rfl, rfl, SqT.of hpeA, atI_nat (j := 1) px1, rfl, _, rfl, ?_⟩
      by_cases hby : p.2.1 = ("byte" : Str)
      · refine iteTe (by rw [eqStr]; exact decide_eq_true hby) ?_
        refine ⟨_, rfl, .inl ⟨rfl, _, SqL.of hsA⟩, _, rfl, pe, _, _, _, rfl, rfl, SqT.of hpeA, atI_nat (j := 0) px0, by show 2 ≤ sizeLine; decide, fun tt htt => ?_⟩
        have sT := same_new (o := .tup [V.str "read", V.str p.1]) htt
        have hsC := sT _ _ hsA
        have tS := tups_upd (H := upd GA tt (.tup [V.str "read", V.str p.1])) (p := st) (o := .lst (sws ++ [V.ref tt])) fun uu f zz => by rw [hsC] at zz; cases zz; exact f
        have tAll := (tA.trans (tups_of sT)).trans tS
        have bAll : But pool H (upd (upd GA tt (.tup [V.str "read", V.str p.1])) st (.lst (sws ++ [V.ref tt]))) := fun c o nn e => by
          rw [upd_ne (ne_of_none e nst0)]; exact sT _ _ (bA _ _ nn (bH8 _ _ nn e))
        refine ⟨st, sws, _, rfl, rfl, hsC, small1000 (by omega), ?_⟩
        refine ⟨sws ++ [V.ref tt], sl ++ [Step.read p.1], rfl, bAll, (hPA.same sT).upd nst.symm, by rw [upd_ne nls]; exact sT _ _ hlA, al8.mono fun _ _ z => z.mono tAll, upd_same, ?_, ?_, by rw [List.length_append]; simp; omega⟩
        · exact (as8.mono fun _ _ z => z.mono tAll).snoc (by unfold stepD; exact .tup (tS _ (.tup _) trivial upd_same) (.cons (.str _) (.cons (.str _) .nil)))
        · refine mid8.put rfl trivial trivial ?_ (fun q hq z => perase q hq (by simpa [asksOf] using z))
          rw [stepB, Bool.and_eq_true]
          exact ⟨byteP_of pr (phold.trans hby), by rw [decide_eq_false pnew]; rfl⟩
      · refine iteFe (by rw [eqStr]; exact decide_eq_false hby) ?_
        have nD : D ≠ pool := fun e => (hPP.ne_new hD) e.symm
        have hnm2 := hnmA nD
        have nmall : ∀ x ∈ (hs.filter fun h => decide (h.2.1 = p.2.1)).map (·.1), ∃ h ∈ hs, h.1 = x ∧ h.2.1 = p.2.1 := fun x hx => by
          obtain ⟨h, hh, e⟩ := List.mem_map.mp hx
          obtain ⟨h1, h2⟩ := List.mem_filter.mp hh
          exact ⟨h, h1, e, of_decide_eq_true h2⟩
        have nmlen : ((hs.filter fun h => decide (h.2.1 = p.2.1)).map (·.1)).length ≤ 100 := by rw [List.length_map]; exact Nat.le_trans (List.length_filter_le _ _) lhs
        generalize (hs.filter fun h => decide (h.2.1 = p.2.1)).map (·.1) = nm at hnm2 nmall nmlen
        refine ⟨_, rfl, Nat.zero_le _, fun l0 hl0 => ?_⟩
        have s0 := same_new (o := .lst []) hl0
        refine ⟨.list (nm.map PyData.str), .list [], .lst (SqL.of (s0 _ _ hnm2)) (dp_strs nm), .lst (SqL.of upd_same) .nil, strs_shaped fun x hx => by obtain ⟨h, h1, e, _⟩ := nmall x hx; exact e ▸ nmh h h1, by decide +kernel, _, rfl, ?_⟩
        rw [eqv_nil, List.isEmpty_map]
        have tA0 := tA.trans (tups_of s0)
        have bA0 : But pool G8 (upd GA l0 (.lst [])) := bA.trans (but_of s0)
        cases hem : nm.isEmpty with
        | true => exact iteF ⟨sws, sl, rfl, bH8.trans bA0, hPA.same s0, bA0 _ _ nll hl8, al8.mono fun _ _ z => z.mono tA0, bA0 _ _ nst hs8, as8.mono fun _ _ z => z.mono tA0, mid8, by omega⟩
        | false =>
        have nmpos : 0 < nm.length := by cases nm with | nil => cases hem | cons a b => simp
        have hs0 := s0 _ _ hsA
        refine iteT ⟨_, rfl, .inl ⟨rfl, _, SqL.of hs0⟩, _, rfl, _, rfl, _, rfl, D, _, rfl, .inl (SqL.of (s0 _ _ hnm2)), pool, _, rfl, hPA.same s0, (by rw [List.length_map]; omega), fun u GB u0 u1 bB hPB => ?_⟩
        rw [List.length_map] at u1
        obtain ⟨c, rfl⟩ := Int.eq_ofNat_of_zero_le u0
        have hc : c < nm.length := by omega
        obtain ⟨fnm, hfn⟩ : ∃ x, nm[c]? = some x := ⟨_, List.getElem?_eq_getElem hc⟩
        obtain ⟨hd, hdm, hd1, hd2⟩ := nmall fnm (List.mem_of_getElem? hfn)
        have tB := but_tups bB (hPA.same s0).not
        have hpeB := tB _ (.tup _) trivial (s0 _ _ hpeA)
        have hsB := bB _ _ nst hs0
        refine ⟨D, _, _, _, rfl, rfl, SqL.of (bB _ _ nD (s0 _ _ hnm2)), atI_nat (by rw [List.getElem?_map, hfn]; rfl), _, rfl, pe, _, _, _, rfl, rfl, SqT.of hpeB, atI_nat (j := 0) px0, by show 3 ≤ sizeLine; decide, fun tt htt => ?_⟩
        have sT := same_new (o := .tup [V.str "call", V.str fnm, V.str p.1]) htt
        have hsC := sT _ _ hsB
        have tS := tups_upd (H := upd GB tt (.tup [V.str "call", V.str fnm, V.str p.1])) (p := st) (o := .lst (sws ++ [V.ref tt])) fun uu f zz => by rw [hsC] at zz; cases zz; exact f
        have tAll := ((tA0.trans tB).trans (tups_of sT)).trans tS
        have bAll : But pool H (upd (upd GB tt (.tup [V.str "call", V.str fnm, V.str p.1])) st (.lst (sws ++ [V.ref tt]))) := fun c o nn e => by
          rw [upd_ne (ne_of_none e nst0)]; exact sT _ _ (bB _ _ nn (bA0 _ _ nn (bH8 _ _ nn e)))
        refine ⟨st, sws, _, rfl, rfl, hsC, small1000 (by omega), ?_⟩
        refine ⟨sws ++ [V.ref tt], sl ++ [Step.call fnm p.1], rfl, bAll, (hPB.same sT).upd nst.symm, by rw [upd_ne nls]; exact sT _ _ (bB _ _ nll (s0 _ _ hlA)), al8.mono fun _ _ z => z.mono tAll, upd_same, ?_, ?_, by rw [List.length_append]; simp; omega⟩
        · exact (as8.mono fun _ _ z => z.mono tAll).snoc (by unfold stepD; exact .tup (tS _ (.tup _) trivial upd_same) (.cons (.str _) (.cons (.str _) (.cons (.str _) .nil))))
        · refine mid8.put rfl trivial ?_ ?_ (fun q hq z => perase q hq (by simpa [asksOf] using z))
          · rw [callsS]; exact ⟨p, pr, rfl, hd, hdm, hd1, hd2.trans phold.symm⟩
          · rw [stepB, Bool.and_eq_true]
            refine ⟨?_, by rw [decide_eq_false pnew]; rfl⟩
            rw [(askP ndr pr).2, phold, decide_eq_false hby]; rfl
    rintro σ' G9 ⟨sws2, sl2, rfl, b9, hP9, hl9, al9, hs9, as9, mid9, len9⟩
    refine ⟨_, rfl, pool, 4, rfl, hP9, by decide, fun y GA y0 y1 bA hPA => ⟨rfl, _, rfl, ite2 (fun _ => ?_) (fun _ => ?_)⟩⟩
    rotate_left
    · have tA := but_tups bA hP9.not
      exact ⟨_, _, _, _, _, _, _, _, rfl, b9.trans bA, hPA, bA _ _ nll hl9, al9.mono fun _ _ z => z.mono tA, bA _ _ nst hs9, as9.mono fun _ _ z => z.mono tA, mid9, by omega, by omega⟩
    have hsA := bA _ _ nst hs9
    refine ⟨_, rfl, .inl ⟨rfl, _, SqL.of hsA⟩, _, rfl, by show 2 ≤ sizeLine; decide, fun l0 hl0 => ?_⟩
    have sB := same_new (o := .lst [V.int 10, V.int 1001]) hl0
    have nl0 := (hPA.ne_new hl0).symm
    refine ⟨_, rfl, pool, 2, rfl, hPA.same sB, by decide, fun u GB u0 u1 bB hPB => ?_⟩
    obtain ⟨c, rfl⟩ := Int.eq_ofNat_of_zero_le u0
    obtain ⟨mx, emx, m0, m1⟩ : ∃ mx : Int, atI [V.int 10, V.int 1001] (c : Int) = some (.int mx) ∧ 0 < mx ∧ mx ≤ 1001 := by
      have : c = 0 ∨ c = 1 := by omega
      rcases this with rfl | rfl
      · exact ⟨10, atI_nat (j := 0) rfl, by decide, by decide⟩
      · exact ⟨1001, atI_nat (j := 1) rfl, by decide, by decide⟩
    refine ⟨l0, _, _, _, rfl, rfl, SqL.of (bB _ _ nl0 upd_same), emx, pool, mx, rfl, hPB, m0, fun n2 GC n0 n1 bC hPC => ⟨by show 2 ≤ sizeLine; decide, fun tt htt => ?_⟩⟩
    have tAC : Tups G9 GC := ((but_tups bA hP9.not).trans (tups_of sB)).trans ((but_tups bB (hPA.same sB).not).trans (but_tups bC hPB.not))
    have bAC : But pool G9 GC := bA.trans ((but_of sB).trans (bB.trans bC))
    have sT := same_new (o := .tup [V.str "say", V.int n2]) htt
    have hsC := sT _ _ (bAC _ _ nst hs9)
    have hlC := sT _ _ (bAC _ _ nll hl9)
    have lsw : sws2.length = sl2.length := as9.1
    have nst0 : H st = none := none_sm s1 hst
    have tS := tups_upd (H := upd GC tt (.tup [V.str "say", V.int n2])) (p := st) (o := .lst (sws2 ++ [V.ref tt])) fun uu f zz => by rw [hsC] at zz; cases zz; exact f
    have tAll := (tAC.trans (tups_of sT)).trans tS
    have bAll : But pool H (upd (upd GC tt (.tup [V.str "say", V.int n2])) st (.lst (sws2 ++ [V.ref tt]))) := fun c o nn e => by
      rw [upd_ne (ne_of_none e nst0)]; exact sT _ _ (bAC _ _ nn (b9 _ _ nn e))
    refine ⟨st, sws2, _, rfl, rfl, hsC, small1000 (by omega), ?_⟩
    refine ⟨lfu.eraseIdx k, lf.eraseIdx k, sws2 ++ [V.ref tt], sl2 ++ [Step.say n2], _, _, _, _, rfl, bAll, (hPC.same sT).upd nst.symm, by rw [upd_ne nls]; exact hlC, al9.mono fun _ _ z => z.mono tAll, upd_same, ?_, ?_, by omega, by rw [List.length_append]; simp; omega⟩
    · exact (as9.mono fun _ _ z => z.mono tAll).snoc (by unfold stepD; exact .tup (tS _ (.tup _) trivial upd_same) (.cons (.str _) (.cons (.int _) .nil)))
    · exact mid9.put rfl trivial trivial (by rw [stepB, Bool.and_eq_true]; exact ⟨decide_eq_true n0, decide_eq_true (by omega)⟩) (fun q _ z => by cases z)
  · rintro σ GE ⟨lfu, lf, sws, sl, w8, w9, w10, w11, rfl, bG, hPG, hlG, alG, hsG, asG, mid, len, lsl⟩
    have lfl : lfu.length = lf.length := alG.1
    obtain ⟨fb1, fb2⟩ := flat_bdep mid.flat
    have l8 : sl.length ≤ 8 := by omega
    have nst0 : H st = none := none_sm s1 hst
    -- the places
    refine ⟨_, rfl, ll, _, rfl, .inl (SqL.of hlG), _, rfl, by omega, by omega, fun D hD => lc_it walk_range (fun i G2 => Same GE G2 ∧ ∃ js : List Nat, G2 D = some (.lst ((js.map fun (j : Nat) => (0 + (j : Int))).map V.int)) ∧ js.length ≤ i ∧ ∀ j ∈ js, ∃ p, lf[j]? = some p ∧ p.2.1 = ("byte" : Str)) ⟨same_new hD, [], upd_same, Nat.le_refl _, fun j hj => absurd hj List.not_mem_nil⟩ (fun _ _ _ _ => trivial) ?_ ?_⟩
    · rintro i x G2 G3 hi ⟨s2, js, hjs, ljs, ajs⟩ ⟨rfl, rfl⟩
      have hi2 : i < lfu.length := by have : i < (((lfu.length : Nat) : Int)).toNat := hi; omega
      obtain ⟨y, hy⟩ : ∃ y, lfu[i]? = some y := ⟨_, List.getElem?_eq_getElem hi2⟩
      obtain ⟨p, hp, pat⟩ := alG.get hy
      obtain ⟨pe, pxs, rfl, hpe, px0, px1⟩ := partAt_ix (pat.mono (tups_of s2))
      refine ⟨rfl, _, rfl, _, rfl, ll, _, _, _, rfl, rfl, SqL.of (s2 _ _ hlG), at_nat (j := i) (by omega) hy, pe, _, _, _, rfl, rfl, SqT.of hpe, atI_nat (j := 1) px1, rfl, _, rfl, ?_⟩
      rw [eqStr]
      by_cases hby : p.2.1 = ("byte" : Str)
      · refine iteTe (decide_eq_true hby) ⟨_, rfl, _, hjs, small1000 (by rw [List.length_map, List.length_map]; omega), same_mut s2 hD, js ++ [i], ?_, by rw [List.length_append]; simp; omega, fun j hj => ?_⟩
        · rw [upd_same, List.map_append, List.map_append] <;> rfl
        · rcases List.mem_append.mp hj with z | z
          · exact ajs j z
          · rw [List.mem_singleton.mp z]; exact ⟨p, hp, hby⟩
      · exact iteFe (decide_eq_false hby) ⟨s2, js, hjs, by omega, ajs⟩
    rintro G2 ⟨s2, js, hjs, ljs, ajs⟩
    have ljs4 : js.length ≤ 4 := by have : js.length ≤ (((lfu.length : Nat) : Int)).toNat := ljs; omega
    have hP2 := hPG.same s2
    have nD : D ≠ pool := (hPG.ne_new hD).symm
    have hl2 := s2 _ _ hlG
    have hs2 := s2 _ _ hsG
    have p2 := Nat.one_le_two_pow (n := n)
    have p2s : 2 ^ (n + 1) = 2 ^ n * 2 := Nat.pow_succ ..
    refine ⟨fun σ' GE' => ∃ (sws2 : List V) (b : List Step) (v9 v13 v14 v15 v16 : Option V), σ' = [some (.ref pool), some (.ref hp), some (.ref lp), some (.int cut), some (.bl wild), some (.int (n : Nat)), some (.ref ll), some (.ref st), w8, v9, w10, w11, some (.ref D), v13, v14, v15, v16, none] ∧ But pool H GE' ∧ PoolAt GE' pool ∧ GE' st = some (.lst sws2) ∧ All2 (fun v s => Td GE' v (stepD s)) sws2 b ∧ bodyB r as b = true ∧ b.length ≤ 9 ∧ OddOk b ∧ bdep b + 1 ≤ 2 ^ n ∧ bwt b + 9 ≤ 9 * 2 ^ (n + 1) ∧ callsB hs r b, ?_, ?_⟩
    rotate_left
    · rintro σ' GE' ⟨sws2, b, v9, v13, v14, v15, v16, rfl, b', hP', hst', ast', e1, e2, e3, e4, e5, e6⟩
      refine ⟨_, rfl, st, sws2, rfl, .inl ⟨SqL.of hst', fun l hl => ?_⟩⟩
      have s' := same_new (o := .tup sws2) hl
      exact q _ b _ (b'.trans (but_of s')) (hP'.same s') (.tup upd_same (tdAll_steps (ast'.mono fun _ _ z => z.mono (tups_of s')))) e1 e2 e3 e4 e5 e6
    have skip : ∀ (GE' : Hp), But pool G2 GE' → PoolAt GE' pool → ∃ (sws2 : List V) (b : List Step) (v9 v13 v14 v15 v16 : Option V), ([some (.ref pool), some (.ref hp), some (.ref lp), some (.int cut), some (.bl wild), some (.int (n : Nat)), some (.ref ll), some (.ref st), w8, w9, w10, w11, some (.ref D), none, none, none, none, none] : L2.St) = [some (.ref pool), some (.ref hp), some (.ref lp), some (.int cut), some (.bl wild), some (.int (n : Nat)), some (.ref ll), some (.ref st), w8, v9, w10, w11, some (.ref D), v13, v14, v15, v16, none] ∧ But pool H GE' ∧ PoolAt GE' pool ∧ GE' st = some (.lst sws2) ∧ All2 (fun v s => Td GE' v (stepD s)) sws2 b ∧ bodyB r as b = true ∧ b.length ≤ 9 ∧ OddOk b ∧ bdep b + 1 ≤ 2 ^ n ∧ bwt b + 9 ≤ 9 * 2 ^ (n + 1) ∧ callsB hs r b := fun GE' b' hP' =>
      ⟨sws, sl, _, _, _, _, _, rfl, bG.trans ((but_of s2).trans b'), hP', b' _ _ nst hs2, asG.mono fun _ _ z => (z.mono (tups_of s2)).mono (but_tups b' hP2.not), mid.ok, by omega, mid.odd, by omega, by omega, mid.calls⟩
    refine ⟨_, rfl, _, _, rfl, rfl, _, rfl, ?_⟩
    cases n with
    | zero => exact iteFe (by decide) (skip _ (But.refl _ _) hP2)
    | succ n =>
    refine iteTe (decide_eq_true (by omega)) ?_
    refine ⟨_, rfl, Nat.zero_le _, fun l0 hl0 => ?_⟩
    have s0 := same_new (o := .lst []) hl0
    refine ⟨.list ((js.map fun (j : Nat) => (0 + (j : Int))).map PyData.int), .list [], .lst (SqL.of (s0 _ _ hjs)) (dp_ints _), .lst (SqL.of upd_same) .nil, ints_shaped _, by decide +kernel, _, rfl, ?_⟩
    rw [eqv_nil, List.isEmpty_map, List.isEmpty_map]
    cases hem : js.isEmpty with
    | true => exact iteF (skip _ (but_of s0) (hP2.same s0))
    | false =>
    have jpos : 0 < js.length := by cases js with | nil => cases hem | cons a b => simp
    refine iteT ⟨_, rfl, pool, 2, rfl, hP2.same s0, by decide, fun z0 G3 z00 z01 b3 hP3 => ⟨rfl, _, rfl, ite2 (fun _ => ?_) (fun _ => skip _ ((but_of s0).trans b3) hP3)⟩⟩
    have b23 : But pool G2 G3 := (but_of s0).trans b3
    have hD3 := b23 _ _ nD hjs
    refine ⟨_, rfl, _, rfl, _, rfl, D, _, rfl, .inl (SqL.of hD3), pool, _, rfl, hP3, (by rw [List.length_map, List.length_map]; omega), fun y G4 y0 y1 b4 hP4 => ?_⟩
    rw [List.length_map, List.length_map] at y1
    obtain ⟨c, rfl⟩ := Int.eq_ofNat_of_zero_le y0
    obtain ⟨j, hj⟩ : ∃ x, js[c]? = some x := ⟨_, List.getElem?_eq_getElem (by omega)⟩
    obtain ⟨p, hp', hby⟩ := ajs j (List.mem_of_getElem? hj)
    have hjl := (List.getElem?_eq_some_iff.mp hp').1
    have b24 := b23.trans b4
    have hl4 := b24 _ _ nll hl2
    refine ⟨D, _, _, _, rfl, rfl, SqL.of (b4 _ _ nD hD3), atI_nat (by rw [List.getElem?_map, List.getElem?_map, hj]; rfl), ?_⟩
    -- what is left to ask
    refine ⟨_, rfl, _, rfl, _, _, rfl, rfl, _, rfl, ll, _, rfl, SqL.of hl4, fun re hre => ?_⟩
    rw [show cutV lfu (some (0 + (j : Int) + 1)) none = lfu.drop (j + 1) by rw [show (0 + (j : Int) + 1 : Int) = ((j + 1 : Nat) : Int) by omega, cutV_drop]] at *
    have hP0 : H pool ≠ none := by obtain ⟨_, e, _⟩ := hP; rw [e]; exact fun z => nomatch z
    have t4 : Tups GE G4 := (tups_of s2).trans (but_tups b24 hP2.not)
    have al4 : All2 (PartAt G4) lfu lf := alG.mono fun _ _ z => z.mono t4
    have ece : lf.eraseIdx j = lf.take j ++ lf.drop (j + 1) := List.eraseIdx_eq_take_drop_succ ..
    have dr : ∀ k, All2 (PartAt G4) (lfu.drop k) (lf.drop k) := fun k => ⟨by rw [List.length_drop, List.length_drop, lfl], fun i a b ha hb => al4.2 (k + i) a b (by rw [← List.getElem?_drop]; exact ha) (by rw [← List.getElem?_drop]; exact hb)⟩
    have tk : All2 (PartAt G4) (lfu.take j) (lf.take j) := ⟨by rw [List.length_take, List.length_take, lfl], fun i a b ha hb => by
      rw [List.getElem?_take] at ha hb
      by_cases h : i < j
      · rw [if_pos h] at ha hb; exact al4.2 i a b ha hb
      · rw [if_neg h] at ha; cases ha⟩
    refine ⟨fun σ' GE' => ∃ (ra : Addr) (rv : List V) (rl : List Part), σ' = [some (.ref pool), some (.ref hp), some (.ref lp), some (.int cut), some (.bl wild), some (.int ((n + 1 : Nat) : Int)), some (.ref ll), some (.ref st), w8, some (.int (0 + (j : Int))), w10, w11, some (.ref D), some (.ref ra), none, none, none, none] ∧ Same G4 GE' ∧ G4 ra = none ∧ GE' ra = some (.lst rv) ∧ All2 (PartAt GE') rv rl ∧ rl.Sublist (lf.eraseIdx j), ?_, ?_⟩
    · have s5 := same_new (o := .lst (lfu.drop (j + 1))) hre
      refine ⟨_, rfl, _, rfl, ?_⟩
      cases wild with
      | false => exact iteF ⟨re, _, lf.drop (j + 1), rfl, s5, hre, upd_same, (dr _).mono fun _ _ z => z.mono (tups_of s5), by rw [ece]; exact List.sublist_append_right ..⟩
      | true =>
        refine iteT ⟨_, rfl, _, rfl, _, rfl, ll, _, rfl, SqL.of (s5 _ _ hl4), fun a1 h1 => ?_⟩
        have s6 := same_new (o := .lst (cutV lfu none (some (0 + (j : Int))))) h1
        refine ⟨_, rfl, _, rfl, _, _, rfl, rfl, _, rfl, ll, _, rfl, SqL.of (s6 _ _ (s5 _ _ hl4)), fun a2 h2 => ?_⟩
        have s7 := same_new (o := .lst (cutV lfu (some (0 + (j : Int) + 1)) none)) h2
        have e1 : cutV lfu none (some (0 + (j : Int))) = lfu.take j := by rw [show (0 + (j : Int) : Int) = ((j : Nat) : Int) by omega, cutV_take]
        have e2 : cutV lfu (some (0 + (j : Int) + 1)) none = lfu.drop (j + 1) := by rw [show (0 + (j : Int) + 1 : Int) = ((j + 1 : Nat) : Int) by omega, cutV_drop]
        have x1 := s7 _ _ (upd_same (H := upd G4 re (.lst (lfu.drop (j + 1)))) (a := a1) (o := .lst (cutV lfu none (some (0 + (j : Int))))))
        have s57 := s5.trans (s6.trans s7)
        refine ⟨a1, a2, _, _, rfl, rfl, x1, upd_same, Nat.le_of_lt (small1000 (by rw [e1, e2, List.length_take, List.length_drop]; omega)), fun ra hra => ?_⟩
        have s8 := same_new (o := .lst (cutV lfu none (some (0 + (j : Int))) ++ cutV lfu (some (0 + (j : Int) + 1)) none)) hra
        have s58 := s57.trans s8
        refine ⟨ra, _, lf.take j ++ lf.drop (j + 1), rfl, s58, none_sm s57 hra, upd_same, ?_, by rw [ece]; exact List.Sublist.refl _⟩
        rw [e1, e2]
        have q1 := (tk.app (dr (j + 1))).mono fun _ _ (z : PartAt G4 _ _) => z.mono (tups_of s58)
        rw [e1, e2] at q1
        exact q1
    rintro σ' G5 ⟨ra, rv, rl, rfl, s5, nra4, hra, alr, subr⟩
    have nra : ra ≠ pool := (hP4.ne_new nra4).symm
    have hP5 := hP4.same s5
    -- the bound
    refine ⟨_, rfl, _, rfl, pool, 255, rfl, hP5, by decide, fun z1 G6 z10 z11 b6 hP6 => ⟨_, _, rfl, rfl, by show 2 ≤ sizeLine; decide, fun l1 hl1 => ?_⟩⟩
    have s7 := same_new (o := .lst [V.int cut, V.int (1 + z1)]) hl1
    refine ⟨_, rfl, pool, 2, rfl, hP6.same s7, by decide, fun u G8 u0 u1 b8 hP8 => ?_⟩
    obtain ⟨cu, rfl⟩ := Int.eq_ofNat_of_zero_le u0
    obtain ⟨c2', ec, cb1, cb2⟩ : ∃ c : Int, atI [V.int cut, V.int (1 + z1)] (cu : Int) = some (.int c) ∧ 1 ≤ c ∧ c ≤ 255 := by
      have : cu = 0 ∨ cu = 1 := by omega
      rcases this with rfl | rfl
      · exact ⟨cut, atI_nat (j := 0) rfl, c1, c2⟩
      · exact ⟨1 + z1, atI_nat (j := 1) rfl, by omega, by omega⟩
    refine ⟨l1, _, _, _, rfl, rfl, SqL.of (b8 _ _ (hP6.ne_new hl1).symm upd_same), ec, ?_⟩
    have b58 : But pool G5 G8 := b6.trans ((but_of s7).trans b8)
    have bG8 : But pool GE G8 := (but_of s2).trans (b24.trans ((but_of s5).trans b58))
    have bH8 : But pool H G8 := bG.trans bG8
    have t58 := but_tups b58 hP5.not
    have rok : (∀ q ∈ rl, q ∈ ps ∧ q.1 ∉ as ++ sl.flatMap asksOf ++ [p.1]) ∧ (rl.map (·.1)).Nodup ∧ rl.length ≤ 4 := by
      rcases rest_ok mid hp' subr with ⟨q1, q2, q3⟩ | e
      · exact ⟨q1, q2, by omega⟩
      · have := mid.sub p (List.mem_of_getElem? hp'); rw [e] at this; cases this
    obtain ⟨ro1, ro2, ro3⟩ := rok
    have eint : ∀ (x : V), [V.ref pool, V.ref hp, V.ref ra, V.int cut, V.bl wild, V.int (((n + 1 : Nat) : Int) - 1)] = [V.ref pool, V.ref hp, V.ref ra, V.int cut, V.bl wild, V.int ((n : Nat) : Int)] := fun _ => by rw [show (((n + 1 : Nat) : Int) - 1) = ((n : Nat) : Int) by omega]
    refine ⟨_, rfl, _, rfl, _, rfl, _, rfl, _, rfl, _, rfl, _, _, rfl, rfl, ?_⟩
    refine ⟨pool, hp, ra, cut, wild, hs, r, as ++ sl.flatMap asksOf ++ [p.1], rl, rv, eint .non, hP8, nhp, nra, ⟨uh, bH8 _ _ nhp hhp, alh.mono fun _ _ z => z.mono (but_tups bH8 hP.not)⟩, lhs, nmh, b58 _ _ nra hra, alr.mono fun _ _ z => z.mono t58, fun q hq => ⟨(hps q (ro1 q hq).1).1, (ro1 q hq).2, (hps q (ro1 q hq).1).2.2⟩, ro2, ndr, ro3, c1, c2, by omega, ?_⟩
    intro v1 bb1 G9 b9 hP9 td1 ob1 lb1 od1 dp1 wt1 ca1
    have b59 : But pool G5 G9 := b58.trans b9
    have bH9 : But pool H G9 := bH8.trans b9
    refine ⟨_, rfl, _, rfl, _, rfl, _, rfl, _, rfl, _, rfl, _, _, rfl, rfl, ?_⟩
    refine ⟨pool, hp, ra, cut, wild, hs, r, as ++ sl.flatMap asksOf ++ [p.1], rl, rv, eint .non, hP9, nhp, nra, ⟨uh, bH9 _ _ nhp hhp, alh.mono fun _ _ z => z.mono (but_tups bH9 hP.not)⟩, lhs, nmh, b59 _ _ nra hra, alr.mono fun _ _ z => z.mono (but_tups b59 hP5.not), fun q hq => ⟨(hps q (ro1 q hq).1).1, (ro1 q hq).2, (hps q (ro1 q hq).1).2.2⟩, ro2, ndr, ro3, c1, c2, by omega, ?_⟩
    intro v2 bb2 GA bA hPA td2 ob2 lb2 od2 dp2 wt2 ca2
    have bGA : But pool GE GA := bG8.trans (b9.trans bA)
    have hlA := bGA _ _ nll hlG
    have hsA := bGA _ _ nst hsG
    have tGA := but_tups bGA hPG.not
    obtain ⟨y5, hy5⟩ : ∃ y, lfu[j]? = some y := ⟨_, List.getElem?_eq_getElem (by omega)⟩
    obtain ⟨p5, hp5, pat5⟩ := alG.get hy5
    rw [hp'] at hp5
    cases hp5
    obtain ⟨pe, pxs, rfl, hpe, px0, px1⟩ := partAt_ix (pat5.mono tGA)
    refine ⟨_, rfl, .inl ⟨rfl, _, SqL.of hsA⟩, _, rfl, _, rfl, ll, _, _, _, rfl, rfl, SqL.of hlA, at_nat (j := j) (by omega) hy5, pe, _, _, _, rfl, rfl, SqT.of hpe, atI_nat (j := 0) px0, _, rfl, _, rfl, _, rfl, by show 5 ≤ sizeLine; decide, fun tt htt => ?_⟩
    have sT := same_new (o := .tup [V.str "if", V.str p.1, V.int c2', v1, v2]) htt
    have hsC := sT _ _ hsA
    have lsw : sws.length = sl.length := asG.1
    have tS := tups_upd (H := upd GA tt (.tup [V.str "if", V.str p.1, V.int c2', v1, v2])) (p := st) (o := .lst (sws ++ [V.ref tt])) fun uu f zz => by rw [hsC] at zz; cases zz; exact f
    have tT := (tups_of sT).trans tS
    have p2' : 2 ^ (n + 1 + 1) = 2 ^ (n + 1) * 2 := Nat.pow_succ ..
    refine ⟨st, sws, _, rfl, rfl, hsC, small1000 (by omega), ?_⟩
    refine ⟨sws ++ [V.ref tt], sl ++ [Step.br p.1 c2' bb1 bb2], _, _, _, _, _, rfl, fun c o nn e => ?_, (hPA.same sT).upd nst.symm, upd_same, ?_, ?_, by rw [List.length_append]; simp; omega, ?_, ?_, ?_, ?_⟩
    · rw [upd_ne (ne_of_none e nst0)]; exact sT _ _ (bGA _ _ nn (bG _ _ nn e))
    · exact (asG.mono fun _ _ z => (z.mono tGA).mono tT).snoc (by unfold stepD; exact .tup (tS _ (.tup _) trivial upd_same) (.cons (.str _) (.cons (.str _) (.cons (.int _) (.cons ((td1.mono (but_tups bA hP9.not)).mono tT) (.cons (td2.mono tT) .nil))))))
    · have pps := hps p (mid.sub p (List.mem_of_getElem? hp'))
      rw [bodyB_app mid.flat, mid.ok, Bool.true_and, bodyB_cons, stepB_br, byteP_of pps.1 (pps.2.2.trans hby), decide_eq_false (mid.new p (List.mem_of_getElem? hp')), decide_eq_true cb1, decide_eq_true cb2]
      unfold bodyOk
      rw [decide_eq_true (show bb1.length ≤ 12 by omega), decide_eq_true (show bb2.length ≤ 12 by omega), ob1, ob2, bodyB]
      rfl
    · exact oddOk_app mid.odd (by rw [OddOk, OddOk, OddOkS]; exact ⟨⟨od1, od2⟩, trivial⟩)
    · rw [bdep_app, fb1, bdep, bdep, sdep]; omega
    · rw [bwt_app, fb2, bwt, bwt, swt]; omega
    · exact callsB_app mid.calls (by rw [callsB, callsB, callsS]; exact ⟨⟨ca1, ca2⟩, trivial⟩)
theorem okLBody (T : Tx K mg) (F : FnP K ("_law_body", none) "_law_body" "_law_body" s__law_body fd) : ∀ n, FnOk P w K mg base CX0 (n + 3) (He.fAd K ("_law_body", none)) fd p__law_body (spLBody n)
  | 0 => ok_lb (n := 0) T ⟨fun vs H Q E h => False.elim h, fun A outer s H args us vs Q E hr e0 hb r h => False.elim h⟩ (by decide) F
  | n + 1 => ok_lb (n := n + 1) T (okLBody T F n) (by omega) F
end
end Bg
set_option Elab.async false
set_option linter.all false
set_option maxRecDepth 100000
set_option maxHeartbeats 2000000
/-! slots of layouts -/
namespace Bg
open PySem PySem.Spec PyProof.Rows L2
abbrev LSlot := Bool × Str
abbrev LayM := Str → List LSlot
def plus : Str := ⟨#[43]⟩
def sText (s : LSlot) : Str := if s.1 = true then plus ++ s.2 else s.2
structure LayOk (rs : List Row) (lay : LayM) : Prop where
  perm : ∀ r ∈ rs, ((lay r.2.1).map (·.2)).Perm (r.2.2.map (·.1))
def SpecAt (H : Hp) (sp : Addr) (rs : List Row) (lay : LayM) : Prop := ∃ kvs, H sp = some (.dK kvs) ∧ KD kvs (rmakers rs) fun m u => ∃ c, u = .ref c ∧ Rd H c (.tup ((lay m).map fun s => V.str (sText s)))
theorem SpecAt.same {H H' : Hp} (s : Same H H') {sp : Addr} {rs : List Row} {lay : LayM} (h : SpecAt H sp rs lay) : SpecAt H' sp rs lay := by
  obtain ⟨kvs, e, kd⟩ := h
  exact ⟨kvs, s _ _ e, KD.mono kd fun _ _ ⟨c, e1, e2⟩ => ⟨c, e1, rd_same s e2⟩⟩
end Bg
set_option Elab.async false
set_option linter.all false
set_option maxRecDepth 100000
set_option maxHeartbeats 4000000
/-! the parts of each row in a drawn order -/
namespace Bg
open PySem PySem.Spec PyProof.Rows L2
theorem All2.cons {α β : Type} {R : α → β → Prop} {v : α} {x : β} {vs : List α} {xs : List β} (h : R v x) (t : All2 R vs xs) : All2 R (v :: vs) (x :: xs) :=
  ⟨by rw [List.length_cons, List.length_cons, t.1], fun i a b ha hb => by
    cases i with
    | zero => cases ha; cases hb; exact h
    | succ i => exact t.2 i a b (by simpa using ha) (by simpa using hb)⟩
theorem All2.inv {α β : Type} {R : α → β → Prop} {v : α} {vs : List α} {xs : List β} (h : All2 R (v :: vs) xs) : ∃ x ys, xs = x :: ys ∧ R v x ∧ All2 R vs ys := by
  cases xs with
  | nil => exact absurd h.1 (by simp)
  | cons x ys => exact ⟨x, ys, rfl, h.2 0 v x rfl rfl, by simpa using h.1, fun i a b ha hb => h.2 (i + 1) a b (by simpa using ha) (by simpa using hb)⟩
theorem all2_perm {α β : Type} {R : α → β → Prop} {ys xs : List α} (p : ys.Perm xs) : ∀ {ps : List β}, All2 R xs ps → ∃ qs, qs.Perm ps ∧ All2 R ys qs := by
  induction p with
  | nil => exact fun h => ⟨_, List.Perm.refl _, h⟩
  | cons x _ ih =>
    intro ps h
    obtain ⟨a, l, rfl, h1, h2⟩ := h.inv
    obtain ⟨qs, q1, q2⟩ := ih h2
    exact ⟨a :: qs, q1.cons a, q2.cons h1⟩
  | swap x y l =>
    intro ps h
    obtain ⟨a, l1, rfl, h1, h2⟩ := h.inv
    obtain ⟨b, l2, rfl, h3, h4⟩ := h2.inv
    exact ⟨b :: a :: l2, List.Perm.swap a b l2, (h4.cons h1).cons h3⟩
  | trans _ _ i1 i2 =>
    intro ps h
    obtain ⟨q1, p1, a1⟩ := i2 h
    obtain ⟨q2, p2, a2⟩ := i1 a1
    exact ⟨q2, p2.trans p1, a2⟩
theorem mk_take {rs : List Row} (nd : (rmakers rs).Nodup) {i : Nat} {r : Row} (h : rs[i]? = some r) : rmakers (rs.take (i + 1)) = addNew (rmakers (rs.take i)) r.2.1 := by
  have e : rmakers (rs.take (i + 1)) = rmakers (rs.take i) ++ [r.2.1] := by rw [take_succ_of h]; unfold rmakers; rw [List.map_append]; rfl
  rw [e, addNew_of_not]
  have n2 : (rmakers (rs.take (i + 1))).Nodup := by unfold rmakers at nd ⊢; rw [List.map_take]; exact nd.sublist (List.take_sublist _ _)
  rw [e] at n2
  exact fun hm => (List.nodup_append.mp n2).2.2 _ hm _ (List.mem_singleton.mpr rfl) rfl
/-- at a maker a list of the parts of its row, in some order -/
def HidR (pool : Addr) (H : Hp) (rs : List Row) (m : Str) (u : V) : Prop := ∃ l ws qs r, r ∈ rs ∧ r.2.1 = m ∧ u = .ref l ∧ l ≠ pool ∧ H l = some (.lst ws) ∧ All2 (PartAt H) ws qs ∧ qs.Perm r.2.2
theorem HidR.but {pool : Addr} {H H' : Hp} (hP : PoolAt H pool) (b : But pool H H') {rs : List Row} {m : Str} {u : V} (h : HidR pool H rs m u) : HidR pool H' rs m u := by
  obtain ⟨l, ws, qs, r, hr, e, e2, n, hl, al, pm⟩ := h
  exact ⟨l, ws, qs, r, hr, e, e2, n, b _ _ n hl, al.mono fun _ _ z => z.mono (but_tups b hP.not), pm⟩
section
variable {P : Program} {w : World} {K : PySem.W.Frag} {mg : Str → Option Value} {base : Heap} {fd : FuncData}
def HidAt (pool : Addr) (H : Hp) (d : Addr) (rs : List Row) : Prop := ∃ kvs, H d = some (.dK kvs) ∧ KD kvs (rmakers rs) (HidR pool H rs)
def spHid : Sp := fun vs H Q _ => ∃ (pool lr : Addr) (rs : List Row), vs = [.ref pool, .ref lr] ∧ PoolAt H pool ∧ lr ≠ pool ∧ RowsAt H lr rs ∧ ValidT rs ∧ ∀ d H', But pool H H' → PoolAt H' pool → H d = none → d ≠ pool → HidAt pool H' d rs → Q (.ref d) H'
theorem ok_hidden (T : Tx K mg) (F : FnP K ("_law_hidden", none) "_law_hidden" "_law_hidden" s__law_hidden fd) : FnOk P w K mg base CX0 3 (He.fAd K ("_law_hidden", none)) fd p__law_hidden spHid := by
  refine F.ok (k := 2) sc__law_hidden (fun vs H Q E h => ?_) (fun cdv A outer s H vs Q E hr h => ?_)
  · obtain ⟨_, _, _, rfl, _⟩ := h; rfl
  obtain ⟨pool, lr, rs, rfl, hP, nlp, ⟨us, ha, al⟩, val, q⟩ := h
  have hu := hu_of hr
  obtain ⟨f1, F1⟩ := T.F__law_shuffle
  have nd := sc__law_hidden.nd
  refine ⟨_, PSs.nox (pss_cons (ps_set (i := 2) nd rfl (.inl rfl) pe_dnewK)
    (pss_cons (ps_for PassesOwn.never rfl (pi_list (pv 1)) (pg_name (i := 3) nd rfl (Or.inl rfl))
      (pss_one (ps_dput hu (pv 2) (pe_ix ix_tup (pv 3) pe_int (fun _ _ => rfl)) (pe_call (ok_shuffle T F1) (hr.mono (by omega)) (by rfl) T.g_law_shuffle T.k_law_shuffle (b__law_shuffle F1) .nil pass0 (pa_cons (pv 0) (pa_cons (pe_ix ix_tup (pv 3) pe_int (fun _ _ => rfl)) pa_nil))) rfl)))
    (pss_one (ps_ret (pv 2))))), ?_⟩
  intro d hd
  have nd' : d ≠ pool := fun e => by obtain ⟨_, e2, _⟩ := hP; rw [← e, hd] at e2; cases e2
  have s1 := same_new (o := .dK []) hd
  refine ⟨_, rfl, lr, rfl, ⟨_, .inl (.inl (s1 _ _ ha))⟩, for_it (walk_list (K := K) (a := lr) (xs := us)) (fun i σ G => (∃ v3, σ = [some (.ref pool), some (.ref lr), some (.ref d), v3]) ∧ But pool H G ∧ PoolAt G pool ∧ ∃ kvs, G d = some (.dK kvs) ∧ KD kvs (rmakers (rs.take i)) (HidR pool G rs))
    ⟨⟨_, rfl⟩, but_of s1, hP.same s1, [], upd_same, KD.nil⟩ (fun i σ G _ z => .inl (.inl (z.2.1 _ _ nlp ha))) ?_ ?_⟩
  · rintro i y σ G0 G hi ⟨⟨v3, rfl⟩, bG, hPG, kvs, hk, kd⟩ ⟨rfl, hy⟩
    obtain ⟨r, hrr, b, u, rfl, hb, pa⟩ := al.get hy
    have hmem := List.mem_of_getElem? hrr
    have l4 := val.four r hmem
    have tG := but_tups bG hP.not
    have hbG := tG _ (.tup _) trivial hb
    obtain ⟨c, cs, rfl, hc, alp⟩ := pa.mono tG
    refine ⟨_, rfl, _, rfl, b, _, _, _, rfl, rfl, SqT.of hbG, atI_nat (j := 2) rfl, pool, c, cs, rfl, hPG, .inr (SqT.of hc), (fun H' s' => .inr (SqT.of (s' _ _ hc))), by rw [alp.1]; omega, fun l ys G2 b2 hP2 nl hl pm => ?_⟩
    have t2 := but_tups b2 hPG.not
    have hk2 := b2 _ _ nd' hk
    have nlp2 : l ≠ pool := fun e => by obtain ⟨_, e2, _⟩ := hPG; rw [← e, nl] at e2; cases e2
    obtain ⟨qs, q1, q2⟩ := all2_perm pm (alp.mono fun _ _ z => z.mono t2)
    have nld : l ≠ d := fun e => by rw [e, hk] at nl; cases nl
    refine ⟨_, rfl, _, rfl, b, _, _, _, rfl, rfl, SqT.of (t2 _ (.tup _) trivial hbG), atI_nat (j := 1) rfl, d, _, rfl, DPut.k (k := Sum.inr r.2.1) hk2 ?_, ⟨_, rfl⟩, ?_, hP2.upd nd'.symm, _, upd_same, ?_⟩
    · have := KD.length kd
      have l2 : (rmakers (rs.take i)).length ≤ 1000 := by unfold rmakers; rw [List.length_map, List.length_take]; have := val.short.1; omega
      exact small1000 (by omega)
    · intro c' o n e
      rw [upd_ne (ne_of_none e hd)]; exact b2 _ _ n (bG _ _ n e)
    · rw [mk_take val.nd hrr]
      have tp : Tups G2 (upd G2 d (.dK (putK kvs (Sum.inr r.2.1) (.ref l)))) := tups_upd fun u f z => by rw [hk2] at z; cases z; exact f
      refine KD.put kd (fun m u' _ hu' => ?_) ⟨l, ys, qs, r, hmem, rfl, rfl, nlp2, by rw [upd_ne nld]; exact hl, q2.mono fun _ _ z => z.mono tp, q1⟩
      obtain ⟨l', ws', qs', r', hr', e, e2, n, hl', al', pm'⟩ := hu'.but hPG b2
      exact ⟨l', ws', qs', r', hr', e, e2, n, by rw [upd_ne (fun z => by rw [z, hk2] at hl'; cases hl')]; exact hl', al'.mono fun _ _ z => z.mono tp, pm'⟩
  · rintro σ G ⟨⟨v3, rfl⟩, bG, hPG, kvs, hk, kd⟩
    rw [al.1, List.take_length] at kd
    exact ⟨_, rfl, q d G bG hPG hd nd' ⟨kvs, hk, kd⟩⟩
end
end Bg
set_option Elab.async false
set_option linter.all false
set_option maxRecDepth 100000
set_option maxHeartbeats 4000000
/-! the law's drawn function table -/
namespace Bg
open PySem PySem.Spec PyProof.Rows L2
theorem BodiesAt.butp {H H' : Hp} {p d : Addr} {bs : FBod} (hp : ∀ u, Fixed u → H p ≠ some u) (b : But p H H') (n : d ≠ p) (h : BodiesAt H d bs) : BodiesAt H' d bs := by
  obtain ⟨kvs, e, kd⟩ := h
  exact ⟨kvs, b _ _ n e, kd.mono fun _ _ ⟨b', e1, z⟩ => ⟨b', e1, z.mono (but_tups b hp)⟩⟩
/-- a row of a table whose dict is not the pool -/
def FRowN (p : Addr) (H : Hp) (v : V) (f : FRow) : Prop := ∃ a d, v = .ref a ∧ d ≠ p ∧ H a = some (.tup [.str f.1, .str f.2.1, .str f.2.2.1, .ref d]) ∧ BodiesAt H d f.2.2.2
theorem FRowN.at_ {p : Addr} {H : Hp} {v : V} {f : FRow} (h : FRowN p H v f) : FRowAt H v f := by
  obtain ⟨a, d, e, _, h1, h2⟩ := h; exact ⟨a, d, e, h1, h2⟩
theorem FRowN.same {p : Addr} {H H' : Hp} (s : Same H H') {v : V} {f : FRow} (h : FRowN p H v f) : FRowN p H' v f := by
  obtain ⟨a, d, e, n, h1, h2⟩ := h; exact ⟨a, d, e, n, s _ _ h1, h2.same s⟩
theorem FRowN.but {p : Addr} {H H' : Hp} (hp : ∀ u, Fixed u → H p ≠ some u) (b : But p H H') {v : V} {f : FRow} (h : FRowN p H v f) : FRowN p H' v f := by
  obtain ⟨a, d, e, n, h1, h2⟩ := h
  exact ⟨a, d, e, n, but_tups b hp _ (.tup _) trivial h1, h2.butp hp b n⟩
def FRowsN (p : Addr) (H : Hp) (a : Addr) (fs : List FRow) : Prop := ∃ us, H a = some (.lst us) ∧ All2 (FRowN p H) us fs
/-- heads drawn so far -/
structure HeadsOk (rs : List Row) (hs : List Head) : Prop where
  gn : ∀ h ∈ hs, GN h.1 10
  ex : ∀ h ∈ hs, EndX h.1
  nd : (hs.map (·.1)).Nodup
  kind : ∀ h ∈ hs, h.2.1 ∈ rkinds rs
  fold : ∀ h ∈ hs, foldB h.2.2 = true
/-- rows drawn so far, for these heads -/
structure RowsSo (rs : List Row) (hs : List Head) (fs : List FRow) (i : Nat) : Prop where
  heads : headsOf fs = hs.take i
  keys : ∀ f ∈ fs, f.2.2.2.map (·.1) = (kindRows rs f.2.1).map (·.2.1)
  bod : ∀ f ∈ fs, ∀ q ∈ f.2.2.2, ∃ r ∈ rs, r.2.1 = q.1 ∧ r.1 = f.2.1 ∧ DrawnB hs r q.2
theorem drawn_of {rs : List Row} {hs : List Head} {fs : List FRow} (ok : HeadsOk rs hs) (so : RowsSo rs hs fs hs.length) (l6 : hs.length ≤ 6) (l1 : 0 < hs.length) : DrawnF rs fs := by
  have e : headsOf fs = hs := by rw [so.heads, List.take_length]
  have l : fs.length = hs.length := by rw [← e]; unfold headsOf; rw [List.length_map]
  have m : ∀ f ∈ fs, (f.1, f.2.1, f.2.2.1) ∈ hs := fun f hf => by rw [← e]; exact List.mem_map_of_mem hf
  refine ⟨by omega, by omega, fun f hf => ok.gn _ (m f hf), fun f hf => ok.ex _ (m f hf), ?_, fun f hf => ok.kind _ (m f hf), fun f hf => ok.fold _ (m f hf), so.keys, fun f hf q hq => by rw [e]; exact so.bod f hf q hq⟩
  have := ok.nd
  rw [← e] at this
  unfold headsOf at this
  rw [List.map_map] at this
  exact this
section
variable {P : Program} {w : World} {K : PySem.W.Frag} {mg : Str → Option Value} {base : Heap} {fd : FuncData}
def spLFuns : Sp := fun vs H Q _ => ∃ (pool lr hd : Addr) (cut : Int) (most : Nat) (rs : List Row), vs = [.ref pool, .ref lr, .ref hd, .int cut, .int (most : Nat)] ∧ PoolAt H pool ∧ lr ≠ pool ∧ hd ≠ pool ∧ RowsAt H lr rs ∧ ValidT rs ∧ HidAt pool H hd rs ∧ 1 ≤ cut ∧ cut ≤ 255 ∧ 0 < most ∧ most ≤ 6 ∧
  ∀ a H' fs, But pool H H' → PoolAt H' pool → H a = none → a ≠ pool → FRowsN pool H' a fs → DrawnF rs fs → Q (.ref a) H'
theorem ok_lfuns (T : Tx K mg) (F : FnP K ("_law_functions", none) "_law_functions" "_law_functions" s__law_functions fd) : FnOk P w K mg base CX0 7 (He.fAd K ("_law_functions", none)) fd p__law_functions spLFuns := by
  obtain ⟨fb, Fb⟩ := T.F__law_body
  have G := okLBody (P := P) (w := w) (mg := mg) (base := base) T Fb 2
  refine F.ok (k := 6) sc__law_functions (fun vs H Q E h => ?_) (fun cdv A outer s H vs Q E hr h => ?_)
  · obtain ⟨_, _, _, _, _, _, rfl, _⟩ := h; rfl
  obtain ⟨pool, lr, hd, cut, most, rs, rfl, hP, nlp, nhp, ⟨us, ha, al⟩, val, hh, c1, c2, m0, m6, q⟩ := h
  have hu := hu_of hr
  have few := val.each.few
  obtain ⟨f1, F1⟩ := T.F__law_take
  obtain ⟨f2, F2⟩ := T.F__law_name
  have nd := sc__law_functions.nd
  refine ⟨_, PSs.nox (pss_cons (ps_set (i := 5) nd rfl (.inl rfl) (pe_call (ok_take T F1) (hr.mono (by omega)) (by rfl) T.g_law_take T.k_law_take (b__law_take F1) .nil pass0 (pa_cons (pv 0) (pa_cons pe_int pa_nil))))
    (pss_cons (ps_set (i := 6) nd rfl (.inl rfl) (pe_lst pa_nil))
    (pss_cons (ps_for PassesOwn.never rfl (pi_list (pv 1)) (pg_name (i := 7) nd rfl (Or.inl rfl))
      (pss_one (ps_if (pt_cmpR op_notIn_seq (pe_ix ix_tup (pv 7) pe_int (fun _ _ => rfl)) (pv 6) (by rfl))
        (pss_one (ps_expr (pe_bm PySem.F.plainAttrs_list PySem.F.slot_list_append PySem.F.type_list_append mt_append (pv 6) (pa_cons (pe_ix ix_tup (pv 7) pe_int (fun _ _ => rfl)) pa_nil))))
        pss_nil)))
    (pss_cons (ps_set (i := 8) nd rfl (.inl rfl) (pe_lst pa_nil))
    (pss_cons (ps_for PassesOwn.never rfl (pi_range1 rfl T.n_range (pa_cons (pe_op op_add pe_int (pe_op op_mod (pe_callTy call_int1 (by rfl) T.n_int (by decide +kernel) (pa_cons (pe_op op_add pe_int (pe_call (ok_take T F1) (hr.mono (by omega)) (by rfl) T.g_law_take T.k_law_take (b__law_take F1) .nil pass0 (pa_cons (pv 0) (pa_cons (pv 4) pa_nil)))) pa_nil)) (pv 4))) pa_nil)) (pg_name (i := 9) nd rfl (Or.inl rfl))
      (pss_cons (ps_set (i := 11) nd rfl (.inl rfl) (pe_call (ok_nameX T F2) (hr.mono (by omega)) (by rfl) T.g_law_name T.k_law_name (b__law_name F2) .nil pass0 (pa_cons (pv 5) (pa_cons (pv 9) (pa_cons (pe_lc (own := [("_law_head", 10)]) (g := gName 10) rfl nd (pi_list (pv 8)) (blkOk_by (N := ["_law_pool_here", "_law_rows_here", "_law_hidden_here", "_law_cut", "_law_most", "_law_seed", "_law_kinds", "_law_row", "_law_heads", "_law_k", "_law_head", "_law_name_here", "_law_wild", "_law_table", "_law_bodies"]) (sc := defScope s__law_functions) (by decide +kernel)) (fun _ _ _ _ _ => (pg_name (i := 10) nd rfl (Or.inl rfl))) (fun _ _ _ _ _ => pts_nil) (fun _ _ _ _ _ => (pe_ix (r := rIxT K) ix_tup (pv 10) pe_int (fun _ _ => rfl)))) pa_nil)))))
      (pss_one (ps_expr (pe_bm PySem.F.plainAttrs_list PySem.F.slot_list_append PySem.F.type_list_append mt_append (pv 8) (pa_cons (pe_tup (pa_cons (pv 11) (pa_cons (pe_ix ix_list (pv 6) (pe_call (ok_take T F1) (hr.mono (by omega)) (by rfl) T.g_law_take T.k_law_take (b__law_take F1) .nil pass0 (pa_cons (pv 0) (pa_cons (pe_callB call_len_seq (by rfl) T.n_len PySem.boot_len (pa_cons (pv 6) pa_nil)) pa_nil))) (fun _ _ => rfl)) (pa_cons (pe_ix ix_list (pe_lst (pa_cons pe_str (pa_cons pe_str pa_nil))) (pe_call (ok_take T F1) (hr.mono (by omega)) (by rfl) T.g_law_take T.k_law_take (b__law_take F1) .nil pass0 (pa_cons (pv 0) (pa_cons pe_int pa_nil))) (fun _ _ => rfl)) pa_nil)))) pa_nil))))))
    (pss_cons (ps_set (i := 12) nd rfl (.inl rfl) (pe_cmpR op_eq (pe_call (ok_take T F1) (hr.mono (by omega)) (by rfl) T.g_law_take T.k_law_take (b__law_take F1) .nil pass0 (pa_cons (pv 0) (pa_cons pe_int pa_nil))) pe_int (nomark _)))
    (pss_cons (ps_set (i := 13) nd rfl (.inl rfl) (pe_lst pa_nil))
    (pss_cons (ps_for PassesOwn.never rfl (pi_list (pv 8)) (pg_name (i := 10) nd rfl (Or.inl rfl))
      (pss_cons (ps_set (i := 14) nd rfl (.inl rfl) pe_dnewK)
      (pss_cons (ps_for PassesOwn.never rfl (pi_list (pv 1)) (pg_name (i := 7) nd rfl (Or.inl rfl))
        (pss_one (ps_if (pt_cmpR op_eq (pe_ix ix_tup (pv 7) pe_int (fun _ _ => rfl)) (pe_ix ix_tup (pv 10) pe_int (fun _ _ => rfl)) (nomark _))
          (pss_one (ps_dput hu (pv 14) (pe_ix ix_tup (pv 7) pe_int (fun _ _ => rfl)) (pe_call G (hr.mono (by omega)) (by rfl) T.g_law_body T.k_law_body (b__law_body Fb) .nil pass0 (pa_cons (pv 0) (pa_cons (pv 8) (pa_cons (pe_dget hu (pv 2) (pe_ix ix_tup (pv 7) pe_int (fun _ _ => rfl)) (fun _ _ => rfl)) (pa_cons (pv 3) (pa_cons (pv 12) (pa_cons pe_int pa_nil))))))) rfl))
          pss_nil)))
      (pss_one (ps_expr (pe_bm PySem.F.plainAttrs_list PySem.F.slot_list_append PySem.F.type_list_append mt_append (pv 13) (pa_cons (pe_tup (pa_cons (pe_ix ix_tup (pv 10) pe_int (fun _ _ => rfl)) (pa_cons (pe_ix ix_tup (pv 10) pe_int (fun _ _ => rfl)) (pa_cons (pe_ix ix_tup (pv 10) pe_int (fun _ _ => rfl)) (pa_cons (pv 14) pa_nil))))) pa_nil)))))))
    (pss_one (ps_ret (pv 13))))))))))), ?_⟩
  refine ⟨_, rfl, pool, _, rfl, hP, by decide, fun sd H1 sd0 sd1 b1 hP1 => ?_⟩
  -- the kinds
  refine ⟨Nat.zero_le _, fun kl hkl => ?_⟩
  have s2 := same_new (o := .lst []) hkl
  have nkl : kl ≠ pool := (hP1.ne_new hkl).symm
  have b2 : But pool H (upd H1 kl (.lst [])) := b1.trans (but_of s2)
  have hkl0 : H kl = none := by
    cases e : H kl with
    | none => rfl
    | some o => exact absurd (b1 _ _ nkl e) (by rw [hkl]; exact fun z => nomatch z)
  refine ⟨_, rfl, lr, rfl, ⟨_, .inl (.inl (b2 _ _ nlp ha))⟩, for_it (walk_list (K := K) (a := lr) (xs := us)) (fun i σ G => (∃ v7, σ = [some (.ref pool), some (.ref lr), some (.ref hd), some (.int cut), some (.int (most : Nat)), some (.int sd), some (.ref kl), v7, none, none, none, none, none, none, none]) ∧ But pool H G ∧ PoolAt G pool ∧ ∃ ks : List Str, G kl = some (.lst (ks.map V.str)) ∧ ks.length ≤ i ∧ (0 < i → 0 < ks.length) ∧ ∀ k ∈ ks, k ∈ rkinds rs)
    ⟨⟨_, rfl⟩, b2, hP1.same s2, [], upd_same, Nat.le_refl _, fun z => absurd z (by omega), fun k hk => absurd hk List.not_mem_nil⟩ (fun i σ G _ z => .inl (.inl (z.2.1 _ _ nlp ha))) ?_ ?_⟩
  · rintro i y σ G0 G3 hi ⟨⟨v7, rfl⟩, bG, hPG, ks, hks, lks, pks, mks⟩ ⟨rfl, hy⟩
    obtain ⟨r, hrr, b, u, rfl, hb, pa⟩ := al.get hy
    have hmem := List.mem_of_getElem? hrr
    have lti := (List.getElem?_eq_some_iff.mp hrr).1
    have hbG := but_tups bG hP.not _ (.tup _) trivial hb
    refine ⟨_, rfl, b, _, _, _, rfl, rfl, SqT.of hbG, atI_nat (j := 0) rfl, _, rfl, kl, _, rfl, .inl (SqL.of hks), rfl, flat_str _, _, rfl, ?_⟩
    rw [if_pos rfl, inV_strs]
    cases hin : decide (r.1 ∈ ks) with
    | true => exact iteF ⟨⟨_, rfl⟩, bG, hPG, ks, hks, by omega, fun _ => by cases ks with | nil => simp at hin | cons a b => simp, mks⟩
    | false =>
      refine iteT ⟨_, rfl, .inl ⟨rfl, _, SqL.of hks⟩, _, rfl, b, _, _, _, rfl, rfl, SqT.of hbG, atI_nat (j := 0) rfl, kl, _, _, rfl, rfl, hks, small1000 (by rw [List.length_map]; omega), ⟨_, rfl⟩, fun c o n e => by rw [upd_ne (ne_of_none e hkl0)]; exact bG _ _ n e, hPG.upd nkl.symm, ks ++ [r.1], ?_, by rw [List.length_append]; simp; omega, fun _ => by rw [List.length_append]; simp, fun k hk => ?_⟩
      · rw [upd_same, List.map_append] <;> rfl
      · rcases List.mem_append.mp hk with z | z
        · exact mks k z
        · rw [List.mem_singleton.mp z]; exact List.mem_map_of_mem hmem
  rintro σ G3 ⟨⟨v7, rfl⟩, b3, hP3, ks, hks3, lks, pks, mks⟩
  have kpos : 0 < ks.length := pks (by rw [al.1]; exact List.length_pos_iff.mpr val.ne)
  have lks : ks.length ≤ 12 := by rw [al.1] at lks; omega
  -- the heads
  refine ⟨Nat.zero_le _, fun hl hhl => ?_⟩
  have s4 := same_new (o := .lst []) hhl
  have nhl : hl ≠ pool := (hP3.ne_new hhl).symm
  have b4 : But pool H (upd G3 hl (.lst [])) := b3.trans (but_of s4)
  have hhl0 : H hl = none := by
    cases e : H hl with
    | none => rfl
    | some o => exact absurd (b3 _ _ nhl e) (by rw [hhl]; exact fun z => nomatch z)
  refine ⟨_, rfl, _, rfl, pool, _, rfl, hP3.same s4, (by show (0 : Int) < ((most : Nat) : Int); omega), fun z5 H5 z50 z51 b5 hP5 => ?_⟩
  have hks5 := b5 _ _ nkl (s4 _ _ hks3)
  have hhl5 := b5 _ _ nhl (upd_same (H := G3) (a := hl) (o := .lst []))
  have e0 : 0 ≤ (1 + z5) % (most : Int) := Int.emod_nonneg _ (by omega)
  have e1 : (1 + z5) % (most : Int) < most := Int.emod_lt_of_pos _ (by omega)
  refine ⟨_, _, rfl, rfl, .inl ⟨_, rfl, _, rfl, _, _, rfl, rfl, (by show (0 : Int) < ((most : Nat) : Int); omega), _, _, rfl, rfl, _, rfl, by show -(2 ^ 62) ≤ 1 + (1 + z5) % (most : Int); omega, by show 1 + (1 + z5) % (most : Int) < 2 ^ 62; omega, ?_⟩⟩
  refine for_it walk_range (fun i σ G => (∃ v9 v10 v11, σ = [some (.ref pool), some (.ref lr), some (.ref hd), some (.int cut), some (.int (most : Nat)), some (.int sd), some (.ref kl), v7, some (.ref hl), v9, v10, v11, none, none, none]) ∧ But pool H G ∧ PoolAt G pool ∧ G kl = some (.lst (ks.map V.str)) ∧ ∃ (hv : List V) (hs : List Head), G hl = some (.lst hv) ∧ All2 (HeadAt G) hv hs ∧ hs.length = i ∧ HeadsOk rs hs)
    ⟨⟨_, _, _, rfl⟩, b4.trans b5, hP5, hks5, [], [], hhl5, All2.nil, rfl, fun h hh => absurd hh List.not_mem_nil, fun h hh => absurd hh List.not_mem_nil, List.nodup_nil, fun h hh => absurd hh List.not_mem_nil, fun h hh => absurd hh List.not_mem_nil⟩ (fun _ _ _ _ _ => trivial) ?_ ?_
  · rintro i y σ G0 G6 hi ⟨⟨v9, v10, v11, rfl⟩, bG, hPG, hkG, hv, hs, hhG, alh, lhs, hok⟩ ⟨rfl, rfl⟩
    have i6 : i < 6 := by have z : i < (1 + (1 + z5) % (most : Int)).toNat := hi; omega
    refine ⟨_, rfl, _, rfl, _, rfl, hl, rfl, ⟨_, SqL.of hhG⟩, fun D hD => lc_it (walk_list (K := K) (a := hl) (xs := hv)) (fun j G8 => Same G6 G8 ∧ G8 D = some (.lst (((hs.take j).map (·.1)).map V.str))) ⟨same_new hD, upd_same⟩ (fun j G8 _ z => SqL.of (z.1 _ _ hhG)) ?_ ?_⟩
    · rintro j x G8 G9 hj ⟨s8, hacc⟩ ⟨rfl, hx⟩
      obtain ⟨h, hh, ha2, rfl, hha⟩ := alh.get hx
      have ltj := (List.getElem?_eq_some_iff.mp hh).1
      refine ⟨rfl, _, rfl, ha2, _, _, _, rfl, rfl, SqT.of (s8 _ _ hha), atI_nat (j := 0) rfl, _, hacc, small1000 (by rw [List.length_map, List.length_map, List.length_take]; omega), same_mut s8 hD, ?_⟩
      rw [upd_same, take_succ_of hh, List.map_append, List.map_append] <;> rfl
    rintro G8 ⟨s8, hnm⟩
    rw [alh.1, List.take_length] at hnm
    refine ⟨sd, _, D, hs.map (·.1), rfl, ⟨sd0, by omega⟩, ⟨by omega, by omega⟩, SqL.of hnm, by rw [List.length_map]; omega, fun x gx ex hx => ?_⟩
    have gx10 : GN x 10 := gx.mono (by rw [List.length_map]; omega)
    have hP8 := hPG.same s8
    have hk8 := s8 _ _ hkG
    have hh8 := s8 _ _ hhG
    refine ⟨_, rfl, .inl ⟨rfl, _, SqL.of hh8⟩, _, rfl, _, rfl, _, rfl, _, rfl, kl, _, rfl, .inl (SqL.of hk8), pool, _, rfl, hP8, (by rw [List.length_map]; omega), fun u GB u0 u1 bB hPB => ?_⟩
    rw [List.length_map] at u1
    obtain ⟨c, rfl⟩ := Int.eq_ofNat_of_zero_le u0
    obtain ⟨kk, hkk⟩ : ∃ x, ks[c]? = some x := ⟨_, List.getElem?_eq_getElem (by omega)⟩
    refine ⟨kl, _, _, _, rfl, rfl, SqL.of (bB _ _ nkl hk8), atI_nat (by rw [List.getElem?_map, hkk]; rfl), by show 2 ≤ sizeLine; decide, fun l0 hl0 => ?_⟩
    have s9 := same_new (o := .lst [V.str "sum", V.str "max"]) hl0
    refine ⟨_, rfl, pool, 2, rfl, hPB.same s9, by decide, fun u2 GC u20 u21 bC hPC => ?_⟩
    obtain ⟨c2n, rfl⟩ := Int.eq_ofNat_of_zero_le u20
    obtain ⟨fo, efo, ofo⟩ : ∃ fo : Str, atI [V.str "sum", V.str "max"] (c2n : Int) = some (.str fo) ∧ foldB fo = true := by
      have : c2n = 0 ∨ c2n = 1 := by omega
      rcases this with rfl | rfl
      · exact ⟨"sum", atI_nat (j := 0) rfl, by decide +kernel⟩
      · exact ⟨"max", atI_nat (j := 1) rfl, by decide +kernel⟩
    refine ⟨l0, _, _, _, rfl, rfl, SqL.of (bC _ _ (hPB.ne_new hl0).symm upd_same), efo, by show 3 ≤ sizeLine; decide, fun tt htt => ?_⟩
    have sT := same_new (o := .tup [V.str x, V.str kk, V.str fo]) htt
    have b6C : But pool G6 GC := (but_of s8).trans (bB.trans ((but_of s9).trans bC))
    have hhC := sT _ _ (b6C _ _ nhl hhG)
    have t6C := but_tups b6C hPG.not
    have lhv : hv.length = hs.length := alh.1
    have tS := tups_upd (H := upd GC tt (.tup [V.str x, V.str kk, V.str fo])) (p := hl) (o := .lst (hv ++ [V.ref tt])) fun uu f zz => by rw [hhC] at zz; cases zz; exact f
    have nklhl : kl ≠ hl := ne_of_none hks3 hhl
    refine ⟨hl, hv, _, rfl, rfl, hhC, small1000 (by omega), ⟨_, _, _, rfl⟩, fun c o n e => by rw [upd_ne (ne_of_none e hhl0)]; exact sT _ _ (b6C _ _ n (bG _ _ n e)), (hPC.same sT).upd nhl.symm, by rw [upd_ne nklhl]; exact sT _ _ (b6C _ _ nkl hkG), hv ++ [V.ref tt], hs ++ [(x, kk, fo)], upd_same, ?_, by rw [List.length_append]; simp; omega, ?_⟩
    · exact (alh.mono fun _ _ z => z.mono ((t6C.trans (tups_of sT)).trans tS)).snoc ⟨tt, rfl, tS _ (.tup _) trivial upd_same⟩
    · refine ⟨fun h hh => ?_, fun h hh => ?_, ?_, fun h hh => ?_, fun h hh => ?_⟩
      · rcases List.mem_append.mp hh with z | z
        · exact hok.gn h z
        · rw [List.mem_singleton.mp z]; exact gx10
      · rcases List.mem_append.mp hh with z | z
        · exact hok.ex h z
        · rw [List.mem_singleton.mp z]; exact ex
      · rw [List.map_append]
        exact List.nodup_append.mpr ⟨hok.nd, by simp, fun a ha b hb e => hx (by simp at hb; rw [← hb, ← e]; exact ha)⟩
      · rcases List.mem_append.mp hh with z | z
        · exact hok.kind h z
        · rw [List.mem_singleton.mp z]; exact mks kk (List.mem_of_getElem? hkk)
      · rcases List.mem_append.mp hh with z | z
        · exact hok.fold h z
        · rw [List.mem_singleton.mp z]; exact ofo
  rintro σ G6 ⟨⟨v9, v10, v11, rfl⟩, b6, hP6, hk6, hv, hs, hh6, alh6, lhs, hok⟩
  have h6 : hs.length ≤ 6 := by rw [lhs]; omega
  have h1 : 0 < hs.length := by rw [lhs]; omega
  -- wild
  refine ⟨_, rfl, pool, 4, rfl, hP6, by decide, fun z7 G7 z70 z71 b7 hP7 => ⟨rfl, ?_⟩⟩
  generalize decide (V.int z7 = V.int 1) = wild
  have hh7 := b7 _ _ nhl hh6
  have alh7 : All2 (HeadAt G7) hv hs := alh6.mono fun _ _ z => z.mono (but_tups b7 hP6.not)
  -- the table
  refine ⟨Nat.zero_le _, fun tl htl => ?_⟩
  have s8 := same_new (o := .lst []) htl
  have ntl : tl ≠ pool := (hP7.ne_new htl).symm
  have b07 : But pool H G7 := b6.trans b7
  have htl0 : H tl = none := by
    cases e : H tl with
    | none => rfl
    | some o => exact absurd (b07 _ _ ntl e) (by rw [htl]; exact fun z => nomatch z)
  have nhltl : hl ≠ tl := ne_of_none hh7 htl
  refine ⟨_, rfl, hl, rfl, ⟨_, .inl (.inl (s8 _ _ hh7))⟩, for_it (walk_list (K := K) (a := hl) (xs := hv)) (fun i σ G => (∃ v7 v10 v14, σ = [some (.ref pool), some (.ref lr), some (.ref hd), some (.int cut), some (.int (most : Nat)), some (.int sd), some (.ref kl), v7, some (.ref hl), v9, v10, v11, some (.bl wild), some (.ref tl), v14]) ∧ But pool H G ∧ PoolAt G pool ∧ G hl = some (.lst hv) ∧ All2 (HeadAt G) hv hs ∧ ∃ (tv : List V) (fs : List FRow), G tl = some (.lst tv) ∧ All2 (FRowN pool G) tv fs ∧ RowsSo rs hs fs i)
    ⟨⟨_, _, _, rfl⟩, b07.trans (but_of s8), hP7.same s8, s8 _ _ hh7, alh7.mono fun _ _ z => z.mono (tups_of s8), [], [], upd_same, All2.nil, by unfold headsOf; simp, fun f hf => absurd hf List.not_mem_nil, fun f hf => absurd hf List.not_mem_nil⟩ (fun i σ G _ z => .inl (.inl z.2.2.2.1)) ?_ ?_⟩
  rotate_left
  · rintro σ G ⟨⟨v7, v10, v14, rfl⟩, bG, hPG, _, _, tv, fs, htv, alt, so⟩
    rw [alh6.1] at so
    exact ⟨_, rfl, q tl G fs bG hPG htl0 ntl ⟨tv, htv, alt⟩ (drawn_of hok so h6 h1)⟩
  rintro i y σ G0 G hi ⟨⟨v7, v10, v14, rfl⟩, bG, hPG, hhG, alhG, tv, fs, htv, alt, so⟩ ⟨rfl, hy⟩
  obtain ⟨h, hhi, hda, rfl, hhda⟩ := alhG.get hy
  have him := List.mem_of_getElem? hhi
  intro d hd1
  have s9 := same_new (o := .dK []) hd1
  have nd1 : d ≠ pool := (hPG.ne_new hd1).symm
  have haG := bG _ _ nlp ha
  have alG : All2 (RowAt G) us rs := al.mono fun _ _ z => z.mono (but_tups bG hP.not)
  refine ⟨_, rfl, lr, rfl, ⟨_, .inl (.inl (s9 _ _ haG))⟩, for_it (walk_list (K := K) (a := lr) (xs := us)) (fun j σ G2 => (∃ v7, σ = [some (.ref pool), some (.ref lr), some (.ref hd), some (.int cut), some (.int (most : Nat)), some (.int sd), some (.ref kl), v7, some (.ref hl), v9, some (.ref hda), v11, some (.bl wild), some (.ref tl), some (.ref d)]) ∧ But pool G G2 ∧ PoolAt G2 pool ∧ ∃ (kvs : List (Key × V)) (bs : FBod), G2 d = some (.dK kvs) ∧ KD kvs (bs.map (·.1)) (fun m v => ∃ b, bodyIn bs m = some b ∧ Td G2 v (bodyD b)) ∧ bs.map (·.1) = (kindRows (rs.take j) h.2.1).map (·.2.1) ∧ ∀ q ∈ bs, ∃ r ∈ rs, r.2.1 = q.1 ∧ r.1 = h.2.1 ∧ DrawnB hs r q.2)
    ⟨⟨_, rfl⟩, but_of s9, hPG.same s9, [], [], upd_same, KD.nil, rfl, fun q hq => absurd hq List.not_mem_nil⟩ (fun j σ G2 _ z => .inl (.inl (z.2.1 _ _ nlp haG))) ?_ ?_⟩
  · rintro j y2 σ G1 G2 hj ⟨⟨v7, rfl⟩, b2, hP2, kvs, bs, hk, kd, ebs, dr⟩ ⟨rfl, hy2⟩
    obtain ⟨r, hrr, b, u, rfl, hb, pa⟩ := alG.get hy2
    have hmem := List.mem_of_getElem? hrr
    have ltj := (List.getElem?_eq_some_iff.mp hrr).1
    have t2 := but_tups b2 hPG.not
    have hb2 := t2 _ (.tup _) trivial hb
    have hhd2 := t2 _ (.tup _) trivial hhda
    have ekr : kindRows (rs.take (j + 1)) h.2.1 = kindRows (rs.take j) h.2.1 ++ (if decide (r.1 = h.2.1) = true then [r] else []) := take_filter hrr _
    refine ⟨_, rfl, b, _, _, _, rfl, rfl, SqT.of hb2, atI_nat (j := 0) rfl, _, rfl, hda, _, _, _, rfl, rfl, SqT.of hhd2, atI_nat (j := 1) rfl, rfl, _, rfl, ?_⟩
    rw [eqStr]
    cases hc : decide (r.1 = h.2.1) with
    | false => exact iteF ⟨⟨_, rfl⟩, b2, hP2, kvs, bs, hk, kd, by rw [ekr, hc, ebs]; simp, dr⟩
    | true =>
      obtain ⟨hkvs, hhdd, hkd⟩ := id hh
      obtain ⟨hv1, ehv, hr1⟩ := KD.some hkd (show r.2.1 ∈ rmakers rs from List.mem_map_of_mem hmem)
      obtain ⟨l, ws, qs, r', hr', er', rfl, nl, hl1, alq, pmq⟩ := (hr1.but hP (bG.trans b2))
      cases row_unique val.nd hr' hmem er'
      have hhd3 := (bG.trans b2) _ _ nhp hhdd
      have pok := (val.each.good r hmem).2.2
      refine iteT ⟨_, rfl, _, rfl, _, rfl, _, rfl, b, _, _, _, rfl, rfl, SqT.of hb2, atI_nat (j := 1) rfl, hd, _, rfl, (by rw [← ehv]; exact DGet.k (k := Sum.inr r.2.1) hhd3), _, rfl, _, rfl, ?_⟩
      refine ⟨pool, hl, l, cut, wild, hs, r, [], qs, ws, rfl, hP2, nhl, nl, ⟨hv, b2 _ _ nhl hhG, alhG.mono fun _ _ z => z.mono t2⟩, by omega, fun h hh => (hok.gn h hh).nameB (by decide), hl1, alq, fun q hq => ⟨pmq.mem_iff.mp hq, by simp, hold_kind pok (pmq.mem_iff.mp hq)⟩, (pmq.map _).nodup_iff.mpr (val.ndp hmem), val.ndp hmem, by rw [pmq.length_eq]; exact val.four r hmem, c1, c2, by decide, ?_⟩
      intro v bb G3 b3 hP3 td ob lb od dp wt ca
      have t3 := but_tups b3 hP2.not
      have hk3 := b3 _ _ nd1 hk
      have kl1 : kvs.length ≤ 1000 := by
        rw [KD.length kd, ebs, List.length_map]
        have : (kindRows (rs.take j) h.2.1).length ≤ (rs.take j).length := List.length_filter_le _ _
        rw [List.length_take] at this; omega
      have hnew : r.2.1 ∉ bs.map (·.1) := by
        rw [ebs]
        intro z
        obtain ⟨r2, hr2, e2⟩ := List.mem_map.mp z
        have hr3 := (List.mem_filter.mp hr2).1
        exact not_mem_take_of_nodup (i := j) val.nd (by unfold rmakers; rw [List.getElem?_map, hrr]; rfl) (by unfold rmakers; rw [← List.map_take]; exact List.mem_map.mpr ⟨r2, hr3, e2⟩)
      have tS := fun (o : HO) => tups_upd (H := G3) (p := d) (o := o) fun uu f zz => by rw [hk3] at zz; cases zz; exact f
      refine ⟨_, rfl, _, rfl, b, _, _, _, rfl, rfl, SqT.of (t3 _ (.tup _) trivial hb2), atI_nat (j := 1) rfl, d, _, rfl, DPut.k (k := Sum.inr r.2.1) hk3 (small1000 kl1), ⟨_, rfl⟩, fun c o n e => by rw [upd_ne (ne_of_none e hd1)]; exact b3 _ _ n (b2 _ _ n e), hP3.upd nd1.symm, _, bs ++ [(r.2.1, bb)], upd_same, ?_, ?_, fun q hq => ?_⟩
      · rw [List.map_append]
        show KD _ (bs.map (·.1) ++ [r.2.1]) _
        rw [← addNew_of_not hnew]
        refine kd.put (fun m u ne ⟨b', e1, z⟩ => ⟨b', bodyIn_app_old e1, (z.mono t3).mono (tS _)⟩) ⟨bb, bodyIn_app_new hnew, td.mono (tS _)⟩
      · rw [List.map_append, ebs, ekr, hc, if_pos rfl, List.map_append]; rfl
      · rcases List.mem_append.mp hq with z | z
        · exact dr q z
        · rw [List.mem_singleton.mp z]; exact ⟨r, hmem, rfl, of_decide_eq_true hc, ob, lb, od, dp, wt, ca⟩
  rintro σ G2 ⟨⟨v7, rfl⟩, b2, hP2, kvs, bs, hk, kd, ebs, dr⟩
  rw [al.1, List.take_length] at ebs
  have t2 := but_tups b2 hPG.not
  have hhd2 := t2 _ (.tup _) trivial hhda
  have htv2 := b2 _ _ ntl htv
  refine ⟨_, rfl, .inl ⟨rfl, _, SqL.of htv2⟩, _, rfl, hda, _, _, _, rfl, rfl, SqT.of hhd2, atI_nat (j := 0) rfl, _, rfl, hda, _, _, _, rfl, rfl, SqT.of hhd2, atI_nat (j := 1) rfl, _, rfl, hda, _, _, _, rfl, rfl, SqT.of hhd2, atI_nat (j := 2) rfl, _, rfl, by show 4 ≤ sizeLine; decide, fun tt htt => ?_⟩
  have sT := same_new (o := .tup [V.str h.1, V.str h.2.1, V.str h.2.2, V.ref d]) htt
  have htv3 := sT _ _ htv2
  have nd2 : d ≠ tl := fun e => by rw [e, htv] at hd1; cases hd1
  have tS := tups_upd (H := upd G2 tt (.tup [V.str h.1, V.str h.2.1, V.str h.2.2, V.ref d])) (p := tl) (o := .lst (tv ++ [V.ref tt])) fun uu f zz => by rw [htv3] at zz; cases zz; exact f
  have ltv : tv.length = fs.length := alt.1
  have lfs : fs.length ≤ 6 := by
    have := congrArg List.length so.heads
    unfold headsOf at this
    rw [List.length_map, List.length_take] at this; omega
  have ntl2 : ∀ u, Fixed u → (upd G2 tt (.tup [V.str h.1, V.str h.2.1, V.str h.2.2, V.ref d])) tl ≠ some u := fun u f e => by rw [htv3] at e; cases e; exact f
  have bTL : But tl (upd G2 tt (.tup [V.str h.1, V.str h.2.1, V.str h.2.2, V.ref d])) (upd (upd G2 tt (.tup [V.str h.1, V.str h.2.1, V.str h.2.2, V.ref d])) tl (.lst (tv ++ [V.ref tt]))) := fun c o n e => by rw [upd_ne n]; exact e
  refine ⟨tl, tv, _, rfl, rfl, htv3, small1000 (by omega), ⟨_, _, _, rfl⟩, fun c o n e => by rw [upd_ne (ne_of_none e htl0)]; exact sT _ _ (b2 _ _ n (bG _ _ n e)), (hP2.same sT).upd ntl.symm, by rw [upd_ne nhltl]; exact sT _ _ (b2 _ _ nhl hhG), alhG.mono fun _ _ z => ((z.mono t2).mono (tups_of sT)).mono tS, tv ++ [V.ref tt], fs ++ [(h.1, h.2.1, h.2.2, bs)], upd_same, ?_, ?_, fun f hf => ?_, fun f hf => ?_⟩
  · refine All2.snoc ⟨alt.1, fun i a f ha hf => ?_⟩ ?_
    · obtain ⟨a1, d1, e1, n1, g1, g2⟩ := ((alt.2 i a f ha hf).but hPG.not b2).same sT
      have n3 : d1 ≠ tl := fun e => by obtain ⟨_, e2, _⟩ := g2; rw [e, htv3] at e2; cases e2
      exact ⟨a1, d1, e1, n1, tS _ (.tup _) trivial g1, g2.butp ntl2 bTL n3⟩
    · exact ⟨tt, d, rfl, nd1, tS _ (.tup _) trivial upd_same, kvs, by rw [upd_ne nd2]; exact sT _ _ hk, kd.mono fun _ _ ⟨b', e1, z⟩ => ⟨b', e1, (z.mono (tups_of sT)).mono tS⟩⟩
  · have e := so.heads
    unfold headsOf at e ⊢
    rw [List.map_append, e, take_succ_of hhi]; rfl
  · rcases List.mem_append.mp hf with z | z
    · exact so.keys f z
    · rw [List.mem_singleton.mp z]; exact ebs
  · rcases List.mem_append.mp hf with z | z
    · exact so.bod f z
    · rw [List.mem_singleton.mp z]; exact dr
end
end Bg
set_option Elab.async false
set_option linter.all false
set_option maxRecDepth 100000
set_option maxHeartbeats 4000000
/-! what a law over function tables keeps -/
namespace Bg
open PySem PySem.Spec PyProof.Rows L2
theorem FunsF.ins {K : PySem.W.Frag} {H : Hp} {y x : Addr} {fs : List FRow} (h : FunsF K H y x fs) : ∃ dy tn dt df db, H y = some (.ins (CF K) dy (fF5 x tn dt df db)) := by
  obtain ⟨dy, tn, dt, df, db, h0, _⟩ := h; exact ⟨dy, tn, dt, df, db, h0⟩
theorem FunsF.pool {K : PySem.W.Frag} {H H' : Hp} {a : Addr} (e : PoolAt H a) (s : But a H H') {y x : Addr} {fs : List FRow} (h : FunsF K H y x fs) : FunsF K H' y x fs :=
  h.mono (imms_but s e.notImm) fun o z => s _ _ (fun w => by obtain ⟨_, _, _, _, _, h0⟩ := h.ins; obtain ⟨_, e, _⟩ := e; rw [w, e] at h0; cases h0) z
theorem FunsF.butD {K : PySem.W.Frag} {H H' : Hp} {d : Addr} {kvs : List (Key × V)} (e : H d = some (.dK kvs)) (s : But d H H') {y x : Addr} {fs : List FRow} (h : FunsF K H y x fs) : FunsF K H' y x fs :=
  h.mono (imms_but s (notImm_dK e)) fun o z => s _ _ (fun w => by obtain ⟨_, _, _, _, _, h0⟩ := h.ins; rw [w, e] at h0; cases h0) z
theorem FunsF.butL {K : PySem.W.Frag} {H H' : Hp} {d : Addr} {xs : List V} (e : H d = some (.lst xs)) (s : But d H H') {y x : Addr} {fs : List FRow} (h : FunsF K H y x fs) : FunsF K H' y x fs :=
  h.mono (imms_but s (notImm_lst e)) fun o z => s _ _ (fun w => by obtain ⟨_, _, _, _, _, h0⟩ := h.ins; rw [w, e] at h0; cases h0) z
/-- the pool, the rows, the drawn table, the kinds, the functions -/
structure FunI (K : PySem.W.Frag) (pool lr ta x y : Addr) (us tv : List V) (rs : List Row) (fs : List FRow) (G : Hp) : Prop where
  pl : PoolAt G pool
  nlp : lr ≠ pool
  nta : ta ≠ pool
  ls : G lr = some (.lst us)
  al : All2 (RowAt G) us rs
  tb : G ta = some (.lst tv)
  at_ : All2 (FRowN pool G) tv fs
  kf : KindsF K G x rs
  ff : FunsF K G y x fs
section
variable {K : PySem.W.Frag} {pool lr ta x y : Addr} {us tv : List V} {rs : List Row} {fs : List FRow} {G G' : Hp}
theorem FunI.same (I : FunI K pool lr ta x y us tv rs fs G) (s : Same G G') : FunI K pool lr ta x y us tv rs fs G' :=
  ⟨I.pl.same s, I.nlp, I.nta, s _ _ I.ls, I.al.mono fun _ _ z => z.mono (tups_of s), s _ _ I.tb, I.at_.mono fun _ _ z => z.same s, I.kf.same s, I.ff.same s⟩
theorem FunI.but (I : FunI K pool lr ta x y us tv rs fs G) (b : But pool G G') (hP : PoolAt G' pool) : FunI K pool lr ta x y us tv rs fs G' :=
  ⟨hP, I.nlp, I.nta, b _ _ I.nlp I.ls, I.al.mono fun _ _ z => z.mono (but_tups b I.pl.not), b _ _ I.nta I.tb, I.at_.mono fun _ _ z => z.but I.pl.not b, I.kf.pool' I.pl b, I.ff.pool I.pl b⟩
theorem FunI.rows (I : FunI K pool lr ta x y us tv rs fs G) : RowsAt G lr rs := ⟨us, I.ls, I.al⟩
end
end Bg
set_option Elab.async false
set_option linter.all false
set_option maxRecDepth 100000
set_option maxHeartbeats 8000000
/-! calls of functions on nodes of trees -/
namespace Bg
open PySem PySem.Spec PyProof.Rows L2
theorem swt_get : ∀ {b : Body} {i : Nat} {s : Step}, b[i]? = some s → swt s ≤ bwt b
  | s0 :: r, 0, s, e => by rw [bwt]; simp at e; rw [e]; omega
  | s0 :: r, i + 1, s, e => by rw [bwt]; have := swt_get (b := r) (by simpa using e); omega
theorem lt10 {n : Nat} (h : n ≤ 10000000) : n < sizeLine := Nat.lt_of_le_of_lt h (by decide)
section
variable {P : Program} {w : World} {K : PySem.W.Frag} {mg : Str → Option Value} {base : Heap} {fd : FuncData}
def spAns (K : PySem.W.Frag) (n : Nat) : Sp := fun vs H Q _ => ∃ (y x nd dn pr dv : Addr) (rs : List Row) (fs : List FRow) (f : FRow) (r : Row) (ds : List PyData) (ps : List Int), vs = [.ref y, .str f.1, .ref nd] ∧ FunsF K H y x fs ∧ KindsF K H x rs ∧ ValidT rs ∧ DrawnF rs fs ∧ f ∈ fs ∧ r ∈ rs ∧ r.1 = f.2.1 ∧
  H nd = some (.ins (CN K) dn (fT4 r.2.1 pr y dv)) ∧ ValsAt H dv r ds ∧ allV (fitB rs n) r.2.2 ds = true ∧ H pr = some (.lst (ps.map V.int)) ∧ ps.length + 63 * wt (.tuple (.str r.2.1 :: ds)) ≤ 10000000 ∧
  ∀ H', But pr H H' → H' pr = some (.lst ((ps ++ (runT rs fs (n + 1) f.1 (.tuple (.str r.2.1 :: ds))).2).map V.int)) → Q (.int (runT rs fs (n + 1) f.1 (.tuple (.str r.2.1 :: ds))).1) H'
def spNAns (K : PySem.W.Frag) (n : Nat) : Sp := fun vs H Q _ => ∃ (y x nd dn pr dv : Addr) (rs : List Row) (fs : List FRow) (g : FRow) (r : Row) (p : Part) (ds : List PyData) (ps : List Int), vs = [.ref nd, .str g.1, .str p.1] ∧ FunsF K H y x fs ∧ KindsF K H x rs ∧ ValidT rs ∧ DrawnF rs fs ∧ g ∈ fs ∧ p ∈ r.2.2 ∧
  H nd = some (.ins (CN K) dn (fT4 r.2.1 pr y dv)) ∧ ValsAt H dv r ds ∧ fitB rs n g.2.1 (valIn r.2.2 ds p.1) = true ∧ H pr = some (.lst (ps.map V.int)) ∧ ps.length + 63 * wt (valIn r.2.2 ds p.1) ≤ 10000000 ∧
  ∀ H', But pr H H' → H' pr = some (.lst ((ps ++ (runT rs fs n g.1 (valIn r.2.2 ds p.1)).2).map V.int)) → Q (.int (runT rs fs n g.1 (valIn r.2.2 ds p.1)).1) H'
theorem ok_na0 : FnOk P w K mg base CX0 5 (He.fAd K ("TreeNode", some "answer")) fd p_TreeNode_answer (spNAns K 0) := by
  refine ⟨fun vs H Q E h => ?_, fun A outer s H args us vs Q E hr e0 hb r h => ?_⟩
  · obtain ⟨_, _, _, _, _, _, _, _, _, _, _, _, _, rfl, _⟩ := h; rfl
  · obtain ⟨_, _, _, _, _, _, _, _, _, _, _, _, _, _, _, _, _, _, _, _, _, _, h, _⟩ := h; cases h
theorem ok_na1 (T : Tx K mg) {n m : Nat} {fa : FuncData} (G : FnOk P w K mg base CX0 m (He.fAd K ("answer_of", none)) fa p_answer_of (spAns K n)) (Fa : FnP K ("answer_of", none) "answer_of" "answer_of" s_answer_of fa) (hm : 4 ≤ m) (F : FnP K ("TreeNode", some "answer") "answer" "TreeNode.answer" s_TreeNode_answer fd) : FnOk P w K mg base CX0 (m + 1) (He.fAd K ("TreeNode", some "answer")) fd p_TreeNode_answer (spNAns K (n + 1)) := by
  refine F.ok (k := m) sc_TreeNode_answer (fun vs H Q E h => ?_) (fun cdv A outer s H vs Q E hr h => ?_)
  · obtain ⟨_, _, _, _, _, _, _, _, _, _, _, _, _, rfl, _⟩ := h; rfl
  obtain ⟨y, x, nd0, dn, pr, dv, rs, fs, g, r, p, ds, ps, rfl, hF, hK, val, D, hg, hp, hnd, ⟨kvs, hdv, kd⟩, fit, hpr, lps, q⟩ := h
  have hu := hu_of hr
  obtain ⟨m2, ds2, r2, ed, er, fit2⟩ := fitB_inv fit
  obtain ⟨hr2, ek, rfl⟩ := rowAt_of er
  obtain ⟨v, ev, tv⟩ := kd.some (List.mem_map_of_mem (f := fun p : Part => p.1) hp)
  rw [ed] at tv lps q
  obtain ⟨ta, xs, rfl, hta, tda⟩ := td_tup tv
  cases tda with
  | @cons v0 ws _ _ t0 tda =>
  cases t0
  obtain ⟨f1, F1⟩ := T.F_TreeNode_init
  have nd := sc_TreeNode_answer.nd
  refine ⟨_, PSs.nox (pss_one (ps_ret (pe_call G (hr.mono (by omega)) (by rfl) T.g_answer_of T.k_answer_of (b_answer_of Fa) .nil pass0 (pa_cons (pe_fld (pv 0) rfl) (pa_cons (pv 1) (pa_cons (pe_make T.mk_TreeNode (ok_tnI T F1) (hr.mono (by omega)) (by rfl) T.g_TreeNode (b_TreeNode_init F1) .nil pass0 (pa_cons (pe_fld (pv 0) rfl) (pa_cons (pe_dget hu (pe_fld (pv 0) rfl) (pv 2) (fun _ _ => rfl)) (pa_cons (pe_fld (pv 0) rfl) pa_nil)))) pa_nil)))))), ?_⟩
  refine ⟨_, rfl, nd0, CN K, dn, _, _, rfl, hnd, T.cl_TreeNode, T.na_TreeNode_functions_, fT_funs, _, rfl, ?_⟩
  refine ⟨_, rfl, nd0, CN K, dn, _, _, rfl, hnd, T.cl_TreeNode, T.na_TreeNode_functions_, fT_funs, _, rfl, nd0, CN K, dn, _, _, rfl, hnd, T.cl_TreeNode, T.na_TreeNode_values_, fT_vals, _, rfl, dv, _, rfl, (by rw [← ev]; exact DGet.k (k := Sum.inr p.1) hdv), _, rfl, nd0, CN K, dn, _, _, rfl, hnd, T.cl_TreeNode, T.na_TreeNode_prints, fT_prints, fun n2 d2 hn2 hd2 ne2 => ?_⟩
  have sA := made_x (C := CN K) hn2 hd2
  refine ⟨n2, d2, y, x, ta, pr, rs, fs, r2, ws, ds2, rfl, upd_same, hF.same sA, hK.same sA, val, hr2, sA _ _ hta, TdAll.mono (tups_of sA) tda, allV_len fit2, fun H2 dv2 b2 hnd2 hv2 => ⟨rfl, ?_⟩⟩
  have s2 : Same H H2 := fun b o e => b2 _ _ (ne_of_none e hn2) (sA _ _ e)
  exact ⟨y, x, n2, d2, pr, dv2, rs, fs, g, r2, ds2, ps, rfl, hF.same s2, hK.same s2, val, D, hg, hr2, ek, hnd2, hv2, fit2, s2 _ _ hpr, lps, fun H3 b3 h3 => q H3 (fun c o n e => b3 _ _ n (s2 _ _ e)) h3⟩
theorem ok_an1 (T : Tx K mg) {n m : Nat} {fn : FuncData} (G : FnOk P w K mg base CX0 m (He.fAd K ("TreeNode", some "answer")) fn p_TreeNode_answer (spNAns K n)) (Fn : FnP K ("TreeNode", some "answer") "answer" "TreeNode.answer" s_TreeNode_answer fn) (hm : 4 ≤ m) (F : FnP K ("answer_of", none) "answer_of" "answer_of" s_answer_of fd) : FnOk P w K mg base CX0 (m + 1) (He.fAd K ("answer_of", none)) fd p_answer_of (spAns K n) := by
  refine F.ok (k := m) sc_answer_of (fun vs H Q E h => ?_) (fun cdv A outer s H vs Q E hr h => ?_)
  · obtain ⟨_, _, _, _, _, _, _, _, _, _, _, _, rfl, _⟩ := h; rfl
  obtain ⟨y, x, nd0, dn, pr, dv, rs, fs, f, r, ds, ps, rfl, hF, hK, val, D, hf, hrr, ek, hnd, hvals, fit, hpr, lps, q⟩ := h
  obtain ⟨dy, tn, dt, df, db, hy, _⟩ := id hF
  have nin : f.1 ∈ fs.map (·.1) := List.mem_map_of_mem hf
  obtain ⟨b0, eb0, dr⟩ := D.has val hf hrr ek
  have hm0 : r.2.1 ∈ f.2.2.2.map (·.1) := by
    obtain ⟨z, hz, e, _⟩ := bodyIn_mem eb0
    exact e ▸ List.mem_map_of_mem hz
  rw [runT_eq val D.nd hf hrr eb0] at q
  have rlen := (runT_ok val D (n + 1) f hf (.tuple (.str r.2.1 :: ds)) (by rw [← ek, fitB_row val.nd hrr]; exact fit)).2
  rw [runT_eq val D.nd hf hrr eb0] at rlen
  let bv : Str → Int := fun p => byteV (valIn r.2.2 ds p)
  have ask0 := ask_ok val hrr fit bv dr
  obtain ⟨_, _, _, _, s5⟩ := stepsB_ok bv b0 [] dr.ok
  have w9 := dr.wt
  let O : Step → Out := outOf (runT rs fs n) bv (valIn r.2.2 ds)
  have q : ∀ H', But pr H H' → H' pr = some (.lst ((ps ++ ((stepsB bv b0).map O).flatMap (·.2)).map V.int)) → Q (.int (foldA f.2.2.1 (((stepsB bv b0).map O).map (·.1)))) H' := q
  have rlen : (((stepsB bv b0).map O).flatMap (·.2)).length ≤ 63 * wt (.tuple (.str r.2.1 :: ds)) := rlen
  generalize hTA : ((stepsB bv b0).map O).map (·.1) = TA at q
  generalize hPA : ps ++ ((stepsB bv b0).map O).flatMap (·.2) = PA at q
  have lPA : PA.length ≤ 10000000 := by rw [← hPA, List.length_append]; omega
  have lTA : TA.length ≤ 63 := by rw [← hTA, List.length_map, List.length_map]; omega
  obtain ⟨f1, F1⟩ := T.F_Functions_body
  obtain ⟨f2, F2⟩ := T.F_TreeNode_byte_of
  obtain ⟨f3, F3⟩ := T.F_folded
  obtain ⟨f4, F4⟩ := T.F_Functions_fold
  have nd := sc_answer_of.nd
  refine ⟨_, PSs.nox (pss_cons (ps_set (i := 3) nd rfl (.inl rfl) (pe_lst pa_nil))
    (pss_cons (ps_set (i := 4) nd rfl (.inl rfl) (pe_meth (pv 0) T.cl_Functions T.m_Functions_body (okc_fbody T F1) (hr.mono (by omega)) (b_Functions_body F1) .nil pass0 (pa_cons (pv 1) (pa_cons (pe_fld (pv 2) rfl) pa_nil))))
    (pss_cons (ps_while PassesOwn.never (pt_cmpR op_gt (pe_callB call_len_seq (by rfl) T.n_len PySem.boot_len (pa_cons (pv 4) pa_nil)) pe_int (nomark _))
      (pss_cons (ps_set (i := 5) nd rfl (.inl rfl) (pe_tup pa_nil))
      (pss_cons (ps_for PassesOwn.never rfl (pi_tup (pv 4)) (pg_name (i := 6) nd rfl (Or.inl rfl))
        (pss_one (ps_if (pt_cmpR op_eq (pe_ix ix_tup (pv 6) pe_int (fun _ _ => rfl)) pe_str (nomark _))
          (pss_cons (ps_expr (pe_bm PySem.F.plainAttrs_list PySem.F.slot_list_append PySem.F.type_list_append mt_append (pe_fld (pv 2) rfl) (pa_cons (pe_ix ix_tup (pv 6) pe_int (fun _ _ => rfl)) pa_nil)))
          (pss_one (ps_expr (pe_bm PySem.F.plainAttrs_list PySem.F.slot_list_append PySem.F.type_list_append mt_append (pv 3) (pa_cons (pe_ix ix_tup (pv 6) pe_int (fun _ _ => rfl)) pa_nil)))))
          (pss_one (ps_if (pt_cmpR op_eq (pe_ix ix_tup (pv 6) pe_int (fun _ _ => rfl)) pe_str (nomark _))
            (pss_cons (ps_set (i := 7) nd rfl (.inl rfl) (pe_meth (pv 2) T.cl_TreeNode T.m_TreeNode_byte_of (ok_tnb T F2) (hr.mono (by omega)) (b_TreeNode_byte_of F2) .nil pass0 (pa_cons (pe_ix ix_tup (pv 6) pe_int (fun _ _ => rfl)) pa_nil)))
            (pss_cons (ps_expr (pe_bm PySem.F.plainAttrs_list PySem.F.slot_list_append PySem.F.type_list_append mt_append (pe_fld (pv 2) rfl) (pa_cons (pv 7) pa_nil)))
            (pss_one (ps_expr (pe_bm PySem.F.plainAttrs_list PySem.F.slot_list_append PySem.F.type_list_append mt_append (pv 3) (pa_cons (pv 7) pa_nil))))))
            (pss_one (ps_if (pt_cmpR op_eq (pe_ix ix_tup (pv 6) pe_int (fun _ _ => rfl)) pe_str (nomark _))
              (pss_one (ps_expr (pe_bm PySem.F.plainAttrs_list PySem.F.slot_list_append PySem.F.type_list_append mt_append (pv 3) (pa_cons (pe_meth (pv 2) T.cl_TreeNode T.m_TreeNode_answer G (hr.mono (by omega)) (b_TreeNode_answer Fn) .nil pass0 (pa_cons (pe_ix ix_tup (pv 6) pe_int (fun _ _ => rfl)) (pa_cons (pe_ix ix_tup (pv 6) pe_int (fun _ _ => rfl)) pa_nil))) pa_nil))))
              (pss_one (ps_set (i := 5) nd rfl (.inl rfl) (pe_ifExp (pt_cmpR op_lt (pe_meth (pv 2) T.cl_TreeNode T.m_TreeNode_byte_of (ok_tnb T F2) (hr.mono (by omega)) (b_TreeNode_byte_of F2) .nil pass0 (pa_cons (pe_ix ix_tup (pv 6) pe_int (fun _ _ => rfl)) pa_nil)) (pe_ix ix_tup (pv 6) pe_int (fun _ _ => rfl)) (nomark _)) (pe_ix ix_tup (pv 6) pe_int (fun _ _ => rfl)) (pe_ix ix_tup (pv 6) pe_int (fun _ _ => rfl))))))))))))
      (pss_one (ps_set (i := 4) nd rfl (.inl rfl) (pv 5))))))
    (pss_one (ps_ret (pe_call (ok_folded T F3) (hr.mono (by omega)) (by rfl) T.g_folded T.k_folded (b_folded F3) .nil pass0 (pa_cons (pe_meth (pv 0) T.cl_Functions T.m_Functions_fold (ok_ffold T F4) (hr.mono (by omega)) (b_Functions_fold F4) .nil pass0 (pa_cons (pv 1) pa_nil)) (pa_cons (pv 3) pa_nil)))))))), ?_⟩
  refine ⟨Nat.zero_le _, fun tk htk => ?_⟩
  have s1 := same_new (o := .lst []) htk
  have ntp : tk ≠ pr := fun e => by rw [e, hpr] at htk; cases htk
  -- what holds of the heap
  let Hd' : Hp → Prop := fun G => But pr H G ∧ G nd0 = some (.ins (CN K) dn (fT4 r.2.1 pr y dv)) ∧ ValsAt G dv r ds ∧ FunsF K G y x fs ∧ KindsF K G x rs
  have nfp : ∀ u, Fixed u → H pr ≠ some u := fun u ff e => by rw [hpr] at e; cases e; exact ff
  have mk : ∀ G, But pr H G → Hd' G := fun G bG => ⟨bG, bG _ _ (ne_of hnd hpr (by intro z; cases z)) hnd, hvals.mono (but_tups bG nfp) (fun o e => bG _ _ (fun z => by obtain ⟨_, e2, _⟩ := hvals; rw [z, hpr] at e2; cases e2) e), hF.butL hpr bG, hK.but hpr bG⟩
  refine ⟨_, rfl, y, dy, _, rfl, s1 _ _ hy, fF_none (by decide +kernel), _, rfl, _, rfl, nd0, CN K, dn, _, _, rfl, s1 _ _ hnd, T.cl_TreeNode, T.na_TreeNode_maker, fT_maker, ?_⟩
  refine ⟨y, x, f.1, r.2.1, fs, rfl, hF.same s1, D.nd, fun g hg e => ?_, fun z => absurd nin z⟩
  cases name_uniq D.nd hg hf e
  refine ⟨fun b eb v0 tb0 => ?_, fun z => absurd hm0 z⟩
  rw [eb0] at eb
  cases eb
  let C : List Step → Nat := fun l => (l.map fun t => 1 + 63 * ((asksOf t).map fun x => wt (valIn r.2.2 ds x)).sum).sum
  have C_app : ∀ a b, C (a ++ b) = C a + C b := fun a b => by show (List.map _ (a ++ b)).sum = _; rw [List.map_append, List.sum_append]
  have C_le : ∀ l : List Step, C l = l.length + 63 * ((l.flatMap asksOf).map fun x => wt (valIn r.2.2 ds x)).sum := fun l => by
    induction l with
    | nil => rfl
    | cons t l ih =>
      show 1 + 63 * ((asksOf t).map fun x => wt (valIn r.2.2 ds x)).sum + C l = _
      rw [ih, List.flatMap_cons, List.map_append, List.sum_append, List.length_cons]; omega
  have c0 : ps.length + C (stepsB bv b0) ≤ 10000000 := by
    obtain ⟨_, z2, _, z4, z5⟩ := stepsB_ok bv b0 [] dr.ok
    have h2 := valIn_wt r.2.2 ds ((stepsB bv b0).flatMap asksOf) z2 (fun x hx => by
      obtain ⟨t, ht, hx⟩ := List.mem_flatMap.mp hx
      obtain ⟨as, ok⟩ := z4 t ht
      exact stepB_part ok x hx) (allV_len fit)
    have e : wt (.tuple (.str r.2.1 :: ds)) = 2 + wtAll ds := by rw [wt, wtAll]; simp [wt]; omega
    rw [C_le]
    rw [e] at lps
    omega
  let Inv : Nat → L2.St → Hp → Prop := fun k σ G => ∃ (v : V) (b : Body) (as : List Str) (U P' : List Int) (v5 v6 v7 : Option V), σ = [some (.ref y), some (.str f.1), some (.ref nd0), some (.ref tk), some v, v5, v6, v7] ∧ But pr H G ∧ G tk = some (.lst (U.map V.int)) ∧ G pr = some (.lst (P'.map V.int)) ∧ Td G v (bodyD b) ∧ bodyB r as b = true ∧ OddOk b ∧ k = bwt b ∧
    U ++ ((stepsB bv b).map O).map (·.1) = TA ∧ P' ++ ((stepsB bv b).map O).flatMap (·.2) = PA ∧ AskOk rs fs n r ds (stepsB bv b) ∧ P'.length + C (stepsB bv b) ≤ 10000000
  refine ⟨Inv, ⟨_, v0, b0, [], [], ps, _, _, _, rfl, but_of s1, upd_same, s1 _ _ hpr, tb0, dr.ok, dr.odd, rfl, by rw [← hTA]; rfl, hPA, ask0, c0⟩, fun k σ G inv => ?_⟩
  obtain ⟨v, b, as, U, P', v5, v6, v7, rfl, bG, htkG, hprG, tb, ob, od, rfl, eT, eP, ask, cb⟩ := inv
  obtain ⟨a, xs, rfl, hta, tda⟩ := td_tup tb
  have lx : xs.length = b.length := by rw [tda.length, bodyDs_length]
  refine ⟨_, rfl, a, _, rfl, .inr (SqT.of hta), _, _, rfl, rfl, _, rfl, ?_⟩
  by_cases hb : b = []
  · -- nothing follows
    subst hb
    refine iteFe (decide_eq_false (by rw [lx]; simp)) ?_
    rw [stepsB] at eT eP
    simp only [List.map_nil, List.append_nil, List.flatMap_nil] at eT eP
    subst eT eP
    obtain ⟨_, _, _, hFG, _⟩ := mk G bG
    obtain ⟨dyG, _, _, _, _, hyG, _⟩ := id hFG
    refine ⟨_, rfl, y, dyG, _, rfl, hyG, fF_none (by decide +kernel), _, rfl, y, x, fs, f, rfl, hFG, D.nd, hf, _, rfl, f.2.2.1, tk, U, rfl, htkG, fun z hz => ?_, q G bG hprG⟩
    rw [← hTA] at hz
    obtain ⟨o, ho, rfl⟩ := List.mem_map.mp hz
    obtain ⟨t, ht, rfl⟩ := List.mem_map.mp ho
    rcases ask0.all t ht with ⟨k, rfl, k0, _⟩ | ⟨p, hp, rfl, _, i, ei, i0, _⟩ | ⟨p, hp, g, hg, rfl, e, nb, fg⟩
    · exact k0
    · show 0 ≤ byteV (valIn r.2.2 ds p.1); rw [ei]; exact i0
    · exact (runT_ok val D n g hg _ fg).1
  have bpos : 0 < b.length := List.length_pos_iff.mpr hb
  have wpos : 0 < bwt b := by cases b with | nil => exact absurd rfl hb | cons s l => rw [bwt]; cases s <;> simp [swt] <;> omega
  refine iteTe (decide_eq_true (by show ((0 : Nat) : Int) < ((xs.length : Nat) : Int); omega)) ⟨fun σ' G' => ∃ m', m' < bwt b ∧ Inv m' σ' G', fun _ _ h => h, ?_⟩
  refine ⟨by show 0 ≤ sizeLine; decide, fun fo hfo => ?_⟩
  have sf := same_new (o := .tup []) hfo
  refine ⟨_, rfl, a, rfl, ⟨_, SqT.of (sf _ _ hta)⟩, for_it (walk_tup (K := K) (a := a) (xs := xs)) (fun i σ G2 => ∃ (fv : V) (fb : Body) (as2 as3 : List Str) (U P' : List Int) (v6 v7 : Option V), σ = [some (.ref y), some (.str f.1), some (.ref nd0), some (.ref tk), some (.ref a), some fv, v6, v7] ∧ But pr H G2 ∧ G2 a = some (.tup xs) ∧ TdAll G2 xs (bodyDs b) ∧ G2 tk = some (.lst (U.map V.int)) ∧ G2 pr = some (.lst (P'.map V.int)) ∧ Td G2 fv (bodyD fb) ∧ bodyB r as3 fb = true ∧ OddOk fb ∧ bwt fb < bwt b ∧ (fb = [] ∨ b.drop i = []) ∧ bodyB r as2 (b.drop i) = true ∧
      U ++ ((stepsB bv (b.drop i) ++ stepsB bv fb).map O).map (·.1) = TA ∧ P' ++ ((stepsB bv (b.drop i) ++ stepsB bv fb).map O).flatMap (·.2) = PA ∧ AskOk rs fs n r ds (stepsB bv (b.drop i) ++ stepsB bv fb) ∧ P'.length + C (stepsB bv (b.drop i) ++ stepsB bv fb) ≤ 10000000)
    ⟨.ref fo, [], as, [], U, P', _, _, rfl, bG.trans (but_of sf), sf _ _ hta, TdAll.mono (tups_of sf) tda, sf _ _ htkG, sf _ _ hprG, .tup upd_same (by rw [bodyDs]; exact .nil), by rw [bodyB], by rw [OddOk]; trivial, by rw [bwt]; exact wpos, .inl rfl, ob, by rw [stepsB, List.append_nil]; exact eT, by rw [stepsB, List.append_nil]; exact eP, by rw [stepsB, List.append_nil]; exact ask, by rw [stepsB, List.append_nil]; exact cb⟩ (fun i σ G2 _ z => by obtain ⟨_, _, _, _, _, _, _, _, _, _, z, _⟩ := z; exact SqT.of z) ?_ ?_⟩
  rotate_left
  · rintro σ G2 ⟨fv, fb, as2, as3, U, P', v6, v7, rfl, bG2, _, _, htk2, hpr2, tfb, ofb, odf, lfb, _, _, eT2, eP2, ask2, cb2⟩
    rw [lx, List.drop_length, stepsB, List.nil_append] at eT2 eP2 ask2 cb2
    exact ⟨_, rfl, bwt fb, lfb, fv, fb, as3, U, P', _, _, _, rfl, bG2, htk2, hpr2, tfb, ofb, odf, rfl, eT2, eP2, ask2, cb2⟩
  rintro i z σ G0 G2 hi ⟨fv, fb, as2, as3, U, P', v6, v7, rfl, bG2, hta2, tda2, htk2, hpr2, tfb, ofb, odf, lfb, lst, hbv, eT2, eP2, ask2, cb2⟩ ⟨rfl, hz⟩
  obtain ⟨d, hd, tdi⟩ := TdAll.at_ tda2 hz
  rw [bodyDs_get, Option.map_eq_some_iff] at hd
  obtain ⟨st, hst, rfl⟩ := hd
  have odi := oddOk_get od hst
  have li := (List.getElem?_eq_some_iff.mp hst).1
  have drop : b.drop i = st :: b.drop (i + 1) := by
    rw [List.drop_eq_getElem_cons li]
    congr 1
    rw [List.getElem?_eq_getElem li] at hst
    exact Option.some.inj hst
  have fnil : fb = [] := lst.resolve_right (by rw [drop]; simp)
  subst fnil
  rw [drop, bodyB_cons, Bool.and_eq_true, Bool.and_eq_true] at hbv
  obtain ⟨⟨hb1, hb2⟩, hb3⟩ := hbv
  have esn : stepsB bv [] = [] := by rw [stepsB]
  have ecs : stepsB bv (st :: b.drop (i + 1)) = stepsS bv st ++ stepsB bv (b.drop (i + 1)) := by rw [stepsB]
  rw [drop, ecs, esn, List.append_nil] at eT2 eP2 ask2 cb2
  obtain ⟨_, hnd2, hv2, hF2, hK2⟩ := mk G2 bG2
  obtain ⟨dy2, _, _, _, _, hy2, _⟩ := id hF2
  have lP' : P'.length ≤ 10000000 := by
    have := congrArg List.length eP2
    rw [List.length_append] at this; omega
  have lT' : U.length ≤ 63 := by
    have := congrArg List.length eT2
    rw [List.length_append] at this; omega
  -- a number is printed and taken
  have put2 : ∀ (G3 : Hp), G3 = G2 → ∀ (k : Int), But pr H (upd (upd G3 pr (.lst (P'.map V.int ++ [V.int k]))) tk (.lst (U.map V.int ++ [V.int k]))) ∧ (upd G3 pr (.lst (P'.map V.int ++ [V.int k]))) tk = some (.lst (U.map V.int)) ∧ (upd (upd G3 pr (.lst (P'.map V.int ++ [V.int k]))) tk (.lst (U.map V.int ++ [V.int k]))) tk = some (.lst ((U ++ [k]).map V.int)) ∧
      (upd (upd G3 pr (.lst (P'.map V.int ++ [V.int k]))) tk (.lst (U.map V.int ++ [V.int k]))) pr = some (.lst ((P' ++ [k]).map V.int)) ∧ Tups G2 (upd G3 pr (.lst (P'.map V.int ++ [V.int k]))) ∧ Tups G2 (upd (upd G3 pr (.lst (P'.map V.int ++ [V.int k]))) tk (.lst (U.map V.int ++ [V.int k]))) := fun G3 e k => by
    subst e
    have htk3 : (upd G3 pr (.lst (P'.map V.int ++ [V.int k]))) tk = some (.lst (U.map V.int)) := by rw [upd_ne ntp]; exact htk2
    have t1 := tups_upd (H := G3) (p := pr) (o := .lst (P'.map V.int ++ [V.int k])) fun u ff zz => by rw [hpr2] at zz; cases zz; exact ff
    have t2 := tups_upd (H := upd G3 pr (.lst (P'.map V.int ++ [V.int k]))) (p := tk) (o := .lst (U.map V.int ++ [V.int k])) fun u ff zz => by rw [htk3] at zz; cases zz; exact ff
    refine ⟨fun c o n e => ?_, htk3, by rw [upd_same, List.map_append]; rfl, by rw [upd_ne ntp.symm, upd_same, List.map_append]; rfl, t1, t1.trans t2⟩
    rw [upd_ne (ne_of_none e htk), upd_ne n]
    exact bG2 _ _ n e
  have tail : ∀ {s : Step}, stepsS bv st = [s] → ∀ t ∈ stepsB bv (b.drop (i + 1)), t ∈ stepsS bv st ++ stepsB bv (b.drop (i + 1)) := fun _ t ht => List.mem_append_right _ ht
  have eT3 : ∀ {s : Step}, stepsS bv st = [s] → (U ++ [(O s).1]) ++ ((stepsB bv (b.drop (i + 1)) ++ stepsB bv []).map O).map (·.1) = TA := fun e => by rw [← eT2, e, esn]; simp
  have eP3 : ∀ {s : Step}, stepsS bv st = [s] → (P' ++ (O s).2) ++ ((stepsB bv (b.drop (i + 1)) ++ stepsB bv []).map O).flatMap (·.2) = PA := fun e => by rw [← eP2, e, esn]; simp
  have ask3 : AskOk rs fs n r ds (stepsB bv (b.drop (i + 1)) ++ stepsB bv []) := ⟨fun t ht => ask2.all t (List.mem_append_right _ (by rw [esn, List.append_nil] at ht; exact ht))⟩
  have c3 : ∀ {s : Step} (k : Nat), stepsS bv st = [s] → k ≤ 1 + 63 * ((asksOf s).map fun x => wt (valIn r.2.2 ds x)).sum → (P'.length + k) + C (stepsB bv (b.drop (i + 1)) ++ stepsB bv []) ≤ 10000000 := fun {s} k e hk => by
    rw [e, C_app] at cb2
    rw [esn, List.append_nil]
    have : C [s] = 1 + 63 * ((asksOf s).map fun x => wt (valIn r.2.2 ds x)).sum := by show (1 + _) + 0 = _; omega
    omega
  cases st with
  | odd wd ws2 => rw [stepB] at hb2; cases hb2
  | say k =>
    unfold stepD at tdi
    obtain ⟨sa, sxs, rfl, hsa, tsa⟩ := td_tup tdi
    cases tsa with
    | cons u0 tsa =>
    cases tsa with
    | cons u1 tsa =>
    cases tsa
    cases u0; cases u1
    obtain ⟨p1, p2, p3, p4, p5, p6⟩ := put2 G2 rfl k
    have es : stepsS bv (.say k) = [.say k] := by rw [stepsS]
    refine ⟨_, rfl, sa, _, _, _, rfl, rfl, SqT.of hsa, atI_nat (j := 0) rfl, rfl, _, rfl, iteTe (by decide +kernel) ?_⟩
    refine ⟨_, rfl, nd0, CN K, dn, _, _, rfl, hnd2, T.cl_TreeNode, T.na_TreeNode_prints, fT_prints, .inl ⟨rfl, _, SqL.of hpr2⟩, _, rfl, sa, _, _, _, rfl, rfl, SqT.of hsa, atI_nat (j := 1) rfl, pr, _, _, rfl, rfl, hpr2, lt10 (by rw [List.length_map]; exact lP'), ?_⟩
    refine ⟨_, rfl, .inl ⟨rfl, _, SqL.of p2⟩, _, rfl, sa, _, _, _, rfl, rfl, SqT.of (p5 _ (.tup _) trivial hsa), atI_nat (j := 1) rfl, tk, _, _, rfl, rfl, p2, small1000 (by rw [List.length_map]; omega), ?_⟩
    exact ⟨fv, [], _, as3, U ++ [k], P' ++ [k], _, _, rfl, p1, p6 _ (.tup _) trivial hta2, TdAll.mono p6 tda2, p3, p4, tfb.mono p6, ofb, odf, lfb, .inl rfl, hb3, eT3 es, eP3 es, ask3, by rw [List.length_append]; exact c3 1 es (by omega)⟩
  | read p =>
    unfold stepD at tdi
    obtain ⟨sa, sxs, rfl, hsa, tsa⟩ := td_tup tdi
    cases tsa with
    | cons u0 tsa =>
    cases tsa with
    | cons u1 tsa =>
    cases tsa
    cases u0; cases u1
    have es : stepsS bv (.read p) = [.read p] := by rw [stepsS]
    obtain ⟨q0, hq0, e0, _, k, ek0, _⟩ : ∃ q ∈ r.2.2, q.1 = p ∧ q.2.1 = ("byte" : Str) ∧ ∃ i : Int, valIn r.2.2 ds p = .int i ∧ 0 ≤ i ∧ i ≤ 255 := by
      rcases ask2.all (.read p) (List.mem_append_left _ (by rw [es]; simp)) with ⟨k, e, _⟩ | ⟨q, hq, e, eb, i, ei, i0, i1⟩ | ⟨q, hq, g, hg, e, _⟩
      · cases e
      · cases e; exact ⟨q, hq, rfl, eb, i, ei, i0, i1⟩
      · cases e
    obtain ⟨p1, p2, p3, p4, p5, p6⟩ := put2 G2 rfl k
    have eO : O (.read p) = (k, [k]) := by show (bv p, [bv p]) = (k, [k]); have : bv p = k := by show byteV (valIn r.2.2 ds p) = k; rw [ek0]; rfl
                                           rw [this]
    refine ⟨_, rfl, sa, _, _, _, rfl, rfl, SqT.of hsa, atI_nat (j := 0) rfl, rfl, _, rfl, iteFe (by decide +kernel) ?_⟩
    refine ⟨_, rfl, sa, _, _, _, rfl, rfl, SqT.of hsa, atI_nat (j := 0) rfl, rfl, _, rfl, iteTe (by decide +kernel) ?_⟩
    refine ⟨_, rfl, nd0, dn, _, rfl, hnd2, fT_none (by decide +kernel), _, rfl, sa, _, _, _, rfl, rfl, SqT.of hsa, atI_nat (j := 1) rfl, nd0, dn, y, pr, dv, r.2.1, r, ds, p, rfl, hnd2, hv2, e0 ▸ List.mem_map_of_mem hq0, fun vv tvv => ?_⟩
    rw [ek0] at tvv
    cases tvv
    refine ⟨_, rfl, nd0, CN K, dn, _, _, rfl, hnd2, T.cl_TreeNode, T.na_TreeNode_prints, fT_prints, .inl ⟨rfl, _, SqL.of hpr2⟩, _, rfl, pr, _, _, rfl, rfl, hpr2, lt10 (by rw [List.length_map]; exact lP'), ?_⟩
    refine ⟨_, rfl, .inl ⟨rfl, _, SqL.of p2⟩, _, rfl, tk, _, _, rfl, rfl, p2, small1000 (by rw [List.length_map]; omega), ?_⟩
    have x1 := eT3 es
    have x2 := eP3 es
    rw [eO] at x1 x2
    exact ⟨fv, [], _, as3, U ++ [k], P' ++ [k], _, _, rfl, p1, p6 _ (.tup _) trivial hta2, TdAll.mono p6 tda2, p3, p4, tfb.mono p6, ofb, odf, lfb, .inl rfl, hb3, x1, x2, ask3, by rw [List.length_append]; exact c3 1 es (by omega)⟩
  | call g0 p0 =>
    unfold stepD at tdi
    obtain ⟨sa, sxs, rfl, hsa, tsa⟩ := td_tup tdi
    cases tsa with
    | cons u0 tsa =>
    cases tsa with
    | cons u1 tsa =>
    cases tsa with
    | cons u2 tsa =>
    cases tsa
    cases u0; cases u1; cases u2
    have es : stepsS bv (.call g0 p0) = [.call g0 p0] := by rw [stepsS]
    obtain ⟨p, hp, g, hg, e1, e2, fg⟩ : ∃ q ∈ r.2.2, ∃ g ∈ fs, g0 = g.1 ∧ p0 = q.1 ∧ fitB rs n g.2.1 (valIn r.2.2 ds q.1) = true := by
      rcases ask2.all (.call g0 p0) (List.mem_append_left _ (by rw [es]; simp)) with ⟨k, e, _⟩ | ⟨q, hq, e, _⟩ | ⟨q, hq, g, hg, e, _, _, fg⟩
      · cases e
      · cases e
      · cases e; exact ⟨q, hq, g, hg, rfl, rfl, fg⟩
    subst e1 e2
    have x1 := eT3 es
    have x2 := eP3 es
    have lw : P'.length + 63 * wt (valIn r.2.2 ds p.1) ≤ 10000000 := by
      have := c3 (1 + 63 * wt (valIn r.2.2 ds p.1)) es (by simp [asksOf])
      omega
    refine ⟨_, rfl, sa, _, _, _, rfl, rfl, SqT.of hsa, atI_nat (j := 0) rfl, rfl, _, rfl, iteFe (by decide +kernel) ?_⟩
    refine ⟨_, rfl, sa, _, _, _, rfl, rfl, SqT.of hsa, atI_nat (j := 0) rfl, rfl, _, rfl, iteFe (by decide +kernel) ?_⟩
    refine ⟨_, rfl, sa, _, _, _, rfl, rfl, SqT.of hsa, atI_nat (j := 0) rfl, rfl, _, rfl, iteTe (by decide +kernel) ?_⟩
    refine ⟨_, rfl, .inl ⟨rfl, _, SqL.of htk2⟩, _, rfl, nd0, dn, _, rfl, hnd2, fT_none (by decide +kernel), _, rfl, sa, _, _, _, rfl, rfl, SqT.of hsa, atI_nat (j := 1) rfl, _, rfl, sa, _, _, _, rfl, rfl, SqT.of hsa, atI_nat (j := 2) rfl, ?_⟩
    refine ⟨y, x, nd0, dn, pr, dv, rs, fs, g, r, p, ds, P', rfl, hF2, hK2, val, D, hg, hp, hnd2, hv2, fg, hpr2, lw, fun G3 b3 hpr3 => ?_⟩
    have htk3 := b3 _ _ ntp htk2
    have nf2 : ∀ u, Fixed u → G2 pr ≠ some u := fun u ff e => by rw [hpr2] at e; cases e; exact ff
    have t3 := but_tups b3 nf2
    generalize hrr0 : runT rs fs n g.1 (valIn r.2.2 ds p.1) = rr at hpr3
    have eO : O (.call g.1 p.1) = rr := hrr0
    rw [eO] at x1 x2
    have t4 := t3.trans (tups_upd (H := G3) (p := tk) (o := .lst (U.map V.int ++ [V.int rr.1])) fun u ff zz => by rw [htk3] at zz; cases zz; exact ff)
    refine ⟨tk, _, _, rfl, rfl, htk3, small1000 (by rw [List.length_map]; omega), ?_⟩
    refine ⟨fv, [], _, as3, U ++ [rr.1], P' ++ rr.2, _, _, rfl, fun c o nn e => ?_, t4 _ (.tup _) trivial hta2, TdAll.mono t4 tda2, by rw [upd_same, List.map_append]; rfl, by rw [upd_ne ntp.symm]; exact hpr3, tfb.mono t4, ofb, odf, lfb, .inl rfl, hb3, x1, x2, ask3, ?_⟩
    rotate_left
    · rw [List.length_append]
      refine c3 rr.2.length es ?_
      have := (runT_ok val D n g hg _ fg).2
      rw [hrr0] at this
      simp [asksOf]; omega
    rw [upd_ne (ne_of_none e htk)]
    exact b3 _ _ nn (bG2 _ _ nn e)
  | br p c ba bb =>
    unfold stepD at tdi
    unfold OddOkS at odi
    rw [stepB_br] at hb2
    simp only [Bool.and_eq_true] at hb2
    obtain ⟨⟨⟨⟨⟨hbp, _⟩, _⟩, _⟩, ok1⟩, ok2⟩ := hb2
    unfold bodyOk at ok1 ok2
    rw [Bool.and_eq_true] at ok1 ok2
    have hb1 : (b.drop (i + 1)).isEmpty = true := hb1
    have hnil : b.drop (i + 1) = [] := List.isEmpty_iff.mp hb1
    obtain ⟨q0, hq0, rfl, eq0⟩ := byteP_mem hbp
    rw [hold_kind (val.each.good r hrr).2.2 hq0] at eq0
    obtain ⟨k, ek0⟩ : ∃ i : Int, valIn r.2.2 ds q0.1 = .int i := by
      have v := valIn_fit val hrr fit hq0
      unfold valB at v
      rw [if_pos eq0] at v
      unfold byteB at v
      split at v
      · rename_i i ei; exact ⟨i, ei⟩
      · cases v
    obtain ⟨sa, sxs, rfl, hsa, tsa⟩ := td_tup tdi
    cases tsa with
    | cons u0 tsa =>
    cases tsa with
    | cons u1 tsa =>
    cases tsa with
    | cons u2 tsa =>
    cases tsa with
    | cons ua tsa =>
    cases tsa with
    | cons ub tsa =>
    cases tsa
    cases u0; cases u1; cases u2
    rename_i va vb
    have ebv : bv q0.1 = k := by show byteV (valIn r.2.2 ds q0.1) = k; rw [ek0]; rfl
    have ess : stepsS bv (.br q0.1 c ba bb) = if k < c then stepsB bv ba else stepsB bv bb := by rw [stepsS, ebv]
    rw [hnil, esn, List.append_nil, ess] at eT2 eP2 ask2 cb2
    have wlt : bwt ba < bwt b ∧ bwt bb < bwt b := by
      have := swt_get hst
      rw [swt] at this; omega
    refine ⟨_, rfl, sa, _, _, _, rfl, rfl, SqT.of hsa, atI_nat (j := 0) rfl, rfl, _, rfl, iteFe (by decide +kernel) ?_⟩
    refine ⟨_, rfl, sa, _, _, _, rfl, rfl, SqT.of hsa, atI_nat (j := 0) rfl, rfl, _, rfl, iteFe (by decide +kernel) ?_⟩
    refine ⟨_, rfl, sa, _, _, _, rfl, rfl, SqT.of hsa, atI_nat (j := 0) rfl, rfl, _, rfl, iteFe (by decide +kernel) ?_⟩
    refine ⟨_, rfl, nd0, dn, _, rfl, hnd2, fT_none (by decide +kernel), _, rfl, sa, _, _, _, rfl, rfl, SqT.of hsa, atI_nat (j := 1) rfl, nd0, dn, y, pr, dv, r.2.1, r, ds, q0.1, rfl, hnd2, hv2, List.mem_map_of_mem hq0, fun vv tvv => ?_⟩
    rw [ek0] at tvv
    cases tvv
    refine ⟨_, rfl, sa, _, _, _, rfl, rfl, SqT.of hsa, atI_nat (j := 2) rfl, _, _, rfl, rfl, _, rfl, ?_⟩
    by_cases hlt : k < c
    · rw [if_pos hlt] at eT2 eP2 ask2 cb2
      refine iteTe (decide_eq_true hlt) ⟨_, rfl, sa, _, _, _, rfl, rfl, SqT.of hsa, atI_nat (j := 3) rfl, ?_⟩
      exact ⟨va, ba, as2 ++ asksOf (.br q0.1 c ba bb), as2 ++ [q0.1], U, P', _, _, rfl, bG2, hta2, tda2, htk2, hpr2, ua, ok1.2, odi.1, wlt.1, .inr hnil, hb3, by rw [hnil, esn]; exact eT2, by rw [hnil, esn]; exact eP2, by rw [hnil, esn]; exact ask2, by rw [hnil, esn]; exact cb2⟩
    · rw [if_neg hlt] at eT2 eP2 ask2 cb2
      refine iteFe (decide_eq_false hlt) ⟨_, rfl, sa, _, _, _, rfl, rfl, SqT.of hsa, atI_nat (j := 4) rfl, ?_⟩
      exact ⟨vb, bb, as2 ++ asksOf (.br q0.1 c ba bb), as2 ++ [q0.1], U, P', _, _, rfl, bG2, hta2, tda2, htk2, hpr2, ub, ok2.2, odi.2, wlt.2, .inr hnil, hb3, by rw [hnil, esn]; exact eT2, by rw [hnil, esn]; exact eP2, by rw [hnil, esn]; exact ask2, by rw [hnil, esn]; exact cb2⟩
theorem okAns (T : Tx K mg) {fn : FuncData} (Fn : FnP K ("TreeNode", some "answer") "answer" "TreeNode.answer" s_TreeNode_answer fn) (F : FnP K ("answer_of", none) "answer_of" "answer_of" s_answer_of fd) : ∀ n, FnOk P w K mg base CX0 (2 * n + 6) (He.fAd K ("answer_of", none)) fd p_answer_of (spAns K n)
  | 0 => ok_an1 T ok_na0 Fn (by decide) F
  | n + 1 => ok_an1 T (ok_na1 T (okAns T Fn F n) F (by omega) Fn) Fn (by omega) F
end
end Bg
set_option Elab.async false
set_option linter.all false
set_option maxRecDepth 100000
set_option maxHeartbeats 4000000
namespace Bg
open PySem PySem.Spec PyProof.Rows L2
section
variable {P : Program} {w : World} {K : PySem.W.Frag} {mg : Str → Option Value} {base : Heap} {fd fd2 : FuncData}
theorem fits_both (T : Tx K mg) (F1 : FnP K ("Kinds", some "_tree_fits") "_tree_fits" "Kinds._tree_fits" s_Kinds_tree_fits fd) (F2 : FnP K ("Kinds", some "_value_fits") "_value_fits" "Kinds._value_fits" s_Kinds_value_fits fd2) : ∀ n : Nat,
    FnOk P w K mg base CX0 (2 * n + 2) (He.fAd K ("Kinds", some "_tree_fits")) fd ["self", "tree", "kind", "levels"] (spTF K n) ∧ FnOk P w K mg base CX0 (2 * n + 3) (He.fAd K ("Kinds", some "_value_fits")) fd2 ["self", "value", "inner", "levels"] (spVF K n)
  | 0 => have G := ok_tree_fits0 T F1
    ⟨G, ok_value_fits (n := 0) T G (b_Kinds_tree_fits F1) F2⟩
  | n + 1 => have ih := fits_both T F1 F2 n
    have G : FnOk P w K mg base CX0 (2 * (n + 1) + 2) (He.fAd K ("Kinds", some "_tree_fits")) fd ["self", "tree", "kind", "levels"] (spTF K (n + 1)) := ok_tree_fits1 T ih.2 (b_Kinds_value_fits F2) F1
    ⟨G, ok_value_fits T G (b_Kinds_tree_fits F1) F2⟩
def spFits (K : PySem.W.Frag) : Sp := fun vs H Q _ => ∃ (x : Addr) (v : V) (k : Str) (rs : List Row) (d : PyData), vs = [.ref x, v, .str k] ∧ KindsF K H x rs ∧ ValidT rs ∧ k ∈ rkinds rs ∧ Td H v d ∧ Hd d ∧ ∀ H', Same H H' → Q (.bl (fitB rs 40 k d)) H'
theorem ok_fits (T : Tx K mg) (F : FnP K ("Kinds", some "fits") "fits" "Kinds.fits" s_Kinds_fits fd) : FnOk P w K mg base CX0 83 (He.fAd K ("Kinds", some "fits")) fd ["self", "tree", "kind"] (spFits K) := by
  obtain ⟨f1, F1⟩ := T.F_Kinds_tree_fits
  obtain ⟨f2, F2⟩ := T.F_Kinds_value_fits
  obtain ⟨tL, mL⟩ := T.c_MOST_LEVELS
  refine F.ok (k := 82) sc_Kinds_fits (fun vs H Q E h => ?_) (fun cdv A outer s H vs Q E hr h => ?_)
  · obtain ⟨_, _, _, _, _, rfl, _⟩ := h; rfl
  obtain ⟨x, v, k, rs, d, rfl, hK, val, hk, td, hd, q⟩ := h
  have hu := hu_of hr
  obtain ⟨dx, dm, dk, dp, dl, tn, to, h0, mvs, kvs, pvs, lvs, ⟨h1, h2⟩, _⟩ := id hK
  refine ⟨_, PSs.nox (pss_cons (ps_if (pt_cmp (pc_dnotin hu (pv 2) (pe_fld (pv 0) rfl))) (pss_one ps_never) pss_nil)
    (pss_one (ps_ret (pe_meth (pv 0) T.cl_Kinds T.m_Kinds_tree_fits (fits_both T F1 F2 40).1 hr (b_Kinds_tree_fits F1) .nil pass0 (pa_cons (pv 1) (pa_cons (pv 2) (pa_cons (pe_glob (v := .int 40) (by rfl) mL ⟨_, rfl⟩) pa_nil))))))), ?_⟩
  refine ⟨_, rfl, _, rfl, x, CK K, dx, _, _, rfl, h0, T.cl_Kinds, T.na_Kinds_makers_, kF_makers, dm, _, rfl, h1.get (Sum.inr k), _, rfl, ?_⟩
  rw [KD.isSome h2, decide_eq_true (mem_distinct.mpr hk)]
  exact iteF ⟨_, rfl, x, dx, _, rfl, h0, kF_none (by decide +kernel), _, rfl, _, rfl, x, v, k, rs, d, rfl, hK, val, hk, td, hd, q⟩
abbrev BT (K : PySem.W.Frag) : Addr := He.ga K "BadTree"
def spNodeIn (K : PySem.W.Frag) : Sp := fun vs H Q E => ∃ (x p : Addr) (rs : List Row) (r : Row) (ws : List V) (ds : List PyData), vs = [.ref x, .str r.2.1, .ref p] ∧ KindsF K H x rs ∧ ValidT rs ∧ r ∈ rs ∧ r.2.1.length ≤ 1000 ∧ H p = some (.tup ws) ∧ ws.length ≤ 1000 ∧ TdAll H ws ds ∧ HdAll ds ∧
  (allV (fitB rs 39) r.2.2 ds = true → ∀ v H', Same H H' → Td H' v (.tuple (.str r.2.1 :: ds)) → Q v H') ∧ (allV (fitB rs 39) r.2.2 ds = false → ∀ H', Same H H' → E (.ref (BT K)) none H')
theorem okx_node (T : Tx K mg) (F : FnP K ("Kinds", some "node") "node" "Kinds.node" s_Kinds_node fd) : FnR P w K mg base (L2.CX P w) 84 (He.fAd K ("Kinds", some "node")) (spStar 2 (spNodeIn K)) := by
  obtain ⟨f1, F1⟩ := T.F_Kinds_kind_of
  obtain ⟨f2, F2⟩ := T.F_Kinds_fits
  obtain ⟨o1, o2, o3, o4⟩ := T.o_BadTree
  have nd := sc_Kinds_node.nd
  refine FunD.okS (ps := ["self", "maker"]) (pv := "parts") (k := 83) F sc_Kinds_node StX.cxUp (fun _ _ _ _ _ _ us rest hl => match us, hl with | [_, _], _ => by cases rest <;> rfl) (fun cdv A outer s H vs Q E hr h => ?_)
  obtain ⟨x, p, rs, r, ws, ds, rfl, hK, val, hr', l1, hp, l2, td, hd, qt, qf⟩ := h
  obtain ⟨dx, dm, dk, dp, dl, tn, to, h0, _⟩ := id hK
  refine ⟨_, pss_cons (ps_set (i := 3) nd rfl (.inl rfl) (pe_meth (pv 0) T.cl_Kinds T.m_Kinds_kind_of (okf_kind_of T F1) (hr.mono (by decide)) (b_Kinds_kind_of F1) .nil pass0 (pa_cons (pv 1) pa_nil)))
    (pss_cons (ps_set (i := 4) nd rfl (.inl rfl) (pe_tup (pa_cons (pv 1) (StX.pa_star (pv 2) pa_nil))))
    (pss_cons (ps_if (pt_not (pt_val (pe_meth (pv 0) T.cl_Kinds T.m_Kinds_fits (ok_fits T F2) hr (b_Kinds_fits F2) .nil pass0 (pa_cons (pv 4) (pa_cons (pv 3) pa_nil)))))
      (pss_one (ps_raise rfl (takes_of rfl rfl rfl rfl) (SkE.pmk_own1 PySem.F.excBase_ValueError o1 T.g_BadTree o2 (raises_own o3 o4) (by rfl) (pe_joined (.cons pe_str (.cons (pe_fmt (pv 1)) (.cons pe_str .nil))))))) pss_nil)
    (pss_one (ps_ret (pv 4))))), ?_⟩
  refine ⟨_, rfl, x, dx, _, rfl, h0, kF_none (by decide +kernel), _, rfl, x, rs, r, rfl, hK, val, hr', ?_⟩
  refine ⟨_, rfl, _, rfl, p, ws, rfl, .inl (SqT.of hp), (by show (V.str r.2.1 :: (ws ++ [])).length ≤ sizeLine; rw [List.append_nil, List.length_cons]; exact sz_of (by omega)), fun t ht => ?_⟩
  have s1 := same_new (o := .tup (V.str r.2.1 :: (ws ++ []))) ht
  have tdt : Td (upd H t (.tup (V.str r.2.1 :: (ws ++ [])))) (.ref t) (.tuple (.str r.2.1 :: ds)) := by
    have z : ∀ (H2 : Hp) (l : List V), l = ws → Same H H2 → H2 t = some (.tup (V.str r.2.1 :: l)) → Td H2 (.ref t) (.tuple (.str r.2.1 :: ds)) := by
      rintro H2 _ rfl s e; exact .tup e (.cons (.str _) (TdAll.mono (tups_of s) td))
    exact z _ _ (List.append_nil ws) s1 upd_same
  refine ⟨_, rfl, x, dx, _, rfl, s1 _ _ h0, kF_none (by decide +kernel), _, rfl, _, rfl, x, .ref t, r.1, rs, _, rfl, hK.same s1, val, List.mem_map.mpr ⟨r, hr', rfl⟩, tdt, .cons _ hd, fun H1 s2 => ?_⟩
  refine ⟨_, rfl, ?_⟩
  rw [fitB_row val.nd hr']
  cases hb : allV (fitB rs 39) r.2.2 ds with
  | true => exact iteF ⟨_, rfl, qt hb _ _ (s1.trans s2) (tdt.mono (tups_of s2))⟩
  | false =>
    refine iteT ?_
    have tl : (Str.empty ++ ("these parts of " : Str)).length ≤ 40 := by decide +kernel
    have tl2 : (" make no tree" : Str).length ≤ 40 := by decide +kernel
    have b := sz_of (n := 100000) (Nat.le_refl _)
    refine ⟨_, rfl, Nat.le_trans tl (by omega), _, rfl, .inl ⟨_, rfl, sz_of (by omega), _, rfl, ?_, _, rfl, ?_, qf hb _ (s1.trans s2)⟩⟩
    · rw [Str.length_append]; omega
    · rw [Str.length_append, Str.length_append]; omega
end
end Bg
set_option Elab.async false
set_option linter.all false
set_option maxRecDepth 100000
set_option maxHeartbeats 4000000
/-! run_tree -/
namespace Bg
open PySem PySem.Spec PyProof.Rows L2
section
variable {P : Program} {w : World} {K : PySem.W.Frag} {mg : Str → Option Value} {base : Heap} {fd : FuncData}
def spRunT (K : PySem.W.Frag) : Sp := fun vs H Q E => ∃ (y x : Addr) (n : Str) (v : V) (rs : List Row) (fs : List FRow) (d : PyData), vs = [.ref y, .str n, v] ∧ FunsF K H y x fs ∧ KindsF K H x rs ∧ ValidT rs ∧ DrawnF rs fs ∧ Td H v d ∧ Hd d ∧
  (∀ f ∈ fs, f.1 = n → (fitB rs 40 f.2.1 d = true → wt d ≤ 150000 ∧ ∀ t pr H', Same H H' → H pr = none → H' t = some (.tup [.int (runT rs fs 40 n d).1, .ref pr]) → H' pr = some (.lst ((runT rs fs 40 n d).2.map V.int)) → Q (.ref t) H') ∧ (fitB rs 40 f.2.1 d = false → ∀ H', Same H H' → E (.ref (BT K)) none H')) ∧
  (n ∉ fs.map (·.1) → Tame n ∧ RaisesNT K H n E)
theorem okx_runT (T : Tx K mg) (F : FnP K ("run_tree", none) "run_tree" "run_tree" s_run_tree fd) : FnOk P w K mg base (L2.CX P w) 86 (He.fAd K ("run_tree", none)) fd p_run_tree (spRunT K) := by
  obtain ⟨fn, Fn⟩ := T.F_TreeNode_answer
  obtain ⟨fa, Fa⟩ := T.F_answer_of
  obtain ⟨ft, Ft⟩ := T.F_Functions_takes
  have GA := okAns (P := P) (w := w) (mg := mg) (base := base) T Fn Fa 39
  have GT := okx_takes (P := P) (w := w) (mg := mg) (base := base) T Ft
  refine F.ok (k := 85) sc_run_tree (fun vs H Q E h => ?_) (fun cdv A outer s H vs Q E hr h => ?_)
  · obtain ⟨_, _, _, _, _, _, _, rfl, _⟩ := h; rfl
  obtain ⟨y, x, n, v, rs, fs, d, rfl, hF, hK, val, D, td, hd, qt, qf⟩ := h
  obtain ⟨dy, tn, dt, df, db, hy, _⟩ := id hF
  obtain ⟨dx, dm, dk, dp, dl, tn2, to, h0, _⟩ := id hK
  obtain ⟨f1, F1⟩ := T.F_Kinds_fits
  obtain ⟨f2, F2⟩ := T.F_TreeNode_init
  obtain ⟨o1, o2, o3, o4⟩ := T.o_BadTree
  have nd := sc_run_tree.nd
  refine ⟨_, (pss_cons (ps_if (pt_not (pt_val (pe_meth (pe_fld (pv 0) rfl) T.cl_Kinds T.m_Kinds_fits (ok_fits T F1) (hr.mono (by omega)) (b_Kinds_fits F1) .nil pass0 (pa_cons (pv 2) (pa_cons (pe_meth (pv 0) T.cl_Functions T.m_Functions_takes GT (hr.mono (by omega)) (b_Functions_takes Ft) .nil (passX (takes_of rfl rfl rfl rfl)) (pa_cons (pv 1) pa_nil)) pa_nil)))))
      (pss_one (ps_raise rfl (takes_of rfl rfl rfl rfl) (SkE.pmk_own1 PySem.F.excBase_ValueError o1 T.g_BadTree o2 (raises_own o3 o4) (by rfl) (pe_joined (.cons pe_str (.cons (pe_fmt (pv 1)) (.cons pe_str .nil)))))))
      pss_nil)
    (pss_cons (ps_set (i := 3) nd rfl (.inl rfl) (pe_lst pa_nil))
    (pss_cons (ps_set (i := 4) nd rfl (.inl rfl) (pe_call GA (hr.mono (by omega)) (by rfl) T.g_answer_of T.k_answer_of (b_answer_of Fa) .nil pass0 (pa_cons (pv 0) (pa_cons (pv 1) (pa_cons (pe_make T.mk_TreeNode (ok_tnI T F2) (hr.mono (by omega)) (by rfl) T.g_TreeNode (b_TreeNode_init F2) .nil pass0 (pa_cons (pv 0) (pa_cons (pv 2) (pa_cons (pv 3) pa_nil)))) pa_nil)))))
    (pss_one (ps_ret (pe_tup (pa_cons (pv 4) (pa_cons (pv 3) pa_nil)))))))), ?_⟩
  refine ⟨_, rfl, y, CF K, dy, _, _, rfl, hy, T.cl_Functions, T.na_Functions_kinds, fF_kinds, x, dx, _, rfl, h0, kF_none (by decide +kernel), _, rfl, _, rfl, y, dy, _, rfl, hy, fF_none (by decide +kernel), _, rfl, y, x, n, fs, rfl, hF, fun f hf ef => ?_, qf⟩
  subst ef
  obtain ⟨q1, q2⟩ := qt f hf rfl
  refine ⟨x, v, f.2.1, rs, d, rfl, hK, val, D.kind f hf, td, hd, fun H1 s1 => ?_⟩
  refine ⟨_, rfl, ?_⟩
  cases hb : fitB rs 40 f.2.1 d with
  | false =>
    refine iteT ?_
    have tl : (Str.empty ++ ("the value is not a tree that " : Str)).length ≤ 60 := by decide +kernel
    have tl2 : (" takes" : Str).length ≤ 40 := by decide +kernel
    have b := sz_of (n := 100000) (Nat.le_refl _)
    have l1 : f.1.length ≤ 1000 := by have := (D.gn f hf).len; rw [str_len]; omega
    refine ⟨_, rfl, Nat.le_trans tl (by omega), _, rfl, .inl ⟨_, rfl, sz_of (by omega), _, rfl, ?_, _, rfl, ?_, q2 hb _ s1⟩⟩
    · rw [Str.length_append]; omega
    · rw [Str.length_append, Str.length_append]; omega
  | true =>
    obtain ⟨lw, q⟩ := q1 hb
    refine iteF ⟨Nat.zero_le _, fun pr hpr => ?_⟩
    have s2 := same_new (o := .lst []) hpr
    have c2 := s1.trans s2
    obtain ⟨m, ds, r, rfl, er, fit⟩ := fitB_inv hb
    obtain ⟨hr', ek, rfl⟩ := rowAt_of er
    obtain ⟨ta, xs, rfl, hta, tda⟩ := td_tup (td.mono (tups_of c2))
    cases tda with
    | @cons v0 ws _ _ t0 tda =>
    cases t0
    refine ⟨_, rfl, _, rfl, _, rfl, _, rfl, _, rfl, fun n2 d2 hn2 hd2 ne2 => ?_⟩
    have sA := made_x (C := CN K) hn2 hd2
    have c3 := c2.trans sA
    refine ⟨n2, d2, y, x, ta, pr, rs, fs, r, ws, ds, rfl, upd_same, hF.same c3, hK.same c3, val, hr', sA _ _ hta, TdAll.mono (tups_of sA) tda, allV_len fit, fun H2 dv2 b2 hnd2 hv2 => ⟨rfl, ?_⟩⟩
    have s4 : Same (upd H1 pr (.lst [])) H2 := fun b o e => b2 _ _ (ne_of_none e hn2) (sA _ _ e)
    have c4 := c2.trans s4
    refine ⟨y, x, n2, d2, pr, dv2, rs, fs, f, r, ds, [], rfl, hF.same c4, hK.same c4, val, D, hf, hr', ek, hnd2, hv2, fit, s4 _ _ upd_same, by simp only [List.length_nil]; omega, fun H3 b3 h3 => ?_⟩
    refine ⟨_, rfl, _, rfl, by show 2 ≤ sizeLine; decide, fun t ht => ?_⟩
    have npr : H pr = none := Option.eq_none_iff_forall_ne_some.mpr fun o e => by rw [s1 _ _ e] at hpr; cases hpr
    have s5 : Same H H3 := fun b o e => b3 _ _ (ne_of_none e npr) (c4 _ _ e)
    have s6 := same_new (o := .tup [V.int (runT rs fs 40 f.1 (.tuple (.str r.2.1 :: ds))).1, .ref pr]) ht
    exact q t pr _ (s5.trans s6) npr upd_same (s6 _ _ h3)
theorem okc_runT (T : Tx K mg) (F : FnP K ("run_tree", none) "run_tree" "run_tree" s_run_tree fd) : FnOk P w K mg base CX0 86 (He.fAd K ("run_tree", none)) fd p_run_tree (fun vs H Q _ => spRunT K vs H Q E0) := calm (okx_runT T F)
end
end Bg
set_option Elab.async false
set_option linter.all false
set_option maxRecDepth 100000
set_option maxHeartbeats 4000000
/-! what a run refuses -/
namespace Bg
open PySem PySem.Spec PyProof.Rows L2
section
variable {P : Program} {w : World} {K : PySem.W.Frag} {mg : Str → Option Value} {base : Heap} {fd : FuncData}
def spRef17 (K : PySem.W.Frag) : Sp := fun vs H Q _ => ∃ (y x : Addr) (n : Str) (v : V) (rs : List Row) (fs : List FRow) (d : PyData), vs = [.ref y, .str n, v] ∧ FunsF K H y x fs ∧ KindsF K H x rs ∧ ValidT rs ∧ DrawnF rs fs ∧ Td H v d ∧ Hd d ∧
  (∀ f ∈ fs, f.1 = n → (fitB rs 40 f.2.1 d = true → wt d ≤ 150000 ∧ ∀ H', Same H H' → Q (.str "let") H') ∧ (fitB rs 40 f.2.1 d = false → ∀ H', Same H H' → Q (.str "bad") H')) ∧
  (n ∉ fs.map (·.1) → Tame n ∧ ∀ H', Same H H' → Q (.str "unknown") H')
theorem ok_ref17 (T : Tx K mg) (F : FnP K ("_law_refused", none) "_law_refused" "_law_refused" s__law_refused fd) : FnOk P w K mg base CX0 87 (He.fAd K ("_law_refused", none)) fd p__law_refused (spRef17 K) := by
  refine F.ok (k := 86) sc__law_refused (fun vs H Q E h => ?_) (fun cdv A outer s H vs Q E hr h => ?_)
  · obtain ⟨_, _, _, _, _, _, _, rfl, _⟩ := h; rfl
  obtain ⟨y, x, n, v, rs, fs, d, rfl, hF, hK, val, D, td, hd, qt, qf⟩ := h
  have hr1 : L2H.RoomH 1 _ := L2H.roomH_of (hr.mono (by decide) : Room 1 _)
  obtain ⟨fr, Fr⟩ := T.F_run_tree
  have RX := okx_runT (P := P) (w := w) (mg := mg) (base := base) T Fr
  have nd := sc__law_refused.nd
  refine ⟨_, (pss_cons (ps_try_as (i := 3) (Wout := fun _ _ _ _ => False) (c := .ref (He.ga K "GroveError")) rfl rfl nd rfl rfl ⟨by rfl, by decide, Or.inl T.g_GroveError⟩ takesN
      (fun W pn xe tk _ =>
        (pss_one (ps_expr (pe_callS RX (hr.mono (by omega)) (by rfl) T.g_run_tree T.k_run_tree (b_run_tree Fr) (fun σ => passAt tk σ) (pa_cons (pv 0) (pa_cons (pv 1) (pa_cons (pv 2) pa_nil)))))))
      (fun a' oe cls d pn hz hf =>
        (pss_cons (ps_if (PW.pt (pw_and (pt_val (pe_callB (id := "isinstance") (r := rIsG K a' cls d) (call_isG hz hf) (by rfl) T.n_isinstance (by decide +kernel) (pa_cons (pv 3) (pa_cons (pe_glob (v := .ref _) (by rfl) T.g_NotThere rfl) pa_nil)))) (pw_and (pt_not (pt_val (pe_callB (id := "isinstance") (r := rIsG K a' cls d) (call_isG hz hf) (by rfl) T.n_isinstance (by decide +kernel) (pa_cons (pv 3) (pa_cons (pe_glob (v := .ref _) (by rfl) T.g_BadTree rfl) pa_nil))))) (pw_and (pt_val (pe_callB (id := "isinstance") (r := rIsi K) call_isi (by rfl) T.n_isinstance (by decide +kernel) (pa_cons (pe_xf T.x_NotThere.xf T.na_NotThere_name hz hf (pv 3)) (pa_cons (pe_bltn (v := .ty "str") (by rfl) T.n_str (by decide +kernel) rfl) pa_nil)))) (pw_and1 (pt_cmpR op_eq (pe_xf T.x_NotThere.xf T.na_NotThere_name hz hf (pv 3)) (pv 1) (nomark _)))))))
          (pss_one (ps_ret pe_str))
          pss_nil)
        (pss_one (ps_if (PW.pt (pw_and (pt_val (pe_callB (id := "isinstance") (r := rIsG K a' cls d) (call_isG hz hf) (by rfl) T.n_isinstance (by decide +kernel) (pa_cons (pv 3) (pa_cons (pe_glob (v := .ref _) (by rfl) T.g_BadTree rfl) pa_nil)))) (pw_and1 (pt_not (pt_val (pe_callB (id := "isinstance") (r := rIsG K a' cls d) (call_isG hz hf) (by rfl) T.n_isinstance (by decide +kernel) (pa_cons (pv 3) (pa_cons (pe_glob (v := .ref _) (by rfl) T.g_NotThere rfl) pa_nil))))))))
          (pss_one (ps_ret pe_str))
          pss_nil)))))
    (pss_one (ps_ret pe_str))), ?_⟩
  refine ⟨_, rfl, _, rfl, _, rfl, y, x, n, v, rs, fs, d, rfl, hF, hK, val, D, td, hd, fun f hf ef => ⟨fun hb => ⟨((qt f hf ef).1 hb).1, fun t pr H' s' _ _ _ => ?_⟩, fun hb H1 s1 => ?_⟩, fun hn => ?_⟩
  · exact ((qt f hf ef).1 hb).2 H' s'
  · refine ⟨true, T.e_BadTree_GroveError, fun _ a' ha' => ?_, fun z => nomatch z⟩
    refine ⟨_, rfl, .ref (NT K), .ref (NT K), false, BT K, rfl, rfl, .inl rfl, T.x_BadTree, ClsV.own _, T.kit_BadTree_NotThere, _, rfl, iteF ?_⟩
    refine ⟨_, rfl, .ref (BT K), .ref (BT K), true, BT K, rfl, rfl, .inl rfl, T.x_BadTree, ClsV.own _, if_pos (beq_self_eq_true _), _, rfl, iteT ?_⟩
    refine ⟨_, rfl, .ref (NT K), .ref (NT K), false, BT K, rfl, rfl, .inl rfl, T.x_BadTree, ClsV.own _, T.kit_BadTree_NotThere, _, rfl, ?_⟩
    exact iteT ((qt f hf ef).2 hb _ s1)
  · obtain ⟨tm, q⟩ := qf hn
    refine ⟨tm, fun dd H1 s1 e1 => ⟨true, T.e_NotThere_GroveError, fun _ a' ha' => ?_, fun z => nomatch z⟩⟩
    refine ⟨_, rfl, .ref (NT K), .ref (NT K), true, NT K, rfl, rfl, .inr ⟨dd, _, rfl, e1⟩, T.x_NotThere, ClsV.own _, if_pos (beq_self_eq_true _), _, rfl, iteT ?_⟩
    refine ⟨_, rfl, .ref (BT K), .ref (BT K), false, NT K, rfl, rfl, .inr ⟨dd, _, rfl, e1⟩, T.x_NotThere, ClsV.own _, T.kit_NotThere_BadTree, _, rfl, iteT ?_⟩
    refine ⟨_, rfl, rfl, rfl, dd, _, .str n, rfl, e1, nt_lk _, .str n, .ty "str", .type "str", .type "str", true, rfl, ClsV.ty _, TyX.base (TyOf.str _), kit_ty (by decide +kernel), _, rfl, iteT ?_⟩
    refine ⟨_, rfl, rfl, rfl, dd, _, .str n, rfl, e1, nt_lk _, _, rfl, rfl, ?_⟩
    rw [show decide (V.str n = V.str n) = true by simp]
    exact ⟨_, rfl, iteT (q _ s1)⟩
end
end Bg
set_option Elab.async false
set_option linter.all false
set_option maxRecDepth 100000
set_option maxHeartbeats 4000000
/-! the law's runs: the steps that are taken, the fold -/
namespace Bg
open PySem PySem.Spec PyProof.Rows L2
mutual
/-- the steps that are taken, with the tests -/
def testsS (bv : Str → Int) : Step → List Step
  | .br p c a b => .odd "test" [p] :: (if bv p < c then testsB bv a else testsB bv b)
  | .say n => [.say n]
  | .read p => [.read p]
  | .call f p => [.call f p]
  | .odd w xs => [.odd w xs]
def testsB (bv : Str → Int) : List Step → List Step
  | [] => []
  | s :: l => testsS bv s ++ testsB bv l
end
def noT : Step → Bool
  | .odd .. => false
  | _ => true
mutual
theorem testsS_len (bv : Str → Int) : ∀ s, (testsS bv s).length ≤ swt s
  | .br p c a b => by
    have h1 := testsB_len bv a
    have h2 := testsB_len bv b
    rw [testsS, swt, List.length_cons]
    split <;> omega
  | .say n => by simp [testsS, swt]
  | .read n => by simp [testsS, swt]
  | .call f n => by simp [testsS, swt]
  | .odd f n => by simp [testsS, swt]
theorem testsB_len (bv : Str → Int) : ∀ b, (testsB bv b).length ≤ bwt b
  | [] => by simp [testsB]
  | s :: l => by
    have h1 := testsS_len bv s
    have h2 := testsB_len bv l
    rw [testsB, bwt, List.length_append]; omega
end
mutual
theorem testsS_in {r : Row} (bv : Str → Int) : ∀ (s : Step) (as : List Str), stepB r as s = true → (testsS bv s).filter noT = stepsS bv s ∧ ∀ t ∈ testsS bv s, isBr t = false ∧ (noT t = true ∨ ∃ p, t = .odd "test" [p])
  | .say n, as, _ => by
    rw [testsS, stepsS]
    refine ⟨rfl, fun t ht => ?_⟩
    rw [List.mem_singleton.mp ht]; exact ⟨rfl, .inl rfl⟩
  | .read n, as, _ => by
    rw [testsS, stepsS]
    refine ⟨rfl, fun t ht => ?_⟩
    rw [List.mem_singleton.mp ht]; exact ⟨rfl, .inl rfl⟩
  | .call f n, as, _ => by
    rw [testsS, stepsS]
    refine ⟨rfl, fun t ht => ?_⟩
    rw [List.mem_singleton.mp ht]; exact ⟨rfl, .inl rfl⟩
  | .odd w xs, as, h => by rw [stepB] at h; cases h
  | .br p c a b, as, h => by
    rw [stepB] at h
    simp only [Bool.and_eq_true] at h
    obtain ⟨⟨_, ⟨_, h1⟩⟩, ⟨_, h2⟩⟩ := h
    obtain ⟨a1, a2⟩ := testsB_in bv a (as ++ [p]) h1
    obtain ⟨b1, b2⟩ := testsB_in bv b (as ++ [p]) h2
    rw [testsS, stepsS]
    split
    · exact ⟨a1, fun t ht => (List.mem_cons.mp ht).elim (fun e => by rw [e]; exact ⟨rfl, .inr ⟨_, rfl⟩⟩) (a2 t)⟩
    · exact ⟨b1, fun t ht => (List.mem_cons.mp ht).elim (fun e => by rw [e]; exact ⟨rfl, .inr ⟨_, rfl⟩⟩) (b2 t)⟩
theorem testsB_in {r : Row} (bv : Str → Int) : ∀ (b : List Step) (as : List Str), bodyB r as b = true → (testsB bv b).filter noT = stepsB bv b ∧ ∀ t ∈ testsB bv b, isBr t = false ∧ (noT t = true ∨ ∃ p, t = .odd "test" [p])
  | [], as, _ => by rw [testsB, stepsB]; exact ⟨rfl, fun t h => absurd h List.not_mem_nil⟩
  | s :: l, as, h => by
    rw [bodyB, Bool.and_eq_true, Bool.and_eq_true] at h
    obtain ⟨a1, a2⟩ := testsS_in bv s as h.1.2
    obtain ⟨b1, b2⟩ := testsB_in bv l (as ++ asksOf s) h.2
    rw [testsB, stepsB, List.filter_append, a1, b1]
    exact ⟨rfl, fun t ht => (List.mem_append.mp ht).elim (a2 t) (b2 t)⟩
end
theorem sdep_get : ∀ {b : Body} {i : Nat} {s : Step}, b[i]? = some s → sdep s ≤ bdep b
  | s0 :: r, 0, s, e => by rw [bdep]; simp at e; rw [e]; omega
  | s0 :: r, i + 1, s, e => by rw [bdep]; have := sdep_get (b := r) (by simpa using e); omega
section
variable {P : Program} {w : World} {K : PySem.W.Frag} {mg : Str → Option Value} {base : Heap} {fd : FuncData}
def spLSteps : Sp := fun vs H Q _ => ∃ (v : V) (dv : Addr) (b : Body) (rs : List Row) (r : Row) (ds : List PyData) (n : Nat), vs = [v, .ref dv] ∧ Td H v (bodyD b) ∧ ValsAt H dv r ds ∧ ValidT rs ∧ r ∈ rs ∧ allV (fitB rs n) r.2.2 ds = true ∧ bodyB r [] b = true ∧ OddOk b ∧ bdep b ≤ 3 ∧ bwt b ≤ 63 ∧
  ∀ a ws H', Same H H' → H a = none → H' a = some (.lst ws) → TdAll H' ws ((testsB (fun p => byteV (valIn r.2.2 ds p)) b).map stepD) → Q (.ref a) H'
theorem ok_lsteps (T : Tx K mg) (F : FnP K ("_law_steps", none) "_law_steps" "_law_steps" s__law_steps fd) : FnOk P w K mg base CX0 1 (He.fAd K ("_law_steps", none)) fd p__law_steps spLSteps := by
  refine F.ok (k := 0) sc__law_steps (fun vs H Q E h => ?_) (fun cdv A outer s H vs Q E hr h => ?_)
  · obtain ⟨_, _, _, _, _, _, _, rfl, _⟩ := h; rfl
  obtain ⟨v0, dv, b0, rs, r, ds, n, rfl, tb0, ⟨kvs, hdv, kd⟩, val, hrr, fit, ob0, od0, dep0, wt0, q⟩ := h
  have hu := hu_of hr
  generalize hbv : (fun p => byteV (valIn r.2.2 ds p)) = bv at q
  have lT := testsB_len bv b0
  generalize hTT : testsB bv b0 = TT at q lT
  have nd := sc__law_steps.nd
  refine ⟨_, PSs.nox (pss_cons (ps_set (i := 2) nd rfl (.inl rfl) (pe_lst pa_nil))
    (pss_cons (ps_for PassesOwn.never rfl (pi_range1 rfl T.n_range (pa_cons pe_int pa_nil)) (pg_name (i := 3) nd rfl (Or.inl rfl))
      (pss_cons (ps_set (i := 4) nd rfl (.inl rfl) (pe_tup pa_nil))
      (pss_cons (ps_for PassesOwn.never rfl (pi_tup (pv 0)) (pg_name (i := 5) nd rfl (Or.inl rfl))
        (pss_one (ps_if (pt_cmpR op_eq (pe_ix ix_tup (pv 5) pe_int (fun _ _ => rfl)) pe_str (nomark _))
          (pss_cons (ps_expr (pe_bm PySem.F.plainAttrs_list PySem.F.slot_list_append PySem.F.type_list_append mt_append (pv 2) (pa_cons (pe_tup (pa_cons pe_str (pa_cons (pe_ix ix_tup (pv 5) pe_int (fun _ _ => rfl)) pa_nil))) pa_nil)))
          (pss_cons (ps_set (i := 4) nd rfl (.inl rfl) (pe_ix ix_tup (pv 5) pe_int (fun _ _ => rfl)))
          (pss_one (ps_if (pt_cmpR op_ge (pe_dget hu (pv 1) (pe_ix ix_tup (pv 5) pe_int (fun _ _ => rfl)) (fun _ _ => rfl)) (pe_ix ix_tup (pv 5) pe_int (fun _ _ => rfl)) (nomark _))
            (pss_one (ps_set (i := 4) nd rfl (.inl rfl) (pe_ix ix_tup (pv 5) pe_int (fun _ _ => rfl))))
            pss_nil))))
          (pss_one (ps_expr (pe_bm PySem.F.plainAttrs_list PySem.F.slot_list_append PySem.F.type_list_append mt_append (pv 2) (pa_cons (pv 5) pa_nil)))))))
      (pss_one (ps_set (i := 0) nd rfl (.inl rfl) (pv 4))))))
    (pss_one (ps_ret (pv 2))))), ?_⟩
  refine ⟨Nat.zero_le _, fun acc hacc0 => ?_⟩
  have s0 := same_new (o := .lst []) hacc0
  refine ⟨_, rfl, by decide, by decide, ?_⟩
  refine for_it walk_range (fun i σ G => ∃ (v : V) (b : Body) (as : List Str) (ws : List V) (Ls : List Step) (v3 v4 v5 : Option V), σ = [some v, some (.ref dv), some (.ref acc), v3, v4, v5] ∧ Same H G ∧ G acc = some (.lst ws) ∧ TdAll G ws (Ls.map stepD) ∧ Td G v (bodyD b) ∧ bodyB r as b = true ∧ OddOk b ∧ (b = [] ∨ bdep b + i ≤ 3) ∧ Ls ++ testsB bv b = TT)
    ⟨v0, b0, [], [], [], _, _, _, rfl, s0, upd_same, .nil, tb0.mono (tups_of s0), ob0, od0, .inr (by omega), hTT⟩ (fun _ _ _ _ _ => trivial) ?_ ?_
  rotate_left
  · rintro σ G ⟨v, b, as, ws, Ls, v3, v4, v5, rfl, sG, hacc, tds, tb, ob, od, dd, eT⟩
    have bn : b = [] := dd.resolve_right (by show ¬ (bdep b + (6 : Int).toNat ≤ 3); intro z; have : (6 : Int).toNat = 6 := rfl; omega)
    rw [bn, testsB, List.append_nil] at eT
    rw [eT] at tds
    exact ⟨_, rfl, q acc ws G sG hacc0 hacc tds⟩
  rintro i x σ H2 G hi ⟨v, b, as, ws, Ls, v3, v4, v5, rfl, sG, hacc, tds, tb, ob, od, dd, eT⟩ ⟨rfl, rfl⟩
  obtain ⟨a, xs, rfl, hta, tda⟩ := td_tup tb
  have lx : xs.length = b.length := by rw [tda.length, bodyDs_length]
  refine ⟨Nat.zero_le _, fun fo hfo => ?_⟩
  have sf := same_new (o := .tup []) hfo
  have nacc : fo ≠ acc := fun e => by rw [e, hacc] at hfo; cases hfo
  refine ⟨_, rfl, a, rfl, ⟨_, SqT.of (sf _ _ hta)⟩, for_it (walk_tup (K := K) (a := a) (xs := xs)) (fun j σ G2 => ∃ (fv : V) (fb : Body) (as2 as3 : List Str) (ws : List V) (Ls : List Step) (v5 : Option V), σ = [some (.ref a), some (.ref dv), some (.ref acc), some (.int (0 + (i : Nat))), some fv, v5] ∧ Same H G2 ∧ G2 a = some (.tup xs) ∧ TdAll G2 xs (bodyDs b) ∧ G2 acc = some (.lst ws) ∧ TdAll G2 ws (Ls.map stepD) ∧ Td G2 fv (bodyD fb) ∧ bodyB r as3 fb = true ∧ OddOk fb ∧ (fb = [] ∨ bdep fb + 1 ≤ bdep b) ∧ (fb = [] ∨ b.drop j = []) ∧ bodyB r as2 (b.drop j) = true ∧ Ls ++ (testsB bv (b.drop j) ++ testsB bv fb) = TT)
    ⟨.ref fo, [], as, [], ws, Ls, _, rfl, sG.trans sf, sf _ _ hta, TdAll.mono (tups_of sf) tda, sf _ _ hacc, TdAll.mono (tups_of sf) tds, .tup upd_same (by rw [bodyDs]; exact .nil), by rw [bodyB], by rw [OddOk]; trivial, .inl rfl, .inl rfl, ob, by rw [List.drop_zero, show testsB bv [] = [] by rw [testsB], List.append_nil]; exact eT⟩ (fun j σ G2 _ z => by obtain ⟨_, _, _, _, _, _, _, _, _, z, _⟩ := z; exact SqT.of z) ?_ ?_⟩
  rotate_left
  · rintro σ G2 ⟨fv, fb, as2, as3, ws, Ls, v5, rfl, sG2, hta2, tda2, hacc2, tds2, tfb, ofb, odf, lfb, _, _, eT2⟩
    rw [lx, List.drop_length, show testsB bv [] = [] by rw [testsB], List.nil_append] at eT2
    refine ⟨_, rfl, fv, fb, as3, ws, Ls, _, _, _, rfl, sG2, hacc2, tds2, tfb, ofb, odf, ?_, eT2⟩
    rcases lfb with e | h
    · exact .inl e
    · rcases dd with e | h2
      · rw [e, bdep] at h; omega
      · right; omega
  rintro j z σ G0 G2 hj ⟨fv, fb, as2, as3, ws, Ls, v5, rfl, sG2, hta2, tda2, hacc2, tds2, tfb, ofb, odf, lfb, lst, hbv2, eT2⟩ ⟨rfl, hz⟩
  obtain ⟨d, hd, tdi⟩ := TdAll.at_ tda2 hz
  rw [bodyDs_get, Option.map_eq_some_iff] at hd
  obtain ⟨st, hst, rfl⟩ := hd
  have odi := oddOk_get od hst
  have li := (List.getElem?_eq_some_iff.mp hst).1
  have drop : b.drop j = st :: b.drop (j + 1) := by
    rw [List.drop_eq_getElem_cons li]
    congr 1
    rw [List.getElem?_eq_getElem li] at hst
    exact Option.some.inj hst
  have fnil : fb = [] := lst.resolve_right (by rw [drop]; simp)
  subst fnil
  rw [drop, bodyB_cons, Bool.and_eq_true, Bool.and_eq_true] at hbv2
  obtain ⟨⟨hb1, hb2⟩, hb3⟩ := hbv2
  have esn : testsB bv [] = [] := by rw [testsB]
  have ecs : testsB bv (st :: b.drop (j + 1)) = testsS bv st ++ testsB bv (b.drop (j + 1)) := by rw [testsB]
  rw [drop, ecs, esn, List.append_nil] at eT2
  have lws : ws.length = Ls.length := by rw [tds2.length, List.length_map]
  have lLs : Ls.length ≤ 63 := by
    have := congrArg List.length eT2
    rw [List.length_append] at this; omega
  have keep : ∀ {s : Step}, testsS bv st = [s] → (Ls ++ [s]) ++ (testsB bv (b.drop (j + 1)) ++ testsB bv []) = TT := fun e => by rw [← eT2, e, esn]; simp
  -- a step goes into the list
  have put : ∀ (G3 : Hp), Same G2 G3 → ∀ (u : V) (s : Step), Td G3 u (stepD s) → Same H (upd G3 acc (.lst (ws ++ [u]))) ∧ TdAll (upd G3 acc (.lst (ws ++ [u]))) (ws ++ [u]) ((Ls ++ [s]).map stepD) ∧ Tups G2 (upd G3 acc (.lst (ws ++ [u]))) := fun G3 s3 u s tu => by
    have t2 := tups_upd (H := G3) (p := acc) (o := .lst (ws ++ [u])) fun u ff zz => by rw [s3 _ _ hacc2] at zz; cases zz; exact ff
    refine ⟨same_mut (sG2.trans s3) hacc0, ?_, (tups_of s3).trans t2⟩
    rw [List.map_append]
    exact TdAll.snoc (TdAll.mono ((tups_of s3).trans t2) tds2) (tu.mono t2)
  cases st with
  | odd wd ws2 => rw [stepB] at hb2; cases hb2
  | say k =>
    have tdi0 := tdi
    unfold stepD at tdi
    obtain ⟨sa, sxs, rfl, hsa, tsa⟩ := td_tup tdi
    cases tsa with
    | cons u0 tsa =>
    cases tsa with
    | cons u1 tsa =>
    cases tsa
    cases u0; cases u1
    obtain ⟨p1, p2, p3⟩ := put G2 (fun _ _ e => e) _ _ tdi0
    refine ⟨_, rfl, sa, _, _, _, rfl, rfl, SqT.of hsa, atI_nat (j := 0) rfl, rfl, _, rfl, iteFe (by decide +kernel) ?_⟩
    refine ⟨_, rfl, .inl ⟨rfl, _, SqL.of hacc2⟩, _, rfl, acc, _, _, rfl, rfl, hacc2, small1000 (by omega), ?_⟩
    exact ⟨fv, [], _, as3, _, Ls ++ [.say k], _, rfl, p1, p3 _ (.tup _) trivial hta2, TdAll.mono p3 tda2, upd_same, p2, tfb.mono p3, ofb, odf, lfb, .inl rfl, hb3, keep (by rw [testsS])⟩
  | read p =>
    have tdi0 := tdi
    unfold stepD at tdi
    obtain ⟨sa, sxs, rfl, hsa, tsa⟩ := td_tup tdi
    cases tsa with
    | cons u0 tsa =>
    cases tsa with
    | cons u1 tsa =>
    cases tsa
    cases u0; cases u1
    obtain ⟨p1, p2, p3⟩ := put G2 (fun _ _ e => e) _ _ tdi0
    refine ⟨_, rfl, sa, _, _, _, rfl, rfl, SqT.of hsa, atI_nat (j := 0) rfl, rfl, _, rfl, iteFe (by decide +kernel) ?_⟩
    refine ⟨_, rfl, .inl ⟨rfl, _, SqL.of hacc2⟩, _, rfl, acc, _, _, rfl, rfl, hacc2, small1000 (by omega), ?_⟩
    exact ⟨fv, [], _, as3, _, Ls ++ [.read p], _, rfl, p1, p3 _ (.tup _) trivial hta2, TdAll.mono p3 tda2, upd_same, p2, tfb.mono p3, ofb, odf, lfb, .inl rfl, hb3, keep (by rw [testsS])⟩
  | call f p =>
    have tdi0 := tdi
    unfold stepD at tdi
    obtain ⟨sa, sxs, rfl, hsa, tsa⟩ := td_tup tdi
    cases tsa with
    | cons u0 tsa =>
    cases tsa with
    | cons u1 tsa =>
    cases tsa with
    | cons u2 tsa =>
    cases tsa
    cases u0; cases u1; cases u2
    obtain ⟨p1, p2, p3⟩ := put G2 (fun _ _ e => e) _ _ tdi0
    refine ⟨_, rfl, sa, _, _, _, rfl, rfl, SqT.of hsa, atI_nat (j := 0) rfl, rfl, _, rfl, iteFe (by decide +kernel) ?_⟩
    refine ⟨_, rfl, .inl ⟨rfl, _, SqL.of hacc2⟩, _, rfl, acc, _, _, rfl, rfl, hacc2, small1000 (by omega), ?_⟩
    exact ⟨fv, [], _, as3, _, Ls ++ [.call f p], _, rfl, p1, p3 _ (.tup _) trivial hta2, TdAll.mono p3 tda2, upd_same, p2, tfb.mono p3, ofb, odf, lfb, .inl rfl, hb3, keep (by rw [testsS])⟩
  | br p c ba bb =>
    unfold stepD at tdi
    unfold OddOkS at odi
    rw [stepB_br] at hb2
    simp only [Bool.and_eq_true] at hb2
    obtain ⟨⟨⟨⟨⟨hbp, _⟩, _⟩, _⟩, ok1⟩, ok2⟩ := hb2
    unfold bodyOk at ok1 ok2
    rw [Bool.and_eq_true] at ok1 ok2
    have hb1 : (b.drop (j + 1)).isEmpty = true := hb1
    have hnil : b.drop (j + 1) = [] := List.isEmpty_iff.mp hb1
    obtain ⟨q0, hq0, rfl, eq0⟩ := byteP_mem hbp
    rw [hold_kind (val.each.good r hrr).2.2 hq0] at eq0
    obtain ⟨k, ek0⟩ : ∃ i : Int, valIn r.2.2 ds q0.1 = .int i := by
      have v := valIn_fit val hrr fit hq0
      unfold valB at v
      rw [if_pos eq0] at v
      unfold byteB at v
      split at v
      · rename_i i ei; exact ⟨i, ei⟩
      · cases v
    obtain ⟨sa, sxs, rfl, hsa, tsa⟩ := td_tup tdi
    cases tsa with
    | cons u0 tsa =>
    cases tsa with
    | cons u1 tsa =>
    cases tsa with
    | cons u2 tsa =>
    cases tsa with
    | cons ua tsa =>
    cases tsa with
    | cons ub tsa =>
    cases tsa
    cases u0; cases u1; cases u2
    rename_i va vb
    have ebv : bv q0.1 = k := by rw [← hbv]; show byteV (valIn r.2.2 ds q0.1) = k; rw [ek0]; rfl
    have ess : testsS bv (.br q0.1 c ba bb) = .odd "test" [q0.1] :: (if k < c then testsB bv ba else testsB bv bb) := by rw [testsS, ebv]
    rw [hnil, esn, List.append_nil, ess] at eT2
    have dlt : bdep ba + 1 ≤ bdep b ∧ bdep bb + 1 ≤ bdep b := by
      have := sdep_get hst
      rw [sdep] at this; omega
    obtain ⟨vk, evk, tvk⟩ := kd.some (List.mem_map_of_mem (f := fun p : Part => p.1) hq0)
    rw [ek0] at tvk
    cases tvk
    refine ⟨_, rfl, sa, _, _, _, rfl, rfl, SqT.of hsa, atI_nat (j := 0) rfl, rfl, _, rfl, iteTe (by decide +kernel) ?_⟩
    refine ⟨_, rfl, .inl ⟨rfl, _, SqL.of hacc2⟩, _, rfl, sa, _, _, _, rfl, rfl, SqT.of hsa, atI_nat (j := 1) rfl, by show 2 ≤ sizeLine; decide, fun t3 h3 => ?_⟩
    have s3 := same_new (o := .tup [V.str "test", V.str q0.1]) h3
    have ttd : Td (upd G2 t3 (.tup [V.str "test", V.str q0.1])) (.ref t3) (stepD (.odd "test" [q0.1])) := by
      unfold stepD
      exact .tup upd_same (.cons (.str _) (.cons (.str _) .nil))
    obtain ⟨p1, p2, p3⟩ := put _ s3 _ _ ttd
    refine ⟨acc, _, _, rfl, rfl, s3 _ _ hacc2, small1000 (by omega), ?_⟩
    have p4 : (upd (upd G2 t3 (.tup [V.str "test", V.str q0.1])) acc (.lst (ws ++ [V.ref t3]))) acc = some (.lst (ws ++ [V.ref t3])) := upd_same
    generalize upd (upd G2 t3 (.tup [V.str "test", V.str q0.1])) acc (.lst (ws ++ [V.ref t3])) = G4 at p1 p2 p3 p4 ⊢
    have hsa4 := p3 _ (.tup _) trivial hsa
    refine ⟨_, rfl, sa, _, _, va, rfl, rfl, SqT.of hsa4, atI_nat (j := 3) rfl, ?_⟩
    refine ⟨_, rfl, _, rfl, sa, _, _, _, rfl, rfl, SqT.of hsa4, atI_nat (j := 1) rfl, dv, _, rfl, (by rw [← evk]; exact DGet.k (k := Sum.inr q0.1) (p1 _ _ hdv)), _, rfl, sa, _, _, _, rfl, rfl, SqT.of hsa4, atI_nat (j := 2) rfl, _, _, rfl, rfl, _, rfl, ?_⟩
    by_cases hlt : k < c
    · rw [if_pos hlt] at eT2
      refine iteFe (decide_eq_false (by omega)) ?_
      exact ⟨va, ba, as2 ++ asksOf (.br q0.1 c ba bb), as2 ++ [q0.1], _, Ls ++ [.odd "test" [q0.1]], _, rfl, p1, p3 _ (.tup _) trivial hta2, TdAll.mono p3 tda2, p4, p2, ua.mono p3, ok1.2, odi.1, .inr dlt.1, .inr hnil, hb3, by rw [hnil, esn, List.nil_append, List.append_assoc]; exact eT2⟩
    · rw [if_neg hlt] at eT2
      refine iteTe (decide_eq_true (by omega)) ⟨_, rfl, sa, _, _, vb, rfl, rfl, SqT.of hsa4, atI_nat (j := 4) rfl, ?_⟩
      exact ⟨vb, bb, as2 ++ asksOf (.br q0.1 c ba bb), as2 ++ [q0.1], _, Ls ++ [.odd "test" [q0.1]], _, rfl, p1, p3 _ (.tup _) trivial hta2, TdAll.mono p3 tda2, p4, p2, ub.mono p3, ok2.2, odi.2, .inr dlt.2, .inr hnil, hb3, by rw [hnil, esn, List.nil_append, List.append_assoc]; exact eT2⟩
theorem foldl_addI : ∀ (l : List Int) (a : Int), l.foldl (· + ·) a = a + l.sum
  | [], a => by simp
  | x :: l, a => by rw [List.foldl_cons, foldl_addI l, List.sum_cons]; omega
def spLFold : Sp := fun vs H Q _ => ∃ (fo : Str) (a : Addr) (ns : List Int), vs = [.str fo, .ref a] ∧ H a = some (.lst (ns.map V.int)) ∧ foldB fo = true ∧ Q (.int (foldA fo ns)) H
theorem ok_lfold (T : Tx K mg) (F : FnP K ("_law_fold", none) "_law_fold" "_law_fold" s__law_fold fd) : FnOk P w K mg base CX0 1 (He.fAd K ("_law_fold", none)) fd p__law_fold spLFold := by
  refine F.ok (k := 0) sc__law_fold (fun vs H Q E h => ?_) (fun cdv A outer s H vs Q E hr h => ?_)
  · obtain ⟨_, _, _, rfl, _⟩ := h; rfl
  obtain ⟨fo, a, ns, rfl, ha, fk, q⟩ := h
  have nd := sc__law_fold.nd
  refine ⟨_, PSs.nox (pss_cons (ps_set (i := 2) nd rfl (.inl rfl) pe_int)
    (pss_cons (ps_for PassesOwn.never rfl (pi_list (pv 1)) (pg_name (i := 3) nd rfl (Or.inl rfl))
      (pss_one (ps_if (pt_cmpR op_eq (pv 0) pe_str (nomark _))
        (pss_one (ps_set (i := 2) nd rfl (.inl rfl) (pe_op op_add (pv 2) (pv 3))))
        (pss_one (ps_if (pt_cmpR op_gt (pv 3) (pv 2) (nomark _))
          (pss_one (ps_set (i := 2) nd rfl (.inl rfl) (pv 3)))
          pss_nil)))))
    (pss_one (ps_ret (pv 2))))), ?_⟩
  have fk : fo = ("sum" : Str) ∨ fo = ("max" : Str) := by
    unfold foldB at fk
    simpa using fk
  have es : foldA fo ns = if fo = ("max" : Str) then ns.foldl max 0 else ns.foldl (· + ·) 0 := by
    unfold foldA
    split
    · rfl
    · rw [foldl_addI]; omega
  refine ⟨_, rfl, a, rfl, ⟨_, .inl (.inl ha)⟩, for_it (walk_list (K := K) (a := a) (xs := ns.map V.int)) (fun i σ G => (∃ v3, σ = [some (.str fo), some (.ref a), some (.int (if fo = ("max" : Str) then (ns.take i).foldl max 0 else (ns.take i).foldl (· + ·) 0)), v3]) ∧ G = H) ⟨⟨_, by rw [List.take_zero, List.foldl_nil, List.foldl_nil, ite_self]; rfl⟩, rfl⟩ (fun i σ G _ z => by obtain ⟨_, rfl⟩ := z; exact .inl (.inl ha)) ?_ ?_⟩
  · rintro i z σ G0 G hi ⟨⟨v3, rfl⟩, rfl⟩ ⟨rfl, hz⟩
    rw [List.getElem?_map, Option.map_eq_some_iff] at hz
    obtain ⟨k, hk, rfl⟩ := hz
    rw [take_succ_of hk, List.foldl_append, List.foldl_append]
    refine ⟨_, rfl, rfl, _, rfl, ?_⟩
    rcases fk with rfl | rfl
    · refine iteTe (by decide +kernel) ⟨_, rfl, _, rfl, _, _, rfl, rfl, ⟨some (.int k), ?_⟩, rfl⟩
      rw [if_neg (by decide +kernel), if_neg (by decide +kernel)] <;> rfl
    · refine iteFe (by decide +kernel) ?_
      refine ⟨_, rfl, _, rfl, _, _, rfl, rfl, _, rfl, ?_⟩
      rw [if_pos rfl, if_pos rfl]
      generalize (ns.take i).foldl max 0 = m
      by_cases hlt : m < k
      · refine iteTe (decide_eq_true hlt) ⟨_, rfl, ⟨some (.int k), ?_⟩, rfl⟩
        rw [show List.foldl max m [k] = k by show max m k = k; omega] <;> rfl
      · refine iteFe (decide_eq_false hlt) ⟨⟨some (.int k), ?_⟩, rfl⟩
        rw [show List.foldl max m [k] = m by show max m k = m; omega] <;> rfl
  · rintro σ G ⟨⟨v3, rfl⟩, rfl⟩
    refine ⟨_, rfl, ?_⟩
    rw [List.length_map, List.take_length, ← es]; exact q
end
end Bg
set_option Elab.async false
set_option linter.all false
set_option maxRecDepth 100000
set_option maxHeartbeats 4000000
/-! the law's runs: what a function answers -/
namespace Bg
open PySem PySem.Spec PyProof.Rows L2
theorem filter_one {α : Type} {k : α → Str} : ∀ {l : List α} {a : α}, (l.map k).Nodup → a ∈ l → l.filter (fun b => decide (k b = k a)) = [a]
  | b :: l, a, nd, h => by
    rw [List.map_cons, List.nodup_cons] at nd
    rw [List.filter_cons]
    rcases List.mem_cons.mp h with e | h
    · subst e
      rw [if_pos (decide_eq_true rfl), List.filter_eq_nil_iff.mpr fun c hc => by simp only [decide_eq_true_eq]; exact fun e => nd.1 (e ▸ List.mem_map_of_mem hc)]
    · rw [if_neg (by simp only [decide_eq_true_eq]; exact fun e => nd.1 (e ▸ List.mem_map_of_mem h))]
      exact filter_one nd.2 h
theorem FRowAt.butL {H H' : Hp} {p : Addr} {xs : List V} (hp : H p = some (.lst xs)) (b : But p H H') {v : V} {f : FRow} (h : FRowAt H v f) : FRowAt H' v f := by
  obtain ⟨a, d, e, h1, kvs, h2, kd⟩ := h
  have nf : ∀ u, Fixed u → H p ≠ some u := fun u ff z => by rw [hp] at z; cases z; exact ff
  exact ⟨a, d, e, b _ _ (fun z => by rw [z, hp] at h1; cases h1) h1, kvs, b _ _ (fun z => by rw [z, hp] at h2; cases h2) h2, kd.mono fun _ _ ⟨b', e1, z⟩ => ⟨b', e1, z.mono (but_tups b nf)⟩⟩
section
variable {P : Program} {w : World} {K : PySem.W.Frag} {mg : Str → Option Value} {base : Heap} {fd : FuncData}
def spLEv (n : Nat) : Sp := fun vs H Q _ => ∃ (lr ta pr : Addr) (v : V) (us tv : List V) (rs : List Row) (fs : List FRow) (f : FRow) (d : PyData) (ps : List Int), vs = [.ref lr, .ref ta, .str f.1, v, .ref pr] ∧ H lr = some (.lst us) ∧ All2 (RowAt H) us rs ∧ H ta = some (.lst tv) ∧ All2 (FRowAt H) tv fs ∧ ValidT rs ∧ DrawnF rs fs ∧ f ∈ fs ∧ Td H v d ∧ fitB rs n f.2.1 d = true ∧ H pr = some (.lst (ps.map V.int)) ∧ lr ≠ pr ∧ ta ≠ pr ∧ ps.length + 63 * wt d ≤ 10000000 ∧
  ∀ H', But pr H H' → H' pr = some (.lst ((ps ++ (runT rs fs n f.1 d).2).map V.int)) → Q (.int (runT rs fs n f.1 d).1) H'
theorem ok_lev0 : FnOk P w K mg base CX0 2 (He.fAd K ("_law_eval", none)) fd p__law_eval (spLEv 0) := by
  refine ⟨fun vs H Q E h => ?_, fun A outer s H args us vs Q E hr e0 hb r h => ?_⟩
  · obtain ⟨_, _, _, _, _, _, _, _, _, _, _, rfl, _⟩ := h; rfl
  · obtain ⟨_, _, _, _, _, _, _, _, _, _, _, _, _, _, _, _, _, _, _, _, h, _⟩ := h; cases h
theorem ok_lev1 (T : Tx K mg) {n : Nat} {fe : FuncData} (G0 : FnOk P w K mg base CX0 (n + 2) (He.fAd K ("_law_eval", none)) fe p__law_eval (spLEv n)) (Fe : FnP K ("_law_eval", none) "_law_eval" "_law_eval" s__law_eval fe) (F : FnP K ("_law_eval", none) "_law_eval" "_law_eval" s__law_eval fd) : FnOk P w K mg base CX0 (n + 3) (He.fAd K ("_law_eval", none)) fd p__law_eval (spLEv (n + 1)) := by
  refine F.ok (k := n + 2) sc__law_eval (fun vs H Q E h => ?_) (fun cdv A outer s H vs Q E hr h => ?_)
  · obtain ⟨_, _, _, _, _, _, _, _, _, _, _, rfl, _⟩ := h; rfl
  obtain ⟨lr, ta, pr, v0, us, tv, rs, fs, f, d, ps, rfl, hlr, al, hta, alt, val, D, hf, td, fit0, hpr, nlp, ntp0, lps, q⟩ := h
  have hu := hu_of hr
  obtain ⟨m, ds, r, rfl, er, fit⟩ := fitB_inv fit0
  obtain ⟨hrr, ek, rfl⟩ := rowAt_of er
  obtain ⟨td0, xs, rfl, htd, tda⟩ := td_tup td
  cases tda with
  | @cons v1 ws0 _ _ t0 tda =>
  cases t0
  have lus : us.length = rs.length := al.1
  have ltv : tv.length = fs.length := alt.1
  have f6 := D.few
  have r12 := val.each.few
  have lds : ds.length = r.2.2.length := allV_len fit
  have lws0 : ws0.length = ds.length := tda.length
  have p4 := val.four r hrr
  obtain ⟨b0, eb0, dr⟩ := D.has val hf hrr ek
  have hm0 : r.2.1 ∈ f.2.2.2.map (·.1) := by
    obtain ⟨z, hz, e, _⟩ := bodyIn_mem eb0
    exact e ▸ List.mem_map_of_mem hz
  rw [runT_eq val D.nd hf hrr eb0] at q
  let bv : Str → Int := fun p => byteV (valIn r.2.2 ds p)
  have ask0 := ask_ok val hrr fit bv dr
  obtain ⟨sb1, sb2, sb3, sb4, sb5⟩ := stepsB_ok bv b0 [] dr.ok
  obtain ⟨tin1, tin2⟩ := testsB_in bv b0 [] dr.ok
  have tlen := testsB_len bv b0
  have w9 := dr.wt
  have bdp := dr.dep
  let O : Step → Out := outOf (runT rs fs n) bv (valIn r.2.2 ds)
  have q : ∀ H', But pr H H' → H' pr = some (.lst ((ps ++ ((stepsB bv b0).map O).flatMap (·.2)).map V.int)) → Q (.int (foldA f.2.2.1 (((stepsB bv b0).map O).map (·.1)))) H' := q
  generalize hTA : ((stepsB bv b0).map O).map (·.1) = TA at q
  generalize hPA : ps ++ ((stepsB bv b0).map O).flatMap (·.2) = PA at q
  have lTA : TA.length ≤ 63 := by rw [← hTA, List.length_map, List.length_map]; omega
  obtain ⟨f1, F1⟩ := T.F__law_steps
  obtain ⟨f2, F2⟩ := T.F__law_fold
  have nd := sc__law_eval.nd
  refine ⟨_, PSs.nox (pss_cons (ps_set (i := 5) nd rfl (.inl rfl) (pe_ix ix_list (pe_lc (own := [("_law_head", 5)]) (g := gName 5) rfl nd (pi_list (pv 1)) (blkOk_by (N := ["_law_rows_here", "_law_table", "_law_name_here", "_law_tree_here", "_law_prints", "_law_head", "_law_parts_here", "_law_values", "_law_k", "_law_taken", "_law_step", "_law_row"]) (sc := defScope s__law_eval) (by decide +kernel)) (fun _ _ _ _ _ => (pg_name (i := 5) nd rfl (Or.inl rfl))) (fun _ _ _ _ _ => pts_one (pt_cmpR op_eq (pe_ix (r := rIxT K) ix_tup (pv 5) pe_int (fun _ _ => rfl)) (pv 2) (nomark _))) (fun _ _ _ _ _ => (pv 5))) pe_int (fun _ _ => rfl)))
    (pss_cons (ps_set (i := 6) nd rfl (.inl rfl) (pe_ix ix_tup (pe_ix ix_list (pe_lc (own := [("_law_row", 11)]) (g := gName 11) rfl nd (pi_list (pv 0)) (blkOk_by (N := ["_law_rows_here", "_law_table", "_law_name_here", "_law_tree_here", "_law_prints", "_law_head", "_law_parts_here", "_law_values", "_law_k", "_law_taken", "_law_step", "_law_row"]) (sc := defScope s__law_eval) (by decide +kernel)) (fun _ _ _ _ _ => (pg_name (i := 11) nd rfl (Or.inl rfl))) (fun _ _ _ _ _ => pts_one (pt_cmpR op_eq (pe_ix (r := rIxT K) ix_tup (pv 11) pe_int (fun _ _ => rfl)) (pe_ix (r := rIxT K) ix_tup (pv 3) pe_int (fun _ _ => rfl)) (nomark _))) (fun _ _ _ _ _ => (pv 11))) pe_int (fun _ _ => rfl)) pe_int (fun _ _ => rfl)))
    (pss_cons (ps_set (i := 7) nd rfl (.inl rfl) pe_dnewK)
    (pss_cons (ps_for PassesOwn.never rfl (pi_range1 rfl T.n_range (pa_cons (pe_callB call_len_seq (by rfl) T.n_len PySem.boot_len (pa_cons (pv 6) pa_nil)) pa_nil)) (pg_name (i := 8) nd rfl (Or.inl rfl))
      (pss_one (ps_dput hu (pv 7) (pe_ix ix_tup (pe_ix ix_tup (pv 6) (pv 8) (fun _ _ => rfl)) pe_int (fun _ _ => rfl)) (pe_ix ix_tup (pv 3) (pe_op op_add (pv 8) pe_int) (fun _ _ => rfl)) rfl)))
    (pss_cons (ps_set (i := 9) nd rfl (.inl rfl) (pe_lst pa_nil))
    (pss_cons (ps_for PassesOwn.never rfl (pi_list (pe_call (ok_lsteps T F1) (hr.mono (by omega)) (by rfl) T.g_law_steps T.k_law_steps (b__law_steps F1) .nil pass0 (pa_cons (pe_dget hu (pe_ix ix_tup (pv 5) pe_int (fun _ _ => rfl)) (pe_ix ix_tup (pv 3) pe_int (fun _ _ => rfl)) (fun _ _ => rfl)) (pa_cons (pv 7) pa_nil)))) (pg_name (i := 10) nd rfl (Or.inl rfl))
      (pss_cons (ps_if (pt_cmpR op_eq (pe_ix ix_tup (pv 10) pe_int (fun _ _ => rfl)) pe_str (nomark _))
        (pss_cons (ps_expr (pe_bm PySem.F.plainAttrs_list PySem.F.slot_list_append PySem.F.type_list_append mt_append (pv 9) (pa_cons (pe_ix ix_tup (pv 10) pe_int (fun _ _ => rfl)) pa_nil)))
        (pss_one (ps_expr (pe_bm PySem.F.plainAttrs_list PySem.F.slot_list_append PySem.F.type_list_append mt_append (pv 4) (pa_cons (pe_ix ix_tup (pv 10) pe_int (fun _ _ => rfl)) pa_nil)))))
        pss_nil)
      (pss_cons (ps_if (pt_cmpR op_eq (pe_ix ix_tup (pv 10) pe_int (fun _ _ => rfl)) pe_str (nomark _))
        (pss_cons (ps_expr (pe_bm PySem.F.plainAttrs_list PySem.F.slot_list_append PySem.F.type_list_append mt_append (pv 9) (pa_cons (pe_dget hu (pv 7) (pe_ix ix_tup (pv 10) pe_int (fun _ _ => rfl)) (fun _ _ => rfl)) pa_nil)))
        (pss_one (ps_expr (pe_bm PySem.F.plainAttrs_list PySem.F.slot_list_append PySem.F.type_list_append mt_append (pv 4) (pa_cons (pe_dget hu (pv 7) (pe_ix ix_tup (pv 10) pe_int (fun _ _ => rfl)) (fun _ _ => rfl)) pa_nil)))))
        pss_nil)
      (pss_one (ps_if (pt_cmpR op_eq (pe_ix ix_tup (pv 10) pe_int (fun _ _ => rfl)) pe_str (nomark _))
        (pss_one (ps_expr (pe_bm PySem.F.plainAttrs_list PySem.F.slot_list_append PySem.F.type_list_append mt_append (pv 9) (pa_cons (pe_call G0 (hr.mono (by omega)) (by rfl) T.g_law_eval T.k_law_eval (b__law_eval Fe) .nil pass0 (pa_cons (pv 0) (pa_cons (pv 1) (pa_cons (pe_ix ix_tup (pv 10) pe_int (fun _ _ => rfl)) (pa_cons (pe_dget hu (pv 7) (pe_ix ix_tup (pv 10) pe_int (fun _ _ => rfl)) (fun _ _ => rfl)) (pa_cons (pv 4) pa_nil)))))) pa_nil))))
        pss_nil)))))
    (pss_one (ps_ret (pe_call (ok_lfold T F2) (hr.mono (by omega)) (by rfl) T.g_law_fold T.k_law_fold (b__law_fold F2) .nil pass0 (pa_cons (pe_ix ix_tup (pv 5) pe_int (fun _ _ => rfl)) (pa_cons (pv 9) pa_nil))))))))))), ?_⟩
  -- the head
  refine ⟨_, rfl, ta, rfl, ⟨_, .inl (.inl hta)⟩, fun D1 hD1 => lc_it (walk_list (K := K) (a := ta) (xs := tv)) (fun i H2 => Same H H2 ∧ ∃ acc, H2 D1 = some (.lst acc) ∧ All2 (FRowAt H) acc ((fs.take i).filter fun g => decide (g.1 = f.1))) ⟨same_new hD1, [], upd_same, All2.nil⟩ (fun i H2 _ z => .inl (.inl (z.1 _ _ hta))) ?_ ?_⟩
  · rintro i x H2 H3 hi ⟨sm, acc, hacc, ala⟩ ⟨rfl, hx⟩
    obtain ⟨g, hg, hga⟩ := alt.get hx
    obtain ⟨b, dd, rfl, hb, _⟩ := id hga
    have la : acc.length ≤ 1000 := by
      rw [ala.1]
      have h1 := List.length_filter_le (fun g : FRow => decide (g.1 = f.1)) (fs.take i)
      rw [List.length_take] at h1
      omega
    refine ⟨rfl, _, rfl, b, _, _, _, rfl, rfl, SqT.of (sm _ _ hb), atI_nat (j := 0) rfl, _, rfl, rfl, _, rfl, ?_⟩
    rw [eqStr]
    cases hc : decide (g.1 = f.1) with
    | true =>
      refine iteT ⟨_, rfl, acc, hacc, small1000 la, same_mut sm hD1, _, upd_same, ?_⟩
      rw [take_filter hg, hc]; exact ala.snoc hga
    | false =>
      refine iteF ⟨sm, acc, hacc, ?_⟩
      rw [take_filter hg, hc]; simpa using ala
  rintro H1 ⟨s1, acc1, hacc1, ala1⟩
  rw [alt.1, List.take_length, filter_one D.nd hf] at ala1
  obtain ⟨fv, acc1', rfl, hfa, nil1⟩ : ∃ u l, acc1 = u :: l ∧ FRowAt H u f ∧ l = [] := by
    match acc1, ala1 with
    | [u], a => exact ⟨u, [], rfl, a.get (i := 0) rfl |>.elim fun x hx => by obtain ⟨e, z⟩ := hx; cases e; exact z, rfl⟩
    | [], a => exact absurd a.1 (by simp)
    | _ :: _ :: _, a => exact absurd a.1 (by simp)
  obtain ⟨hda, bd, rfl, hhd, hbd⟩ := id hfa
  refine ⟨D1, _, _, _, rfl, rfl, SqL.of hacc1, atI_nat (j := 0) rfl, ?_⟩
  -- the parts
  refine ⟨_, rfl, lr, rfl, ⟨_, .inl (.inl (s1 _ _ hlr))⟩, fun D2 hD2 => lc_it (walk_list (K := K) (a := lr) (xs := us)) (fun i H2 => Same H1 H2 ∧ ∃ acc, H2 D2 = some (.lst acc) ∧ All2 (RowAt H) acc ((rs.take i).filter fun g => decide (g.2.1 = r.2.1))) ⟨same_new hD2, [], upd_same, All2.nil⟩ (fun i H2 _ z => .inl (.inl (z.1 _ _ (s1 _ _ hlr)))) ?_ ?_⟩
  · rintro i x H2 H3 hi ⟨sm, acc, hacc, ala⟩ ⟨rfl, hx⟩
    obtain ⟨g, hg, hga⟩ := al.get hx
    obtain ⟨b, u, rfl, hb, _⟩ := id hga
    have la : acc.length ≤ 1000 := by
      rw [ala.1]
      have h1 := List.length_filter_le (fun g : Row => decide (g.2.1 = r.2.1)) (rs.take i)
      rw [List.length_take] at h1
      omega
    refine ⟨rfl, _, rfl, b, _, _, _, rfl, rfl, SqT.of (sm _ _ (s1 _ _ hb)), atI_nat (j := 1) rfl, _, rfl, td0, _, _, _, rfl, rfl, SqT.of (sm _ _ (s1 _ _ htd)), atI_nat (j := 0) rfl, rfl, _, rfl, ?_⟩
    rw [eqStr]
    cases hc : decide (g.2.1 = r.2.1) with
    | true =>
      refine iteT ⟨_, rfl, acc, hacc, small1000 la, same_mut sm hD2, _, upd_same, ?_⟩
      rw [take_filter hg, hc]; exact ala.snoc hga
    | false =>
      refine iteF ⟨sm, acc, hacc, ?_⟩
      rw [take_filter hg, hc]; simpa using ala
  rintro H2 ⟨s2, acc2, hacc2, ala2⟩
  rw [al.1, List.take_length, filter_one (k := fun g : Row => g.2.1) val.each.nd hrr] at ala2
  obtain ⟨rv, acc2', rfl, hra, nil2⟩ : ∃ u l, acc2 = u :: l ∧ RowAt H u r ∧ l = [] := by
    match acc2, ala2 with
    | [u], a => exact ⟨u, [], rfl, a.get (i := 0) rfl |>.elim fun x hx => by obtain ⟨e, z⟩ := hx; cases e; exact z, rfl⟩
    | [], a => exact absurd a.1 (by simp)
    | _ :: _ :: _, a => exact absurd a.1 (by simp)
  have s02 := s1.trans s2
  obtain ⟨rb, ru, rfl, hrb, hpa⟩ := id hra
  obtain ⟨c, cs, rfl, hc, alp⟩ := id hpa
  refine ⟨D2, _, _, _, rfl, rfl, SqL.of hacc2, atI_nat (j := 0) rfl, rb, _, _, _, rfl, rfl, SqT.of (s02 _ _ hrb), atI_nat (j := 2) rfl, ?_⟩
  -- the values
  refine fun dv hdv => ?_
  have s3 := same_new (o := .dK []) hdv
  have s03 := s02.trans s3
  have hdv0 : H dv = none := Option.eq_none_iff_forall_ne_some.mpr fun o e => by rw [s02 _ _ e] at hdv; cases hdv
  have lcs : cs.length = r.2.2.length := alp.1
  simp only [L2.start, List.map_cons, List.map_nil, List.length_cons, List.length_nil, List.cons_append, List.nil_append, List.set_cons_succ, List.set_cons_zero, List.replicate]
  refine ⟨_, rfl, c, _, rfl, .inr (SqT.of (s03 _ _ hc)), _, rfl, by show -(2 ^ 62) ≤ ((cs.length : Nat) : Int); omega, by show ((cs.length : Nat) : Int) < 2 ^ 62; omega, ?_⟩
  refine for_it walk_range (fun i σ G => ∃ (v8 : Option V) (kvs : List (Key × V)), σ = [some (.ref lr), some (.ref ta), some (.str f.1), some (.ref td0), some (.ref pr), some (.ref hda), some (.ref c), some (.ref dv), v8, none, none, none] ∧ Same H G ∧ G dv = some (.dK kvs) ∧ KD kvs ((r.2.2.take i).map (·.1)) (fun p v => Td G v (valIn r.2.2 ds p)))
    ⟨_, [], rfl, s03, upd_same, KD.nil⟩ (fun _ _ _ _ _ => trivial) ?_ ?_
  · rintro i x σ H4 G hi ⟨v8, kvs, rfl, sG, hdvG, kd⟩ ⟨rfl, rfl⟩
    have li : i < r.2.2.length := by have z : i < ((cs.length : Nat) : Int).toNat := hi; omega
    have hp := List.getElem?_eq_getElem li
    generalize r.2.2[i] = p at hp
    obtain ⟨wv, hwv⟩ : ∃ u, cs[i]? = some u := ⟨_, List.getElem?_eq_getElem (by omega)⟩
    obtain ⟨p', hp', pat⟩ := alp.get hwv
    rw [hp] at hp'; cases hp'
    obtain ⟨e, es, rfl, he, x0, x1⟩ := partAt_ix (pat.mono (tups_of sG))
    obtain ⟨u, hu0⟩ : ∃ u, ws0[i]? = some u := ⟨_, List.getElem?_eq_getElem (by omega)⟩
    obtain ⟨du, hdu, tdu⟩ := tda.get hu0
    have tu := tups_upd (H := G) (p := dv) (o := .dK (putK kvs (Sum.inr p.1) u)) fun u' ff zz => by rw [hdvG] at zz; cases zz; exact ff
    have lk : kvs.length ≤ 1000 := by
      have := kd.length
      rw [List.length_map, List.length_take] at this; omega
    have gi : atI cs ((0 : Int) + (i : Nat)) = some (.ref e) := at_nat (j := i) (by omega) hwv
    have gj : atI (V.str r.2.1 :: ws0) ((0 : Int) + (i : Nat) + 1) = some u := at_nat (j := i + 1) (by omega) (by simpa using hu0)
    refine ⟨_, rfl, _, rfl, _, _, rfl, rfl, td0, _, _, _, rfl, rfl, SqT.of (sG _ _ htd), gj, _, rfl, _, rfl, _, rfl, c, _, _, _, rfl, rfl, SqT.of (sG _ _ hc), gi, e, _, _, _, rfl, rfl, SqT.of he, atI_nat (j := 0) x0, dv, _, rfl, DPut.k (k := Sum.inr p.1) hdvG (small1000 lk), ?_⟩
    refine ⟨_, _, rfl, same_mut sG hdv0, upd_same, ?_⟩
    have new : p.1 ∉ (r.2.2.take i).map (·.1) := by
      rw [List.map_take]
      exact not_mem_take_of_nodup (val.ndp hrr) (by rw [List.getElem?_map, hp]; rfl)
    rw [take_succ_of hp, List.map_append]
    show KD _ ((r.2.2.take i).map (·.1) ++ [p.1]) _
    rw [← addNew_of_not new]
    refine KD.put kd (fun j u' nj h => h.mono tu) ?_
    rw [valIn_at (val.ndp hrr) hp hdu]
    exact tdu.mono ((tups_of sG).trans tu)
  rintro σ H4 ⟨v8, kvs, rfl, s4, hdv4, kd4⟩
  have e8 : ((cs.length : Nat) : Int).toNat = r.2.2.length := by omega
  rw [e8, List.take_length] at kd4
  have hva4 : ValsAt H4 dv r ds := ⟨kvs, hdv4, kd4⟩
  refine ⟨Nat.zero_le _, fun tk htk => ?_⟩
  have s5 := same_new (o := .lst []) htk
  have htk0 : H tk = none := Option.eq_none_iff_forall_ne_some.mpr fun o e => by rw [s4 _ _ e] at htk; cases htk
  have ntp : tk ≠ pr := fun e => by rw [e, s4 _ _ hpr] at htk; cases htk
  have s05 := s4.trans s5
  have hva5 := ValsAt.mono (tups_of s5) (fun o e => s5 _ _ e) hva4
  obtain ⟨bkvs, hbd2, bkd⟩ := id hbd
  obtain ⟨bv2, ebv2, b, eb, tb⟩ := bkd.some hm0
  rw [eb0] at eb; cases eb
  simp only [List.set_cons_succ, List.set_cons_zero]
  -- the steps
  refine ⟨_, rfl, hda, _, _, _, rfl, rfl, SqT.of (s05 _ _ hhd), atI_nat (j := 3) rfl, _, rfl, td0, _, _, _, rfl, rfl, SqT.of (s05 _ _ htd), atI_nat (j := 0) rfl, bd, _, rfl, (by rw [← ebv2]; exact DGet.k (k := Sum.inr r.2.1) (s05 _ _ hbd2)), _, rfl, ?_⟩
  refine ⟨bv2, dv, b0, rs, r, ds, n, rfl, tb.mono (tups_of s05), hva5, val, hrr, fit, dr.ok, dr.odd, by omega, by omega, fun sl sw H6 s6 nsl hsl tsw => ?_⟩
  have s06 := s05.trans s6
  have lsw : sw.length = (testsB bv b0).length := by rw [tsw.length, List.length_map]
  have nslp : sl ≠ pr := fun e => by rw [e, s05 _ _ hpr] at nsl; cases nsl
  have nslt : sl ≠ tk := fun e => by rw [e, upd_same] at nsl; cases nsl
  generalize hL : testsB bv b0 = L at tsw lsw tin1 tin2 tlen
  let C : List Step → Nat := fun l => (l.map fun t => 1 + 63 * ((asksOf t).map fun x => wt (valIn r.2.2 ds x)).sum).sum
  have C_cons : ∀ a l, C (a :: l) = 1 + 63 * ((asksOf a).map fun x => wt (valIn r.2.2 ds x)).sum + C l := fun a l => by show (List.map _ (a :: l)).sum = _; rw [List.map_cons, List.sum_cons]
  have C_le : ∀ l : List Step, C l = l.length + 63 * ((l.flatMap asksOf).map fun x => wt (valIn r.2.2 ds x)).sum := fun l => by
    induction l with
    | nil => rfl
    | cons t l ih => rw [C_cons, ih, List.flatMap_cons, List.map_append, List.sum_append, List.length_cons]; omega
  have c0 : ps.length + C (L.filter noT) ≤ 10000000 := by
    rw [tin1]
    have h2 := valIn_wt r.2.2 ds ((stepsB bv b0).flatMap asksOf) sb2 (fun x hx => by
      obtain ⟨t, ht, hx⟩ := List.mem_flatMap.mp hx
      obtain ⟨as, ok⟩ := sb4 t ht
      exact stepB_part ok x hx) lds
    have e : wt (.tuple (.str r.2.1 :: ds)) = 2 + wtAll ds := by rw [wt, wtAll]; simp [wt]; omega
    rw [C_le]
    rw [e] at lps
    omega
  have nfp : ∀ u, Fixed u → H pr ≠ some u := fun u ff e => by rw [hpr] at e; cases e; exact ff
  refine ⟨sl, rfl, ⟨_, .inl (.inl hsl)⟩, for_it (walk_list (K := K) (a := sl) (xs := sw)) (fun i σ G => ∃ (U P' : List Int) (v8 v10 : Option V), σ = [some (.ref lr), some (.ref ta), some (.str f.1), some (.ref td0), some (.ref pr), some (.ref hda), some (.ref c), some (.ref dv), v8, some (.ref tk), v10, none] ∧ But pr H G ∧ G sl = some (.lst sw) ∧ TdAll G sw (L.map stepD) ∧ ValsAt G dv r ds ∧ G tk = some (.lst (U.map V.int)) ∧ G pr = some (.lst (P'.map V.int)) ∧
      U ++ (((L.drop i).filter noT).map O).map (·.1) = TA ∧ P' ++ (((L.drop i).filter noT).map O).flatMap (·.2) = PA ∧ AskOk rs fs n r ds ((L.drop i).filter noT) ∧ P'.length + C ((L.drop i).filter noT) ≤ 10000000)
    ⟨[], ps, _, _, rfl, but_of s06, hsl, tsw, ValsAt.mono (tups_of s6) (fun o e => s6 _ _ e) hva5, s6 _ _ upd_same, s06 _ _ hpr, by rw [List.drop_zero, tin1]; exact hTA, by rw [List.drop_zero, tin1]; exact hPA, by rw [List.drop_zero, tin1]; exact ask0, by rw [List.drop_zero]; exact c0⟩ (fun i σ G _ z => by obtain ⟨_, _, _, _, _, _, z, _⟩ := z; exact .inl (.inl z)) ?_ ?_⟩
  rotate_left
  · rintro σ G ⟨U, P', v8, v10, rfl, bG, hslG, tsG, hvaG, htkG, hprG, eT, eP, _, _⟩
    rw [lsw, List.drop_length, List.filter_nil, List.map_nil] at eT eP
    rw [List.map_nil, List.append_nil] at eT
    rw [List.flatMap_nil, List.append_nil] at eP
    have htG := but_tups bG nfp
    refine ⟨_, rfl, hda, _, _, _, rfl, rfl, SqT.of (htG _ (.tup _) trivial hhd), atI_nat (j := 2) rfl, _, rfl, ?_⟩
    refine ⟨f.2.2.1, tk, U, rfl, htkG, D.fold f hf, ?_⟩
    rw [eT]
    exact q G bG (by rw [hprG, eP])
  rintro i z σ G0 G hi ⟨U, P', v8, v10, rfl, bG, hslG, tsG, hvaG, htkG, hprG, eT, eP, ask, cb⟩ ⟨rfl, hz⟩
  obtain ⟨d0, hd0, tdi⟩ := TdAll.at_ tsG hz
  rw [List.getElem?_map, Option.map_eq_some_iff] at hd0
  obtain ⟨st, hst, rfl⟩ := hd0
  have li := (List.getElem?_eq_some_iff.mp hst).1
  obtain ⟨nbr, odd⟩ := tin2 st (List.mem_of_getElem? hst)
  have drop : L.drop i = st :: L.drop (i + 1) := by
    rw [List.drop_eq_getElem_cons li]
    congr 1
    rw [List.getElem?_eq_getElem li] at hst
    exact Option.some.inj hst
  have lU : U.length ≤ 63 := by
    have := congrArg List.length eT
    rw [List.length_append] at this; omega
  have lP : P'.length ≤ 10000000 := by omega
  obtain ⟨dkvs, hdvG, kdG⟩ := id hvaG
  -- a number is taken and printed
  have put2 : ∀ (k : Int), But pr H (upd (upd G tk (.lst (U.map V.int ++ [V.int k]))) pr (.lst (P'.map V.int ++ [V.int k]))) ∧ (upd G tk (.lst (U.map V.int ++ [V.int k]))) pr = some (.lst (P'.map V.int)) ∧ (upd (upd G tk (.lst (U.map V.int ++ [V.int k]))) pr (.lst (P'.map V.int ++ [V.int k]))) tk = some (.lst ((U ++ [k]).map V.int)) ∧
      (upd (upd G tk (.lst (U.map V.int ++ [V.int k]))) pr (.lst (P'.map V.int ++ [V.int k]))) pr = some (.lst ((P' ++ [k]).map V.int)) ∧ Tups G (upd G tk (.lst (U.map V.int ++ [V.int k]))) ∧ Tups G (upd (upd G tk (.lst (U.map V.int ++ [V.int k]))) pr (.lst (P'.map V.int ++ [V.int k]))) ∧ (upd (upd G tk (.lst (U.map V.int ++ [V.int k]))) pr (.lst (P'.map V.int ++ [V.int k]))) sl = some (.lst sw) ∧
      (upd G tk (.lst (U.map V.int ++ [V.int k]))) dv = some (.dK dkvs) ∧ ValsAt (upd (upd G tk (.lst (U.map V.int ++ [V.int k]))) pr (.lst (P'.map V.int ++ [V.int k]))) dv r ds := fun k => by
    have ndt : dv ≠ tk := fun e => by rw [e, htkG] at hdvG; cases hdvG
    have ndp : dv ≠ pr := fun e => by rw [e, hprG] at hdvG; cases hdvG
    have hpr3 : (upd G tk (.lst (U.map V.int ++ [V.int k]))) pr = some (.lst (P'.map V.int)) := by rw [upd_ne ntp.symm]; exact hprG
    have t1 := tups_upd (H := G) (p := tk) (o := .lst (U.map V.int ++ [V.int k])) fun u ff zz => by rw [htkG] at zz; cases zz; exact ff
    have t2 := tups_upd (H := upd G tk (.lst (U.map V.int ++ [V.int k]))) (p := pr) (o := .lst (P'.map V.int ++ [V.int k])) fun u ff zz => by rw [hpr3] at zz; cases zz; exact ff
    refine ⟨fun c o n e => ?_, hpr3, by rw [upd_ne ntp, upd_same, List.map_append]; rfl, by rw [upd_same, List.map_append]; rfl, t1, t1.trans t2, by rw [upd_ne nslp, upd_ne nslt]; exact hslG, by rw [upd_ne ndt]; exact hdvG, hvaG.mono (t1.trans t2) fun o e => by rw [upd_ne ndp, upd_ne ndt]; exact e⟩
    rw [upd_ne n, upd_ne (ne_of_none e htk0)]
    exact bG _ _ n e
  cases st with
  | br p c ba bb => cases nbr
  | odd wd ws2 =>
    rcases odd with e | ⟨p, e⟩
    · cases e
    cases e
    rw [drop, List.filter_cons, if_neg (by simp [noT])] at eT eP ask cb
    unfold stepD at tdi
    obtain ⟨sa, sxs, rfl, hsa, tsa⟩ := td_tup tdi
    cases tsa with
    | cons u0 tsa =>
    cases u0
    refine ⟨_, rfl, sa, _, _, _, rfl, rfl, SqT.of hsa, atI_nat (j := 0) rfl, rfl, _, rfl, iteFe (by decide +kernel) ?_⟩
    refine ⟨_, rfl, sa, _, _, _, rfl, rfl, SqT.of hsa, atI_nat (j := 0) rfl, rfl, _, rfl, iteFe (by decide +kernel) ?_⟩
    refine ⟨_, rfl, sa, _, _, _, rfl, rfl, SqT.of hsa, atI_nat (j := 0) rfl, rfl, _, rfl, iteFe (by decide +kernel) ?_⟩
    exact ⟨U, P', _, _, rfl, bG, hslG, tsG, hvaG, htkG, hprG, eT, eP, ask, cb⟩
  | say k =>
    rw [drop, List.filter_cons, if_pos (show noT _ = true from rfl)] at eT eP ask cb
    rw [C_cons] at cb
    unfold stepD at tdi
    obtain ⟨sa, sxs, rfl, hsa, tsa⟩ := td_tup tdi
    cases tsa with
    | cons u0 tsa =>
    cases tsa with
    | cons u1 tsa =>
    cases tsa
    cases u0; cases u1
    obtain ⟨p1, p2, p3, p4', p5, p6, p7, p8, p9⟩ := put2 k
    refine ⟨_, rfl, sa, _, _, _, rfl, rfl, SqT.of hsa, atI_nat (j := 0) rfl, rfl, _, rfl, iteTe (by decide +kernel) ?_⟩
    refine ⟨_, rfl, .inl ⟨rfl, _, SqL.of htkG⟩, _, rfl, sa, _, _, _, rfl, rfl, SqT.of hsa, atI_nat (j := 1) rfl, tk, _, _, rfl, rfl, htkG, small1000 (by rw [List.length_map]; omega), ?_⟩
    refine ⟨_, rfl, .inl ⟨rfl, _, SqL.of p2⟩, _, rfl, sa, _, _, _, rfl, rfl, SqT.of (p5 _ (.tup _) trivial hsa), atI_nat (j := 1) rfl, pr, _, _, rfl, rfl, p2, lt10 (by rw [List.length_map]; exact lP), ?_⟩
    have hsa2 := p6 _ (.tup _) trivial hsa
    refine ⟨_, rfl, sa, _, _, _, rfl, rfl, SqT.of hsa2, atI_nat (j := 0) rfl, rfl, _, rfl, iteFe (by decide +kernel) ?_⟩
    refine ⟨_, rfl, sa, _, _, _, rfl, rfl, SqT.of hsa2, atI_nat (j := 0) rfl, rfl, _, rfl, iteFe (by decide +kernel) ?_⟩
    exact ⟨U ++ [k], P' ++ [k], _, _, rfl, p1, p7, TdAll.mono p6 tsG, p9, p3, p4', by rw [← eT]; simp [O, outOf], by rw [← eP]; simp [O, outOf], ⟨fun t ht => ask.all t (List.mem_cons_of_mem _ ht)⟩, by rw [List.length_append, List.length_singleton]; omega⟩
  | read p =>
    rw [drop, List.filter_cons, if_pos (show noT _ = true from rfl)] at eT eP ask cb
    rw [C_cons] at cb
    unfold stepD at tdi
    obtain ⟨sa, sxs, rfl, hsa, tsa⟩ := td_tup tdi
    cases tsa with
    | cons u0 tsa =>
    cases tsa with
    | cons u1 tsa =>
    cases tsa
    cases u0; cases u1
    obtain ⟨q0, hq0, e0, _, k, ek0, _⟩ : ∃ q ∈ r.2.2, q.1 = p ∧ q.2.1 = ("byte" : Str) ∧ ∃ i : Int, valIn r.2.2 ds p = .int i ∧ 0 ≤ i ∧ i ≤ 255 := by
      rcases ask.all (.read p) (List.mem_cons_self ..) with ⟨k, e, _⟩ | ⟨q, hq, e, eb, i, ei, i0, i1⟩ | ⟨q, hq, g, hg, e, _⟩
      · cases e
      · cases e; exact ⟨q, hq, rfl, eb, i, ei, i0, i1⟩
      · cases e
    obtain ⟨p1, p2, p3, p4', p5, p6, p7, p8, p9⟩ := put2 k
    have eO : O (.read p) = (k, [k]) := by
      show (bv p, [bv p]) = (k, [k])
      have : bv p = k := by show byteV (valIn r.2.2 ds p) = k; rw [ek0]; rfl
      rw [this]
    obtain ⟨vk, evk, tvk⟩ := kdG.some (e0 ▸ List.mem_map_of_mem (f := fun p : Part => p.1) hq0)
    rw [ek0] at tvk
    cases tvk
    refine ⟨_, rfl, sa, _, _, _, rfl, rfl, SqT.of hsa, atI_nat (j := 0) rfl, rfl, _, rfl, iteFe (by decide +kernel) ?_⟩
    refine ⟨_, rfl, sa, _, _, _, rfl, rfl, SqT.of hsa, atI_nat (j := 0) rfl, rfl, _, rfl, iteTe (by decide +kernel) ?_⟩
    refine ⟨_, rfl, .inl ⟨rfl, _, SqL.of htkG⟩, _, rfl, _, rfl, sa, _, _, _, rfl, rfl, SqT.of hsa, atI_nat (j := 1) rfl, dv, _, rfl, (by rw [← evk]; exact DGet.k (k := Sum.inr p) hdvG), tk, _, _, rfl, rfl, htkG, small1000 (by rw [List.length_map]; omega), ?_⟩
    refine ⟨_, rfl, .inl ⟨rfl, _, SqL.of p2⟩, _, rfl, _, rfl, sa, _, _, _, rfl, rfl, SqT.of (p5 _ (.tup _) trivial hsa), atI_nat (j := 1) rfl, dv, _, rfl, (by rw [← evk]; exact DGet.k (k := Sum.inr p) p8), pr, _, _, rfl, rfl, p2, lt10 (by rw [List.length_map]; exact lP), ?_⟩
    have hsa2 := p6 _ (.tup _) trivial hsa
    refine ⟨_, rfl, sa, _, _, _, rfl, rfl, SqT.of hsa2, atI_nat (j := 0) rfl, rfl, _, rfl, iteFe (by decide +kernel) ?_⟩
    exact ⟨U ++ [k], P' ++ [k], _, _, rfl, p1, p7, TdAll.mono p6 tsG, p9, p3, p4', by rw [← eT, List.map_cons, eO]; simp, by rw [← eP, List.map_cons, eO]; simp, ⟨fun t ht => ask.all t (List.mem_cons_of_mem _ ht)⟩, by rw [List.length_append, List.length_singleton]; omega⟩
  | call g0 p0 =>
    rw [drop, List.filter_cons, if_pos (show noT _ = true from rfl)] at eT eP ask cb
    rw [C_cons] at cb
    unfold stepD at tdi
    obtain ⟨sa, sxs, rfl, hsa, tsa⟩ := td_tup tdi
    cases tsa with
    | cons u0 tsa =>
    cases tsa with
    | cons u1 tsa =>
    cases tsa with
    | cons u2 tsa =>
    cases tsa
    cases u0; cases u1; cases u2
    obtain ⟨p, hp, g, hg, e1, e2, fg⟩ : ∃ q ∈ r.2.2, ∃ g ∈ fs, g0 = g.1 ∧ p0 = q.1 ∧ fitB rs n g.2.1 (valIn r.2.2 ds q.1) = true := by
      rcases ask.all (.call g0 p0) (List.mem_cons_self ..) with ⟨k, e, _⟩ | ⟨q, hq, e, _⟩ | ⟨q, hq, g, hg, e, _, _, fg⟩
      · cases e
      · cases e
      · cases e; exact ⟨q, hq, g, hg, rfl, rfl, fg⟩
    subst e1 e2
    obtain ⟨vk, evk, tvk⟩ := kdG.some (List.mem_map_of_mem (f := fun p : Part => p.1) hp)
    simp only [asksOf, List.map_cons, List.map_nil, List.sum_cons, List.sum_nil] at cb
    refine ⟨_, rfl, sa, _, _, _, rfl, rfl, SqT.of hsa, atI_nat (j := 0) rfl, rfl, _, rfl, iteFe (by decide +kernel) ?_⟩
    refine ⟨_, rfl, sa, _, _, _, rfl, rfl, SqT.of hsa, atI_nat (j := 0) rfl, rfl, _, rfl, iteFe (by decide +kernel) ?_⟩
    refine ⟨_, rfl, sa, _, _, _, rfl, rfl, SqT.of hsa, atI_nat (j := 0) rfl, rfl, _, rfl, iteTe (by decide +kernel) ?_⟩
    refine ⟨_, rfl, .inl ⟨rfl, _, SqL.of htkG⟩, _, rfl, _, rfl, _, rfl, sa, _, _, _, rfl, rfl, SqT.of hsa, atI_nat (j := 1) rfl, _, rfl, _, rfl, sa, _, _, _, rfl, rfl, SqT.of hsa, atI_nat (j := 2) rfl, dv, _, rfl, (by rw [← evk]; exact DGet.k (k := Sum.inr p.1) hdvG), _, rfl, ?_⟩
    refine ⟨lr, ta, pr, vk, us, tv, rs, fs, g, _, P', rfl, bG _ _ nlp hlr, al.mono fun _ _ z => z.mono (but_tups bG nfp), bG _ _ ntp0 hta, alt.mono fun _ _ z => z.butL hpr bG, val, D, hg, tvk, fg, hprG, nlp, ntp0, by omega, fun G3 b3 hpr3 => ?_⟩
    have nf2 : ∀ u, Fixed u → G pr ≠ some u := fun u ff e => by rw [hprG] at e; cases e; exact ff
    have t3 := but_tups b3 nf2
    have htk3 := b3 _ _ ntp htkG
    generalize hrr0 : runT rs fs n g.1 (valIn r.2.2 ds p.1) = rr at hpr3
    have eO : O (.call g.1 p.1) = rr := hrr0
    have ndt : dv ≠ tk := fun e => by rw [e, htkG] at hdvG; cases hdvG
    have ndp : dv ≠ pr := fun e => by rw [e, hprG] at hdvG; cases hdvG
    have t4 := t3.trans (tups_upd (H := G3) (p := tk) (o := .lst (U.map V.int ++ [V.int rr.1])) fun u ff zz => by rw [htk3] at zz; cases zz; exact ff)
    refine ⟨tk, _, _, rfl, rfl, htk3, small1000 (by rw [List.length_map]; omega), ?_⟩
    have lrr := (runT_ok val D n g hg _ fg).2
    rw [hrr0] at lrr
    refine ⟨U ++ [rr.1], P' ++ rr.2, _, _, rfl, fun c o nn e => ?_, by rw [upd_ne nslt]; exact b3 _ _ nslp hslG, TdAll.mono t4 tsG, hvaG.mono t4 fun o e => by rw [upd_ne ndt]; exact b3 _ _ ndp e, by rw [upd_same, List.map_append]; rfl, by rw [upd_ne ntp.symm]; exact hpr3, by rw [← eT, List.map_cons, eO]; simp, by rw [← eP, List.map_cons, eO]; simp, ⟨fun t ht => ask.all t (List.mem_cons_of_mem _ ht)⟩, by rw [List.length_append]; omega⟩
    rw [upd_ne (ne_of_none e htk0)]
    exact b3 _ _ nn (bG _ _ nn e)
theorem okLEv (T : Tx K mg) (F : FnP K ("_law_eval", none) "_law_eval" "_law_eval" s__law_eval fd) : ∀ n, FnOk P w K mg base CX0 (n + 2) (He.fAd K ("_law_eval", none)) fd p__law_eval (spLEv n)
  | 0 => ok_lev0
  | n + 1 => ok_lev1 T (okLEv T F n) F F
end
end Bg
set_option Elab.async false
set_option linter.all false
set_option maxRecDepth 100000
set_option maxHeartbeats 4000000
namespace Bg
open PySem PySem.Spec PyProof.Rows L2
section
variable {P : Program} {w : World} {K : PySem.W.Frag} {mg : Str → Option Value} {base : Heap} {fd : FuncData}
/-- text * int -/
theorem op_mulS {X : Cx} : OpR X (binaryOp .Mult) (fun x y H Q => ∃ (z : Str) (n : Int), x = .str z ∧ y = .int n ∧ MulOk z n ∧ Q (.str (Txt.mul z n)) H) := by
  intro pins s σ H x y v u Q I rx ry h
  obtain ⟨z, n, rfl, rfl, ok, q⟩ := h
  obtain ⟨t, rfl⟩ := rx
  obtain ⟨t', rfl⟩ := ry
  exact PySem.SB.mul ok fun t2 k => ⟨.str _, H, I.tok k, ⟨t2, rfl⟩, q⟩
/-- x not in o, o an instance with its own __contains__ -/
theorem op_notInOwn {X : Cx} {CX : CXT} {n : Nat} {C f : Addr} {fd : FuncData} {ps : List Str} {sp : Sp} {E : XK} (F : FnOk X.prog X.w X.K X.mg X.base CX n f fd ps sp) (hr : Room n X.A) (m : Meth X.K C "__contains__" f) (hb : Binds X.K fd ps []) (hx : Passes CX X E) :
    OpR X (compareOp .NotIn) (fun x y H Q => ∃ a dx fs, y = .ref a ∧ H a = some (.ins C dx fs) ∧ sp [.ref a, x] H (fun v H' => ∃ b, v = .bl b ∧ Q (.bl (!b)) H') E) := by
  intro pins s σ H x y v u Q I rx ry h
  obtain ⟨a, dx, fs, rfl, ha, q⟩ := h
  cases ry
  obtain ⟨mA, J, _⟩ := ins_get I.hok ha
  obtain ⟨od, J, _⟩ := J.look
  obtain ⟨m', hF⟩ := I.fr
  refine PySem.W.notIn_K hF I.ok.mod.kin J m.at_ m.fn ?_
  refine thn (run_fn F hr hb .nil hx I (.cons (show RelV (V.ref a) (Value.ref a) from rfl) (.cons rx .nil)) q) fun r s' z => ?_
  obtain ⟨z1, H', I', rz, b, rfl, q'⟩ := z
  cases rz
  exact wpAny_truthy_bool ⟨.bl (!b), H', I', rfl, q'⟩
end
end Bg
set_option Elab.async false
set_option linter.all false
set_option maxRecDepth 100000
set_option maxHeartbeats 4000000
namespace Bg
open PySem PySem.Spec PyProof.Rows L2
section
variable {P : Program} {w : World} {K : PySem.W.Frag} {mg : Str → Option Value} {base : Heap} {fd : FuncData}
def spLInt : Sp := fun vs H Q _ => ∃ n : Int, vs = [.int n] ∧ Q (.bl true) H
theorem ok_lint (T : Tx K mg) (F : FnP K ("_law_int", none) "_law_int" "_law_int" s__law_int fd) : FnOk P w K mg base CX0 1 (He.fAd K ("_law_int", none)) fd ["_law_value"] spLInt := by
  refine F.ok sc__law_int (fun vs H Q E h => ?_) (fun cdv A outer s H vs Q E hr h => ?_)
  · obtain ⟨_, rfl, _⟩ := h; rfl
  obtain ⟨v, rfl, q⟩ := h
  refine ⟨_, PSs.nox (pss_one (ps_ret (pe_and (pe_callB call_isi (by rfl) T.n_isinstance (by decide +kernel) (pa_cons (pv 0) (pa_cons (pe_bltn (v := .ty "int") (by rfl) T.n_int (by decide +kernel) rfl) pa_nil)))
    (pe_one (pe_not (pe_callB call_isi (by rfl) T.n_isinstance (by decide +kernel) (pa_cons (pv 0) (pa_cons (pe_bltn (v := .ty "bool") (by rfl) T.n_bool (by decide +kernel) rfl) pa_nil)))))))), ?_⟩
  refine ⟨_, rfl, .int v, .ty "int", .type "int", .type "int", true, rfl, ClsV.ty _, TyX.base (TyOf.int v), kit_ty (by decide +kernel), _, rfl, iteT ?_⟩
  exact ⟨_, rfl, .int v, .ty "bool", .type "int", .type "bool", false, rfl, ClsV.ty _, TyX.base (TyOf.int v), kit_ty (by decide +kernel), _, rfl, q⟩
end
end Bg
set_option Elab.async false
set_option linter.all false
set_option maxRecDepth 100000
set_option maxHeartbeats 1000000
/-! a token is out, through a loop's body -/
namespace Bg
open PySem PySem.Spec PyProof.Rows L2 CwR
theorem thnT {α : Type} {M : Model} {A : Around} {c : Sem α} {Q R : α → Shared → Prop} {E : Value → Shared → Prop} {s : Shared} (h : wpAny M A c Q E s) (k : ∀ v s', s.toks ≤ s'.toks → Q v s' → R v s') : wpAny M A c R E s :=
  wpAny_mono (PySem.wpAny_toks h) (fun v s' q => k v s' q.1 q.2) fun _ _ z => z.2
section
variable {X : Cx} {e o a b : Expr} {te to ta tb : TE} {pos : Pos}
theorem pst_set {i : Nat} {x : Str} {pos' : Pos} (hN : X.N.Nodup) (hi : X.N[i]? = some x) (hx : Loc X.env.scope x) (he : PET X e te) (hs : swapsWith e (some (.Name x pos')) pos.line X.env = pure false := by rfl)
    (hf : X.fn x = true ∨ X.env.scope.names.lookup x = some .local := by first | exact .inl rfl | exact .inr rfl | assumption) : PST X (.Assign [.Name x pos'] e pos) (tAsg te (gName i)) := by
  intro pins s σ H D h0 I h
  refine wpAny_Assign_Name (thn (he pins s σ H _ h0 I h) fun v s1 ⟨y, H1, I1, r1, q1⟩ => ?_) hs
  exact store_ok I1 hN hi hx r1 (fun s2 I2 => ⟨_, H1, I2, q1⟩) hf
theorem pet_ix {r : R2} (hr : IxR X r) (ha : PET X a ta) (hb : PET X b tb) (hs : PlainIx b) : PET X (.Subscript a b pos) (tOp r ta tb) := by
  intro pins s σ H Q h0 I h
  refine Subscript_ (thnT (ha pins s σ H _ h0 I h) fun v s1 k1 ⟨x, H1, I1, r1, q1⟩ => ?_)
  exact thn (hb pins s1 σ H1 _ (Nat.le_trans h0 k1) I1 q1) fun u s2 ⟨y, H2, I2, r2, q2⟩ => hr a b pins s2 σ H2 x y v u Q I2 r1 r2 q2 (hs _ _)
theorem pet_bm {T id : String} {name : Str} {r : V → List V → Hp → VK → Prop} {e : Expr} {es : List Expr} {t : TA} {apos cpos : Pos} (pa : PlainAttrs T) (slot : Slot T name id) (hty : typeOf (.builtin id) = pure (.type "method_descriptor")) (hm : MtR X id r) (ho : PET X o to) (ha : PAT X (e :: es) t)
    (hbase : attributeBase o name X.env (eval o X.env) = eval o X.env := by rfl)
    (hfew : ((backTo cpos (starEach (e :: es) X.env)).all (fun x => !x.1) && (backToKw cpos (keywordEach [] X.env)).all (fun x => x.1.isSome)
      && decide ((e :: es).length + ([] : List Keyword).length + (if ([] : List Keyword).isEmpty then 0 else 1) < 30)) = true := by rfl)
    (hline : (apos.endLine == cpos.line) = true := by rfl) (hs : starEach (e :: es) X.env = (false, eval e X.env) :: starEach es X.env := by rfl) (hplain : (backTo cpos (starEach es X.env)).any (·.1) = false := by rfl) :
    PET X (.Call (.Attribute o name apos) (e :: es) [] cpos) (tBM X.K T r to t) := by
  intro pins s σ H Q h0 I h
  refine wpAny_Call_method_late hbase hfew hline rfl (thnT (ho pins s σ H _ h0 I h) fun v s1 k1 ⟨x, H1, I1, r1, ty, q1⟩ => ?_)
  obtain ⟨h1, h2⟩ := tyV_is I1 r1 ty
  refine ⟨T, id, pa, slot, hty, h1, h2, ?_⟩
  have hA := ha cpos pins s1 σ H1 _ (Nat.le_trans h0 k1) I1 q1
  rw [hs] at hA ⊢
  refine Calls.callWith_builtin (by show (false || (backTo cpos (starEach es X.env)).any (·.1)) = false; rw [hplain] <;> rfl) (Calls.evalArgs_plain ?_)
  exact thn hA fun us s2 ⟨vs, H2, I2, r2, q2⟩ => hm pins s2 σ H2 x vs v us Q I2 r1 r2 q2
theorem pet_tup {es : List Expr} {t : TA} {k : Nat} {pos : Pos} (h : PAT X es t) : PET X (.Tuple es k pos) (tTup t) := by
  intro pins s σ H Q h0 I hq
  refine wpAny_Tuple_spliced (thn (h pos pins s σ H _ h0 I hq) fun us s1 ⟨xs, H1, I1, r, z, q⟩ => ⟨by rw [← r.length]; exact z, ?_⟩)
  have hf : H1 s1.heap.objs.size = none := I1.hok.fresh (Nat.le_refl _)
  refine ⟨.ref s1.heap.objs.size, upd H1 s1.heap.objs.size (.tup xs), I1.laid (t' := s1.toks) (fun b u e => Heap.get?_push_of_some _ e) (Nat.le_refl _) ?_, rfl, q _ hf⟩
  exact ⟨z, us, r, ⟨_, Heap.get?_push_size _ rfl, rfl, _, rfl⟩⟩
theorem psst_nox {st : List Stmt} {t : TS} (h : PSsT X.nox st t) : PSsT X st t := fun pins s σ H D h0 I hw =>
  wpAny_mono (h pins s σ H D h0 (I.wish _) hw) (fun _ _ q => q.unwish) fun _ _ z => False.elim z
theorem pst_forT {tg iter : Expr} {body : List Stmt} {wi : TI} {g : TG} {tb : TS} (hp : PassesOwn (model X.prog X.w) X.A X.env X.xe) (hc : X.calm = true) (hi : PI X tg iter wi) (hg : PG X tg g) (hb : PSsT X body tb)
    (hs : ∀ x, foldedSetIterable iter X.env x = pure x := by intro _; rfl) : PST X (.For tg iter body [] pos) (tFor wi g tb) := by
  intro pins s σ H D h0 I h
  refine wpAny_For (thnT (hi.run pins s σ H _ I h) fun v s1 k1 h1 => thnT h1 fun itv s2 k2 h2 => ?_) hs
  obtain ⟨it, fp, tn, J, H2, e, I2, T, st2, f2, W, ⟨m0, w0⟩, turn⟩ := h2
  subst e
  have stat : ∀ {H' : Hp}, (∀ b ∈ fp, H' b = none) → ∀ b ∈ fp, FpOk X pins H' b := fun hn b hb => ⟨hn b hb, (f2 b hb).2⟩
  refine codeAny_forLoop_any (fun n s' => 1 ≤ s'.toks ∧ ∃ i σ' H', Inv X pins σ' H' s' ∧ tn i s'.heap ∧ (∀ b ∈ fp, H' b = none) ∧ W i n σ' H') ?_ m0 ⟨by omega, 0, σ, H2, I2, st2, fun b hb => (f2 b hb).1, w0⟩
  rintro n s3 ⟨k3, i, σ3, H3, I3, st3, fr3, w3⟩
  rcases turn i n σ3 H3 w3 with ⟨stop, qn⟩ | ⟨go, N, hN, step⟩
  · refine wpAny_passesOwn hp (thn (T.done X rfl rfl rfl hc i pins s3 σ3 H3 X.xe I3 (stat fr3) st3 stop) fun r s4 ⟨hr, I4⟩ => ?_)
    subst hr
    exact wpAny_execs_nil ⟨σ3, H3, I4, qn⟩
  · refine wpAny_passesOwn hp (thnT (T.item X rfl rfl rfl hc i pins s3 σ3 H3 X.xe I3 (stat fr3) st3 go) fun r s4 k4 ⟨u, hr, h4⟩ => ?_)
    subst hr
    refine wpAny_passesOwn hp (thnT h4 fun _ s5 k5 ⟨x, H5, I5, r5, y5, st5, fr5⟩ => ?_)
    have I5' := I5.pinned (stat fr5) (T.obj _ _ st5)
    refine wpAny_passesOwn hp (thnT (hg.run _ s5 σ3 H5 x u _ I5' r5 (step x H5 y5)) fun _ s6 k6 ⟨σ6, H6, I6, q6⟩ => ?_)
    refine wpAny_passesOwn hp (thnT (hb _ s6 σ6 H6 _ (by omega) I6 q6) fun f s7 k7 q7 => ?_)
    have again : ∀ {σ7 : L2.St} {H7 : Hp}, Inv X (pins ++ pinsAt fp s5.heap) σ7 H7 s7 → N σ7 H7 → ∃ m, m < n ∧ 1 ≤ s7.toks ∧ ∃ i σ' H', Inv X pins σ' H' s7 ∧ tn i s7.heap ∧ (∀ b ∈ fp, H' b = none) ∧ W i m σ' H' := fun {σ7 H7} I7 n7 => by
      obtain ⟨m', hm, w7⟩ := hN σ7 H7 n7
      refine ⟨m', hm, by omega, i + 1, σ7, H7, I7.unpinned, T.keep _ _ _ st5 fun b hb o e => (I7.pin (b, o) (List.mem_append_right _ (List.mem_append_right _ (mem_pinsAt hb e)))).1, fun b hb => ?_, w7⟩
      obtain ⟨o, e, d⟩ := T.obj _ _ st5 b hb
      exact (I7.pin (b, o) (List.mem_append_right _ (List.mem_append_right _ (mem_pinsAt hb e)))).2.1
    cases f with
    | next => obtain ⟨σ7, H7, I7, n7⟩ := q7; exact again I7 n7
    | cont => obtain ⟨σ7, H7, I7, n7⟩ := q7; exact again I7 n7
    | brk => obtain ⟨σ7, H7, I7, q7⟩ := q7; exact ⟨σ7, H7, I7.unpinned, q7⟩
    | ret v => obtain ⟨x7, σ7, H7, I7, r7, q7⟩ := q7; exact ⟨x7, σ7, H7, I7.unpinned, r7, q7⟩
end
theorem nsSet_wp (M : Model) (Γ : PySem.Ctx) (p : Pos) (s : Shared) (a : Addr) (name : Str) (v : Value) : ∃ T : Sem Unit, ∀ Q E, Sem.wp M Γ (nsSet a name v) Q E p s = Sem.wp M Γ T Q E p { s with toks := s.toks + 1 } := by
  refine ⟨?T, fun Q E => ?_⟩
  rotate_left
  · unfold nsSet strHash
    rw [Sem.wp_bind', Sem.wp_bind', Sem.wp_cmd_ask, Sem.wp_pure', Sem.wp_bind', Sem.wp_cmd_mkText]
theorem nsSet_tok {M : Model} {A : Around} {E : Value → Shared → Prop} {s : Shared} {a : Addr} {name : Str} {v : Value} {Q : Unit → Shared → Prop} (h : wpAny M A (nsSet a name v) Q E s) : wpAny M A (nsSet a name v) (fun u s' => 1 ≤ s'.toks ∧ Q u s') E s := fun Γ p hΓ => by
  have h := h Γ p hΓ
  obtain ⟨T, e⟩ := nsSet_wp M Γ p s a name v
  rw [e] at h ⊢
  exact Sem.wp_mono _ _ _ (fun _ _ _ z => z) (fun _ _ _ z => z.2) _ _ (Sem.wp_toks M Γ 1 _ _ _ p _ (by show 1 ≤ s.toks + 1; omega) h)
/-- x = e, x a local: behind it a token is out -/
theorem pss_first {i : Nat} {x : Str} {pos' : Pos} {rest : List Stmt} {u : TS} (hN : X.N.Nodup) (hi : X.N[i]? = some x) (hx : X.env.scope.names.lookup x = some .local) (he : PE X e te) (h2 : PSsT X rest u) (hs : swapsWith e (some (.Name x pos')) pos.line X.env = pure false := by rfl) : PSs X (.Assign [.Name x pos'] e pos :: rest) (tSeq (tAsg te (gName i)) u) := by
  refine ⟨fun pins s σ H D I h => ?_⟩
  refine wpAny_execs_cons (wpAny_Assign_Name (thn (he.run pins s σ H _ I h) fun v s1 ⟨y, H1, I1, r1, q1⟩ => ?_) hs)
  have st := store_ok (M := model X.prog X.w) (A := X.A) (E := X.xe) (Q := fun _ s2 => Inv X pins (σ.set i (some y)) H1 s2) I1 hN hi (.inl hx) r1 (fun s2 I2 => I2) (.inr hx)
  have hcls : (X.env.scope.kind == .class || (X.env.scope.kind == .module && X.env.locals != X.env.globals)) = false := by rw [I.ok.kind]; rfl
  rw [storeName_local hx hcls] at st ⊢
  exact thn (nsSet_tok st) fun _ s2 q => h2 pins s2 _ H1 D q.1 q.2 q1
section
variable {P : Program} {w : World} {K : PySem.W.Frag} {mg : Str → Option Value} {base : Heap} {x qual : Str} {params : Arguments} {body : List Stmt} {scope : Scope} {dvs : List V} {kws : List (Str × V)} {f : Addr} {fd : FuncData}
/-- a def without cells whose body gives out a token -/
theorem okT {CX : CXT} {N ps : List Str} {k : Nat} {sp : Sp} (F : FunD K x qual params body scope dvs kws f fd) (S : FnScope N ps scope) (hnc : ∀ y ∈ scope.names, y.2 ≠ .cell) (hps : 1 ≤ ps.length) (len : ∀ vs H Q E, sp vs H Q E → vs.length = ps.length)
    (hbody : ∀ (cdv : Value) (A : Around) (outer : List Env) (s : Shared) (H : Hp) (vs : List V) (Q : VK) (E : XK), Room k (A.deeper (envOfC qual scope s.heap.objs.size f cdv)) → sp vs H Q E →
      ∃ t, PSsT (cxOf CX P w K mg base N qual scope f cdv A outer s H E) body t ∧ t { nx := fun _ H' => Q .non H', rt := Q } (start N vs) H) : FnOk P w K mg base CX (k + 1) f fd ps sp := by
  obtain ⟨oc, od, dV, kV, doc, pm, an, cdv, ct, osl, rfl, lk, hcd, _, _⟩ := F.ex
  exact fn_ofT lk hcd S hnc hps len fun A outer s H vs Q E hr hsp => hbody cdv A outer s H vs Q E hr hsp
end
end Bg
set_option Elab.async false
set_option linter.all false
set_option maxRecDepth 100000
set_option maxHeartbeats 2000000
/-! a test whose left side needs a token -/
namespace Bg
open PySem PySem.Spec PyProof.Rows L2
section
variable {X : Cx} {a b : Expr} {ta tb : TE} {body orelse : List Stmt} {t u : TS} {pos p : Pos}
theorem pst_ifC {op : CmpOp} {r : R2} (ho : OpR X (compareOp op) r) (ha : PET X a ta) (hb : PE X b tb) (hm : behindInMarks op b = false) (h1 : PSsT X body t) (h2 : PSsT X orelse u) : PST X (.If (.Compare a [op] [b] p) body orelse pos) (tIfS (tTest (tOp r ta tb)) t u) := by
  intro pins s σ H D h0 I h
  have hc : wpAny (model X.prog X.w) X.A (isTrue (.Compare a [op] [b] p) X.env (eval (.Compare a [op] [b] p) X.env)) (TP X pins σ (fun b H1 => if b = true then t D σ H1 else u D σ H1)) X.xe s := by
    refine wpAny_isTrue_Compare1 (thn (ha pins s σ H _ h0 I h) fun v s1 ⟨x, H1, I1, r1, q1⟩ => thn (hb.run pins s1 σ H1 _ I1 q1) fun u s2 ⟨y, H2, I2, r2, q2⟩ =>
      thn (ho pins s2 σ H2 x y v u _ I2 r1 r2 q2) fun c s3 ⟨z, H3, I3, r3, k, e, q3⟩ => ?_) hm
    subst e
    cases r3
    exact wpAny_truthy_bool ⟨H3, I3, q3⟩
  refine wpAny_If (wpAny_mono (PySem.wpAny_toks hc) (fun d s1 q => ?_) fun _ _ z => z.2)
  obtain ⟨hk, H1, I1, q1⟩ := q
  cases d with
  | true => exact h1 pins s1 σ H1 D (Nat.le_trans h0 hk) I1 q1
  | false => exact h2 pins s1 σ H1 D (Nat.le_trans h0 hk) I1 q1
end
end Bg
set_option Elab.async false
set_option linter.all false
set_option maxRecDepth 100000
set_option maxHeartbeats 4000000
/-! the law's comparison of lists of ints -/
namespace Bg
open PySem PySem.Spec PyProof.Rows L2
section
variable {P : Program} {w : World} {K : PySem.W.Frag} {mg : Str → Option Value} {base : Heap} {fd : FuncData}
def spInts (K : PySem.W.Frag) : Sp := fun vs H Q _ => ∃ (a b : Addr) (ks : List Int), vs = [.ref a, .ref b] ∧ H a = some (.lst (ks.map V.int)) ∧ H b = some (.lst (ks.map V.int)) ∧ ks.length ≤ 10000000 ∧ Q (.bl true) H
theorem ok_ints (T : Tx K mg) (F : FnP K ("_law_ints", none) "_law_ints" "_law_ints" s__law_ints fd) : FnOk P w K mg base CX0 2 (He.fAd K ("_law_ints", none)) fd p__law_ints (spInts K) := by
  refine F.ok (k := 1) sc__law_ints (fun vs H Q E h => ?_) (fun cdv A outer s H vs Q E hr h => ?_)
  · obtain ⟨_, _, _, rfl, _⟩ := h; rfl
  obtain ⟨a, b, ks, rfl, ha, hb, lk, q⟩ := h
  obtain ⟨f1, F1⟩ := T.F__law_int
  have nd := sc__law_ints.nd
  refine ⟨_, PSs.nox (pss_cons (ps_if (PW.pt (pw_or (pt_not (pt_val (pe_callB call_isi (by rfl) T.n_isinstance (by decide +kernel) (pa_cons (pv 0) (pa_cons (pe_bltn (v := .ty "list") (by rfl) T.n_list (by decide +kernel) rfl) pa_nil))))) (pw_or1 (pt_cmpR op_ne (pe_callB call_len_seq (by rfl) T.n_len PySem.boot_len (pa_cons (pv 0) pa_nil)) (pe_callB call_len_seq (by rfl) T.n_len PySem.boot_len (pa_cons (pv 1) pa_nil)) (nomark _)))))
      (pss_one (ps_ret pe_bl))
      pss_nil)
    (pss_cons (ps_for PassesOwn.never rfl (pi_range1 rfl T.n_range (pa_cons (pe_callB call_len_seq (by rfl) T.n_len PySem.boot_len (pa_cons (pv 1) pa_nil)) pa_nil)) (pg_name (i := 2) nd rfl (Or.inl rfl))
      (pss_one (ps_if (PW.pt (pw_or (pt_not (pt_val (pe_call (ok_lint T F1) (hr.mono (by omega)) (by rfl) T.g_law_int T.k_law_int (b__law_int F1) .nil pass0 (pa_cons (pe_ix ix_list (pv 0) (pv 2) (fun _ _ => rfl)) pa_nil)))) (pw_or1 (pt_cmpR op_ne (pe_ix ix_list (pv 0) (pv 2) (fun _ _ => rfl)) (pe_ix ix_list (pv 1) (pv 2) (fun _ _ => rfl)) (nomark _)))))
        (pss_one (ps_ret pe_bl))
        pss_nil)))
    (pss_one (ps_ret pe_bl)))), ?_⟩
  refine ⟨_, rfl, .ref a, .ty "list", .type "list", .type "list", true, rfl, ClsV.ty _, TyX.base (TyOf.lst ha), kit_ty (by decide +kernel), _, rfl, iteF ?_⟩
  refine ⟨_, rfl, a, _, rfl, .inl (SqL.of ha), _, rfl, b, _, rfl, .inl (SqL.of hb), rfl, _, rfl, ?_⟩
  refine ite2 (fun h => ?_) (fun h => ?_)
  · exfalso; simp at h
  refine ⟨_, rfl, b, _, rfl, .inl (SqL.of hb), _, rfl, by show -(2 ^ 62) ≤ (((ks.map V.int).length : Nat) : Int); omega, by show (((ks.map V.int).length : Nat) : Int) < 2 ^ 62; rw [List.length_map]; omega, ?_⟩
  refine for_it walk_range (fun i σ H2 => (∃ v2, σ = [some (.ref a), some (.ref b), v2]) ∧ H2 = H) ⟨⟨_, rfl⟩, rfl⟩ (fun _ _ _ _ _ => trivial) ?_ ?_
  · rintro i x σ H2 H3 hi ⟨⟨v2, rfl⟩, rfl⟩ ⟨rfl, rfl⟩
    have li : i < ks.length := by have z : i < (((ks.map V.int).length : Nat) : Int).toNat := hi; rw [List.length_map] at z; omega
    have gx : atI (ks.map V.int) ((0 : Int) + (i : Nat)) = some (.int ks[i]) := at_nat (j := i) (by omega) (by rw [List.getElem?_map, List.getElem?_eq_getElem li]; rfl)
    refine ⟨_, rfl, _, rfl, a, _, _, _, rfl, rfl, SqL.of ha, gx, ks[i], rfl, _, rfl, iteF ?_⟩
    refine ⟨_, rfl, _, rfl, a, _, _, _, rfl, rfl, SqL.of ha, gx, _, rfl, _, rfl, b, _, _, _, rfl, rfl, SqL.of hb, gx, rfl, _, rfl, ?_⟩
    refine ite2 (fun h => ?_) (fun h => ⟨⟨_, rfl⟩, rfl⟩)
    exfalso; simp at h
  · rintro σ H2 ⟨⟨v2, rfl⟩, rfl⟩
    exact q
end
end Bg
set_option Elab.async false
set_option linter.all false
set_option maxRecDepth 100000
set_option maxHeartbeats 4000000
/-! a run is right -/
namespace Bg
open PySem PySem.Spec PyProof.Rows L2
section
variable {P : Program} {w : World} {K : PySem.W.Frag} {mg : Str → Option Value} {base : Heap} {fd : FuncData}
def spRight17 (K : PySem.W.Frag) : Sp := fun vs H Q _ => ∃ (y x lr ta : Addr) (v : V) (us tv : List V) (rs : List Row) (fs : List FRow) (f : FRow) (d : PyData), vs = [.ref y, .ref lr, .ref ta, .str f.1, v] ∧ FunsF K H y x fs ∧ KindsF K H x rs ∧ H lr = some (.lst us) ∧ All2 (RowAt H) us rs ∧ H ta = some (.lst tv) ∧ All2 (FRowAt H) tv fs ∧ ValidT rs ∧ DrawnF rs fs ∧ f ∈ fs ∧ Td H v d ∧ Hd d ∧ fitB rs 40 f.2.1 d = true ∧ wt d ≤ 150000 ∧ ∀ H', Same H H' → Q (.bl true) H'
theorem ok_right17 (T : Tx K mg) (F : FnP K ("_law_right", none) "_law_right" "_law_right" s__law_right fd) : FnOk P w K mg base CX0 87 (He.fAd K ("_law_right", none)) fd p__law_right (spRight17 K) := by
  obtain ⟨fe, Fe⟩ := T.F__law_eval
  have GE := okLEv (P := P) (w := w) (mg := mg) (base := base) T Fe 40
  refine F.ok (k := 86) sc__law_right (fun vs H Q E h => ?_) (fun cdv A outer s H vs Q E hr h => ?_)
  · obtain ⟨_, _, _, _, _, _, _, _, _, _, _, rfl, _⟩ := h; rfl
  obtain ⟨y, x, lr, ta, v, us, tv, rs, fs, f, d, rfl, hF, hK, hlr, al, hta, alt, val, D, hf, td, hd, fit, lw, q⟩ := h
  obtain ⟨f1, F1⟩ := T.F_run_tree
  obtain ⟨f2, F2⟩ := T.F__law_int
  obtain ⟨f3, F3⟩ := T.F__law_ints
  have nd := sc__law_right.nd
  refine ⟨_, PSs.nox (pss_cons (ps_set (i := 5) nd rfl (.inl rfl) (pe_lst pa_nil))
    (pss_cons (ps_set (i := 6) nd rfl (.inl rfl) (pe_call GE (hr.mono (by omega)) (by rfl) T.g_law_eval T.k_law_eval (b__law_eval Fe) .nil pass0 (pa_cons (pv 1) (pa_cons (pv 2) (pa_cons (pv 3) (pa_cons (pv 4) (pa_cons (pv 5) pa_nil)))))))
    (pss_cons (ps_set (i := 7) nd rfl (.inl rfl) (pe_call (okc_runT T F1) (hr.mono (by omega)) (by rfl) T.g_run_tree T.k_run_tree (b_run_tree F1) .nil pass0 (pa_cons (pv 0) (pa_cons (pv 3) (pa_cons (pv 4) pa_nil)))))
    (pss_cons (ps_if (PW.pt (pw_or (pt_not (pt_val (pe_callB call_isi (by rfl) T.n_isinstance (by decide +kernel) (pa_cons (pv 7) (pa_cons (pe_bltn (v := .ty "tuple") (by rfl) T.n_tuple (by decide +kernel) rfl) pa_nil))))) (pw_or (pt_cmpR op_ne (pe_callB call_len_seq (by rfl) T.n_len PySem.boot_len (pa_cons (pv 7) pa_nil)) pe_int (nomark _)) (pw_or (pt_not (pt_val (pe_call (ok_lint T F2) (hr.mono (by omega)) (by rfl) T.g_law_int T.k_law_int (b__law_int F2) .nil pass0 (pa_cons (pe_ix ix_tup (pv 7) pe_int (fun _ _ => rfl)) pa_nil)))) (pw_or1 (pt_cmpR op_ne (pe_ix ix_tup (pv 7) pe_int (fun _ _ => rfl)) (pv 6) (nomark _)))))))
      (pss_one (ps_ret pe_bl))
      pss_nil)
    (pss_cons (ps_if (pt_not (pt_val (pe_call (ok_ints T F3) (hr.mono (by omega)) (by rfl) T.g_law_ints T.k_law_ints (b__law_ints F3) .nil pass0 (pa_cons (pe_ix ix_tup (pv 7) pe_int (fun _ _ => rfl)) (pa_cons (pv 5) pa_nil)))))
      (pss_one (ps_ret pe_bl))
      pss_nil)
    (pss_cons (ps_set (i := 8) nd rfl (.inl rfl) (pe_ix ix_tup (pv 7) pe_int (fun _ _ => rfl)))
    (pss_cons (ps_expr (pe_bm PySem.F.plainAttrs_list PySem.F.slot_list_append PySem.F.type_list_append mt_append (pv 8) (pa_cons pe_int pa_nil)))
    (pss_one (ps_ret pe_bl))))))))), ?_⟩
  refine ⟨Nat.zero_le _, fun pr hpr => ?_⟩
  have s1 := same_new (o := .lst []) hpr
  have nlp : lr ≠ pr := fun e => by rw [e, hpr] at hlr; cases hlr
  have ntp : ta ≠ pr := fun e => by rw [e, hpr] at hta; cases hta
  refine ⟨_, rfl, _, rfl, _, rfl, _, rfl, _, rfl, lr, ta, pr, v, us, tv, rs, fs, f, d, [], rfl, s1 _ _ hlr, al.mono fun _ _ z => z.mono (tups_of s1), s1 _ _ hta, alt.mono fun _ _ z => z.same s1, val, D, hf, td.mono (tups_of s1), fit, upd_same, nlp, ntp, by simp only [List.length_nil]; omega, fun H2 b2 hpr2 => ?_⟩
  have s2 : Same H H2 := fun b o e => b2 _ _ (ne_of_none e hpr) (s1 _ _ e)
  have lp := (runT_ok val D 40 f hf d fit).2
  rw [List.nil_append] at hpr2
  generalize hrr : runT rs fs 40 f.1 d = rr at hpr2 lp
  refine ⟨_, rfl, _, rfl, _, rfl, y, x, f.1, v, rs, fs, d, rfl, hF.same s2, hK.same s2, val, D, td.mono (tups_of s2), hd, fun g hg eg => ⟨fun _ => ⟨lw, fun t p3 H3 s3 np3 ht hp3 => ?_⟩, fun hb => ?_⟩, fun z => absurd (List.mem_map_of_mem hf) z⟩
  rotate_left
  · cases name_uniq D.nd hg hf eg
    rw [fit] at hb; cases hb
  rw [hrr] at ht hp3
  have hpr3 := s3 _ _ hpr2
  refine ⟨_, rfl, .ref t, .ty "tuple", .type "tuple", .type "tuple", true, rfl, ClsV.ty _, TyX.base (TyOf.tup ht), kit_ty (by decide +kernel), _, rfl, iteF ?_⟩
  refine ⟨_, rfl, t, _, rfl, .inr (SqT.of ht), rfl, _, rfl, iteF ?_⟩
  refine ⟨_, rfl, t, _, _, _, rfl, rfl, SqT.of ht, atI_nat (j := 0) rfl, rr.1, rfl, _, rfl, iteF ?_⟩
  refine ⟨_, rfl, t, _, _, _, rfl, rfl, SqT.of ht, atI_nat (j := 0) rfl, _, rfl, rfl, _, rfl, ?_⟩
  rw [show (!decide (V.int rr.1 = V.int rr.1)) = false by simp]
  refine iteF ⟨_, rfl, t, _, _, _, rfl, rfl, SqT.of ht, atI_nat (j := 1) rfl, _, rfl, p3, pr, rr.2, rfl, hp3, hpr3, by omega, _, rfl, iteF ?_⟩
  refine ⟨_, rfl, t, _, _, _, rfl, rfl, SqT.of ht, atI_nat (j := 1) rfl, ?_⟩
  refine ⟨_, rfl, .inl ⟨rfl, _, SqL.of hp3⟩, p3, _, _, rfl, rfl, hp3, lt10 (by rw [List.length_map]; omega), ?_⟩
  have np : H p3 = none := Option.eq_none_iff_forall_ne_some.mpr fun o e => by rw [s2 _ _ e] at np3; cases np3
  exact q _ (same_mut (s2.trans s3) np)
end
end Bg
set_option Elab.async false
set_option linter.all false
set_option maxRecDepth 100000
set_option maxHeartbeats 1000000
/-! dicts are told behind an expression -/
namespace Bg
open PySem PySem.Spec PyProof.Rows L2
def tTellE (te : TE) : TE := fun σ H Q => te σ H fun v H1 => ∃ as : List Addr, Dicts as H1 ∧ ∀ H2, Told as H1 H2 → Q v H2
theorem pe_tell {X : Cx} {e : Expr} {te : TE} (h : PE X e te) : PE X e (tTellE te) :=
  ⟨fun pins s σ H Q I hw => thn (h.run pins s σ H _ I hw) fun v s1 ⟨x, H1, I1, r1, as, d, q⟩ => by
    obtain ⟨H2, t, I2⟩ := told_inv I1 as d
    exact ⟨x, H2, I2, r1, q H2 t⟩⟩
end Bg
set_option Elab.async false
set_option linter.all false
set_option maxRecDepth 100000
set_option maxHeartbeats 4000000
/-! rows that a law makes by hand; one row more -/
namespace Bg
open PySem PySem.Spec PyProof.Rows L2
structure PL (H0 G : Hp) (vs : List V) (ps : List Part) : Prop where
  same : Same H0 G
  all : All2 (PartAt G) vs ps
theorem pl_nil {H0 : Hp} : PL H0 H0 [] [] := ⟨Same.refl _, All2.nil⟩
theorem pl_snoc {H0 G : Hp} {vs : List V} {ps : List Part} {p : Addr} {part : Part} (h : PL H0 G vs ps) (hp : G p = none) : PL H0 (upd G p (.tup (partVs part))) (vs ++ [.ref p]) (ps ++ [part]) :=
  ⟨h.same.trans (same_new hp), (h.all.mono fun _ _ z => z.mono (tups_of (same_new hp))).snoc ⟨p, rfl, upd_same⟩⟩
theorem rowAt_new {H0 G : Hp} {vs : List V} {ps : List Part} {t row : Addr} {k m : Str} (pl : PL H0 G vs ps) (ht : G t = none) (hrow : (upd G t (.tup vs)) row = none) :
    RowAt (upd (upd G t (.tup vs)) row (.tup [.str k, .str m, .ref t])) (.ref row) (k, m, ps) ∧ Same H0 (upd (upd G t (.tup vs)) row (.tup [.str k, .str m, .ref t])) := by
  have s1 := pl.same.trans ((same_new (o := .tup vs) ht).trans (same_new (o := .tup [.str k, .str m, .ref t]) hrow))
  have pa : PartsAt (upd G t (.tup vs)) (.ref t) ps := ⟨t, vs, rfl, upd_same, pl.all.mono fun _ _ z => z.mono (tups_of (same_new ht))⟩
  exact ⟨⟨row, .ref t, rfl, upd_same, pa.mono (tups_of (same_new hrow))⟩, s1⟩
theorem ra_cat {H : Hp} {l b : Addr} {r1 r2 : List Row} {Q : VK} (h1 : RowsAt H l r1) (h2 : RowsAt H b r2) (sz : r1.length + r2.length ≤ 1000) (q : ∀ p H', H p = none → Same H H' → RowsAt H' p (r1 ++ r2) → Q (.ref p) H') : rCat (.ref l) (.ref b) H Q := by
  obtain ⟨u1, e1, a1⟩ := h1
  obtain ⟨u2, e2, a2⟩ := h2
  have bg : 4000 ≤ sizeLine := by rw [sizeLine_eq]; decide
  refine ⟨l, b, u1, u2, rfl, rfl, e1, e2, by rw [a1.1, a2.1]; omega, fun p hp => q p _ hp (same_new hp) ⟨u1 ++ u2, upd_same, (a1.app a2).mono fun _ _ z => z.mono (tups_of (same_new hp))⟩⟩
theorem ra_one {H : Hp} {p row : Addr} {r : Row} (h : RowAt H (.ref row) r) (hp : H p = none) : RowsAt (upd H p (.lst [.ref row])) p [r] :=
  ⟨[.ref row], upd_same, (All2.snoc All2.nil (h.mono (tups_of (same_new hp))))⟩
theorem snoc_each {rs : List Row} {r : Row} (ok : EachOk rs) (few : rs.length < 12) (g : kindB r.1 = true ∧ nameB r.2.1 = true ∧ partsB r.2.2 = true) (new : r.2.1 ∉ rmakers rs) (old : r.1 ∈ rkinds rs) : EachOk (rs ++ [r]) := by
  refine ⟨fun x hx => ?_, ?_, by rw [List.length_append]; simp; omega, ?_⟩
  · rcases List.mem_append.mp hx with z | z
    · exact ok.good x z
    · rw [List.mem_singleton.mp z]; exact g
  · unfold rmakers
    rw [List.map_append]
    refine (List.perm_append_comm.nodup_iff).mpr ?_
    exact List.nodup_cons.mpr ⟨new, ok.nd⟩
  · refine Nat.le_trans (nodup_sub_len _ (distinct (rkinds rs)) (nodup_distinct _) fun k hk => ?_) ok.kinds
    have hk := mem_distinct.mp hk
    unfold rkinds at hk
    rw [List.map_append, List.mem_append] at hk
    rcases hk with z | z
    · exact mem_distinct.mpr z
    · rw [List.mem_singleton.mp z]; exact mem_distinct.mpr old
/-- one row more, of a kind that is there -/
theorem snoc_valid {rs : List Row} {r : Row} (val : ValidT rs) (few : rs.length < 12) (sh : RowShort r) (g : kindB r.1 = true ∧ nameB r.2.1 = true ∧ partsB r.2.2 = true) (new : r.2.1 ∉ rmakers rs) (old : r.1 ∈ rkinds rs)
    (inn : ∀ p ∈ r.2.2, p.2.1 = ("byte" : Str) ∨ p.2.1 ∈ rkinds rs) : ValidT (rs ++ [r]) := by
  have sub : ∀ k ∈ rkinds rs, k ∈ rkinds (rs ++ [r]) := fun k hk => by
    unfold rkinds; rw [List.map_append, List.mem_append]; exact .inl hk
  have back : ∀ k ∈ rkinds (rs ++ [r]), k ∈ rkinds rs := fun k hk => by
    unfold rkinds at hk
    rw [List.map_append, List.mem_append] at hk
    rcases hk with z | z
    · exact z
    · rw [List.mem_singleton.mp z]; exact old
  obtain ⟨rank, f⟩ := val.fin
  refine ⟨⟨by rw [List.length_append]; simp; omega, fun x hx => ?_⟩, by simp, snoc_each val.each few g new old, fun x hx p hp => ?_, rank, fun k hk => ?_, fun k hk => ?_⟩
  · rcases List.mem_append.mp hx with z | z
    · exact val.short.2 x z
    · rw [List.mem_singleton.mp z]; exact sh
  · rcases List.mem_append.mp hx with z | z
    · exact (val.inner x z p hp).imp id (sub _)
    · rw [List.mem_singleton.mp z] at hp
      exact (inn p hp).imp id (sub _)
  · exact Nat.lt_of_lt_of_le (f.lt k (back k hk)) (nodup_sub_len _ _ (nodup_distinct _) fun x hx => mem_distinct.mpr (sub x (mem_distinct.mp hx)))
  · obtain ⟨x, hx, e, h⟩ := f.base k (back k hk)
    exact ⟨x, List.mem_append.mpr (.inl hx), e, fun p hp => (h p hp).imp id fun z => ⟨sub _ z.1, z.2⟩⟩
end Bg
set_option Elab.async false
set_option linter.all false
set_option maxRecDepth 100000
set_option maxHeartbeats 8000000
namespace Bg
open PySem PySem.Spec PyProof.Rows L2
theorem q24_ok : MulOk "q" 24 := ⟨by decide +kernel, fun _ _ => by decide +kernel, fun _ _ => by decide +kernel⟩
theorem tame_q24 : Tame (Txt.mul "q" 24) := by unfold Tame; decide +kernel
theorem tame_empty : Tame "" := by unfold Tame; decide +kernel
theorem q24_len : (Txt.mul "q" 24).cps.toList.length = 24 := by decide +kernel
theorem gn_no_long {x : Str} {n : Nat} (h : GN x n) {z : Str} (l : n < z.cps.toList.length) : x ≠ z := fun e => by
  have := h.len
  rw [e] at this; omega
theorem gn_no_empty {x : Str} {n : Nat} (h : GN x n) : x ≠ "" := fun e => by
  obtain ⟨c, r, e2, _⟩ := h.head
  rw [e] at e2
  have : ("" : Str).cps.toList = [] := by decide +kernel
  rw [this] at e2; cases e2
theorem bz_le {rs : List Row} (val : ValidT rs) {k : Str} (hk : k ∈ rkinds rs) {f : Nat} (h : f ≤ 12) : bz (bN rs 4) k f ≤ 20000 := by
  have bo := BaseOk.n (rs := rs) 4
  have l := bo.len val
  unfold bz
  split
  · have := idx_lt (base_all val k hk)
    exact Nat.le_trans (Bd_le (show (rkinds (bN rs 4)).idxOf k ≤ 3 by omega)) (by decide)
  · omega
/-! ### the lists -/
def rsC : List Row := [("List", "Cons", [("head", "byte", none), ("tail", "List", some 3)]), ("List", "Nil", [])]
theorem rsC_valid : ValidT rsC where
  short := ⟨by decide, by intro r hr; simp only [rsC, List.mem_cons, List.not_mem_nil, or_false] at hr; rcases hr with e | e <;> subst e <;> exact ⟨by decide +kernel, by decide +kernel, by decide +kernel, by intro p hp; simp at hp <;> (try rcases hp with e | e <;> subst e <;> exact ⟨by decide +kernel, by decide +kernel⟩)⟩⟩
  ne := by intro z; cases z
  each := ⟨by decide +kernel, by decide +kernel, by decide +kernel, by decide +kernel⟩
  inner := by unfold InnerOk; decide +kernel
  fin := ⟨fun _ => 0, ⟨by decide +kernel, by decide +kernel⟩⟩
def fsC : List FRow := [("f", "List", "sum", [("Cons", [.read "head"]), ("Nil", [])])]
theorem fsC_drawn : DrawnF rsC fsC where
  few := by decide
  pos := by decide
  gn := by
    intro f hf
    rw [List.mem_singleton.mp hf]
    exact ⟨by decide +kernel, ⟨102, [], by decide +kernel, by decide +kernel⟩, by decide +kernel⟩
  ex := by
    intro f hf
    rw [List.mem_singleton.mp hf]
    exact endX_short (by decide +kernel)
  nd := by decide +kernel
  kind := by
    intro f hf
    rw [List.mem_singleton.mp hf]; decide +kernel
  fold := by
    intro f hf
    rw [List.mem_singleton.mp hf]; decide +kernel
  keys := by
    intro f hf
    rw [List.mem_singleton.mp hf]; decide +kernel
  bod := by
    intro f hf q hq
    rw [List.mem_singleton.mp hf] at hq ⊢
    rcases List.mem_cons.mp hq with e | h
    · subst e
      refine ⟨("List", "Cons", [("head", "byte", none), ("tail", "List", some 3)]), by simp [rsC], rfl, rfl, by decide +kernel, by decide, ?_, by decide +kernel, by decide +kernel, ?_⟩
      · simp [OddOk, OddOkS]
      · simp [callsB, callsS]
    · rw [List.mem_singleton.mp h]
      refine ⟨("List", "Nil", []), by simp [rsC], rfl, rfl, by decide +kernel, by decide, ?_, by decide +kernel, by decide +kernel, ?_⟩
      · rw [OddOk]; trivial
      · rw [callsB]; trivial
theorem cC1 : fitB rsC 40 "List" (.tuple [.str "Cons", .int 0, .tuple [.str "Cons", .int 256, .tuple [.str "Nil"]]]) = false := by decide +kernel
theorem cC2 : fitB rsC 40 "List" (.tuple [.str "Cons", .int 0, .int 7]) = false := by decide +kernel
theorem cC3 : fitB rsC 40 "List" (.tuple [.str "Cons", .bool false, .tuple [.str "Nil"]]) = false := by decide +kernel
theorem cC4 : fitB rsC 40 "List" (.tuple [.str "Cons", .int 0, .tuple [.str "Nil", .int 0]]) = false := by decide +kernel
theorem cC5 : fitB rsC 40 "List" (.tuple [.str "Cons", .int 255, .tuple [.str "Cons", .int 0, .tuple [.str "Nil"]]]) = true := by decide +kernel
/-- a tree with one item more is none -/
theorem fit_more {rs : List Row} (val : ValidT rs) {r : Row} (hr : r ∈ rs) {ds : List PyData} (l : ds.length = r.2.2.length) (k : Str) (n : Nat) : fitB rs n k (.tuple (.str r.2.1 :: (ds ++ [.int 0]))) = false := by
  by_cases e : r.1 = k
  · rw [← e]
    exact fit_len val.nd hr (by rw [List.length_append, List.length_singleton]; omega) n
  · refine fitB_out (fun z => ?_) n _
    obtain ⟨r2, h4, h5, h6⟩ := mem_makersOf.mp z
    have := row_unique val.nd hr h4 h6.symm
    subst this
    exact e h5
/-- what is no tree of any kind -/
structure NoTree (rs : List Row) (H : Hp) (v : V) (e : PyData) : Prop where
  td : Td H v e
  hd : Hd e
  no : ∀ k n, fitB rs n k e = false
theorem NoTree.same {rs : List Row} {H H' : Hp} (s : Same H H') {v : V} {e : PyData} (h : NoTree rs H v e) : NoTree rs H' v e := ⟨h.td.mono (tups_of s), h.hd, h.no⟩
structure I17 (K : PySem.W.Frag) (pool lr ta x y bd : Addr) (us tv : List V) (kvs : List (Key × V)) (rs : List Row) (fs : List FRow) (G : Hp) : Prop where
  fi : FunI K pool lr ta x y us tv rs fs G
  nb : bd ≠ pool
  hb : G bd = some (.dK kvs)
  kb : BaseD G kvs (bN rs 4)
structure Trees (pool lr ta tl : Addr) (ws : List V) (ds : List PyData) (rs : List Row) (fs : List FRow) (G : Hp) : Prop where
  nt : tl ≠ pool
  nr : tl ≠ lr
  na : tl ≠ ta
  ht : G tl = some (.lst ws)
  td : TdAll G ws ds
  hd : HdAll ds
  len : ds.length = fs.length
  fit : ∀ (j : Nat) (f : FRow) (d : PyData), fs[j]? = some f → ds[j]? = some d → fitB rs 16 f.2.1 d = true ∧ wt d ≤ 20000
section
variable {K : PySem.W.Frag} {pool lr ta x y bd tl : Addr} {us tv ws : List V} {ds : List PyData} {kvs : List (Key × V)} {rs : List Row} {fs fs2 : List FRow} {G G' : Hp}
theorem I17.same (I : I17 K pool lr ta x y bd us tv kvs rs fs G) (s : Same G G') : I17 K pool lr ta x y bd us tv kvs rs fs G' := ⟨I.fi.same s, I.nb, s _ _ I.hb, I.kb.mono (tups_of s)⟩
theorem I17.but (I : I17 K pool lr ta x y bd us tv kvs rs fs G) (b : But pool G G') (hP : PoolAt G' pool) : I17 K pool lr ta x y bd us tv kvs rs fs G' := ⟨I.fi.but b hP, I.nb, b _ _ I.nb I.hb, I.kb.mono (but_tups b I.fi.pl.not)⟩
theorem I17.setL (I : I17 K pool lr ta x y bd us tv kvs rs fs G) (h : Trees pool lr ta tl ws ds rs fs2 G) (b : But tl G G') : I17 K pool lr ta x y bd us tv kvs rs fs G' := by
  have nf : ∀ u, Fixed u → G tl ≠ some u := fun u ff e => by rw [h.ht] at e; cases e; exact ff
  have t := but_tups b nf
  refine ⟨⟨?_, I.fi.nlp, I.fi.nta, b _ _ h.nr.symm I.fi.ls, I.fi.al.mono fun _ _ z => z.mono t, b _ _ h.na.symm I.fi.tb, I.fi.at_.mono fun _ _ z => ?_, I.fi.kf.but h.ht b, I.fi.ff.butL h.ht b⟩, I.nb, b _ _ (fun e => by have := I.hb; rw [e, h.ht] at this; cases this) I.hb, I.kb.mono t⟩
  · obtain ⟨ns, e, l⟩ := I.fi.pl
    exact ⟨ns, b _ _ h.nt.symm e, l⟩
  · obtain ⟨a, d, e, n, h1, k2, h2, kd⟩ := z
    exact ⟨a, d, e, n, t _ (.tup _) trivial h1, k2, b _ _ (fun z => by rw [z, h.ht] at h2; cases h2) h2, kd.mono fun _ _ ⟨b', e1, z⟩ => ⟨b', e1, z.mono t⟩⟩
theorem Trees.same (h : Trees pool lr ta tl ws ds rs fs G) (s : Same G G') : Trees pool lr ta tl ws ds rs fs G' := ⟨h.nt, h.nr, h.na, s _ _ h.ht, TdAll.mono (tups_of s) h.td, h.hd, h.len, h.fit⟩
theorem Trees.but (h : Trees pool lr ta tl ws ds rs fs G) (hP : PoolAt G pool) (b : But pool G G') : Trees pool lr ta tl ws ds rs fs G' := ⟨h.nt, h.nr, h.na, b _ _ h.nt h.ht, TdAll.mono (but_tups b hP.not) h.td, h.hd, h.len, h.fit⟩
end
section
variable {P : Program} {w : World} {K : PySem.W.Frag} {mg : Str → Option Value} {base : Heap} {fd : FuncData}
def spLaw (K : PySem.W.Frag) : Sp := fun vs H Q _ => ∃ (a : Addr) (ns : List Int), vs = [.ref a] ∧ SqL K H a (ns.map V.int) ∧ ns.length ≤ 63 ∧ ∀ H', Q (.bl true) H'
theorem ok_law (T : Tx K mg) (F : FnP K ("law", none) "law" "law" s_law fd) : FnOk P w K mg base CX0 90 (He.fAd K ("law", none)) fd ["_law_script"] (spLaw K) := by
  refine F.ok (k := 89) sc_law (fun vs H Q E h => ?_) (fun cdv A outer s H vs Q E hr h => ?_)
  · obtain ⟨_, _, rfl, _⟩ := h; rfl
  obtain ⟨a, ns0, rfl, hS, h63, q⟩ := h
  have hu := hu_of hr
  obtain ⟨f1, F1⟩ := T.F__law_pool
  obtain ⟨f2, F2⟩ := T.F__law_rows
  obtain ⟨f3, F3⟩ := T.F__law_base
  obtain ⟨f4, F4⟩ := T.F__law_take
  obtain ⟨f5, F5⟩ := T.F__law_functions
  obtain ⟨f6, F6⟩ := T.F__law_hidden
  obtain ⟨f7, F7⟩ := T.F_Functions_init
  obtain ⟨f8, F8⟩ := T.F_Kinds_init
  obtain ⟨f9, F9⟩ := T.F__law_tree
  obtain ⟨f10, F10⟩ := T.F__law_right
  obtain ⟨f11, F11⟩ := T.F__law_refused
  have nd := sc_law.nd
  refine ⟨_, PSs.nox (pss_cons (ps_set (i := 1) nd rfl (.inl rfl) (pe_call (ok_pool T F1) (hr.mono (by omega)) (by rfl) T.g_law_pool T.k_law_pool (b__law_pool F1) .nil pass0 (pa_cons (pv 0) pa_nil)))
    (pss_cons (ps_set (i := 2) nd rfl (.inl rfl) (pe_call (ok_rows T F2) (hr.mono (by omega)) (by rfl) T.g_law_rows T.k_law_rows (b__law_rows F2) .nil pass0 (pa_cons (pv 1) pa_nil)))
    (pss_cons (ps_set (i := 3) nd rfl (.inl rfl) (pe_call (ok_base T F3) (hr.mono (by omega)) (by rfl) T.g_law_base T.k_law_base (b__law_base F3) .nil pass0 (pa_cons (pv 2) pa_nil)))
    (pss_cons (ps_set (i := 4) nd rfl (.inl rfl) (pe_op op_add pe_int (pe_call (ok_take T F4) (hr.mono (by omega)) (by rfl) T.g_law_take T.k_law_take (b__law_take F4) .nil pass0 (pa_cons (pv 1) (pa_cons pe_int pa_nil)))))
    (pss_cons (ps_set (i := 5) nd rfl (.inl rfl) (pe_call (ok_lfuns T F5) (hr.mono (by omega)) (by rfl) T.g_law_functions T.k_law_functions (b__law_functions F5) .nil pass0 (pa_cons (pv 1) (pa_cons (pv 2) (pa_cons (pe_call (ok_hidden T F6) (hr.mono (by omega)) (by rfl) T.g_law_hidden T.k_law_hidden (b__law_hidden F6) .nil pass0 (pa_cons (pv 1) (pa_cons (pv 2) pa_nil))) (pa_cons (pv 4) (pa_cons pe_int pa_nil)))))))
    (pss_cons (ps_set (i := 6) nd rfl (.inl rfl) (pe_make T.mk_Functions (ok_funI T F7) (hr.mono (by omega)) (by rfl) T.g_Functions (b_Functions_init F7) .nil pass0 (pa_cons (pe_tell (pe_make T.mk_Kinds (ok_initN T F8) (hr.mono (by omega)) (by rfl) T.g_Kinds (b_Kinds_init F8) .nil pass0 (pa_cons (pe_callTy call_list_of (by rfl) T.n_list (by decide +kernel) (pa_cons (pv 2) pa_nil)) pa_nil))) (pa_cons (pe_callTy call_list_of (by rfl) T.n_list (by decide +kernel) (pa_cons (pv 5) pa_nil)) pa_nil))))
    (pss_tell (pss_cons (ps_set (i := 7) nd rfl (.inl rfl) (pe_lst pa_nil))
    (pss_cons (ps_for PassesOwn.never rfl (pi_list (pv 5)) (pg_name (i := 8) nd rfl (Or.inl rfl))
      (pss_one (ps_expr (pe_bm PySem.F.plainAttrs_list PySem.F.slot_list_append PySem.F.type_list_append mt_append (pv 7) (pa_cons (pe_call (tree16 T F9) (hr.mono (by omega)) (by rfl) T.g_law_tree T.k_law_tree (b__law_tree F9) .nil pass0 (pa_cons (pv 1) (pa_cons (pv 2) (pa_cons (pv 3) (pa_cons (pe_ix ix_tup (pv 8) pe_int (fun _ _ => rfl)) (pa_cons (pv 4) (pa_cons (pe_call (ok_take T F4) (hr.mono (by omega)) (by rfl) T.g_law_take T.k_law_take (b__law_take F4) .nil pass0 (pa_cons (pv 1) (pa_cons pe_int pa_nil))) pa_nil))))))) pa_nil)))))
    (pss_cons (ps_for PassesOwn.never rfl (pi_range1 rfl T.n_range (pa_cons pe_int pa_nil)) (pg_name (i := 9) nd rfl (Or.inl rfl))
      (pss_one (ps_for PassesOwn.never rfl (pi_range1 rfl T.n_range (pa_cons (pe_callB call_len_seq (by rfl) T.n_len PySem.boot_len (pa_cons (pv 5) pa_nil)) pa_nil)) (pg_name (i := 10) nd rfl (Or.inl rfl))
        (pss_one (ps_if (pt_not (pt_val (pe_call (ok_right17 T F10) (hr.mono (by omega)) (by rfl) T.g_law_right T.k_law_right (b__law_right F10) .nil pass0 (pa_cons (pv 6) (pa_cons (pv 2) (pa_cons (pv 5) (pa_cons (pe_ix ix_tup (pe_ix ix_list (pv 5) (pv 10) (fun _ _ => rfl)) pe_int (fun _ _ => rfl)) (pa_cons (pe_ix ix_list (pv 7) (pv 10) (fun _ _ => rfl)) pa_nil))))))))
          (pss_one (ps_ret pe_bl))
          pss_nil)))))
    (pss_cons (ps_for PassesOwn.never rfl (pi_list (pv 5)) (pg_name (i := 8) nd rfl (Or.inl rfl))
      (pss_cons (ps_for PassesOwn.never rfl (pi_list (pv 2)) (pg_name (i := 11) nd rfl (Or.inl rfl))
        (pss_cons (ps_set (i := 12) nd rfl (.inl rfl) (pe_call (tree16 T F9) (hr.mono (by omega)) (by rfl) T.g_law_tree T.k_law_tree (b__law_tree F9) .nil pass0 (pa_cons (pv 1) (pa_cons (pv 2) (pa_cons (pv 3) (pa_cons (pe_ix ix_tup (pv 11) pe_int (fun _ _ => rfl)) (pa_cons (pv 4) (pa_cons pe_int pa_nil))))))))
        (pss_one (ps_if (pt_cmpR op_ne (pe_call (ok_ref17 T F11) (hr.mono (by omega)) (by rfl) T.g_law_refused T.k_law_refused (b__law_refused F11) .nil pass0 (pa_cons (pv 6) (pa_cons (pe_ix ix_tup (pv 8) pe_int (fun _ _ => rfl)) (pa_cons (pv 12) pa_nil)))) (pe_ix ix_list (pe_lst (pa_cons pe_str (pa_cons pe_str pa_nil))) (pe_callTy call_int1 (by rfl) T.n_int (by decide +kernel) (pa_cons (pe_cmpR op_eq (pe_ix ix_tup (pv 11) pe_int (fun _ _ => rfl)) (pe_ix ix_tup (pv 8) pe_int (fun _ _ => rfl)) (nomark _)) pa_nil)) (fun _ _ => rfl)) (nomark _))
          (pss_one (ps_ret pe_bl))
          pss_nil))))
      (pss_one (ps_for PassesOwn.never rfl (pi_list (pe_lst (pa_cons (pe_tup pa_nil) (pa_cons pe_int (pa_cons (pe_tup (pa_cons (pe_op op_mulS pe_str pe_int) pa_nil)) (pa_cons (pe_op op_catA (pe_ix ix_list (pv 7) pe_int (fun _ _ => rfl)) (pe_tup (pa_cons pe_int pa_nil))) pa_nil)))))) (pg_name (i := 13) nd rfl (Or.inl rfl))
        (pss_one (ps_if (PW.pt (pw_or (pt_cmpR op_ne (pe_call (ok_ref17 T F11) (hr.mono (by omega)) (by rfl) T.g_law_refused T.k_law_refused (b__law_refused F11) .nil pass0 (pa_cons (pv 6) (pa_cons (pe_ix ix_tup (pv 8) pe_int (fun _ _ => rfl)) (pa_cons (pv 13) pa_nil)))) pe_str (nomark _)) (pw_or1 (pt_cmpR op_ne (pe_call (ok_ref17 T F11) (hr.mono (by omega)) (by rfl) T.g_law_refused T.k_law_refused (b__law_refused F11) .nil pass0 (pa_cons (pv 6) (pa_cons (pe_op op_mulS pe_str pe_int) (pa_cons (pv 13) pa_nil)))) pe_str (nomark _)))))
          (pss_one (ps_ret pe_bl))
          pss_nil))))))
    (pss_cons (ps_set (i := 2) nd rfl (.inl rfl) (pe_lst (pa_cons (pe_tup (pa_cons pe_str (pa_cons pe_str (pa_cons (pe_tup (pa_cons (pe_tup (pa_cons pe_str (pa_cons pe_str pa_nil))) (pa_cons (pe_tup (pa_cons pe_str (pa_cons pe_str (pa_cons pe_int pa_nil)))) pa_nil))) pa_nil)))) (pa_cons (pe_tup (pa_cons pe_str (pa_cons pe_str (pa_cons (pe_tup pa_nil) pa_nil)))) pa_nil))))
    (pss_cons (ps_set (i := 14) nd rfl (.inl rfl) (pe_disp (pps_cons pe_str (pe_tup (pa_cons (pe_tup (pa_cons pe_str (pa_cons pe_str pa_nil))) pa_nil)) (pps_cons pe_str (pe_tup pa_nil) pps_nil)) rfl rfl (by simp) (by decide)))
    (pss_cons (ps_set (i := 15) nd rfl (.inl rfl) (pe_make T.mk_Functions (ok_funI T F7) (hr.mono (by omega)) (by rfl) T.g_Functions (b_Functions_init F7) .nil pass0 (pa_cons (pe_tell (pe_make T.mk_Kinds (ok_initN T F8) (hr.mono (by omega)) (by rfl) T.g_Kinds (b_Kinds_init F8) .nil pass0 (pa_cons (pv 2) pa_nil))) (pa_cons (pe_lst (pa_cons (pe_tup (pa_cons pe_str (pa_cons pe_str (pa_cons pe_str (pa_cons (pv 14) pa_nil))))) pa_nil)) pa_nil))))
    (pss_tell (pss_cons (ps_for PassesOwn.never rfl (pi_list (pe_lst (pa_cons (pe_tup (pa_cons pe_str (pa_cons pe_int (pa_cons (pe_tup (pa_cons pe_str (pa_cons pe_int (pa_cons (pe_tup (pa_cons pe_str pa_nil)) pa_nil)))) pa_nil)))) (pa_cons (pe_tup (pa_cons pe_str (pa_cons pe_int (pa_cons pe_int pa_nil)))) (pa_cons (pe_tup (pa_cons pe_str (pa_cons pe_bl (pa_cons (pe_tup (pa_cons pe_str pa_nil)) pa_nil)))) (pa_cons (pe_tup (pa_cons pe_str (pa_cons pe_int (pa_cons (pe_tup (pa_cons pe_str (pa_cons pe_int pa_nil))) pa_nil)))) pa_nil)))))) (pg_name (i := 13) nd rfl (Or.inl rfl))
      (pss_one (ps_if (pt_cmpR op_ne (pe_call (ok_ref17 T F11) (hr.mono (by omega)) (by rfl) T.g_law_refused T.k_law_refused (b__law_refused F11) .nil pass0 (pa_cons (pv 15) (pa_cons pe_str (pa_cons (pv 13) pa_nil)))) pe_str (nomark _))
        (pss_one (ps_ret pe_bl))
        pss_nil)))
    (pss_cons (ps_if (pt_cmpR op_ne (pe_call (ok_ref17 T F11) (hr.mono (by omega)) (by rfl) T.g_law_refused T.k_law_refused (b__law_refused F11) .nil pass0 (pa_cons (pv 15) (pa_cons pe_str (pa_cons (pe_tup (pa_cons pe_str (pa_cons pe_int (pa_cons (pe_tup (pa_cons pe_str (pa_cons pe_int (pa_cons (pe_tup (pa_cons pe_str pa_nil)) pa_nil)))) pa_nil)))) pa_nil)))) pe_str (nomark _))
      (pss_one (ps_ret pe_bl))
      pss_nil)
    (pss_one (ps_ret (pe_cmpR op_eq (pe_call (ok_ref17 T F11) (hr.mono (by omega)) (by rfl) T.g_law_refused T.k_law_refused (b__law_refused F11) .nil pass0 (pa_cons (pv 6) (pa_cons pe_str (pa_cons (pe_ix ix_list (pv 7) pe_int (fun _ _ => rfl)) pa_nil)))) pe_str (nomark _))))))))))))))))))))), ?_⟩
  -- the pool, the rows
  refine ⟨_, rfl, a, ns0, rfl, hS, h63, fun pool H1 s1 hpool hP1 => ⟨_, rfl, pool, rfl, hP1, fun lr rs ns H2 b2 hP2 hlr0 hrows draw => ?_⟩⟩
  have val := draw.valid
  obtain ⟨us, hus, al⟩ := id hrows
  have nlp : lr ≠ pool := fun e => by obtain ⟨_, e2, _⟩ := hP1; rw [e, e2] at hlr0; cases hlr0
  have lus : us.length = rs.length := al.1
  have pos : 0 < rs.length := List.length_pos_iff.mpr val.ne
  -- the base, the cut
  refine ⟨_, rfl, lr, rs, rfl, hrows, val, fun bd kvs Hb sb hbd0 hbd bdd => ?_⟩
  have hPb := hP2.same sb
  have nbd : bd ≠ pool := fun e => by obtain ⟨_, e2, _⟩ := hP2; rw [e, e2] at hbd0; cases hbd0
  refine ⟨_, rfl, pool, 255, rfl, hPb, by decide, fun z Hc z0 z1 bc hPc => ⟨_, _, rfl, rfl, ?_⟩⟩
  have b2c : But pool H2 Hc := fun c o n e => bc _ _ n (sb _ _ e)
  -- the functions
  refine ⟨_, rfl, _, rfl, _, rfl, _, rfl, pool, lr, rs, rfl, hPc, nlp, RowsAt.but b2c hP2.not nlp hrows, val, fun hd H3 b3 hP3 hhd0 nhd hhid => ⟨_, rfl, ?_⟩⟩
  have b23 := b2c.trans b3
  refine ⟨pool, lr, hd, 1 + z, 3, rs, rfl, hP3, nlp, nhd, RowsAt.but b23 hP2.not nlp hrows, val, hhid, by omega, by omega, by decide, by decide, fun ta H5 fs b5 hP5 hta0 nta ⟨tv, hta, alt⟩ D => ?_⟩
  have b25 := b23.trans b5
  have bb5 := bc.trans (b3.trans b5)
  have hus5 := b25 _ _ nlp hus
  have al5 : All2 (RowAt H5) us rs := al.mono fun _ _ z => z.mono (but_tups b25 hP2.not)
  have hbd5 := bb5 _ _ nbd hbd
  have bdd5 := bdd.mono (but_tups bb5 hPb.not)
  have ltv : tv.length = fs.length := alt.1
  have f6 := D.few
  have fpos := D.pos
  simp only [L2.start, List.map_cons, List.map_nil, List.length_cons, List.length_nil, List.cons_append, List.nil_append, List.set_cons_succ, List.set_cons_zero, List.replicate]
  -- the kinds
  refine ⟨_, rfl, lr, us, rfl, .inl (SqL.of hus5), fun lp hlp => fun x dx hx hdx nex => ?_⟩
  have s7 := (same_new (o := .lst us) hlp).trans (made_x (C := CK K) hx hdx)
  refine ⟨x, dx, lp, rs, rfl, upd_same, ⟨us, made_x (C := CK K) hx hdx _ _ upd_same, al5.mono fun _ _ z => z.mono (tups_of s7)⟩, val, fun H8 b8 hK8 => ⟨rfl, ?_⟩⟩
  obtain ⟨as, das, fresh, told⟩ := hK8
  refine ⟨as, das, fun H9 t9 => ?_⟩
  have hK9 := told _ t9
  have s59 : Same H5 H9 := fun b o e => by
    have e1 := s7 _ _ e
    have nb : b ≠ x := ne_of_none ((same_new (o := .lst us) hlp) _ _ e) hx
    rw [t9.out b fun z => by rw [fresh b z] at e1; cases e1]
    exact b8 _ _ nb e1
  -- the functions' table
  refine ⟨_, rfl, ta, tv, rfl, .inl (SqL.of (s59 _ _ hta)), fun pa hpa => fun y dy hy hdy ney => ?_⟩
  have sA := (same_new (o := .lst tv) hpa).trans (made_x (C := CF K) hy hdy)
  have s5A := s59.trans sA
  refine ⟨y, dy, x, pa, rs, fs, rfl, upd_same, hK9.same sA, val, ⟨tv, made_x (C := CF K) hy hdy _ _ upd_same, alt.mono fun _ _ z => (z.same s5A).at_⟩, D.rowsOk val, List.length_pos_iff.mp D.pos, D.pass val, D.nd, D.called val, fun HB bB hFB => ⟨rfl, ?_⟩⟩
  obtain ⟨as2, das2, fresh2, told2⟩ := hFB
  refine ⟨as2, das2, fun HC tC => ?_⟩
  have hFC := told2 _ tC
  have s9C : Same H9 HC := fun b o e => by
    have e1 := sA _ _ e
    rw [tC.out b fun z => by rw [fresh2 b z] at e1; cases e1]
    exact bB _ _ (ne_of_none ((same_new (o := .lst tv) hpa) _ _ e) hy) e1
  have s5C := s59.trans s9C
  have I : I17 K pool lr ta x y bd us tv kvs rs fs HC := ⟨⟨hP5.same s5C, nlp, nta, s5C _ _ hus5, al5.mono fun _ _ z => z.mono (tups_of s5C), s5C _ _ hta, alt.mono fun _ _ z => z.same s5C, hK9.same s9C, hFC⟩, nbd, s5C _ _ hbd5, bdd5.mono (tups_of s5C)⟩
  clear hFC s9C s5A sA s59 hK9 s7 s5C told2 told fresh fresh2 bB tC b8 t9
  simp only [List.set_cons_succ, List.set_cons_zero]
  -- the trees
  refine ⟨Nat.zero_le _, fun tl htl => ?_⟩
  have sT := same_new (o := .lst []) htl
  have ntl : tl ≠ pool := (I.fi.pl.ne_new htl).symm
  refine ⟨_, rfl, ta, rfl, ⟨_, .inl (.inl (sT _ _ I.fi.tb))⟩, for_it (walk_list (K := K) (a := ta) (xs := tv)) (fun i σ G => (∃ v8, σ = [some (.ref a), some (.ref pool), some (.ref lr), some (.ref bd), some (.int (1 + z)), some (.ref ta), some (.ref y), some (.ref tl), v8, none, none, none, none, none, none, none]) ∧ I17 K pool lr ta x y bd us tv kvs rs fs G ∧ ∃ ws ds, Trees pool lr ta tl ws ds rs (fs.take i) G) ⟨⟨_, rfl⟩, I.same sT, [], [], ntl, (fun e => by rw [e, I.fi.ls] at htl; cases htl), (fun e => by rw [e, I.fi.tb] at htl; cases htl), upd_same, .nil, .nil, rfl, fun j f d h => by simp at h⟩ (fun i σ G _ z => .inl (.inl z.2.1.fi.tb)) ?_ ?_⟩
  · rintro i v σ G0 G hi ⟨⟨v8, rfl⟩, IG, ws, ds, TG⟩ ⟨rfl, hv⟩
    obtain ⟨f, hf, b, d, rfl, nd', hb, hbod⟩ := IG.fi.at_.get hv
    have hfm := List.mem_of_getElem? hf
    have lti := (List.getElem?_eq_some_iff.mp hf).1
    have hP := IG.fi.pl
    refine ⟨_, rfl, .inl ⟨rfl, _, SqL.of TG.ht⟩, _, rfl, _, rfl, _, rfl, _, rfl, b, _, _, _, rfl, rfl, SqT.of hb, atI_nat (j := 1) rfl, _, rfl, _, rfl, pool, 13, rfl, hP, by decide, fun c G1 c0 c1 b1 hP1 => ?_⟩
    obtain ⟨fu, rfl⟩ := Int.eq_ofNat_of_zero_le c0
    have I1 := IG.but b1 hP1
    refine ⟨pool, lr, bd, f.2.1, 1 + z, fu, rs, kvs, rfl, hP1, nlp, I1.fi.rows, val, I1.hb, I1.kb, D.kind f hfm, by omega, by omega, by omega, mz_le val (D.kind f hfm) (by omega), fun tv' d' G2 b2 hP2 td2 hd2 fit2 wt2 => ?_⟩
    have I2 := I1.but b2 hP2
    have T2 := (TG.but hP b1).but hP1 b2
    have lws : ws.length ≤ 6 := by
      have := T2.len
      rw [List.length_take] at this
      rw [TdAll.length T2.td]; omega
    have tu := tups_upd (H := G2) (p := tl) (o := .lst (ws ++ [tv'])) fun u ff e => by rw [T2.ht] at e; cases e; exact ff
    refine ⟨tl, _, _, rfl, rfl, T2.ht, small1000 (by omega), ?_⟩
    refine ⟨⟨_, rfl⟩, I2.setL T2 (fun c o n e => by rw [upd_ne n]; exact e), ws ++ [tv'], ds ++ [d'], T2.nt, T2.nr, T2.na, upd_same, (TdAll.mono tu T2.td).snoc (td2.mono tu), T2.hd.snoc hd2, ?_, fun j g e hg he => ?_⟩
    · rw [List.length_append, T2.len, List.length_take, List.length_take, List.length_singleton]; omega
    · have ld : ds.length = i := by have := T2.len; rw [List.length_take] at this; omega
      by_cases hj : j < i
      · rw [List.getElem?_take, if_pos (by omega)] at hg
        rw [List.getElem?_append_left (by omega)] at he
        exact T2.fit j g e (by rw [List.getElem?_take, if_pos hj]; exact hg) he
      · have lj := (List.getElem?_eq_some_iff.mp he).1
        rw [List.length_append, List.length_singleton] at lj
        have ej : j = i := by omega
        subst ej
        rw [List.getElem?_take, if_pos (by omega), hf] at hg
        cases hg
        rw [← ld, List.getElem?_append_right (Nat.le_refl _), Nat.sub_self] at he
        cases he
        exact ⟨fit2, Nat.le_trans wt2 (bz_le val (D.kind f hfm) (by omega))⟩
  rintro σ HD ⟨⟨v8, rfl⟩, ID, ws, ds, TD⟩
  rw [alt.1, List.take_length] at TD
  have lwd : ws.length = ds.length := TdAll.length TD.td
  have tree : ∀ {j : Nat} {f : FRow}, fs[j]? = some f → ∃ wv d, ws[j]? = some wv ∧ ds[j]? = some d ∧ fitB rs 16 f.2.1 d = true ∧ fitB rs 40 f.2.1 d = true ∧ wt d ≤ 150000 ∧ Hd d := fun {j f} hj => by
    have lj := (List.getElem?_eq_some_iff.mp hj).1
    have ld := TD.len
    have e1 := List.getElem?_eq_getElem (l := ds) (i := j) (by omega)
    obtain ⟨f1, f2⟩ := TD.fit j f _ hj e1
    exact ⟨_, _, List.getElem?_eq_getElem (by omega), e1, f1, fitB_le (by decide) f1, by omega, TD.hd.mem _ (List.mem_of_getElem? e1)⟩
  -- right, twice
  refine ⟨_, rfl, by decide, by decide, for_it walk_range (fun i σ G => (∃ v8 v9 v10, σ = [some (.ref a), some (.ref pool), some (.ref lr), some (.ref bd), some (.int (1 + z)), some (.ref ta), some (.ref y), some (.ref tl), v8, v9, v10, none, none, none, none, none]) ∧ Same HD G) ⟨⟨_, _, _, rfl⟩, Same.refl _⟩ (fun _ _ _ _ _ => trivial) ?_ ?_⟩
  · rintro i v σ G0 G hi ⟨⟨v8, v9, v10, rfl⟩, sG⟩ ⟨rfl, rfl⟩
    have IG := ID.same sG
    refine ⟨_, rfl, ta, _, rfl, .inl (SqL.of IG.fi.tb), _, rfl, by show -(2 ^ 62) ≤ ((tv.length : Nat) : Int); omega, by show ((tv.length : Nat) : Int) < 2 ^ 62; omega, for_it walk_range (fun j σ G2 => (∃ v10, σ = [some (.ref a), some (.ref pool), some (.ref lr), some (.ref bd), some (.int (1 + z)), some (.ref ta), some (.ref y), some (.ref tl), v8, some (.int (0 + (i : Nat))), v10, none, none, none, none, none]) ∧ Same G G2) ⟨⟨_, rfl⟩, Same.refl _⟩ (fun _ _ _ _ _ => trivial) ?_ ?_⟩
    · rintro j v σ G1 G2 hj ⟨⟨v10, rfl⟩, s2⟩ ⟨rfl, rfl⟩
      have I2 := IG.same s2
      have T2 := TD.same (sG.trans s2)
      have lj : j < tv.length := by have z : j < ((tv.length : Nat) : Int).toNat := hj; omega
      obtain ⟨f, hf, b, d0, eb, nd', hb, hbod⟩ := I2.fi.at_.get (List.getElem?_eq_getElem lj)
      have hfm := List.mem_of_getElem? hf
      obtain ⟨wv, d, hwv, hdd, fit16, fit40, lwt, hdh⟩ := tree hf
      have tdw : Td G2 wv d := by
        obtain ⟨d', hd', z⟩ := TdAll.get T2.td hwv
        rw [hdd] at hd'; cases hd'; exact z
      have gt : atI tv ((0 : Int) + (j : Nat)) = some (.ref b) := at_nat (j := j) (by omega) (by rw [List.getElem?_eq_getElem lj, eb])
      have gw : atI ws ((0 : Int) + (j : Nat)) = some wv := at_nat (j := j) (by omega) hwv
      refine ⟨_, rfl, _, rfl, _, rfl, _, rfl, _, rfl, ta, _, _, _, rfl, rfl, SqL.of I2.fi.tb, gt, b, _, _, _, rfl, rfl, SqT.of hb, atI_nat (j := 0) rfl, _, rfl, _, rfl, tl, _, _, _, rfl, rfl, SqL.of T2.ht, gw, y, x, lr, ta, wv, us, tv, rs, fs, f, d, rfl, I2.fi.ff, I2.fi.kf, I2.fi.ls, I2.fi.al, I2.fi.tb, I2.fi.at_.mono fun _ _ z => z.at_, val, D, hfm, tdw, hdh, fit40, lwt, fun G3 s3 => ⟨_, rfl, iteF ⟨⟨_, rfl⟩, s2.trans s3⟩⟩⟩
    · rintro σ G2 ⟨⟨v10, rfl⟩, s2⟩
      exact ⟨⟨_, _, _, rfl⟩, sG.trans s2⟩
  rintro σ HE ⟨⟨v8, v9, v10, rfl⟩, sE⟩
  have IE := ID.same sE
  have TE := TD.same sE
  -- trees of each kind, values
  obtain ⟨f0, hf0⟩ : ∃ f, fs[0]? = some f := ⟨_, List.getElem?_eq_getElem (by omega)⟩
  obtain ⟨wv0, dt0, hwv0, hdt0, fit016, _, _, hdh0⟩ := tree hf0
  refine ⟨_, rfl, ta, rfl, ⟨_, .inl (.inl IE.fi.tb)⟩, for_it (walk_list (K := K) (a := ta) (xs := tv)) (fun i σ G => (∃ v8 v11 v12 v13, σ = [some (.ref a), some (.ref pool), some (.ref lr), some (.ref bd), some (.int (1 + z)), some (.ref ta), some (.ref y), some (.ref tl), v8, v9, v10, v11, v12, v13, none, none]) ∧ I17 K pool lr ta x y bd us tv kvs rs fs G ∧ Trees pool lr ta tl ws ds rs fs G) ⟨⟨_, _, _, _, rfl⟩, IE, TE⟩ (fun i σ G _ z => .inl (.inl z.2.1.fi.tb)) ?_ ?_⟩
  · rintro i v σ G0 G hi ⟨⟨v8, v11, v12, v13, rfl⟩, IG, TG⟩ ⟨rfl, hv⟩
    obtain ⟨f, hf, b, d0, rfl, nd', hb, hbod⟩ := IG.fi.at_.get hv
    have hfm := List.mem_of_getElem? hf
    have hPG := IG.fi.pl
    refine ⟨_, rfl, lr, rfl, ⟨_, .inl (.inl IG.fi.ls)⟩, for_it (walk_list (K := K) (a := lr) (xs := us)) (fun j σ G2 => (∃ v11 v12, σ = [some (.ref a), some (.ref pool), some (.ref lr), some (.ref bd), some (.int (1 + z)), some (.ref ta), some (.ref y), some (.ref tl), some (.ref b), v9, v10, v11, v12, v13, none, none]) ∧ But pool G G2 ∧ PoolAt G2 pool) ⟨⟨_, _, rfl⟩, But.refl _ _, hPG⟩ (fun j σ G2 _ z => .inl (.inl (z.2.1 _ _ nlp IG.fi.ls))) ?_ ?_⟩
    · rintro j u σ G1 G2 hj ⟨⟨v11, v12, rfl⟩, b2, hP2⟩ ⟨rfl, hu2⟩
      have I2 := IG.but b2 hP2
      obtain ⟨r, hrr, rb, ru, rfl, hrb, _⟩ := I2.fi.al.get hu2
      have hrm := List.mem_of_getElem? hrr
      have kin : r.1 ∈ rkinds rs := List.mem_map.mpr ⟨r, hrm, rfl⟩
      refine ⟨_, rfl, _, rfl, _, rfl, _, rfl, rb, _, _, _, rfl, rfl, SqT.of hrb, atI_nat (j := 0) rfl, _, rfl, pool, lr, bd, r.1, 1 + z, 1, rs, kvs, rfl, hP2, nlp, I2.fi.rows, val, I2.hb, I2.kb, kin, by omega, by omega, by decide, mz_le val kin (by decide), fun w2 d2 G3 b3 hP3 td3 hd3 fit3 wt3 => ?_⟩
      have I3 := I2.but b3 hP3
      have b23 := b2.trans b3
      have hb3 := but_tups b23 hPG.not _ (.tup _) trivial hb
      have hrb3 := but_tups b3 hP2.not _ (.tup _) trivial hrb
      have lw := Nat.le_trans wt3 (bz_le val kin (by decide : 1 ≤ 12))
      refine ⟨_, rfl, _, rfl, b, _, _, _, rfl, rfl, SqT.of hb3, atI_nat (j := 0) rfl, _, rfl, y, x, f.1, w2, rs, fs, d2, rfl, I3.fi.ff, I3.fi.kf, val, D, td3, hd3, fun g hg eg => ⟨fun hb2 => ⟨by omega, fun G4 s4 => ?_⟩, fun hb2 G4 s4 => ?_⟩, fun zz => absurd (List.mem_map_of_mem hfm) zz⟩
      · cases name_uniq D.nd hg hfm eg
        have ek : r.1 = f.2.1 := Decidable.byContradiction fun ne => by
          rw [fit_other val.nd fit3 (fun e => ne e.symm)] at hb2; cases hb2
        refine ⟨by show 2 ≤ sizeLine; decide, fun l hl => ?_⟩
        have s5 := same_new (o := .lst [V.str "bad", V.str "let"]) hl
        refine ⟨_, rfl, rb, _, _, _, rfl, rfl, SqT.of ((s4.trans s5) _ _ hrb3), atI_nat (j := 0) rfl, _, rfl, b, _, _, _, rfl, rfl, SqT.of ((s4.trans s5) _ _ hb3), atI_nat (j := 1) rfl, rfl, .inr ⟨_, rfl, ?_⟩⟩
        rw [eqStr, decide_eq_true ek]
        refine ⟨l, _, _, _, rfl, rfl, SqL.of upd_same, atI_nat (j := 1) rfl, rfl, _, rfl, iteF ?_⟩
        exact ⟨⟨_, _, rfl⟩, b23.trans (but_of (s4.trans s5)), hP3.same (s4.trans s5)⟩
      · cases name_uniq D.nd hg hfm eg
        have ek : r.1 ≠ f.2.1 := fun e => by
          rw [← e, fitB_le (by decide) fit3] at hb2; cases hb2
        refine ⟨by show 2 ≤ sizeLine; decide, fun l hl => ?_⟩
        have s5 := same_new (o := .lst [V.str "bad", V.str "let"]) hl
        refine ⟨_, rfl, rb, _, _, _, rfl, rfl, SqT.of ((s4.trans s5) _ _ hrb3), atI_nat (j := 0) rfl, _, rfl, b, _, _, _, rfl, rfl, SqT.of ((s4.trans s5) _ _ hb3), atI_nat (j := 1) rfl, rfl, .inr ⟨_, rfl, ?_⟩⟩
        rw [eqStr, decide_eq_false ek]
        refine ⟨l, _, _, _, rfl, rfl, SqL.of upd_same, atI_nat (j := 0) rfl, rfl, _, rfl, iteF ?_⟩
        exact ⟨⟨_, _, rfl⟩, b23.trans (but_of (s4.trans s5)), hP3.same (s4.trans s5)⟩
    rintro σ G2 ⟨⟨v11, v12, rfl⟩, b2, hP2⟩
    have I2 := IG.but b2 hP2
    have T2 := TG.but hPG b2
    -- values
    obtain ⟨d', hd', tdw⟩ := TdAll.get T2.td hwv0
    rw [hdt0] at hd'; cases hd'
    obtain ⟨m0, ds0, r0, rfl, er0, fitd0⟩ := fitB_inv fit016
    obtain ⟨hr0, _, rfl⟩ := rowAt_of er0
    obtain ⟨tad, tws, rfl, htad, tdd⟩ := td_tup tdw
    have l0 := allV_len fitd0
    have p4 := val.four r0 hr0
    have ltw : tws.length = ds0.length + 1 := by rw [TdAll.length tdd]; rfl
    refine ⟨Nat.zero_le _, fun t0 ht0 => ⟨_, _, rfl, rfl, q24_ok, by show 1 ≤ sizeLine; decide, fun t1 ht1 => ?_⟩⟩
    have n0 := same_new (o := .tup []) ht0
    have n1 := same_new (o := .tup [V.str (Txt.mul "q" 24)]) ht1
    have n01 := n0.trans n1
    refine ⟨_, rfl, tl, _, _, _, rfl, rfl, SqL.of (n01 _ _ T2.ht), atI_nat (j := 0) hwv0, by show 1 ≤ sizeLine; decide, fun u hu0 => ?_⟩
    have n2 := same_new (o := .tup [V.int 0]) hu0
    refine catA_read ((n01.trans n2) _ _ htad) upd_same (by rw [List.length_singleton]; omega) fun p G5 s5 hp => ?_
    refine ⟨by show 4 ≤ sizeLine; decide, fun l hl => ?_⟩
    have s6 := same_new (o := .lst [V.ref t0, V.int 7, V.ref t1, V.ref p]) hl
    have sAll := n01.trans (n2.trans (s5.trans s6))
    have i7 := I2.same sAll
    have T7 := T2.same sAll
    have hb7 : (upd G5 l (.lst [V.ref t0, V.int 7, V.ref t1, V.ref p])) b = some (.tup [.str f.1, .str f.2.1, .str f.2.2.1, .ref d0]) := sAll _ _ (but_tups b2 hPG.not _ (.tup _) trivial hb)
    have bads : ∀ (j : Nat) (v : V), ([V.ref t0, V.int 7, V.ref t1, V.ref p] : List V)[j]? = some v → ∃ e, NoTree rs (upd G5 l (.lst [V.ref t0, V.int 7, V.ref t1, V.ref p])) v e := fun j v hj => by
      match j, hj with
      | 0, hj =>
        cases hj
        exact ⟨.tuple [], .tup ((n1.trans (n2.trans (s5.trans s6))) _ _ upd_same) .nil, .nil, fun k n => by cases n <;> rfl⟩
      | 1, hj =>
        cases hj
        exact ⟨.int 7, .int _, .int _, fun k n => by cases n <;> rfl⟩
      | 2, hj =>
        cases hj
        refine ⟨.tuple [.str (Txt.mul "q" 24)], .tup ((n2.trans (s5.trans s6)) _ _ upd_same) (.cons (.str _) .nil), .cons _ .nil, fun k n => fitB_out (fun zz => ?_) n _⟩
        obtain ⟨r2, h4, h5, h6⟩ := mem_makersOf.mp zz
        exact gn_no_long (draw.each r2 h4).2.1 (z := Txt.mul "q" 24) (by rw [q24_len]; decide) h6
      | 3, hj =>
        cases hj
        refine ⟨.tuple (.str r0.2.1 :: (ds0 ++ [.int 0])), .tup (s6 _ _ hp) ?_, .cons _ ?_, fun k n => fit_more val hr0 l0 k n⟩
        · have := (TdAll.mono (tups_of sAll) tdd).snoc (.int 0)
          exact this
        · cases hdh0 with
          | cons _ hda => exact hda.snoc (.int 0)
      | j + 4, hj => simp at hj
    refine ⟨l, rfl, ⟨_, .inl (.inl upd_same)⟩, for_it (walk_list (K := K) (a := l) (xs := [V.ref t0, V.int 7, V.ref t1, V.ref p])) (fun j σ G2 => (∃ v13, σ = [some (.ref a), some (.ref pool), some (.ref lr), some (.ref bd), some (.int (1 + z)), some (.ref ta), some (.ref y), some (.ref tl), some (.ref b), v9, v10, v11, v12, v13, none, none]) ∧ Same (upd G5 l (.lst [V.ref t0, V.int 7, V.ref t1, V.ref p])) G2) ⟨⟨_, rfl⟩, Same.refl _⟩ (fun j σ G2 _ z => .inl (.inl (z.2 _ _ upd_same))) ?_ ?_⟩
    · rintro j v σ G6 G7 hj ⟨⟨v13, rfl⟩, s7⟩ ⟨rfl, hv2⟩
      obtain ⟨e, ne⟩ := bads j v hv2
      have I8 := i7.same s7
      have ne8 := ne.same s7
      refine ⟨_, rfl, _, rfl, b, _, _, _, rfl, rfl, SqT.of (s7 _ _ hb7), atI_nat (j := 0) rfl, _, rfl, y, x, f.1, v, rs, fs, e, rfl, I8.fi.ff, I8.fi.kf, val, D, ne8.td, ne8.hd, fun g hg eg => ⟨fun hb2 => absurd hb2 (by rw [ne.no]; simp), fun _ G9 s9 => ?_⟩, fun zz => absurd (List.mem_map_of_mem hfm) zz⟩
      have I9 := I8.same s9
      have ne9 := ne8.same s9
      refine ⟨rfl, _, rfl, iteF ?_⟩
      refine ⟨_, rfl, _, _, rfl, rfl, q24_ok, _, rfl, y, x, Txt.mul "q" 24, v, rs, fs, e, rfl, I9.fi.ff, I9.fi.kf, val, D, ne9.td, ne9.hd, fun g hg eg => absurd eg (gn_no_long (D.gn g hg) (by rw [q24_len]; decide)), fun _ => ⟨tame_q24, fun GA sA => ?_⟩⟩
      exact ⟨rfl, _, rfl, iteF ⟨⟨_, rfl⟩, s7.trans (s9.trans sA)⟩⟩
    · rintro σ G6 ⟨⟨v13, rfl⟩, s7⟩
      exact ⟨⟨_, _, _, _, rfl⟩, i7.same s7, T7.same s7⟩
  rintro σ HF ⟨⟨v8, v11, v12, v13, rfl⟩, IF, TF⟩
  -- the lists
  refine ⟨by show 2 ≤ sizeLine; decide, fun p1 hp1 => ⟨by show 3 ≤ sizeLine; decide, fun p2 hp2 => ⟨by show 2 ≤ sizeLine; decide, fun p3 hp3 => ⟨by show 3 ≤ sizeLine; decide, fun p4 hp4 => ⟨Nat.zero_le _, fun p5 hp5 => ⟨by show 3 ≤ sizeLine; decide, fun p6 hp6 => ⟨by show 2 ≤ sizeLine; decide, fun l2 hl2 => ?_⟩⟩⟩⟩⟩⟩⟩
  have n1 := same_new (o := .tup [V.str "head", V.str "byte"]) hp1
  have n2 := same_new (o := .tup [V.str "tail", V.str "List", V.int 3]) hp2
  have n3 := same_new (o := .tup [V.ref p1, V.ref p2]) hp3
  have n4 := same_new (o := .tup [V.str "List", V.str "Cons", V.ref p3]) hp4
  have n5 := same_new (o := .tup []) hp5
  have n6 := same_new (o := .tup [V.str "List", V.str "Nil", V.ref p5]) hp6
  have n7 := same_new (o := .lst [V.ref p4, V.ref p6]) hl2
  generalize hG0 : upd (upd (upd (upd (upd (upd (upd HF p1 _) p2 _) p3 _) p4 _) p5 _) p6 _) l2 _ = G0
  have rowsC : RowsAt G0 l2 rsC := by
    rw [← hG0]
    refine ⟨[.ref p4, .ref p6], upd_same, ?_⟩
    refine All2.snoc (All2.snoc All2.nil ⟨p4, .ref p3, rfl, n7 _ _ (n6 _ _ (n5 _ _ upd_same)), ⟨p3, [.ref p1, .ref p2], rfl, n7 _ _ (n6 _ _ (n5 _ _ (n4 _ _ upd_same))), ?_⟩⟩) ⟨p6, .ref p5, rfl, n7 _ _ upd_same, ⟨p5, [], rfl, n7 _ _ (n6 _ _ upd_same), All2.nil⟩⟩
    exact All2.snoc (All2.snoc All2.nil ⟨p1, rfl, n7 _ _ (n6 _ _ (n5 _ _ (n4 _ _ (n3 _ _ (n2 _ _ upd_same)))))⟩) ⟨p2, rfl, n7 _ _ (n6 _ _ (n5 _ _ (n4 _ _ (n3 _ _ upd_same))))⟩
  have sG0 : Same HF G0 := by
    rw [← hG0]
    exact n1.trans (n2.trans (n3.trans (n4.trans (n5.trans (n6.trans n7)))))
  clear n1 n2 n3 n4 n5 n6 n7 hp1 hp2 hp3 hp4 hp5 hp6 hl2 hG0
  -- the bodies
  refine fun db hdb => ⟨by show 2 ≤ sizeLine; decide, fun t1 ht1 => ⟨by show 1 ≤ sizeLine; decide, fun t2 ht2 => ⟨Nat.zero_le _, fun t3 ht3 => ?_⟩⟩⟩
  have m1 := same_new (o := .tup [V.str "read", V.str "head"]) ht1
  have m2 := same_new (o := .tup [V.ref t1]) ht2
  have m3 := same_new (o := .tup []) ht3
  have mdb := (m1.trans (m2.trans m3)) _ _ upd_same
  refine ⟨mdb, [(Sum.inr "Cons", .ref t2), (Sum.inr "Nil", .ref t3)], rfl, by show 2 ≤ 15; decide, ?_⟩
  have sGT := (same_new (o := .dK []) hdb).trans (m1.trans (m2.trans m3))
  have e1 := (m2.trans m3) _ _ upd_same
  have e2 := m3 _ _ upd_same
  have e3 : (upd (upd (upd (upd G0 db (.dK [])) t1 (.tup [V.str "read", V.str "head"])) t2 (.tup [V.ref t1])) t3 (.tup [])) t3 = some (.tup []) := upd_same
  generalize upd (upd (upd (upd G0 db (.dK [])) t1 (.tup [V.str "read", V.str "head"])) t2 (.tup [V.ref t1])) t3 (.tup []) = GT at mdb sGT e1 e2 e3 ⊢
  have tdb := fun (o : HO) => tups_upd (H := GT) (p := db) (o := o) fun u ff e => by rw [mdb] at e; cases e; exact ff
  have bodC : BodiesAt (upd GT db (.dK (mergeK [] [(Sum.inr "Cons", .ref t2), (Sum.inr "Nil", .ref t3)]))) db [("Cons", [.read "head"]), ("Nil", [])] := by
    have nd : (([("Cons", [.read "head"]), ("Nil", [])] : FBod).map (·.1)).Nodup := by decide +kernel
    refine ⟨_, upd_same, ?_⟩
    have k1 := KD.put (k := "Cons") (v := .ref t2) (KD.nil (R := fun m v => ∃ b, bodyIn [("Cons", [.read "head"]), ("Nil", [])] m = some b ∧ Td (upd GT db (.dK (mergeK [] [(Sum.inr "Cons", .ref t2), (Sum.inr "Nil", .ref t3)]))) v (bodyD b))) (fun _ _ _ h => h) ⟨[.read "head"], bodyIn_uniq nd (by simp), by
      show Td _ _ (.tuple (bodyDs _))
      rw [bodyDs, bodyDs, stepD]
      exact .tup (tdb _ _ (.tup _) trivial e2) (.cons (.tup (tdb _ _ (.tup _) trivial e1) (.cons (.str _) (.cons (.str _) .nil))) .nil)⟩
    have k2 := KD.put (k := "Nil") (v := .ref t3) k1 (fun _ _ _ h => h) ⟨[], bodyIn_uniq nd (by simp), by
      show Td _ _ (.tuple (bodyDs _))
      rw [bodyDs]
      exact .tup (tdb _ _ (.tup _) trivial e3) .nil⟩
    exact k2
  have sG1 : Same G0 (upd GT db (.dK (mergeK [] [(Sum.inr "Cons", .ref t2), (Sum.inr "Nil", .ref t3)]))) := same_mut sGT hdb
  generalize upd GT db (.dK (mergeK [] [(Sum.inr "Cons", .ref t2), (Sum.inr "Nil", .ref t3)])) = G1 at bodC sG1 ⊢
  clear m1 m2 m3 mdb sGT e1 e2 e3 tdb ht1 ht2 ht3
  -- their kinds
  refine ⟨_, rfl, fun x2 dx2 hx2 hdx2 nex2 => ?_⟩
  have c1 := made_x (C := CK K) hx2 hdx2
  refine ⟨x2, dx2, l2, rsC, rfl, upd_same, (rowsC.mono sG1).mono c1, rsC_valid, fun H8 b8 hK8 => ⟨rfl, ?_⟩⟩
  obtain ⟨as3, das3, fresh3, told3⟩ := hK8
  refine ⟨as3, das3, fun H9' t9 => ?_⟩
  have hK9 := told3 _ t9
  have s9 : Same G1 H9' := fun b o e => by
    have e1 := c1 _ _ e
    rw [t9.out b fun z => by rw [fresh3 b z] at e1; cases e1]
    exact b8 _ _ (ne_of_none e hx2) e1
  refine ⟨_, rfl, by show 4 ≤ sizeLine; decide, fun t4 ht4 => ⟨by show 1 ≤ sizeLine; decide, fun l3 hl3 => fun y2 dy2 hy2 hdy2 ney2 => ?_⟩⟩
  have q4 := same_new (o := .tup [V.str "f", V.str "List", V.str "sum", V.ref db]) ht4
  have q5 := same_new (o := .lst [V.ref t4]) hl3
  have c2 := made_x (C := CF K) hy2 hdy2
  have sA := (q4.trans q5).trans c2
  refine ⟨y2, dy2, x2, l3, rsC, fsC, rfl, upd_same, hK9.same sA, rsC_valid, ⟨[.ref t4], c2 _ _ upd_same, All2.snoc All2.nil ⟨t4, db, rfl, c2 _ _ (q5 _ _ upd_same), (bodC.same s9).same sA⟩⟩, fsC_drawn.rowsOk rsC_valid, by simp [fsC], fsC_drawn.pass rsC_valid, fsC_drawn.nd, fsC_drawn.called rsC_valid, fun HB' bB' hFB => ⟨rfl, ?_⟩⟩
  obtain ⟨as4, das4, fresh4, told4⟩ := hFB
  refine ⟨as4, das4, fun HG tG => ?_⟩
  have hFG := told4 _ tG
  have s9G : Same H9' HG := fun b o e => by
    have e1 := sA _ _ e
    rw [tG.out b fun z => by rw [fresh4 b z] at e1; cases e1]
    exact bB' _ _ (ne_of_none ((q4.trans q5) _ _ e) hy2) e1
  have hKG := hK9.same s9G
  have sFG : Same HF HG := sG0.trans (sG1.trans (s9.trans s9G))
  have IG := IF.same sFG
  have TG := TF.same sFG
  clear q4 q5 c2 sA tG told4 fresh4 das4 bB' t9 told3 fresh3 das3 b8 c1 hK9 bodC rowsC sG0 sG1 s9 s9G
  simp only [List.set_cons_succ, List.set_cons_zero]
  -- four that are no list
  refine ⟨by show 1 ≤ sizeLine; decide, fun a1 ha1 => ⟨by show 3 ≤ sizeLine; decide, fun a2 ha2 => ⟨by show 3 ≤ sizeLine; decide, fun a3 ha3 => ⟨by show 3 ≤ sizeLine; decide, fun a4 ha4 => ⟨by show 1 ≤ sizeLine; decide, fun a5 ha5 => ⟨by show 3 ≤ sizeLine; decide, fun a6 ha6 => ⟨by show 2 ≤ sizeLine; decide, fun a7 ha7 => ⟨by show 3 ≤ sizeLine; decide, fun a8 ha8 => ⟨by show 4 ≤ sizeLine; decide, fun l4 hl4 => ?_⟩⟩⟩⟩⟩⟩⟩⟩⟩
  have n1 := same_new (o := .tup [V.str "Nil"]) ha1
  have n2 := same_new (o := .tup [V.str "Cons", V.int 256, V.ref a1]) ha2
  have n3 := same_new (o := .tup [V.str "Cons", V.int 0, V.ref a2]) ha3
  have n4 := same_new (o := .tup [V.str "Cons", V.int 0, V.int 7]) ha4
  have n5 := same_new (o := .tup [V.str "Nil"]) ha5
  have n6 := same_new (o := .tup [V.str "Cons", V.bl false, V.ref a5]) ha6
  have n7 := same_new (o := .tup [V.str "Nil", V.int 0]) ha7
  have n8 := same_new (o := .tup [V.str "Cons", V.int 0, V.ref a7]) ha8
  have n9 := same_new (o := .lst [V.ref a3, V.ref a4, V.ref a6, V.ref a8]) hl4
  generalize hG4 : upd (upd (upd (upd (upd (upd (upd (upd (upd HG a1 _) a2 _) a3 _) a4 _) a5 _) a6 _) a7 _) a8 _) l4 _ = G4
  have sG4 : Same HG G4 := by
    rw [← hG4]
    exact n1.trans (n2.trans (n3.trans (n4.trans (n5.trans (n6.trans (n7.trans (n8.trans n9)))))))
  have hl44 : G4 l4 = some (.lst [V.ref a3, V.ref a4, V.ref a6, V.ref a8]) := by rw [← hG4]; exact upd_same
  have e8 : G4 a8 = some (.tup [V.str "Cons", V.int 0, V.ref a7]) := by rw [← hG4]; exact n9 _ _ upd_same
  have e7 : G4 a7 = some (.tup [V.str "Nil", V.int 0]) := by rw [← hG4]; exact (n8.trans n9) _ _ upd_same
  have e6 : G4 a6 = some (.tup [V.str "Cons", V.bl false, V.ref a5]) := by rw [← hG4]; exact (n7.trans (n8.trans n9)) _ _ upd_same
  have e5 : G4 a5 = some (.tup [V.str "Nil"]) := by rw [← hG4]; exact (n6.trans (n7.trans (n8.trans n9))) _ _ upd_same
  have e4 : G4 a4 = some (.tup [V.str "Cons", V.int 0, V.int 7]) := by rw [← hG4]; exact (n5.trans (n6.trans (n7.trans (n8.trans n9)))) _ _ upd_same
  have e3 : G4 a3 = some (.tup [V.str "Cons", V.int 0, V.ref a2]) := by rw [← hG4]; exact (n4.trans (n5.trans (n6.trans (n7.trans (n8.trans n9))))) _ _ upd_same
  have e2 : G4 a2 = some (.tup [V.str "Cons", V.int 256, V.ref a1]) := by rw [← hG4]; exact (n3.trans (n4.trans (n5.trans (n6.trans (n7.trans (n8.trans n9)))))) _ _ upd_same
  have e1 : G4 a1 = some (.tup [V.str "Nil"]) := by rw [← hG4]; exact (n2.trans (n3.trans (n4.trans (n5.trans (n6.trans (n7.trans (n8.trans n9))))))) _ _ upd_same
  clear n1 n2 n3 n4 n5 n6 n7 n8 n9 ha1 ha2 ha3 ha4 ha5 ha6 ha7 ha8 hl4 hG4
  have bads : ∀ (j : Nat) (v : V), ([V.ref a3, V.ref a4, V.ref a6, V.ref a8] : List V)[j]? = some v → ∃ e, Td G4 v e ∧ Hd e ∧ fitB rsC 40 "List" e = false := fun j v hj => by
    match j, hj with
    | 0, hj => cases hj; exact ⟨_, .tup e3 (.cons (.str _) (.cons (.int _) (.cons (.tup e2 (.cons (.str _) (.cons (.int _) (.cons (.tup e1 (.cons (.str _) .nil)) .nil)))) .nil))), .cons _ (.cons (.int _) (.cons (.cons _ (.cons (.int _) (.cons (.cons _ .nil) .nil))) .nil)), cC1⟩
    | 1, hj => cases hj; exact ⟨_, .tup e4 (.cons (.str _) (.cons (.int _) (.cons (.int _) .nil))), .cons _ (.cons (.int _) (.cons (.int _) .nil)), cC2⟩
    | 2, hj => cases hj; exact ⟨_, .tup e6 (.cons (.str _) (.cons (.bl _) (.cons (.tup e5 (.cons (.str _) .nil)) .nil))), .cons _ (.cons (.bl _) (.cons (.cons _ .nil) .nil)), cC3⟩
    | 3, hj => cases hj; exact ⟨_, .tup e8 (.cons (.str _) (.cons (.int _) (.cons (.tup e7 (.cons (.str _) (.cons (.int _) .nil))) .nil))), .cons _ (.cons (.int _) (.cons (.cons _ (.cons (.int _) .nil)) .nil)), cC4⟩
    | j + 4, hj => simp at hj
  have fin1 : ("f" : Str) ∈ fsC.map (·.1) := by simp [fsC]
  refine ⟨l4, rfl, ⟨_, .inl (.inl hl44)⟩, for_it (walk_list (K := K) (a := l4) (xs := [V.ref a3, V.ref a4, V.ref a6, V.ref a8])) (fun j σ G2 => (∃ v13, σ = [some (.ref a), some (.ref pool), some (.ref l2), some (.ref bd), some (.int (1 + z)), some (.ref ta), some (.ref y), some (.ref tl), v8, v9, v10, v11, v12, v13, some (.ref db), some (.ref y2)]) ∧ Same G4 G2) ⟨⟨_, rfl⟩, Same.refl _⟩ (fun j σ G2 _ z => .inl (.inl (z.2 _ _ hl44))) ?_ ?_⟩
  · rintro j v σ G6 G7 hj ⟨⟨v13, rfl⟩, s7⟩ ⟨rfl, hv2⟩
    obtain ⟨e, te, he, no⟩ := bads j v hv2
    refine ⟨_, rfl, _, rfl, y2, x2, "f", v, rsC, fsC, e, rfl, (hFG.same sG4).same s7, (hKG.same sG4).same s7, rsC_valid, fsC_drawn, te.mono (tups_of s7), he, fun g hg eg => ⟨fun hb2 => ?_, fun _ G9 s9 => ⟨rfl, _, rfl, iteF ⟨⟨_, rfl⟩, s7.trans s9⟩⟩⟩, fun zz => absurd fin1 zz⟩
    rw [List.mem_singleton.mp hg] at hb2
    exact absurd hb2 (by show ¬ fitB rsC 40 "List" e = true; rw [no]; simp)
  rintro σ HI ⟨⟨v13, rfl⟩, sI⟩
  have sGI := sG4.trans sI
  -- one that is
  refine ⟨_, rfl, by show 1 ≤ sizeLine; decide, fun a1 ha1 => ⟨by show 3 ≤ sizeLine; decide, fun a2 ha2 => ⟨by show 3 ≤ sizeLine; decide, fun a3 ha3 => ?_⟩⟩⟩
  have n1 := same_new (o := .tup [V.str "Nil"]) ha1
  have n2 := same_new (o := .tup [V.str "Cons", V.int 0, V.ref a1]) ha2
  have n3 := same_new (o := .tup [V.str "Cons", V.int 255, V.ref a2]) ha3
  have n123 := sGI.trans (n1.trans (n2.trans n3))
  refine ⟨y2, x2, "f", .ref a3, rsC, fsC, _, rfl, hFG.same n123, hKG.same n123, rsC_valid, fsC_drawn, .tup upd_same (.cons (.str _) (.cons (.int _) (.cons (.tup (n3 _ _ upd_same) (.cons (.str _) (.cons (.int _) (.cons (.tup ((n2.trans n3) _ _ upd_same) (.cons (.str _) .nil)) .nil)))) .nil))), .cons _ (.cons (.int _) (.cons (.cons _ (.cons (.int _) (.cons (.cons _ .nil) .nil))) .nil)), fun g hg eg => ⟨fun hb2 => ⟨by decide +kernel, fun GJ sJ => ?_⟩, fun hb2 => ?_⟩, fun zz => absurd fin1 zz⟩
  rotate_left
  · rw [List.mem_singleton.mp hg] at hb2
    exact absurd hb2 (by show ¬ fitB rsC 40 "List" _ = false; rw [cC5]; simp)
  refine ⟨rfl, _, rfl, iteF ?_⟩
  have IJ := IG.same (n123.trans sJ)
  have TJ := TG.same (n123.trans sJ)
  obtain ⟨d', hd', tdw⟩ := TdAll.get TJ.td hwv0
  rw [hdt0] at hd'; cases hd'
  refine ⟨_, rfl, _, rfl, tl, _, _, _, rfl, rfl, SqL.of TJ.ht, atI_nat (j := 0) hwv0, y, x, "", wv0, rs, fs, dt0, rfl, IJ.fi.ff, IJ.fi.kf, val, D, tdw, hdh0, fun g hg eg => absurd eg (gn_no_empty (D.gn g hg)), fun _ => ⟨tame_empty, fun GK sK => ?_⟩⟩
  refine ⟨rfl, ?_⟩
  rw [show decide (V.str "unknown" = V.str "unknown") = true by simp]
  exact q _
end
end Bg
set_option Elab.async false
set_option linter.all false
set_option maxRecDepth 100000
set_option maxHeartbeats 0
namespace Bg
open PySem PySem.Spec PyProof.Rows L2
end Bg
open PySem PySem.W PySem.Calls PyProof.Rows
theorem PySem.Challenge.cw_bytegrove_k17_runs_on_trees_holds : PySem.Challenge.rw_bytegrove_k17_runs_on_trees.Holds := by
  w_on; o_law
  refine HandSHeadRun.head_any (r := Bg.R) (q := view (Bg.R).prog [72]) (H := Bg.hk) (ob := Bg.ob) (M := 8000) (loose := Bg.loose) (d := HandSHeadRun.topDef (Bg.R).prog 72) (kwd := []) Bg.ob_eq
    (by kernel_rfl) (fun s => by kernel_rfl) Bg.run (by kernel_rfl) (by kernel_rfl) (by kernel_rfl) (by rfl) (by first | assumption | decide +kernel) (by decide +kernel) ⟨rfl, rfl, rfl, rfl, rfl, by decide +kernel⟩ ?hw ?hc
  case hw => w_witness2
  case hc =>
    refine L2.walk_ofE (l := PySem.Challenge.rw_bytegrove_k17_runs_on_trees) (n := 63) (k := 90) (x := "_law_script") (CX := L2.CX0) rfl (by decide) (by kernel_rfl) ⟨rfl, by decide, by decide⟩ ?F (fun _ _ _ _ z => z)
    intro w mg fa h Y G hmg0
    obtain ⟨K, KX, c, ex, c2⟩ := Y
    have T : Bg.Tx K mg := ⟨c, ex, c2, h, KX, G⟩
    have hmg : mg ("law" : PySem.Str) = some (.ref fa) := by
      have e : (HandSHeadRun.topDef (Bg.R).prog 72).name = ("law" : PySem.Str) := by kernel_rfl
      rw [← e]
      exact hmg0
    have e := hmg.symm.trans T.g_law
    cases e
    obtain ⟨fd, F⟩ := T.F_law
    refine ⟨K, fd, Bg.spLaw K, KX, fun s v => L2.FunD.bindsA (ps := ["_law_script"]) F (fun _ _ _ _ _ _ us hl => match us, hl with | [_], _ => rfl) s [v] rfl, fun H a ns hl _ hS => ⟨a, ns, rfl, hS, hl, fun _ => rfl⟩, fun base _ _ => ?_⟩
    exact Bg.ok_law T F
