import PyProof.Rows.All
import Wide.All
import OpenK.AllK
import Wide.FinOn
import HandS.ForMost
import HandS.IsInst
import HandS.StrMore
import HandS.Style
import HandS.Strs
import HandS.SetBool
import HandS.SetKeys
import HandS.DictComp
import HandS.Conv
import HandS.TupAny
import HandS.Defaults
import HandS.Head0
import HandS.Head1
import HandS.Head2
import HandS.HeadEnd
import HandS.HeadHook1
import HandS.HeadHook2
import HandS.Flow
import HandS.Zip
import KE.LtData
import KE.KExcIs
import HandS.Exc
import HandS.ExcInit
import HandS.ExcOwn
import HandS.ExcField
import HandS.ExcIs
import HandS.FStr
import HandS.Star
import HandS.ClsMeth
import PySem.Challenge.RW_bytegrove_k03_invalid_kinds_tables
import HandS.Walk
import HandS.HotCalls
set_option Elab.async false
set_option linter.all false
set_option maxRecDepth 100000
set_option maxHeartbeats 8000000
namespace Bg
open PySem PySem.Spec PyProof.Rows L2
/-! ### what a class of errors must say -/
def oexB (K : PySem.W.Frag) (C : Addr) : Bool := match K.lookup C with
  | some ⟨.type "type", _, .cls cd, sl⟩ => (match cd.mro, sl.toList with
    | .ref C' :: bm, [_, _, _, _, some (.builtin n), _] => C' == C && (n == "ValueError.__new__" && (!cd.hasDel && (cd.hasDict && PySem.HandSPX.refsVE bm)))
    | _, _ => false)
  | _ => false
theorem oexB_ok {K : PySem.W.Frag} {C : Addr} (q : oexB K C = true) : ∃ nm q N bs bm sn sub ab col dd k0 k1 k2 k3 k5, K.lookup C = some (excClassObj nm q C N bs bm true sn sub ab col dd k0 k1 k2 k3 k5 "ValueError.__new__") ∧ PySem.HandSPX.refsVE bm = true := by
  unfold oexB at q
  split at q
  · rename_i dd cd sl ho
    split at q
    · rename_i C' bm k0 k1 k2 k3 n k5 hm hs
      simp only [Bool.and_eq_true, beq_iff_eq, Bool.not_eq_true'] at q
      obtain ⟨rfl, rfl, hdel, hdict, ht⟩ := q
      obtain ⟨nm, bs, mro, ns, qn, hd, sn, sub, ab, col, del⟩ := cd
      dsimp only at hm hdel hdict
      subst hm hdel hdict
      have hsl : sl = #[k0, k1, k2, k3, some (.builtin "ValueError.__new__"), k5] := by
        obtain ⟨l⟩ := sl
        simp only at hs
        rw [hs]
      subst hsl
      exact ⟨nm, qn, ns, bs, bm, sn, sub, ab, col, dd, k0, k1, k2, k3, k5, ho, ht⟩
    · cases q
  · cases q
structure ExT (K : PySem.W.Frag) (C : Addr) : Prop where
  oex : OexC K C
  xf : XfC K C
  cl : (PySem.W.clsIn K C).isSome = true
  ha : PySem.W.findIn K (.ref C) "__class__" = some (some (.builtin "object.__class__"))
  hn : PySem.W.specialIn K (.builtin "object.__class__") "__get__" = some (some (.builtin "getset_descriptor.__get__"))
  tk : PySem.W.takesIn K (.builtin "object.__class__") = some true
  hm : PySem.W.mroIn K C (.type "object") = some true
def exB (K : PySem.W.Frag) (C : Addr) : Bool := oexB K C && (He.eqO (PySem.W.findIn K (.ref C) "__setattr__") (some (some (.builtin "object.__setattr__"))) && (decide (PySem.W.subIn K (.ref C) (.type "BaseException") = some true) && (decide (PySem.W.typeIn K (.ref C) = some (.type "type")) &&
  (PySem.W.keepIn K (.ref C) && (xfB K C && ((PySem.W.clsIn K C).isSome && (He.eqO (PySem.W.findIn K (.ref C) "__class__") (some (some (.builtin "object.__class__"))) && (He.eqO (PySem.W.specialIn K (.builtin "object.__class__") "__get__") (some (some (.builtin "getset_descriptor.__get__"))) &&
  (decide (PySem.W.takesIn K (.builtin "object.__class__") = some true) && decide (PySem.W.mroIn K C (.type "object") = some true))))))))))
theorem exB_ok {K : PySem.W.Frag} {C : Addr} (h : exB K C = true) : ExT K C := by
  obtain ⟨h1, h⟩ := He.ba h
  obtain ⟨h2, h⟩ := He.ba h
  obtain ⟨h3, h⟩ := He.ba h
  obtain ⟨h4, h⟩ := He.ba h
  obtain ⟨h5, h⟩ := He.ba h
  obtain ⟨h6, h⟩ := He.ba h
  obtain ⟨h7, h⟩ := He.ba h
  obtain ⟨h8, h⟩ := He.ba h
  obtain ⟨h9, h⟩ := He.ba h
  obtain ⟨h10, h11⟩ := He.ba h
  exact ⟨⟨oexB_ok h1, He.eqO_ok h2, of_decide_eq_true h3, of_decide_eq_true h4, h5⟩, xfB_ok h6, h7, He.eqO_ok h8, He.eqO_ok h9, of_decide_eq_true h10, of_decide_eq_true h11⟩
/-- G.__init__ is ValueError's own -/
structure GiT (K : PySem.W.Frag) (G : Addr) : Prop where
  rd : PySem.W.readsIn K G (.type "type") = true
  ga : PySem.W.specialIn K (.ref G) "__getattribute__" = some (some (.builtin "type.__getattribute__"))
  at_ : PySem.W.findCls K (.ref G) (.type "type") "__init__" = some (.val (.builtin "ValueError.__init__"))
def giB (K : PySem.W.Frag) (G : Addr) : Bool := PySem.W.readsIn K G (.type "type") && (He.eqO (PySem.W.specialIn K (.ref G) "__getattribute__") (some (some (.builtin "type.__getattribute__"))) && (match PySem.W.findCls K (.ref G) (.type "type") "__init__" with
  | some (.val (.builtin n)) => n == "ValueError.__init__"
  | _ => false))
theorem giB_ok {K : PySem.W.Frag} {G : Addr} (h : giB K G = true) : GiT K G := by
  obtain ⟨h1, h⟩ := He.ba h
  obtain ⟨h2, h3⟩ := He.ba h
  refine ⟨h1, He.eqO_ok h2, ?_⟩
  split at h3
  · rename_i n e
    rw [e, beq_iff_eq.mp h3]
  · cases h3
/-! ### the hook: the statics beside what the globals reach -/
def asE (g : Addr → Option Obj) (n : Nat) : List Addr := PySem.cStatics :: He.asD g n
def obsE (n : Nat) (fa : List He.Fa) (fn : List He.DefD) (ex : PySem.W.Frag → Bool) (g : Addr → Option Obj) : He.AlD × Bool := (He.obsD fa fn (He.frG g (asE g n)), ex (He.frG g (asE g n)))
def hookE (n : Nat) (fa : List He.Fa) (fn : List He.DefD) (ex : PySem.W.Frag → Bool) : PySem.W.Hook where
  α := He.AlD × Bool
  obs := fun s => obsE n fa fn ex s.heap.get?
  val := fun _ => (He.valD fn, true)
  says := fun _ h => ∃ K : PySem.W.Frag, K.In h ∧ He.SaysD fa fn K ∧ ex K = true
  of := fun _ _ e => ⟨_, He.frG_in, congrArg (fun z : He.AlD × Bool => z.1) e, congrArg (fun z : He.AlD × Bool => z.2) e⟩
  keeps := fun _ _ _ ⟨K, hK, c⟩ k => ⟨K, PySem.W.Frag.In.keeps hK k, c⟩
theorem obsE_eq {n : Nat} {fa : List He.Fa} {fn : List He.DefD} {ex : PySem.W.Frag → Bool} {g : Addr → Option Obj} {s : Shared} (h : ∀ a, g a = s.heap.get? a) : obsE n fa fn ex g = (hookE n fa fn ex).obs s := by
  have e : g = s.heap.get? := funext h
  rw [e] <;> rfl
/-! ### rules -/
section
variable {X : Cx} {o e : Expr} {es : List Expr} {ta : TA} {p p1 p2 pos : Pos} {G : Addr} {x : Str}
/-- G.__init__(self, ..), G an own class that has ValueError's -/
theorem pe_ginit {pl : Sem Bool} (T : GiT X.K G) (hg : Gl X x) (hm : X.mg x = some (.ref G)) (ha : PA X (e :: es) ta)
    (hdb : (x == ("__debug__" : Str)) = false := by decide)
    (hc : eval (.Call (.Attribute (.Name x p1) "__init__" p2) (e :: es) [] pos) X.env = (do
      let ov ← eval (.Name x p1) X.env
      standAt p2.atName
      let (f, first) ← holding [ov] (getMethod ov "__init__" pl)
      callWith pos f first (backTo pos (starEach (e :: es) X.env)) (backToKw pos (keywordEach [] X.env))) := by rfl)
    (he : starEach (e :: es) X.env = (false, eval e X.env) :: starEach es X.env := by rfl) (hpl : (backTo pos (starEach es X.env)).any (·.1) = false := by rfl) :
    PE X (.Call (.Attribute (.Name x p1) "__init__" p2) (e :: es) [] pos) (tVeI X.K ta) := by
  refine ⟨fun pins s σ H Q I h => ?_⟩
  refine PySem.W.methodCall_KW (ld_glob I hg hm ?_ hdb) hc
  refine PySem.W.method_cls I.kIn T.ga ?_
  refine PySem.W.cls_value I.kIn T.rd T.at_ (by decide +kernel) ?_
  show wpAny _ _ (callWith pos (Value.builtin "ValueError.__init__") [] (backTo pos (starEach (e :: es) X.env)) []) _ _ _
  refine PyProof.Rows.callWith_method1 (thn (ha.run pos pins _ σ H _ (I.tok _) h) fun us s1 ⟨vs, H1, I1, r1, a, C, ws, ev, hl, T, ea, q⟩ => ?_) he hpl
  subst ev
  cases r1 with
  | @cons _ u0 _ ur ra rw' =>
    obtain rfl : u0 = Value.ref a := ra
    have hlen : ur.length ≤ sizeLine := by
      rw [← Paired.length rw', sizeLine_eq]
      omega
    exact oinit_ok T I1 ea hlen fun s' J => ⟨.non, H1, J, rfl, q⟩
end
section
variable {X : Cx} {a D : Addr} {oe : Obj} {pn : List (Addr × Obj)} {cls : Value} {d : Option Addr}
theorem exc_inst {pins : List (Addr × Obj)} {σ : L2.St} {H : Hp} {s : Shared} {dd : Addr} {fs : List (Str × V)} (I : Inv (X.suite a ((a, oe) :: pn)) pins σ H s) (hz : Zc (.ref D) (some dd) oe) (hf : ∃ vs, oe.data = .fields vs) (ea : H dd = some (.xd fs)) :
    ∃ od, PySem.W.InstAt s.heap a oe D (some od) := by
  obtain ⟨ha, _⟩ := I.pin (a, oe) (List.mem_append_left _ List.mem_cons_self)
  obtain ⟨vs, hd⟩ := hf
  have hx : ObjOk X.prog X.w H s.heap dd (.xd fs) := I.hok dd _ ea
  obtain ⟨mA, hns, hr⟩ := hx
  obtain ⟨od, ho, hl⟩ := lookIn_ns hns
  exact ⟨od, ha, hz.1, by unfold PySem.W.notCls; rw [hd] <;> rfl, by rw [hz.2]; exact ho⟩
/-- isinstance(e, c), e the error that the suite holds, its class D, its dict d -/
def rIsD (K : PySem.W.Frag) (a : Addr) (cls : Value) (d : Option Addr) : List V → Hp → VK → Prop := fun xs H Q => ∃ (c : V) (cv : Value) (b : Bool) (D dd : Addr) (fs : List (Str × V)), xs = [.ref a, c] ∧ cls = .ref D ∧ d = some dd ∧ H dd = some (.xd fs) ∧ ExT K D ∧ ClsV c cv ∧ PySem.W.kitOne K (.ref D) cv = some b ∧ Q (.bl b) H
theorem call_isD (hz : Zc cls d oe) (hf : ∃ vs, oe.data = .fields vs) : CallR (X.suite a ((a, oe) :: pn)) (.builtin "isinstance") (rIsD X.K a cls d) := by
  intro pins s σ H xs us Q I r h
  obtain ⟨c, cv, b, D, dd, fs, rfl, rfl, rfl, ea, T, hcv, e, q⟩ := h
  cases r with
  | cons rx rr =>
    cases rr with
    | cons rt rr =>
      cases rr
      cases rx
      have ec := ClsV.eq hcv rt
      subst ec
      obtain ⟨od, J⟩ := exc_inst I hz hf ea
      exact PySem.W.kia_one (PySem.W.kitx_exc T.cl T.xf.ga T.xf.gg T.xf.exC T.ha T.hn T.tk T.hm) I.kIn J e (fun z => nomatch z) fun tk => ⟨.bl b, H, I.kept (t' := tk) fun _ _ z => z, rfl, q⟩
/-- isinstance(e, (c, ..)) -/
def rIsDT (K : PySem.W.Frag) (a : Addr) (cls : Value) (d : Option Addr) : List V → Hp → VK → Prop := fun xs H Q => ∃ (tp : Addr) (cs : List V) (us : List Value) (b : Bool) (D dd : Addr) (fs : List (Str × V)), xs = [.ref a, .ref tp] ∧ cls = .ref D ∧ d = some dd ∧ H dd = some (.xd fs) ∧ ExT K D ∧ H tp = some (.tup cs) ∧ Paired ClsV cs us ∧ PySem.W.kitAny K (.ref D) us = some b ∧ Q (.bl b) H
theorem call_isDT (hz : Zc cls d oe) (hf : ∃ vs, oe.data = .fields vs) : CallR (X.suite a ((a, oe) :: pn)) (.builtin "isinstance") (rIsDT X.K a cls d) := by
  intro pins s σ H xs us Q I r h
  obtain ⟨tp, cs, ws, b, D, dd, fs, rfl, rfl, rfl, ea, T, hT, k, e, q⟩ := h
  cases r with
  | cons rx rr =>
    cases rr with
    | cons rt rr =>
      cases rr
      cases rx
      cases rt
      obtain ⟨od, J⟩ := exc_inst I hz hf ea
      obtain ⟨_, its, rv, o, h1, h2, n, h3⟩ := (show ObjOk (X.suite a ((a, oe) :: pn)).prog (X.suite a ((a, oe) :: pn)).w H s.heap tp (.tup cs) from I.hok tp _ hT)
      have e3 := ClsV.all k rv
      subst e3
      obtain ⟨oc, od', dt, sl⟩ := o
      simp only at h2 h3
      subst h2 h3
      exact PySem.W.kia_tup (PySem.W.kitx_exc T.cl T.xf.ga T.xf.gg T.xf.exC T.ha T.hn T.tk T.hm) I.kIn J h1 e (fun z => nomatch z) fun tk => ⟨.bl b, H, I.kept (t' := tk) fun _ _ z => z, rfl, q⟩
/-- what comes behind a sure raise -/
theorem pss_never {X : Cx} {st : List Stmt} : PSs X st (fun _ _ _ => False) := ⟨fun _ _ _ _ _ _ h => h.elim⟩
end
end Bg
set_option Elab.async false
set_option linter.all false
set_option maxRecDepth 100000
set_option maxHeartbeats 8000000
namespace Bg
open PySem PySem.Spec PyProof.Rows L2
abbrev prg : Program := PySem.Challenge.pw_bytegrove_k03_invalid_kinds_tables
def top (i : Nat) : Stmt := prg.main.body.getD i (.Pass ⟨0, 0, 0, 0⟩)
abbrev FnP (K : PySem.W.Frag) (p : Str × Option Str) (x qual : Str) (st : Stmt) (fd : FuncData) : Prop := FunD K x qual (defArgs st) (defBody st) (defScope st) [] [] (He.fAd K p) fd
abbrev s__wall : Stmt := top 0
theorem sc__wall : FnScope ["k"] ["k"] (defScope s__wall) := ⟨rfl, rfl, rfl, by decide +kernel, rfl, by decide +kernel, by decide +kernel⟩
abbrev s_BadKinds_init : Stmt := inClass (top 3) 0
theorem sc_BadKinds_init : FnScope ["self", "row"] ["self", "row"] (defScope s_BadKinds_init) := ⟨rfl, rfl, rfl, by decide +kernel, rfl, by decide +kernel, by decide +kernel⟩
abbrev s_BadFunctions_init : Stmt := inClass (top 4) 0
theorem sc_BadFunctions_init : FnScope ["self", "row"] ["self", "row"] (defScope s_BadFunctions_init) := ⟨rfl, rfl, rfl, by decide +kernel, rfl, by decide +kernel, by decide +kernel⟩
abbrev s_BadLayout_init : Stmt := inClass (top 6) 0
theorem sc_BadLayout_init : FnScope ["self", "maker"] ["self", "maker"] (defScope s_BadLayout_init) := ⟨rfl, rfl, rfl, by decide +kernel, rfl, by decide +kernel, by decide +kernel⟩
abbrev s_BadRow_init : Stmt := inClass (top 7) 0
theorem sc_BadRow_init : FnScope ["self", "at"] ["self", "at"] (defScope s_BadRow_init) := ⟨rfl, rfl, rfl, by decide +kernel, rfl, by decide +kernel, by decide +kernel⟩
abbrev s_NotThere_init : Stmt := inClass (top 8) 0
theorem sc_NotThere_init : FnScope ["self", "name"] ["self", "name"] (defScope s_NotThere_init) := ⟨rfl, rfl, rfl, by decide +kernel, rfl, by decide +kernel, by decide +kernel⟩
abbrev s_Stuck_init : Stmt := inClass (top 9) 0
theorem sc_Stuck_init : FnScope ["self", "function", "maker", "part"] ["self", "function", "maker", "part"] (defScope s_Stuck_init) := ⟨rfl, rfl, rfl, by decide +kernel, rfl, by decide +kernel, by decide +kernel⟩
abbrev s_WrongLayout_init : Stmt := inClass (top 10) 0
theorem sc_WrongLayout_init : FnScope ["self", "start", "tree"] ["self", "start", "tree"] (defScope s_WrongLayout_init) := ⟨rfl, rfl, rfl, by decide +kernel, rfl, by decide +kernel, by decide +kernel⟩
abbrev s_NoLayout_init : Stmt := inClass (top 11) 0
theorem sc_NoLayout_init : FnScope ["self", "maker", "cycle"] ["self", "maker", "cycle"] (defScope s_NoLayout_init) := ⟨rfl, rfl, rfl, by decide +kernel, rfl, by decide +kernel, by decide +kernel⟩
abbrev s_is_name : Stmt := top 20
theorem sc_is_name : FnScope ["value"] ["value"] (defScope s_is_name) := ⟨rfl, rfl, rfl, by decide +kernel, rfl, by decide +kernel, by decide +kernel⟩
abbrev s_is_kind_name : Stmt := top 21
theorem sc_is_kind_name : FnScope ["value"] ["value"] (defScope s_is_kind_name) := ⟨rfl, rfl, rfl, by decide +kernel, rfl, by decide +kernel, by decide +kernel⟩
abbrev s_is_number : Stmt := top 22
theorem sc_is_number : FnScope ["value", "low", "high"] ["value", "low", "high"] (defScope s_is_number) := ⟨rfl, rfl, rfl, by decide +kernel, rfl, by decide +kernel, by decide +kernel⟩
abbrev s_is_part : Stmt := top 23
theorem sc_is_part : FnScope ["value"] ["value"] (defScope s_is_part) := ⟨rfl, rfl, rfl, by decide +kernel, rfl, by decide +kernel, by decide +kernel⟩
abbrev s_are_parts : Stmt := top 24
theorem sc_are_parts : FnScope ["value", "part"] ["value"] (defScope s_are_parts) := ⟨rfl, rfl, rfl, by decide +kernel, rfl, by decide +kernel, by decide +kernel⟩
abbrev s_check_each_row : Stmt := top 25
theorem sc_check_each_row : FnScope ["rows", "kinds", "makers", "at", "kind", "maker", "parts"] ["rows"] (defScope s_check_each_row) := ⟨rfl, rfl, rfl, by decide +kernel, rfl, by decide +kernel, by decide +kernel⟩
abbrev s_check_inner_kinds : Stmt := top 26
theorem sc_check_inner_kinds : FnScope ["rows", "kind", "maker", "parts", "known", "at", "part"] ["rows"] (defScope s_check_inner_kinds) := ⟨rfl, rfl, rfl, by decide +kernel, rfl, by decide +kernel, by decide +kernel⟩
abbrev s_check_finite : Stmt := top 27
theorem sc_check_finite : FnScope ["rows", "least", "at", "kind", "maker", "parts"] ["rows", "least"] (defScope s_check_finite) := ⟨rfl, rfl, rfl, by decide +kernel, rfl, by decide +kernel, by decide +kernel⟩
abbrev s_makers_by_kind : Stmt := top 28
theorem sc_makers_by_kind : FnScope ["rows", "makers", "kind", "maker", "parts"] ["rows"] (defScope s_makers_by_kind) := ⟨rfl, rfl, rfl, by decide +kernel, rfl, by decide +kernel, by decide +kernel⟩
abbrev s_holdings : Stmt := top 29
theorem sc_holdings : FnScope ["parts", "part"] ["parts"] (defScope s_holdings) := ⟨rfl, rfl, rfl, by decide +kernel, rfl, by decide +kernel, by decide +kernel⟩
abbrev s_least_node : Stmt := top 30
theorem sc_least_node : FnScope ["tag", "maker", "parts", "least", "row", "tree", "part"] ["tag", "maker", "parts", "least"] (defScope s_least_node) := ⟨rfl, rfl, rfl, by decide +kernel, rfl, by decide +kernel, by decide +kernel⟩
abbrev s_least_trees : Stmt := top 31
theorem sc_least_trees : FnScope ["rows", "makers", "least", "_", "kind", "maker", "parts", "node"] ["rows"] (defScope s_least_trees) := ⟨rfl, rfl, rfl, by decide +kernel, rfl, by decide +kernel, by decide +kernel⟩
abbrev s_Kinds_init : Stmt := inClass (top 32) 0
theorem sc_Kinds_init : FnScope ["self", "rows", "least", "kind", "maker", "parts"] ["self", "rows"] (defScope s_Kinds_init) := ⟨rfl, rfl, rfl, by decide +kernel, rfl, by decide +kernel, by decide +kernel⟩
abbrev s_Kinds_contains : Stmt := inClass (top 32) 1
theorem sc_Kinds_contains : FnScope ["self", "x"] ["self", "x"] (defScope s_Kinds_contains) := ⟨rfl, rfl, rfl, by decide +kernel, rfl, by decide +kernel, by decide +kernel⟩
abbrev s_Kinds_makers : Stmt := inClass (top 32) 2
theorem sc_Kinds_makers : FnScope ["self", "kind"] ["self", "kind"] (defScope s_Kinds_makers) := ⟨rfl, rfl, rfl, by decide +kernel, rfl, by decide +kernel, by decide +kernel⟩
abbrev s_Kinds_kind_of : Stmt := inClass (top 32) 3
theorem sc_Kinds_kind_of : FnScope ["self", "maker"] ["self", "maker"] (defScope s_Kinds_kind_of) := ⟨rfl, rfl, rfl, by decide +kernel, rfl, by decide +kernel, by decide +kernel⟩
abbrev s_Kinds_tag : Stmt := inClass (top 32) 4
theorem sc_Kinds_tag : FnScope ["self", "maker"] ["self", "maker"] (defScope s_Kinds_tag) := ⟨rfl, rfl, rfl, by decide +kernel, rfl, by decide +kernel, by decide +kernel⟩
abbrev s_Kinds_parts : Stmt := inClass (top 32) 5
theorem sc_Kinds_parts : FnScope ["self", "maker"] ["self", "maker"] (defScope s_Kinds_parts) := ⟨rfl, rfl, rfl, by decide +kernel, rfl, by decide +kernel, by decide +kernel⟩
abbrev s_Kinds_inner : Stmt := inClass (top 32) 6
theorem sc_Kinds_inner : FnScope ["self", "maker", "part"] ["self", "maker", "part"] (defScope s_Kinds_inner) := ⟨rfl, rfl, rfl, by decide +kernel, rfl, by decide +kernel, by decide +kernel⟩
abbrev s_Kinds_price_of : Stmt := inClass (top 32) 7
theorem sc_Kinds_price_of : FnScope ["self", "maker", "part"] ["self", "maker", "part"] (defScope s_Kinds_price_of) := ⟨rfl, rfl, rfl, by decide +kernel, rfl, by decide +kernel, by decide +kernel⟩
abbrev s_Kinds_holding : Stmt := inClass (top 32) 8
theorem sc_Kinds_holding : FnScope ["self", "maker", "part"] ["self", "maker", "part"] (defScope s_Kinds_holding) := ⟨rfl, rfl, rfl, by decide +kernel, rfl, by decide +kernel, by decide +kernel⟩
abbrev s_Kinds_fits : Stmt := inClass (top 32) 9
theorem sc_Kinds_fits : FnScope ["self", "tree", "kind"] ["self", "tree", "kind"] (defScope s_Kinds_fits) := ⟨rfl, rfl, rfl, by decide +kernel, rfl, by decide +kernel, by decide +kernel⟩
abbrev s_Kinds_tree_fits : Stmt := inClass (top 32) 10
theorem sc_Kinds_tree_fits : FnScope ["self", "tree", "kind", "levels", "parts", "part", "value"] ["self", "tree", "kind", "levels"] (defScope s_Kinds_tree_fits) := ⟨rfl, rfl, rfl, by decide +kernel, rfl, by decide +kernel, by decide +kernel⟩
abbrev s_Kinds_value_fits : Stmt := inClass (top 32) 11
theorem sc_Kinds_value_fits : FnScope ["self", "value", "inner", "levels"] ["self", "value", "inner", "levels"] (defScope s_Kinds_value_fits) := ⟨rfl, rfl, rfl, by decide +kernel, rfl, by decide +kernel, by decide +kernel⟩
abbrev s_Kinds_node : Stmt := inClass (top 32) 12
theorem sc_Kinds_node : FnScope ["self", "maker", "parts", "kind", "tree"] ["self", "maker", "parts"] (defScope s_Kinds_node) := ⟨rfl, rfl, rfl, by decide +kernel, rfl, by decide +kernel, by decide +kernel⟩
abbrev s_Kinds_least : Stmt := inClass (top 32) 13
theorem sc_Kinds_least : FnScope ["self", "kind"] ["self", "kind"] (defScope s_Kinds_least) := ⟨rfl, rfl, rfl, by decide +kernel, rfl, by decide +kernel, by decide +kernel⟩
abbrev s__law_take : Stmt := top 34
theorem sc__law_take : FnScope ["_law_pool_here", "_law_many"] ["_law_pool_here", "_law_many"] (defScope s__law_take) := ⟨rfl, rfl, rfl, by decide +kernel, rfl, by decide +kernel, by decide +kernel⟩
abbrev s__law_pool : Stmt := top 35
theorem sc__law_pool : FnScope ["_law_script", "_law_pool_here", "_law_cell", "_law_number", "_law_turn", "_law_mixed"] ["_law_script"] (defScope s__law_pool) := ⟨rfl, rfl, rfl, by decide +kernel, rfl, by decide +kernel, by decide +kernel⟩
abbrev s__law_name : Stmt := top 36
theorem sc__law_name : FnScope ["_law_seed", "_law_k", "_law_taken", "_law_letters", "_law_number", "_law_name_here", "_law_turn"] ["_law_seed", "_law_k", "_law_taken"] (defScope s__law_name) := ⟨rfl, rfl, rfl, by decide +kernel, rfl, by decide +kernel, by decide +kernel⟩
abbrev s__law_parts : Stmt := top 37
theorem sc__law_parts : FnScope ["_law_pool_here", "_law_seed", "_law_names", "_law_base", "_law_parts_here", "_law_taken", "_law_trees", "_law_at", "_law_pick", "_law_price"] ["_law_pool_here", "_law_seed", "_law_names", "_law_base"] (defScope s__law_parts) := ⟨rfl, rfl, rfl, by decide +kernel, rfl, by decide +kernel, by decide +kernel⟩
abbrev s__law_rows : Stmt := top 38
theorem sc__law_rows : FnScope ["_law_pool_here", "_law_seed", "_law_names", "_law_k", "_law_rows_here", "_law_count", "_law_base", "_law_at", "_law_maker", "_law_inner", "_law_turn", "_law_row"] ["_law_pool_here"] (defScope s__law_rows) := ⟨rfl, rfl, rfl, by decide +kernel, rfl, by decide +kernel, by decide +kernel⟩
abbrev s__law_int : Stmt := top 39
theorem sc__law_int : FnScope ["_law_value"] ["_law_value"] (defScope s__law_int) := ⟨rfl, rfl, rfl, by decide +kernel, rfl, by decide +kernel, by decide +kernel⟩
abbrev s__law_bad_row : Stmt := top 40
theorem sc__law_bad_row : FnScope ["_law_rows_here", "e"] ["_law_rows_here"] (defScope s__law_bad_row) := ⟨rfl, rfl, rfl, by decide +kernel, rfl, by decide +kernel, by decide +kernel⟩
abbrev s__law_spoilt : Stmt := top 41
theorem sc__law_spoilt : FnScope ["_law_pool_here", "_law_rows_here", "_law_at", "_law_way", "_law_kind", "_law_maker", "_law_bad", "_law_price"] ["_law_pool_here", "_law_rows_here", "_law_at", "_law_way"] (defScope s__law_spoilt) := ⟨rfl, rfl, rfl, by decide +kernel, rfl, by decide +kernel, by decide +kernel⟩
abbrev s__law_tables : Stmt := top 42
theorem sc__law_tables : FnScope ["_law_pool_here", "_law_rows_here", "_law_place", "_law_kind", "_law_endless", "_law_many", "_law_wide", "_law_loops", "_law_full", "_law_letter"] ["_law_pool_here", "_law_rows_here"] (defScope s__law_tables) := ⟨rfl, rfl, rfl, by decide +kernel, rfl, by decide +kernel, by decide +kernel⟩
abbrev s_law : Stmt := top 43
theorem sc_law : FnScope ["_law_script", "_law_pool_here", "_law_rows_here", "_law_at", "_law_way", "_law_bad", "_law_other", "_law_ways"] ["_law_script"] (defScope s_law) := ⟨rfl, rfl, rfl, by decide +kernel, rfl, by decide +kernel, by decide +kernel⟩
def d__wall : He.DefD := ⟨("_wall", none), "_wall", "_wall", defArgs s__wall, defBody s__wall, defScope s__wall, [], []⟩
def d_BadKinds_init : He.DefD := ⟨("BadKinds", some "__init__"), "__init__", "BadKinds.__init__", defArgs s_BadKinds_init, defBody s_BadKinds_init, defScope s_BadKinds_init, [], []⟩
def d_BadFunctions_init : He.DefD := ⟨("BadFunctions", some "__init__"), "__init__", "BadFunctions.__init__", defArgs s_BadFunctions_init, defBody s_BadFunctions_init, defScope s_BadFunctions_init, [], []⟩
def d_BadLayout_init : He.DefD := ⟨("BadLayout", some "__init__"), "__init__", "BadLayout.__init__", defArgs s_BadLayout_init, defBody s_BadLayout_init, defScope s_BadLayout_init, [], []⟩
def d_BadRow_init : He.DefD := ⟨("BadRow", some "__init__"), "__init__", "BadRow.__init__", defArgs s_BadRow_init, defBody s_BadRow_init, defScope s_BadRow_init, [], []⟩
def d_NotThere_init : He.DefD := ⟨("NotThere", some "__init__"), "__init__", "NotThere.__init__", defArgs s_NotThere_init, defBody s_NotThere_init, defScope s_NotThere_init, [], []⟩
def d_Stuck_init : He.DefD := ⟨("Stuck", some "__init__"), "__init__", "Stuck.__init__", defArgs s_Stuck_init, defBody s_Stuck_init, defScope s_Stuck_init, [], []⟩
def d_WrongLayout_init : He.DefD := ⟨("WrongLayout", some "__init__"), "__init__", "WrongLayout.__init__", defArgs s_WrongLayout_init, defBody s_WrongLayout_init, defScope s_WrongLayout_init, [], []⟩
def d_NoLayout_init : He.DefD := ⟨("NoLayout", some "__init__"), "__init__", "NoLayout.__init__", defArgs s_NoLayout_init, defBody s_NoLayout_init, defScope s_NoLayout_init, [], []⟩
def d_is_name : He.DefD := ⟨("is_name", none), "is_name", "is_name", defArgs s_is_name, defBody s_is_name, defScope s_is_name, [], []⟩
def d_is_kind_name : He.DefD := ⟨("is_kind_name", none), "is_kind_name", "is_kind_name", defArgs s_is_kind_name, defBody s_is_kind_name, defScope s_is_kind_name, [], []⟩
def d_is_number : He.DefD := ⟨("is_number", none), "is_number", "is_number", defArgs s_is_number, defBody s_is_number, defScope s_is_number, [], []⟩
def d_is_part : He.DefD := ⟨("is_part", none), "is_part", "is_part", defArgs s_is_part, defBody s_is_part, defScope s_is_part, [], []⟩
def d_are_parts : He.DefD := ⟨("are_parts", none), "are_parts", "are_parts", defArgs s_are_parts, defBody s_are_parts, defScope s_are_parts, [], []⟩
def d_check_each_row : He.DefD := ⟨("check_each_row", none), "check_each_row", "check_each_row", defArgs s_check_each_row, defBody s_check_each_row, defScope s_check_each_row, [], []⟩
def d_check_inner_kinds : He.DefD := ⟨("check_inner_kinds", none), "check_inner_kinds", "check_inner_kinds", defArgs s_check_inner_kinds, defBody s_check_inner_kinds, defScope s_check_inner_kinds, [], []⟩
def d_check_finite : He.DefD := ⟨("check_finite", none), "check_finite", "check_finite", defArgs s_check_finite, defBody s_check_finite, defScope s_check_finite, [], []⟩
def d_makers_by_kind : He.DefD := ⟨("makers_by_kind", none), "makers_by_kind", "makers_by_kind", defArgs s_makers_by_kind, defBody s_makers_by_kind, defScope s_makers_by_kind, [], []⟩
def d_holdings : He.DefD := ⟨("holdings", none), "holdings", "holdings", defArgs s_holdings, defBody s_holdings, defScope s_holdings, [], []⟩
def d_least_node : He.DefD := ⟨("least_node", none), "least_node", "least_node", defArgs s_least_node, defBody s_least_node, defScope s_least_node, [], []⟩
def d_least_trees : He.DefD := ⟨("least_trees", none), "least_trees", "least_trees", defArgs s_least_trees, defBody s_least_trees, defScope s_least_trees, [], []⟩
def d_Kinds_init : He.DefD := ⟨("Kinds", some "__init__"), "__init__", "Kinds.__init__", defArgs s_Kinds_init, defBody s_Kinds_init, defScope s_Kinds_init, [], []⟩
def d_Kinds_contains : He.DefD := ⟨("Kinds", some "__contains__"), "__contains__", "Kinds.__contains__", defArgs s_Kinds_contains, defBody s_Kinds_contains, defScope s_Kinds_contains, [], []⟩
def d_Kinds_makers : He.DefD := ⟨("Kinds", some "makers"), "makers", "Kinds.makers", defArgs s_Kinds_makers, defBody s_Kinds_makers, defScope s_Kinds_makers, [], []⟩
def d_Kinds_kind_of : He.DefD := ⟨("Kinds", some "kind_of"), "kind_of", "Kinds.kind_of", defArgs s_Kinds_kind_of, defBody s_Kinds_kind_of, defScope s_Kinds_kind_of, [], []⟩
def d_Kinds_tag : He.DefD := ⟨("Kinds", some "tag"), "tag", "Kinds.tag", defArgs s_Kinds_tag, defBody s_Kinds_tag, defScope s_Kinds_tag, [], []⟩
def d_Kinds_parts : He.DefD := ⟨("Kinds", some "parts"), "parts", "Kinds.parts", defArgs s_Kinds_parts, defBody s_Kinds_parts, defScope s_Kinds_parts, [], []⟩
def d_Kinds_inner : He.DefD := ⟨("Kinds", some "inner"), "inner", "Kinds.inner", defArgs s_Kinds_inner, defBody s_Kinds_inner, defScope s_Kinds_inner, [], []⟩
def d_Kinds_price_of : He.DefD := ⟨("Kinds", some "price_of"), "price_of", "Kinds.price_of", defArgs s_Kinds_price_of, defBody s_Kinds_price_of, defScope s_Kinds_price_of, [], []⟩
def d_Kinds_holding : He.DefD := ⟨("Kinds", some "_holding"), "_holding", "Kinds._holding", defArgs s_Kinds_holding, defBody s_Kinds_holding, defScope s_Kinds_holding, [], []⟩
def d_Kinds_fits : He.DefD := ⟨("Kinds", some "fits"), "fits", "Kinds.fits", defArgs s_Kinds_fits, defBody s_Kinds_fits, defScope s_Kinds_fits, [], []⟩
def d_Kinds_tree_fits : He.DefD := ⟨("Kinds", some "_tree_fits"), "_tree_fits", "Kinds._tree_fits", defArgs s_Kinds_tree_fits, defBody s_Kinds_tree_fits, defScope s_Kinds_tree_fits, [], []⟩
def d_Kinds_value_fits : He.DefD := ⟨("Kinds", some "_value_fits"), "_value_fits", "Kinds._value_fits", defArgs s_Kinds_value_fits, defBody s_Kinds_value_fits, defScope s_Kinds_value_fits, [], []⟩
def d_Kinds_node : He.DefD := ⟨("Kinds", some "node"), "node", "Kinds.node", defArgs s_Kinds_node, defBody s_Kinds_node, defScope s_Kinds_node, [], []⟩
def d_Kinds_least : He.DefD := ⟨("Kinds", some "least"), "least", "Kinds.least", defArgs s_Kinds_least, defBody s_Kinds_least, defScope s_Kinds_least, [], []⟩
def d__law_take : He.DefD := ⟨("_law_take", none), "_law_take", "_law_take", defArgs s__law_take, defBody s__law_take, defScope s__law_take, [], []⟩
def d__law_pool : He.DefD := ⟨("_law_pool", none), "_law_pool", "_law_pool", defArgs s__law_pool, defBody s__law_pool, defScope s__law_pool, [], []⟩
def d__law_name : He.DefD := ⟨("_law_name", none), "_law_name", "_law_name", defArgs s__law_name, defBody s__law_name, defScope s__law_name, [], []⟩
def d__law_parts : He.DefD := ⟨("_law_parts", none), "_law_parts", "_law_parts", defArgs s__law_parts, defBody s__law_parts, defScope s__law_parts, [], []⟩
def d__law_rows : He.DefD := ⟨("_law_rows", none), "_law_rows", "_law_rows", defArgs s__law_rows, defBody s__law_rows, defScope s__law_rows, [], []⟩
def d__law_int : He.DefD := ⟨("_law_int", none), "_law_int", "_law_int", defArgs s__law_int, defBody s__law_int, defScope s__law_int, [], []⟩
def d__law_bad_row : He.DefD := ⟨("_law_bad_row", none), "_law_bad_row", "_law_bad_row", defArgs s__law_bad_row, defBody s__law_bad_row, defScope s__law_bad_row, [], []⟩
def d__law_spoilt : He.DefD := ⟨("_law_spoilt", none), "_law_spoilt", "_law_spoilt", defArgs s__law_spoilt, defBody s__law_spoilt, defScope s__law_spoilt, [], []⟩
def d__law_tables : He.DefD := ⟨("_law_tables", none), "_law_tables", "_law_tables", defArgs s__law_tables, defBody s__law_tables, defScope s__law_tables, [], []⟩
def d_law : He.DefD := ⟨("law", none), "law", "law", defArgs s_law, defBody s_law, defScope s_law, [], []⟩
def fn : List He.DefD := [d__wall, d_BadKinds_init, d_BadFunctions_init, d_BadLayout_init, d_BadRow_init, d_NotThere_init, d_Stuck_init, d_WrongLayout_init, d_NoLayout_init, d_is_name, d_is_kind_name, d_is_number, d_is_part, d_are_parts, d_check_each_row, d_check_inner_kinds, d_check_finite, d_makers_by_kind, d_holdings, d_least_node, d_least_trees, d_Kinds_init, d_Kinds_contains, d_Kinds_makers, d_Kinds_kind_of, d_Kinds_tag, d_Kinds_parts, d_Kinds_inner, d_Kinds_price_of, d_Kinds_holding, d_Kinds_fits, d_Kinds_tree_fits, d_Kinds_value_fits, d_Kinds_node, d_Kinds_least, d__law_take, d__law_pool, d__law_name, d__law_parts, d__law_rows, d__law_int, d__law_bad_row, d__law_spoilt, d__law_tables, d_law]
def fa : List He.Fa := [.glo "_wall", .glo "is_name", .glo "is_kind_name", .glo "is_number", .glo "is_part", .glo "are_parts", .glo "check_each_row", .glo "check_inner_kinds", .glo "check_finite", .glo "makers_by_kind", .glo "holdings", .glo "least_node", .glo "least_trees", .glo "_law_take", .glo "_law_pool", .glo "_law_name", .glo "_law_parts", .glo "_law_rows", .glo "_law_int", .glo "_law_bad_row", .glo "_law_spoilt", .glo "_law_tables", .glo "law", .glo "GroveError", .glo "BadKinds", .glo "BadFunctions", .glo "BadTree", .glo "BadLayout", .glo "BadRow", .glo "NotThere", .glo "Stuck", .glo "WrongLayout", .glo "NoLayout", .glo "Kinds", .keep "_wall", .keep "is_name", .keep "is_kind_name", .keep "is_number", .keep "is_part", .keep "are_parts", .keep "check_each_row", .keep "check_inner_kinds", .keep "check_finite", .keep "makers_by_kind", .keep "holdings", .keep "least_node", .keep "least_trees", .keep "_law_take", .keep "_law_pool", .keep "_law_name", .keep "_law_parts", .keep "_law_rows", .keep "_law_int", .keep "_law_bad_row", .keep "_law_spoilt", .keep "_law_tables", .keep "law", .keep "GroveError", .keep "BadKinds", .keep "BadFunctions", .keep "BadTree", .keep "BadLayout", .keep "BadRow", .keep "NotThere", .keep "Stuck", .keep "WrongLayout", .keep "NoLayout", .keep "Kinds", .free "ValueError", .free "bool", .free "enumerate", .free "int", .free "isinstance", .free "len", .free "list", .free "range", .free "str", .free "tuple", .free "zip", .str "BYTE" "byte", .int "MOST_LETTERS" 24, .int "MOST_PARTS" 4, .int "MOST_PRICE" 1000, .int "MOST_ROWS" 12, .int "MOST_KINDS" 4, .int "MOST_LEVELS" 40, .cls "Kinds", .mkr "Kinds", .noat "Kinds" "_makers", .noat "Kinds" "_kinds", .noat "Kinds" "_parts", .noat "Kinds" "_least", .noat "Kinds" "names", .noat "Kinds" "order", .meth "Kinds" "__contains__", .meth "Kinds" "makers", .meth "Kinds" "kind_of", .meth "Kinds" "tag", .meth "Kinds" "parts", .meth "Kinds" "inner", .meth "Kinds" "price_of", .meth "Kinds" "_holding", .meth "Kinds" "fits", .meth "Kinds" "_tree_fits", .meth "Kinds" "_value_fits", .meth "Kinds" "node", .meth "Kinds" "least", .meth "BadKinds" "__init__", .noat "BadKinds" "row", .meth "BadFunctions" "__init__", .noat "BadFunctions" "row", .meth "BadLayout" "__init__", .noat "BadLayout" "maker", .meth "BadRow" "__init__", .noat "BadRow" "at", .meth "NotThere" "__init__", .noat "NotThere" "name", .meth "Stuck" "__init__", .noat "Stuck" "function", .noat "Stuck" "maker", .noat "Stuck" "part", .meth "WrongLayout" "__init__", .noat "WrongLayout" "start", .noat "WrongLayout" "tree", .meth "NoLayout" "__init__", .noat "NoLayout" "maker", .noat "NoLayout" "cycle", .exm "BadKinds" "GroveError" true]
def exs (K : PySem.W.Frag) : Bool := giB K (He.ga K "GroveError") && exB K (He.ga K "GroveError") && exB K (He.ga K "BadKinds") && exB K (He.ga K "BadFunctions") && exB K (He.ga K "BadTree") && exB K (He.ga K "BadLayout") && exB K (He.ga K "BadRow") && exB K (He.ga K "NotThere") && exB K (He.ga K "Stuck") && exB K (He.ga K "WrongLayout") && exB K (He.ga K "NoLayout") && decide (PySem.W.kitAny K (.ref (He.ga K "BadKinds")) [.ref (He.ga K "BadFunctions"), .ref (He.ga K "BadLayout"), .ref (He.ga K "BadRow"), .ref (He.ga K "BadTree"), .ref (He.ga K "NoLayout"), .ref (He.ga K "NotThere"), .ref (He.ga K "Stuck"), .ref (He.ga K "WrongLayout")] = some false) && decide (PySem.W.kitOne K (.ref (He.ga K "BadKinds")) (.type "ValueError") = some true)
structure Tx (K : PySem.W.Frag) (mg : Str → Option Value) : Prop where
  c : He.SaysD fa fn K
  e : exs K = true
  hh : ∃ h : Heap, K.In h ∧ h.Ns mainGlobals mg
theorem Tx.use {K : PySem.W.Frag} {mg : Str → Option Value} {A : Prop} (T : Tx K mg) (f : ∀ h : Heap, K.In h → h.Ns mainGlobals mg → A) : A := let ⟨h, a, b⟩ := T.hh; f h a b
namespace Tx
variable {K : PySem.W.Frag} {mg : Str → Option Value} (T : Tx K mg)
include T
theorem g_wall : mg "_wall" = some (.ref (He.ga K "_wall")) := T.use fun _ X G => He.glo_ok X G (T.c.fact 0 (f := .glo "_wall") rfl)
theorem g_is_name : mg "is_name" = some (.ref (He.ga K "is_name")) := T.use fun _ X G => He.glo_ok X G (T.c.fact 1 (f := .glo "is_name") rfl)
theorem g_is_kind_name : mg "is_kind_name" = some (.ref (He.ga K "is_kind_name")) := T.use fun _ X G => He.glo_ok X G (T.c.fact 2 (f := .glo "is_kind_name") rfl)
theorem g_is_number : mg "is_number" = some (.ref (He.ga K "is_number")) := T.use fun _ X G => He.glo_ok X G (T.c.fact 3 (f := .glo "is_number") rfl)
theorem g_is_part : mg "is_part" = some (.ref (He.ga K "is_part")) := T.use fun _ X G => He.glo_ok X G (T.c.fact 4 (f := .glo "is_part") rfl)
theorem g_are_parts : mg "are_parts" = some (.ref (He.ga K "are_parts")) := T.use fun _ X G => He.glo_ok X G (T.c.fact 5 (f := .glo "are_parts") rfl)
theorem g_check_each_row : mg "check_each_row" = some (.ref (He.ga K "check_each_row")) := T.use fun _ X G => He.glo_ok X G (T.c.fact 6 (f := .glo "check_each_row") rfl)
theorem g_check_inner_kinds : mg "check_inner_kinds" = some (.ref (He.ga K "check_inner_kinds")) := T.use fun _ X G => He.glo_ok X G (T.c.fact 7 (f := .glo "check_inner_kinds") rfl)
theorem g_check_finite : mg "check_finite" = some (.ref (He.ga K "check_finite")) := T.use fun _ X G => He.glo_ok X G (T.c.fact 8 (f := .glo "check_finite") rfl)
theorem g_makers_by_kind : mg "makers_by_kind" = some (.ref (He.ga K "makers_by_kind")) := T.use fun _ X G => He.glo_ok X G (T.c.fact 9 (f := .glo "makers_by_kind") rfl)
theorem g_holdings : mg "holdings" = some (.ref (He.ga K "holdings")) := T.use fun _ X G => He.glo_ok X G (T.c.fact 10 (f := .glo "holdings") rfl)
theorem g_least_node : mg "least_node" = some (.ref (He.ga K "least_node")) := T.use fun _ X G => He.glo_ok X G (T.c.fact 11 (f := .glo "least_node") rfl)
theorem g_least_trees : mg "least_trees" = some (.ref (He.ga K "least_trees")) := T.use fun _ X G => He.glo_ok X G (T.c.fact 12 (f := .glo "least_trees") rfl)
theorem g_law_take : mg "_law_take" = some (.ref (He.ga K "_law_take")) := T.use fun _ X G => He.glo_ok X G (T.c.fact 13 (f := .glo "_law_take") rfl)
theorem g_law_pool : mg "_law_pool" = some (.ref (He.ga K "_law_pool")) := T.use fun _ X G => He.glo_ok X G (T.c.fact 14 (f := .glo "_law_pool") rfl)
theorem g_law_name : mg "_law_name" = some (.ref (He.ga K "_law_name")) := T.use fun _ X G => He.glo_ok X G (T.c.fact 15 (f := .glo "_law_name") rfl)
theorem g_law_parts : mg "_law_parts" = some (.ref (He.ga K "_law_parts")) := T.use fun _ X G => He.glo_ok X G (T.c.fact 16 (f := .glo "_law_parts") rfl)
theorem g_law_rows : mg "_law_rows" = some (.ref (He.ga K "_law_rows")) := T.use fun _ X G => He.glo_ok X G (T.c.fact 17 (f := .glo "_law_rows") rfl)
theorem g_law_int : mg "_law_int" = some (.ref (He.ga K "_law_int")) := T.use fun _ X G => He.glo_ok X G (T.c.fact 18 (f := .glo "_law_int") rfl)
theorem g_law_bad_row : mg "_law_bad_row" = some (.ref (He.ga K "_law_bad_row")) := T.use fun _ X G => He.glo_ok X G (T.c.fact 19 (f := .glo "_law_bad_row") rfl)
theorem g_law_spoilt : mg "_law_spoilt" = some (.ref (He.ga K "_law_spoilt")) := T.use fun _ X G => He.glo_ok X G (T.c.fact 20 (f := .glo "_law_spoilt") rfl)
theorem g_law_tables : mg "_law_tables" = some (.ref (He.ga K "_law_tables")) := T.use fun _ X G => He.glo_ok X G (T.c.fact 21 (f := .glo "_law_tables") rfl)
theorem g_law : mg "law" = some (.ref (He.ga K "law")) := T.use fun _ X G => He.glo_ok X G (T.c.fact 22 (f := .glo "law") rfl)
theorem g_GroveError : mg "GroveError" = some (.ref (He.ga K "GroveError")) := T.use fun _ X G => He.glo_ok X G (T.c.fact 23 (f := .glo "GroveError") rfl)
theorem g_BadKinds : mg "BadKinds" = some (.ref (He.ga K "BadKinds")) := T.use fun _ X G => He.glo_ok X G (T.c.fact 24 (f := .glo "BadKinds") rfl)
theorem g_BadFunctions : mg "BadFunctions" = some (.ref (He.ga K "BadFunctions")) := T.use fun _ X G => He.glo_ok X G (T.c.fact 25 (f := .glo "BadFunctions") rfl)
theorem g_BadTree : mg "BadTree" = some (.ref (He.ga K "BadTree")) := T.use fun _ X G => He.glo_ok X G (T.c.fact 26 (f := .glo "BadTree") rfl)
theorem g_BadLayout : mg "BadLayout" = some (.ref (He.ga K "BadLayout")) := T.use fun _ X G => He.glo_ok X G (T.c.fact 27 (f := .glo "BadLayout") rfl)
theorem g_BadRow : mg "BadRow" = some (.ref (He.ga K "BadRow")) := T.use fun _ X G => He.glo_ok X G (T.c.fact 28 (f := .glo "BadRow") rfl)
theorem g_NotThere : mg "NotThere" = some (.ref (He.ga K "NotThere")) := T.use fun _ X G => He.glo_ok X G (T.c.fact 29 (f := .glo "NotThere") rfl)
theorem g_Stuck : mg "Stuck" = some (.ref (He.ga K "Stuck")) := T.use fun _ X G => He.glo_ok X G (T.c.fact 30 (f := .glo "Stuck") rfl)
theorem g_WrongLayout : mg "WrongLayout" = some (.ref (He.ga K "WrongLayout")) := T.use fun _ X G => He.glo_ok X G (T.c.fact 31 (f := .glo "WrongLayout") rfl)
theorem g_NoLayout : mg "NoLayout" = some (.ref (He.ga K "NoLayout")) := T.use fun _ X G => He.glo_ok X G (T.c.fact 32 (f := .glo "NoLayout") rfl)
theorem g_Kinds : mg "Kinds" = some (.ref (He.ga K "Kinds")) := T.use fun _ X G => He.glo_ok X G (T.c.fact 33 (f := .glo "Kinds") rfl)
theorem k_wall : PySem.W.keepIn K (.ref (He.ga K "_wall")) = true := He.keep_ok (T.c.fact 34 (f := .keep "_wall") rfl)
theorem k_is_name : PySem.W.keepIn K (.ref (He.ga K "is_name")) = true := He.keep_ok (T.c.fact 35 (f := .keep "is_name") rfl)
theorem k_is_kind_name : PySem.W.keepIn K (.ref (He.ga K "is_kind_name")) = true := He.keep_ok (T.c.fact 36 (f := .keep "is_kind_name") rfl)
theorem k_is_number : PySem.W.keepIn K (.ref (He.ga K "is_number")) = true := He.keep_ok (T.c.fact 37 (f := .keep "is_number") rfl)
theorem k_is_part : PySem.W.keepIn K (.ref (He.ga K "is_part")) = true := He.keep_ok (T.c.fact 38 (f := .keep "is_part") rfl)
theorem k_are_parts : PySem.W.keepIn K (.ref (He.ga K "are_parts")) = true := He.keep_ok (T.c.fact 39 (f := .keep "are_parts") rfl)
theorem k_check_each_row : PySem.W.keepIn K (.ref (He.ga K "check_each_row")) = true := He.keep_ok (T.c.fact 40 (f := .keep "check_each_row") rfl)
theorem k_check_inner_kinds : PySem.W.keepIn K (.ref (He.ga K "check_inner_kinds")) = true := He.keep_ok (T.c.fact 41 (f := .keep "check_inner_kinds") rfl)
theorem k_check_finite : PySem.W.keepIn K (.ref (He.ga K "check_finite")) = true := He.keep_ok (T.c.fact 42 (f := .keep "check_finite") rfl)
theorem k_makers_by_kind : PySem.W.keepIn K (.ref (He.ga K "makers_by_kind")) = true := He.keep_ok (T.c.fact 43 (f := .keep "makers_by_kind") rfl)
theorem k_holdings : PySem.W.keepIn K (.ref (He.ga K "holdings")) = true := He.keep_ok (T.c.fact 44 (f := .keep "holdings") rfl)
theorem k_least_node : PySem.W.keepIn K (.ref (He.ga K "least_node")) = true := He.keep_ok (T.c.fact 45 (f := .keep "least_node") rfl)
theorem k_least_trees : PySem.W.keepIn K (.ref (He.ga K "least_trees")) = true := He.keep_ok (T.c.fact 46 (f := .keep "least_trees") rfl)
theorem k_law_take : PySem.W.keepIn K (.ref (He.ga K "_law_take")) = true := He.keep_ok (T.c.fact 47 (f := .keep "_law_take") rfl)
theorem k_law_pool : PySem.W.keepIn K (.ref (He.ga K "_law_pool")) = true := He.keep_ok (T.c.fact 48 (f := .keep "_law_pool") rfl)
theorem k_law_name : PySem.W.keepIn K (.ref (He.ga K "_law_name")) = true := He.keep_ok (T.c.fact 49 (f := .keep "_law_name") rfl)
theorem k_law_parts : PySem.W.keepIn K (.ref (He.ga K "_law_parts")) = true := He.keep_ok (T.c.fact 50 (f := .keep "_law_parts") rfl)
theorem k_law_rows : PySem.W.keepIn K (.ref (He.ga K "_law_rows")) = true := He.keep_ok (T.c.fact 51 (f := .keep "_law_rows") rfl)
theorem k_law_int : PySem.W.keepIn K (.ref (He.ga K "_law_int")) = true := He.keep_ok (T.c.fact 52 (f := .keep "_law_int") rfl)
theorem k_law_bad_row : PySem.W.keepIn K (.ref (He.ga K "_law_bad_row")) = true := He.keep_ok (T.c.fact 53 (f := .keep "_law_bad_row") rfl)
theorem k_law_spoilt : PySem.W.keepIn K (.ref (He.ga K "_law_spoilt")) = true := He.keep_ok (T.c.fact 54 (f := .keep "_law_spoilt") rfl)
theorem k_law_tables : PySem.W.keepIn K (.ref (He.ga K "_law_tables")) = true := He.keep_ok (T.c.fact 55 (f := .keep "_law_tables") rfl)
theorem k_law : PySem.W.keepIn K (.ref (He.ga K "law")) = true := He.keep_ok (T.c.fact 56 (f := .keep "law") rfl)
theorem k_GroveError : PySem.W.keepIn K (.ref (He.ga K "GroveError")) = true := He.keep_ok (T.c.fact 57 (f := .keep "GroveError") rfl)
theorem k_BadKinds : PySem.W.keepIn K (.ref (He.ga K "BadKinds")) = true := He.keep_ok (T.c.fact 58 (f := .keep "BadKinds") rfl)
theorem k_BadFunctions : PySem.W.keepIn K (.ref (He.ga K "BadFunctions")) = true := He.keep_ok (T.c.fact 59 (f := .keep "BadFunctions") rfl)
theorem k_BadTree : PySem.W.keepIn K (.ref (He.ga K "BadTree")) = true := He.keep_ok (T.c.fact 60 (f := .keep "BadTree") rfl)
theorem k_BadLayout : PySem.W.keepIn K (.ref (He.ga K "BadLayout")) = true := He.keep_ok (T.c.fact 61 (f := .keep "BadLayout") rfl)
theorem k_BadRow : PySem.W.keepIn K (.ref (He.ga K "BadRow")) = true := He.keep_ok (T.c.fact 62 (f := .keep "BadRow") rfl)
theorem k_NotThere : PySem.W.keepIn K (.ref (He.ga K "NotThere")) = true := He.keep_ok (T.c.fact 63 (f := .keep "NotThere") rfl)
theorem k_Stuck : PySem.W.keepIn K (.ref (He.ga K "Stuck")) = true := He.keep_ok (T.c.fact 64 (f := .keep "Stuck") rfl)
theorem k_WrongLayout : PySem.W.keepIn K (.ref (He.ga K "WrongLayout")) = true := He.keep_ok (T.c.fact 65 (f := .keep "WrongLayout") rfl)
theorem k_NoLayout : PySem.W.keepIn K (.ref (He.ga K "NoLayout")) = true := He.keep_ok (T.c.fact 66 (f := .keep "NoLayout") rfl)
theorem k_Kinds : PySem.W.keepIn K (.ref (He.ga K "Kinds")) = true := He.keep_ok (T.c.fact 67 (f := .keep "Kinds") rfl)
theorem n_ValueError : mg "ValueError" = none := T.use fun _ X G => He.free_ok X G (T.c.fact 68 (f := .free "ValueError") rfl)
theorem n_bool : mg "bool" = none := T.use fun _ X G => He.free_ok X G (T.c.fact 69 (f := .free "bool") rfl)
theorem n_enumerate : mg "enumerate" = none := T.use fun _ X G => He.free_ok X G (T.c.fact 70 (f := .free "enumerate") rfl)
theorem n_int : mg "int" = none := T.use fun _ X G => He.free_ok X G (T.c.fact 71 (f := .free "int") rfl)
theorem n_isinstance : mg "isinstance" = none := T.use fun _ X G => He.free_ok X G (T.c.fact 72 (f := .free "isinstance") rfl)
theorem n_len : mg "len" = none := T.use fun _ X G => He.free_ok X G (T.c.fact 73 (f := .free "len") rfl)
theorem n_list : mg "list" = none := T.use fun _ X G => He.free_ok X G (T.c.fact 74 (f := .free "list") rfl)
theorem n_range : mg "range" = none := T.use fun _ X G => He.free_ok X G (T.c.fact 75 (f := .free "range") rfl)
theorem n_str : mg "str" = none := T.use fun _ X G => He.free_ok X G (T.c.fact 76 (f := .free "str") rfl)
theorem n_tuple : mg "tuple" = none := T.use fun _ X G => He.free_ok X G (T.c.fact 77 (f := .free "tuple") rfl)
theorem n_zip : mg "zip" = none := T.use fun _ X G => He.free_ok X G (T.c.fact 78 (f := .free "zip") rfl)
theorem c_BYTE : ∃ t, mg "BYTE" = some (.str "byte" t) := T.use fun _ X G => He.str_ok X G (T.c.fact 79 (f := .str "BYTE" "byte") rfl)
theorem c_MOST_LETTERS : ∃ t, mg "MOST_LETTERS" = some (.int 24 t) := T.use fun _ X G => He.int_ok X G (T.c.fact 80 (f := .int "MOST_LETTERS" 24) rfl)
theorem c_MOST_PARTS : ∃ t, mg "MOST_PARTS" = some (.int 4 t) := T.use fun _ X G => He.int_ok X G (T.c.fact 81 (f := .int "MOST_PARTS" 4) rfl)
theorem c_MOST_PRICE : ∃ t, mg "MOST_PRICE" = some (.int 1000 t) := T.use fun _ X G => He.int_ok X G (T.c.fact 82 (f := .int "MOST_PRICE" 1000) rfl)
theorem c_MOST_ROWS : ∃ t, mg "MOST_ROWS" = some (.int 12 t) := T.use fun _ X G => He.int_ok X G (T.c.fact 83 (f := .int "MOST_ROWS" 12) rfl)
theorem c_MOST_KINDS : ∃ t, mg "MOST_KINDS" = some (.int 4 t) := T.use fun _ X G => He.int_ok X G (T.c.fact 84 (f := .int "MOST_KINDS" 4) rfl)
theorem c_MOST_LEVELS : ∃ t, mg "MOST_LEVELS" = some (.int 40 t) := T.use fun _ X G => He.int_ok X G (T.c.fact 85 (f := .int "MOST_LEVELS" 40) rfl)
theorem cl_Kinds : Cls K (He.ga K "Kinds") := He.cls_ok (T.c.fact 86 (f := .cls "Kinds") rfl)
theorem mk_Kinds : Mk K (He.ga K "Kinds") (He.ma K (He.ga K "Kinds") "__init__") := He.mkr_ok (T.c.fact 87 (f := .mkr "Kinds") rfl)
theorem na_Kinds_makers_ : NoAttr K (He.ga K "Kinds") "_makers" := He.noat_ok (T.c.fact 88 (f := .noat "Kinds" "_makers") rfl)
theorem na_Kinds_kinds_ : NoAttr K (He.ga K "Kinds") "_kinds" := He.noat_ok (T.c.fact 89 (f := .noat "Kinds" "_kinds") rfl)
theorem na_Kinds_parts_ : NoAttr K (He.ga K "Kinds") "_parts" := He.noat_ok (T.c.fact 90 (f := .noat "Kinds" "_parts") rfl)
theorem na_Kinds_least_ : NoAttr K (He.ga K "Kinds") "_least" := He.noat_ok (T.c.fact 91 (f := .noat "Kinds" "_least") rfl)
theorem na_Kinds_names : NoAttr K (He.ga K "Kinds") "names" := He.noat_ok (T.c.fact 92 (f := .noat "Kinds" "names") rfl)
theorem na_Kinds_order : NoAttr K (He.ga K "Kinds") "order" := He.noat_ok (T.c.fact 93 (f := .noat "Kinds" "order") rfl)
theorem m_Kinds_contains : Meth K (He.ga K "Kinds") "__contains__" (He.ma K (He.ga K "Kinds") "__contains__") := He.meth_ok (T.c.fact 94 (f := .meth "Kinds" "__contains__") rfl)
theorem m_Kinds_makers : Meth K (He.ga K "Kinds") "makers" (He.ma K (He.ga K "Kinds") "makers") := He.meth_ok (T.c.fact 95 (f := .meth "Kinds" "makers") rfl)
theorem m_Kinds_kind_of : Meth K (He.ga K "Kinds") "kind_of" (He.ma K (He.ga K "Kinds") "kind_of") := He.meth_ok (T.c.fact 96 (f := .meth "Kinds" "kind_of") rfl)
theorem m_Kinds_tag : Meth K (He.ga K "Kinds") "tag" (He.ma K (He.ga K "Kinds") "tag") := He.meth_ok (T.c.fact 97 (f := .meth "Kinds" "tag") rfl)
theorem m_Kinds_parts : Meth K (He.ga K "Kinds") "parts" (He.ma K (He.ga K "Kinds") "parts") := He.meth_ok (T.c.fact 98 (f := .meth "Kinds" "parts") rfl)
theorem m_Kinds_inner : Meth K (He.ga K "Kinds") "inner" (He.ma K (He.ga K "Kinds") "inner") := He.meth_ok (T.c.fact 99 (f := .meth "Kinds" "inner") rfl)
theorem m_Kinds_price_of : Meth K (He.ga K "Kinds") "price_of" (He.ma K (He.ga K "Kinds") "price_of") := He.meth_ok (T.c.fact 100 (f := .meth "Kinds" "price_of") rfl)
theorem m_Kinds_holding : Meth K (He.ga K "Kinds") "_holding" (He.ma K (He.ga K "Kinds") "_holding") := He.meth_ok (T.c.fact 101 (f := .meth "Kinds" "_holding") rfl)
theorem m_Kinds_fits : Meth K (He.ga K "Kinds") "fits" (He.ma K (He.ga K "Kinds") "fits") := He.meth_ok (T.c.fact 102 (f := .meth "Kinds" "fits") rfl)
theorem m_Kinds_tree_fits : Meth K (He.ga K "Kinds") "_tree_fits" (He.ma K (He.ga K "Kinds") "_tree_fits") := He.meth_ok (T.c.fact 103 (f := .meth "Kinds" "_tree_fits") rfl)
theorem m_Kinds_value_fits : Meth K (He.ga K "Kinds") "_value_fits" (He.ma K (He.ga K "Kinds") "_value_fits") := He.meth_ok (T.c.fact 104 (f := .meth "Kinds" "_value_fits") rfl)
theorem m_Kinds_node : Meth K (He.ga K "Kinds") "node" (He.ma K (He.ga K "Kinds") "node") := He.meth_ok (T.c.fact 105 (f := .meth "Kinds" "node") rfl)
theorem m_Kinds_least : Meth K (He.ga K "Kinds") "least" (He.ma K (He.ga K "Kinds") "least") := He.meth_ok (T.c.fact 106 (f := .meth "Kinds" "least") rfl)
theorem m_BadKinds_init : Meth K (He.ga K "BadKinds") "__init__" (He.ma K (He.ga K "BadKinds") "__init__") := He.meth_ok (T.c.fact 107 (f := .meth "BadKinds" "__init__") rfl)
theorem na_BadKinds_row : NoAttr K (He.ga K "BadKinds") "row" := He.noat_ok (T.c.fact 108 (f := .noat "BadKinds" "row") rfl)
theorem m_BadFunctions_init : Meth K (He.ga K "BadFunctions") "__init__" (He.ma K (He.ga K "BadFunctions") "__init__") := He.meth_ok (T.c.fact 109 (f := .meth "BadFunctions" "__init__") rfl)
theorem na_BadFunctions_row : NoAttr K (He.ga K "BadFunctions") "row" := He.noat_ok (T.c.fact 110 (f := .noat "BadFunctions" "row") rfl)
theorem m_BadLayout_init : Meth K (He.ga K "BadLayout") "__init__" (He.ma K (He.ga K "BadLayout") "__init__") := He.meth_ok (T.c.fact 111 (f := .meth "BadLayout" "__init__") rfl)
theorem na_BadLayout_maker : NoAttr K (He.ga K "BadLayout") "maker" := He.noat_ok (T.c.fact 112 (f := .noat "BadLayout" "maker") rfl)
theorem m_BadRow_init : Meth K (He.ga K "BadRow") "__init__" (He.ma K (He.ga K "BadRow") "__init__") := He.meth_ok (T.c.fact 113 (f := .meth "BadRow" "__init__") rfl)
theorem na_BadRow_at : NoAttr K (He.ga K "BadRow") "at" := He.noat_ok (T.c.fact 114 (f := .noat "BadRow" "at") rfl)
theorem m_NotThere_init : Meth K (He.ga K "NotThere") "__init__" (He.ma K (He.ga K "NotThere") "__init__") := He.meth_ok (T.c.fact 115 (f := .meth "NotThere" "__init__") rfl)
theorem na_NotThere_name : NoAttr K (He.ga K "NotThere") "name" := He.noat_ok (T.c.fact 116 (f := .noat "NotThere" "name") rfl)
theorem m_Stuck_init : Meth K (He.ga K "Stuck") "__init__" (He.ma K (He.ga K "Stuck") "__init__") := He.meth_ok (T.c.fact 117 (f := .meth "Stuck" "__init__") rfl)
theorem na_Stuck_function : NoAttr K (He.ga K "Stuck") "function" := He.noat_ok (T.c.fact 118 (f := .noat "Stuck" "function") rfl)
theorem na_Stuck_maker : NoAttr K (He.ga K "Stuck") "maker" := He.noat_ok (T.c.fact 119 (f := .noat "Stuck" "maker") rfl)
theorem na_Stuck_part : NoAttr K (He.ga K "Stuck") "part" := He.noat_ok (T.c.fact 120 (f := .noat "Stuck" "part") rfl)
theorem m_WrongLayout_init : Meth K (He.ga K "WrongLayout") "__init__" (He.ma K (He.ga K "WrongLayout") "__init__") := He.meth_ok (T.c.fact 121 (f := .meth "WrongLayout" "__init__") rfl)
theorem na_WrongLayout_start : NoAttr K (He.ga K "WrongLayout") "start" := He.noat_ok (T.c.fact 122 (f := .noat "WrongLayout" "start") rfl)
theorem na_WrongLayout_tree : NoAttr K (He.ga K "WrongLayout") "tree" := He.noat_ok (T.c.fact 123 (f := .noat "WrongLayout" "tree") rfl)
theorem m_NoLayout_init : Meth K (He.ga K "NoLayout") "__init__" (He.ma K (He.ga K "NoLayout") "__init__") := He.meth_ok (T.c.fact 124 (f := .meth "NoLayout" "__init__") rfl)
theorem na_NoLayout_maker : NoAttr K (He.ga K "NoLayout") "maker" := He.noat_ok (T.c.fact 125 (f := .noat "NoLayout" "maker") rfl)
theorem na_NoLayout_cycle : NoAttr K (He.ga K "NoLayout") "cycle" := He.noat_ok (T.c.fact 126 (f := .noat "NoLayout" "cycle") rfl)
theorem e_BadKinds_GroveError : PySem.W.exmOne K (.ref (He.ga K "BadKinds")) (.ref (He.ga K "GroveError")) = some true := He.exm_ok (T.c.fact 127 (f := .exm "BadKinds" "GroveError" true) rfl)
theorem gi : GiT K (He.ga K "GroveError") := giB_ok ((He.ba ((He.ba (He.ba (He.ba (He.ba (He.ba (He.ba (He.ba (He.ba (He.ba (He.ba (He.ba T.e).1).1).1).1).1).1).1).1).1).1).1)).1)
theorem x_GroveError : ExT K (He.ga K "GroveError") := exB_ok ((He.ba ((He.ba (He.ba (He.ba (He.ba (He.ba (He.ba (He.ba (He.ba (He.ba (He.ba (He.ba T.e).1).1).1).1).1).1).1).1).1).1).1)).2)
theorem x_BadKinds : ExT K (He.ga K "BadKinds") := exB_ok ((He.ba ((He.ba (He.ba (He.ba (He.ba (He.ba (He.ba (He.ba (He.ba (He.ba (He.ba T.e).1).1).1).1).1).1).1).1).1).1)).2)
theorem x_BadFunctions : ExT K (He.ga K "BadFunctions") := exB_ok ((He.ba ((He.ba (He.ba (He.ba (He.ba (He.ba (He.ba (He.ba (He.ba (He.ba T.e).1).1).1).1).1).1).1).1).1)).2)
theorem x_BadTree : ExT K (He.ga K "BadTree") := exB_ok ((He.ba ((He.ba (He.ba (He.ba (He.ba (He.ba (He.ba (He.ba (He.ba T.e).1).1).1).1).1).1).1).1)).2)
theorem x_BadLayout : ExT K (He.ga K "BadLayout") := exB_ok ((He.ba ((He.ba (He.ba (He.ba (He.ba (He.ba (He.ba (He.ba T.e).1).1).1).1).1).1).1)).2)
theorem x_BadRow : ExT K (He.ga K "BadRow") := exB_ok ((He.ba ((He.ba (He.ba (He.ba (He.ba (He.ba (He.ba T.e).1).1).1).1).1).1)).2)
theorem x_NotThere : ExT K (He.ga K "NotThere") := exB_ok ((He.ba ((He.ba (He.ba (He.ba (He.ba (He.ba T.e).1).1).1).1).1)).2)
theorem x_Stuck : ExT K (He.ga K "Stuck") := exB_ok ((He.ba ((He.ba (He.ba (He.ba (He.ba T.e).1).1).1).1)).2)
theorem x_WrongLayout : ExT K (He.ga K "WrongLayout") := exB_ok ((He.ba ((He.ba (He.ba (He.ba T.e).1).1).1)).2)
theorem x_NoLayout : ExT K (He.ga K "NoLayout") := exB_ok ((He.ba ((He.ba (He.ba T.e).1).1)).2)
theorem kit_BadKinds_any : PySem.W.kitAny K (.ref (He.ga K "BadKinds")) [.ref (He.ga K "BadFunctions"), .ref (He.ga K "BadLayout"), .ref (He.ga K "BadRow"), .ref (He.ga K "BadTree"), .ref (He.ga K "NoLayout"), .ref (He.ga K "NotThere"), .ref (He.ga K "Stuck"), .ref (He.ga K "WrongLayout")] = some false := of_decide_eq_true ((He.ba ((He.ba T.e).1)).2)
theorem kit_BadKinds_ValueError : PySem.W.kitOne K (.ref (He.ga K "BadKinds")) (.type "ValueError") = some true := of_decide_eq_true ((He.ba T.e).2)
theorem F__wall : ∃ fd, FnP K ("_wall", none) "_wall" "_wall" s__wall fd := T.c.def_ 0 (d := d__wall) rfl
theorem F_BadKinds_init : ∃ fd, FnP K ("BadKinds", some "__init__") "__init__" "BadKinds.__init__" s_BadKinds_init fd := T.c.def_ 1 (d := d_BadKinds_init) rfl
theorem F_BadFunctions_init : ∃ fd, FnP K ("BadFunctions", some "__init__") "__init__" "BadFunctions.__init__" s_BadFunctions_init fd := T.c.def_ 2 (d := d_BadFunctions_init) rfl
theorem F_BadLayout_init : ∃ fd, FnP K ("BadLayout", some "__init__") "__init__" "BadLayout.__init__" s_BadLayout_init fd := T.c.def_ 3 (d := d_BadLayout_init) rfl
theorem F_BadRow_init : ∃ fd, FnP K ("BadRow", some "__init__") "__init__" "BadRow.__init__" s_BadRow_init fd := T.c.def_ 4 (d := d_BadRow_init) rfl
theorem F_NotThere_init : ∃ fd, FnP K ("NotThere", some "__init__") "__init__" "NotThere.__init__" s_NotThere_init fd := T.c.def_ 5 (d := d_NotThere_init) rfl
theorem F_Stuck_init : ∃ fd, FnP K ("Stuck", some "__init__") "__init__" "Stuck.__init__" s_Stuck_init fd := T.c.def_ 6 (d := d_Stuck_init) rfl
theorem F_WrongLayout_init : ∃ fd, FnP K ("WrongLayout", some "__init__") "__init__" "WrongLayout.__init__" s_WrongLayout_init fd := T.c.def_ 7 (d := d_WrongLayout_init) rfl
theorem F_NoLayout_init : ∃ fd, FnP K ("NoLayout", some "__init__") "__init__" "NoLayout.__init__" s_NoLayout_init fd := T.c.def_ 8 (d := d_NoLayout_init) rfl
theorem F_is_name : ∃ fd, FnP K ("is_name", none) "is_name" "is_name" s_is_name fd := T.c.def_ 9 (d := d_is_name) rfl
theorem F_is_kind_name : ∃ fd, FnP K ("is_kind_name", none) "is_kind_name" "is_kind_name" s_is_kind_name fd := T.c.def_ 10 (d := d_is_kind_name) rfl
theorem F_is_number : ∃ fd, FnP K ("is_number", none) "is_number" "is_number" s_is_number fd := T.c.def_ 11 (d := d_is_number) rfl
theorem F_is_part : ∃ fd, FnP K ("is_part", none) "is_part" "is_part" s_is_part fd := T.c.def_ 12 (d := d_is_part) rfl
theorem F_are_parts : ∃ fd, FnP K ("are_parts", none) "are_parts" "are_parts" s_are_parts fd := T.c.def_ 13 (d := d_are_parts) rfl
theorem F_check_each_row : ∃ fd, FnP K ("check_each_row", none) "check_each_row" "check_each_row" s_check_each_row fd := T.c.def_ 14 (d := d_check_each_row) rfl
theorem F_check_inner_kinds : ∃ fd, FnP K ("check_inner_kinds", none) "check_inner_kinds" "check_inner_kinds" s_check_inner_kinds fd := T.c.def_ 15 (d := d_check_inner_kinds) rfl
theorem F_check_finite : ∃ fd, FnP K ("check_finite", none) "check_finite" "check_finite" s_check_finite fd := T.c.def_ 16 (d := d_check_finite) rfl
theorem F_makers_by_kind : ∃ fd, FnP K ("makers_by_kind", none) "makers_by_kind" "makers_by_kind" s_makers_by_kind fd := T.c.def_ 17 (d := d_makers_by_kind) rfl
theorem F_holdings : ∃ fd, FnP K ("holdings", none) "holdings" "holdings" s_holdings fd := T.c.def_ 18 (d := d_holdings) rfl
theorem F_least_node : ∃ fd, FnP K ("least_node", none) "least_node" "least_node" s_least_node fd := T.c.def_ 19 (d := d_least_node) rfl
theorem F_least_trees : ∃ fd, FnP K ("least_trees", none) "least_trees" "least_trees" s_least_trees fd := T.c.def_ 20 (d := d_least_trees) rfl
theorem F_Kinds_init : ∃ fd, FnP K ("Kinds", some "__init__") "__init__" "Kinds.__init__" s_Kinds_init fd := T.c.def_ 21 (d := d_Kinds_init) rfl
theorem F_Kinds_contains : ∃ fd, FnP K ("Kinds", some "__contains__") "__contains__" "Kinds.__contains__" s_Kinds_contains fd := T.c.def_ 22 (d := d_Kinds_contains) rfl
theorem F_Kinds_makers : ∃ fd, FnP K ("Kinds", some "makers") "makers" "Kinds.makers" s_Kinds_makers fd := T.c.def_ 23 (d := d_Kinds_makers) rfl
theorem F_Kinds_kind_of : ∃ fd, FnP K ("Kinds", some "kind_of") "kind_of" "Kinds.kind_of" s_Kinds_kind_of fd := T.c.def_ 24 (d := d_Kinds_kind_of) rfl
theorem F_Kinds_tag : ∃ fd, FnP K ("Kinds", some "tag") "tag" "Kinds.tag" s_Kinds_tag fd := T.c.def_ 25 (d := d_Kinds_tag) rfl
theorem F_Kinds_parts : ∃ fd, FnP K ("Kinds", some "parts") "parts" "Kinds.parts" s_Kinds_parts fd := T.c.def_ 26 (d := d_Kinds_parts) rfl
theorem F_Kinds_inner : ∃ fd, FnP K ("Kinds", some "inner") "inner" "Kinds.inner" s_Kinds_inner fd := T.c.def_ 27 (d := d_Kinds_inner) rfl
theorem F_Kinds_price_of : ∃ fd, FnP K ("Kinds", some "price_of") "price_of" "Kinds.price_of" s_Kinds_price_of fd := T.c.def_ 28 (d := d_Kinds_price_of) rfl
theorem F_Kinds_holding : ∃ fd, FnP K ("Kinds", some "_holding") "_holding" "Kinds._holding" s_Kinds_holding fd := T.c.def_ 29 (d := d_Kinds_holding) rfl
theorem F_Kinds_fits : ∃ fd, FnP K ("Kinds", some "fits") "fits" "Kinds.fits" s_Kinds_fits fd := T.c.def_ 30 (d := d_Kinds_fits) rfl
theorem F_Kinds_tree_fits : ∃ fd, FnP K ("Kinds", some "_tree_fits") "_tree_fits" "Kinds._tree_fits" s_Kinds_tree_fits fd := T.c.def_ 31 (d := d_Kinds_tree_fits) rfl
theorem F_Kinds_value_fits : ∃ fd, FnP K ("Kinds", some "_value_fits") "_value_fits" "Kinds._value_fits" s_Kinds_value_fits fd := T.c.def_ 32 (d := d_Kinds_value_fits) rfl
theorem F_Kinds_node : ∃ fd, FnP K ("Kinds", some "node") "node" "Kinds.node" s_Kinds_node fd := T.c.def_ 33 (d := d_Kinds_node) rfl
theorem F_Kinds_least : ∃ fd, FnP K ("Kinds", some "least") "least" "Kinds.least" s_Kinds_least fd := T.c.def_ 34 (d := d_Kinds_least) rfl
theorem F__law_take : ∃ fd, FnP K ("_law_take", none) "_law_take" "_law_take" s__law_take fd := T.c.def_ 35 (d := d__law_take) rfl
theorem F__law_pool : ∃ fd, FnP K ("_law_pool", none) "_law_pool" "_law_pool" s__law_pool fd := T.c.def_ 36 (d := d__law_pool) rfl
theorem F__law_name : ∃ fd, FnP K ("_law_name", none) "_law_name" "_law_name" s__law_name fd := T.c.def_ 37 (d := d__law_name) rfl
theorem F__law_parts : ∃ fd, FnP K ("_law_parts", none) "_law_parts" "_law_parts" s__law_parts fd := T.c.def_ 38 (d := d__law_parts) rfl
theorem F__law_rows : ∃ fd, FnP K ("_law_rows", none) "_law_rows" "_law_rows" s__law_rows fd := T.c.def_ 39 (d := d__law_rows) rfl
theorem F__law_int : ∃ fd, FnP K ("_law_int", none) "_law_int" "_law_int" s__law_int fd := T.c.def_ 40 (d := d__law_int) rfl
theorem F__law_bad_row : ∃ fd, FnP K ("_law_bad_row", none) "_law_bad_row" "_law_bad_row" s__law_bad_row fd := T.c.def_ 41 (d := d__law_bad_row) rfl
theorem F__law_spoilt : ∃ fd, FnP K ("_law_spoilt", none) "_law_spoilt" "_law_spoilt" s__law_spoilt fd := T.c.def_ 42 (d := d__law_spoilt) rfl
theorem F__law_tables : ∃ fd, FnP K ("_law_tables", none) "_law_tables" "_law_tables" s__law_tables fd := T.c.def_ 43 (d := d__law_tables) rfl
theorem F_law : ∃ fd, FnP K ("law", none) "law" "law" s_law fd := T.c.def_ 44 (d := d_law) rfl
end Tx
theorem b__wall {K : PySem.W.Frag} {fd : FuncData} (F : FnP K ("_wall", none) "_wall" "_wall" s__wall fd) : Binds K fd ["k"] [] := F.bindsN fun _ _ _ _ _ _ us hl => match us, hl with | [_], _ => rfl
theorem b_BadKinds_init {K : PySem.W.Frag} {fd : FuncData} (F : FnP K ("BadKinds", some "__init__") "__init__" "BadKinds.__init__" s_BadKinds_init fd) : Binds K fd ["self", "row"] [] := F.bindsN fun _ _ _ _ _ _ us hl => match us, hl with | [_, _], _ => rfl
theorem b_BadFunctions_init {K : PySem.W.Frag} {fd : FuncData} (F : FnP K ("BadFunctions", some "__init__") "__init__" "BadFunctions.__init__" s_BadFunctions_init fd) : Binds K fd ["self", "row"] [] := F.bindsN fun _ _ _ _ _ _ us hl => match us, hl with | [_, _], _ => rfl
theorem b_BadLayout_init {K : PySem.W.Frag} {fd : FuncData} (F : FnP K ("BadLayout", some "__init__") "__init__" "BadLayout.__init__" s_BadLayout_init fd) : Binds K fd ["self", "maker"] [] := F.bindsN fun _ _ _ _ _ _ us hl => match us, hl with | [_, _], _ => rfl
theorem b_BadRow_init {K : PySem.W.Frag} {fd : FuncData} (F : FnP K ("BadRow", some "__init__") "__init__" "BadRow.__init__" s_BadRow_init fd) : Binds K fd ["self", "at"] [] := F.bindsN fun _ _ _ _ _ _ us hl => match us, hl with | [_, _], _ => rfl
theorem b_NotThere_init {K : PySem.W.Frag} {fd : FuncData} (F : FnP K ("NotThere", some "__init__") "__init__" "NotThere.__init__" s_NotThere_init fd) : Binds K fd ["self", "name"] [] := F.bindsN fun _ _ _ _ _ _ us hl => match us, hl with | [_, _], _ => rfl
theorem b_Stuck_init {K : PySem.W.Frag} {fd : FuncData} (F : FnP K ("Stuck", some "__init__") "__init__" "Stuck.__init__" s_Stuck_init fd) : Binds K fd ["self", "function", "maker", "part"] [] := F.bindsN fun _ _ _ _ _ _ us hl => match us, hl with | [_, _, _, _], _ => rfl
theorem b_WrongLayout_init {K : PySem.W.Frag} {fd : FuncData} (F : FnP K ("WrongLayout", some "__init__") "__init__" "WrongLayout.__init__" s_WrongLayout_init fd) : Binds K fd ["self", "start", "tree"] [] := F.bindsN fun _ _ _ _ _ _ us hl => match us, hl with | [_, _, _], _ => rfl
theorem b_NoLayout_init {K : PySem.W.Frag} {fd : FuncData} (F : FnP K ("NoLayout", some "__init__") "__init__" "NoLayout.__init__" s_NoLayout_init fd) : Binds K fd ["self", "maker", "cycle"] [] := F.bindsN fun _ _ _ _ _ _ us hl => match us, hl with | [_, _, _], _ => rfl
theorem b_is_name {K : PySem.W.Frag} {fd : FuncData} (F : FnP K ("is_name", none) "is_name" "is_name" s_is_name fd) : Binds K fd ["value"] [] := F.bindsN fun _ _ _ _ _ _ us hl => match us, hl with | [_], _ => rfl
theorem b_is_kind_name {K : PySem.W.Frag} {fd : FuncData} (F : FnP K ("is_kind_name", none) "is_kind_name" "is_kind_name" s_is_kind_name fd) : Binds K fd ["value"] [] := F.bindsN fun _ _ _ _ _ _ us hl => match us, hl with | [_], _ => rfl
theorem b_is_number {K : PySem.W.Frag} {fd : FuncData} (F : FnP K ("is_number", none) "is_number" "is_number" s_is_number fd) : Binds K fd ["value", "low", "high"] [] := F.bindsN fun _ _ _ _ _ _ us hl => match us, hl with | [_, _, _], _ => rfl
theorem b_is_part {K : PySem.W.Frag} {fd : FuncData} (F : FnP K ("is_part", none) "is_part" "is_part" s_is_part fd) : Binds K fd ["value"] [] := F.bindsN fun _ _ _ _ _ _ us hl => match us, hl with | [_], _ => rfl
theorem b_are_parts {K : PySem.W.Frag} {fd : FuncData} (F : FnP K ("are_parts", none) "are_parts" "are_parts" s_are_parts fd) : Binds K fd ["value"] [] := F.bindsN fun _ _ _ _ _ _ us hl => match us, hl with | [_], _ => rfl
theorem b_check_each_row {K : PySem.W.Frag} {fd : FuncData} (F : FnP K ("check_each_row", none) "check_each_row" "check_each_row" s_check_each_row fd) : Binds K fd ["rows"] [] := F.bindsN fun _ _ _ _ _ _ us hl => match us, hl with | [_], _ => rfl
theorem b_check_inner_kinds {K : PySem.W.Frag} {fd : FuncData} (F : FnP K ("check_inner_kinds", none) "check_inner_kinds" "check_inner_kinds" s_check_inner_kinds fd) : Binds K fd ["rows"] [] := F.bindsN fun _ _ _ _ _ _ us hl => match us, hl with | [_], _ => rfl
theorem b_check_finite {K : PySem.W.Frag} {fd : FuncData} (F : FnP K ("check_finite", none) "check_finite" "check_finite" s_check_finite fd) : Binds K fd ["rows", "least"] [] := F.bindsN fun _ _ _ _ _ _ us hl => match us, hl with | [_, _], _ => rfl
theorem b_makers_by_kind {K : PySem.W.Frag} {fd : FuncData} (F : FnP K ("makers_by_kind", none) "makers_by_kind" "makers_by_kind" s_makers_by_kind fd) : Binds K fd ["rows"] [] := F.bindsN fun _ _ _ _ _ _ us hl => match us, hl with | [_], _ => rfl
theorem b_holdings {K : PySem.W.Frag} {fd : FuncData} (F : FnP K ("holdings", none) "holdings" "holdings" s_holdings fd) : Binds K fd ["parts"] [] := F.bindsN fun _ _ _ _ _ _ us hl => match us, hl with | [_], _ => rfl
theorem b_least_node {K : PySem.W.Frag} {fd : FuncData} (F : FnP K ("least_node", none) "least_node" "least_node" s_least_node fd) : Binds K fd ["tag", "maker", "parts", "least"] [] := F.bindsN fun _ _ _ _ _ _ us hl => match us, hl with | [_, _, _, _], _ => rfl
theorem b_least_trees {K : PySem.W.Frag} {fd : FuncData} (F : FnP K ("least_trees", none) "least_trees" "least_trees" s_least_trees fd) : Binds K fd ["rows"] [] := F.bindsN fun _ _ _ _ _ _ us hl => match us, hl with | [_], _ => rfl
theorem b_Kinds_init {K : PySem.W.Frag} {fd : FuncData} (F : FnP K ("Kinds", some "__init__") "__init__" "Kinds.__init__" s_Kinds_init fd) : Binds K fd ["self", "rows"] [] := F.bindsN fun _ _ _ _ _ _ us hl => match us, hl with | [_, _], _ => rfl
theorem b_Kinds_contains {K : PySem.W.Frag} {fd : FuncData} (F : FnP K ("Kinds", some "__contains__") "__contains__" "Kinds.__contains__" s_Kinds_contains fd) : Binds K fd ["self", "x"] [] := F.bindsN fun _ _ _ _ _ _ us hl => match us, hl with | [_, _], _ => rfl
theorem b_Kinds_makers {K : PySem.W.Frag} {fd : FuncData} (F : FnP K ("Kinds", some "makers") "makers" "Kinds.makers" s_Kinds_makers fd) : Binds K fd ["self", "kind"] [] := F.bindsN fun _ _ _ _ _ _ us hl => match us, hl with | [_, _], _ => rfl
theorem b_Kinds_kind_of {K : PySem.W.Frag} {fd : FuncData} (F : FnP K ("Kinds", some "kind_of") "kind_of" "Kinds.kind_of" s_Kinds_kind_of fd) : Binds K fd ["self", "maker"] [] := F.bindsN fun _ _ _ _ _ _ us hl => match us, hl with | [_, _], _ => rfl
theorem b_Kinds_tag {K : PySem.W.Frag} {fd : FuncData} (F : FnP K ("Kinds", some "tag") "tag" "Kinds.tag" s_Kinds_tag fd) : Binds K fd ["self", "maker"] [] := F.bindsN fun _ _ _ _ _ _ us hl => match us, hl with | [_, _], _ => rfl
theorem b_Kinds_parts {K : PySem.W.Frag} {fd : FuncData} (F : FnP K ("Kinds", some "parts") "parts" "Kinds.parts" s_Kinds_parts fd) : Binds K fd ["self", "maker"] [] := F.bindsN fun _ _ _ _ _ _ us hl => match us, hl with | [_, _], _ => rfl
theorem b_Kinds_inner {K : PySem.W.Frag} {fd : FuncData} (F : FnP K ("Kinds", some "inner") "inner" "Kinds.inner" s_Kinds_inner fd) : Binds K fd ["self", "maker", "part"] [] := F.bindsN fun _ _ _ _ _ _ us hl => match us, hl with | [_, _, _], _ => rfl
theorem b_Kinds_price_of {K : PySem.W.Frag} {fd : FuncData} (F : FnP K ("Kinds", some "price_of") "price_of" "Kinds.price_of" s_Kinds_price_of fd) : Binds K fd ["self", "maker", "part"] [] := F.bindsN fun _ _ _ _ _ _ us hl => match us, hl with | [_, _, _], _ => rfl
theorem b_Kinds_holding {K : PySem.W.Frag} {fd : FuncData} (F : FnP K ("Kinds", some "_holding") "_holding" "Kinds._holding" s_Kinds_holding fd) : Binds K fd ["self", "maker", "part"] [] := F.bindsN fun _ _ _ _ _ _ us hl => match us, hl with | [_, _, _], _ => rfl
theorem b_Kinds_fits {K : PySem.W.Frag} {fd : FuncData} (F : FnP K ("Kinds", some "fits") "fits" "Kinds.fits" s_Kinds_fits fd) : Binds K fd ["self", "tree", "kind"] [] := F.bindsN fun _ _ _ _ _ _ us hl => match us, hl with | [_, _, _], _ => rfl
theorem b_Kinds_tree_fits {K : PySem.W.Frag} {fd : FuncData} (F : FnP K ("Kinds", some "_tree_fits") "_tree_fits" "Kinds._tree_fits" s_Kinds_tree_fits fd) : Binds K fd ["self", "tree", "kind", "levels"] [] := F.bindsN fun _ _ _ _ _ _ us hl => match us, hl with | [_, _, _, _], _ => rfl
theorem b_Kinds_value_fits {K : PySem.W.Frag} {fd : FuncData} (F : FnP K ("Kinds", some "_value_fits") "_value_fits" "Kinds._value_fits" s_Kinds_value_fits fd) : Binds K fd ["self", "value", "inner", "levels"] [] := F.bindsN fun _ _ _ _ _ _ us hl => match us, hl with | [_, _, _, _], _ => rfl
theorem b_Kinds_least {K : PySem.W.Frag} {fd : FuncData} (F : FnP K ("Kinds", some "least") "least" "Kinds.least" s_Kinds_least fd) : Binds K fd ["self", "kind"] [] := F.bindsN fun _ _ _ _ _ _ us hl => match us, hl with | [_, _], _ => rfl
theorem b__law_take {K : PySem.W.Frag} {fd : FuncData} (F : FnP K ("_law_take", none) "_law_take" "_law_take" s__law_take fd) : Binds K fd ["_law_pool_here", "_law_many"] [] := F.bindsN fun _ _ _ _ _ _ us hl => match us, hl with | [_, _], _ => rfl
theorem b__law_pool {K : PySem.W.Frag} {fd : FuncData} (F : FnP K ("_law_pool", none) "_law_pool" "_law_pool" s__law_pool fd) : Binds K fd ["_law_script"] [] := F.bindsN fun _ _ _ _ _ _ us hl => match us, hl with | [_], _ => rfl
theorem b__law_name {K : PySem.W.Frag} {fd : FuncData} (F : FnP K ("_law_name", none) "_law_name" "_law_name" s__law_name fd) : Binds K fd ["_law_seed", "_law_k", "_law_taken"] [] := F.bindsN fun _ _ _ _ _ _ us hl => match us, hl with | [_, _, _], _ => rfl
theorem b__law_parts {K : PySem.W.Frag} {fd : FuncData} (F : FnP K ("_law_parts", none) "_law_parts" "_law_parts" s__law_parts fd) : Binds K fd ["_law_pool_here", "_law_seed", "_law_names", "_law_base"] [] := F.bindsN fun _ _ _ _ _ _ us hl => match us, hl with | [_, _, _, _], _ => rfl
theorem b__law_rows {K : PySem.W.Frag} {fd : FuncData} (F : FnP K ("_law_rows", none) "_law_rows" "_law_rows" s__law_rows fd) : Binds K fd ["_law_pool_here"] [] := F.bindsN fun _ _ _ _ _ _ us hl => match us, hl with | [_], _ => rfl
theorem b__law_int {K : PySem.W.Frag} {fd : FuncData} (F : FnP K ("_law_int", none) "_law_int" "_law_int" s__law_int fd) : Binds K fd ["_law_value"] [] := F.bindsN fun _ _ _ _ _ _ us hl => match us, hl with | [_], _ => rfl
theorem b__law_bad_row {K : PySem.W.Frag} {fd : FuncData} (F : FnP K ("_law_bad_row", none) "_law_bad_row" "_law_bad_row" s__law_bad_row fd) : Binds K fd ["_law_rows_here"] [] := F.bindsN fun _ _ _ _ _ _ us hl => match us, hl with | [_], _ => rfl
theorem b__law_spoilt {K : PySem.W.Frag} {fd : FuncData} (F : FnP K ("_law_spoilt", none) "_law_spoilt" "_law_spoilt" s__law_spoilt fd) : Binds K fd ["_law_pool_here", "_law_rows_here", "_law_at", "_law_way"] [] := F.bindsN fun _ _ _ _ _ _ us hl => match us, hl with | [_, _, _, _], _ => rfl
theorem b__law_tables {K : PySem.W.Frag} {fd : FuncData} (F : FnP K ("_law_tables", none) "_law_tables" "_law_tables" s__law_tables fd) : Binds K fd ["_law_pool_here", "_law_rows_here"] [] := F.bindsN fun _ _ _ _ _ _ us hl => match us, hl with | [_, _], _ => rfl
theorem b_law {K : PySem.W.Frag} {fd : FuncData} (F : FnP K ("law", none) "law" "law" s_law fd) : Binds K fd ["_law_script"] [] := F.bindsN fun _ _ _ _ _ _ us hl => match us, hl with | [_], _ => rfl
def Good (P : Program) (w : World) (K : PySem.W.Frag) (mg : Str → Option Value) (base : Heap) (CX : CXT) (k : Nat) (f : Addr) (ps : List Str) (sp : Sp) : Prop := ∃ fd, FnOk P w K mg base CX k f fd ps sp ∧ Binds K fd ps []
end Bg
set_option Elab.async false
set_option linter.all false
set_option maxRecDepth 100000
set_option maxHeartbeats 4000000
namespace Bg
open PySem PySem.Spec PyProof.Rows L2

/-! ### heaps -/
/-- what never changes: a tuple, also one whose object is told -/
def Fixed : HO → Prop
  | .tup _ => True
  | .frz _ (.tup _) => True
  | _ => False
/-- every tuple stays -/
def Tups (H H' : Hp) : Prop := ∀ b u, Fixed u → H b = some u → H' b = some u
theorem Tups.refl (H : Hp) : Tups H H := fun _ _ _ h => h
theorem Tups.trans {H H1 H2 : Hp} (a : Tups H H1) (b : Tups H1 H2) : Tups H H2 := fun c o f h => b c o f (a c o f h)
theorem tups_of {H H' : Hp} (s : Same H H') : Tups H H' := fun b u _ h => s b _ h
/-- an object that is no tuple is written -/
theorem tups_upd {H : Hp} {p : Addr} {o : HO} (h : ∀ u, Fixed u → H p ≠ some u) : Tups H (upd H p o) := fun b u f e => by
  rw [upd_ne (show b ≠ p from fun z => h u f (by rw [← z]; exact e))]; exact e
theorem tups_new {H : Hp} {p : Addr} {o : HO} (h : H p = none) : Tups H (upd H p o) := tups_upd fun u _ z => by rw [h] at z; cases z
theorem same_new {H : Hp} {p : Addr} {o : HO} (h : H p = none) : Same H (upd H p o) := fun b u e => by
  rw [upd_ne (ne_of_none e h)]; exact e
/-- all but the object at a -/
def But (a : Addr) (H H' : Hp) : Prop := ∀ b o, b ≠ a → H b = some o → H' b = some o
theorem But.refl (a : Addr) (H : Hp) : But a H H := fun _ _ _ h => h
theorem But.trans {a : Addr} {H H1 H2 : Hp} (x : But a H H1) (y : But a H1 H2) : But a H H2 := fun c o n h => y c o n (x c o n h)
theorem but_of {a : Addr} {H H' : Hp} (s : Same H H') : But a H H' := fun b o _ h => s b o h
theorem but_upd {a : Addr} {H : Hp} {o : HO} : But a H (upd H a o) := fun b u n e => by rw [upd_ne n]; exact e
/-- written at a place that the first heap did not have -/
theorem same_mut {H H' : Hp} {p : Addr} {o : HO} (s : Same H H') (h : H p = none) : Same H (upd H' p o) := fun b u e => by
  rw [upd_ne (ne_of_none e h)]; exact s b u e
theorem but_mut {a : Addr} {H H' : Hp} {p : Addr} {o : HO} (s : But a H H') (h : H p = none) : But a H (upd H' p o) := fun b u n e => by
  rw [upd_ne (ne_of_none e h)]; exact s b u n e
theorem but_tups {a : Addr} {H H' : Hp} (s : But a H H') (h : ∀ u, Fixed u → H a ≠ some u) : Tups H H' := fun b u f e => s b _ (fun z => h u f (by rw [← z]; exact e)) e

/-! ### lists item by item -/
def All2 {α β : Type} (R : α → β → Prop) (vs : List α) (xs : List β) : Prop := vs.length = xs.length ∧ ∀ (i : Nat) v x, vs[i]? = some v → xs[i]? = some x → R v x
section
variable {α β : Type} {R R' : α → β → Prop} {vs : List α} {xs : List β}
theorem All2.mono (h : All2 R vs xs) (f : ∀ v x, R v x → R' v x) : All2 R' vs xs := ⟨h.1, fun i v x a b => f v x (h.2 i v x a b)⟩
theorem All2.nil : All2 R [] [] := ⟨rfl, fun i v x a _ => by simp at a⟩
theorem All2.get (h : All2 R vs xs) {i : Nat} {v : α} (e : vs[i]? = some v) : ∃ x, xs[i]? = some x ∧ R v x := by
  have l := (List.getElem?_eq_some_iff.mp e).1
  have l2 : i < xs.length := h.1 ▸ l
  exact ⟨xs[i], List.getElem?_eq_getElem l2, h.2 i v _ e (List.getElem?_eq_getElem l2)⟩
theorem All2.get' (h : All2 R vs xs) {i : Nat} {x : β} (e : xs[i]? = some x) : ∃ v, vs[i]? = some v ∧ R v x := by
  have l := (List.getElem?_eq_some_iff.mp e).1
  have l2 : i < vs.length := h.1.symm ▸ l
  exact ⟨vs[i], List.getElem?_eq_getElem l2, h.2 i _ x (List.getElem?_eq_getElem l2) e⟩
theorem All2.snoc (h : All2 R vs xs) {v : α} {x : β} (r : R v x) : All2 R (vs ++ [v]) (xs ++ [x]) := by
  refine ⟨by simp [h.1], fun i u y a b => ?_⟩
  by_cases hi : i < vs.length
  · rw [List.getElem?_append_left hi] at a
    rw [List.getElem?_append_left (h.1 ▸ hi)] at b
    exact h.2 i u y a b
  · rw [List.getElem?_append_right (by omega)] at a
    rw [List.getElem?_append_right (by rw [← h.1]; omega), ← h.1] at b
    cases e : i - vs.length with
    | zero =>
      rw [e] at a b
      simp at a b
      subst a; subst b
      exact r
    | succ n => rw [e] at a; simp at a
end

/-! ### rows of a kinds table -/
abbrev Part := Str × Str × Option Int
abbrev Row := Str × Str × List Part
def partVs : Part → List V
  | (n, k, none) => [.str n, .str k]
  | (n, k, some c) => [.str n, .str k, .int c]
def PartAt (H : Hp) (v : V) (p : Part) : Prop := ∃ a, v = .ref a ∧ H a = some (.tup (partVs p))
def PartsAt (H : Hp) (v : V) (ps : List Part) : Prop := ∃ a vs, v = .ref a ∧ H a = some (.tup vs) ∧ All2 (PartAt H) vs ps
def RowAt (H : Hp) (v : V) (r : Row) : Prop := ∃ a u, v = .ref a ∧ H a = some (.tup [.str r.1, .str r.2.1, u]) ∧ PartsAt H u r.2.2
def RowsAt (H : Hp) (a : Addr) (rs : List Row) : Prop := ∃ vs, H a = some (.lst vs) ∧ All2 (RowAt H) vs rs
section
variable {H H' : Hp}
theorem PartAt.mono (t : Tups H H') {v : V} {p : Part} (h : PartAt H v p) : PartAt H' v p := by
  obtain ⟨a, e, x⟩ := h; exact ⟨a, e, t _ _ trivial x⟩
theorem PartsAt.mono (t : Tups H H') {v : V} {p : List Part} (h : PartsAt H v p) : PartsAt H' v p := by
  obtain ⟨a, vs, e, x, y⟩ := h; exact ⟨a, vs, e, t _ _ trivial x, y.mono fun _ _ z => z.mono t⟩
theorem RowAt.mono (t : Tups H H') {v : V} {r : Row} (h : RowAt H v r) : RowAt H' v r := by
  obtain ⟨a, u, e, x, y⟩ := h; exact ⟨a, u, e, t _ _ trivial x, y.mono t⟩
theorem RowsAt.mono (s : Same H H') {a : Addr} {rs : List Row} (h : RowsAt H a rs) : RowsAt H' a rs := by
  obtain ⟨vs, x, y⟩ := h; exact ⟨vs, s _ _ x, y.mono fun _ _ z => z.mono (tups_of s)⟩
theorem RowsAt.but {b : Addr} (s : But b H H') (hb : ∀ u, Fixed u → H b ≠ some u) {a : Addr} (n : a ≠ b) {rs : List Row} (h : RowsAt H a rs) : RowsAt H' a rs := by
  obtain ⟨vs, x, y⟩ := h; exact ⟨vs, s _ _ n x, y.mono fun _ _ z => z.mono (but_tups s hb)⟩
end

/-! ### what the program says of names, parts -/
def nameB (x : Str) : Bool := decide (1 ≤ x.length) && (decide (x.length ≤ 24) && (Txt.isascii x && (Txt.isalnum x && Txt.isalpha ⟨#[x.cps.toList.headD 0]⟩)))
def kindB (x : Str) : Bool := nameB x && !decide (x = ("byte" : Str))
def partB : Part → Bool
  | (n, k, none) => nameB n && decide (k = ("byte" : Str))
  | (n, k, some c) => nameB n && (kindB k && (decide (1 ≤ c) && decide (c ≤ 1000)))
/-- put behind, if it is new -/
def addNew {α : Type} [DecidableEq α] (l : List α) (k : α) : List α := if k ∈ l then l else l ++ [k]
def distinct {α : Type} [DecidableEq α] (l : List α) : List α := l.foldl addNew []
def partsB (ps : List Part) : Bool := decide (ps.length ≤ 4) && (ps.all partB && decide ((distinct (ps.map (·.1))).length = ps.length))
end Bg
set_option Elab.async false
set_option linter.all false
set_option maxRecDepth 100000
set_option maxHeartbeats 4000000
namespace Bg
open PySem PySem.Spec PyProof.Rows L2
section
variable {P : Program} {w : World} {K : PySem.W.Frag} {mg : Str → Option Value} {base : Heap} {fd : FuncData}
theorem sz_of {n : Nat} (h : n ≤ 100000) : n ≤ sizeLine := Nat.le_trans h (by decide)
theorem sz_lt {n : Nat} (h : n ≤ 100000) : n < sizeLine := Nat.lt_of_le_of_lt h (by decide)
theorem len_pos_str {x : Str} (h : 1 ≤ x.length) : x.cps.toList[0]? = some (x.cps.toList.headD 0) := by
  unfold Str.length at h
  rw [← Array.length_toList] at h
  cases e : x.cps.toList with
  | nil => rw [e] at h; simp at h
  | cons a r => rfl
def spIsName : Sp := fun vs H Q _ => ∃ x : Str, vs = [.str x] ∧ x.length ≤ 100000 ∧ Q (.bl (nameB x)) H
theorem ok_is_name (T : Tx K mg) (F : FnP K ("is_name", none) "is_name" "is_name" s_is_name fd) : FnOk P w K mg base CX0 1 (He.fAd K ("is_name", none)) fd ["value"] spIsName := by
  refine F.ok sc_is_name (fun vs H Q E h => ?_) (fun cdv A outer s H vs Q E hr h => ?_)
  · obtain ⟨x, rfl, _⟩ := h; rfl
  obtain ⟨x, rfl, hx, q⟩ := h
  obtain ⟨t24, m24⟩ := T.c_MOST_LETTERS
  refine ⟨_, PSs.nox (pss_cons (ps_if (PW.pt (pw_or
        (pt_not (pt_val (pe_callB call_isi (by rfl) T.n_isinstance (by decide +kernel) (pa_cons (pv 0) (pa_cons (pe_bltn (v := .ty "str") (by rfl) T.n_str (by decide +kernel) rfl) pa_nil)))))
        (pw_or1 (pt_not (pt_chain op_le op_le pe_int (pe_callB call_len_str (by rfl) T.n_len PySem.boot_len (pa_cons (pv 0) pa_nil)) (pe_glob (v := .int 24) (by rfl) m24 ⟨_, rfl⟩))))))
      (pss_one (ps_ret pe_bl)) pss_nil)
    (pss_one (ps_ret (pe_and (pe_m0 PySem.F.slot_str_isascii PySem.F.type_str_isascii mt_isascii (pv 0)) (pe_and (pe_m0 PySem.F.slot_str_isalnum PySem.F.type_str_isalnum mt_isalnum (pv 0))
      (pe_one (pe_m0 PySem.F.slot_str_isalpha PySem.F.type_str_isalpha mt_isalpha (pe_ix ix_str (pv 0) pe_int (fun _ _ => rfl))))))))), ?_⟩
  have hs : x.length ≤ sizeLine := sz_of hx
  refine ⟨_, rfl, .str x, .ty "str", .type "str", .type "str", true, rfl, ClsV.ty _, TyX.base (TyOf.str x), kit_ty (by decide +kernel), true, rfl, iteF ?_⟩
  refine ⟨_, rfl, x, rfl, hs, _, _, rfl, rfl, _, rfl, ite2 (fun h1 => ?_) (fun h1 => ?_)⟩
  · refine ⟨_, _, rfl, rfl, _, rfl, ?_⟩
    have e1 : (1 : Int) ≤ (x.length : Int) := of_decide_eq_true h1
    refine ite2 (fun h2 => ?_) (fun h2 => ?_)
    · have e2 : ¬ (x.length : Int) ≤ 24 := fun z => by simp [z] at h2
      have : nameB x = false := by unfold nameB; simp; intro _ z; omega
      rw [this] at q; exact q
    · have e2 : (x.length : Int) ≤ 24 := Decidable.byContradiction fun z => h2 (by simp [z])
      have b1 : decide (1 ≤ x.length) = true := decide_eq_true (by omega)
      have b2 : decide (x.length ≤ 24) = true := decide_eq_true (by omega)
      have hq : nameB x = (Txt.isascii x && (Txt.isalnum x && Txt.isalpha ⟨#[x.cps.toList.headD 0]⟩)) := by unfold nameB; rw [b1, b2]; rfl
      rw [hq] at q
      refine ⟨_, rfl, ⟨x, rfl⟩, x, rfl, rfl, trivial, _, rfl, ite2 (fun h3 => ?_) (fun h3 => ?_)⟩
      · rw [h3] at q
        refine ⟨_, rfl, ⟨x, rfl⟩, x, rfl, rfl, trivial, _, rfl, ite2 (fun h4 => ?_) (fun h4 => ?_)⟩
        · rw [h4] at q
          exact ⟨_, rfl, x, 0, x.cps.toList.headD 0, rfl, rfl, hs, atI_nat (len_pos_str (by omega)), ⟨_, rfl⟩, _, rfl, rfl, trivial, q⟩
        · rw [Bool.eq_false_iff.mpr h4] at q; exact q
      · rw [Bool.eq_false_iff.mpr h3] at q; exact q
  · have e1 : ¬ (1 : Int) ≤ (x.length : Int) := fun z => h1 (decide_eq_true z)
    refine ⟨_, rfl, iteT ?_⟩
    have : nameB x = false := by unfold nameB; simp; intro z; omega
    rw [this] at q; exact q
end
end Bg
set_option Elab.async false
set_option linter.all false
set_option maxRecDepth 100000
set_option maxHeartbeats 4000000
namespace Bg
open PySem PySem.Spec PyProof.Rows L2
section
variable {P : Program} {w : World} {K : PySem.W.Frag} {mg : Str → Option Value} {base : Heap} {fd : FuncData}
def spIsKind : Sp := fun vs H Q _ => ∃ x : Str, vs = [.str x] ∧ x.length ≤ 100000 ∧ Q (.bl (kindB x)) H
theorem ok_is_kind_name (T : Tx K mg) (F : FnP K ("is_kind_name", none) "is_kind_name" "is_kind_name" s_is_kind_name fd) : FnOk P w K mg base CX0 2 (He.fAd K ("is_kind_name", none)) fd ["value"] spIsKind := by
  obtain ⟨f1, F1⟩ := T.F_is_name
  obtain ⟨tB, mB⟩ := T.c_BYTE
  refine F.ok sc_is_kind_name (fun vs H Q E h => ?_) (fun cdv A outer s H vs Q E hr h => ?_)
  · obtain ⟨x, rfl, _⟩ := h; rfl
  obtain ⟨x, rfl, hx, q⟩ := h
  refine ⟨_, PSs.nox (pss_one (ps_ret (pe_and (pe_call (ok_is_name T F1) hr (by rfl) T.g_is_name T.k_is_name (b_is_name F1) .nil pass0 (pa_cons (pv 0) pa_nil))
    (pe_one (pe_cmpR op_ne (pv 0) (pe_glob (v := .str "byte") (by rfl) mB ⟨_, rfl⟩) (nomark _)))))), ?_⟩
  refine ⟨_, rfl, x, rfl, hx, _, rfl, ite2 (fun h1 => ?_) (fun h1 => ?_)⟩
  · unfold kindB at q
    rw [h1] at q
    refine ⟨_, rfl, rfl, ?_⟩
    have e : decide (V.str x = V.str ("byte" : Str)) = decide (x = ("byte" : Str)) := by simp
    show Q (V.bl (!decide (V.str x = V.str ("byte" : Str)))) H
    rw [e]; exact q
  · unfold kindB at q
    rw [Bool.eq_false_iff.mpr h1] at q; exact q
def spIsNumber : Sp := fun vs H Q _ => ∃ v lo hi : Int, vs = [.int v, .int lo, .int hi] ∧ Q (.bl (decide (lo ≤ v) && decide (v ≤ hi))) H
theorem ok_is_number (T : Tx K mg) (F : FnP K ("is_number", none) "is_number" "is_number" s_is_number fd) : FnOk P w K mg base CX0 1 (He.fAd K ("is_number", none)) fd ["value", "low", "high"] spIsNumber := by
  refine F.ok sc_is_number (fun vs H Q E h => ?_) (fun cdv A outer s H vs Q E hr h => ?_)
  · obtain ⟨x, lo, hi, rfl, _⟩ := h; rfl
  obtain ⟨v, lo, hi, rfl, q⟩ := h
  refine ⟨_, PSs.nox (pss_one (ps_ret (pe_and (pe_callB call_isi (by rfl) T.n_isinstance (by decide +kernel) (pa_cons (pv 0) (pa_cons (pe_bltn (v := .ty "int") (by rfl) T.n_int (by decide +kernel) rfl) pa_nil)))
    (pe_and (pe_not (pe_callB call_isi (by rfl) T.n_isinstance (by decide +kernel) (pa_cons (pv 0) (pa_cons (pe_bltn (v := .ty "bool") (by rfl) T.n_bool (by decide +kernel) rfl) pa_nil))))
      (pe_one (pe_chain op_le op_le (pv 1) (pv 0) (pv 2))))))), ?_⟩
  refine ⟨_, rfl, .int v, .ty "int", .type "int", .type "int", true, rfl, ClsV.ty _, TyX.base (TyOf.int v), kit_ty (by decide +kernel), _, rfl, iteT ?_⟩
  refine ⟨_, rfl, .int v, .ty "bool", .type "int", .type "bool", false, rfl, ClsV.ty _, TyX.base (TyOf.int v), kit_ty (by decide +kernel), _, rfl, _, rfl, iteT ?_⟩
  refine ⟨_, rfl, _, rfl, _, _, rfl, rfl, _, rfl, ite2 (fun h1 => ?_) (fun h1 => ?_)⟩
  · rw [h1] at q
    exact ⟨_, rfl, _, _, rfl, rfl, q⟩
  · rw [Bool.eq_false_iff.mpr h1] at q; exact q
theorem partB_n (n k : Str) : partB (n, k, none) = (nameB n && decide (k = ("byte" : Str))) := rfl
theorem partB_s (n k : Str) (c : Int) : partB (n, k, some c) = (nameB n && (kindB k && (decide (1 ≤ c) && decide (c ≤ 1000)))) := rfl
/-- the strings of a part, a row are not too long for the machine -/
def PartShort (p : Part) : Prop := p.1.length ≤ 100000 ∧ p.2.1.length ≤ 100000
def spIsPart : Sp := fun vs H Q _ => ∃ (v : V) (p : Part), vs = [v] ∧ PartAt H v p ∧ PartShort p ∧ ∀ H', Same H H' → Q (.bl (partB p)) H'
theorem ok_is_part (T : Tx K mg) (F : FnP K ("is_part", none) "is_part" "is_part" s_is_part fd) : FnOk P w K mg base CX0 3 (He.fAd K ("is_part", none)) fd ["value"] spIsPart := by
  obtain ⟨f1, F1⟩ := T.F_is_name
  obtain ⟨f2, F2⟩ := T.F_is_kind_name
  obtain ⟨f3, F3⟩ := T.F_is_number
  obtain ⟨tB, mB⟩ := T.c_BYTE
  obtain ⟨tP, mP⟩ := T.c_MOST_PRICE
  refine F.ok sc_is_part (fun vs H Q E h => ?_) (fun cdv A outer s H vs Q E hr h => ?_)
  · obtain ⟨x, p, rfl, _⟩ := h; rfl
  obtain ⟨v, ⟨n, kd, c⟩, rfl, ⟨a, rfl, ha⟩, ⟨s1, s2⟩, q⟩ := h
  refine ⟨_, PSs.nox (pss_cons (ps_if (PW.pt (pw_or (pt_not (pt_val (pe_callB call_isi (by rfl) T.n_isinstance (by decide +kernel) (pa_cons (pv 0) (pa_cons (pe_bltn (v := .ty "tuple") (by rfl) T.n_tuple (by decide +kernel) rfl) pa_nil)))))
        (pw_or (pt_cmpR op_notIn_seq (pe_callB call_len_seq (by rfl) T.n_len PySem.boot_len (pa_cons (pv 0) pa_nil)) (pe_tup (pa_cons pe_int (pa_cons pe_int pa_nil))) (by rfl))
          (pw_or1 (pt_not (pt_val (pe_call (ok_is_name T F1) (hr.mono (by decide)) (by rfl) T.g_is_name T.k_is_name (b_is_name F1) .nil pass0 (pa_cons (pe_ix ix_tup (pv 0) pe_int (fun _ _ => rfl)) pa_nil))))))))
      (pss_one (ps_ret pe_bl)) pss_nil)
    (pss_cons (ps_if (pt_cmpR op_eq (pe_callB call_len_seq (by rfl) T.n_len PySem.boot_len (pa_cons (pv 0) pa_nil)) pe_int (nomark _))
      (pss_one (ps_ret (pe_cmpR op_eq (pe_ix ix_tup (pv 0) pe_int (fun _ _ => rfl)) (pe_glob (v := .str "byte") (by rfl) mB ⟨_, rfl⟩) (nomark _)))) pss_nil)
    (pss_one (ps_ret (pe_and (pe_call (ok_is_kind_name T F2) hr (by rfl) T.g_is_kind_name T.k_is_kind_name (b_is_kind_name F2) .nil pass0 (pa_cons (pe_ix ix_tup (pv 0) pe_int (fun _ _ => rfl)) pa_nil))
      (pe_one (pe_call (ok_is_number T F3) (hr.mono (by decide)) (by rfl) T.g_is_number T.k_is_number (b_is_number F3) .nil pass0 (pa_cons (pe_ix ix_tup (pv 0) pe_int (fun _ _ => rfl)) (pa_cons pe_int (pa_cons (pe_glob (v := .int 1000) (by rfl) mP ⟨_, rfl⟩) pa_nil)))))))))), ?_⟩
  refine ⟨_, rfl, .ref a, .ty "tuple", .type "tuple", .type "tuple", true, rfl, ClsV.ty _, TyX.base (TyOf.tup ha), kit_ty (by decide +kernel), _, rfl, iteF ?_⟩
  cases c with
  | none =>
    refine ⟨_, rfl, a, _, rfl, .inr (SqT.of ha), by show 2 ≤ sizeLine; decide, fun p np => ?_⟩
    have sm : Same H (upd H p (.tup [.int 2, .int 3])) := same_new np
    have ha' := sm _ _ ha
    refine ⟨p, _, rfl, .inr (SqT.of upd_same), rfl, rfl, _, rfl, iteF ?_⟩
    refine ⟨_, rfl, a, _, _, .str n, rfl, rfl, SqT.of ha', rfl, n, rfl, s1, _, rfl, ite2 (fun h1 => ?_) (fun h1 => ?_)⟩
    · have := q _ sm
      rw [partB_n] at this
      have e : nameB n = false := by simpa using h1
      rw [e] at this; exact this
    · have e : nameB n = true := by simpa using h1
      refine ⟨_, rfl, a, _, rfl, .inr (SqT.of ha'), rfl, _, rfl, iteT ?_⟩
      refine ⟨_, rfl, a, _, _, .str kd, rfl, rfl, SqT.of ha', rfl, rfl, ?_⟩
      have := q _ sm
      rw [partB_n] at this
      rw [e] at this
      have e : decide (V.str kd = V.str ("byte" : Str)) = decide (kd = ("byte" : Str)) := by simp
      show Q (V.bl (decide (V.str kd = V.str ("byte" : Str)))) _
      rw [e]; exact this
  | some c =>
    refine ⟨_, rfl, a, _, rfl, .inr (SqT.of ha), by show 2 ≤ sizeLine; decide, fun p np => ?_⟩
    have sm : Same H (upd H p (.tup [.int 2, .int 3])) := same_new np
    have ha' := sm _ _ ha
    refine ⟨p, _, rfl, .inr (SqT.of upd_same), rfl, rfl, _, rfl, iteF ?_⟩
    refine ⟨_, rfl, a, _, _, .str n, rfl, rfl, SqT.of ha', rfl, n, rfl, s1, _, rfl, ite2 (fun h1 => ?_) (fun h1 => ?_)⟩
    · have := q _ sm
      rw [partB_s] at this
      have e : nameB n = false := by simpa using h1
      rw [e] at this; exact this
    · have e : nameB n = true := by simpa using h1
      have qq := q _ sm
      rw [partB_s] at qq
      rw [e] at qq
      refine ⟨_, rfl, a, _, rfl, .inr (SqT.of ha'), rfl, _, rfl, iteF ?_⟩
      refine ⟨_, rfl, a, _, _, .str kd, rfl, rfl, SqT.of ha', rfl, kd, rfl, s2, _, rfl, ite2 (fun h2 => ?_) (fun h2 => ?_)⟩
      · rw [h2] at qq
        exact ⟨_, rfl, a, _, _, .int c, rfl, rfl, SqT.of ha', rfl, c, 1, 1000, rfl, qq⟩
      · rw [Bool.eq_false_iff.mpr h2] at qq; exact qq
end
end Bg
set_option Elab.async false
set_option linter.all false
set_option maxRecDepth 100000
set_option maxHeartbeats 4000000
namespace Bg
open PySem PySem.Spec PyProof.Rows L2 PpSet
/-! the set comprehension whose members are keys (texts, ints): the road of the list's, told anew for sets of keys -/
def tScK (P : Program) (w : World) (wi : TI) (g : TG) (te : TE) (vs : List Nat) : TE := fun σ H Q => wi σ H fun J H1 => ∀ D, H1 D = none →
  ∃ W : Nat → Nat → Hp → Prop, (∃ m, W 0 m (upd H1 D (SetK P w D (fun _ => false) 0))) ∧ ∀ i m H, W i m H → (J.stop i H ∧ Q (.ref D) H) ∨
    (J.go i H ∧ ∃ N : Hp → Prop, (∀ H', N H' → ∃ m', m' < m ∧ W (i + 1) m' H') ∧ ∀ x H', J.yld i H x H' → g x (wipe σ vs) H' fun σ2 H2 => wipe σ2 vs = wipe σ vs ∧
      te σ2 H2 fun y H4 => ∃ (k : Key) (S : Key → Bool) (n : Nat), y = kV k ∧ H4 D = some (SetK P w D S n) ∧ n + 1 < scanBound ∧ N (upd H4 D (SetK P w D (fun j => S j || decide (j = k)) (if S k = true then n else n + 1))))
section
variable {X : Cx}
theorem fresh_setK (P : Program) (w : World) (h : Heap) : (h.push { cls := .type "set", dict := none, data := .set #[] 0 (.fresh 0 0 (!w.params.followText "set-order")) }).SetOf (mixKind P w) h.objs.size (fun _ => false) 0 := by
  refine ⟨_, #[], 0, _, Heap.get?_push_size _ rfl, ⟨rfl, rfl, rfl⟩, rfl, ?_, ?_, by decide, by rfl, rfl⟩
  · intro e he
    simp at he
  · intro k
    simp
abbrev keyed (X : Cx) (D : Addr) : HO := SetK X.prog X.w D (fun _ => false) 0
theorem pe_scK {elt tg iter : Expr} {scope : Scope} {own : List (PySem.Str × Nat)} {pos : Pos} {wi : TI} {g : TG} {te : TE} (calm : X.calm = true) (nodup : X.N.Nodup) (walk : PI X tg iter wi) (blk : BlkOk X.N X.env.scope scope own)
    (targ : ∀ (s₀ : Shared) (H₀ : Hp) (C₀ : Addr) (cs : List (PySem.Str × Addr)) (its : List Addr), PG (X.blk s₀ H₀ scope (compEnvC scope cs C₀ X.env) its) tg g)
    (memb : ∀ (s₀ : Shared) (H₀ : Hp) (C₀ : Addr) (cs : List (PySem.Str × Addr)) (its : List Addr), PE (X.blk s₀ H₀ scope (compEnvC scope cs C₀ X.env) its) elt te)
    (fold : ∀ x, foldedSetIterable iter X.env x = pure x := by intro _; rfl) : PE X (.SetComp elt [⟨tg, iter, [], 0⟩] scope pos) (tScK X.prog X.w wi g te (own.map (·.2))) := by
  constructor
  intro pins s σ H Q I want
  rw [eval_SetComp]
  have captured : ∀ y ∈ scope.names, y.2 = .free → ∃ c, X.env.cells.lookup y.1 = some c := by
    intro y hy e
    exact (blk.free y hy e).elim (fun k => I.ok.has _ (.inl k)) (fun k => I.ok.has _ (.inr k))
  refine wpAny_comprehension_free (use := none) rfl fold (closure_ok captured) blk.kind (fun y hy e => by rw [blk.uniq y hy, e]) ?_
  refine thn (walk.run pins s σ H _ I want) fun _ _ begun => thn begun fun _ t2 got => ?_
  obtain ⟨it, its, stands, J, H2, rfl, I2, turns, here, apart, rest⟩ := got
  refine newSet_ok (newEnv_comp ?_)
  obtain ⟨D, hD⟩ : ∃ D, t2.heap.objs.size = D := ⟨_, rfl⟩
  rw [hD]
  have free : H2 D = none := I2.hok.fresh (Nat.le_of_eq hD)
  obtain ⟨W, ⟨m0, w0⟩, each⟩ := rest D free
  generalize ht3 : ({ t2 with heap := t2.heap.push { cls := .type "set", dict := none, data := .set #[] 0 (.fresh 0 0 (!X.w.params.followText "set-order")) } } : Shared) = t3
  have heap3 : t3.heap = t2.heap.push { cls := .type "set", dict := none, data := .set #[] 0 (.fresh 0 0 (!X.w.params.followText "set-order")) } := by rw [← ht3]
  have I3 : Inv X pins σ (upd H2 D (keyed X D)) t3 := by
    have z := fresh_setK X.prog X.w t2.heap
    rw [hD] at z
    rw [← ht3]
    exact I2.laid (t' := t2.toks) (fun b o e => Heap.get?_push_of_some _ e) (Nat.le_of_eq hD) (setK_new z)
  have below : ∀ b ∈ its, b < t2.heap.objs.size := by
    intro b hb
    obtain ⟨o, e, _⟩ := turns.obj _ _ here b hb
    exact Heap.lt_size e
  have apart3 : ∀ b ∈ its, FpOk X pins (upd H2 D (keyed X D)) b ∧ b < t3.heap.objs.size := by
    intro b hb
    have ne : b ≠ D := by rw [← hD]; exact Nat.ne_of_lt (below b hb)
    refine ⟨⟨by rw [upd_ne ne]; exact (apart b hb).1, (apart b hb).2⟩, ?_⟩
    rw [heap3, Heap.size_push]
    exact Nat.lt_succ_of_lt (below b hb)
  have here3 : stands 0 t3.heap := turns.keep _ _ _ here fun b _ o e => by rw [heap3]; exact Heap.get?_push_of_some _ e
  have I4 := block_start I3 blk nodup apart3
  obtain ⟨H3, hH3⟩ : ∃ H3, upd H2 D (keyed X D) = H3 := ⟨_, rfl⟩
  rw [hH3] at I3 I4 apart3 w0
  have g1 := targ t3 H3 t3.heap.objs.size (cellsFrom (t3.heap.objs.size + 1) scope.names (cloFrom X.env.cells scope.names [])) its
  have e1 := memb t3 H3 t3.heap.objs.size (cellsFrom (t3.heap.objs.size + 1) scope.names (cloFrom X.env.cells scope.names [])) its
  show codeAny (model X.prog X.w) X.A (.compStart (.SetComp elt [⟨tg, iter, [], 0⟩] scope pos) 0 (.ref it) (.ref D) (compEnvC scope (cellsFrom (t3.heap.objs.size + 1) scope.names (cloFrom X.env.cells scope.names [])) t3.heap.objs.size X.env))
    (compPost (model X.prog X.w) X.A X.xe none (EP X pins σ Q) (.ref D) t3.heap.objs.size) { t3 with heap := pushCells (t3.heap.push { cls := .type "dict", data := .dict #[] }) scope.names }
  generalize hce : compEnvC scope (cellsFrom (t3.heap.objs.size + 1) scope.names (cloFrom X.env.cells scope.names [])) t3.heap.objs.size X.env = ce at I4 g1 e1 ⊢
  generalize ht4 : ({ t3 with heap := pushCells (t3.heap.push { cls := .type "dict", data := .dict #[] }) scope.names } : Shared) = t4 at I4 ⊢
  have here4 : stands 0 t4.heap := turns.keep _ _ _ here3 fun b _ o e => by rw [← ht4]; exact pushCells_keeps _ _ _ _ (Heap.get?_push_of_some _ e)
  have local3 : ce.locals = t3.heap.objs.size := by rw [← hce] <;> rfl
  have ok5 : ∀ {σ' : L2.St} {H' : Hp} {s' : Shared}, Inv (X.blk t3 H3 scope ce its) [] σ' H' s' → (∀ b ∈ its, H' b = none) → ∀ b ∈ its, FpOk (X.blk t3 H3 scope ce its) [] H' b := by
    intro σ' H' s' I' none' b hb
    refine ⟨none' b hb, (I'.ok.exf b hb).1, I'.ok.exfs b hb, .inl hb, (fun x c e => (I'.ok.exf b hb).2 x c e), fun p hp => ?_⟩
    simp at hp
  refine codeAny_compStart_set ?_ ?_
  all_goals
    have go : codeAny (model X.prog X.w) X.A (.compLoop (.SetComp elt [⟨tg, iter, [], 0⟩] scope pos) 0 (.ref it) (.ref D) ce) (compPost (model X.prog X.w) X.A X.xe none (EP X pins σ Q) (.ref D) t3.heap.objs.size) t4 := by
      refine compLoopS_any (fun n s' => ∃ i H', Inv (X.blk t3 H3 scope ce its) [] (wipe σ (own.map (·.2))) H' s' ∧ stands i s'.heap ∧ (∀ b ∈ its, H' b = none) ∧ W i n H') ?_ m0 ⟨0, H3, I4, here4, fun b hb => (apart3 b hb).1.1, w0⟩
      rintro n t5 ⟨i, H5, I5, at5, no5, w5⟩
      rcases each i n H5 w5 with ⟨stop, done⟩ | ⟨more, N, hN, step⟩
      · refine thnF (turns.done (X.blk t3 H3 scope ce its) rfl rfl rfl calm i [] t5 _ H5 (fun _ _ => False) I5 (ok5 I5 no5) at5 stop) fun r t6 z => ?_
        obtain ⟨rfl, I6⟩ := z
        have I7 : Inv X pins σ H5 t6 := I3.call' (ch := its) I6.os I6.base I6.hok I6.bare fun b hb => by
          obtain ⟨q0, q1, q2, q3, q4, q5⟩ := (apart3 b hb).1
          exact ⟨q3, q1, q4, q5⟩
        have noC : H5 t3.heap.objs.size = none := local3 ▸ (show H5 ce.locals = none from I6.free)
        obtain ⟨m, hm, _⟩ := I6.loc
        have hm : t6.heap.Ns t3.heap.objs.size m := local3 ▸ (show t6.heap.Ns ce.locals m from hm)
        obtain ⟨q0, q1, q2, q3, q4, q5⟩ := I3.fpOk (Nat.le_refl _) noC
        exact ⟨m, hm, fun h' sb => ⟨.ref D, H5, I7.turned (t' := t6.toks) (fun b o hb e => (sb.2 b hb).trans e) q0 q1 q3 q4 q5, rfl, done⟩⟩
      · refine thnF (turns.item (X.blk t3 H3 scope ce its) rfl rfl rfl calm i [] t5 _ H5 (fun _ _ => False) I5 (ok5 I5 no5) at5 more) fun r t6 z => ?_
        obtain ⟨u, rfl, z⟩ := z
        refine thnF z fun _ t7 z => ?_
        obtain ⟨x, H7, I7, r7, y7, at7, no7⟩ := z
        refine thnF (g1.run _ t7 _ H7 x u _ (I7.pinned (ok5 I7 no7) (turns.obj _ _ at7)) r7 (step x H7 y7)) fun _ t8 z => ?_
        obtain ⟨σ8, H8, I8, same8, q8⟩ := z
        refine thnF ((pts_nil (X := X.blk t3 H3 scope ce its)).run _ t8 σ8 H8 (fun b H' => b = true ∧ te σ8 H' _) I8 ⟨rfl, q8⟩) fun b t9 z => ?_
        obtain ⟨H9, I9, rfl, q9⟩ := z
        simp only [if_true]
        refine thnF (e1.run _ t9 σ8 H9 _ I9 q9) fun v t10 z => ?_
        obtain ⟨y, H10, I10, rv, k, S, n0, rfl, hk, room, next⟩ := z
        refine thnF (mt_saddK (X := X.blk t3 H3 scope ce its) _ t10 σ8 H10 (.ref D) [kV k] (.ref D) [v] (fun _ H' => N H') I10 rfl (.cons rv .nil) ⟨D, k, S, n0, rfl, rfl, hk, room, next⟩) fun _ t11 z => ?_
        obtain ⟨_, H11, I11, _, nx⟩ := z
        obtain ⟨m', lt, w'⟩ := hN H11 nx
        have len8 : (wipe σ (own.map (·.2))).length = σ8.length := by rw [← same8, wipe_length]
        have stay : ∀ b ∈ its, ∀ o, t7.heap.get? b = some o → t11.heap.get? b = some o ∧ H11 b = none := by
          intro b hb o e
          have q := I11.pin (b, o) (List.mem_append_right _ (List.mem_append_right _ (mem_pinsAt hb e)))
          exact ⟨q.1, q.2.1⟩
        refine ⟨m', lt, i + 1, H11, (I11.unpinned (pins := [])).weak len8 ?_, turns.keep _ _ _ at7 (fun b hb o e => (stay b hb o e).1), ?_, w'⟩
        · intro j v e
          rw [← same8] at e
          exact (wipe_some e).1
        · intro b hb
          obtain ⟨o, e, _⟩ := turns.obj _ _ at7 b hb
          exact (stay b hb o e).2
  · exact go
  · exact turns.self X.A 0 _ _ _ here4 go
end
end Bg
set_option Elab.async false
set_option linter.all false
set_option maxRecDepth 100000
set_option maxHeartbeats 4000000
namespace Bg
open PySem PySem.Spec PyProof.Rows L2
/-! ### distinct -/
section
variable {α : Type} [DecidableEq α]
theorem distinct_snoc (l : List α) (k : α) : distinct (l ++ [k]) = addNew (distinct l) k := by
  unfold distinct; rw [List.foldl_append]; rfl
theorem mem_addNew {l : List α} {k j : α} : j ∈ addNew l k ↔ j ∈ l ∨ j = k := by
  unfold addNew
  split
  · rename_i h
    exact ⟨.inl, fun z => z.elim id fun e => e ▸ h⟩
  · simp
theorem mem_foldNew : ∀ (l acc : List α) (j : α), j ∈ l.foldl addNew acc ↔ j ∈ acc ∨ j ∈ l
  | [], acc, j => by simp
  | a :: r, acc, j => by
    rw [List.foldl_cons, mem_foldNew r, mem_addNew, List.mem_cons]
    exact or_assoc
theorem mem_distinct {l : List α} {j : α} : j ∈ distinct l ↔ j ∈ l := by
  unfold distinct; rw [mem_foldNew]; simp
theorem nodup_addNew {l : List α} {k : α} (h : l.Nodup) : (addNew l k).Nodup := by
  unfold addNew
  split
  · exact h
  · rename_i hk
    rw [List.nodup_append]
    exact ⟨h, by simp, fun a ha b hb e => hk (by simp at hb; rw [← hb, ← e]; exact ha)⟩
theorem nodup_foldNew : ∀ (l acc : List α), acc.Nodup → (l.foldl addNew acc).Nodup
  | [], acc, h => h
  | a :: r, acc, h => nodup_foldNew r _ (nodup_addNew h)
theorem nodup_distinct (l : List α) : (distinct l).Nodup := nodup_foldNew l [] List.nodup_nil
theorem foldNew_of_nodup : ∀ (l acc : List α), (acc ++ l).Nodup → l.foldl addNew acc = acc ++ l
  | [], acc, _ => by simp
  | a :: r, acc, h => by
    have ha : a ∉ acc := fun z => (List.nodup_append.mp h).2.2 a z a (List.mem_cons_self ..) rfl
    have e : addNew acc a = acc ++ [a] := by unfold addNew; rw [if_neg ha]
    rw [List.foldl_cons, e, foldNew_of_nodup r]
    · simp
    · simpa using h
theorem distinct_of_nodup {l : List α} (h : l.Nodup) : distinct l = l := by
  unfold distinct; rw [foldNew_of_nodup l [] (by simpa using h)]; simp
theorem length_addNew (l : List α) (k : α) : (addNew l k).length = if k ∈ l then l.length else l.length + 1 := by
  unfold addNew; split <;> simp
theorem length_foldNew : ∀ (l acc : List α), (l.foldl addNew acc).length ≤ acc.length + l.length
  | [], acc => by simp
  | a :: r, acc => by
    have h1 := length_foldNew r (addNew acc a)
    have h2 : (addNew acc a).length ≤ acc.length + 1 := by rw [length_addNew]; split <;> omega
    rw [List.foldl_cons, List.length_cons]; omega
theorem length_distinct (l : List α) : (distinct l).length ≤ l.length := by
  have := length_foldNew l []; simpa [distinct] using this
end
section
variable {P : Program} {w : World} {K : PySem.W.Frag} {mg : Str → Option Value} {base : Heap} {fd : FuncData}
theorem call_lenK {X : Cx} : CallR X (.builtin "len") (fun xs H Q => ∃ a S n, xs = [V.ref a] ∧ H a = some (SetK X.prog X.w a S n) ∧ Q (.int (n : Nat)) H) := by
  intro pins s σ H xs us Q I r h
  obtain ⟨a, S, n, rfl, ha, q⟩ := h
  obtain ⟨u, rfl, ru⟩ := vals1 r
  cases ru
  obtain ⟨o, es, ep, t, ho, hex, hd, _, _, hb, hf, hn⟩ := setK_get I ha
  exact call_len_set ho hex hd hf (by have : scanBound ≤ 2 ^ 62 := by decide
                                      omega) ⟨.int n, H, I.tok _, ⟨_, by rw [hn]⟩, q⟩
/-- a set comprehension over a tuple -/
theorem scK_tup {a : Addr} {xs : List V} {g : TG} {te : TE} {vs : List Nat} {σ : L2.St} {H1 : Hp} {D : Addr} {Qd : Hp → Prop} (Pv : Nat → Hp → Prop) (start : Pv 0 (upd H1 D (SetK P w D (fun _ => false) 0))) (stays : ∀ i H, i ≤ xs.length → Pv i H → SqT K H a xs)
    (turn : ∀ i x H, xs[i]? = some x → Pv i H → g x (wipe σ vs) H fun σ2 H2 => wipe σ2 vs = wipe σ vs ∧
      te σ2 H2 fun y H4 => ∃ (k : Key) (S : Key → Bool) (n : Nat), y = kV k ∧ H4 D = some (SetK P w D S n) ∧ n + 1 < scanBound ∧ Pv (i + 1) (upd H4 D (SetK P w D (fun j => S j || decide (j = k)) (if S k = true then n else n + 1)))) (fin : ∀ H, Pv xs.length H → Qd H) :
    ∃ W : Nat → Nat → Hp → Prop, (∃ m, W 0 m (upd H1 D (SetK P w D (fun _ => false) 0))) ∧ ∀ i m H, W i m H → ((Itt K a).stop i H ∧ Qd H) ∨
    ((Itt K a).go i H ∧ ∃ N : Hp → Prop, (∀ H', N H' → ∃ m', m' < m ∧ W (i + 1) m' H') ∧ ∀ x H', (Itt K a).yld i H x H' → g x (wipe σ vs) H' fun σ2 H2 => wipe σ2 vs = wipe σ vs ∧
      te σ2 H2 fun y H4 => ∃ (k : Key) (S : Key → Bool) (n : Nat), y = kV k ∧ H4 D = some (SetK P w D S n) ∧ n + 1 < scanBound ∧ N (upd H4 D (SetK P w D (fun j => S j || decide (j = k)) (if S k = true then n else n + 1)))) := by
  refine ⟨fun i m H => m + i = xs.length ∧ Pv i H, ⟨xs.length, rfl, start⟩, fun i m H h => ?_⟩
  obtain ⟨e, p⟩ := h
  have q := stays i H (by omega) p
  rcases Nat.lt_or_ge i xs.length with lt | ge
  · refine .inr ⟨⟨xs, xs[i], q, List.getElem?_eq_getElem lt⟩, Pv (i + 1), fun H' p' => ⟨m - 1, by omega, by omega, p'⟩, fun x H' y => ?_⟩
    obtain ⟨rfl, y⟩ := y
    exact turn i x _ (y xs q) p
  · have : i = xs.length := by omega
    subst this
    exact .inl ⟨⟨xs, q, Nat.le_refl _⟩, fin H p⟩
theorem partAt_ix {H : Hp} {v : V} {p : Part} (h : PartAt H v p) : ∃ a xs, v = .ref a ∧ H a = some (.tup xs) ∧ xs[0]? = some (.str p.1) ∧ xs[1]? = some (.str p.2.1) := by
  obtain ⟨a, e, x⟩ := h
  obtain ⟨n, k, c⟩ := p
  cases c with
  | none => exact ⟨a, _, e, x, rfl, rfl⟩
  | some c => exact ⟨a, _, e, x, rfl, rfl⟩
def PartsShort (ps : List Part) : Prop := ps.length ≤ 1000 ∧ ∀ p ∈ ps, PartShort p
theorem take_succ_of {α : Type} {l : List α} {i : Nat} {x : α} (h : l[i]? = some x) : l.take (i + 1) = l.take i ++ [x] := by
  rw [List.take_add_one, h]; rfl
def spAreParts : Sp := fun vs H Q _ => ∃ (v : V) (ps : List Part), vs = [v] ∧ PartsAt H v ps ∧ PartsShort ps ∧ ∀ H', Same H H' → Q (.bl (partsB ps)) H'
theorem ok_are_parts (T : Tx K mg) (F : FnP K ("are_parts", none) "are_parts" "are_parts" s_are_parts fd) : FnOk P w K mg base CX0 4 (He.fAd K ("are_parts", none)) fd ["value"] spAreParts := by
  obtain ⟨f1, F1⟩ := T.F_is_part
  obtain ⟨t4, m4⟩ := T.c_MOST_PARTS
  refine F.ok sc_are_parts (fun vs H Q E h => ?_) (fun cdv A outer s H vs Q E hr h => ?_)
  · obtain ⟨x, p, rfl, _⟩ := h; rfl
  obtain ⟨v, ps, rfl, ⟨a, us, rfl, ha, al⟩, ⟨sh1, sh2⟩, q⟩ := h
  refine ⟨_, PSs.nox (pss_cons (ps_if (PW.pt (pw_or (pt_not (pt_val (pe_callB call_isi (by rfl) T.n_isinstance (by decide +kernel) (pa_cons (pv 0) (pa_cons (pe_bltn (v := .ty "tuple") (by rfl) T.n_tuple (by decide +kernel) rfl) pa_nil)))))
        (pw_or1 (pt_cmpR op_gt (pe_callB call_len_seq (by rfl) T.n_len PySem.boot_len (pa_cons (pv 0) pa_nil)) (pe_glob (v := .int 4) (by rfl) m4 ⟨_, rfl⟩) (nomark _)))))
      (pss_one (ps_ret pe_bl)) pss_nil)
    (pss_cons (ps_for PassesOwn.never rfl (pi_tup (pv 0)) (pg_name (i := 1) sc_are_parts.nd rfl (Or.inl rfl))
      (pss_one (ps_if (pt_not (pt_val (pe_call (ok_is_part T F1) hr (by rfl) T.g_is_part T.k_is_part (b_is_part F1) .nil pass0 (pa_cons (pv 1) pa_nil)))) (pss_one (ps_ret pe_bl)) pss_nil)))
    (pss_one (ps_ret (pe_cmpR op_eq (pe_callB call_lenK (by rfl) T.n_len PySem.boot_len (pa_cons (pe_scK (own := [("part", 1)]) rfl sc_are_parts.nd (pi_tup (pv 0)) (blkOk_by (N := ["value", "part"]) (sc := defScope s_are_parts) (by decide +kernel))
        (fun _ _ _ _ _ => pg_name (i := 1) sc_are_parts.nd rfl (Or.inl rfl)) (fun _ _ _ _ _ => pe_ix (r := rIxT K) ix_tup (pv 1) pe_int (fun _ _ => rfl))) pa_nil))
      (pe_callB call_len_seq (by rfl) T.n_len PySem.boot_len (pa_cons (pv 0) pa_nil)) (nomark _)))))), ?_⟩
  refine ⟨_, rfl, .ref a, .ty "tuple", .type "tuple", .type "tuple", true, rfl, ClsV.ty _, TyX.base (TyOf.tup ha), kit_ty (by decide +kernel), _, rfl, iteF ?_⟩
  refine ⟨_, rfl, a, _, rfl, .inr (SqT.of ha), _, _, rfl, rfl, _, rfl, ite2 (fun h1 => ?_) (fun h1 => ?_)⟩
  · have l4 : ¬ ps.length ≤ 4 := by
      have e1 : (4 : Int) < (us.length : Int) := of_decide_eq_true h1
      rw [al.1] at e1; omega
    have := q H (Same.refl H)
    unfold partsB at this
    rw [decide_eq_false l4] at this; exact this
  have l4 : ps.length ≤ 4 := by
    have e1 : ¬ (4 : Int) < (us.length : Int) := fun z => h1 (decide_eq_true z)
    rw [al.1] at e1; omega
  -- for part in value
  refine ⟨_, rfl, a, rfl, ⟨_, SqT.of ha⟩, for_tup (K := K) (a := a) (xs := us) (fun i σ H2 => (∃ v1, σ = [some (.ref a), v1]) ∧ Same H H2 ∧ (ps.take i).all partB = true) ⟨⟨none, rfl⟩, Same.refl H, rfl⟩ (fun i σ H2 _ z => SqT.of (z.2.1 _ _ ha)) ?_ ?_⟩
  · rintro i x σ H2 hx ⟨⟨v1, rfl⟩, sm, hall⟩
    obtain ⟨p, hp, pa⟩ := al.get hx
    refine ⟨_, rfl, x, p, rfl, pa.mono (tups_of sm), sh2 p (List.mem_of_getElem? hp), fun H3 sm3 => ⟨_, rfl, ite2 (fun h2 => ?_) (fun h2 => ?_)⟩⟩
    · have e : partB p = false := by simpa using h2
      have hn : ps.all partB = false := Bool.eq_false_iff.mpr fun z => by
        have := List.all_eq_true.mp z p (List.mem_of_getElem? hp); rw [e] at this; cases this
      have := q H3 (sm.trans sm3)
      unfold partsB at this
      rw [decide_eq_true l4, hn] at this; exact this
    · have e : partB p = true := by simpa using h2
      refine ⟨⟨some x, rfl⟩, sm.trans sm3, ?_⟩
      rw [take_succ_of hp, List.all_append, hall, List.all_cons, e] <;> rfl
  · rintro σ H2 ⟨⟨v1, rfl⟩, sm, hall⟩
    rw [al.1, List.take_length] at hall
    -- the set of the names
    refine ⟨_, rfl, a, rfl, ⟨_, SqT.of (sm _ _ ha)⟩, fun D hD => ?_⟩
    refine scK_tup (K := K) (a := a) (xs := us) (fun i H3 => Same H2 H3 ∧ ∃ S, H3 D = some (SetK P w D S (distinct ((ps.take i).map (·.1))).length) ∧ ∀ j, S (Sum.inr j) = true ↔ j ∈ (ps.take i).map (·.1)) ?_ ?_ ?_ ?_
    · exact ⟨same_new hD, fun _ => false, upd_same, by simp⟩
    · rintro i H3 _ ⟨s3, _⟩
      exact SqT.of (s3 _ _ (sm _ _ ha))
    · rintro i x H3 hx ⟨s3, S, hS, hmem⟩
      obtain ⟨p, hp, pa⟩ := al.get hx
      obtain ⟨b, xs, rfl, hb, x0, x1⟩ := partAt_ix pa
      refine ⟨rfl, _, rfl, b, _, 0, _, rfl, rfl, SqT.of (s3 _ _ (sm _ _ hb)), atI_nat x0, Sum.inr p.1, S, _, rfl, hS, ?_, ?_, ?_⟩
      · have h3 := length_distinct ((ps.take i).map (·.1))
        rw [List.length_map, List.length_take] at h3
        have : 2000 < scanBound := by decide
        omega
      · exact same_mut s3 hD
      · refine ⟨fun j => S j || decide (j = Sum.inr p.1), ?_, fun j => ?_⟩
        · have en : (distinct ((ps.take (i + 1)).map (·.1))).length = if S (Sum.inr p.1) = true then (distinct ((ps.take i).map (·.1))).length else (distinct ((ps.take i).map (·.1))).length + 1 := by
            have em : (S (Sum.inr p.1) = true) = (p.1 ∈ distinct ((ps.take i).map (·.1))) := propext ((hmem _).trans mem_distinct.symm)
            rw [take_succ_of hp, List.map_append, List.map_cons, List.map_nil, distinct_snoc, length_addNew]
            simp only [em]
          rw [en, upd_same] <;> rfl
        · rw [take_succ_of hp, List.map_append]
          simp only [Bool.or_eq_true, hmem, decide_eq_true_eq, Sum.inr.injEq, List.mem_append, List.map_cons, List.map_nil, List.mem_singleton]
    · rintro H3 ⟨s3, S, hS, hmem⟩
      rw [al.1, List.take_length] at hS
      refine ⟨D, S, _, rfl, hS, _, rfl, a, _, rfl, .inr (SqT.of (s3 _ _ (sm _ _ ha))), rfl, ?_⟩
      have := q H3 (sm.trans s3)
      unfold partsB at this
      rw [decide_eq_true l4, hall] at this
      have e : decide (V.int ((distinct (ps.map (·.1))).length : Nat) = V.int (us.length : Nat)) = decide ((distinct (ps.map (·.1))).length = ps.length) := by
        rw [al.1]; simp <;> omega
      show Q (V.bl (decide (V.int ((distinct (ps.map (·.1))).length : Nat) = V.int (us.length : Nat)))) H3
      rw [e]; exact this
end
end Bg
set_option Elab.async false
set_option linter.all false
set_option maxRecDepth 100000
set_option maxHeartbeats 4000000
namespace Bg
open PySem PySem.Spec PyProof.Rows L2
/-! ### dicts whose keys are texts -/
def KD (kvs : List (Key × V)) (ks : List Str) (R : Str → V → Prop) : Prop := kvs.map (·.1) = ks.map Sum.inr ∧ ∀ k v, valV kvs (Sum.inr k) = some v → R k v
theorem mem_of_valV {kvs : List (Key × V)} {k : Key} {v : V} (h : valV kvs k = some v) : (k, v) ∈ kvs := by
  unfold valV at h
  cases e : kvs.find? (fun kv => decide (kv.1 = k)) with
  | none => rw [e] at h; cases h
  | some p =>
    rw [e] at h
    have h1 := List.find?_some e
    have h2 := List.mem_of_find?_eq_some e
    simp at h h1
    rw [← h, ← h1]
    exact h2
theorem valV_some_iff {kvs : List (Key × V)} {k : Key} : (∃ v, valV kvs k = some v) ↔ k ∈ kvs.map (·.1) := by
  constructor
  · rintro ⟨v, h⟩; exact List.mem_map.mpr ⟨_, mem_of_valV h, rfl⟩
  · intro h
    cases e : valV kvs k with
    | some v => exact ⟨v, rfl⟩
    | none => exact absurd h (valV_not e)
section
variable {kvs : List (Key × V)} {ks : List Str} {R R' : Str → V → Prop} {k : Str} {v : V}
theorem KD.nil : KD [] [] R := ⟨rfl, fun k v h => by cases h⟩
theorem KD.mono (h : KD kvs ks R) (f : ∀ k v, R k v → R' k v) : KD kvs ks R' := ⟨h.1, fun k v e => f k v (h.2 k v e)⟩
theorem KD.has (h : KD kvs ks R) : (∃ v, valV kvs (Sum.inr k) = some v) ↔ k ∈ ks := by
  rw [valV_some_iff, h.1]; simp
theorem KD.some (h : KD kvs ks R) (hk : k ∈ ks) : ∃ v, valV kvs (Sum.inr k) = some v ∧ R k v := by
  obtain ⟨v, e⟩ := h.has.mpr hk; exact ⟨v, e, h.2 k v e⟩
theorem KD.none (h : KD kvs ks R) (hk : k ∉ ks) : valV kvs (Sum.inr k) = none := by
  cases e : valV kvs (Sum.inr k) with
  | none => rfl
  | some v => exact absurd (h.has.mp ⟨v, e⟩) hk
theorem KD.isSome (h : KD kvs ks R) : (valV kvs (Sum.inr k)).isSome = decide (k ∈ ks) := by
  by_cases hk : k ∈ ks
  · obtain ⟨v, e, _⟩ := h.some hk; rw [e, decide_eq_true hk]; rfl
  · rw [h.none hk, decide_eq_false hk]; rfl
theorem KD.length (h : KD kvs ks R) : kvs.length = ks.length := by
  have := congrArg List.length h.1; simpa using this
theorem KD.put (h : KD kvs ks R) (f : ∀ j u, j ≠ k → R j u → R' j u) (hv : R' k v) : KD (putK kvs (Sum.inr k) v) (addNew ks k) R' := by
  constructor
  · by_cases hk : k ∈ ks
    · obtain ⟨u, e, _⟩ := h.some hk
      unfold putK addNew
      rw [if_pos hk, if_pos (by
        have := mem_of_valV e
        exact List.any_eq_true.mpr ⟨_, this, by simp⟩), List.map_map, ← h.1]
      refine List.map_congr_left fun p _ => ?_
      show (if p.1 = Sum.inr k then (p.1, v) else p).1 = p.1
      split <;> rfl
    · rw [putK_new _ (h.none hk)]
      unfold addNew
      rw [if_neg hk, List.map_append, List.map_append, h.1]
      rfl
  · intro j u e
    by_cases hj : j = k
    · subst hj
      have : valV (putK kvs (Sum.inr j) v) (Sum.inr j) = Option.some v := by rw [valV_put, if_pos rfl]
      rw [this] at e; cases e; exact hv
    · have : valV (putK kvs (Sum.inr k) v) (Sum.inr j) = valV kvs (Sum.inr j) := by rw [valV_put, if_neg (fun z => hj (Sum.inr.inj z))]
      rw [this] at e
      exact f j u hj (h.2 j u e)
theorem KD.at (h : KD kvs ks R) {i : Nat} {p : Key × V} (e : kvs[i]? = Option.some p) : ∃ j, ks[i]? = Option.some j ∧ p.1 = Sum.inr j := by
  have h1 : (kvs.map (·.1))[i]? = Option.some p.1 := by rw [List.getElem?_map, e]; rfl
  rw [h.1, List.getElem?_map] at h1
  cases q : ks[i]? with
  | none => rw [q] at h1; cases h1
  | some j => rw [q] at h1; exact ⟨j, rfl, (Option.some.inj h1).symm⟩
end
/-- a dict comprehension over a walk -/
theorem dc_it {J : It} {n : Nat} {G : Hp → Prop} {Y : Nat → Hp → V → Hp → Prop} (wk : Walk J n G Y) {g : TG} {tt : TT} {tk tv : TE} {vs : List Nat} {σ : L2.St} {H1 : Hp} {D : Addr} {Qd : Hp → Prop} (Pv : Nat → Hp → Prop) (start : Pv 0 (upd H1 D (.dK [])))
    (stays : ∀ i H, i ≤ n → Pv i H → G H)
    (turn : ∀ i x H H', i < n → Pv i H → Y i H x H' → g x (wipe σ vs) H' fun σ2 H2 => wipe σ2 vs = wipe σ vs ∧ tt σ2 H2 fun b H3 =>
      if b = true then tk σ2 H3 fun y H4 => tv σ2 H4 fun z H5 => ∃ kvs k, y = kV k ∧ H5 D = some (.dK kvs) ∧ kvs.length < sizeLine ∧ Pv (i + 1) (upd H5 D (.dK (putK kvs k z))) else Pv (i + 1) H3) (fin : ∀ H, Pv n H → Qd H) :
    ∃ W : Nat → Nat → Hp → Prop, (∃ m, W 0 m (upd H1 D (.dK []))) ∧ ∀ i m H, W i m H → (J.stop i H ∧ Qd H) ∨ (J.go i H ∧ ∃ N : Hp → Prop, (∀ H', N H' → ∃ m', m' < m ∧ W (i + 1) m' H') ∧ ∀ x H', J.yld i H x H' → g x (wipe σ vs) H' fun σ2 H2 =>
      wipe σ2 vs = wipe σ vs ∧ tt σ2 H2 fun b H3 => if b = true then tk σ2 H3 fun y H4 => tv σ2 H4 fun z H5 => ∃ kvs k, y = kV k ∧ H5 D = some (.dK kvs) ∧ kvs.length < sizeLine ∧ N (upd H5 D (.dK (putK kvs k z))) else N H3) := by
  refine ⟨fun i m H => m + i = n ∧ Pv i H, ⟨n, rfl, start⟩, fun i m H h => ?_⟩
  obtain ⟨e, p⟩ := h
  have q := stays i H (by omega) p
  rcases Nat.lt_or_ge i n with lt | ge
  · exact .inr ⟨wk.goes i H lt q, Pv (i + 1), fun H' p' => ⟨m - 1, by omega, by omega, p'⟩, fun x H' y => turn i x H H' lt p (wk.yields i H x H' lt q y)⟩
  · have : i = n := by omega
    subst this
    exact .inl ⟨wk.stops H q, fin H p⟩
end Bg
set_option Elab.async false
set_option linter.all false
set_option maxRecDepth 100000
set_option maxHeartbeats 4000000
namespace Bg
open PySem PySem.Spec PyProof.Rows L2
def rkinds (rs : List Row) : List Str := rs.map fun r => r.1
def rmakers (rs : List Row) : List Str := rs.map fun r => r.2.1
def RowShort (r : Row) : Prop := r.1.length ≤ 100000 ∧ r.2.1.length ≤ 100000 ∧ PartsShort r.2.2
def RowsShort (rs : List Row) : Prop := rs.length ≤ 1000 ∧ ∀ r ∈ rs, RowShort r
structure EachOk (rs : List Row) : Prop where
  good : ∀ r ∈ rs, kindB r.1 = true ∧ nameB r.2.1 = true ∧ partsB r.2.2 = true
  nd : (rmakers rs).Nodup
  few : rs.length ≤ 12
  kinds : (distinct (rkinds rs)).length ≤ 4
theorem foldNew_len_ge {α : Type} [DecidableEq α] : ∀ (l acc : List α), acc.length ≤ (l.foldl addNew acc).length
  | [], acc => Nat.le_refl _
  | a :: r, acc => by
    rw [List.foldl_cons]
    refine Nat.le_trans ?_ (foldNew_len_ge r _)
    rw [length_addNew]; split <;> omega
theorem distinct_take_len {α : Type} [DecidableEq α] (l : List α) (i : Nat) : (distinct (l.take i)).length ≤ (distinct l).length := by
  have e : distinct l = (l.drop i).foldl addNew (distinct (l.take i)) := by
    unfold distinct; rw [← List.foldl_append, List.take_append_drop]
  rw [e]; exact foldNew_len_ge _ _
theorem rkinds_take_succ {rs : List Row} {i : Nat} {r : Row} (h : rs[i]? = some r) : rkinds (rs.take (i + 1)) = rkinds (rs.take i) ++ [r.1] := by
  rw [take_succ_of h]; simp [rkinds]
theorem rmakers_take_succ {rs : List Row} {i : Nat} {r : Row} (h : rs[i]? = some r) : rmakers (rs.take (i + 1)) = rmakers (rs.take i) ++ [r.2.1] := by
  rw [take_succ_of h]; simp [rmakers]
theorem rkinds_take (rs : List Row) (i : Nat) : rkinds (rs.take i) = (rkinds rs).take i := by simp [rkinds, List.map_take]
theorem rmakers_take (rs : List Row) (i : Nat) : rmakers (rs.take i) = (rmakers rs).take i := by simp [rmakers, List.map_take]
theorem addNew_of_not {α : Type} [DecidableEq α] {l : List α} {k : α} (h : k ∉ l) : addNew l k = l ++ [k] := by unfold addNew; rw [if_neg h]
theorem addNew_of_mem {α : Type} [DecidableEq α] {l : List α} {k : α} (h : k ∈ l) : addNew l k = l := by unfold addNew; rw [if_pos h]
theorem not_mem_take_of_nodup {α : Type} {l : List α} (nd : l.Nodup) {i : Nat} {x : α} (h : l[i]? = some x) : x ∉ l.take i := by
  intro m
  obtain ⟨j, hj⟩ := List.getElem?_of_mem m
  have lt : j < i := by
    have := (List.getElem?_eq_some_iff.mp hj).1
    rw [List.length_take] at this; omega
  rw [List.getElem?_take_of_lt lt] at hj
  exact absurd (nd_ix nd hj h) (by omega)
/-- the unpacking of a row into three names -/
theorem row_open {H : Hp} {v : V} {r : Row} (h : RowAt H v r) : ∃ a u, v = .ref a ∧ H a = some (.tup [.str r.1, .str r.2.1, u]) ∧ PartsAt H u r.2.2 := h
section
variable {P : Program} {w : World} {K : PySem.W.Frag} {mg : Str → Option Value} {base : Heap} {fd : FuncData}
abbrev TrueR : Str → V → Prop := fun _ _ => True
def spCheckEach : Sp := fun vs H Q _ => ∃ (a : Addr) (rs : List Row), vs = [.ref a] ∧ RowsAt H a rs ∧ RowsShort rs ∧ EachOk rs ∧ ∀ H', Same H H' → Q .non H'
theorem ok_check_each_row (T : Tx K mg) (F : FnP K ("check_each_row", none) "check_each_row" "check_each_row" s_check_each_row fd) : FnOk P w K mg base CX0 5 (He.fAd K ("check_each_row", none)) fd ["rows"] spCheckEach := by
  obtain ⟨f1, F1⟩ := T.F_is_name
  obtain ⟨f2, F2⟩ := T.F_is_kind_name
  obtain ⟨f3, F3⟩ := T.F_are_parts
  obtain ⟨t4, m4⟩ := T.c_MOST_KINDS
  obtain ⟨t12, m12⟩ := T.c_MOST_ROWS
  refine F.ok sc_check_each_row (fun vs H Q E h => ?_) (fun cdv A outer s H vs Q E hr h => ?_)
  · obtain ⟨x, p, rfl, _⟩ := h; rfl
  obtain ⟨a, rs, rfl, ⟨us, ha, al⟩, ⟨n1000, sh⟩, ok, q⟩ := h
  have hu := hu_of hr
  have nd := sc_check_each_row.nd
  refine ⟨_, PSs.nox (pss_cons (ps_set (i := 1) nd rfl (.inl rfl) pe_dnewK) (pss_cons (ps_set (i := 2) nd rfl (.inl rfl) pe_dnewK)
    (pss_one (ps_for PassesOwn.never rfl (pi_enum (by rfl) T.n_enumerate (pa_cons (pv 0) pa_nil))
      (pg_tup rfl (pgs_cons (pg_name (i := 3) nd rfl (.inl rfl)) (pgs_cons (pg_tup rfl (pgs_cons (pg_name (i := 4) nd rfl (.inl rfl)) (pgs_cons (pg_name (i := 5) nd rfl (.inl rfl)) (pgs_cons (pg_name (i := 6) nd rfl (.inl rfl)) pgs_nil)))) pgs_nil)))
      (pss_cons (ps_if (PW.pt (pw_or (pt_not (pt_val (pe_call (ok_is_kind_name T F2) (hr.mono (by decide)) (by rfl) T.g_is_kind_name T.k_is_kind_name (b_is_kind_name F2) .nil pass0 (pa_cons (pv 4) pa_nil))))
          (pw_or (pt_not (pt_val (pe_call (ok_is_name T F1) (hr.mono (by decide)) (by rfl) T.g_is_name T.k_is_name (b_is_name F1) .nil pass0 (pa_cons (pv 5) pa_nil))))
            (pw_or1 (pt_not (pt_val (pe_call (ok_are_parts T F3) hr (by rfl) T.g_are_parts T.k_are_parts (b_are_parts F3) .nil pass0 (pa_cons (pv 6) pa_nil)))))))) (pss_one ps_never) pss_nil)
      (pss_cons (ps_dput hu (pv 1) (pv 4) pe_bl rfl)
      (pss_cons (ps_if (PW.pt (pw_or (pt_cmp (pc_din hu (pv 5) (pv 2))) (pw_or (pt_cmpR op_ge (pv 3) (pe_glob (v := .int 12) (by rfl) m12 ⟨_, rfl⟩) (nomark _))
          (pw_or1 (pt_cmpR op_gt (pe_callB call_lenD (by rfl) T.n_len PySem.boot_len (pa_cons (pv 1) pa_nil)) (pe_glob (v := .int 4) (by rfl) m4 ⟨_, rfl⟩) (nomark _)))))) (pss_one ps_never) pss_nil)
      (pss_one (ps_dput hu (pv 2) (pv 5) pe_bl rfl))))))))), ?_⟩
  intro dk hdk dm hdm
  have hdm0 : H dm = none := (same_new hdk).free hdm
  have kne : dk ≠ dm := ne_of_none upd_same hdm
  have s1 : Same H (upd (upd H dk (.dK [])) dm (.dK [])) := (same_new hdk).trans (same_new hdm)
  refine ⟨_, rfl, a, us, rfl, .inl (.inl (s1 _ _ ha)), for_it (walk_enum (K := K) (a := a) (xs := us)) (fun i σ H2 => (∃ v3 v4 v5 v6, σ = [some (.ref a), some (.ref dk), some (.ref dm), v3, v4, v5, v6]) ∧ Same H H2 ∧
    (∃ kvs, H2 dk = some (.dK kvs) ∧ KD kvs (distinct (rkinds (rs.take i))) TrueR) ∧ ∃ kvs, H2 dm = some (.dK kvs) ∧ KD kvs (rmakers (rs.take i)) TrueR) ?_ (fun i σ H2 _ z => .inl (.inl (z.2.1 _ _ ha))) ?_ ?_⟩
  · exact ⟨⟨none, none, none, none, rfl⟩, s1, ⟨[], by rw [upd_ne kne, upd_same], KD.nil⟩, [], upd_same, KD.nil⟩
  · rintro i x σ H2 H3 hi ⟨⟨v3, v4, v5, v6, rfl⟩, sm, ⟨kvs, hk, kd⟩, mvs, hm, md⟩ ⟨tp, x1, x2, rfl, ntp, rfl, e1, e2⟩
    cases e1
    obtain ⟨r, hrr, ra⟩ := al.get e2
    obtain ⟨b, u, rfl, hb, pa⟩ := ra
    obtain ⟨g1, g2, g3⟩ := ok.good r (List.mem_of_getElem? hrr)
    obtain ⟨l1, l2, l3⟩ := sh r (List.mem_of_getElem? hrr)
    have s3 : Same H (upd H2 tp (.tup [.int (i : Nat), .ref b])) := sm.trans (same_new ntp)
    refine ⟨tp, _, rfl, .inl (.inl upd_same), rfl, _, _, rfl, _, _, rfl, ⟨b, _, rfl, .inl (.inl (s3 _ _ hb)), rfl, _, _, rfl, _, _, rfl, _, _, rfl, rfl, rfl, ?_⟩⟩
    refine ⟨_, rfl, _, rfl, l1, _, rfl, ?_⟩
    rw [g1]
    refine iteF ⟨_, rfl, _, rfl, l2, _, rfl, ?_⟩
    rw [g2]
    refine iteF ⟨_, rfl, u, _, rfl, pa.mono (tups_of s3), l3, fun H4 s4 => ⟨_, rfl, ?_⟩⟩
    rw [g3]
    have s04 : Same H H4 := s3.trans s4
    have hk4 : H4 dk = some (.dK kvs) := s4 _ _ ((same_new ntp) _ _ hk)
    have hm4 : H4 dm = some (.dK mvs) := s4 _ _ ((same_new ntp) _ _ hm)
    have kl : kvs.length ≤ 1000 := by
      rw [kd.length]
      have := length_distinct (rkinds (rs.take i))
      unfold rkinds at this
      rw [List.length_map, List.length_take] at this
      unfold rkinds; omega
    have ml : mvs.length ≤ 1000 := by
      rw [md.length]; unfold rmakers; rw [List.length_map, List.length_take]; omega
    refine iteF ⟨_, rfl, _, rfl, dk, _, rfl, DPut.k (k := Sum.inr r.1) hk4 (small1000 kl), ?_⟩
    have kd' := kd.put (k := r.1) (v := .bl true) (R' := TrueR) (fun _ _ _ _ => trivial) trivial
    rw [← distinct_snoc, ← rkinds_take_succ hrr] at kd'
    have hm5 : (upd H4 dk (.dK (putK kvs (Sum.inr r.1) (.bl true)))) dm = some (.dK mvs) := by rw [upd_ne kne.symm]; exact hm4
    have notin : r.2.1 ∉ rmakers (rs.take i) := by
      rw [rmakers_take]
      exact not_mem_take_of_nodup ok.nd (by unfold rmakers; rw [List.getElem?_map, hrr]; rfl)
    refine ⟨_, rfl, _, rfl, dm, _, rfl, DGet.k (k := Sum.inr r.2.1) hm5, _, rfl, ?_⟩
    rw [md.none notin]
    refine iteF ⟨_, rfl, _, _, rfl, rfl, _, rfl, ?_⟩
    have lti : i < rs.length := (List.getElem?_eq_some_iff.mp hrr).1
    have few := ok.few
    have d1 : decide ((12 : Int) ≤ ((i : Nat) : Int)) = false := decide_eq_false (by omega)
    rw [d1]
    refine iteF ⟨_, rfl, dk, _, rfl, upd_same, _, _, rfl, rfl, _, rfl, ?_⟩
    have kl' : (putK kvs (Sum.inr r.1) (V.bl true)).length ≤ 4 := by
      rw [kd'.length, rkinds_take]; exact Nat.le_trans (distinct_take_len _ _) ok.kinds
    have d2 : decide ((4 : Int) < ((putK kvs (Sum.inr r.1) (V.bl true)).length : Int)) = false := decide_eq_false (by omega)
    rw [d2]
    refine iteF ⟨_, rfl, _, rfl, dm, _, rfl, DPut.k (k := Sum.inr r.2.1) hm5 (small1000 ml), ?_⟩
    have md' := md.put (k := r.2.1) (v := .bl true) (R' := TrueR) (fun _ _ _ _ => trivial) trivial
    rw [addNew_of_not notin, ← rmakers_take_succ hrr] at md'
    refine ⟨⟨_, _, _, _, rfl⟩, same_mut (same_mut s04 hdk) hdm0, ⟨_, by rw [upd_ne kne, upd_same], kd'⟩, _, upd_same, md'⟩
  · rintro σ H2 ⟨_, sm, _⟩
    exact q H2 sm
end
end Bg
set_option Elab.async false
set_option linter.all false
set_option maxRecDepth 100000
set_option maxHeartbeats 4000000
namespace Bg
open PySem PySem.Spec PyProof.Rows L2
theorem inV_strs (k : Str) (ks : List Str) : inV (.str k) (ks.map V.str) = decide (k ∈ ks) := by
  induction ks with
  | nil => rfl
  | cons a r ih =>
    have e : inV (.str k) ((a :: r).map V.str) = ((a == k) || inV (.str k) (r.map V.str)) := rfl
    rw [e, ih]
    by_cases h : a = k
    · subst h; simp
    · have h2 : ¬ k = a := fun z => h z.symm
      simp [h, h2, List.mem_cons]
theorem flat_str (ks : List Str) : (ks.map V.str).all flatV = true := by
  rw [List.all_eq_true]; intro v hv
  obtain ⟨x, _, rfl⟩ := List.mem_map.mp hv; rfl
def InnerOk (rs : List Row) : Prop := ∀ r ∈ rs, ∀ p ∈ r.2.2, p.2.1 = ("byte" : Str) ∨ p.2.1 ∈ rkinds rs
section
variable {P : Program} {w : World} {K : PySem.W.Frag} {mg : Str → Option Value} {base : Heap} {fd : FuncData}
/-- three names out of a row -/
abbrev gRow (K : PySem.W.Frag) (i j l : Nat) : TG := gTup K 3 (gCons (gName i) (gCons (gName j) (gCons (gName l) gNil)))
def spCheckInner : Sp := fun vs H Q _ => ∃ (a : Addr) (rs : List Row), vs = [.ref a] ∧ RowsAt H a rs ∧ RowsShort rs ∧ InnerOk rs ∧ ∀ H', Same H H' → Q .non H'
theorem ok_check_inner_kinds (T : Tx K mg) (F : FnP K ("check_inner_kinds", none) "check_inner_kinds" "check_inner_kinds" s_check_inner_kinds fd) : FnOk P w K mg base CX0 1 (He.fAd K ("check_inner_kinds", none)) fd ["rows"] spCheckInner := by
  obtain ⟨tB, mB⟩ := T.c_BYTE
  refine F.ok sc_check_inner_kinds (fun vs H Q E h => ?_) (fun cdv A outer s H vs Q E hr h => ?_)
  · obtain ⟨x, p, rfl, _⟩ := h; rfl
  obtain ⟨a, rs, rfl, ⟨us, ha, al⟩, ⟨n1000, sh⟩, ok, q⟩ := h
  have nd := sc_check_inner_kinds.nd
  refine ⟨_, PSs.nox (pss_cons (ps_setLc (i := 4) (own := [("kind", 1), ("maker", 2), ("parts", 3)]) (g := gRow K 1 2 3) (by rfl) nd rfl rfl (sw_true rfl rfl rfl (by decide +kernel)) (pi_list (pv 0))
      (blkOk_by (N := ["rows", "kind", "maker", "parts", "known", "at", "part"]) (sc := defScope s_check_inner_kinds) (by decide +kernel))
      (fun _ _ _ _ _ => pg_tup rfl (pgs_cons (pg_name (i := 1) nd rfl (Or.inl rfl)) (pgs_cons (pg_name (i := 2) nd rfl (Or.inl rfl)) (pgs_cons (pg_name (i := 3) nd rfl (Or.inl rfl)) pgs_nil)))) (fun _ _ _ _ _ => pts_nil) (fun _ _ _ _ _ => pv 1))
    (pss_one (ps_for PassesOwn.never rfl (pi_enum (by rfl) T.n_enumerate (pa_cons (pv 0) pa_nil))
      (pg_tup rfl (pgs_cons (pg_name (i := 5) nd rfl (.inl rfl)) (pgs_cons (pg_tup rfl (pgs_cons (pg_name (i := 1) nd rfl (.inl rfl)) (pgs_cons (pg_name (i := 2) nd rfl (.inl rfl)) (pgs_cons (pg_name (i := 3) nd rfl (.inl rfl)) pgs_nil)))) pgs_nil)))
      (pss_one (ps_for PassesOwn.never rfl (pi_tup (pv 3)) (pg_name (i := 6) nd rfl (.inl rfl))
        (pss_one (ps_if (PW.pt (pw_and (pt_cmpR op_ne (pe_ix ix_tup (pv 6) pe_int (fun _ _ => rfl)) (pe_glob (v := .str "byte") (by rfl) mB ⟨_, rfl⟩) (nomark _))
          (pw_and1 (pt_cmpR op_notIn_seq (pe_ix ix_tup (pv 6) pe_int (fun _ _ => rfl)) (pv 4) (by rfl))))) (pss_one ps_never) pss_nil))))))), ?_⟩
  refine ⟨_, rfl, a, rfl, ⟨_, .inl (.inl ha)⟩, fun D hD => lc_it (walk_list (K := K) (a := a) (xs := us)) (fun i H2 => Same H H2 ∧ H2 D = some (.lst ((rkinds (rs.take i)).map V.str))) ⟨same_new hD, upd_same⟩ (fun i H2 _ z => .inl (.inl (z.1 _ _ ha))) ?_ ?_⟩
  · rintro i x H2 H3 hi ⟨sm, hDi⟩ ⟨rfl, hx⟩
    obtain ⟨r, hrr, b, u, rfl, hb, pa⟩ := al.get hx
    refine ⟨b, _, rfl, .inl (.inl (sm _ _ hb)), rfl, _, _, rfl, _, _, rfl, _, _, rfl, rfl, rfl, _, rfl, _, hDi, ?_, same_mut sm hD, ?_⟩
    · unfold rkinds; rw [List.length_map, List.length_map, List.length_take]; exact small1000 (by omega)
    · rw [upd_same, rkinds_take_succ hrr, List.map_append] <;> rfl
  · rintro H2 ⟨sm, hDi⟩
    rw [al.1, List.take_length] at hDi
    have s2 : Same H2 H2 := Same.refl _
    refine ⟨_, rfl, a, us, rfl, .inl (.inl (sm _ _ ha)), for_it (walk_enum (K := K) (a := a) (xs := us)) (fun i σ H3 => (∃ v1 v2 v3 v5 v6, σ = [some (.ref a), v1, v2, v3, some (.ref D), v5, v6]) ∧ Same H2 H3) ⟨⟨_, _, _, _, _, rfl⟩, s2⟩ (fun i σ H3 _ z => .inl (.inl (z.2 _ _ (sm _ _ ha)))) ?_ ?_⟩
    · rintro i x σ H3 H4 hi ⟨⟨v1, v2, v3, v5, v6, rfl⟩, s3⟩ ⟨tp, x1, x2, rfl, ntp, rfl, e1, e2⟩
      cases e1
      obtain ⟨r, hrr, b, u, rfl, hb, pa⟩ := al.get e2
      have s4 : Same H2 (upd H3 tp (.tup [.int (i : Nat), .ref b])) := s3.trans (same_new ntp)
      have pa4 : PartsAt (upd H3 tp (.tup [.int (i : Nat), .ref b])) u r.2.2 := pa.mono (tups_of (sm.trans s4))
      obtain ⟨c, ws, rfl, hc, wl⟩ := pa4
      refine ⟨tp, _, rfl, .inl (.inl upd_same), rfl, _, _, rfl, _, _, rfl, ⟨b, _, rfl, .inl (.inl (s4 _ _ (sm _ _ hb))), rfl, _, _, rfl, _, _, rfl, _, _, rfl, rfl, rfl, ?_⟩⟩
      refine ⟨_, rfl, c, rfl, ⟨_, SqT.of hc⟩, for_it (walk_tup (K := K) (a := c) (xs := ws)) (fun j σ H5 => (∃ v1 v2 v5 v6, σ = [some (.ref a), v1, v2, some (.ref c), some (.ref D), v5, v6]) ∧ H5 = upd H3 tp (.tup [.int (i : Nat), .ref b])) ⟨⟨_, _, _, _, rfl⟩, rfl⟩ (fun j σ H5 _ z => by rw [z.2]; exact SqT.of hc) ?_ ?_⟩
      · rintro j y σ H5 H6 hj ⟨⟨v1, v2, v5, v6, rfl⟩, rfl⟩ ⟨rfl, hy⟩
        obtain ⟨p, hp, ppa⟩ := wl.get hy
        obtain ⟨d, xs, rfl, hd, x0, x1⟩ := partAt_ix ppa
        refine ⟨_, rfl, d, _, _, _, rfl, rfl, SqT.of hd, atI_nat (j := 1) x1, rfl, _, rfl, ite2 (fun h1 => ?_) (fun h1 => ⟨⟨_, _, _, _, rfl⟩, rfl⟩)⟩
        have nb : ¬ p.2.1 = ("byte" : Str) := by
          intro z; rw [z] at h1; simp at h1
        have kin : p.2.1 ∈ rkinds rs := (ok r (List.mem_of_getElem? hrr) p (List.mem_of_getElem? hp)).resolve_left nb
        refine ⟨_, rfl, d, _, _, _, rfl, rfl, SqT.of hd, atI_nat (j := 1) x1, _, rfl, D, _, rfl, .inl (SqL.of (s4 _ _ hDi)), rfl, flat_str _, _, rfl, ?_⟩
        rw [inV_strs, decide_eq_true kin]
        exact iteF ⟨⟨_, _, _, _, rfl⟩, rfl⟩
      · rintro σ H5 ⟨⟨v1, v2, v5, v6, rfl⟩, rfl⟩
        exact ⟨⟨_, _, _, _, _, rfl⟩, s4⟩
    · rintro σ H3 ⟨_, s3⟩
      exact q H3 (sm.trans s3)
def spCheckFinite : Sp := fun vs H Q _ => ∃ (a d : Addr) (rs : List Row) (kvs : List (Key × V)) (ks : List Str), vs = [.ref a, .ref d] ∧ RowsAt H a rs ∧ H d = some (.dK kvs) ∧ KD kvs ks TrueR ∧ (∀ r ∈ rs, r.1 ∈ ks) ∧ ∀ H', Same H H' → Q .non H'
theorem ok_check_finite (T : Tx K mg) (F : FnP K ("check_finite", none) "check_finite" "check_finite" s_check_finite fd) : FnOk P w K mg base CX0 1 (He.fAd K ("check_finite", none)) fd ["rows", "least"] spCheckFinite := by
  refine F.ok sc_check_finite (fun vs H Q E h => ?_) (fun cdv A outer s H vs Q E hr h => ?_)
  · obtain ⟨x, p, _, _, _, rfl, _⟩ := h; rfl
  obtain ⟨a, d, rs, kvs, ks, rfl, ⟨us, ha, al⟩, hd, kd, ok, q⟩ := h
  have hu := hu_of hr
  have nd := sc_check_finite.nd
  refine ⟨_, PSs.nox (pss_one (ps_for PassesOwn.never rfl (pi_enum (by rfl) T.n_enumerate (pa_cons (pv 0) pa_nil))
      (pg_tup rfl (pgs_cons (pg_name (i := 2) nd rfl (.inl rfl)) (pgs_cons (pg_tup rfl (pgs_cons (pg_name (i := 3) nd rfl (.inl rfl)) (pgs_cons (pg_name (i := 4) nd rfl (.inl rfl)) (pgs_cons (pg_name (i := 5) nd rfl (.inl rfl)) pgs_nil)))) pgs_nil)))
      (pss_one (ps_if (pt_cmp (pc_dnotin hu (pv 3) (pv 1))) (pss_one ps_never) pss_nil)))), ?_⟩
  refine ⟨_, rfl, a, us, rfl, .inl (.inl ha), for_it (walk_enum (K := K) (a := a) (xs := us)) (fun i σ H3 => (∃ v2 v3 v4 v5, σ = [some (.ref a), some (.ref d), v2, v3, v4, v5]) ∧ Same H H3) ⟨⟨_, _, _, _, rfl⟩, Same.refl _⟩ (fun i σ H3 _ z => .inl (.inl (z.2 _ _ ha))) ?_ ?_⟩
  · rintro i x σ H3 H4 hi ⟨⟨v2, v3, v4, v5, rfl⟩, s3⟩ ⟨tp, x1, x2, rfl, ntp, rfl, e1, e2⟩
    cases e1
    obtain ⟨r, hrr, b, u, rfl, hb, pa⟩ := al.get e2
    have s4 : Same H (upd H3 tp (.tup [.int (i : Nat), .ref b])) := s3.trans (same_new ntp)
    refine ⟨tp, _, rfl, .inl (.inl upd_same), rfl, _, _, rfl, _, _, rfl, ⟨b, _, rfl, .inl (.inl (s4 _ _ hb)), rfl, _, _, rfl, _, _, rfl, _, _, rfl, rfl, rfl, ?_⟩⟩
    refine ⟨_, rfl, _, rfl, d, _, rfl, DGet.k (k := Sum.inr r.1) (s4 _ _ hd), _, rfl, ?_⟩
    rw [kd.isSome, decide_eq_true (ok r (List.mem_of_getElem? hrr))]
    exact iteF ⟨⟨_, _, _, _, rfl⟩, s4⟩
  · rintro σ H3 ⟨_, s3⟩
    exact q H3 s3
end
end Bg
set_option Elab.async false
set_option linter.all false
set_option maxRecDepth 100000
set_option maxHeartbeats 4000000
namespace Bg
open PySem PySem.Spec PyProof.Rows L2
def makersOf (rs : List Row) (k : Str) : List Str := (rs.filter fun r => decide (r.1 = k)).map fun r => r.2.1
theorem makersOf_snoc (rs : List Row) (r : Row) (k : Str) : makersOf (rs ++ [r]) k = makersOf rs k ++ (if r.1 = k then [r.2.1] else []) := by
  unfold makersOf
  rw [List.filter_append, List.map_append]
  by_cases h : r.1 = k
  · simp [h]
  · simp [h]
theorem makersOf_ne {rs : List Row} {k : Str} (h : k ∈ rkinds rs) : makersOf rs k ≠ [] := by
  unfold rkinds at h
  obtain ⟨r, hr, e⟩ := List.mem_map.mp h
  unfold makersOf
  intro z
  have : r ∈ rs.filter fun r => decide (r.1 = k) := List.mem_filter.mpr ⟨hr, by simp [e]⟩
  have z2 := List.map_eq_nil_iff.mp z
  rw [z2] at this; cases this
theorem makersOf_nil {rs : List Row} {k : Str} (h : k ∉ rkinds rs) : makersOf rs k = [] := by
  unfold makersOf
  rw [List.map_eq_nil_iff, List.filter_eq_nil_iff]
  intro r hr z
  exact h (List.mem_map.mpr ⟨r, hr, by simpa using z⟩)
theorem makersOf_len (rs : List Row) (k : Str) : (makersOf rs k).length ≤ rs.length := by
  unfold makersOf; rw [List.length_map]; exact List.length_filter_le _ _
/-- a text's tuple -/
def TextsAt (H : Hp) (v : V) (ks : List Str) : Prop := ∃ t o, v = .ref t ∧ o.dict = none ∧ H t = some (.frz o (.tup (ks.map V.str)))
theorem TextsAt.mono {H H' : Hp} (t : Tups H H') {v : V} {ks : List Str} (h : TextsAt H v ks) : TextsAt H' v ks := by
  obtain ⟨a, o, e, d, x⟩ := h; exact ⟨a, o, e, d, t _ _ trivial x⟩
theorem sqT_frz {K : PySem.W.Frag} {H : Hp} {a : Addr} {o : Obj} {xs : List V} (h : H a = some (.frz o (.tup xs))) : SqT K H a xs := .inl (.inr ⟨o, h⟩)
/-! ### tuples whose object is told, for their methods -/
section
variable {X : Cx} {es : List Expr} {pos : Pos} {t : TA}
def tTupF (t : TA) : TE := fun σ H Q => t σ H fun xs H1 => xs.length ≤ sizeLine ∧ ∀ (p : Addr) (o : Obj), H1 p = none → o.dict = none → Q (.ref p) (upd H1 p (.frz o (.tup xs)))
theorem pe_tupF {x1} (h : PA X es t) : PE X (.Tuple es x1 pos) (tTupF t) := by
  constructor
  intro pins s σ H Q I hq
  refine wpAny_Tuple_spliced (thn (h.run pos pins s σ H _ I hq) fun us s1 got => ?_)
  obtain ⟨xs, H1, I1, r, z, q⟩ := got
  refine ⟨by rw [← r.length]; exact z, .ref s1.heap.objs.size, _, I1.laid (t' := s1.toks) (o := .frz { cls := .type "tuple", data := .seq us.toArray } (.tup xs)) (fun b u e => Heap.get?_push_of_some _ e) (Nat.le_refl _) ?told, rfl, q _ _ (I1.hok.fresh (Nat.le_refl _)) ?bare⟩
  case told => exact ⟨Heap.get?_push_size _ rfl, z, us, r, IsTup.new _ _⟩
  case bare => rfl
def rCatF (K : PySem.W.Frag) : R2 := fun x y H Q => ∃ a b xs ys, x = .ref a ∧ y = .ref b ∧ SqT K H a xs ∧ SqT K H b ys ∧ xs.length + ys.length ≤ sizeLine ∧ ys ≠ [] ∧
  (xs = [] → Q (.ref b) H) ∧ (xs ≠ [] → ∀ (p : Addr) (o : Obj), H p = none → o.dict = none → Q (.ref p) (upd H p (.frz o (.tup (xs ++ ys)))))
theorem op_catF : OpR X (binaryOp .Add) (rCatF X.K) := by
  intro pins s σ H x y v u Q I rx ry h
  obtain ⟨a, b, xs, ys, rfl, rfl, ha, hb, hz, hy, q0, q2⟩ := h
  by_cases hx : xs = []
  · exact op_catA pins s σ H _ _ v u Q I rx ry ⟨a, b, xs, ys, rfl, rfl, ha, hb, hz, q0, fun z => absurd hx z, fun z => absurd hx z⟩
  · cases rx
    cases ry
    obtain ⟨its, r1, p1, _⟩ := I.tuple ha
    obtain ⟨its2, r2, p2, _⟩ := I.tuple hb
    refine HT.cat_tup p1 p2 (fun z => hx (r1.nil_iff.mp z)) (fun z => absurd (r2.nil_iff.mp z) hy) (fun z => ?_) (by rw [← r1.length, ← r2.length]; exact hz)
    refine ⟨.ref s.heap.objs.size, _, I.laid (t' := s.toks) (o := .frz { cls := .type "tuple", data := .seq (its ++ its2).toArray } (.tup (xs ++ ys))) (fun b ob q => Heap.get?_push_of_some _ q) (Nat.le_refl _) ?told, rfl, q2 hx _ _ (I.hok.fresh (Nat.le_refl _)) ?bare⟩
    case told => exact ⟨Heap.get?_push_size _ rfl, by rw [List.length_append]; exact hz, _, r1.append r2, IsTup.new _ _⟩
    case bare => rfl
def tTM1 (r : V → List V → Hp → VK → Prop) (to te : TE) : TE := fun σ H Q => to σ H fun x H1 => (∃ a o xs, x = .ref a ∧ o.dict = none ∧ H1 a = some (.frz o (.tup xs))) ∧ te σ H1 fun y H2 => r x [y] H2 Q
/-- t.m(e), t a tuple whose object is told -/
theorem pe_tm1 {o e : Expr} {to te : TE} {id : String} {name : Str} {apos pos : Pos} {r : V → List V → Hp → VK → Prop} (slot : Slot "tuple" name id) (ty : typeOf (.builtin id) = pure (.type "method_descriptor")) (rule : MtR X id r) (ho : PE X o to) (he : PE X e te)
    (hs : starEach [e] X.env = [(false, eval e X.env)] := by rfl) (hbase : attributeBase o name X.env (eval o X.env) = eval o X.env := by rfl) (hline : (apos.endLine == pos.line) = true := by rfl) :
    PE X (.Call (.Attribute o name apos) [e] [] pos) (tTM1 r to te) := by
  constructor
  intro pins s σ H Q I h
  refine PySem.Call_method1 hbase hs hline (thn (ho.run pins s σ H _ I h) fun v s1 got => ?_)
  obtain ⟨x, H1, I1, r1, ⟨a, ob, xs, rfl, hd, hx⟩, q1⟩ := got
  cases r1
  obtain ⟨e1, _, its, _, t0⟩ := I1.hok a _ hx
  refine ⟨"tuple", id, PySem.F.plainAttrs_tuple, slot, ty, t0.typeIs, fun c e => by cases e; exact ⟨ob, e1, hd⟩, Calls.callWith_builtin rfl (Calls.evalArgs_plain (Calls.spliced_cons ?_))⟩
  exact thn (he.run pins s1 σ H1 _ I1 q1) fun u s2 got => by
    obtain ⟨y, H2, I2, r2, q2⟩ := got
    exact Calls.spliced_nil (rule pins s2 σ H2 (.ref a) [y] _ [u] Q I2 rfl (.cons r2 .nil) q2)
end
def MkD (H : Hp) (kvs : List (Key × V)) (rs : List Row) : Prop := KD kvs (distinct (rkinds rs)) fun k v => TextsAt H v (makersOf rs k)
theorem MkD.mono {H H' : Hp} (t : Tups H H') {kvs : List (Key × V)} {rs : List Row} (h : MkD H kvs rs) : MkD H' kvs rs := KD.mono h fun _ _ z => z.mono t
def holdOf : Part → Str × Int
  | (_, _, none) => ("byte", 0)
  | (_, k, some c) => (k, c)
def HoldAt (H : Hp) (v : V) (p : Part) : Prop := ∃ t, v = .ref t ∧ H t = some (.tup [.str (holdOf p).1, .int (holdOf p).2])
def HoldD (H : Hp) (kvs : List (Key × V)) (ps : List Part) : Prop := KD kvs (distinct (ps.map (·.1))) fun n v => ∃ p ∈ ps, p.1 = n ∧ HoldAt H v p
theorem HoldD.mono {H H' : Hp} (t : Tups H H') {kvs : List (Key × V)} {ps : List Part} (h : HoldD H kvs ps) : HoldD H' kvs ps := KD.mono h fun _ _ z => by
  obtain ⟨p, m, e, a, x, y⟩ := z; exact ⟨p, m, e, a, x, t _ _ trivial y⟩
section
variable {P : Program} {w : World} {K : PySem.W.Frag} {mg : Str → Option Value} {base : Heap} {fd : FuncData}
def spMakersBy : Sp := fun vs H Q _ => ∃ (a : Addr) (rs : List Row), vs = [.ref a] ∧ RowsAt H a rs ∧ rs.length ≤ 1000 ∧ ∀ d kvs H', Same H H' → H d = none → H' d = some (.dK kvs) → MkD H' kvs rs → Q (.ref d) H'
theorem ok_makers_by_kind (T : Tx K mg) (F : FnP K ("makers_by_kind", none) "makers_by_kind" "makers_by_kind" s_makers_by_kind fd) : FnOk P w K mg base CX0 1 (He.fAd K ("makers_by_kind", none)) fd ["rows"] spMakersBy := by
  refine F.ok sc_makers_by_kind (fun vs H Q E h => ?_) (fun cdv A outer s H vs Q E hr h => ?_)
  · obtain ⟨x, p, rfl, _⟩ := h; rfl
  obtain ⟨a, rs, rfl, ⟨us, ha, al⟩, n1000, q⟩ := h
  have hu := hu_of hr
  have nd := sc_makers_by_kind.nd
  refine ⟨_, PSs.nox (pss_cons (ps_set (i := 1) nd rfl (.inl rfl) pe_dnewK)
    (pss_cons (ps_for PassesOwn.never rfl (pi_list (pv 0)) (pg_tup rfl (pgs_cons (pg_name (i := 2) nd rfl (.inl rfl)) (pgs_cons (pg_name (i := 3) nd rfl (.inl rfl)) (pgs_cons (pg_name (i := 4) nd rfl (.inl rfl)) pgs_nil))))
      (pss_one (ps_dput hu (pv 1) (pv 2) (pe_op op_catF (pe_dget2 hu (pv 1) (pv 2) (pe_tup pa_nil) ⟨rfl, rfl, rfl, rfl⟩) (pe_tupF (pa_cons (pv 3) pa_nil))) rfl)))
    (pss_one (ps_ret (pv 1))))), ?_⟩
  intro d hd
  refine ⟨_, rfl, a, rfl, ⟨_, .inl (.inl ((same_new hd) _ _ ha))⟩, for_it (walk_list (K := K) (a := a) (xs := us)) (fun i σ H2 => (∃ v2 v3 v4, σ = [some (.ref a), some (.ref d), v2, v3, v4]) ∧ Same H H2 ∧ ∃ kvs, H2 d = some (.dK kvs) ∧ MkD H2 kvs (rs.take i))
    ⟨⟨_, _, _, rfl⟩, same_new hd, [], upd_same, KD.nil⟩ (fun i σ H2 _ z => .inl (.inl (z.2.1 _ _ ha))) ?_ ?_⟩
  · rintro i x σ H2 H3 hi ⟨⟨v2, v3, v4, rfl⟩, sm, kvs, hk, kd⟩ ⟨rfl, hx⟩
    obtain ⟨r, hrr, b, u, rfl, hb, pa⟩ := al.get hx
    refine ⟨b, _, rfl, .inl (.inl (sm _ _ hb)), rfl, _, _, rfl, _, _, rfl, _, _, rfl, rfl, ?_⟩
    refine ⟨_, rfl, d, rfl, .inl ⟨kvs, .inl hk⟩, _, rfl, Nat.zero_le _, fun e he => ?_⟩
    have hk2 : (upd H3 e (.tup [])) d = some (.dK kvs) := (same_new he) _ _ hk
    refine ⟨_, DGet.k (k := Sum.inr r.1) hk2, ?_⟩
    refine ⟨_, rfl, (by show 1 ≤ sizeLine; decide), fun f fo hf hfo => ?_⟩
    have s2 : Same H3 (upd (upd H3 e (.tup [])) f (.frz fo (.tup [.str r.2.1]))) := (same_new he).trans (same_new hf)
    have hk3 := s2 _ _ hk
    have kl : kvs.length ≤ 1000 := by
      rw [kd.length]
      have := length_distinct (rkinds (rs.take i))
      unfold rkinds at this
      rw [List.length_map, List.length_take] at this
      unfold rkinds; omega
    have done : ∀ (H5 : Hp) (v : V), Same H3 H5 → TextsAt H5 v (makersOf (rs.take (i + 1)) r.1) → ∃ kvs', (upd H5 d (.dK (putK kvs (Sum.inr r.1) v))) d = some (.dK kvs') ∧ MkD (upd H5 d (.dK (putK kvs (Sum.inr r.1) v))) kvs' (rs.take (i + 1)) := by
      intro H5 v s5 hv
      have tp : Tups H5 (upd H5 d (.dK (putK kvs (Sum.inr r.1) v))) := tups_upd fun u f z => by rw [s5 _ _ hk] at z; cases z; exact f
      refine ⟨_, upd_same, ?_⟩
      have z := KD.put (k := r.1) (v := v) (R' := fun k v' => TextsAt (upd H5 d (.dK (putK kvs (Sum.inr r.1) v))) v' (makersOf (rs.take (i + 1)) k)) (kd.mono (tups_of s5)) (fun j u hj hu => ?_) (hv.mono tp)
      · rw [← distinct_snoc, ← rkinds_take_succ hrr] at z; exact z
      · rw [take_succ_of hrr, makersOf_snoc, if_neg (fun z => hj z.symm), List.append_nil]
        exact TextsAt.mono tp hu
    by_cases hin : r.1 ∈ rkinds (rs.take i)
    · obtain ⟨v, e1, t, to, rfl, hto, ht⟩ := kd.some (mem_distinct.mpr hin)
      rw [e1]
      have ne : (makersOf (rs.take i) r.1).map V.str ≠ [] := fun z => makersOf_ne hin (List.map_eq_nil_iff.mp z)
      refine ⟨t, f, _, _, rfl, rfl, sqT_frz (s2 _ _ ht), sqT_frz upd_same, ?_, by simp, fun z => absurd z ne, fun _ p po hp hpo => ?_⟩
      · have := makersOf_len (rs.take i) r.1
        rw [List.length_map]
        rw [List.length_take] at this
        exact sz_of (by show _ + 1 ≤ _; omega)
      have s5 := s2.trans (same_new (o := .frz po (.tup ((makersOf (rs.take i) r.1).map V.str ++ [.str r.2.1]))) hp)
      refine ⟨_, rfl, _, rfl, d, _, rfl, DPut.k (k := Sum.inr r.1) (s5 _ _ hk) (small1000 kl), ⟨_, _, _, rfl⟩, same_mut (sm.trans s5) hd, ?_⟩
      refine done _ _ s5 ⟨p, po, rfl, hpo, ?_⟩
      rw [upd_same, take_succ_of hrr, makersOf_snoc, if_pos rfl, List.map_append] <;> rfl
    · rw [kd.none (fun z => hin (mem_distinct.mp z))]
      refine ⟨e, f, [], _, rfl, rfl, SqT.of ((same_new hf) _ _ upd_same), sqT_frz upd_same, (by show 1 ≤ sizeLine; decide), by simp, fun _ => ?_, fun z => absurd rfl z⟩
      refine ⟨_, rfl, _, rfl, d, _, rfl, DPut.k (k := Sum.inr r.1) hk3 (small1000 kl), ⟨_, _, _, rfl⟩, same_mut (sm.trans s2) hd, ?_⟩
      refine done _ _ s2 ⟨f, fo, rfl, hfo, ?_⟩
      rw [upd_same, take_succ_of hrr, makersOf_snoc, if_pos rfl, makersOf_nil hin] <;> rfl
  · rintro σ H2 ⟨⟨v2, v3, v4, rfl⟩, sm, kvs, hk, kd⟩
    rw [al.1, List.take_length] at kd
    exact ⟨_, rfl, q d kvs H2 sm hd hk kd⟩
abbrev rLenQ (K : PySem.W.Frag) : List V → Hp → VK → Prop := fun xs H Q => ∃ p ys, xs = [V.ref p] ∧ (SqL K H p ys ∨ SqT K H p ys) ∧ Q (.int ys.length) H
def spHoldings : Sp := fun vs H Q _ => ∃ (v : V) (ps : List Part), vs = [v] ∧ PartsAt H v ps ∧ ps.length ≤ 1000 ∧ ∀ d kvs H', Same H H' → H d = none → H' d = some (.dK kvs) → HoldD H' kvs ps → Q (.ref d) H'
theorem ok_holdings (T : Tx K mg) (F : FnP K ("holdings", none) "holdings" "holdings" s_holdings fd) : FnOk P w K mg base CX0 1 (He.fAd K ("holdings", none)) fd ["parts"] spHoldings := by
  obtain ⟨tB, mB⟩ := T.c_BYTE
  refine F.ok sc_holdings (fun vs H Q E h => ?_) (fun cdv A outer s H vs Q E hr h => ?_)
  · obtain ⟨x, p, rfl, _⟩ := h; rfl
  obtain ⟨v, ps, rfl, ⟨a, us, rfl, ha, al⟩, n1000, q⟩ := h
  have nd := sc_holdings.nd
  refine ⟨_, PSs.nox (pss_one (ps_ret (pe_dc (own := [("part", 1)]) (g := gName 1) rfl nd (pi_tup (pv 0)) (blkOk_by (N := ["parts", "part"]) (sc := defScope s_holdings) (by decide +kernel)) (fun _ _ _ _ _ => pg_name (i := 1) nd rfl (Or.inl rfl)) (fun _ _ _ _ _ => pts_nil)
    (fun _ _ _ _ _ => pe_ix (r := rIxT K) ix_tup (pv 1) pe_int (fun _ _ => rfl))
    (fun _ _ _ _ _ => pe_ifExp (pt_cmpR op_eq (pe_callB (r := rLenQ K) call_len_seq (by rfl) T.n_len PySem.boot_len (pa_cons (pv 1) pa_nil)) pe_int (nomark _))
      (pe_slice (r := rSlA K) sl_tupA (pv 1) (po_some pe_int) po_none) (pe_tup (pa_cons (pe_glob (v := .str "byte") (by rfl) mB ⟨_, rfl⟩) (pa_cons pe_int pa_nil))))))), ?_⟩
  refine ⟨_, rfl, a, rfl, ⟨_, SqT.of ha⟩, fun D hD => dc_it (walk_tup (K := K) (a := a) (xs := us)) (fun i H2 => Same H H2 ∧ ∃ kvs, H2 D = some (.dK kvs) ∧ HoldD H2 kvs (ps.take i)) ⟨same_new hD, [], upd_same, KD.nil⟩ (fun i H2 _ z => SqT.of (z.1 _ _ ha)) ?_ ?_⟩
  · rintro i x H2 H3 hi ⟨sm, kvs, hk, kd⟩ ⟨rfl, hx⟩
    obtain ⟨⟨n, kd', c⟩, hp, b, rfl, hb⟩ := al.get hx
    have kl : kvs.length ≤ 1000 := by
      rw [kd.length]
      have := length_distinct ((ps.take i).map (·.1))
      rw [List.length_map, List.length_take] at this
      omega
    have done : ∀ (H5 : Hp) (v : V), Same H3 H5 → HoldAt H5 v (n, kd', c) → ∃ kvs', (upd H5 D (.dK (putK kvs (Sum.inr n) v))) D = some (.dK kvs') ∧ HoldD (upd H5 D (.dK (putK kvs (Sum.inr n) v))) kvs' (ps.take (i + 1)) := by
      intro H5 v s5 hv
      have tp : Tups H5 (upd H5 D (.dK (putK kvs (Sum.inr n) v))) := tups_upd fun u f z => by rw [s5 _ _ hk] at z; cases z; exact f
      refine ⟨_, upd_same, ?_⟩
      have z := KD.put (k := n) (v := v) (R' := fun n' v' => ∃ p ∈ ps.take (i + 1), p.1 = n' ∧ HoldAt (upd H5 D (.dK (putK kvs (Sum.inr n) v))) v' p) (kd.mono (tups_of s5)) (fun j u hj hu => ?_) ?_
      · have e : (ps.take (i + 1)).map (·.1) = (ps.take i).map (·.1) ++ [n] := by rw [take_succ_of hp, List.map_append]; rfl
        unfold HoldD
        rw [e, distinct_snoc]; exact z
      · obtain ⟨p, m, e, t, rfl, ht⟩ := hu
        exact ⟨p, by rw [take_succ_of hp]; exact List.mem_append_left _ m, e, t, rfl, tp _ _ trivial ht⟩
      · obtain ⟨t, rfl, ht⟩ := hv
        exact ⟨_, by rw [take_succ_of hp]; exact List.mem_append_right _ (List.mem_singleton.mpr rfl), rfl, t, rfl, tp _ _ trivial ht⟩
    have sb := sm _ _ hb
    cases c with
    | none =>
      refine ⟨rfl, _, rfl, b, _, _, _, rfl, rfl, SqT.of sb, atI_nat (j := 0) rfl, _, rfl, b, _, rfl, .inr (SqT.of sb), rfl, _, rfl, iteF ⟨by show 2 ≤ sizeLine; decide, fun p hp' => ⟨kvs, Sum.inr n, rfl, (same_new hp') _ _ hk, small1000 kl, same_mut (sm.trans (same_new hp')) hD, done _ _ (same_new hp') ⟨p, rfl, upd_same⟩⟩⟩⟩
    | some c =>
      refine ⟨rfl, _, rfl, b, _, _, _, rfl, rfl, SqT.of sb, atI_nat (j := 0) rfl, _, rfl, b, _, rfl, .inr (SqT.of sb), rfl, _, rfl, iteT ⟨_, rfl, _, rfl, b, _, rfl, SqT.of sb, fun z => absurd (show HT.sIx 3 0 (some 1) = 0 from z.1) (by decide), fun _ p hp' => ⟨kvs, Sum.inr n, rfl, (same_new hp') _ _ hk, small1000 kl, same_mut (sm.trans (same_new hp')) hD, done _ _ (same_new hp') ⟨p, rfl, ?_⟩⟩⟩⟩
      rw [upd_same] <;> rfl
  · rintro H2 ⟨sm, kvs, hk, kd⟩
    rw [al.1, List.take_length] at kd
    exact q D kvs H2 sm hD hk kd
end
end Bg
set_option Elab.async false
set_option linter.all false
set_option maxRecDepth 100000
set_option maxHeartbeats 4000000
namespace Bg
open PySem PySem.Spec PyProof.Rows L2
/-! ### data of tuples, texts, ints -/
mutual
inductive Td (H : Hp) : V → PyData → Prop
  | bl (b : Bool) : Td H (.bl b) (.bool b)
  | int (i : Int) : Td H (.int i) (.int i)
  | str (x : Str) : Td H (.str x) (.str x)
  | tup {a : Addr} {xs : List V} {ds : List PyData} (e : H a = some (.tup xs)) (h : TdAll H xs ds) : Td H (.ref a) (.tuple ds)
inductive TdAll (H : Hp) : List V → List PyData → Prop
  | nil : TdAll H [] []
  | cons {v : V} {vs : List V} {d : PyData} {ds : List PyData} (h : Td H v d) (r : TdAll H vs ds) : TdAll H (v :: vs) (d :: ds)
end
mutual
theorem Td.mono {H H' : Hp} (t : Tups H H') : ∀ {v : V} {d : PyData}, Td H v d → Td H' v d
  | _, _, .bl b => .bl b
  | _, _, .int i => .int i
  | _, _, .str x => .str x
  | _, _, .tup e h => .tup (t _ _ trivial e) (TdAll.mono t h)
theorem TdAll.mono {H H' : Hp} (t : Tups H H') : ∀ {vs : List V} {ds : List PyData}, TdAll H vs ds → TdAll H' vs ds
  | _, _, .nil => .nil
  | _, _, .cons h r => .cons (Td.mono t h) (TdAll.mono t r)
end
mutual
theorem Td.dp {K : PySem.W.Frag} {H : Hp} : ∀ {v : V} {d : PyData}, Td H v d → Dp K H v d
  | _, _, .bl b => .bl b
  | _, _, .int i => .int i
  | _, _, .str x => .str x
  | _, _, .tup e h => .tup (SqT.of e) (TdAll.dp h)
theorem TdAll.dp {K : PySem.W.Frag} {H : Hp} : ∀ {vs : List V} {ds : List PyData}, TdAll H vs ds → DpAll K H vs ds
  | _, _, .nil => .nil
  | _, _, .cons h r => .cons (Td.dp h) (TdAll.dp r)
end
theorem TdAll.snoc {H : Hp} : ∀ {vs : List V} {ds : List PyData} {v : V} {d : PyData}, TdAll H vs ds → Td H v d → TdAll H (vs ++ [v]) (ds ++ [d])
  | _, _, _, _, .nil, h => .cons h .nil
  | _, _, _, _, .cons a r, h => .cons a (TdAll.snoc r h)
theorem TdAll.length {H : Hp} : ∀ {vs : List V} {ds : List PyData}, TdAll H vs ds → vs.length = ds.length
  | _, _, .nil => rfl
  | _, _, .cons _ r => congrArg Nat.succ (TdAll.length r)
/-! ### a least tree: its plain row, the tree -/
abbrev Ent := List Int × PyData
def EntAt (H : Hp) (v : V) (e : Ent) : Prop := ∃ t l tr, v = .ref t ∧ H t = some (.tup [.int (e.1.length : Nat), .ref l, tr]) ∧ H l = some (.lst (e.1.map V.int)) ∧ Td H tr e.2
theorem EntAt.mono {H H' : Hp} (s : Same H H') {v : V} {e : Ent} (h : EntAt H v e) : EntAt H' v e := by
  obtain ⟨t, l, tr, a, b, c, d⟩ := h
  exact ⟨t, l, tr, a, s _ _ b, s _ _ c, d.mono (tups_of s)⟩
def LeastD (H : Hp) (kvs : List (Key × V)) (ks : List Str) (L : Str → Ent) : Prop := KD kvs ks fun k v => EntAt H v (L k)
def nodeGo (ks : List Str) (L : Str → Ent) : List Part → List Int → List PyData → Option (List Int × List PyData)
  | [], row, ts => some (row, ts)
  | p :: ps, row, ts => if p.2.1 = ("byte" : Str) then nodeGo ks L ps (row ++ [0]) (ts ++ [.int 0]) else
    if p.2.1 ∈ ks then nodeGo ks L ps (row ++ (L p.2.1).1) (ts ++ [(L p.2.1).2]) else none
def nodeOf (ks : List Str) (L : Str → Ent) (tag : Int) (m : Str) (ps : List Part) : Option Ent := (nodeGo ks L ps [tag] [.str m]).map fun z => (z.1, .tuple z.2)
def NodeAt (H : Hp) (v : V) : Option Ent → Prop
  | none => v = .non
  | some e => EntAt H v e
section
variable {P : Program} {w : World} {K : PySem.W.Frag} {mg : Str → Option Value} {base : Heap} {fd : FuncData}
def spLeastNode : Sp := fun vs H Q _ => ∃ (tag : Int) (m : Str) (v : V) (d : Addr) (ps : List Part) (kvs : List (Key × V)) (ks : List Str) (L : Str → Ent), vs = [.int tag, .str m, v, .ref d] ∧ PartsAt H v ps ∧ ps.length ≤ 4 ∧ H d = some (.dK kvs) ∧ LeastD H kvs ks L ∧
  (∀ k ∈ ks, (L k).1.length ≤ 10000) ∧ ∀ r H', Same H H' → NodeAt H' r (nodeOf ks L tag m ps) → Q r H'
theorem ok_least_node (T : Tx K mg) (F : FnP K ("least_node", none) "least_node" "least_node" s_least_node fd) : FnOk P w K mg base CX0 1 (He.fAd K ("least_node", none)) fd ["tag", "maker", "parts", "least"] spLeastNode := by
  obtain ⟨tB, mB⟩ := T.c_BYTE
  refine F.ok sc_least_node (fun vs H Q E h => ?_) (fun cdv A outer s H vs Q E hr h => ?_)
  · obtain ⟨_, _, _, _, _, _, _, _, rfl, _⟩ := h; rfl
  obtain ⟨tag, m, v, d, ps, kvs, ks, L, rfl, ⟨a, us, rfl, ha, al⟩, n4, hd, kd, bd, q⟩ := h
  have hu := hu_of hr
  have nd := sc_least_node.nd
  refine ⟨_, PSs.nox (pss_cons (ps_set (i := 4) nd rfl (.inl rfl) (pe_lst (pa_cons (pv 0) pa_nil))) (pss_cons (ps_set (i := 5) nd rfl (.inl rfl) (pe_lst (pa_cons (pv 1) pa_nil)))
    (pss_cons (ps_for PassesOwn.never rfl (pi_tup (pv 2)) (pg_name (i := 6) nd rfl (.inl rfl))
      (pss_one (ps_if (pt_cmpR op_eq (pe_ix ix_tup (pv 6) pe_int (fun _ _ => rfl)) (pe_glob (v := .str "byte") (by rfl) mB ⟨_, rfl⟩) (nomark _))
        (pss_cons (ps_expr (pe_bm PySem.F.plainAttrs_list PySem.F.slot_list_append PySem.F.type_list_append mt_append (pv 4) (pa_cons pe_int pa_nil)))
          (pss_one (ps_expr (pe_bm PySem.F.plainAttrs_list PySem.F.slot_list_append PySem.F.type_list_append mt_append (pv 5) (pa_cons pe_int pa_nil)))))
        (pss_one (ps_if (pt_cmp (pc_din hu (pe_ix ix_tup (pv 6) pe_int (fun _ _ => rfl)) (pv 3)))
          (pss_cons (ps_expr (pe_bm PySem.F.plainAttrs_list PySem.F.slot_list_extend PySem.F.type_list_extend mt_extend (pv 4) (pa_cons (pe_ix ix_tup (pe_dget hu (pv 3) (pe_ix ix_tup (pv 6) pe_int (fun _ _ => rfl)) (fun _ _ => rfl)) pe_int (fun _ _ => rfl)) pa_nil)))
            (pss_one (ps_expr (pe_bm PySem.F.plainAttrs_list PySem.F.slot_list_append PySem.F.type_list_append mt_append (pv 5) (pa_cons (pe_ix ix_tup (pe_dget hu (pv 3) (pe_ix ix_tup (pv 6) pe_int (fun _ _ => rfl)) (fun _ _ => rfl)) pe_int (fun _ _ => rfl)) pa_nil)))))
          (pss_one (ps_ret pe_non)))))))
    (pss_one (ps_ret (pe_tup (pa_cons (pe_callB call_len_seq (by rfl) T.n_len PySem.boot_len (pa_cons (pv 4) pa_nil)) (pa_cons (pv 4) (pa_cons (pe_callTy call_tuple_of (by rfl) T.n_tuple (by decide +kernel) (pa_cons (pv 5) pa_nil)) pa_nil))))))))), ?_⟩
  refine ⟨_, rfl, (by show 1 ≤ sizeLine; decide), fun rw' hrw => ⟨_, rfl, (by show 1 ≤ sizeLine; decide), fun tw htw => ?_⟩⟩
  have htw0 : H tw = none := (same_new hrw).free htw
  have kne : rw' ≠ tw := ne_of_none upd_same htw
  have s1 : Same H (upd (upd H rw' (.lst [.int tag])) tw (.lst [.str m])) := (same_new hrw).trans (same_new htw)
  refine ⟨_, rfl, a, rfl, ⟨_, SqT.of (s1 _ _ ha)⟩, for_it (walk_tup (K := K) (a := a) (xs := us)) (fun i σ H2 => (∃ v6, σ = [some (.int tag), some (.str m), some (.ref a), some (.ref d), some (.ref rw'), some (.ref tw), v6]) ∧ Same H H2 ∧
    ∃ row ts vs, H2 rw' = some (.lst (row.map V.int)) ∧ H2 tw = some (.lst vs) ∧ TdAll H2 vs ts ∧ row.length ≤ 1 + i * 10000 ∧ vs.length = 1 + i ∧ nodeGo ks L ps [tag] [.str m] = nodeGo ks L (ps.drop i) row ts) ?_ (fun i σ H2 _ z => SqT.of (z.2.1 _ _ ha)) ?_ ?_⟩
  · exact ⟨⟨_, rfl⟩, s1, [tag], [.str m], [.str m], by rw [upd_ne kne, upd_same] <;> rfl, upd_same, .cons (.str m) .nil, by show 1 ≤ _; omega, rfl, rfl⟩
  · rintro i x σ H2 H3 hi ⟨⟨v6, rfl⟩, sm, row, ts, ws, hR, hT, td, lr, lw, eq⟩ ⟨rfl, hx⟩
    obtain ⟨p, hp, pa⟩ := al.get hx
    have lti : i < ps.length := (List.getElem?_eq_some_iff.mp hp).1
    have ed : ps.drop i = p :: ps.drop (i + 1) := by
      rw [List.drop_eq_getElem_cons lti]
      have := List.getElem?_eq_getElem lti
      rw [hp] at this; rw [← Option.some.inj this]
    rw [ed] at eq
    have l1 : row.length ≤ 50000 := by omega
    obtain ⟨b, xs, rfl, hb, x0, x1⟩ := partAt_ix (pa.mono (tups_of sm))
    refine ⟨_, rfl, b, _, _, _, rfl, rfl, SqT.of hb, atI_nat (j := 1) x1, rfl, _, rfl, ite2 (fun h1 => ?_) (fun h1 => ?_)⟩
    · have eb : p.2.1 = ("byte" : Str) := by simpa using h1
      refine ⟨_, rfl, .inl ⟨rfl, _, SqL.of hR⟩, rw', _, _, rfl, rfl, hR, (by rw [List.length_map]; exact sz_lt (by omega)), ?_⟩
      have hT2 : (upd H3 rw' (.lst (row.map V.int ++ [.int 0]))) tw = some (.lst ws) := by rw [upd_ne kne.symm]; exact hT
      refine ⟨_, rfl, .inl ⟨rfl, _, SqL.of hT2⟩, tw, _, _, rfl, rfl, hT2, (by exact small1000 (by omega)), ⟨_, rfl⟩, same_mut (same_mut sm hrw) htw0, row ++ [0], ts ++ [.int 0], ws ++ [.int 0], ?_, upd_same, ?_, ?_, ?_, ?_⟩
      · rw [upd_ne kne, upd_same, List.map_append] <;> rfl
      · refine TdAll.snoc (TdAll.mono (Tups.trans (tups_upd fun u f z => by rw [hR] at z; cases z; exact f) (tups_upd fun u f z => by rw [hT2] at z; cases z; exact f)) td) (.int 0)
      · rw [List.length_append, List.length_singleton]; omega
      · rw [List.length_append, List.length_singleton]; omega
      · rw [eq]
        show (if p.2.1 = _ then _ else _) = _
        rw [if_pos eb]
    · have eb : ¬ p.2.1 = ("byte" : Str) := by simpa using h1
      have hd3 := sm _ _ hd
      refine ⟨_, rfl, b, _, _, _, rfl, rfl, SqT.of hb, atI_nat (j := 1) x1, _, rfl, d, _, rfl, DGet.k (k := Sum.inr p.2.1) hd3, _, rfl, ?_⟩
      rw [KD.isSome kd]
      refine ite2 (fun h2 => ?_) (fun h2 => ?_)
      · have ek : p.2.1 ∈ ks := of_decide_eq_true h2
        obtain ⟨v, ev, t, l, tr, rfl, ht, hl, htr⟩ := KD.some kd ek
        have ht3 := sm _ _ ht
        have hl3 := sm _ _ hl
        have nlr : l ≠ rw' := ne_of_none hl hrw
        refine ⟨_, rfl, .inl ⟨rfl, _, SqL.of hR⟩, _, rfl, _, rfl, b, _, _, _, rfl, rfl, SqT.of hb, atI_nat (j := 1) x1, d, _, rfl, (by rw [← ev]; exact DGet.k (k := Sum.inr p.2.1) hd3), t, _, _, _, rfl, rfl, SqT.of ht3, atI_nat (j := 1) rfl, rw', l, _, _, rfl, rfl, hR, hl3, ?_, ?_⟩
        · rw [List.length_map, List.length_map]; have := bd _ ek; exact sz_of (by omega)
        have tp : Tups H3 (upd H3 rw' (.lst (row.map V.int ++ (L p.2.1).1.map V.int))) := tups_upd fun u f z => by rw [hR] at z; cases z; exact f
        have hT2 : (upd H3 rw' (.lst (row.map V.int ++ (L p.2.1).1.map V.int))) tw = some (.lst ws) := by rw [upd_ne kne.symm]; exact hT
        have hd4 : (upd H3 rw' (.lst (row.map V.int ++ (L p.2.1).1.map V.int))) d = some (.dK kvs) := by rw [upd_ne (ne_of_none hd hrw)]; exact hd3
        refine ⟨_, rfl, .inl ⟨rfl, _, SqL.of hT2⟩, _, rfl, _, rfl, b, _, _, _, rfl, rfl, SqT.of (tp _ _ trivial hb), atI_nat (j := 1) x1, d, _, rfl, (by rw [← ev]; exact DGet.k (k := Sum.inr p.2.1) hd4), t, _, _, _, rfl, rfl, SqT.of (tp _ _ trivial ht3), atI_nat (j := 2) rfl, tw, _, _, rfl, rfl, hT2, (by exact small1000 (by omega)),
          ⟨_, rfl⟩, same_mut (same_mut sm hrw) htw0, row ++ (L p.2.1).1, ts ++ [(L p.2.1).2], ws ++ [tr], ?_, upd_same, ?_, ?_, ?_, ?_⟩
        · rw [upd_ne kne, upd_same, List.map_append]
        · exact TdAll.snoc (TdAll.mono (Tups.trans tp (tups_upd fun u f z => by rw [hT2] at z; cases z; exact f)) td) (htr.mono (Tups.trans (tups_of sm) (Tups.trans tp (tups_upd fun u f z => by rw [hT2] at z; cases z; exact f))))
        · rw [List.length_append]; have := bd _ ek; omega
        · rw [List.length_append, List.length_singleton]; omega
        · rw [eq]
          show (if p.2.1 = _ then _ else if p.2.1 ∈ ks then _ else _) = _
          rw [if_neg eb, if_pos ek]
      · have ek : ¬ p.2.1 ∈ ks := fun z => h2 (decide_eq_true z)
        refine q _ _ sm ?_
        have e0 : nodeOf ks L tag m ps = none := by
          unfold nodeOf
          rw [eq]
          show Option.map _ (if p.2.1 = _ then _ else if p.2.1 ∈ ks then _ else _) = _
          rw [if_neg eb, if_neg ek] <;> rfl
        rw [e0] <;> rfl
  · rintro σ H2 ⟨⟨v6, rfl⟩, sm, row, ts, ws, hR, hT, td, lr, lw, eq⟩
    rw [al.1, List.drop_length] at eq
    have l1 : row.length ≤ 50000 := by rw [al.1] at lr; omega
    refine ⟨_, rfl, rw', _, rfl, .inl (SqL.of hR), _, rfl, _, rfl, tw, _, rfl, .inl ⟨SqL.of hT, fun tt htt => ?_⟩⟩
    have s2 : Same H2 (upd H2 tt (.tup ws)) := same_new htt
    refine ⟨by show 3 ≤ sizeLine; decide, fun ot hot => ?_⟩
    have s3 := s2.trans (same_new (o := .tup [.int ((row.map V.int).length : Nat), .ref rw', .ref tt]) hot)
    refine q _ _ (sm.trans s3) ?_
    have e0 : nodeOf ks L tag m ps = some (row, .tuple ts) := by unfold nodeOf; rw [eq] <;> rfl
    rw [e0]
    exact ⟨ot, rw', .ref tt, rfl, by rw [upd_same, List.length_map], s3 _ _ hR, .tup ((same_new hot) _ _ upd_same) (TdAll.mono (tups_of s3) td)⟩
end
end Bg
set_option Elab.async false
set_option linter.all false
set_option maxRecDepth 100000
set_option maxHeartbeats 4000000
namespace Bg
open PySem PySem.Spec PyProof.Rows L2
theorem nodup_sub_len {α : Type} [DecidableEq α] : ∀ (l l' : List α), l.Nodup → (∀ x ∈ l, x ∈ l') → l.length ≤ l'.length
  | [], l', _, _ => Nat.zero_le _
  | a :: r, l', nd, h => by
    obtain ⟨na, nr⟩ := List.nodup_cons.mp nd
    have ha : a ∈ l' := h a (List.mem_cons_self ..)
    have ih := nodup_sub_len r (l'.erase a) nr fun x hx => by
      have ne : x ≠ a := fun z => na (z ▸ hx)
      exact (List.mem_erase_of_ne ne).mpr (h x (List.mem_cons_of_mem _ hx))
    have el := List.length_erase_of_mem ha
    have pos : 0 < l'.length := List.length_pos_of_mem ha
    rw [List.length_cons]; omega
/-- the two items of an entry that are compared -/
def entD (e : Ent) : PyData := .tuple [.int (e.1.length : Nat), .list (e.1.map PyData.int)]
def entLt (e f : Ent) : Bool := PySem.W.dataLt (entD e) (entD f)
theorem entLt_len {e f : Ent} (h : entLt e f = true) : e.1.length ≤ f.1.length := by
  rcases Nat.lt_or_ge f.1.length e.1.length with lt | ge
  · exfalso
    unfold entLt PySem.W.dataLt entD at h
    simp only [PySem.W.keyToks, PySem.W.keyToksAll] at h
    rw [show (Sum.inl (1:Int) :: ([Sum.inl ((e.1.length : Nat) : Int)] ++ (Sum.inl (1:Int) :: (PySem.W.keyToksAll (e.1.map PyData.int) ++ [Sum.inl (0:Int)]))) : List (Int ⊕ List Nat)) = [Sum.inl 1] ++ (Sum.inl ((e.1.length : Nat) : Int) :: (Sum.inl (1:Int) :: (PySem.W.keyToksAll (e.1.map PyData.int) ++ [Sum.inl (0:Int)]))) from rfl,
      show (Sum.inl (1:Int) :: ([Sum.inl ((f.1.length : Nat) : Int)] ++ (Sum.inl (1:Int) :: (PySem.W.keyToksAll (f.1.map PyData.int) ++ [Sum.inl (0:Int)]))) : List (Int ⊕ List Nat)) = [Sum.inl 1] ++ (Sum.inl ((f.1.length : Nat) : Int) :: (Sum.inl (1:Int) :: (PySem.W.keyToksAll (f.1.map PyData.int) ++ [Sum.inl (0:Int)]))) from rfl,
      PySem.W.lex_pre, PySem.W.lex_atom (fun z => by have := Sum.inl.inj z; omega)] at h
    have e1 := PySem.W.dataLt_int (e.1.length : Int) (f.1.length : Int)
    unfold PySem.W.dataLt at e1
    simp only [PySem.W.keyToks] at e1
    rw [e1] at h
    have := of_decide_eq_true h
    omega
  · exact ge
/-! ### what least_trees does -/
abbrev LS := List Str × (Str → Ent)
def setL (L : Str → Ent) (k : Str) (e : Ent) : Str → Ent := fun j => if j = k then e else L j
def tagOf (rs : List Row) (r : Row) : Nat := (makersOf rs r.1).idxOf r.2.1
def stepL (rs : List Row) (s : LS) (r : Row) : LS := match nodeOf s.1 s.2 (tagOf rs r) r.2.1 r.2.2 with
  | none => s
  | some e => if r.1 ∉ s.1 ∨ entLt e (s.2 r.1) = true then (addNew s.1 r.1, setL s.2 r.1 e) else s
def roundL (rs : List Row) (s : LS) : LS := rs.foldl (stepL rs) s
def noEnt : Ent := ([], .none)
def leastN (rs : List Row) : Nat → LS
  | 0 => ([], fun _ => noEnt)
  | n + 1 => roundL rs (leastN rs n)
def leastOf (rs : List Row) : LS := leastN rs (distinct (rkinds rs)).length
def bnd : Nat → Nat
  | 0 => 1
  | n + 1 => 1 + 4 * bnd n
theorem bnd_pos : ∀ n, 1 ≤ bnd n
  | 0 => Nat.le_refl _
  | n + 1 => by unfold bnd; omega
theorem bnd_succ (n : Nat) : bnd n ≤ bnd (n + 1) := by show _ ≤ 1 + 4 * bnd n; omega
theorem bnd_mono {a b : Nat} (h : a ≤ b) : bnd a ≤ bnd b := by
  induction h with
  | refl => exact Nat.le_refl _
  | step _ ih => exact Nat.le_trans ih (bnd_succ _)
theorem nodeGo_len {ks : List Str} {L : Str → Ent} {B : Nat} (hB : 1 ≤ B) (hL : ∀ k ∈ ks, (L k).1.length ≤ B) : ∀ (ps : List Part) (row : List Int) (ts : List PyData) (z : List Int × List PyData), nodeGo ks L ps row ts = some z → z.1.length ≤ row.length + ps.length * B
  | [], row, ts, z, h => by
    have : (row, ts) = z := Option.some.inj h
    rw [← this]; simp
  | p :: ps, row, ts, z, h => by
    have h : (if p.2.1 = ("byte" : Str) then nodeGo ks L ps (row ++ [0]) (ts ++ [.int 0]) else if p.2.1 ∈ ks then nodeGo ks L ps (row ++ (L p.2.1).1) (ts ++ [(L p.2.1).2]) else none) = some z := h
    have em : (ps.length + 1) * B = ps.length * B + B := Nat.succ_mul _ _
    rw [List.length_cons, em]
    split at h
    · have := nodeGo_len hB hL ps _ _ z h
      rw [List.length_append, List.length_singleton] at this; omega
    · split at h
      · rename_i hk
        have := nodeGo_len hB hL ps _ _ z h
        have := hL _ hk
        rw [List.length_append] at *; omega
      · cases h
theorem nodeOf_len {ks : List Str} {L : Str → Ent} {B : Nat} (hB : 1 ≤ B) (hL : ∀ k ∈ ks, (L k).1.length ≤ B) {tag : Int} {m : Str} {ps : List Part} {e : Ent} (h4 : ps.length ≤ 4) (h : nodeOf ks L tag m ps = some e) : e.1.length ≤ 1 + 4 * B := by
  unfold nodeOf at h
  obtain ⟨z, hz, rfl⟩ := Option.map_eq_some_iff.mp h
  have := nodeGo_len hB hL ps _ _ z hz
  have h2 : ps.length * B ≤ 4 * B := Nat.mul_le_mul_right _ h4
  simp at this ⊢; omega
theorem nodeGo_some {ks : List Str} {L : Str → Ent} : ∀ (ps : List Part) (row : List Int) (ts : List PyData), (∀ p ∈ ps, p.2.1 = ("byte" : Str) ∨ p.2.1 ∈ ks) → ∃ z, nodeGo ks L ps row ts = some z
  | [], row, ts, _ => ⟨_, rfl⟩
  | p :: ps, row, ts, h => by
    show ∃ z, (if p.2.1 = ("byte" : Str) then nodeGo ks L ps (row ++ [0]) (ts ++ [.int 0]) else if p.2.1 ∈ ks then nodeGo ks L ps (row ++ (L p.2.1).1) (ts ++ [(L p.2.1).2]) else none) = some z
    have hr : ∀ q ∈ ps, q.2.1 = ("byte" : Str) ∨ q.2.1 ∈ ks := fun q hq => h q (List.mem_cons_of_mem _ hq)
    split
    · exact nodeGo_some ps _ _ hr
    · rename_i hb
      rw [if_pos ((h p (List.mem_cons_self ..)).resolve_left hb)]
      exact nodeGo_some ps _ _ hr
/-- what holds of the state between two rows -/
structure LInv (rs : List Row) (s : LS) : Prop where
  nd : s.1.Nodup
  sub : ∀ k ∈ s.1, k ∈ rkinds rs
  len : ∀ k ∈ s.1, (s.2 k).1.length ≤ bnd s.1.length
theorem LInv.small {rs : List Row} {s : LS} (h : LInv rs s) (h4 : (distinct (rkinds rs)).length ≤ 4) : ∀ k ∈ s.1, (s.2 k).1.length ≤ 10000 := by
  intro k hk
  have h1 : s.1.length ≤ 4 := Nat.le_trans (nodup_sub_len _ _ h.nd fun x hx => mem_distinct.mpr (h.sub x hx)) h4
  have := h.len k hk
  have := bnd_mono h1
  have : bnd 4 = 341 := rfl
  omega
theorem LInv.step {rs : List Row} {s : LS} (h : LInv rs s) {r : Row} (hr : r.1 ∈ rkinds rs) (h4 : r.2.2.length ≤ 4) : LInv rs (stepL rs s r) := by
  unfold stepL
  split
  · exact h
  · rename_i e he
    split
    · rename_i hc
      refine ⟨nodup_addNew h.nd, fun k hk => ?_, fun k hk => ?_⟩
      · rcases mem_addNew.mp hk with z | z
        · exact h.sub k z
        · rw [z]; exact hr
      · show (setL s.2 r.1 e k).1.length ≤ bnd (addNew s.1 r.1).length
        unfold setL
        by_cases hin : r.1 ∈ s.1
        · rw [addNew_of_mem hin]
          split
          · rename_i hk
            have lt : entLt e (s.2 r.1) = true := hc.resolve_left fun z => z hin
            exact Nat.le_trans (entLt_len lt) (h.len _ hin)
          · rename_i hk'
            rw [addNew_of_mem hin] at hk
            exact h.len k hk
        · rw [addNew_of_not hin, List.length_append]
          split
          · exact nodeOf_len (bnd_pos _) h.len h4 he
          · rename_i hk'
            rw [addNew_of_not hin] at hk
            have hk2 : k ∈ s.1 := by
              rcases List.mem_append.mp hk with z | z
              · exact z
              · exact absurd (List.mem_singleton.mp z) hk'
            exact Nat.le_trans (h.len k hk2) (bnd_succ _)
    · exact h
theorem LInv.zero (rs : List Row) : LInv rs (leastN rs 0) := by
  refine ⟨List.nodup_nil, ?_, ?_⟩
  · intro k hk; exact absurd (show k ∈ ([] : List Str) from hk) (List.not_mem_nil)
  · intro k hk; exact absurd (show k ∈ ([] : List Str) from hk) (List.not_mem_nil)
theorem stepL_mono (rs : List Row) (s : LS) (r : Row) : ∀ k ∈ s.1, k ∈ (stepL rs s r).1 := by
  intro k hk
  unfold stepL
  split
  · exact hk
  · split
    · exact mem_addNew.mpr (.inl hk)
    · exact hk
theorem foldL_mono (rs : List Row) : ∀ (l : List Row) (s : LS), ∀ k ∈ s.1, k ∈ (l.foldl (stepL rs) s).1
  | [], s, k, hk => hk
  | r :: l, s, k, hk => foldL_mono rs l _ k (stepL_mono rs s r k hk)
theorem stepL_has (rs : List Row) (s : LS) (r : Row) (h : ∀ p ∈ r.2.2, p.2.1 = ("byte" : Str) ∨ p.2.1 ∈ s.1) : r.1 ∈ (stepL rs s r).1 := by
  unfold stepL
  obtain ⟨z, hz⟩ := nodeGo_some (ks := s.1) (L := s.2) r.2.2 [(tagOf rs r : Int)] [.str r.2.1] h
  have e : nodeOf s.1 s.2 (tagOf rs r) r.2.1 r.2.2 = some (z.1, .tuple z.2) := by unfold nodeOf; rw [hz]; rfl
  rw [e]
  dsimp only
  split
  · exact mem_addNew.mpr (.inr rfl)
  · rename_i hc
    exact Decidable.byContradiction fun z => hc (.inl z)
theorem foldL_has (rs : List Row) : ∀ (l : List Row) (s : LS) (r : Row), r ∈ l → (∀ p ∈ r.2.2, p.2.1 = ("byte" : Str) ∨ p.2.1 ∈ s.1) → r.1 ∈ (l.foldl (stepL rs) s).1
  | [], s, r, hr, _ => by cases hr
  | a :: l, s, r, hr, h => by
    rcases List.mem_cons.mp hr with e | hr
    · subst e
      exact foldL_mono rs l _ _ (stepL_has rs s r h)
    · exact foldL_has rs l _ r hr fun p hp => (h p hp).imp id (stepL_mono rs s a _)
/-- each kind has a maker whose tree parts are of kinds of lower rank -/
structure FinOk (rs : List Row) (rank : Str → Nat) : Prop where
  lt : ∀ k ∈ rkinds rs, rank k < (distinct (rkinds rs)).length
  base : ∀ k ∈ rkinds rs, ∃ r ∈ rs, r.1 = k ∧ ∀ p ∈ r.2.2, p.2.1 = ("byte" : Str) ∨ (p.2.1 ∈ rkinds rs ∧ rank p.2.1 < rank k)
theorem leastN_has {rs : List Row} {rank : Str → Nat} (f : FinOk rs rank) : ∀ n k, k ∈ rkinds rs → rank k < n → k ∈ (leastN rs n).1
  | 0, k, _, h => absurd h (Nat.not_lt_zero _)
  | n + 1, k, hk, h => by
    obtain ⟨r, hr, e, hp⟩ := f.base k hk
    subst e
    exact foldL_has rs rs _ r hr fun p hpp => (hp p hpp).imp id fun z => leastN_has f n _ z.1 (by omega)
theorem least_all {rs : List Row} {rank : Str → Nat} (f : FinOk rs rank) : ∀ r ∈ rs, r.1 ∈ (leastOf rs).1 := fun r hr =>
  have hk : r.1 ∈ rkinds rs := List.mem_map.mpr ⟨r, hr, rfl⟩
  leastN_has f _ _ hk (f.lt _ hk)
end Bg
set_option Elab.async false
set_option linter.all false
set_option maxRecDepth 100000
set_option maxHeartbeats 4000000
namespace Bg
open PySem PySem.Spec PyProof.Rows L2
section
variable {P : Program} {w : World} {K : PySem.W.Frag} {mg : Str → Option Value} {base : Heap} {fd : FuncData}
/-- < of data that are alike -/
def rLtD (K : PySem.W.Frag) : R2 := fun x y H Q => ∃ d e, Dp K H x d ∧ Dp K H y e ∧ PySem.W.alike d e = true ∧ d ≠ .none ∧ min d.depth e.depth ≤ 60 ∧ Q (.bl (PySem.W.dataLt d e)) H
theorem op_ltD {X : Cx} (hu : X.A.units + 64 < cLine) : OpR X (compareOp .Lt) (rLtD X.K) := by
  intro pins s σ H x y v u Q I rx ry h
  obtain ⟨d, e, hd, he, al, nn, dp, q⟩ := h
  obtain ⟨as, r1⟩ := Dp.reads I d x v hd rx
  obtain ⟨bs, r2⟩ := Dp.reads I e y u he ry
  exact PySem.W.rcLt_alike d e X.A s v u as bs r1 r2 al nn (by omega) X.prog X.w X.xe _ ⟨.bl _, H, I, rfl, q⟩
theorem dpAll_ints {K : PySem.W.Frag} {H : Hp} : ∀ ns : List Int, DpAll K H (ns.map V.int) (ns.map PyData.int)
  | [] => .nil
  | n :: r => .cons (.int n) (dpAll_ints r)
theorem alikeAll_ints : ∀ (a b : List Int), PySem.W.alikeAll (a.map PyData.int) (b.map PyData.int) = true
  | [], _ => by simp [PySem.W.alikeAll]
  | _ :: _, [] => by simp [PySem.W.alikeAll]
  | x :: r, y :: t => by
    have := alikeAll_ints r t
    simp only [List.map_cons, PySem.W.alikeAll, PySem.W.alike, this] <;> rfl
theorem depthAll_ints : ∀ (a : List Int), PyData.depthAll (a.map PyData.int) ≤ 1
  | [] => by simp [PyData.depthAll]
  | x :: r => by
    have := depthAll_ints r
    simp only [List.map_cons, PyData.depthAll, PyData.depth]; omega
theorem entD_alike (e f : Ent) : PySem.W.alike (entD e) (entD f) = true := by
  unfold entD; simp only [PySem.W.alike, PySem.W.alikeAll, alikeAll_ints] <;> rfl
theorem entD_depth (e : Ent) : (entD e).depth ≤ 60 := by
  unfold entD
  have := depthAll_ints e.1
  simp only [PyData.depth, PyData.depthAll]; omega
theorem mem_idxOf {ks : List Str} {k : Str} (h : k ∈ ks) : ks[ks.idxOf k]? = some k ∧ ∀ m, m < ks.idxOf k → ks[m]? ≠ some k := by
  have lt := List.idxOf_lt_length_of_mem h
  refine ⟨by rw [List.getElem?_eq_getElem lt, List.getElem_idxOf], fun m hm z => ?_⟩
  have hm2 : m < ks.length := by omega
  have := List.not_of_lt_findIdx (p := (· == k)) hm
  rw [List.getElem?_eq_getElem hm2] at z
  have e := Option.some.inj z
  simp [e] at this
/-- the state of least_trees, in the heap -/
def LsAt (H : Hp) (d : Addr) (s : LS) : Prop := ∃ kvs, H d = some (.dK kvs) ∧ LeastD H kvs s.1 s.2
def spLeastTrees : Sp := fun vs H Q _ => ∃ (a : Addr) (rs : List Row), vs = [.ref a] ∧ RowsAt H a rs ∧ rs.length ≤ 1000 ∧ (∀ r ∈ rs, r.2.2.length ≤ 4) ∧ (distinct (rkinds rs)).length ≤ 4 ∧ ∀ d H', Same H H' → H d = none → LsAt H' d (leastOf rs) → Q (.ref d) H'
theorem ok_least_trees (T : Tx K mg) (F : FnP K ("least_trees", none) "least_trees" "least_trees" s_least_trees fd) : FnOk P w K mg base CX0 2 (He.fAd K ("least_trees", none)) fd ["rows"] spLeastTrees := by
  obtain ⟨f1, F1⟩ := T.F_makers_by_kind
  obtain ⟨f2, F2⟩ := T.F_least_node
  refine F.ok sc_least_trees (fun vs H Q E h => ?_) (fun cdv A outer s H vs Q E hr h => ?_)
  · obtain ⟨x, p, rfl, _⟩ := h; rfl
  obtain ⟨a, rs, rfl, ⟨us, ha, al⟩, n1000, n4, k4, q⟩ := h
  have hu := hu_of hr
  have nd := sc_least_trees.nd
  refine ⟨_, PSs.nox (pss_cons (ps_set (i := 1) nd rfl (.inl rfl) (pe_call (ok_makers_by_kind T F1) (hr.mono (by decide)) (by rfl) T.g_makers_by_kind T.k_makers_by_kind (b_makers_by_kind F1) .nil pass0 (pa_cons (pv 0) pa_nil)))
    (pss_cons (ps_set (i := 2) nd rfl (.inl rfl) pe_dnewK)
    (pss_cons (ps_lock (ps_for PassesOwn.never rfl (pi_keys (pv 1)) (pg_name (i := 3) nd rfl (.inl rfl))
      (pss_one (ps_for PassesOwn.never rfl (pi_list (pv 0)) (pg_tup rfl (pgs_cons (pg_name (i := 4) nd rfl (.inl rfl)) (pgs_cons (pg_name (i := 5) nd rfl (.inl rfl)) (pgs_cons (pg_name (i := 6) nd rfl (.inl rfl)) pgs_nil))))
        (pss_cons (ps_set (i := 7) nd rfl (.inl rfl) (pe_call (ok_least_node T F2) (hr.mono (by decide)) (by rfl) T.g_least_node T.k_least_node (b_least_node F2) .nil pass0
            (pa_cons (pe_tm1 PySem.F.slot_tuple_index PySem.F.type_tuple_index mt_tup_index (pe_dget hu (pv 1) (pv 4) (fun _ _ => rfl)) (pv 5)) (pa_cons (pv 5) (pa_cons (pv 6) (pa_cons (pv 2) pa_nil))))))
        (pss_one (ps_if (PW.pt (pw_and (pt_cmpR op_notN (pv 7) pe_non (nomark _)) (pw_and1 (PW.pt (pw_or (pt_cmp (pc_dnotin hu (pv 4) (pv 2)))
            (pw_or1 (pt_cmpR (op_ltD hr.units) (pe_slice sl_tup (pv 7) po_none (po_some pe_int)) (pe_slice sl_tup (pe_dget hu (pv 2) (pv 4) (fun _ _ => rfl)) po_none (po_some pe_int)) (nomark _))))))))
          (pss_one (ps_dput hu (pv 2) (pv 4) (pv 7) rfl)) pss_nil)))))))
    (pss_one (ps_ret (pv 2)))))), ?_⟩
  refine ⟨_, rfl, a, rs, rfl, ⟨us, ha, al⟩, n1000, fun dm mvs H1 s1 hdm hM mkd => ?_⟩
  intro dl hdl
  have hdl0 : H dl = none := s1.free hdl
  have kne : dm ≠ dl := ne_of_none hM hdl
  have s2 : Same H (upd H1 dl (.dK [])) := s1.trans (same_new hdl)
  have hM2 := (same_new (o := .dK []) hdl) _ _ hM
  refine ⟨dm, _, hM2, trivial, fun od => ?_⟩
  have s3 : Same H (upd (upd H1 dl (.dK [])) dm (.frz od (.dK mvs))) := same_mut s2 hdm
  have kl : mvs.length = (distinct (rkinds rs)).length := KD.length mkd
  -- what stands within the loops
  refine ⟨_, rfl, dm, od, rfl, .inl ⟨mvs, upd_same, for_it (walk_keys (d := dm) (o := od) (kvs := mvs)) (fun i σ H2 => (∃ v3 v4 v5 v6 v7, σ = [some (.ref a), some (.ref dm), some (.ref dl), v3, v4, v5, v6, v7]) ∧ Same H H2 ∧ H2 dm = some (.frz od (.dK mvs)) ∧ MkD H2 mvs rs ∧
    LsAt H2 dl (leastN rs i) ∧ LInv rs (leastN rs i)) ?_ (fun i σ H2 _ z => z.2.2.1) ?_ ?_⟩⟩
  · refine ⟨⟨_, _, _, _, _, rfl⟩, s3, upd_same, mkd.mono ?_, ⟨[], by rw [upd_ne kne.symm, upd_same], KD.nil⟩, LInv.zero rs⟩
    exact (tups_new hdl).trans (tups_upd fun u f z => by rw [hM2] at z; cases z; exact f)
  · rintro j x σ H2 H3 hj ⟨⟨v3, v4, v5, v6, v7, rfl⟩, sm, hfz, mk2, ls, li⟩ ⟨rfl, k, v, hkv, rfl⟩
    refine ⟨_, rfl, a, rfl, ⟨_, .inl (.inl (sm _ _ ha))⟩, for_it (walk_list (K := K) (a := a) (xs := us)) (fun i σ H4 => (∃ v3 v4 v5 v6 v7, σ = [some (.ref a), some (.ref dm), some (.ref dl), v3, v4, v5, v6, v7]) ∧ Same H H4 ∧ H4 dm = some (.frz od (.dK mvs)) ∧ MkD H4 mvs rs ∧
      LsAt H4 dl ((rs.take i).foldl (stepL rs) (leastN rs j)) ∧ LInv rs ((rs.take i).foldl (stepL rs) (leastN rs j))) ⟨⟨_, _, _, _, _, rfl⟩, sm, hfz, mk2, ls, li⟩ (fun i σ H4 _ z => .inl (.inl (z.2.1 _ _ ha))) ?_ ?_⟩
    · rintro i x σ H4 H5 hi ⟨⟨v3, v4, v5, v6, v7, rfl⟩, sm, hfz, mk2, ⟨lvs, hL, kd⟩, li⟩ ⟨rfl, hx⟩
      obtain ⟨r, hrr, b, u, rfl, hb, pa⟩ := al.get hx
      have hmem := List.mem_of_getElem? hrr
      have hk : r.1 ∈ rkinds rs := List.mem_map.mpr ⟨r, hmem, rfl⟩
      generalize hs : (rs.take i).foldl (stepL rs) (leastN rs j) = st at kd li
      have est : (rs.take (i + 1)).foldl (stepL rs) (leastN rs j) = stepL rs st r := by
        rw [take_succ_of hrr, List.foldl_append, hs] <;> rfl
      have li' : LInv rs (stepL rs st r) := li.step hk (n4 r hmem)
      refine ⟨b, _, rfl, .inl (.inl (sm _ _ hb)), rfl, _, _, rfl, _, _, rfl, _, _, rfl, rfl, ?_⟩
      obtain ⟨mv, emv, t, to, rfl, hto, ht⟩ := KD.some mk2 (mem_distinct.mpr hk)
      have hmk : r.2.1 ∈ makersOf rs r.1 := List.mem_map.mpr ⟨r, List.mem_filter.mpr ⟨hmem, by simp⟩, rfl⟩
      obtain ⟨ix1, ix2⟩ := mem_idxOf hmk
      refine ⟨_, rfl, _, rfl, dm, _, rfl, .inl ⟨mvs, Sum.inr r.1, .inr ⟨od, hfz⟩, rfl, emv.symm⟩, ⟨t, to, _, rfl, hto, ht⟩, _, rfl, t, _, r.2.1, _, rfl, rfl, sqT_frz ht, ix1, ix2, _, rfl, _, rfl, _, rfl,
        (tagOf rs r : Int), r.2.1, u, dl, r.2.2, lvs, st.1, st.2, rfl, pa.mono (tups_of sm), n4 r hmem, hL, kd, li.small k4, fun nv H6 s6 hn => ?_⟩
      have sm6 : Same H H6 := sm.trans s6
      have hfz6 := s6 _ _ hfz
      have hL6 := s6 _ _ hL
      have mk6 : MkD H6 mvs rs := mk2.mono (tups_of s6)
      have kd6 : LeastD H6 lvs st.1 st.2 := KD.mono kd fun _ _ z => z.mono s6
      have ll : lvs.length ≤ 1000 := by
        rw [KD.length kd]
        have := nodup_sub_len _ _ li.nd fun x hx => mem_distinct.mpr (li.sub x hx)
        omega
      refine ⟨_, rfl, rfl, _, rfl, ?_⟩
      cases hnode : nodeOf st.1 st.2 (tagOf rs r) r.2.1 r.2.2 with
      | none =>
        rw [hnode] at hn
        have hn : nv = .non := hn
        subst hn
        refine iteF ⟨⟨_, _, _, _, _, rfl⟩, sm6, hfz6, mk6, ?_, ?_⟩
        · rw [est]; unfold stepL; rw [hnode]; exact ⟨lvs, hL6, kd6⟩
        · rw [est]; exact li'
      | some e =>
        rw [hnode] at hn
        obtain ⟨nt, nl, ntr, rfl, hnt, hnl, htd⟩ := hn
        refine iteT ?_
        -- the entry is stored
        have put : ∀ H7, Same H6 H7 → (r.1 ∉ st.1 ∨ entLt e (st.2 r.1) = true) → Same H (upd H7 dl (.dK (putK lvs (Sum.inr r.1) (.ref nt)))) ∧ (upd H7 dl (.dK (putK lvs (Sum.inr r.1) (.ref nt)))) dm = some (.frz od (.dK mvs)) ∧ MkD (upd H7 dl (.dK (putK lvs (Sum.inr r.1) (.ref nt)))) mvs rs ∧
            LsAt (upd H7 dl (.dK (putK lvs (Sum.inr r.1) (.ref nt)))) dl ((rs.take (i + 1)).foldl (stepL rs) (leastN rs j)) ∧ LInv rs ((rs.take (i + 1)).foldl (stepL rs) (leastN rs j)) := by
          intro H7 s7 hc
          have tp : Tups H7 (upd H7 dl (.dK (putK lvs (Sum.inr r.1) (.ref nt)))) := tups_upd fun u f z => by rw [s7 _ _ hL6] at z; cases z; exact f
          have up : ∀ b o, b ≠ dl → H7 b = some o → (upd H7 dl (.dK (putK lvs (Sum.inr r.1) (.ref nt)))) b = some o := fun b o nb e => by rw [upd_ne nb]; exact e
          have ent : ∀ v e', EntAt H6 v e' → EntAt (upd H7 dl (.dK (putK lvs (Sum.inr r.1) (.ref nt)))) v e' := by
            rintro v e' ⟨a1, a2, a3, rfl, h1, h2, h3⟩
            have n1 : a1 ≠ dl := ne_of h1 hL6 (by intro z; cases z)
            have n2 : a2 ≠ dl := ne_of h2 hL6 (by intro z; cases z)
            exact ⟨a1, a2, a3, rfl, up _ _ n1 (s7 _ _ h1), up _ _ n2 (s7 _ _ h2), h3.mono ((tups_of s7).trans tp)⟩
          refine ⟨same_mut (sm6.trans s7) hdl0, up _ _ kne (s7 _ _ hfz6), mk6.mono ((tups_of s7).trans tp), ?_, by rw [est]; exact li'⟩
          have e2 : stepL rs st r = (addNew st.1 r.1, setL st.2 r.1 e) := by unfold stepL; rw [hnode]; exact if_pos hc
          rw [est, e2]
          refine ⟨_, upd_same, KD.put (k := r.1) kd6 (fun k' u' hk' hu' => ?_) ?_⟩
          · show EntAt _ u' (setL st.2 r.1 e k')
            unfold setL; rw [if_neg hk']; exact ent _ _ hu'
          · show EntAt _ (.ref nt) (setL st.2 r.1 e r.1)
            unfold setL; rw [if_pos rfl]; exact ent _ _ ⟨nt, nl, ntr, rfl, hnt, hnl, htd⟩
        refine ⟨_, rfl, _, rfl, dl, _, rfl, DGet.k (k := Sum.inr r.1) hL6, _, rfl, ?_⟩
        rw [KD.isSome kd6]
        by_cases hin : r.1 ∈ st.1
        · rw [decide_eq_true hin]
          obtain ⟨lv, elv, lt, lq, ltr, rfl, hlt, hlq, hltd⟩ := KD.some kd6 hin
          refine iteF ⟨_, rfl, _, rfl, nt, _, rfl, SqT.of hnt, (by show ¬ (HT.sIx 3 0 none = 0 ∧ HT.sIx 3 3 (some 2) = 3); decide), fun p1 hp1 => ?_⟩
          have s61 := same_new (o := .tup (cutV [.int (e.1.length : Nat), .ref nl, ntr] none (some 2))) hp1
          refine ⟨_, rfl, _, rfl, dl, _, rfl, (by rw [← elv]; exact DGet.k (k := Sum.inr r.1) (s61 _ _ hL6)), _, rfl, lt, _, rfl, SqT.of (s61 _ _ hlt), (by show ¬ (HT.sIx 3 0 none = 0 ∧ HT.sIx 3 3 (some 2) = 3); decide), fun p2 hp2 => ?_⟩
          have s62 := s61.trans (same_new (o := .tup (cutV [.int ((st.2 r.1).1.length : Nat), .ref lq, ltr] none (some 2))) hp2)
          refine ⟨entD e, entD (st.2 r.1), .tup (SqT.of ((same_new hp2) _ _ upd_same)) (.cons (.int _) (.cons (.lst (SqL.of (s62 _ _ hnl)) (dpAll_ints _)) .nil)), .tup (SqT.of upd_same) (.cons (.int _) (.cons (.lst (SqL.of (s62 _ _ hlq)) (dpAll_ints _)) .nil)),
            entD_alike _ _, (by intro z; cases z), Nat.le_trans (Nat.min_le_left _ _) (entD_depth _), _, rfl, ite2 (fun h1 => ?_) (fun h1 => ?_)⟩
          · obtain ⟨z1, z2⟩ := put _ s62 (.inr h1)
            exact ⟨_, rfl, _, rfl, _, rfl, dl, _, rfl, DPut.k (k := Sum.inr r.1) (s62 _ _ hL6) (small1000 ll), ⟨_, _, _, _, _, rfl⟩, z1, z2⟩
          · refine ⟨⟨_, _, _, _, _, rfl⟩, sm6.trans s62, s62 _ _ hfz6, mk6.mono (tups_of s62), ?_, by rw [est]; exact li'⟩
            have e2 : stepL rs st r = st := by
              unfold stepL; rw [hnode]
              exact if_neg fun z => z.elim (fun y => y hin) h1
            rw [est, e2]
            exact ⟨lvs, s62 _ _ hL6, KD.mono kd6 fun _ _ z => z.mono s62⟩
        · rw [decide_eq_false hin]
          obtain ⟨z1, z2⟩ := put _ (Same.refl _) (.inl hin)
          exact iteT (iteT ⟨_, rfl, _, rfl, _, rfl, dl, _, rfl, DPut.k (k := Sum.inr r.1) hL6 (small1000 ll), ⟨_, _, _, _, _, rfl⟩, z1, z2⟩)
    · rintro σ H4 ⟨⟨v3, v4, v5, v6, v7, rfl⟩, z⟩
      rw [al.1, List.take_length] at z
      exact ⟨⟨_, _, _, _, _, rfl⟩, z⟩
  · rintro σ H2 ⟨⟨v3, v4, v5, v6, v7, rfl⟩, sm, hfz, mk2, ls, li⟩
    rw [kl] at ls
    obtain ⟨lvs, hL, kd⟩ := ls
    have up : ∀ b o, b ≠ dm → H2 b = some o → (upd H2 dm (.dK mvs)) b = some o := fun b o nb e => by rw [upd_ne nb]; exact e
    have tp : Tups H2 (upd H2 dm (.dK mvs)) := tups_upd fun u f z => by rw [hfz] at z; cases z; exact f
    refine ⟨hfz, _, rfl, q dl _ (same_mut sm hdm) hdl0 ⟨lvs, up _ _ kne.symm hL, KD.mono kd fun k v z => ?_⟩⟩
    obtain ⟨a1, a2, a3, rfl, h1, h2, h3⟩ := z
    exact ⟨a1, a2, a3, rfl, up _ _ (ne_of h1 hfz (by intro z; cases z)) h1, up _ _ (ne_of h2 hfz (by intro z; cases z)) h2, h3.mono tp⟩
end
end Bg
set_option Elab.async false
set_option linter.all false
set_option maxRecDepth 100000
set_option maxHeartbeats 4000000
/-! tuple(d), d a dict: the keys in their order -/
namespace Bg
open PySem PySem.Spec PyProof.Rows L2 PySem.W
section
variable {prog : Program} {w : World} {T : String} {r d : Addr} {n : Nat} {Pk : Nat → Value → Prop} {OK : Heap → Prop}
theorem gather {A : Around} {E : Value → Shared → Prop} {s : Shared} {Q : List Value → Shared → Prop} (src : KdlSrc prog w T r d n Pk OK) (calm : A.handled = none) (ok : OK s.heap) (few : n ≤ sizeLine)
    (want : ∀ (h' : Heap) (tk : Nat) (got : Array Value), (∀ b o, s.heap.get? b = some o → h'.get? b = some o) → ItemsOf Pk got n → Q got.toList { s with heap := h', toks := tk }) : wpAny (model prog w) A (collect (.ref r)) Q E s := by
  obtain ⟨hr, hd⟩ := src.there _ ok
  unfold collect
  refine wpAny_bind (wpAny_runValue (codeAny_builtin PySem.F.entry_proto_collect ?_))
  rw [Around.under_plainId PySem.F.plain_proto_collect _]
  show wpAny _ A.in1 (newList [] >>= fun l => again (.builtin "list.__iadd__" ⟨[l, .ref r], []⟩)) _ _ s
  refine wpAny_bind (wpAny_newObj_type (wpAny_pure ⟨plainId_quiet PySem.F.plain_list_iadd _, codeAny_builtin PySem.F.entry_list_iadd ?_⟩))
  rw [Around.under_plainId PySem.F.plain_list_iadd _]
  show wpAny _ A.in1 (Builtin.List.listExtendWith (.ref s.heap.objs.size) (.ref r) (.ref s.heap.objs.size)) _ _ _
  have kept : ∀ b o, s.heap.get? b = some o → (s.heap.push { cls := .type "list", data := .seq ([] : List Value).toArray }).get? b = some o := fun b o e => Heap.get?_push_of_some _ e
  have end' : ∀ (h' : Heap) (tk : Nat) (got : Array Value) (c : Nat), (∀ b o, b ≠ s.heap.objs.size → (s.heap.push { cls := .type "list", data := .seq ([] : List Value).toArray }).get? b = some o → h'.get? b = some o) →
      h'.get? s.heap.objs.size = some { cls := .type "list", dict := none, data := .seq got c, slots := #[] } → ItemsOf Pk got n →
      wpAny (model prog w) A (load s.heap.objs.size >>= fun o => match o.data with | .seq items _ => pure items.toList | _ => pure []) Q E { s with heap := h', toks := tk } := fun h' tk got c hk e hi =>
    wpAny_bind (wpAny_load e (wpAny_pure (want h' tk got (fun b o q => hk b o (Nat.ne_of_lt (Heap.lt_size q)) (kept b o q)) hi)))
  refine wpAny_mono (kdl_extend (A := A) (R := fun res s' => res = .ok (.ret (.ref s.heap.objs.size)) ∧ ∃ (h' : Heap) (tk : Nat) (got : Array Value) (c : Nat), s' = { s with heap := h', toks := tk } ∧ (∀ b o, s.heap.get? b = some o → h'.get? b = some o) ∧
      h'.get? s.heap.objs.size = some { cls := .type "list", dict := none, data := .seq got c, slots := #[] } ∧ ItemsOf Pk got n) (s := { s with heap := s.heap.push { cls := .type "list", data := .seq ([] : List Value).toArray } }) src calm
    (src.keep _ _ ok fun b _ o e => kept b o e) s.heap.objs.size (Nat.ne_of_gt hr) (Nat.ne_of_gt hd) _ 0 (Heap.get?_push_size _ rfl) (fun h' tk got c hk e hi => ⟨rfl, h', tk, got, c, rfl, fun b o q => hk b o (Nat.ne_of_lt (Heap.lt_size q)) (kept b o q), e, hi⟩) few)
    (fun fin s' z => ?_) (fun e s' z => absurd z.1 (by simp))
  cases fin with
  | done f =>
    obtain ⟨e, h', tk, got, c, rfl, hk, hS, hi⟩ := z
    cases e
    show wpAny _ A (load s.heap.objs.size >>= _) _ _ _
    exact wpAny_bind (wpAny_load hS (wpAny_pure (want h' tk got hk hi)))
  | again c' =>
    refine ⟨z.1, codeAny_mono z.2 fun res s'' y => ?_⟩
    obtain ⟨rfl, h', tk, got, c, rfl, hk, hS, hi⟩ := y
    show wpAny _ A (load s.heap.objs.size >>= _) _ _ _
    exact wpAny_bind (wpAny_load hS (wpAny_pure (want h' tk got hk hi)))
theorem tuple_new {A : Around} {E : Value → Shared → Prop} {s : Shared} {Q₁ : Value → Shared → Prop} (src : KdlSrc prog w T r d n Pk OK) (calm : A.handled = none) (ok : OK s.heap) (few : n ≤ sizeLine)
    (want : ∀ (h' : Heap) (tk : Nat) (got : Array Value), (∀ b o, s.heap.get? b = some o → h'.get? b = some o) → ItemsOf Pk got n → Q₁ (.ref h'.objs.size) { s with heap := h'.push { cls := .type "tuple", data := .seq got }, toks := tk }) :
    codeAny (model prog w) A (.call (.builtin "tuple.__new__") ⟨[.type "tuple", .ref r], []⟩) (wants Q₁ E) s := by
  refine codeAny_of_tree ?_
  show wpAny _ A.in1 (do checkBuiltinCall "tuple.__new__" ⟨[.type "tuple", .ref r], []⟩; again (.builtin "tuple.__new__" ⟨[.type "tuple", .ref r], []⟩)) _ _ s
  refine wpAny_bind (wpAny_of_eq (PySem.F.newCall_tuple_1 _) (wpAny_pure ⟨plainId_quiet PySem.F.plain_tuple_new _, codeAny_builtin PySem.F.entry_tuple_new ?_⟩))
  rw [Around.under_plainId PySem.F.plain_tuple_new _]
  have q1 := sub_tuple_self
  have q2 := init_tuple_lookup
  have q3 := madeHere_tuple
  have q4 : A.in1.handled = none := calm
  have q5 := src.notTuple
  have q6 := src.type s ok
  wp_walk using wpAny_typeOf q6, gather (A := A.in1) src q4 ok few
  intro h' tk got hk hi
  show wpAny _ _ (Builtin.Tuple.tupleExact got.toList.toArray >>= fun v => ret v) _ _ _
  unfold Builtin.Tuple.tupleExact
  rw [Array.toArray_toList]
  exact wpAny_bind (wpAny_newObj_type (wpAny_pure (want h' tk got hk hi)) (by show got.size ≤ sizeLine; rw [hi.1]; exact few))
theorem tuple_of {A : Around} {E : Value → Shared → Prop} {s : Shared} {Q : Value → Shared → Prop} (src : KdlSrc prog w T r d n Pk OK) (calm : A.handled = none) (ok : OK s.heap) (few : n ≤ sizeLine)
    (want : ∀ (h' : Heap) (tk : Nat) (got : Array Value), (∀ b o, s.heap.get? b = some o → h'.get? b = some o) → ItemsOf Pk got n → Q (.ref h'.objs.size) { s with heap := h'.push { cls := .type "tuple", data := .seq got }, toks := tk }) :
    wpAny (model prog w) A (call (.type "tuple") [.ref r]) Q E s := by
  refine callType_codes (Q₁ := fun obj s₁ => s₁.TypeIs obj "tuple" ∧ Q obj s₁) PySem.F.called_tuple (PySem.F.typeCall_tuple_1 _) PySem.F.entry_object_init (tuple_new (A := A.in1) src calm ok few fun h' tk got hk hi => ⟨⟨_, Heap.get?_push_size _ rfl, rfl⟩, want h' tk got hk hi⟩) fun obj s₁ y => ?_
  exact ⟨y.1, PySem.F.args_object_init_2 obj _, object_init_meets PySem.F.called_tuple.init.lookup PySem.F.called_tuple.made (by decide) prog w A.in1 _ s₁ ⟨y.1, rfl, y.2⟩⟩
end
def rTupD : List V → Hp → VK → Prop := fun xs H Q => ∃ p kvs, xs = [.ref p] ∧ H p = some (.dK kvs) ∧ ∀ q o, H q = none → o.dict = none → Q (.ref q) (upd H q (.frz o (.tup (kvs.map fun kv => kV kv.1))))
theorem call_tuple_dK {X : Cx} (calm : X.calm = true) : CallR X (.type "tuple") rTupD := by
  intro pins s σ H xs us Q I r h
  obtain ⟨p, kvs, rfl, hk, q⟩ := h
  obtain ⟨u, rfl, rx⟩ := vals1 r
  obtain rfl : u = Value.ref p := rx
  obtain ⟨z, lo, vs, rk, hd⟩ := (show ObjOk X.prog X.w H s.heap p (.dK kvs) from I.hok p _ hk)
  obtain ⟨ep, hat⟩ := hd.dictAt
  have hl : kvs.length = vs.length := Paired.length rk
  refine tuple_of (kdl_dict (knd := mixKind X.prog X.w) (kvs := vs) (ep := ep) lo) (I.ok.hd calm) hat (by rw [← hl]; exact z) fun h' tk got keep items => ?_
  have I' : Inv X pins σ H { s with heap := h', toks := tk } := I.kept keep
  have len : (kvs.map fun kv => kV kv.1).length = got.toList.length := by
    rw [List.length_map]
    have z1 : got.toList.length = got.size := by simp
    rw [z1, items.1, hl]
  have rel : Vals (kvs.map fun kv => kV kv.1) got.toList := by
    refine vals_of_at len fun j x w h1 h2 => ?_
    obtain ⟨k, y, hky, hi⟩ := items.2 j w (by rw [← Array.getElem?_toList]; exact h2)
    have e1 : (kvs.map (·.1))[j]? = some k := by rw [KV.keys rk, List.getElem?_map, hky]; rfl
    have e2 : (kvs.map fun kv => kV kv.1) = (kvs.map (·.1)).map kV := by rw [List.map_map]; rfl
    rw [e2, List.getElem?_map, e1] at h1
    cases h1
    exact keyIs_rel hi
  refine ⟨.ref h'.objs.size, _, I'.laid (t' := tk) (o := .frz { cls := .type "tuple", data := .seq got } (.tup (kvs.map fun kv => kV kv.1))) (fun b u e => Heap.get?_push_of_some _ e) (Nat.le_refl _) ?_, rfl, q _ _ (I'.hok.fresh (Nat.le_refl _)) rfl⟩
  refine ⟨Heap.get?_push_size _ rfl, by rw [List.length_map]; exact z, got.toList, rel, ?_⟩
  rw [Array.toArray_toList]
  exact IsTup.new _ _
end Bg
set_option Elab.async false
set_option linter.all false
set_option maxRecDepth 100000
set_option maxHeartbeats 4000000
namespace Bg
open PySem PySem.Spec PyProof.Rows L2
/-- all but lists stays -/
def Still (H H' : Hp) : Prop := ∀ b o, (∀ xs, o ≠ .lst xs) → H b = some o → H' b = some o
theorem Still.refl (H : Hp) : Still H H := fun _ _ _ h => h
theorem Still.trans {H H1 H2 : Hp} (a : Still H H1) (b : Still H1 H2) : Still H H2 := fun c o n h => b c o n (a c o n h)
theorem still_of {H H' : Hp} (s : Same H H') : Still H H' := fun b o _ h => s b o h
theorem still_but {a : Addr} {H H' : Hp} (s : But a H H') {xs : List V} (h : H a = some (.lst xs)) : Still H H' := fun b o n e => s b o (fun z => n xs (by rw [z, h] at e; exact (Option.some.inj e).symm)) e
theorem Still.tups {H H' : Hp} (s : Still H H') : Tups H H' := fun b u f e => s b u (fun xs z => by rw [z] at f; exact f) e
abbrev CK (K : PySem.W.Frag) : Addr := He.ga K "Kinds"
def kF1 (dm : Addr) : List (Str × V) := putF "_makers" (.ref dm) []
def kF2 (dm dk : Addr) : List (Str × V) := putF "_kinds" (.ref dk) (kF1 dm)
def kF3 (dm dk dp : Addr) : List (Str × V) := putF "_parts" (.ref dp) (kF2 dm dk)
def kF4 (dm dk dp dl : Addr) : List (Str × V) := putF "_least" (.ref dl) (kF3 dm dk dp)
def kF5 (dm dk dp dl tn : Addr) : List (Str × V) := putF "names" (.ref tn) (kF4 dm dk dp dl)
def kF6 (dm dk dp dl tn to : Addr) : List (Str × V) := putF "order" (.ref to) (kF5 dm dk dp dl tn)
theorem putF_len (f : Str) (v : V) : ∀ fs : List (Str × V), (putF f v fs).length ≤ fs.length + 1
  | [] => Nat.le_refl _
  | p :: r => by
    have ih := putF_len f v r
    show (if p.1 = f then (p.1, v) :: r else p :: putF f v r).length ≤ _
    split
    · exact Nat.le_succ _
    · rw [List.length_cons, List.length_cons]; omega
section
variable {dm dk dp dl tn to : Addr}
theorem kF_makers : (kF6 dm dk dp dl tn to).lookup ("_makers" : Str) = some (.ref dm) := by
  unfold kF6 kF5 kF4 kF3 kF2 kF1
  rw [lookup_putF, if_neg (by decide +kernel), lookup_putF, if_neg (by decide +kernel), lookup_putF, if_neg (by decide +kernel), lookup_putF, if_neg (by decide +kernel), lookup_putF, if_neg (by decide +kernel), lookup_putF, if_pos rfl]
theorem kF_kinds : (kF6 dm dk dp dl tn to).lookup ("_kinds" : Str) = some (.ref dk) := by
  unfold kF6 kF5 kF4 kF3 kF2
  rw [lookup_putF, if_neg (by decide +kernel), lookup_putF, if_neg (by decide +kernel), lookup_putF, if_neg (by decide +kernel), lookup_putF, if_neg (by decide +kernel), lookup_putF, if_pos rfl]
theorem kF_parts : (kF6 dm dk dp dl tn to).lookup ("_parts" : Str) = some (.ref dp) := by
  unfold kF6 kF5 kF4 kF3
  rw [lookup_putF, if_neg (by decide +kernel), lookup_putF, if_neg (by decide +kernel), lookup_putF, if_neg (by decide +kernel), lookup_putF, if_pos rfl]
theorem kF_least : (kF6 dm dk dp dl tn to).lookup ("_least" : Str) = some (.ref dl) := by
  unfold kF6 kF5 kF4
  rw [lookup_putF, if_neg (by decide +kernel), lookup_putF, if_neg (by decide +kernel), lookup_putF, if_pos rfl]
theorem kF_names : (kF6 dm dk dp dl tn to).lookup ("names" : Str) = some (.ref tn) := by
  unfold kF6 kF5
  rw [lookup_putF, if_neg (by decide +kernel), lookup_putF, if_pos rfl]
theorem kF_order : (kF6 dm dk dp dl tn to).lookup ("order" : Str) = some (.ref to) := by
  unfold kF6
  rw [lookup_putF, if_pos rfl]
theorem kF_no {m : Str} (h1 : ¬ m = "order") (h2 : ¬ m = "names") (h3 : ¬ m = "_least") (h4 : ¬ m = "_parts") (h5 : ¬ m = "_kinds") (h6 : ¬ m = "_makers") : (kF6 dm dk dp dl tn to).lookup m = none := by
  unfold kF6 kF5 kF4 kF3 kF2 kF1
  rw [lookup_putF, if_neg h1, lookup_putF, if_neg h2, lookup_putF, if_neg h3, lookup_putF, if_neg h4, lookup_putF, if_neg h5, lookup_putF, if_neg h6]
  rfl
theorem kF4_makers : (kF3 dm dk dp).lookup ("_makers" : Str) = some (.ref dm) := by
  unfold kF3 kF2 kF1
  rw [lookup_putF, if_neg (by decide +kernel), lookup_putF, if_neg (by decide +kernel), lookup_putF, if_pos rfl]
theorem kF4_makers' : (kF4 dm dk dp dl).lookup ("_makers" : Str) = some (.ref dm) := by
  unfold kF4
  rw [lookup_putF, if_neg (by decide +kernel), kF4_makers]
theorem kF5_kinds : (kF5 dm dk dp dl tn).lookup ("_kinds" : Str) = some (.ref dk) := by
  unfold kF5 kF4 kF3 kF2
  rw [lookup_putF, if_neg (by decide +kernel), lookup_putF, if_neg (by decide +kernel), lookup_putF, if_neg (by decide +kernel), lookup_putF, if_pos rfl]
theorem kF_len5 : (kF5 dm dk dp dl tn).length < 1000 := by
  have h1 := putF_len "_makers" (.ref dm) []
  have h2 := putF_len "_kinds" (.ref dk) (kF1 dm)
  have h3 := putF_len "_parts" (.ref dp) (kF2 dm dk)
  have h4 := putF_len "_least" (.ref dl) (kF3 dm dk dp)
  have h5 := putF_len "names" (.ref tn) (kF4 dm dk dp dl)
  unfold kF5 kF4 kF3 kF2 kF1 at *
  simp at h1; omega
theorem kF_len4 : (kF4 dm dk dp dl).length < 1000 := by
  have h1 := putF_len "_makers" (.ref dm) []
  have h2 := putF_len "_kinds" (.ref dk) (kF1 dm)
  have h3 := putF_len "_parts" (.ref dp) (kF2 dm dk)
  have h4 := putF_len "_least" (.ref dl) (kF3 dm dk dp)
  unfold kF4 kF3 kF2 kF1 at *
  simp at h1; omega
theorem kF_len3 : (kF3 dm dk dp).length < 1000 := by
  have h1 := putF_len "_makers" (.ref dm) []
  have h2 := putF_len "_kinds" (.ref dk) (kF1 dm)
  have h3 := putF_len "_parts" (.ref dp) (kF2 dm dk)
  unfold kF3 kF2 kF1 at *
  simp at h1; omega
theorem kF_len2 : (kF2 dm dk).length < 1000 := by
  have h1 := putF_len "_makers" (.ref dm) []
  have h2 := putF_len "_kinds" (.ref dk) (kF1 dm)
  unfold kF2 kF1 at *
  simp at h1; omega
theorem kF_len1 : (kF1 dm).length < 1000 := by
  have h1 := putF_len "_makers" (.ref dm) []
  unfold kF1
  simp at h1; omega
end
def KindD (kvs : List (Key × V)) (rs : List Row) : Prop := KD kvs (distinct (rmakers rs)) fun m v => ∃ r ∈ rs, r.2.1 = m ∧ v = .str r.1
def PartsD (H : Hp) (pvs : List (Key × V)) (rs : List Row) : Prop := KD pvs (distinct (rmakers rs)) fun m v => ∃ r ∈ rs, r.2.1 = m ∧ ∃ d hv, v = .ref d ∧ H d = some (.dK hv) ∧ HoldD H hv r.2.2
def LeastT (H : Hp) (lvs : List (Key × V)) (rs : List Row) : Prop := KD lvs (distinct (rkinds rs)) fun k v => Td H v ((leastOf rs).2 k).2
def KindsAt (K : PySem.W.Frag) (H : Hp) (x : Addr) (rs : List Row) : Prop := ∃ dx dm dk dp dl tn to mvs kvs pvs lvs, H x = some (.ins (CK K) dx (kF6 dm dk dp dl tn to)) ∧ (H dm = some (.dK mvs) ∧ MkD H mvs rs) ∧ (H dk = some (.dK kvs) ∧ KindD kvs rs) ∧
  (H dp = some (.dK pvs) ∧ PartsD H pvs rs) ∧ (H dl = some (.dK lvs) ∧ LeastT H lvs rs) ∧ TextsAt H (.ref tn) (distinct (rkinds rs)) ∧ TextsAt H (.ref to) (distinct (rmakers rs))
theorem PartsD.mono {H H' : Hp} (s : Still H H') {pvs : List (Key × V)} {rs : List Row} (h : PartsD H pvs rs) : PartsD H' pvs rs := KD.mono h fun _ _ z => by
  obtain ⟨r, m, e, d, hv, e2, hd, hh⟩ := z
  exact ⟨r, m, e, d, hv, e2, s _ _ (by intro _ z; cases z) hd, hh.mono s.tups⟩
theorem LeastT.mono {H H' : Hp} (s : Tups H H') {lvs : List (Key × V)} {rs : List Row} (h : LeastT H lvs rs) : LeastT H' lvs rs := KD.mono h fun _ _ z => z.mono s
theorem KindsAt.mono {K : PySem.W.Frag} {H H' : Hp} (s : Still H H') {x : Addr} {rs : List Row} (h : KindsAt K H x rs) : KindsAt K H' x rs := by
  obtain ⟨dx, dm, dk, dp, dl, tn, to, mvs, kvs, pvs, lvs, h0, ⟨h1, h2⟩, ⟨h3, h4⟩, ⟨h5, h6⟩, ⟨h7, h8⟩, h9, h10⟩ := h
  have nl : ∀ o, (∀ xs, o ≠ HO.lst xs) → ∀ b, H b = some o → H' b = some o := fun o n b e => s b o n e
  exact ⟨dx, dm, dk, dp, dl, tn, to, mvs, kvs, pvs, lvs, s _ _ (by intro _ z; cases z) h0, ⟨s _ _ (by intro _ z; cases z) h1, h2.mono s.tups⟩, ⟨s _ _ (by intro _ z; cases z) h3, h4⟩, ⟨s _ _ (by intro _ z; cases z) h5, h6.mono s⟩, ⟨s _ _ (by intro _ z; cases z) h7, h8.mono s.tups⟩, h9.mono s.tups, h10.mono s.tups⟩
structure ValidT (rs : List Row) : Prop where
  short : RowsShort rs
  ne : rs ≠ []
  each : EachOk rs
  inner : InnerOk rs
  fin : ∃ rank, FinOk rs rank
theorem ValidT.four {rs : List Row} (v : ValidT rs) : ∀ r ∈ rs, r.2.2.length ≤ 4 := fun r hr => by
  have := (v.each.good r hr).2.2
  unfold partsB at this
  simp at this
  exact this.1
end Bg
set_option Elab.async false
set_option linter.all false
set_option maxRecDepth 100000
set_option maxHeartbeats 4000000
namespace Bg
open PySem PySem.Spec PyProof.Rows L2
section
variable {P : Program} {w : World} {K : PySem.W.Frag} {mg : Str → Option Value} {base : Heap} {fd : FuncData}
theorem rmakers_len {rs : List Row} (i : Nat) : (distinct (rmakers (rs.take i))).length ≤ rs.length := by
  have := length_distinct (rmakers (rs.take i))
  unfold rmakers at *
  rw [List.length_map, List.length_take] at this
  omega
def spInit (K : PySem.W.Frag) : Sp := fun vs H Q _ => ∃ (x dx a : Addr) (rs : List Row), vs = [.ref x, .ref a] ∧ H x = some (.ins (CK K) dx []) ∧ RowsAt H a rs ∧ ValidT rs ∧ ∀ H', But x H H' → KindsAt K H' x rs → Q .non H'
theorem ok_init (T : Tx K mg) (F : FnP K ("Kinds", some "__init__") "__init__" "Kinds.__init__" s_Kinds_init fd) : FnOk P w K mg base CX0 6 (He.fAd K ("Kinds", some "__init__")) fd ["self", "rows"] (spInit K) := by
  obtain ⟨f1, F1⟩ := T.F_check_each_row
  obtain ⟨f2, F2⟩ := T.F_check_inner_kinds
  obtain ⟨f3, F3⟩ := T.F_least_trees
  obtain ⟨f4, F4⟩ := T.F_check_finite
  obtain ⟨f5, F5⟩ := T.F_makers_by_kind
  obtain ⟨f6, F6⟩ := T.F_holdings
  refine F.ok sc_Kinds_init (fun vs H Q E h => ?_) (fun cdv A outer s H vs Q E hr h => ?_)
  · obtain ⟨x, _, _, _, rfl, _⟩ := h; rfl
  obtain ⟨x, dx, a, rs, rfl, hx, hra, val, q⟩ := h
  obtain ⟨us, ha, al⟩ := id hra
  have hu := hu_of hr
  have nd := sc_Kinds_init.nd
  have cl := T.cl_Kinds
  refine ⟨_, PSs.nox (pss_cons (ps_if (pt_cmpR op_eq (pe_callB call_len_seq (by rfl) T.n_len PySem.boot_len (pa_cons (pv 1) pa_nil)) pe_int (nomark _)) (pss_one ps_never) pss_nil)
    (pss_cons (ps_expr (pe_call (ok_check_each_row T F1) hr (by rfl) T.g_check_each_row T.k_check_each_row (b_check_each_row F1) .nil pass0 (pa_cons (pv 1) pa_nil)))
    (pss_cons (ps_expr (pe_call (ok_check_inner_kinds T F2) (hr.mono (by decide)) (by rfl) T.g_check_inner_kinds T.k_check_inner_kinds (b_check_inner_kinds F2) .nil pass0 (pa_cons (pv 1) pa_nil)))
    (pss_cons (ps_set (i := 2) nd rfl (Or.inr rfl) (pe_call (ok_least_trees T F3) (hr.mono (by decide)) (by rfl) T.g_least_trees T.k_least_trees (b_least_trees F3) .nil pass0 (pa_cons (pv 1) pa_nil)))
    (pss_cons (ps_expr (pe_call (ok_check_finite T F4) (hr.mono (by decide)) (by rfl) T.g_check_finite T.k_check_finite (b_check_finite F4) .nil pass0 (pa_cons (pv 1) (pa_cons (pv 2) pa_nil))))
    (pss_cons (ps_fld (pv 0) (pe_call (ok_makers_by_kind T F5) (hr.mono (by decide)) (by rfl) T.g_makers_by_kind T.k_makers_by_kind (b_makers_by_kind F5) .nil pass0 (pa_cons (pv 1) pa_nil)) rfl)
    (pss_cons (ps_fld (pv 0) (pe_dc (own := [("kind", 3), ("maker", 4), ("parts", 5)]) (g := gRow K 3 4 5) rfl nd (pi_list (pv 1)) (blkOk_by (N := ["self", "rows", "least", "kind", "maker", "parts"]) (sc := defScope s_Kinds_init) (by decide +kernel))
      (fun _ _ _ _ _ => pg_tup rfl (pgs_cons (pg_name (i := 3) nd rfl (Or.inl rfl)) (pgs_cons (pg_name (i := 4) nd rfl (Or.inl rfl)) (pgs_cons (pg_name (i := 5) nd rfl (Or.inl rfl)) pgs_nil)))) (fun _ _ _ _ _ => pts_nil) (fun _ _ _ _ _ => pv 4) (fun _ _ _ _ _ => pv 3)) rfl)
    (pss_cons (ps_fld (pv 0) (pe_dc (own := [("kind", 3), ("maker", 4), ("parts", 5)]) (g := gRow K 3 4 5) rfl nd (pi_list (pv 1)) (blkOk_by (N := ["self", "rows", "least", "kind", "maker", "parts"]) (sc := defScope s_Kinds_init) (by decide +kernel))
      (fun _ _ _ _ _ => pg_tup rfl (pgs_cons (pg_name (i := 3) nd rfl (Or.inl rfl)) (pgs_cons (pg_name (i := 4) nd rfl (Or.inl rfl)) (pgs_cons (pg_name (i := 5) nd rfl (Or.inl rfl)) pgs_nil)))) (fun _ _ _ _ _ => pts_nil) (fun _ _ _ _ _ => pv 4)
      (fun _ _ _ _ _ => pe_call (sp := spHoldings) (E := E0) (ok_holdings T F6) (hr.mono (by decide)) (by rfl) T.g_holdings T.k_holdings (b_holdings F6) .nil pass0 (pa_cons (pv 5) pa_nil))) rfl)
    (pss_cons (ps_fld (pv 0) (pe_lock (pe_dc (own := [("kind", 3)]) (g := gName 3) rfl nd (pi_keys (pe_fld (pv 0) rfl)) (blkOk_by (N := ["self", "rows", "least", "kind", "maker", "parts"]) (sc := defScope s_Kinds_init) (by decide +kernel))
      (fun _ _ _ _ _ => pg_name (i := 3) nd rfl (Or.inl rfl)) (fun _ _ _ _ _ => pts_nil) (fun _ _ _ _ _ => pv 3) (fun _ _ _ _ _ => pe_ix (r := rIxT K) ix_tup (pe_dget hu (pv 2) (pv 3) (fun _ _ => rfl)) pe_int (fun _ _ => rfl)))) rfl)
    (pss_cons (ps_fld (pv 0) (pe_callTy (call_tuple_dK rfl) (by rfl) T.n_tuple (by decide +kernel) (pa_cons (pe_fld (pv 0) rfl) pa_nil)) rfl)
    (pss_one (ps_fld (pv 0) (pe_callTy (call_tuple_dK rfl) (by rfl) T.n_tuple (by decide +kernel) (pa_cons (pe_fld (pv 0) rfl) pa_nil)) rfl)))))))))))), ?_⟩
  -- the checks
  have nz : decide (V.int ((us.length : Nat) : Int) = V.int 0) = false := by
    have : us.length ≠ 0 := by rw [al.1]; intro z; exact val.ne (List.length_eq_zero_iff.mp z)
    exact decide_eq_false fun z => this (by have := V.int.inj z; omega)
  refine ⟨_, rfl, a, _, rfl, .inl (SqL.of ha), rfl, _, rfl, ?_⟩
  rw [nz]
  refine iteF ⟨_, rfl, a, rs, rfl, hra, val.short, val.each, fun H1 s1 => ?_⟩
  refine ⟨_, rfl, a, rs, rfl, hra.mono s1, val.short, val.inner, fun H2 s2 => ?_⟩
  have s02 := s1.trans s2
  refine ⟨_, rfl, a, rs, rfl, hra.mono s02, val.short.1, val.four, val.each.kinds, fun dl0 H3 s3 hdl0 ⟨lvs0, hl0, ld0⟩ => ?_⟩
  have s03 := s02.trans s3
  obtain ⟨rank, fin⟩ := val.fin
  refine ⟨_, rfl, _, rfl, a, dl0, rs, lvs0, _, rfl, hra.mono s03, hl0, KD.mono ld0 (fun _ _ _ => trivial), least_all fin, fun H4 s4 => ?_⟩
  have s04 := s03.trans s4
  have hl4 := s4 _ _ hl0
  have ld4 : LeastD H4 lvs0 (leastOf rs).1 (leastOf rs).2 := KD.mono ld0 fun _ _ z => z.mono s4
  have hx4 := s04 _ _ hx
  have ndl0 : dl0 ≠ x := ne_of hl4 hx4 (by intro z; cases z)
  -- self._makers
  refine ⟨_, rfl, a, rs, rfl, hra.mono s04, val.short.1, fun dm mvs H5 s5 hdm hm5 mk5 => ?_⟩
  have s45 : Same H4 H5 := s5
  have hx5 := s5 _ _ hx4
  refine ⟨_, rfl, x, CK K, dx, [], rfl, hx5, cl, T.na_Kinds_makers_, by decide, ?_⟩
  generalize hH6 : upd H5 x (.ins (CK K) dx (putF "_makers" (.ref dm) [])) = H6
  have hx6 : H6 x = some (.ins (CK K) dx (kF1 dm)) := by rw [← hH6]; exact upd_same
  have b6 : But x H H6 := fun b o n e => by rw [← hH6, upd_ne n]; exact s5 _ _ (s04 _ _ e)
  have o6 : ∀ b o, b ≠ x → H5 b = some o → H6 b = some o := fun b o n e => by rw [← hH6, upd_ne n]; exact e
  have ndm : dm ≠ x := ne_of hm5 hx5 (by intro z; cases z)
  have t56 : Tups H5 H6 := by rw [← hH6]; exact tups_upd fun u f z => by rw [hx5] at z; cases z; exact f
  have hm6 := o6 _ _ ndm hm5
  have mk6 : MkD H6 mvs rs := mk5.mono t56
  have hl6 := o6 _ _ ndl0 (s5 _ _ hl4)
  have nax : a ≠ x := ne_of ha hx (by intro z; cases z)
  have al6 : All2 (RowAt H6) us rs := al.mono fun _ _ z => z.mono (Tups.trans (tups_of (s04.trans s5)) t56)
  have ha6 : H6 a = some (.lst us) := b6 _ _ nax ha
  have ent6 : LeastD H6 lvs0 (leastOf rs).1 (leastOf rs).2 := KD.mono ld4 fun _ _ z => by
    obtain ⟨a1, a2, a3, rfl, h1, h2, h3⟩ := z.mono s5
    exact ⟨a1, a2, a3, rfl, o6 _ _ (ne_of h1 hx5 (by intro z; cases z)) h1, o6 _ _ (ne_of h2 hx5 (by intro z; cases z)) h2, h3.mono t56⟩
  clear hH6
  -- self._kinds
  refine ⟨_, rfl, a, rfl, ⟨_, .inl (.inl ha6)⟩, fun dk hdk => dc_it (walk_list (K := K) (a := a) (xs := us)) (fun i H7 => Same H6 H7 ∧ ∃ kvs, H7 dk = some (.dK kvs) ∧ KD kvs (distinct (rmakers (rs.take i))) fun m v => ∃ r ∈ rs, r.2.1 = m ∧ v = .str r.1)
    ⟨same_new hdk, [], upd_same, KD.nil⟩ (fun i H7 _ z => .inl (.inl (z.1 _ _ ha6))) ?_ ?_⟩
  · rintro i y H7 H8 hi ⟨s7, kvs, hk, kd⟩ ⟨rfl, hy⟩
    obtain ⟨r, hrr, b, u, rfl, hb, pa⟩ := al6.get hy
    have kl : kvs.length ≤ 1000 := by rw [kd.length]; exact Nat.le_trans (rmakers_len i) val.short.1
    refine ⟨b, _, rfl, .inl (.inl (s7 _ _ hb)), rfl, _, _, rfl, _, _, rfl, _, _, rfl, rfl, rfl, _, rfl, _, rfl, kvs, Sum.inr r.2.1, rfl, hk, small1000 kl, same_mut s7 hdk, _, upd_same, ?_⟩
    rw [rmakers_take_succ hrr, distinct_snoc]
    exact kd.put (fun j u _ hu => hu) ⟨r, List.mem_of_getElem? hrr, rfl, rfl⟩
  rintro H7 ⟨s7, kvs, hk7, kd7⟩
  rw [al.1, List.take_length] at kd7
  have hx7 := s7 _ _ hx6
  refine ⟨_, rfl, x, CK K, dx, _, rfl, hx7, cl, T.na_Kinds_kinds_, kF_len1, ?_⟩
  generalize hH8 : upd H7 x (.ins (CK K) dx (putF "_kinds" (.ref dk) (kF1 dm))) = H8
  have hx8 : H8 x = some (.ins (CK K) dx (kF2 dm dk)) := by rw [← hH8]; exact upd_same
  have o8 : ∀ b o, b ≠ x → H7 b = some o → H8 b = some o := fun b o n e => by rw [← hH8, upd_ne n]; exact e
  have b8 : But x H6 H8 := fun b o n e => o8 b o n (s7 _ _ e)
  have st8 : Still H7 H8 → True := fun _ => trivial
  have t68 : Tups H6 H8 := Tups.trans (tups_of s7) (by rw [← hH8]; exact tups_upd fun u f z => by rw [hx7] at z; cases z; exact f)
  have ndk : dk ≠ x := fun z => by rw [z, hx6] at hdk; cases hdk
  have hk8 := o8 _ _ ndk hk7
  have ha8 := b8 _ _ nax ha6
  clear hH8
  -- self._parts
  refine ⟨_, rfl, a, rfl, ⟨_, .inl (.inl ha8)⟩, fun dp hdp => dc_it (walk_list (K := K) (a := a) (xs := us)) (fun i H9 => Same H8 H9 ∧ ∃ pvs, H9 dp = some (.dK pvs) ∧ KD pvs (distinct (rmakers (rs.take i))) fun m v => ∃ r ∈ rs, r.2.1 = m ∧ ∃ d hv, v = .ref d ∧ H9 d = some (.dK hv) ∧ d ≠ dp ∧ HoldD H9 hv r.2.2)
    ⟨same_new hdp, [], upd_same, KD.nil⟩ (fun i H9 _ z => .inl (.inl (z.1 _ _ ha8))) ?_ ?_⟩
  · rintro i y H9 H10 hi ⟨s9, pvs, hp, kd⟩ ⟨rfl, hy⟩
    obtain ⟨r, hrr, b, u, rfl, hb, pa⟩ := al6.get hy
    have hmem := List.mem_of_getElem? hrr
    have kl : pvs.length ≤ 1000 := by rw [kd.length]; exact Nat.le_trans (rmakers_len i) val.short.1
    have t610 := Tups.trans t68 (tups_of s9)
    refine ⟨b, _, rfl, .inl (.inl (t610 _ _ trivial hb)), rfl, _, _, rfl, _, _, rfl, _, _, rfl, rfl, rfl, _, rfl, _, rfl, u, r.2.2, rfl, pa.mono t610, (by have := val.four r hmem; omega), fun d hv H11 s11 hd hd11 hold => ?_⟩
    have hp11 := s11 _ _ hp
    have ndp : d ≠ dp := fun z => by rw [z] at hd; rw [hd] at hp; cases hp
    have tp : ∀ v, Tups H11 (upd H11 dp (.dK (putK pvs (Sum.inr r.2.1) v))) := fun v => tups_upd fun u f z => by rw [hp11] at z; cases z; exact f
    refine ⟨pvs, Sum.inr r.2.1, rfl, hp11, small1000 kl, same_mut (s9.trans s11) hdp, _, upd_same, ?_⟩
    rw [rmakers_take_succ hrr, distinct_snoc]
    refine kd.put (fun j u' _ hu' => ?_) ⟨r, hmem, rfl, d, hv, rfl, by rw [upd_ne ndp]; exact hd11, ndp, hold.mono (tp _)⟩
    obtain ⟨r', m', e', d', hv', e2', hd', n', hh'⟩ := hu'
    exact ⟨r', m', e', d', hv', e2', by rw [upd_ne n']; exact s11 _ _ hd', n', (hh'.mono (tups_of s11)).mono (tp _)⟩
  rintro H9 ⟨s9, pvs, hp9, kd9⟩
  rw [al.1, List.take_length] at kd9
  have hx9 := s9 _ _ hx8
  refine ⟨_, rfl, x, CK K, dx, _, rfl, hx9, cl, T.na_Kinds_parts_, kF_len2, ?_⟩
  generalize hH10 : upd H9 x (.ins (CK K) dx (putF "_parts" (.ref dp) (kF2 dm dk))) = H10
  have hx10 : H10 x = some (.ins (CK K) dx (kF3 dm dk dp)) := by rw [← hH10]; exact upd_same
  have o10 : ∀ b o, b ≠ x → H9 b = some o → H10 b = some o := fun b o n e => by rw [← hH10, upd_ne n]; exact e
  have b10 : But x H8 H10 := fun b o n e => o10 b o n (s9 _ _ e)
  have t910 : Tups H9 H10 := by rw [← hH10]; exact tups_upd fun u f z => by rw [hx9] at z; cases z; exact f
  have t610 : Tups H6 H10 := Tups.trans t68 (Tups.trans (tups_of s9) t910)
  have ndp : dp ≠ x := fun z => by rw [z, hx8] at hdp; cases hdp
  have hp10 := o10 _ _ ndp hp9
  have pd10 : PartsD H10 pvs rs := KD.mono kd9 fun _ _ z => by
    obtain ⟨r, m, e, d, hv, e2, hd, n, hh⟩ := z
    exact ⟨r, m, e, d, hv, e2, o10 _ _ (ne_of hd hx9 (by intro z; cases z)) hd, hh.mono t910⟩
  have hk10 := b10 _ _ ndk hk8
  have hm10 := b10 _ _ ndm (b8 _ _ ndm hm6)
  have mk10 : MkD H10 mvs rs := mk6.mono t610
  have hl10 := b10 _ _ ndl0 (b8 _ _ ndl0 hl6)
  have ent10 : LeastD H10 lvs0 (leastOf rs).1 (leastOf rs).2 := KD.mono ent6 fun _ _ z => by
    obtain ⟨a1, a2, a3, rfl, h1, h2, h3⟩ := z
    have n2 : a2 ≠ x := ne_of h2 hx6 (by intro z; cases z)
    exact ⟨a1, a2, a3, rfl, t610 _ _ trivial h1, b10 _ _ n2 (b8 _ _ n2 h2), h3.mono t610⟩
  clear hH10
  -- self._least
  refine ⟨dm, _, hm10, trivial, fun od => ?_⟩
  have nml : dl0 ≠ dm := fun z => by rw [z] at hl4; rw [hl4] at hdm; cases hdm
  have hxl : (upd H10 dm (.frz od (.dK mvs))) x = some (.ins (CK K) dx (kF3 dm dk dp)) := by rw [upd_ne ndm.symm]; exact hx10
  refine ⟨_, rfl, x, CK K, dx, _, _, rfl, hxl, cl, T.na_Kinds_makers_, kF4_makers, dm, od, rfl, .inl ⟨mvs, upd_same, fun dl hdl => ?_⟩⟩
  have ndl : dl ≠ dm := fun z => by rw [z, upd_same] at hdl; cases hdl
  have hdl10 : H10 dl = none := by rw [upd_ne ndl] at hdl; exact hdl
  refine dc_it (walk_keys (d := dm) (o := od) (kvs := mvs)) (fun i H11 => Same (upd H10 dm (.frz od (.dK mvs))) H11 ∧ ∃ lvs, H11 dl = some (.dK lvs) ∧ KD lvs (distinct ((distinct (rkinds rs)).take i)) fun k v => Td H11 v ((leastOf rs).2 k).2)
    ⟨same_new hdl, [], upd_same, KD.nil⟩ (fun i H11 _ z => z.1 _ _ upd_same) ?_ ?_
  · rintro i y H11 H12 hi ⟨s11, lvs, hl, kd⟩ ⟨rfl, k, v, hkv, rfl⟩
    obtain ⟨j, hj, ej⟩ := KD.at mk10 hkv
    cases (show k = Sum.inr j from ej)
    have kl : lvs.length ≤ 1000 := by
      rw [kd.length]
      have h1 := length_distinct ((distinct (rkinds rs)).take i)
      rw [List.length_take] at h1
      have := val.each.kinds
      omega
    have jin : j ∈ (leastOf rs).1 := by
      have jk : j ∈ rkinds rs := mem_distinct.mp (List.mem_of_getElem? hj)
      obtain ⟨r, hr', e⟩ := List.mem_map.mp jk
      rw [← e]; exact least_all fin r hr'
    obtain ⟨ev, e1, t, l, tr, rfl, ht, hlq, htd⟩ := KD.some ent10 jin
    have t0 : Tups H10 (upd H10 dm (.frz od (.dK mvs))) := tups_upd fun u f z => by rw [hm10] at z; cases z; exact f
    have t11 := Tups.trans t0 (tups_of s11)
    have hl11 : H12 dl0 = some (.dK lvs0) := s11 _ _ (by rw [upd_ne nml]; exact hl10)
    refine ⟨rfl, _, rfl, _, rfl, _, rfl, dl0, _, rfl, (by rw [← e1]; exact DGet.k (k := Sum.inr j) hl11), t, _, _, _, rfl, rfl, SqT.of (t11 _ _ trivial ht), atI_nat (j := 2) rfl, lvs, Sum.inr j, rfl, hl, small1000 kl, same_mut s11 hdl, _, upd_same, ?_⟩
    have tp : Tups H12 (upd H12 dl (.dK (putK lvs (Sum.inr j) tr))) := tups_upd fun u f z => by rw [hl] at z; cases z; exact f
    rw [take_succ_of hj, distinct_snoc]
    exact kd.put (fun j' u' _ hu' => hu'.mono tp) ((htd.mono t11).mono tp)
  rintro H11 ⟨s11, lvs, hl11, kd11⟩
  have ml : mvs.length = (distinct (rkinds rs)).length := KD.length mk10
  rw [ml, List.take_length, distinct_of_nodup (nodup_distinct _)] at kd11
  refine ⟨s11 _ _ upd_same, ?_⟩
  generalize hH12 : upd H11 dm (.dK mvs) = H12
  have hm12 : H12 dm = some (.dK mvs) := by rw [← hH12]; exact upd_same
  have s12 : Same H10 H12 := fun b o e => by
    rw [← hH12]
    by_cases hb : b = dm
    · rw [hb] at e ⊢; rw [hm10] at e; rw [upd_same]; exact e
    · rw [upd_ne hb]; exact s11 _ _ (by rw [upd_ne hb]; exact e)
  have t1112 : Tups H11 H12 := by rw [← hH12]; exact tups_upd fun u f z => by rw [s11 _ _ upd_same] at z; cases z; exact f
  have hl12 : H12 dl = some (.dK lvs) := by rw [← hH12, upd_ne ndl]; exact hl11
  have lt12 : LeastT H12 lvs rs := KD.mono kd11 fun _ _ z => z.mono t1112
  have hx12 := s12 _ _ hx10
  clear hH12
  refine ⟨_, rfl, x, CK K, dx, _, rfl, hx12, cl, T.na_Kinds_least_, kF_len3, ?_⟩
  generalize hH13 : upd H12 x (.ins (CK K) dx (putF "_least" (.ref dl) (kF3 dm dk dp))) = H13
  have hx13 : H13 x = some (.ins (CK K) dx (kF4 dm dk dp dl)) := by rw [← hH13]; exact upd_same
  have o13 : ∀ b o, b ≠ x → H12 b = some o → H13 b = some o := fun b o n e => by rw [← hH13, upd_ne n]; exact e
  have t1213 : Tups H12 H13 := by rw [← hH13]; exact tups_upd fun u f z => by rw [hx12] at z; cases z; exact f
  have ndl' : dl ≠ x := ne_of hl12 hx12 (by intro z; cases z)
  have pd13 : PartsD H13 pvs rs := KD.mono (pd10.mono (still_of s12)) fun _ _ z => by
    obtain ⟨r, m, e, d, hv, e2, hd, hh⟩ := z
    exact ⟨r, m, e, d, hv, e2, o13 _ _ (ne_of hd hx12 (by intro z; cases z)) hd, hh.mono t1213⟩
  have hm13 := o13 _ _ ndm hm12
  have hk13 := o13 _ _ ndk (s12 _ _ hk10)
  have hp13 := o13 _ _ ndp (s12 _ _ hp10)
  have hl13 := o13 _ _ ndl' hl12
  have mk13 : MkD H13 mvs rs := (mk10.mono (tups_of s12)).mono t1213
  have lt13 : LeastT H13 lvs rs := lt12.mono t1213
  have b13 : But x H H13 := fun b o n e => o13 _ _ n (s12 _ _ (b10 _ _ n (b8 _ _ n (b6 _ _ n e))))
  clear hH13
  -- names
  refine ⟨_, rfl, x, CK K, dx, _, _, rfl, hx13, cl, T.na_Kinds_makers_, kF4_makers', dm, _, rfl, hm13, fun tn on htn hon => ?_⟩
  have s14 := same_new (o := .frz on (.tup (mvs.map fun kv => kV kv.1))) htn
  have hx14 := s14 _ _ hx13
  refine ⟨_, rfl, x, CK K, dx, _, rfl, hx14, cl, T.na_Kinds_names, kF_len4, ?_⟩
  have ntn : tn ≠ x := fun z => by rw [z, hx13] at htn; cases htn
  generalize hH15 : upd (upd H13 tn (.frz on (.tup (mvs.map fun kv => kV kv.1)))) x (.ins (CK K) dx (putF "names" (.ref tn) (kF4 dm dk dp dl))) = H15
  have hx15 : H15 x = some (.ins (CK K) dx (kF5 dm dk dp dl tn)) := by rw [← hH15]; exact upd_same
  have o15 : ∀ b o, b ≠ x → H13 b = some o → H15 b = some o := fun b o n e => by rw [← hH15, upd_ne n]; exact s14 _ _ e
  have htn15 : H15 tn = some (.frz on (.tup (mvs.map fun kv => kV kv.1))) := by rw [← hH15, upd_ne ntn, upd_same]
  have t15 : Tups H13 H15 := Tups.trans (tups_of s14) (by rw [← hH15]; exact tups_upd fun u f z => by rw [hx14] at z; cases z; exact f)
  clear hH15
  -- order
  have hk15 := o15 _ _ ndk hk13
  refine ⟨_, rfl, x, CK K, dx, _, _, rfl, hx15, cl, T.na_Kinds_kinds_, kF5_kinds, dk, _, rfl, hk15, fun to oo hto hoo => ?_⟩
  have s16 := same_new (o := .frz oo (.tup (kvs.map fun kv => kV kv.1))) hto
  have hx16 := s16 _ _ hx15
  refine ⟨_, rfl, x, CK K, dx, _, rfl, hx16, cl, T.na_Kinds_order, kF_len5, ?_⟩
  have nto : to ≠ x := fun z => by rw [z, hx15] at hto; cases hto
  have o17 : ∀ b o, b ≠ x → H15 b = some o → (upd (upd H15 to (.frz oo (.tup (kvs.map fun kv => kV kv.1)))) x (.ins (CK K) dx (putF "order" (.ref to) (kF5 dm dk dp dl tn)))) b = some o := fun b o n e => by rw [upd_ne n]; exact s16 _ _ e
  have t17 : Tups H15 (upd (upd H15 to (.frz oo (.tup (kvs.map fun kv => kV kv.1)))) x (.ins (CK K) dx (putF "order" (.ref to) (kF5 dm dk dp dl tn)))) := Tups.trans (tups_of s16) (tups_upd fun u f z => by rw [hx16] at z; cases z; exact f)
  have tx := Tups.trans t15 t17
  have keysOf : ∀ {kvs : List (Key × V)} {ks : List Str} {R : Str → V → Prop}, KD kvs ks R → (kvs.map fun kv => kV kv.1) = ks.map V.str := fun {kvs ks R} h => by
    have : (kvs.map fun kv => kV kv.1) = (kvs.map (·.1)).map kV := by rw [List.map_map]; rfl
    rw [this, h.1, List.map_map]; rfl
  refine q _ (fun b o n e => o17 _ _ n (o15 _ _ n (b13 _ _ n e))) ⟨dx, dm, dk, dp, dl, tn, to, mvs, kvs, pvs, lvs, upd_same, ⟨o17 _ _ ndm (o15 _ _ ndm hm13), mk13.mono tx⟩, ⟨o17 _ _ ndk hk15, kd7⟩, ⟨o17 _ _ ndp (o15 _ _ ndp hp13), KD.mono pd13 fun _ _ z => ?_⟩, ⟨o17 _ _ ndl' (o15 _ _ ndl' hl13), lt13.mono tx⟩, ⟨tn, on, rfl, hon, ?_⟩, ⟨to, oo, rfl, hoo, ?_⟩⟩
  · obtain ⟨r, m, e, d, hv, e2, hd, hh⟩ := z
    have nd' : d ≠ x := ne_of hd hx13 (by intro z; cases z)
    exact ⟨r, m, e, d, hv, e2, o17 _ _ nd' (o15 _ _ nd' hd), hh.mono tx⟩
  · rw [← keysOf mk13]; exact o17 _ _ ntn htn15
  · rw [upd_ne nto, upd_same, keysOf kd7]
end
end Bg
set_option Elab.async false
set_option linter.all false
set_option maxRecDepth 100000
set_option maxHeartbeats 4000000
namespace Bg
open PySem PySem.Spec PyProof.Rows L2
def BK (K : PySem.W.Frag) : Addr := He.ga K "BadKinds"
section
variable {P : Program} {w : World} {K : PySem.W.Frag} {mg : Str → Option Value} {base : Heap} {fd : FuncData}
theorem sl_big : 4000 ≤ sizeLine := by rw [sizeLine_eq]; decide
def spBKI (K : PySem.W.Frag) : Sp := fun vs H Q _ => ∃ (a : Addr) (i : Nat), vs = [.ref a, .int (i : Nat)] ∧ i ≤ 1000 ∧ H a = some (exo a (BK K) none) ∧ ∀ dx, H dx = none → dx ≠ a → Q .non (upd (upd H dx (exd dx [("row", .int (i : Nat))])) a (exo a (BK K) (some dx)))
theorem toString_len : ∀ i : Nat, i ≤ 1000 → (Str.ofString (toString ((i : Nat) : Int))).length ≤ 5 := by decide +kernel
theorem log_small {i : Nat} (h : i ≤ 1000) : ((i : Nat) : Int).natAbs.log2 < 1920 := by
  have : i.log2 ≤ i := Nat.log2_le_self i
  show i.log2 < 1920
  omega
theorem ok_bki (T : Tx K mg) (F : FnP K ("BadKinds", some "__init__") "__init__" "BadKinds.__init__" s_BadKinds_init fd) : FnOk P w K mg base CX0 1 (He.fAd K ("BadKinds", some "__init__")) fd ["self", "row"] (spBKI K) := by
  refine F.ok sc_BadKinds_init (fun vs H Q E h => ?_) (fun cdv A outer s H vs Q E hr h => ?_)
  · obtain ⟨a, y, rfl, _⟩ := h; rfl
  obtain ⟨a, i, rfl, ti, ha, q⟩ := h
  refine ⟨_, PSs.nox (pss_cons (ps_expr (pe_ginit T.gi (by rfl) T.g_GroveError (pa_cons (pv 0) (pa_cons (pe_joined (.cons pe_str (.cons (pe_fmt (pv 1)) (.cons pe_str .nil)))) pa_nil))))
    (pss_one (ps_ost (f := "row") (pv 0) (pv 1)))), ?_⟩
  have tl : (Str.empty ++ ("row " : Str)).length ≤ 4 := by decide +kernel
  have tl2 : (" of the kinds table is not valid" : Str).length ≤ 40 := by decide +kernel
  have tl3 := toString_len i ti
  have b := sl_big
  refine ⟨_, rfl, _, rfl, Nat.le_trans tl (by omega), _, rfl, .inr ⟨((i : Nat) : Int), rfl, log_small ti, _, rfl, ?_, _, rfl, ?_, a, BK K, [_], rfl, (by show 1 ≤ 1000; decide), T.x_BadKinds.oex, ha, ?_⟩⟩
  · rw [Str.length_append]
    have : (toString ((i : Nat) : Int) : Str).length = (Str.ofString (toString ((i : Nat) : Int))).length := rfl
    omega
  · rw [Str.length_append, Str.length_append]
    have : (toString ((i : Nat) : Int) : Str).length = (Str.ofString (toString ((i : Nat) : Int))).length := rfl
    omega
  exact ⟨_, rfl, _, rfl, a, BK K, rfl, T.x_BadKinds.oex, T.na_BadKinds_row, .inl ⟨ha, fun dx hdx ne => q dx hdx ne⟩⟩
/-- the error BadKinds with the row i leaves, its dict new -/
def RaisesBK (K : PySem.W.Frag) (H : Hp) (i : Nat) (E : XK) : Prop := ∀ dx H', Same H H' → H' dx = some (.xd [("row", .int (i : Nat))]) → E (.ref (BK K)) (some dx) H'
theorem RaisesBK.mono {H H1 : Hp} {i : Nat} {E : XK} (q : RaisesBK K H i E) (s : Same H H1) : RaisesBK K H1 i E := fun dx H' s' e => q dx H' (s.trans s') e
theorem raiseB_read {H : Hp} {i : Nat} {E : XK} (n1000 : i ≤ 1000) (q : RaisesBK K H i E) : ([V.int (i : Nat)] : List V).length ≤ 1000 ∧ ∀ a, H a = none → spBKI K (.ref a :: ([.int (i : Nat)] ++ [])) (upd H a (exo a (BK K) none))
    (fun v H2 => v = .non ∧ ∃ (d : Addr) (fs : List (Str × V)), H2 a = some (exo a (BK K) (some d)) ∧ H2 d = some (exd d fs) ∧ H d = none ∧ E (.ref (BK K)) (some d) (upd (L2.del H2 a) d (.xd fs))) (fun _ _ _ => False) := by
  refine ⟨by show 1 ≤ 1000; decide, fun a ha => ⟨a, i, rfl, n1000, upd_same, fun dx hdx ne => ⟨rfl, dx, [("row", .int (i : Nat))], upd_same, by rw [upd_ne ne]; exact upd_same, ?_, q dx _ (fun b o e => ?_) upd_same⟩⟩⟩
  · rw [upd_ne ne] at hdx; exact hdx
  · have n1 : b ≠ a := ne_of_none e ha
    have n2 : b ≠ dx := ne_of_none (by rw [upd_ne n1]; exact e) hdx
    rw [upd_ne n2, del_ne n1, upd_ne n1, upd_ne n2, upd_ne n1]; exact e
/-- row i is the fault of the first pass, if none before is -/
def bad1 (rs : List Row) (i : Nat) : Bool := match rs[i]? with
  | none => false
  | some r => !kindB r.1 || (!nameB r.2.1 || (!partsB r.2.2 || (decide (r.2.1 ∈ rmakers (rs.take i)) || (decide (12 ≤ i) || decide (4 < (distinct (rkinds (rs.take (i + 1)))).length)))))
theorem bad1_at {rs : List Row} {i : Nat} {r : Row} (h : rs[i]? = some r) : bad1 rs i = (!kindB r.1 || (!nameB r.2.1 || (!partsB r.2.2 || (decide (r.2.1 ∈ rmakers (rs.take i)) || (decide (12 ≤ i) || decide (4 < (distinct (rkinds (rs.take (i + 1)))).length)))))) := by
  unfold bad1; rw [h]
def spEachX (K : PySem.W.Frag) : Sp := fun vs H _ E => ∃ (a : Addr) (rs : List Row) (i : Nat), vs = [.ref a] ∧ RowsAt H a rs ∧ RowsShort rs ∧ i < rs.length ∧ bad1 rs i = true ∧ (∀ j, j < i → bad1 rs j = false) ∧ RaisesBK K H i E
theorem okx_check_each_row (T : Tx K mg) (F : FnP K ("check_each_row", none) "check_each_row" "check_each_row" s_check_each_row fd) : FnOk P w K mg base (L2.CX P w) 5 (He.fAd K ("check_each_row", none)) fd ["rows"] (spEachX K) := by
  obtain ⟨f0, F0⟩ := T.F_BadKinds_init
  obtain ⟨f1, F1⟩ := T.F_is_name
  obtain ⟨f2, F2⟩ := T.F_is_kind_name
  obtain ⟨f3, F3⟩ := T.F_are_parts
  obtain ⟨t4, m4⟩ := T.c_MOST_KINDS
  obtain ⟨t12, m12⟩ := T.c_MOST_ROWS
  refine F.ok sc_check_each_row (fun vs H Q E h => ?_) (fun cdv A outer s H vs Q E hr h => ?_)
  · obtain ⟨x, p, _, rfl, _⟩ := h; rfl
  obtain ⟨a, rs, i0, rfl, ⟨us, ha, al⟩, ⟨n1000, sh⟩, i0l, bad, pre, q⟩ := h
  have hu := hu_of hr
  have nd := sc_check_each_row.nd
  refine ⟨_, (pss_cons (ps_set (i := 1) nd rfl (.inl rfl) pe_dnewK) (pss_cons (ps_set (i := 2) nd rfl (.inl rfl) pe_dnewK)
    (pss_one (ps_for (passes_of rfl) rfl (pi_enum (by rfl) T.n_enumerate (pa_cons (pv 0) pa_nil))
      (pg_tup rfl (pgs_cons (pg_name (i := 3) nd rfl (.inl rfl)) (pgs_cons (pg_tup rfl (pgs_cons (pg_name (i := 4) nd rfl (.inl rfl)) (pgs_cons (pg_name (i := 5) nd rfl (.inl rfl)) (pgs_cons (pg_name (i := 6) nd rfl (.inl rfl)) pgs_nil)))) pgs_nil)))
      (pss_cons (ps_if (PW.pt (pw_or (pt_not (pt_val (pe_call (ok_is_kind_name T F2) (hr.mono (by decide)) (by rfl) T.g_is_kind_name T.k_is_kind_name (b_is_kind_name F2) .nil pass0 (pa_cons (pv 4) pa_nil))))
          (pw_or (pt_not (pt_val (pe_call (ok_is_name T F1) (hr.mono (by decide)) (by rfl) T.g_is_name T.k_is_name (b_is_name F1) .nil pass0 (pa_cons (pv 5) pa_nil))))
            (pw_or1 (pt_not (pt_val (pe_call (ok_are_parts T F3) hr (by rfl) T.g_are_parts T.k_are_parts (b_are_parts F3) .nil pass0 (pa_cons (pv 6) pa_nil)))))))) (pss_one (ps_raise rfl (takes_of rfl rfl rfl rfl) (pmk_oex T.x_BadKinds.oex T.m_BadKinds_init.at_ (beq_iff_eq.mp T.m_BadKinds_init.fn) (ok_bki T F0) (hr.mono (by decide)) (b_BadKinds_init F0) .nil pass0 (by rfl) T.g_BadKinds (pa_cons (pv 3) pa_nil)))) pss_nil)
      (pss_cons (ps_dput hu (pv 1) (pv 4) pe_bl rfl)
      (pss_cons (ps_if (PW.pt (pw_or (pt_cmp (pc_din hu (pv 5) (pv 2))) (pw_or (pt_cmpR op_ge (pv 3) (pe_glob (v := .int 12) (by rfl) m12 ⟨_, rfl⟩) (nomark _))
          (pw_or1 (pt_cmpR op_gt (pe_callB call_lenD (by rfl) T.n_len PySem.boot_len (pa_cons (pv 1) pa_nil)) (pe_glob (v := .int 4) (by rfl) m4 ⟨_, rfl⟩) (nomark _)))))) (pss_one (ps_raise rfl (takes_of rfl rfl rfl rfl) (pmk_oex T.x_BadKinds.oex T.m_BadKinds_init.at_ (beq_iff_eq.mp T.m_BadKinds_init.fn) (ok_bki T F0) (hr.mono (by decide)) (b_BadKinds_init F0) .nil pass0 (by rfl) T.g_BadKinds (pa_cons (pv 3) pa_nil)))) pss_nil)
      (pss_one (ps_dput hu (pv 2) (pv 5) pe_bl rfl))))))))), ?_⟩
  intro dk hdk dm hdm
  have hdm0 : H dm = none := (same_new hdk).free hdm
  have kne : dk ≠ dm := ne_of_none upd_same hdm
  have s1 : Same H (upd (upd H dk (.dK [])) dm (.dK [])) := (same_new hdk).trans (same_new hdm)
  refine ⟨_, rfl, a, us, rfl, .inl (.inl (s1 _ _ ha)), for_it (walk_enum (K := K) (a := a) (xs := us)) (fun i σ H2 => (∃ v3 v4 v5 v6, σ = [some (.ref a), some (.ref dk), some (.ref dm), v3, v4, v5, v6]) ∧ i ≤ i0 ∧ Same H H2 ∧
    (∃ kvs, H2 dk = some (.dK kvs) ∧ KD kvs (distinct (rkinds (rs.take i))) TrueR) ∧ ∃ kvs, H2 dm = some (.dK kvs) ∧ KD kvs (distinct (rmakers (rs.take i))) TrueR) ?_ (fun i σ H2 _ z => .inl (.inl (z.2.2.1 _ _ ha))) ?_ ?_⟩
  · exact ⟨⟨none, none, none, none, rfl⟩, Nat.zero_le _, s1, ⟨[], by rw [upd_ne kne, upd_same], KD.nil⟩, [], upd_same, KD.nil⟩
  · rintro i x σ H2 H3 hi ⟨⟨v3, v4, v5, v6, rfl⟩, ii0, sm, ⟨kvs, hk, kd⟩, mvs, hm, md⟩ ⟨tp, x1, x2, rfl, ntp, rfl, e1, e2⟩
    cases e1
    obtain ⟨r, hrr, ra⟩ := al.get e2
    obtain ⟨b, u, rfl, hb, pa⟩ := ra
    have lti : i < rs.length := (List.getElem?_eq_some_iff.mp hrr).1
    obtain ⟨l1, l2, l3⟩ := sh r (List.mem_of_getElem? hrr)
    have s3 : Same H (upd H2 tp (.tup [.int (i : Nat), .ref b])) := sm.trans (same_new ntp)
    refine ⟨tp, _, rfl, .inl (.inl upd_same), rfl, _, _, rfl, _, _, rfl, ⟨b, _, rfl, .inl (.inl (s3 _ _ hb)), rfl, _, _, rfl, _, _, rfl, _, _, rfl, rfl, rfl, ?_⟩⟩
    have fin : ¬ i < i0 → i = i0 := fun z => by omega
    refine ⟨_, rfl, _, rfl, l1, _, rfl, ?_⟩
    cases g1 : kindB r.1 with
    | false =>
      have e0 : i = i0 := fin fun lt => by
        have := pre i lt
        rw [bad1_at hrr, g1] at this; simp at this
      subst e0
      exact iteT ⟨_, rfl, raiseB_read (n1000 := by omega) (q.mono s3)⟩
    | true =>
    refine iteF ⟨_, rfl, _, rfl, l2, _, rfl, ?_⟩
    cases g2 : nameB r.2.1 with
    | false =>
      have e0 : i = i0 := fin fun lt => by
        have := pre i lt
        rw [bad1_at hrr, g2] at this; simp at this
      subst e0
      exact iteT ⟨_, rfl, raiseB_read (n1000 := by omega) (q.mono s3)⟩
    | true =>
    refine iteF ⟨_, rfl, u, _, rfl, pa.mono (tups_of s3), l3, fun H4 s4 => ⟨_, rfl, ?_⟩⟩
    have s04 : Same H H4 := s3.trans s4
    cases g3 : partsB r.2.2 with
    | false =>
      have e0 : i = i0 := fin fun lt => by
        have := pre i lt
        rw [bad1_at hrr, g3] at this; simp at this
      subst e0
      exact iteT ⟨_, rfl, raiseB_read (n1000 := by omega) (q.mono s04)⟩
    | true =>
    have hk4 : H4 dk = some (.dK kvs) := s4 _ _ ((same_new ntp) _ _ hk)
    have hm4 : H4 dm = some (.dK mvs) := s4 _ _ ((same_new ntp) _ _ hm)
    have kl : kvs.length ≤ 1000 := by
      rw [kd.length]
      have := length_distinct (rkinds (rs.take i))
      unfold rkinds at this
      rw [List.length_map, List.length_take] at this
      unfold rkinds; omega
    have ml : mvs.length ≤ 1000 := by
      rw [md.length]
      have := length_distinct (rmakers (rs.take i))
      unfold rmakers at this ⊢
      rw [List.length_map, List.length_take] at this; omega
    refine iteF ⟨_, rfl, _, rfl, dk, _, rfl, DPut.k (k := Sum.inr r.1) hk4 (small1000 kl), ?_⟩
    have kd' := kd.put (k := r.1) (v := .bl true) (R' := TrueR) (fun _ _ _ _ => trivial) trivial
    rw [← distinct_snoc, ← rkinds_take_succ hrr] at kd'
    have hm5 : (upd H4 dk (.dK (putK kvs (Sum.inr r.1) (.bl true)))) dm = some (.dK mvs) := by rw [upd_ne kne.symm]; exact hm4
    have s05 : Same H (upd H4 dk (.dK (putK kvs (Sum.inr r.1) (.bl true)))) := same_mut s04 hdk
    refine ⟨_, rfl, _, rfl, dm, _, rfl, DGet.k (k := Sum.inr r.2.1) hm5, _, rfl, ?_⟩
    rw [KD.isSome md]
    by_cases dup : r.2.1 ∈ distinct (rmakers (rs.take i))
    · rw [decide_eq_true dup]
      have e0 : i = i0 := fin fun lt => by
        have := pre i lt
        rw [bad1_at hrr, decide_eq_true (mem_distinct.mp dup)] at this; simp at this
      subst e0
      exact iteT ⟨_, rfl, raiseB_read (n1000 := by omega) (q.mono s05)⟩
    rw [decide_eq_false dup]
    refine iteF ⟨_, rfl, _, _, rfl, rfl, _, rfl, ?_⟩
    by_cases d12 : 12 ≤ i
    · rw [decide_eq_true (show (12 : Int) ≤ ((i : Nat) : Int) by omega)]
      have e0 : i = i0 := fin fun lt => by
        have := pre i lt
        rw [bad1_at hrr, decide_eq_true d12] at this; simp at this
      subst e0
      exact iteT ⟨_, rfl, raiseB_read (n1000 := by omega) (q.mono s05)⟩
    rw [decide_eq_false (show ¬ (12 : Int) ≤ ((i : Nat) : Int) by omega)]
    refine iteF ⟨_, rfl, dk, _, rfl, upd_same, _, _, rfl, rfl, _, rfl, ?_⟩
    have kl' : (putK kvs (Sum.inr r.1) (V.bl true)).length = (distinct (rkinds (rs.take (i + 1)))).length := kd'.length
    by_cases d4 : 4 < (distinct (rkinds (rs.take (i + 1)))).length
    · rw [decide_eq_true (show (4 : Int) < ((putK kvs (Sum.inr r.1) (V.bl true)).length : Int) by omega)]
      have e0 : i = i0 := fin fun lt => by
        have := pre i lt
        rw [bad1_at hrr, decide_eq_true d4] at this; simp at this
      subst e0
      exact iteT ⟨_, rfl, raiseB_read (n1000 := by omega) (q.mono s05)⟩
    rw [decide_eq_false (show ¬ (4 : Int) < ((putK kvs (Sum.inr r.1) (V.bl true)).length : Int) by omega)]
    refine iteF ⟨_, rfl, _, rfl, dm, _, rfl, DPut.k (k := Sum.inr r.2.1) hm5 (small1000 ml), ?_⟩
    have md' := md.put (k := r.2.1) (v := .bl true) (R' := TrueR) (fun _ _ _ _ => trivial) trivial
    rw [← distinct_snoc, ← rmakers_take_succ hrr] at md'
    have ne0 : i ≠ i0 := fun z => by
      subst z
      rw [bad1_at hrr, g1, g2, g3, decide_eq_false (fun z => dup (mem_distinct.mpr z)), decide_eq_false d12, decide_eq_false d4] at bad
      simp at bad
    refine ⟨⟨_, _, _, _, rfl⟩, by omega, same_mut s05 hdm0, ⟨_, by rw [upd_ne kne, upd_same], kd'⟩, _, upd_same, md'⟩
  · rintro σ H2 ⟨_, ii0, _⟩
    exact absurd ii0 (by rw [al.1]; omega)
end
end Bg
set_option Elab.async false
set_option linter.all false
set_option maxRecDepth 100000
set_option maxHeartbeats 4000000
namespace Bg
open PySem PySem.Spec PyProof.Rows L2
section
variable {P : Program} {w : World} {K : PySem.W.Frag} {mg : Str → Option Value} {base : Heap} {fd : FuncData}
/-- the part is of a kind that no row has -/
def badP (rs : List Row) (p : Part) : Bool := !decide (p.2.1 = ("byte" : Str)) && !decide (p.2.1 ∈ rkinds rs)
def bad2 (rs : List Row) (i : Nat) : Bool := match rs[i]? with
  | none => false
  | some r => r.2.2.any (badP rs)
theorem bad2_at {rs : List Row} {i : Nat} {r : Row} (h : rs[i]? = some r) : bad2 rs i = r.2.2.any (badP rs) := by
  unfold bad2; rw [h]
def spInnerX (K : PySem.W.Frag) : Sp := fun vs H _ E => ∃ (a : Addr) (rs : List Row) (i : Nat), vs = [.ref a] ∧ RowsAt H a rs ∧ RowsShort rs ∧ i < rs.length ∧ bad2 rs i = true ∧ (∀ j, j < i → bad2 rs j = false) ∧ RaisesBK K H i E
theorem okx_check_inner_kinds (T : Tx K mg) (F : FnP K ("check_inner_kinds", none) "check_inner_kinds" "check_inner_kinds" s_check_inner_kinds fd) : FnOk P w K mg base (L2.CX P w) 3 (He.fAd K ("check_inner_kinds", none)) fd ["rows"] (spInnerX K) := by
  obtain ⟨tB, mB⟩ := T.c_BYTE
  obtain ⟨f0, F0⟩ := T.F_BadKinds_init
  refine F.ok sc_check_inner_kinds (fun vs H Q E h => ?_) (fun cdv A outer s H vs Q E hr h => ?_)
  · obtain ⟨x, p, _, rfl, _⟩ := h; rfl
  obtain ⟨a, rs, i0, rfl, ⟨us, ha, al⟩, ⟨n1000, sh⟩, i0l, bad, pre, q⟩ := h
  have nd := sc_check_inner_kinds.nd
  refine ⟨_, (pss_cons (ps_setLc (i := 4) (own := [("kind", 1), ("maker", 2), ("parts", 3)]) (g := gRow K 1 2 3) (by rfl) nd rfl rfl (sw_true rfl rfl rfl (by decide +kernel)) (pi_list (pv 0))
      (blkOk_by (N := ["rows", "kind", "maker", "parts", "known", "at", "part"]) (sc := defScope s_check_inner_kinds) (by decide +kernel))
      (fun _ _ _ _ _ => pg_tup rfl (pgs_cons (pg_name (i := 1) nd rfl (Or.inl rfl)) (pgs_cons (pg_name (i := 2) nd rfl (Or.inl rfl)) (pgs_cons (pg_name (i := 3) nd rfl (Or.inl rfl)) pgs_nil)))) (fun _ _ _ _ _ => pts_nil) (fun _ _ _ _ _ => pv 1))
    (pss_one (ps_for (passes_of rfl) rfl (pi_enum (by rfl) T.n_enumerate (pa_cons (pv 0) pa_nil))
      (pg_tup rfl (pgs_cons (pg_name (i := 5) nd rfl (.inl rfl)) (pgs_cons (pg_tup rfl (pgs_cons (pg_name (i := 1) nd rfl (.inl rfl)) (pgs_cons (pg_name (i := 2) nd rfl (.inl rfl)) (pgs_cons (pg_name (i := 3) nd rfl (.inl rfl)) pgs_nil)))) pgs_nil)))
      (pss_one (ps_for (passes_of rfl) rfl (pi_tup (pv 3)) (pg_name (i := 6) nd rfl (.inl rfl))
        (pss_one (ps_if (PW.pt (pw_and (pt_cmpR op_ne (pe_ix ix_tup (pv 6) pe_int (fun _ _ => rfl)) (pe_glob (v := .str "byte") (by rfl) mB ⟨_, rfl⟩) (nomark _))
          (pw_and1 (pt_cmpR op_notIn_seq (pe_ix ix_tup (pv 6) pe_int (fun _ _ => rfl)) (pv 4) (by rfl))))) (pss_one (ps_raise rfl (takes_of rfl rfl rfl rfl) (pmk_oex T.x_BadKinds.oex T.m_BadKinds_init.at_ (beq_iff_eq.mp T.m_BadKinds_init.fn) (ok_bki T F0) (hr.mono (by decide)) (b_BadKinds_init F0) .nil pass0 (by rfl) T.g_BadKinds (pa_cons (pv 5) pa_nil)))) pss_nil))))))), ?_⟩
  refine ⟨_, rfl, a, rfl, ⟨_, .inl (.inl ha)⟩, fun D hD => lc_it (walk_list (K := K) (a := a) (xs := us)) (fun i H2 => Same H H2 ∧ H2 D = some (.lst ((rkinds (rs.take i)).map V.str))) ⟨same_new hD, upd_same⟩ (fun i H2 _ z => .inl (.inl (z.1 _ _ ha))) ?_ ?_⟩
  · rintro i x H2 H3 hi ⟨sm, hDi⟩ ⟨rfl, hx⟩
    obtain ⟨r, hrr, b, u, rfl, hb, pa⟩ := al.get hx
    refine ⟨b, _, rfl, .inl (.inl (sm _ _ hb)), rfl, _, _, rfl, _, _, rfl, _, _, rfl, rfl, rfl, _, rfl, _, hDi, ?_, same_mut sm hD, ?_⟩
    · unfold rkinds; rw [List.length_map, List.length_map, List.length_take]; exact small1000 (by omega)
    · rw [upd_same, rkinds_take_succ hrr, List.map_append] <;> rfl
  · rintro H2 ⟨sm, hDi⟩
    rw [al.1, List.take_length] at hDi
    have s2 : Same H2 H2 := Same.refl _
    refine ⟨_, rfl, a, us, rfl, .inl (.inl (sm _ _ ha)), for_it (walk_enum (K := K) (a := a) (xs := us)) (fun i σ H3 => (∃ v1 v2 v3 v5 v6, σ = [some (.ref a), v1, v2, v3, some (.ref D), v5, v6]) ∧ i ≤ i0 ∧ Same H2 H3) ⟨⟨_, _, _, _, _, rfl⟩, Nat.zero_le _, s2⟩ (fun i σ H3 _ z => .inl (.inl (z.2.2 _ _ (sm _ _ ha)))) ?_ ?_⟩
    · rintro i x σ H3 H4 hi ⟨⟨v1, v2, v3, v5, v6, rfl⟩, ii0, s3⟩ ⟨tp, x1, x2, rfl, ntp, rfl, e1, e2⟩
      cases e1
      obtain ⟨r, hrr, b, u, rfl, hb, pa⟩ := al.get e2
      have s4 : Same H2 (upd H3 tp (.tup [.int (i : Nat), .ref b])) := s3.trans (same_new ntp)
      have pa4 : PartsAt (upd H3 tp (.tup [.int (i : Nat), .ref b])) u r.2.2 := pa.mono (tups_of (sm.trans s4))
      obtain ⟨c, ws, rfl, hc, wl⟩ := pa4
      refine ⟨tp, _, rfl, .inl (.inl upd_same), rfl, _, _, rfl, _, _, rfl, ⟨b, _, rfl, .inl (.inl (s4 _ _ (sm _ _ hb))), rfl, _, _, rfl, _, _, rfl, _, _, rfl, rfl, rfl, ?_⟩⟩
      refine ⟨_, rfl, c, rfl, ⟨_, SqT.of hc⟩, for_it (walk_tup (K := K) (a := c) (xs := ws)) (fun j σ H5 => (∃ v1 v2 v6, σ = [some (.ref a), v1, v2, some (.ref c), some (.ref D), some (.int (i : Nat)), v6]) ∧ (∀ p ∈ r.2.2.take j, badP rs p = false) ∧ H5 = upd H3 tp (.tup [.int (i : Nat), .ref b])) ⟨⟨_, _, _, rfl⟩, (fun p hp => by simp at hp), rfl⟩ (fun j σ H5 _ z => by rw [z.2.2]; exact SqT.of hc) ?_ ?_⟩
      · rintro j y σ H5 H6 hj ⟨⟨v1, v2, v6, rfl⟩, bef, rfl⟩ ⟨rfl, hy⟩
        obtain ⟨p, hp, ppa⟩ := wl.get hy
        obtain ⟨d, xs, rfl, hd, x0, x1⟩ := partAt_ix ppa
        have step : badP rs p = false → ∀ p' ∈ r.2.2.take (j + 1), badP rs p' = false := fun e p' hp' => by
          rw [take_succ_of hp, List.mem_append] at hp'
          rcases hp' with z | z
          · exact bef p' z
          · rw [List.mem_singleton.mp z]; exact e
        refine ⟨_, rfl, d, _, _, _, rfl, rfl, SqT.of hd, atI_nat (j := 1) x1, rfl, _, rfl, ite2 (fun h1 => ?_) (fun h1 => ⟨⟨_, _, _, rfl⟩, step ?_, rfl⟩)⟩
        · have nb : ¬ p.2.1 = ("byte" : Str) := by
            intro z; rw [z] at h1; simp at h1
          refine ⟨_, rfl, d, _, _, _, rfl, rfl, SqT.of hd, atI_nat (j := 1) x1, _, rfl, D, _, rfl, .inl (SqL.of (s4 _ _ hDi)), rfl, flat_str _, _, rfl, ?_⟩
          rw [inV_strs]
          by_cases kin : p.2.1 ∈ rkinds rs
          · rw [decide_eq_true kin]
            exact iteF ⟨⟨_, _, _, rfl⟩, step (by unfold badP; rw [decide_eq_true kin]; simp), rfl⟩
          · rw [decide_eq_false kin]
            have e0 : i = i0 := by
              by_cases lt : i < i0
              · have := pre i lt
                rw [bad2_at hrr] at this
                have z := List.any_eq_false.mp this p (List.mem_of_getElem? hp)
                unfold badP at z
                rw [decide_eq_false nb, decide_eq_false kin] at z
                simp at z
              · omega
            subst e0
            exact iteT ⟨_, rfl, raiseB_read (n1000 := by omega) (q.mono (sm.trans s4))⟩
        · unfold badP
          have yb : p.2.1 = ("byte" : Str) := by
            by_cases z : p.2.1 = ("byte" : Str)
            · exact z
            · have ev : decide (V.str p.2.1 = V.str ("byte" : Str)) = false := decide_eq_false fun w => z (V.str.inj w)
              rw [ev] at h1; exact absurd rfl h1
          rw [decide_eq_true yb]; rfl
      · rintro σ H5 ⟨⟨v1, v2, v6, rfl⟩, bef, rfl⟩
        have ne0 : i ≠ i0 := fun z => by
          subst z
          rw [bad2_at hrr] at bad
          obtain ⟨p, hp, e⟩ := List.any_eq_true.mp bad
          have bl : p ∈ r.2.2.take ws.length := by rw [wl.1, List.take_length]; exact hp
          rw [bef p bl] at e; cases e
        exact ⟨⟨_, _, _, _, _, rfl⟩, by omega, s4⟩
    · rintro σ H3 ⟨_, ii0, s3⟩
      exact absurd ii0 (by rw [al.1]; omega)
def spFiniteX (K : PySem.W.Frag) : Sp := fun vs H _ E => ∃ (a d : Addr) (rs : List Row) (kvs : List (Key × V)) (ks : List Str) (i : Nat), vs = [.ref a, .ref d] ∧ RowsAt H a rs ∧ H d = some (.dK kvs) ∧ KD kvs ks TrueR ∧ rs.length ≤ 1000 ∧ i < rs.length ∧ (∀ r, rs[i]? = some r → r.1 ∉ ks) ∧ (∀ j, j < i → ∀ r, rs[j]? = some r → r.1 ∈ ks) ∧ RaisesBK K H i E
theorem okx_check_finite (T : Tx K mg) (F : FnP K ("check_finite", none) "check_finite" "check_finite" s_check_finite fd) : FnOk P w K mg base (L2.CX P w) 3 (He.fAd K ("check_finite", none)) fd ["rows", "least"] (spFiniteX K) := by
  obtain ⟨f0, F0⟩ := T.F_BadKinds_init
  refine F.ok sc_check_finite (fun vs H Q E h => ?_) (fun cdv A outer s H vs Q E hr h => ?_)
  · obtain ⟨x, p, _, _, _, _, rfl, _⟩ := h; rfl
  obtain ⟨a, d, rs, kvs, ks, i0, rfl, ⟨us, ha, al⟩, hd, kd, n1000, i0l, bad, pre, q⟩ := h
  have hu := hu_of hr
  have nd := sc_check_finite.nd
  refine ⟨_, (pss_one (ps_for (passes_of rfl) rfl (pi_enum (by rfl) T.n_enumerate (pa_cons (pv 0) pa_nil))
      (pg_tup rfl (pgs_cons (pg_name (i := 2) nd rfl (.inl rfl)) (pgs_cons (pg_tup rfl (pgs_cons (pg_name (i := 3) nd rfl (.inl rfl)) (pgs_cons (pg_name (i := 4) nd rfl (.inl rfl)) (pgs_cons (pg_name (i := 5) nd rfl (.inl rfl)) pgs_nil)))) pgs_nil)))
      (pss_one (ps_if (pt_cmp (pc_dnotin hu (pv 3) (pv 1))) (pss_one (ps_raise rfl (takes_of rfl rfl rfl rfl) (pmk_oex T.x_BadKinds.oex T.m_BadKinds_init.at_ (beq_iff_eq.mp T.m_BadKinds_init.fn) (ok_bki T F0) (hr.mono (by decide)) (b_BadKinds_init F0) .nil pass0 (by rfl) T.g_BadKinds (pa_cons (pv 2) pa_nil)))) pss_nil)))), ?_⟩
  refine ⟨_, rfl, a, us, rfl, .inl (.inl ha), for_it (walk_enum (K := K) (a := a) (xs := us)) (fun i σ H3 => (∃ v2 v3 v4 v5, σ = [some (.ref a), some (.ref d), v2, v3, v4, v5]) ∧ i ≤ i0 ∧ Same H H3) ⟨⟨_, _, _, _, rfl⟩, Nat.zero_le _, Same.refl _⟩ (fun i σ H3 _ z => .inl (.inl (z.2.2 _ _ ha))) ?_ ?_⟩
  · rintro i x σ H3 H4 hi ⟨⟨v2, v3, v4, v5, rfl⟩, ii0, s3⟩ ⟨tp, x1, x2, rfl, ntp, rfl, e1, e2⟩
    cases e1
    obtain ⟨r, hrr, b, u, rfl, hb, pa⟩ := al.get e2
    have s4 : Same H (upd H3 tp (.tup [.int (i : Nat), .ref b])) := s3.trans (same_new ntp)
    refine ⟨tp, _, rfl, .inl (.inl upd_same), rfl, _, _, rfl, _, _, rfl, ⟨b, _, rfl, .inl (.inl (s4 _ _ hb)), rfl, _, _, rfl, _, _, rfl, _, _, rfl, rfl, rfl, ?_⟩⟩
    refine ⟨_, rfl, _, rfl, d, _, rfl, DGet.k (k := Sum.inr r.1) (s4 _ _ hd), _, rfl, ?_⟩
    rw [kd.isSome]
    have lti : i < rs.length := (List.getElem?_eq_some_iff.mp hrr).1
    by_cases kin : r.1 ∈ ks
    · rw [decide_eq_true kin]
      have ne0 : i ≠ i0 := fun z => by
        subst z
        exact bad r hrr kin
      exact iteF ⟨⟨_, _, _, _, rfl⟩, by omega, s4⟩
    · rw [decide_eq_false kin]
      have e0 : i = i0 := by
        by_cases lt : i < i0
        · exact absurd (pre i lt r hrr) kin
        · omega
      subst e0
      exact iteT ⟨_, rfl, raiseB_read (n1000 := by omega) (q.mono s4)⟩
  · rintro σ H3 ⟨_, ii0, s3⟩
    exact absurd ii0 (by rw [al.1]; omega)
end
end Bg
set_option Elab.async false
set_option linter.all false
set_option maxRecDepth 100000
set_option maxHeartbeats 4000000
namespace Bg
open PySem PySem.Spec PyProof.Rows L2
/-! ### C(..) whose errors are taken at the slots of the call -/
def tMakeAt (C : Addr) (sp : Sp) (E : L2.St → XK) (t : TA) : TE := fun σ H Q => t σ H fun vs H1 => ∀ x dx, H1 x = none → H1 dx = none → dx ≠ x → sp (.ref x :: vs) (upd (upd H1 dx (.own x)) x (.ins C dx [])) (fun v H2 => v = .non ∧ Q (.ref x) H2) (E σ)
section
variable {X : Cx} {CX : CXT} {k : Nat} {f C : Addr} {fd : FuncData} {ps : List Str} {sp : Sp} {E : L2.St → XK} {x : Str} {p pos : Pos} {e : Expr} {es : List Expr} {t : TA}
theorem pe_makeAt (M : Mk X.K C f) (F : FnOk X.prog X.w X.K X.mg X.base CX k f fd ps sp) (hr : Room (k + 1) X.A) (hg : Gl X x) (hm : X.mg x = some (.ref C)) (hb : Binds X.K fd ps []) (hx : ∀ σ, PassesAt CX X σ (E σ)) (ha : PA X (e :: es) t)
    (hdb : (x == ("__debug__" : Str)) = false := by decide) (he : starEach (e :: es) X.env = (false, eval e X.env) :: starEach es X.env := by rfl) (hpl : (backTo pos (starEach es X.env)).any (·.1) = false := by rfl) :
    PE X (.Call (.Name x p) (e :: es) [] pos) (tMakeAt C sp E t) := by
  refine ⟨fun pins s σ H Q I h => ?_⟩
  refine wpAny_Call_Name_kw (ld_glob I hg hm ?_ hdb)
  refine PySem.W.callWith_K (h₀ := X.base) I.ok.mod.kin M.kp (thn (ha.run pos pins s σ H _ I h) fun us st ⟨vs, G, J, r, q⟩ => ⟨J.kIn, ?_⟩) he hpl
  show wpAny _ _ (call (.ref C) us) _ _ _
  have q1 := q (st.heap.objs.size + 1) st.heap.objs.size (J.hok.fresh (Nat.le_succ _)) (J.hok.fresh (Nat.le_refl _)) (Nat.ne_of_lt (Nat.lt_succ_self _))
  have J2 := Inv.made (C := C) J
  have r2 : Vals (V.ref (st.heap.objs.size + 1) :: vs) (Value.ref (st.heap.objs.size + 1) :: us) := .cons rfl r
  have hl : (Value.ref (st.heap.objs.size + 1) :: us ++ []).length = ps.length := by
    rw [List.append_nil, ← F.len _ _ _ _ q1]
    exact r2.length.symm
  have b := hb _ (Value.ref (st.heap.objs.size + 1) :: us) J2.kIn hl
  rw [List.append_nil] at b
  refine wpAny_call (make_map (f := f) J.kIn M.makes M.init (beq_iff_eq.mp M.fn) (codeAny_mono (F.run _ X.stack _ _ ⟨Value.ref (st.heap.objs.size + 1) :: us, []⟩ (Value.ref (st.heap.objs.size + 1) :: us) _ _ (E σ) (hr.make C us [])
    (J2.env0.make C us []) b r2 q1) fun res s' hq' => ?_))
  cases res with
  | error er => exact hx σ pins _ _ er s' J2 hq'
  | ok fl =>
    cases fl with
    | ret u =>
      obtain ⟨v, H', J3, rv, ev, q3⟩ := J2.after hq'
      subst ev
      exact ⟨rv, ⟨V.ref (st.heap.objs.size + 1), H', J3, rfl, q3⟩⟩
    | next => exact hq'.elim
    | brk => exact hq'.elim
    | cont => exact hq'.elim
end
end Bg
set_option Elab.async false
set_option linter.all false
set_option maxRecDepth 100000
set_option maxHeartbeats 4000000
namespace Bg
open PySem PySem.Spec PyProof.Rows L2
section
variable {P : Program} {w : World} {K : PySem.W.Frag} {mg : Str → Option Value} {base : Heap} {fd : FuncData}
theorem canLay_ints : ∀ ns : List Int, PyData.canLayAll0 (ns.map PyData.int) = true
  | [] => by simp [PyData.canLayAll0]
  | n :: r => by
    have := canLay_ints r
    simp only [List.map_cons, PyData.canLayAll0, PyData.canLay0, this] <;> rfl
theorem shaped_ints (ns : List Int) : SeqAt.shaped (.list (ns.map PyData.int)) = true := by
  have := depthAll_ints ns
  unfold SeqAt.shaped
  rw [Bool.and_eq_true]
  refine ⟨by rw [PyData.canLay0, canLay_ints], decide_eq_true ?_⟩
  rw [PyData.depth]; omega
theorem eqv_ints_nil : ∀ ns : List Int, PyData.eqv (.list (ns.map PyData.int)) (.list []) = ns.isEmpty
  | [] => by simp [PyData.eqv, PyData.eqvAll]
  | _ :: _ => by simp [PyData.eqv, PyData.eqvAll]
theorem notFixed_lst {H : Hp} {a : Addr} {xs : List V} (h : H a = some (.lst xs)) : ∀ u, Fixed u → H a ≠ some u := fun u f z => by rw [h] at z; cases z; exact f
/-- the pool of drawn numbers -/
def PoolAt (H : Hp) (a : Addr) : Prop := ∃ ns : List Int, H a = some (.lst (ns.map V.int)) ∧ ns.length ≤ 50000
def spTake : Sp := fun vs H Q _ => ∃ (a : Addr) (m : Int), vs = [.ref a, .int m] ∧ PoolAt H a ∧ 0 < m ∧ ∀ z H', 0 ≤ z → z < m → But a H H' → PoolAt H' a → Q (.int z) H'
theorem ok_take (T : Tx K mg) (F : FnP K ("_law_take", none) "_law_take" "_law_take" s__law_take fd) : FnOk P w K mg base CX0 1 (He.fAd K ("_law_take", none)) fd ["_law_pool_here", "_law_many"] spTake := by
  refine F.ok sc__law_take (fun vs H Q E h => ?_) (fun cdv A outer s H vs Q E hr h => ?_)
  · obtain ⟨_, _, rfl, _⟩ := h; rfl
  obtain ⟨a, m, rfl, ⟨ns, ha, hl⟩, hm, q⟩ := h
  refine ⟨_, PSs.nox (pss_cons (ps_if (pt_cmpR (op_eqD hr.units) (pv 0) (pe_lst pa_nil) (nomark _)) (pss_one (ps_ret pe_int)) pss_nil)
    (pss_one (ps_ret (pe_op op_mod (pe_callTy call_int1 (by rfl) T.n_int (by decide +kernel) (pa_cons (pe_bm0 PySem.F.plainAttrs_list PySem.F.slot_list_pop PySem.F.type_list_pop mt_pop (pv 0)) pa_nil)) (pv 1))))), ?_⟩
  refine ⟨_, rfl, Nat.zero_le _, fun p hp => ?_⟩
  have s1 := same_new (o := .lst []) hp
  have ha1 := s1 _ _ ha
  refine ⟨.list (ns.map PyData.int), .list [], .lst (SqL.of ha1) (dpAll_ints _), .lst (SqL.of upd_same) .nil, shaped_ints _, shaped_ints [], _, rfl, ?_⟩
  rw [eqv_ints_nil]
  cases ns with
  | nil => exact iteT (q 0 _ (Int.le_refl _) hm (but_of s1) ⟨[], ha1, hl⟩)
  | cons n r =>
    refine iteF ⟨_, rfl, .inl ⟨rfl, _, SqL.of ha1⟩, a, _, .int ((n :: r).getLast (by simp)), rfl, rfl, ha1, ?_, ?_⟩
    · rw [List.length_map, List.getElem?_map]
      have : (n :: r)[(n :: r).length - 1]? = some ((n :: r).getLast (by simp)) := by
        rw [List.getLast_eq_getElem, List.getElem?_eq_getElem]
      rw [this]; rfl
    · refine .inl ⟨_, rfl, _, rfl, _, _, rfl, rfl, hm, ?_⟩
      refine q _ _ (Int.emod_nonneg _ (by omega)) (Int.emod_lt_of_pos _ hm) ((but_of s1).trans but_upd) ⟨(n :: r).dropLast, ?_, ?_⟩
      · rw [upd_same, List.map_dropLast]
      · rw [List.length_dropLast]; exact Nat.le_trans (Nat.sub_le _ _) hl
end
end Bg
set_option Elab.async false
set_option linter.all false
set_option maxRecDepth 100000
set_option maxHeartbeats 4000000
namespace Bg
open PySem PySem.Spec PyProof.Rows L2
section
variable {P : Program} {w : World} {K : PySem.W.Frag} {mg : Str → Option Value} {base : Heap} {fd : FuncData}
theorem cutV_ints (ns : List Int) (lo hi : Option Int) : ∃ ms : List Int, cutV (ns.map V.int) lo hi = ms.map V.int ∧ ms.length ≤ ns.length := by
  refine ⟨(ns.drop _).take _, by unfold cutV; rw [List.map_take, List.map_drop], ?_⟩
  rw [List.length_take, List.length_drop]; omega
theorem int_item {ms : List Int} {i : Nat} {x : V} (h : (ms.map V.int)[i]? = some x) : ∃ n, x = .int n := by
  rw [List.getElem?_map] at h
  cases e : ms[i]? with
  | none => rw [e] at h; cases h
  | some n => rw [e] at h; exact ⟨n, (Option.some.inj h).symm⟩
def PoolLen (H : Hp) (a : Addr) (n : Nat) : Prop := ∃ ns : List Int, H a = some (.lst (ns.map V.int)) ∧ ns.length ≤ n
def spPool (K : PySem.W.Frag) : Sp := fun vs H Q _ => ∃ (a : Addr) (ns : List Int), vs = [.ref a] ∧ SqL K H a (ns.map V.int) ∧ ns.length ≤ 63 ∧ ∀ p H', Same H H' → H p = none → PoolAt H' p → Q (.ref p) H'
theorem ok_pool (T : Tx K mg) (F : FnP K ("_law_pool", none) "_law_pool" "_law_pool" s__law_pool fd) : FnOk P w K mg base CX0 1 (He.fAd K ("_law_pool", none)) fd ["_law_script"] (spPool K) := by
  refine F.ok sc__law_pool (fun vs H Q E h => ?_) (fun cdv A outer s H vs Q E hr h => ?_)
  · obtain ⟨_, _, rfl, _⟩ := h; rfl
  obtain ⟨a, ns, rfl, hS, h63, q⟩ := h
  have nd := sc__law_pool.nd
  refine ⟨_, PSs.nox (pss_cons (ps_set (i := 1) nd rfl (.inl rfl) (pe_lst pa_nil))
    (pss_cons (ps_for PassesOwn.never rfl (pi_list (pe_slice sl_list (pv 0) po_none (po_some pe_int))) (pg_name (i := 2) nd rfl (.inl rfl))
      (pss_cons (ps_set (i := 3) nd rfl (.inl rfl) (pe_callTy call_int1 (by rfl) T.n_int (by decide +kernel) (pa_cons (pv 2) pa_nil)))
      (pss_one (ps_if (pt_cmpR op_ge (pv 3) (pe_op op_pow pe_int pe_int) (nomark _))
        (pss_one (ps_for PassesOwn.never rfl (pi_range1 rfl T.n_range (pa_cons pe_int pa_nil)) (pg_name (i := 4) nd rfl (.inl rfl))
          (pss_one (ps_if (pt_cmpR op_gt (pv 3) pe_int (nomark _))
            (pss_cons (ps_expr (pe_bm PySem.F.plainAttrs_list PySem.F.slot_list_append PySem.F.type_list_append mt_append (pv 1) (pa_cons (pe_op op_mod (pv 3) pe_int) pa_nil)))
            (pss_one (ps_set (i := 3) nd rfl (.inl rfl) (pe_op op_fdiv (pv 3) pe_int)))) pss_nil))))
        (pss_cons (ps_set (i := 5) nd rfl (.inl rfl) (pe_op op_mod (pe_callTy call_int1 (by rfl) T.n_int (by decide +kernel) (pa_cons (pe_op op_add (pe_op op_mul (pv 3) pe_int) pe_int) pa_nil)) pe_int))
        (pss_one (ps_for PassesOwn.never rfl (pi_range1 rfl T.n_range (pa_cons pe_int pa_nil)) (pg_name (i := 4) nd rfl (.inl rfl))
          (pss_cons (ps_set (i := 5) nd rfl (.inl rfl) (pe_op op_mod (pe_callTy call_int1 (by rfl) T.n_int (by decide +kernel) (pa_cons (pe_op op_add (pe_op op_add (pe_op op_mul (pv 5) pe_int) (pe_op op_mul pe_int (pv 4))) pe_int) pa_nil)) pe_int))
          (pss_one (ps_expr (pe_bm PySem.F.plainAttrs_list PySem.F.slot_list_append PySem.F.type_list_append mt_append (pv 1)
            (pa_cons (pe_op op_mod (pe_callTy call_int1 (by rfl) T.n_int (by decide +kernel) (pa_cons (pe_op op_fdiv (pe_op op_mul (pv 5) (pv 5)) pe_int) pa_nil)) pe_int) pa_nil))))))))))))
    (pss_one (ps_ret (pe_revL (pv 1)))))), ?_⟩
  refine ⟨Nat.zero_le _, fun p hp => ?_⟩
  have s1 := same_new (o := .lst []) hp
  refine ⟨_, rfl, _, rfl, a, _, rfl, s1.seq hS, fun c hc => ?_⟩
  obtain ⟨ms, em, hm⟩ := cutV_ints ns none (some 63)
  have s2 := s1.trans (same_new (o := .lst (cutV (ns.map V.int) none (some 63))) hc)
  have npc : p ≠ c := ne_of_none upd_same hc
  have hc0 : H c = none := s1.free hc
  refine ⟨c, rfl, ⟨_, SqL.of upd_same⟩, for_it (walk_list (K := K) (a := c) (xs := ms.map V.int)) (fun i σ H2 => (∃ v2 v3 v4 v5, σ = [some (.ref a), some (.ref p), v2, v3, v4, v5]) ∧ Same H H2 ∧ H2 c = some (.lst (ms.map V.int)) ∧ PoolLen H2 p (60 * i)) ?_ (fun i σ H2 _ z => SqL.of z.2.2.1) ?_ ?_⟩
  · exact ⟨⟨_, _, _, _, rfl⟩, s2, by rw [upd_same, em], [], by rw [upd_ne npc, upd_same] <;> rfl, Nat.zero_le _⟩
  · rintro i x σ H2 H3 hi ⟨⟨v2, v3, v4, v5, rfl⟩, sm, hcc, ps, hps, hpl⟩ ⟨rfl, hx⟩
    obtain ⟨n, rfl⟩ := int_item hx
    rw [List.length_map] at hi
    have i63 : i < 63 := by omega
    refine ⟨_, rfl, .inl ⟨_, rfl, ?_⟩⟩
    refine ⟨_, rfl, _, _, rfl, rfl, ⟨by decide, by decide, by decide⟩, _, _, rfl, rfl, _, rfl, ite2 (fun h1 => ?_) (fun h1 => ?_)⟩
    · refine ⟨_, rfl, by decide, by decide, for_it walk_range (fun j σ H4 => (∃ v2 z v4 v5, σ = [some (.ref a), some (.ref p), v2, some (.int z), v4, v5]) ∧ Same H H4 ∧ H4 c = some (.lst (ms.map V.int)) ∧ PoolLen H4 p (60 * i + j)) ⟨⟨_, _, _, _, rfl⟩, sm, hcc, ps, hps, hpl⟩ (fun _ _ _ _ _ => trivial) ?_ ?_⟩
      · rintro j y σ H4 H5 hj ⟨⟨v2, z, v4, v5, rfl⟩, sm, hcc, ps, hps, hpl⟩ ⟨rfl, rfl⟩
        refine ⟨_, rfl, _, _, rfl, rfl, _, rfl, ite2 (fun h2 => ?_) (fun h2 => ?_)⟩
        · refine ⟨_, rfl, .inl ⟨rfl, _, SqL.of hps⟩, _, rfl, _, _, rfl, rfl, (by show (0 : Int) < 1000000; decide), p, _, _, rfl, rfl, hps, (by rw [List.length_map]; exact sz_lt (by have : j < 60 := hj; omega)), ?_⟩
          refine ⟨_, rfl, _, _, rfl, rfl, ⟨by decide, by decide⟩, ⟨_, _, _, _, rfl⟩, same_mut sm hp, by rw [upd_ne npc.symm]; exact hcc, ps ++ [z % 1000000], by rw [upd_same, List.map_append] <;> rfl, ?_⟩
          rw [List.length_append, List.length_singleton]; omega
        · exact ⟨⟨_, _, _, _, rfl⟩, sm, hcc, ps, hps, by omega⟩
      · rintro σ H4 ⟨⟨v2, z, v4, v5, rfl⟩, sm, hcc, ps, hps, hpl⟩
        exact ⟨⟨_, _, _, _, rfl⟩, sm, hcc, ps, hps, by have : ((60 : Int)).toNat = 60 := rfl; omega⟩
    · refine ⟨_, rfl, _, _, rfl, rfl, .inr ⟨by decide, by decide⟩, _, _, rfl, rfl, .inl ⟨_, rfl, _, _, rfl, rfl, (by show (0 : Int) < 2147483647; decide), ?_⟩⟩
      have m0 : 0 ≤ (n * 48271 + 12345) % 2147483647 ∧ (n * 48271 + 12345) % 2147483647 < 2147483647 := ⟨Int.emod_nonneg _ (by decide), Int.emod_lt_of_pos _ (by decide)⟩
      refine ⟨_, rfl, by decide, by decide, for_it walk_range (fun j σ H4 => (∃ v2 v3 v4 m, σ = [some (.ref a), some (.ref p), v2, v3, v4, some (.int m)] ∧ 0 ≤ m ∧ m < 2147483647) ∧ Same H H4 ∧ H4 c = some (.lst (ms.map V.int)) ∧ PoolLen H4 p (60 * i + j)) ⟨⟨_, _, _, _, rfl, m0.1, m0.2⟩, sm, hcc, ps, hps, hpl⟩ (fun _ _ _ _ _ => trivial) ?_ ?_⟩
      · rintro j y σ H4 H5 hj ⟨⟨v2, v3, v4, m, rfl, m1, m2⟩, sm, hcc, ps, hps, hpl⟩ ⟨rfl, rfl⟩
        refine ⟨_, rfl, _, _, rfl, rfl, .inr ⟨by decide, by decide⟩, _, rfl, _, _, rfl, rfl, .inl ⟨by decide, by decide⟩, _, _, rfl, rfl, _, _, rfl, rfl, .inl ⟨_, rfl, _, _, rfl, rfl, (by show (0 : Int) < 2147483629; decide), ?_⟩⟩
        have m3 : 0 ≤ (m * 69621 + 7 * (0 + (j : Int)) + 1) % 2147483629 ∧ (m * 69621 + 7 * (0 + (j : Int)) + 1) % 2147483629 < 2147483629 := ⟨Int.emod_nonneg _ (by decide), Int.emod_lt_of_pos _ (by decide)⟩
        refine ⟨_, rfl, .inl ⟨rfl, _, SqL.of hps⟩, _, rfl, _, rfl, _, _, rfl, rfl, .inl ⟨by have := m3.1; omega, by have := m3.2; omega⟩, _, _, rfl, rfl, ⟨by decide, by decide⟩, .inl ⟨_, rfl, _, _, rfl, rfl, (by show (0 : Int) < 1000000; decide), p, _, _, rfl, rfl, hps, (by rw [List.length_map]; exact sz_lt (by have : j < 12 := hj; omega)), ?_⟩⟩
        exact ⟨⟨_, _, _, _, rfl, m3.1, by have := m3.2; omega⟩, same_mut sm hp, by rw [upd_ne npc.symm]; exact hcc, ps ++ [_], by rw [upd_same, List.map_append] <;> rfl, by rw [List.length_append, List.length_singleton]; omega⟩
      · rintro σ H4 ⟨⟨v2, v3, v4, m, rfl, m1, m2⟩, sm, hcc, ps, hps, hpl⟩
        exact ⟨⟨_, _, _, _, rfl⟩, sm, hcc, ps, hps, by have : ((12 : Int)).toNat = 12 := rfl; omega⟩
  · rintro σ H2 ⟨⟨v2, v3, v4, v5, rfl⟩, sm, hcc, ps, hps, hpl⟩
    rw [List.length_map] at hpl
    refine ⟨_, rfl, p, _, rfl, SqL.of hps, fun r hr' => ?_⟩
    refine q r _ (sm.trans (same_new hr')) (sm.free hr') ⟨ps.reverse, by rw [upd_same, List.map_reverse], by rw [List.length_reverse]; omega⟩
end
end Bg
set_option Elab.async false
set_option linter.all false
set_option maxRecDepth 100000
set_option maxHeartbeats 4000000
namespace Bg
open PySem PySem.Spec PyProof.Rows L2
/-! ### drawn names -/
def goodC (c : Nat) : Bool := decide (c < 128) && Unicode.isAlnum c
def lets : Str := "abcdefghijklmnopqrstuvwxyzABCDEFGHIJKLMNOPQRSTUVWXYZ0123456789"
theorem lets_len : lets.cps.toList.length = 62 := by decide +kernel
theorem lets_good : ∀ i, i < 62 → goodC (lets.cps.toList.getD i 0) = true := by decide +kernel
theorem lets_alpha : ∀ i, i < 52 → Unicode.isAlpha (lets.cps.toList.getD i 0) = true := by decide +kernel
theorem x_good : goodC 120 = true := by decide +kernel
/-- a drawn name of at most n signs -/
structure GN (x : Str) (n : Nat) : Prop where
  all : ∀ c ∈ x.cps.toList, goodC c = true
  head : ∃ c r, x.cps.toList = c :: r ∧ Unicode.isAlpha c = true
  len : x.cps.toList.length ≤ n
theorem str_len (x : Str) : x.length = x.cps.toList.length := by unfold Str.length; simp
theorem GN.mono {x : Str} {n m : Nat} (h : GN x n) (l : n ≤ m) : GN x m := ⟨h.all, h.head, Nat.le_trans h.len l⟩
theorem app_cps (x y : Str) : (x ++ y).cps.toList = x.cps.toList ++ y.cps.toList := by
  show (Str.append x y).cps.toList = _
  unfold Str.append; simp
theorem str_ext {x y : Str} (h : x.cps.toList = y.cps.toList) : x = y := PySem.W.str_of_cps h
theorem GN.app {x : Str} {n : Nat} (h : GN x n) {c : Nat} (hc : goodC c = true) : GN (x ++ (⟨#[c]⟩ : Str)) (n + 1) := by
  have e : (x ++ (⟨#[c]⟩ : Str)).cps.toList = x.cps.toList ++ [c] := app_cps _ _
  refine ⟨fun d hd => ?_, ?_, ?_⟩
  · rw [e] at hd
    rcases List.mem_append.mp hd with z | z
    · exact h.all d z
    · rw [List.mem_singleton.mp z]; exact hc
  · obtain ⟨a, r, e2, ha⟩ := h.head
    exact ⟨a, r ++ [c], by rw [e, e2]; rfl, ha⟩
  · rw [e, List.length_append, List.length_singleton]; have := h.len; omega
theorem GN.nameB {x : Str} {n : Nat} (h : GN x n) (hn : n ≤ 24) : nameB x = true := by
  obtain ⟨c, r, e, ha⟩ := h.head
  have hl := h.len
  have l1 : 1 ≤ x.cps.toList.length := by rw [e]; simp
  unfold Bg.nameB Txt.isascii Txt.isalnum Txt.isalpha
  have a1 : x.cps.all (fun z => decide (z < 128)) = true := by
    rw [← Array.all_toList, List.all_eq_true]
    intro d hd
    have := h.all d hd
    unfold goodC at this; simp at this; simpa using this.1
  have a2 : x.cps.all Unicode.isAlnum = true := by
    rw [← Array.all_toList, List.all_eq_true]
    intro d hd
    have := h.all d hd
    unfold goodC at this; simp at this; exact this.2
  have a3 : x.cps.toList.headD 0 = c := by rw [e]; rfl
  have l2 : x.length = x.cps.toList.length := str_len x
  rw [a1, a2, a3]
  have l3 : 0 < x.length := by omega
  simp only [l3, gt_iff_lt, decide_true, Bool.true_and, Bool.and_true]
  rw [decide_eq_true (show 1 ≤ x.length by omega), decide_eq_true (show x.length ≤ 24 by omega)]
  show (true && (true && (decide (0 < (⟨#[c]⟩ : Str).length) && (#[c] : Array Nat).all Unicode.isAlpha))) = true
  simp [ha, Str.length]
/-- base and j times x -/
def withX (b : Str) (j : Nat) : Str := ⟨(b.cps.toList ++ List.replicate j 120).toArray⟩
theorem withX_zero (b : Str) : withX b 0 = b := str_ext (by simp [withX])
theorem withX_succ (b : Str) (j : Nat) : withX b j ++ (⟨#[120]⟩ : Str) = withX b (j + 1) := str_ext (by
  rw [app_cps]
  simp [withX, List.replicate_succ'])
theorem withX_inj {b : Str} {i j : Nat} (h : withX b i = withX b j) : i = j := by
  have := congrArg (fun z : Str => z.cps.toList.length) h
  simp [withX] at this; exact this
theorem withX_out {b : Str} {ks : List Str} (h : ∀ j, j < ks.length → withX b j ∈ ks) : withX b ks.length ∉ ks := by
  intro hm
  have nd : ((List.range (ks.length + 1)).map (withX b)).Nodup := by
    rw [List.nodup_iff_pairwise_ne, List.pairwise_map]
    exact List.Pairwise.imp (fun {i j} ne z => ne (withX_inj z)) (List.nodup_iff_pairwise_ne.mp List.nodup_range)
  have := nodup_sub_len _ ks nd fun x hx => by
    obtain ⟨j, hj, rfl⟩ := List.mem_map.mp hx
    have hj := List.mem_range.mp hj
    by_cases e : j = ks.length
    · rw [e]; exact hm
    · exact h j (by omega)
  simp at this
  omega
theorem x_lit : ("x" : Str) = (⟨#[120]⟩ : Str) := by decide +kernel
theorem at_nat {α : Type} {l : List α} {z : Int} {j : Nat} {x : α} (e : z = (j : Int)) (h : l[j]? = some x) : atI l z = some x := by
  rw [e]; exact atI_nat h
theorem at_lets {z : Int} (h0 : 0 ≤ z) (h1 : z < 62) : atI lets.cps.toList z = some (lets.cps.toList.getD z.toNat 0) := by
  have lt : z.toNat < lets.cps.toList.length := by rw [lets_len]; omega
  refine at_nat (Int.toNat_of_nonneg h0).symm ?_
  rw [List.getD_eq_getElem?_getD, List.getElem?_eq_getElem lt] <;> rfl
section
variable {P : Program} {w : World} {K : PySem.W.Frag} {mg : Str → Option Value} {base : Heap} {fd : FuncData}
def spName (K : PySem.W.Frag) : Sp := fun vs H Q _ => ∃ (sd k : Int) (t : Addr) (ks : List Str), vs = [.int sd, .int k, .ref t] ∧ (0 ≤ sd ∧ sd ≤ 10000000) ∧ (0 ≤ k ∧ k ≤ 1000) ∧ SqL K H t (ks.map V.str) ∧ ks.length ≤ 20 ∧ ∀ x, GN x (4 + ks.length) → x ∉ ks → Q (.str x) H
theorem ok_name (T : Tx K mg) (F : FnP K ("_law_name", none) "_law_name" "_law_name" s__law_name fd) : FnOk P w K mg base CX0 1 (He.fAd K ("_law_name", none)) fd ["_law_seed", "_law_k", "_law_taken"] (spName K) := by
  refine F.ok sc__law_name (fun vs H Q E h => ?_) (fun cdv A outer s H vs Q E hr h => ?_)
  · obtain ⟨_, _, _, _, rfl, _⟩ := h; rfl
  obtain ⟨sd, k, t, ks, rfl, ⟨s0, s1⟩, ⟨k0, k1⟩, hS, h20, q⟩ := h
  have nd := sc__law_name.nd
  refine ⟨_, PSs.nox (pss_cons (ps_set (i := 3) nd rfl (.inl rfl) pe_str)
    (pss_cons (ps_set (i := 4) nd rfl (.inl rfl) (pe_op op_mod (pe_callTy call_int1 (by rfl) T.n_int (by decide +kernel) (pa_cons (pe_op op_mul (pe_op op_mul (pe_op op_add (pv 0) pe_int) (pe_op op_add (pv 1) pe_int)) pe_int) pa_nil)) pe_int))
    (pss_cons (ps_set (i := 5) nd rfl (.inl rfl) (pe_ix ix_str (pv 3) (pe_op op_mod (pv 4) pe_int) (fun _ _ => rfl)))
    (pss_cons (ps_for PassesOwn.never rfl (pi_range1 rfl T.n_range (pa_cons (pe_op op_mod (pe_op op_fdiv (pv 4) pe_int) pe_int) pa_nil)) (pg_name (i := 6) nd rfl (.inl rfl))
      (pss_cons (ps_set (i := 4) nd rfl (.inl rfl) (pe_op op_mod (pe_callTy call_int1 (by rfl) T.n_int (by decide +kernel) (pa_cons (pe_op op_add (pe_op op_mul (pv 4) pe_int) pe_int) pa_nil)) pe_int))
      (pss_one (ps_set (i := 5) nd rfl (.inl rfl) (pe_op op_add_str (pv 5) (pe_ix ix_str (pv 3) (pe_op op_mod (pe_op op_fdiv (pv 4) pe_int) pe_int) (fun _ _ => rfl)))))))
    (pss_cons (ps_for PassesOwn.never rfl (pi_range1 rfl T.n_range (pa_cons (pe_callB call_len_seq (by rfl) T.n_len PySem.boot_len (pa_cons (pv 2) pa_nil)) pa_nil)) (pg_name (i := 6) nd rfl (.inl rfl))
      (pss_one (ps_if (pt_cmpR op_in_seq (pv 5) (pv 2) (by rfl)) (pss_one (ps_set (i := 5) nd rfl (.inl rfl) (pe_op op_add_str (pv 5) pe_str))) pss_nil)))
    (pss_one (ps_ret (pv 5)))))))), ?_⟩
  have m0 : 0 ≤ (sd + 1) * (k + 5) * 48271 % 2147483647 := Int.emod_nonneg _ (by decide)
  have m1 : (sd + 1) * (k + 5) * 48271 % 2147483647 < 2147483647 := Int.emod_lt_of_pos _ (by decide)
  refine ⟨_, rfl, _, _, rfl, rfl, _, rfl, _, _, rfl, rfl, _, _, rfl, rfl, .inl ⟨by omega, by omega⟩, _, _, rfl, rfl, .inr ⟨by decide, by decide⟩, .inl ⟨_, rfl, _, _, rfl, rfl, (by show (0 : Int) < 2147483647; decide), ?_⟩⟩
  have c0 : 0 ≤ ((sd + 1) * (k + 5) * 48271 % 2147483647) % 52 := Int.emod_nonneg _ (by decide)
  have c1 : ((sd + 1) * (k + 5) * 48271 % 2147483647) % 52 < 52 := Int.emod_lt_of_pos _ (by decide)
  have ll : lets.length ≤ sizeLine := by rw [str_len, lets_len]; decide
  refine ⟨_, rfl, _, rfl, _, _, rfl, rfl, (by show (0 : Int) < 52; decide), lets, _, _, rfl, rfl, ll, at_lets c0 (by omega), ?_⟩
  have g1 : GN (⟨#[lets.cps.toList.getD (((sd + 1) * (k + 5) * 48271 % 2147483647) % 52).toNat 0]⟩ : Str) 1 := by
    have a := lets_good (((sd + 1) * (k + 5) * 48271 % 2147483647) % 52).toNat (by omega)
    have b := lets_alpha (((sd + 1) * (k + 5) * 48271 % 2147483647) % 52).toNat (by omega)
    refine ⟨fun c hc => ?_, ⟨_, [], rfl, b⟩, Nat.le_refl _⟩
    have : c = lets.cps.toList.getD (((sd + 1) * (k + 5) * 48271 % 2147483647) % 52).toNat 0 := by simpa using hc
    rw [this]; exact a
  have d0 : 0 ≤ ((sd + 1) * (k + 5) * 48271 % 2147483647) / 52 % 4 := Int.emod_nonneg _ (by decide)
  have d1 : ((sd + 1) * (k + 5) * 48271 % 2147483647) / 52 % 4 < 4 := Int.emod_lt_of_pos _ (by decide)
  refine ⟨_, rfl, _, _, rfl, rfl, ⟨by decide, by decide⟩, _, _, rfl, rfl, (by show (0 : Int) < 4; decide), _, rfl, ?_, ?_, for_it walk_range (fun i σ H2 => (∃ n x v6, σ = [some (.int sd), some (.int k), some (.ref t), some (.str lets), some (.int n), some (.str x), v6] ∧ 0 ≤ n ∧ n < 2147483647 ∧ GN x (1 + i)) ∧ H2 = H) ⟨⟨_, _, _, rfl, m0, m1, g1⟩, rfl⟩ (fun _ _ _ _ _ => trivial) ?_ ?_⟩
  · show -(2 ^ 62) ≤ ((sd + 1) * (k + 5) * 48271 % 2147483647) / 52 % 4; omega
  · show ((sd + 1) * (k + 5) * 48271 % 2147483647) / 52 % 4 < 2 ^ 62; omega
  · rintro i y σ H2 H3 hi ⟨⟨n, x, v6, rfl, n1, n2, gx⟩, rfl⟩ ⟨rfl, rfl⟩
    have e0 : 0 ≤ (n * 69621 + 1) % 2147483629 := Int.emod_nonneg _ (by decide)
    have e1 : (n * 69621 + 1) % 2147483629 < 2147483629 := Int.emod_lt_of_pos _ (by decide)
    refine ⟨_, rfl, _, _, rfl, rfl, .inr ⟨by decide, by decide⟩, _, _, rfl, rfl, .inl ⟨_, rfl, _, _, rfl, rfl, (by show (0 : Int) < 2147483629; decide), ?_⟩⟩
    have f0 : 0 ≤ ((n * 69621 + 1) % 2147483629) / 64 % 62 := Int.emod_nonneg _ (by decide)
    have f1 : ((n * 69621 + 1) % 2147483629) / 64 % 62 < 62 := Int.emod_lt_of_pos _ (by decide)
    have lx := gx.len
    have i4 : i < 4 := by have z : i < (((sd + 1) * (k + 5) * 48271 % 2147483647) / 52 % 4).toNat := hi; omega
    refine ⟨_, rfl, _, rfl, _, rfl, _, _, rfl, rfl, ⟨by decide, by decide⟩, _, _, rfl, rfl, (by show (0 : Int) < 62; decide), lets, _, _, rfl, rfl, ll, at_lets f0 f1, _, _, rfl, rfl, ?_, ?_⟩
    · rw [str_len]; show x.cps.toList.length + 1 ≤ sizeLine; exact sz_of (by omega)
    · exact ⟨⟨_, _, _, rfl, e0, by omega, by have := gx.app (lets_good (((n * 69621 + 1) % 2147483629) / 64 % 62).toNat (by omega)); rw [Nat.add_assoc] at this; exact this⟩, rfl⟩
  · rintro σ H2 ⟨⟨n, x, v6, rfl, n1, n2, gx⟩, rfl⟩
    have gx4 : GN x 4 := gx.mono (by omega)
    refine ⟨_, rfl, t, _, rfl, .inl hS, _, rfl, ?_, ?_, for_it walk_range (fun i σ H3 => (∃ y v6, σ = [some (.int sd), some (.int k), some (.ref t), some (.str lets), some (.int n), some (.str y), v6] ∧ GN y (4 + i) ∧ (y ∉ ks ∨ (y = withX x i ∧ ∀ j, j < i → withX x j ∈ ks))) ∧ H3 = H2) ?_ (fun _ _ _ _ _ => trivial) ?_ ?_⟩
    · show -(2 ^ 62) ≤ (((ks.map V.str).length : Nat) : Int); omega
    · show (((ks.map V.str).length : Nat) : Int) < 2 ^ 62; rw [List.length_map]; omega
    · exact ⟨⟨x, _, rfl, gx4, .inr ⟨(withX_zero x).symm, fun j hj => absurd hj (Nat.not_lt_zero _)⟩⟩, rfl⟩
    · rintro i y σ H3 H4 hi ⟨⟨z, v6, rfl, gz, hz⟩, rfl⟩ ⟨rfl, rfl⟩
      have ilt : i < ks.length := by have : i < (((ks.map V.str).length : Nat) : Int).toNat := hi; rw [List.length_map] at this; omega
      refine ⟨_, rfl, _, rfl, t, _, rfl, .inl hS, rfl, flat_str _, _, rfl, ?_⟩
      rw [inV_strs]
      refine ite2 (fun h1 => ?_) (fun h1 => ?_)
      · have hin : z ∈ ks := of_decide_eq_true h1
        obtain ⟨e1, e2⟩ := hz.resolve_left fun w => w hin
        have lz := gz.len
        refine ⟨_, rfl, _, _, rfl, rfl, ?_, ⟨_, _, rfl, ?_, .inr ⟨?_, fun j hj => ?_⟩⟩, rfl⟩
        · rw [str_len, str_len, x_lit]; show z.cps.toList.length + 1 ≤ sizeLine; exact sz_of (by omega)
        · rw [x_lit]; exact gz.app x_good
        · rw [x_lit, e1, withX_succ]
        · by_cases e : j = i
          · rw [e, ← e1]; exact hin
          · exact e2 j (by omega)
      · exact ⟨⟨_, _, rfl, gz.mono (by omega), .inl fun w => h1 (decide_eq_true w)⟩, rfl⟩
    · rintro σ H3 ⟨⟨z, v6, rfl, gz, hz⟩, rfl⟩
      have en : (((ks.map V.str).length : Nat) : Int).toNat = ks.length := by rw [List.length_map]; omega
      rw [en] at gz hz
      refine ⟨_, rfl, q z gz ?_⟩
      rcases hz with hz | ⟨e1, e2⟩
      · exact hz
      · rw [e1]; exact withX_out e2
end
end Bg
set_option Elab.async false
set_option linter.all false
set_option maxRecDepth 100000
set_option maxHeartbeats 4000000
namespace Bg
open PySem PySem.Spec PyProof.Rows L2
/-- drawn parts, of tree kinds ks -/
structure GP (ks : List Str) (ps : List Part) : Prop where
  few : ps.length ≤ 4
  nd : (ps.map (·.1)).Nodup
  each : ∀ p ∈ ps, GN p.1 8 ∧ (p.2 = (("byte" : Str), none) ∨ ∃ k ∈ ks, ∃ c : Int, p.2 = (k, some c) ∧ 1 ≤ c ∧ c ≤ 1000)
theorem but_at {a : Addr} {H H' : Hp} (s : But a H H') {b : Addr} {o : HO} (h : H b = some o) (n : b ≠ a) : H' b = some o := s b o n h
theorem PoolAt.not {H : Hp} {a : Addr} (h : PoolAt H a) : ∀ u, Fixed u → H a ≠ some u := by
  obtain ⟨ns, ha, _⟩ := h; exact notFixed_lst ha
theorem PoolAt.ne_new {H : Hp} {a p : Addr} (h : PoolAt H a) (hp : H p = none) : a ≠ p := by
  obtain ⟨ns, ha, _⟩ := h; exact ne_of_none ha hp
theorem PoolAt.same {H H' : Hp} {a : Addr} (s : Same H H') (h : PoolAt H a) : PoolAt H' a := by
  obtain ⟨ns, ha, l⟩ := h; exact ⟨ns, s _ _ ha, l⟩
theorem PoolAt.upd {H : Hp} {a p : Addr} {o : HO} (h : PoolAt H a) (n : a ≠ p) : PoolAt (upd H p o) a := by
  obtain ⟨ns, ha, l⟩ := h; exact ⟨ns, by rw [upd_ne n]; exact ha, l⟩
section
variable {P : Program} {w : World} {K : PySem.W.Frag} {mg : Str → Option Value} {base : Heap} {fd : FuncData}
def spLParts : Sp := fun vs H Q _ => ∃ (a tn : Addr) (sd : Int) (b : Bool) (ks : List Str), vs = [.ref a, .int sd, .ref tn, .bl b] ∧ PoolAt H a ∧ (0 ≤ sd ∧ sd ≤ 10000000) ∧ H tn = some (.lst (ks.map V.str)) ∧ tn ≠ a ∧ ks.length ≤ 10 ∧
  ∀ v ps H', But a H H' → PoolAt H' a → PartsAt H' v ps → GP ks ps → Q v H'
theorem ok_lparts (T : Tx K mg) (F : FnP K ("_law_parts", none) "_law_parts" "_law_parts" s__law_parts fd) : FnOk P w K mg base CX0 2 (He.fAd K ("_law_parts", none)) fd ["_law_pool_here", "_law_seed", "_law_names", "_law_base"] spLParts := by
  obtain ⟨f1, F1⟩ := T.F__law_take
  obtain ⟨f2, F2⟩ := T.F__law_name
  refine F.ok sc__law_parts (fun vs H Q E h => ?_) (fun cdv A outer s H vs Q E hr h => ?_)
  · obtain ⟨_, _, _, _, _, rfl, _⟩ := h; rfl
  obtain ⟨a, tn, sd, b, ks, rfl, hP, hsd, hn, nta, hk, q⟩ := h
  have nd := sc__law_parts.nd
  refine ⟨_, PSs.nox (pss_cons (ps_set (i := 4) nd rfl (.inl rfl) (pe_lst pa_nil)) (pss_cons (ps_set (i := 5) nd rfl (.inl rfl) (pe_lst pa_nil)) (pss_cons (ps_set (i := 6) nd rfl (.inl rfl) pe_int)
    (pss_cons (ps_for PassesOwn.never rfl (pi_range1 rfl T.n_range (pa_cons (pe_op op_mod (pe_callTy call_int1 (by rfl) T.n_int (by decide +kernel) (pa_cons (pe_op op_add pe_int (pe_call (ok_take T F1) hr (by rfl) T.g_law_take T.k_law_take (b__law_take F1) .nil pass0 (pa_cons (pv 0) (pa_cons pe_int pa_nil)))) pa_nil)) pe_int) pa_nil)) (pg_name (i := 7) nd rfl (.inl rfl))
      (pss_cons (ps_expr (pe_bm PySem.F.plainAttrs_list PySem.F.slot_list_append PySem.F.type_list_append mt_append (pv 5) (pa_cons (pe_call (ok_name T F2) hr (by rfl) T.g_law_name T.k_law_name (b__law_name F2) .nil pass0 (pa_cons (pv 1) (pa_cons (pv 7) (pa_cons (pv 5) pa_nil)))) pa_nil)))
      (pss_cons (ps_set (i := 8) nd rfl (.inl rfl) (pe_call (ok_take T F1) hr (by rfl) T.g_law_take T.k_law_take (b__law_take F1) .nil pass0 (pa_cons (pv 0) (pa_cons (pe_op op_add (pe_callB call_len_seq (by rfl) T.n_len PySem.boot_len (pa_cons (pv 2) pa_nil)) pe_int) pa_nil))))
      (pss_cons (ps_set (i := 9) nd rfl (.inl rfl) (pe_op op_add pe_int (pe_call (ok_take T F1) hr (by rfl) T.g_law_take T.k_law_take (b__law_take F1) .nil pass0 (pa_cons (pv 0) (pa_cons (pe_ix ix_list (pe_lst (pa_cons pe_int (pa_cons pe_int pa_nil)))
          (pe_call (ok_take T F1) hr (by rfl) T.g_law_take T.k_law_take (b__law_take F1) .nil pass0 (pa_cons (pv 0) (pa_cons pe_int pa_nil))) (fun _ _ => rfl)) pa_nil)))))
      (pss_one (ps_if (PW.pt (pw_or (pt_cmpR op_eq (pv 8) (pe_callB call_len_seq (by rfl) T.n_len PySem.boot_len (pa_cons (pv 2) pa_nil)) (nomark _)) (pw_or1 (PW.pt (pw_and (pt_val (pv 3)) (pw_and1 (pt_cmpR op_eq (pv 6) pe_int (nomark _))))))))
        (pss_one (ps_expr (pe_bm PySem.F.plainAttrs_list PySem.F.slot_list_append PySem.F.type_list_append mt_append (pv 4) (pa_cons (pe_tup (pa_cons (pe_ix ix_list (pv 5) (pv 7) (fun _ _ => rfl)) (pa_cons pe_str pa_nil))) pa_nil))))
        (pss_cons (ps_set (i := 6) nd rfl (.inl rfl) (pe_op op_add (pv 6) pe_int))
        (pss_one (ps_expr (pe_bm PySem.F.plainAttrs_list PySem.F.slot_list_append PySem.F.type_list_append mt_append (pv 4) (pa_cons (pe_tup (pa_cons (pe_ix ix_list (pv 5) (pv 7) (fun _ _ => rfl)) (pa_cons (pe_ix ix_list (pv 2) (pv 8) (fun _ _ => rfl)) (pa_cons (pv 9) pa_nil)))) pa_nil)))))))))))
    (pss_one (ps_ret (pe_callTy call_tuple_of (by rfl) T.n_tuple (by decide +kernel) (pa_cons (pv 4) pa_nil)))))))), ?_⟩
  refine ⟨Nat.zero_le _, fun p4 hp4 => ⟨Nat.zero_le _, fun p5 hp5 => ?_⟩⟩
  have s1 := (same_new (o := .lst []) hp4).trans (same_new (o := .lst []) hp5)
  have hp50 : H p5 = none := (same_new hp4).free hp5
  have n45 : p4 ≠ p5 := ne_of_none upd_same hp5
  have na4 : a ≠ p4 := hP.ne_new hp4
  have na5 : a ≠ p5 := hP.ne_new hp50
  have nt4 : tn ≠ p4 := ne_of_none hn hp4
  have nt5 : tn ≠ p5 := ne_of_none hn hp50
  refine ⟨_, rfl, a, 5, rfl, hP.same s1, by decide, fun z H1 z0 z1 b1 hP1 => ⟨_, _, rfl, rfl, .inl ⟨_, rfl, _, _, rfl, rfl, (by show (0 : Int) < 5; decide), ?_⟩⟩⟩
  have y0 : 0 ≤ (2 + z) % 5 := Int.emod_nonneg _ (by decide)
  have y1 : (2 + z) % 5 < 5 := Int.emod_lt_of_pos _ (by decide)
  refine ⟨_, rfl, (by show -(2 ^ 62) ≤ (2 + z) % 5; omega), (by show (2 + z) % 5 < 2 ^ 62; omega), for_it walk_range (fun i σ H2 => (∃ tr v7 v8 v9, σ = [some (.ref a), some (.int sd), some (.ref tn), some (.bl b), some (.ref p4), some (.ref p5), some (.int tr), v7, v8, v9]) ∧ But a H H2 ∧ PoolAt H2 a ∧
    ∃ vs ps, H2 p4 = some (.lst vs) ∧ H2 p5 = some (.lst (ps.map fun p => V.str p.1)) ∧ All2 (PartAt H2) vs ps ∧ ps.length = i ∧ (ps.map (·.1)).Nodup ∧ ∀ p ∈ ps, GN p.1 8 ∧ (p.2 = (("byte" : Str), none) ∨ ∃ k ∈ ks, ∃ c : Int, p.2 = (k, some c) ∧ 1 ≤ c ∧ c ≤ 1000)) ?_ (fun _ _ _ _ _ => trivial) ?_ ?_⟩
  · refine ⟨⟨_, _, _, _, rfl⟩, (but_of s1).trans b1, hP1, [], [], b1 _ _ na4.symm (by rw [upd_ne n45, upd_same]), b1 _ _ na5.symm upd_same, All2.nil, rfl, List.nodup_nil, fun p hp => absurd hp (List.not_mem_nil)⟩
  · rintro i y σ H2 H3 hi ⟨⟨tr, v7, v8, v9, rfl⟩, bu, hP2, vs, ps, h4, h5, al, len, ndp, each⟩ ⟨rfl, rfl⟩
    have i4 : i < 4 := by have w : i < ((2 + z) % 5).toNat := hi; omega
    have vl : vs.length = i := by rw [al.1, len]
    have e5 : (ps.map fun p => V.str p.1) = (ps.map (·.1)).map V.str := by rw [List.map_map]; rfl
    refine ⟨_, rfl, .inl ⟨rfl, _, SqL.of h5⟩, _, rfl, _, rfl, _, rfl, sd, _, p5, ps.map (·.1), rfl, hsd, ⟨by omega, by omega⟩, by rw [← e5]; exact SqL.of h5, by rw [List.length_map]; omega, fun x gx hx => ⟨p5, _, _, rfl, rfl, h5, by rw [List.length_map]; exact small1000 (by omega), ?_⟩⟩
    have gx8 : GN x 8 := gx.mono (by rw [List.length_map]; omega)
    -- the pick
    have hn3 : H3 tn = some (.lst (ks.map V.str)) := bu _ _ nta hn
    have hn4 : (upd H3 p5 (.lst ((ps.map fun p => V.str p.1) ++ [.str x]))) tn = some (.lst (ks.map V.str)) := by rw [upd_ne nt5]; exact hn3
    refine ⟨_, rfl, _, rfl, tn, _, rfl, .inl (SqL.of hn4), _, _, rfl, rfl, a, _, rfl, hP2.upd na5, (by rw [List.length_map]; omega), fun pick H5 k0 k1 b5 hP5 => ?_⟩
    rw [List.length_map] at k1
    -- the price
    refine ⟨_, rfl, (by show 2 ≤ sizeLine; decide), fun l hl => ?_⟩
    have nal : a ≠ l := hP5.ne_new hl
    have s6 := same_new (o := .lst [.int 4, .int 1000]) hl
    refine ⟨_, rfl, a, 2, rfl, hP5.same s6, by decide, fun zz H6 zz0 zz1 b6 hP6 => ?_⟩
    have hl6 : H6 l = some (.lst [.int 4, .int 1000]) := b6 _ _ nal.symm upd_same
    obtain ⟨mx, hmx, mx0, mx1⟩ : ∃ mx : Int, atI [V.int 4, V.int 1000] zz = some (.int mx) ∧ 0 < mx ∧ mx ≤ 1000 := by
      have : zz = 0 ∨ zz = 1 := by omega
      rcases this with e | e
      · rw [e]; exact ⟨4, rfl, by decide, by decide⟩
      · rw [e]; exact ⟨1000, rfl, by decide, by decide⟩
    refine ⟨l, _, _, _, rfl, rfl, SqL.of hl6, hmx, a, mx, rfl, hP6, mx0, fun pr H7 pr0 pr1 b7 hP7 => ⟨_, _, rfl, rfl, ?_⟩⟩
    have b57 : But a (upd H3 p5 (.lst ((ps.map fun p => V.str p.1) ++ [.str x]))) H7 := b5.trans ((but_of s6).trans (b6.trans b7))
    have b37 : ∀ c o, c ≠ a → c ≠ p5 → H3 c = some o → H7 c = some o := fun c o n1 n2 e => b57 _ _ n1 (by rw [upd_ne n2]; exact e)
    have bu7 : But a H H7 := fun c o n e => b37 c o n (ne_of_none e hp50) (bu _ _ n e)
    have h57 : H7 p5 = some (.lst ((ps.map fun p => V.str p.1) ++ [.str x])) := b57 _ _ na5.symm upd_same
    have h47 : H7 p4 = some (.lst vs) := b37 _ _ na4.symm n45 h4
    have hn7 : H7 tn = some (.lst (ks.map V.str)) := b37 _ _ nta nt5 hn3
    have t37 : Tups H3 H7 := fun c u f e => b37 c u (fun w => hP2.not u f (w ▸ e)) (fun w => notFixed_lst h5 u f (w ▸ e)) e
    have al7 : All2 (PartAt H7) vs ps := al.mono fun _ _ w => w.mono t37
    have atx : atI ((ps.map fun p => V.str p.1) ++ [V.str x]) ((0 : Int) + (i : Nat)) = some (V.str x) := by
      refine at_nat (j := i) (by omega) ?_
      rw [List.getElem?_append_right (by rw [List.length_map]; omega), List.length_map, len, Nat.sub_self] <;> rfl
    -- one more part
    have more : ∀ (c : Str × Option Int) (t : Addr), H7 t = none → (c = (("byte" : Str), none) ∨ ∃ k ∈ ks, ∃ e : Int, c = (k, some e) ∧ 1 ≤ e ∧ e ≤ 1000) →
        But a H (upd (upd H7 t (.tup (partVs (x, c)))) p4 (.lst (vs ++ [.ref t]))) ∧ PoolAt (upd (upd H7 t (.tup (partVs (x, c)))) p4 (.lst (vs ++ [.ref t]))) a ∧
        ∃ vs' ps', (upd (upd H7 t (.tup (partVs (x, c)))) p4 (.lst (vs ++ [.ref t]))) p4 = some (.lst vs') ∧ (upd (upd H7 t (.tup (partVs (x, c)))) p4 (.lst (vs ++ [.ref t]))) p5 = some (.lst (ps'.map fun p => V.str p.1)) ∧
        All2 (PartAt (upd (upd H7 t (.tup (partVs (x, c)))) p4 (.lst (vs ++ [.ref t])))) vs' ps' ∧ ps'.length = i + 1 ∧ (ps'.map (·.1)).Nodup ∧ ∀ p ∈ ps', GN p.1 8 ∧ (p.2 = (("byte" : Str), none) ∨ ∃ k ∈ ks, ∃ c : Int, p.2 = (k, some c) ∧ 1 ≤ c ∧ c ≤ 1000) := by
      intro c t ht hc
      have n4t : p4 ≠ t := ne_of_none h47 ht
      have n5t : p5 ≠ t := ne_of_none h57 ht
      have nat : a ≠ t := hP7.ne_new ht
      have s8 := same_new (o := .tup (partVs (x, c))) ht
      have t8 : Tups H7 (upd (upd H7 t (.tup (partVs (x, c)))) p4 (.lst (vs ++ [.ref t]))) := Tups.trans (tups_of s8) (tups_upd fun u f w => by rw [upd_ne n4t, h47] at w; cases w; exact f)
      refine ⟨fun d o n e => ?_, (hP7.upd nat).upd na4, vs ++ [.ref t], ps ++ [(x, c)], upd_same, ?_, ?_, ?_, ?_, ?_⟩
      · rw [upd_ne (ne_of_none e hp4)]; exact s8 _ _ (bu7 _ _ n e)
      · rw [upd_ne n45.symm, upd_ne n5t, h57, List.map_append] <;> rfl
      · exact (al7.mono fun _ _ w => w.mono t8).snoc ⟨t, rfl, by rw [upd_ne n4t.symm, upd_same]⟩
      · rw [List.length_append, List.length_singleton, len]
      · rw [List.map_append]
        exact List.nodup_append.mpr ⟨ndp, by simp, fun u hu w hw e => hx (by simp at hw; rw [← hw, ← e]; exact hu)⟩
      · intro p hp
        rcases List.mem_append.mp hp with w | w
        · exact each p w
        · rw [List.mem_singleton.mp w]; exact ⟨gx8, hc⟩
    refine ⟨_, rfl, _, rfl, tn, _, rfl, .inl (SqL.of hn7), rfl, _, rfl, ?_⟩
    have ep : decide (V.int pick = V.int (((ks.map V.str).length : Nat) : Int)) = decide (pick = (ks.length : Int)) := by rw [List.length_map]; simp
    show (if decide (V.int pick = V.int (((ks.map V.str).length : Nat) : Int)) = true then _ else _)
    rw [ep]
    have vlt : vs.length < sizeLine := small1000 (by omega)
    by_cases hpk : pick = (ks.length : Int)
    · rw [decide_eq_true hpk]
      refine iteT (iteT ⟨_, rfl, .inl ⟨rfl, _, SqL.of h47⟩, _, rfl, _, rfl, p5, _, _, _, rfl, rfl, SqL.of h57, atx, (by show 2 ≤ sizeLine; decide), fun t ht => ⟨p4, _, _, rfl, rfl, (same_new ht) _ _ h47, vlt, ⟨_, _, _, _, rfl⟩, more (_, none) t ht (.inl rfl)⟩⟩)
    · rw [decide_eq_false hpk]
      refine iteF ⟨_, rfl, b, rfl, ?_⟩
      have picked : ∃ k, k ∈ ks ∧ atI (ks.map V.str) pick = some (.str k) := by
        have lt : pick.toNat < ks.length := by omega
        refine ⟨ks[pick.toNat], List.getElem_mem lt, at_nat (Int.toNat_of_nonneg k0).symm ?_⟩
        rw [List.getElem?_map, List.getElem?_eq_getElem lt] <;> rfl
      obtain ⟨k, hkin, hka⟩ := picked
      cases b with
      | false =>
        refine iteF (iteF ⟨_, rfl, _, _, rfl, rfl, _, rfl, .inl ⟨rfl, _, SqL.of h47⟩, _, rfl, _, rfl, p5, _, _, _, rfl, rfl, SqL.of h57, atx, _, rfl, _, rfl, tn, _, _, _, rfl, rfl, SqL.of hn7, hka, _, rfl, (by show 3 ≤ sizeLine; decide), fun t ht => ⟨p4, _, _, rfl, rfl, (same_new ht) _ _ h47, vlt, ⟨_, _, _, _, rfl⟩, more (k, some (1 + pr)) t ht (.inr ⟨k, hkin, _, rfl, by omega, by omega⟩)⟩⟩)
      | true =>
        refine iteT ⟨_, rfl, rfl, _, rfl, ite2 (fun h1 => ?_) (fun h1 => ?_)⟩
        · exact ⟨_, rfl, .inl ⟨rfl, _, SqL.of h47⟩, _, rfl, _, rfl, p5, _, _, _, rfl, rfl, SqL.of h57, atx, (by show 2 ≤ sizeLine; decide), fun t ht => ⟨p4, _, _, rfl, rfl, (same_new ht) _ _ h47, vlt, ⟨_, _, _, _, rfl⟩, more (_, none) t ht (.inl rfl)⟩⟩
        · exact ⟨_, rfl, _, _, rfl, rfl, _, rfl, .inl ⟨rfl, _, SqL.of h47⟩, _, rfl, _, rfl, p5, _, _, _, rfl, rfl, SqL.of h57, atx, _, rfl, _, rfl, tn, _, _, _, rfl, rfl, SqL.of hn7, hka, _, rfl, (by show 3 ≤ sizeLine; decide), fun t ht => ⟨p4, _, _, rfl, rfl, (same_new ht) _ _ h47, vlt, ⟨_, _, _, _, rfl⟩, more (k, some (1 + pr)) t ht (.inr ⟨k, hkin, _, rfl, by omega, by omega⟩)⟩⟩
  · rintro σ H2 ⟨⟨tr, v7, v8, v9, rfl⟩, bu, hP2, vs, ps, h4, h5, al, len, ndp, each⟩
    refine ⟨_, rfl, p4, _, rfl, .inl ⟨SqL.of h4, fun t ht => ?_⟩⟩
    have s8 := same_new (o := .tup vs) ht
    exact q (.ref t) ps _ (bu.trans (but_of s8)) (hP2.same s8) ⟨t, vs, rfl, upd_same, al.mono fun _ _ w => w.mono (tups_of s8)⟩ ⟨by rw [len]; omega, ndp, each⟩
end
end Bg
set_option Elab.async false
set_option linter.all false
set_option maxRecDepth 100000
set_option maxHeartbeats 4000000
namespace Bg
open PySem PySem.Spec PyProof.Rows L2
/-! ### a drawn table is valid -/
structure Draw (ns : List Str) (rs : List Row) : Prop where
  n3 : ns.length ≤ 3
  n1 : ns ≠ []
  nd : ns.Nodup
  names : ∀ k ∈ ns, GN k 8 ∧ k ≠ ("byte" : Str)
  each : ∀ r ∈ rs, r.1 ∈ ns ∧ GN r.2.1 13 ∧ GP ns r.2.2
  makers : (rmakers rs).Nodup
  nine : rs.length ≤ 9
  base : ∀ j k, ns[j]? = some k → ∃ r ∈ rs, r.1 = k ∧ GP (ns.drop (j + 1)) r.2.2
theorem GN.short {x : Str} {n : Nat} (h : GN x n) (l : n ≤ 100000) : x.length ≤ 100000 := by rw [str_len]; have := h.len; omega
theorem byte_len : ("byte" : Str).length ≤ 100000 := by decide +kernel
theorem GP.partsB {ks : List Str} {ps : List Part} (h : GP ks ps) (hk : ∀ k ∈ ks, GN k 8 ∧ k ≠ ("byte" : Str)) : partsB ps = true := by
  unfold Bg.partsB
  have e1 : ps.all partB = true := by
    rw [List.all_eq_true]
    intro p hp
    obtain ⟨g, z⟩ := h.each p hp
    obtain ⟨n, k, c⟩ := p
    rcases z with z | ⟨k', hk', c', z, c0, c1⟩
    · cases z; rw [partB_n, g.nameB (by decide), decide_eq_true rfl]; rfl
    · cases z
      obtain ⟨gk, nk⟩ := hk k hk'
      rw [partB_s, g.nameB (by decide)]
      unfold kindB
      rw [gk.nameB (by decide), decide_eq_false nk, decide_eq_true c0, decide_eq_true c1]; rfl
  have e2 : (distinct (ps.map (·.1))).length = ps.length := by rw [distinct_of_nodup h.nd, List.length_map]
  rw [e1, decide_eq_true h.few, decide_eq_true e2]; rfl
theorem Draw.mem {ns : List Str} {rs : List Row} (d : Draw ns rs) {k : Str} (h : k ∈ ns) : k ∈ rkinds rs := by
  obtain ⟨j, hj⟩ := List.getElem?_of_mem h
  obtain ⟨r, hr, e, _⟩ := d.base j k hj
  exact List.mem_map.mpr ⟨r, hr, e⟩
theorem Draw.valid {ns : List Str} {rs : List Row} (d : Draw ns rs) : ValidT rs where
  short := by
    refine ⟨by have := d.nine; omega, fun r hr => ?_⟩
    obtain ⟨h1, h2, h3⟩ := d.each r hr
    refine ⟨(d.names _ h1).1.short (by decide), h2.short (by decide), by have := h3.few; omega, fun p hp => ?_⟩
    obtain ⟨g, z⟩ := h3.each p hp
    refine ⟨g.short (by decide), ?_⟩
    rcases z with z | ⟨k', hk', c', z, _⟩
    · rw [z]; exact byte_len
    · rw [z]; exact (d.names _ hk').1.short (by decide)
  ne := by
    intro z
    obtain ⟨k, r, e⟩ := List.exists_cons_of_ne_nil d.n1
    obtain ⟨r, hr, _⟩ := d.base 0 k (by rw [e]; rfl)
    rw [z] at hr; cases hr
  each := by
    refine ⟨fun r hr => ?_, d.makers, by have := d.nine; omega, ?_⟩
    · obtain ⟨h1, h2, h3⟩ := d.each r hr
      obtain ⟨gk, nk⟩ := d.names _ h1
      refine ⟨?_, h2.nameB (by decide), h3.partsB d.names⟩
      unfold kindB
      rw [gk.nameB (by decide), decide_eq_false nk]; rfl
    · refine Nat.le_trans (nodup_sub_len _ ns (nodup_distinct _) fun k hk => ?_) (by have := d.n3; omega)
      obtain ⟨r, hr, e⟩ := List.mem_map.mp (mem_distinct.mp hk)
      rw [← e]; exact (d.each r hr).1
  inner := fun r hr p hp => by
    rcases ((d.each r hr).2.2.each p hp).2 with z | ⟨k, hk, c, z, _⟩
    · rw [z]; exact .inl rfl
    · rw [z]; exact .inr (d.mem hk)
  fin := by
    refine ⟨fun k => ns.length - 1 - ns.idxOf k, fun k hk => ?_, fun k hk => ?_⟩
    · have h1 : ns.length ≤ (distinct (rkinds rs)).length := nodup_sub_len _ _ d.nd fun x hx => mem_distinct.mpr (d.mem hx)
      have : 0 < ns.length := List.length_pos_iff.mpr d.n1
      show ns.length - 1 - ns.idxOf k < _
      omega
    · obtain ⟨r0, hr0, e0⟩ := List.mem_map.mp hk
      have hkn : k ∈ ns := by rw [← e0]; exact (d.each r0 hr0).1
      obtain ⟨j, hj⟩ := List.getElem?_of_mem hkn
      obtain ⟨r, hr, e, gp⟩ := d.base j k hj
      have ej : ns.idxOf k = j := nd_ix d.nd (mem_idxOf hkn).1 hj
      refine ⟨r, hr, e, fun p hp => ?_⟩
      rcases (gp.each p hp).2 with z | ⟨k', hk', c, z, _⟩
      · rw [z]; exact .inl rfl
      · rw [z]
        have hk2 : k' ∈ ns := List.mem_of_mem_drop hk'
        refine .inr ⟨d.mem hk2, ?_⟩
        obtain ⟨i, hi⟩ := List.getElem?_of_mem hk'
        rw [List.getElem?_drop] at hi
        have ei : ns.idxOf k' = j + 1 + i := nd_ix d.nd (mem_idxOf hk2).1 hi
        have lt := (List.getElem?_eq_some_iff.mp hi).1
        show ns.length - 1 - ns.idxOf k' < ns.length - 1 - ns.idxOf k
        rw [ei, ej]; omega
theorem mem_rot {α : Type} {l : List α} {t : Nat} {x : α} : x ∈ l.drop t ++ l.take t ↔ x ∈ l := by
  rw [List.mem_append]
  constructor
  · intro h
    rcases h with h | h
    · exact List.mem_of_mem_drop h
    · exact List.mem_of_mem_take h
  · intro h
    rw [← List.take_append_drop t l, List.mem_append] at h
    exact h.symm
theorem nodup_rot {α : Type} {l : List α} (h : l.Nodup) (t : Nat) : (l.drop t ++ l.take t).Nodup := by
  rw [← List.take_append_drop t l] at h
  rw [List.nodup_append] at h ⊢
  exact ⟨h.2.1, h.1, fun a ha b hb e => h.2.2 b hb a ha e.symm⟩
theorem Draw.rot {ns : List Str} {rs : List Row} (d : Draw ns rs) (t : Nat) : Draw ns (rs.drop t ++ rs.take t) where
  n3 := d.n3
  n1 := d.n1
  nd := d.nd
  names := d.names
  each := fun r hr => d.each r (mem_rot.mp hr)
  makers := by
    have := nodup_rot d.makers t
    unfold rmakers at *
    rw [List.map_append, List.map_drop, List.map_take]; exact this
  nine := by
    have := d.nine
    rw [List.length_append, List.length_drop, List.length_take]; omega
  base := fun j k h => by
    obtain ⟨r, hr, z⟩ := d.base j k h
    exact ⟨r, mem_rot.mpr hr, z⟩
theorem GP.mono {ks ks' : List Str} (h : ∀ k ∈ ks, k ∈ ks') {ps : List Part} (g : GP ks ps) : GP ks' ps := ⟨g.few, g.nd, fun p hp => ⟨(g.each p hp).1, (g.each p hp).2.imp id fun ⟨k, hk, z⟩ => ⟨k, h k hk, z⟩⟩⟩
theorem cutV_drop (xs : List V) (j : Nat) : cutV xs (some (j : Int)) none = xs.drop j := by
  unfold cutV
  rw [HT.sIx_nat, HT.sIx_none]
  by_cases h : j ≤ xs.length
  · rw [Nat.min_eq_left h]
    exact List.take_of_length_le (by rw [List.length_drop]; omega)
  · rw [Nat.min_eq_right (by omega), List.drop_of_length_le (Nat.le_refl _), List.drop_of_length_le (by omega), List.take_nil]
theorem cutV_take (xs : List V) (j : Nat) : cutV xs none (some (j : Int)) = xs.take j := by
  unfold cutV
  rw [HT.sIx_nat, HT.sIx_none, List.drop_zero, Nat.sub_zero]
  by_cases h : j ≤ xs.length
  · rw [Nat.min_eq_left h]
  · rw [Nat.min_eq_right (by omega), List.take_of_length_le (Nat.le_refl _), List.take_of_length_le (by omega)]
theorem All2.drop {α β : Type} {R : α → β → Prop} {vs : List α} {xs : List β} (h : All2 R vs xs) (t : Nat) : All2 R (vs.drop t) (xs.drop t) := ⟨by rw [List.length_drop, List.length_drop, h.1], fun i v x a b => by
  rw [List.getElem?_drop] at a b
  exact h.2 _ v x a b⟩
theorem All2.take {α β : Type} {R : α → β → Prop} {vs : List α} {xs : List β} (h : All2 R vs xs) (t : Nat) : All2 R (vs.take t) (xs.take t) := by
  refine ⟨by rw [List.length_take, List.length_take, h.1], fun i v x a b => ?_⟩
  have lt : i < t := by
    have := (List.getElem?_eq_some_iff.mp a).1
    rw [List.length_take] at this; omega
  rw [List.getElem?_take_of_lt lt] at a b
  exact h.2 _ v x a b
theorem All2.app {α β : Type} {R : α → β → Prop} {vs ws : List α} {xs ys : List β} (h : All2 R vs xs) (h' : All2 R ws ys) : All2 R (vs ++ ws) (xs ++ ys) := by
  refine ⟨by rw [List.length_append, List.length_append, h.1, h'.1], fun i v x a b => ?_⟩
  by_cases hi : i < vs.length
  · rw [List.getElem?_append_left hi] at a
    rw [List.getElem?_append_left (h.1 ▸ hi)] at b
    exact h.2 i v x a b
  · rw [List.getElem?_append_right (by omega)] at a
    rw [List.getElem?_append_right (by rw [← h.1]; omega), ← h.1] at b
    exact h'.2 _ v x a b
end Bg
set_option Elab.async false
set_option linter.all false
set_option maxRecDepth 100000
set_option maxHeartbeats 8000000
namespace Bg
open PySem PySem.Spec PyProof.Rows L2
/-- the rows so far: n kinds done, and of the next one m makers, the base one among them or not -/
structure Half (ns : List Str) (rs : List Row) (n m : Nat) (b : Bool) : Prop where
  each : ∀ r ∈ rs, r.1 ∈ ns ∧ GN r.2.1 13 ∧ GP ns r.2.2
  makers : (rmakers rs).Nodup
  few : rs.length ≤ 3 * n + m
  base : ∀ j k, (j < n ∨ (j = n ∧ b = true)) → ns[j]? = some k → ∃ r ∈ rs, r.1 = k ∧ GP (ns.drop (j + 1)) r.2.2
section
variable {P : Program} {w : World} {K : PySem.W.Frag} {mg : Str → Option Value} {base : Heap} {fd : FuncData}
def spRows : Sp := fun vs H Q _ => ∃ (a : Addr), vs = [.ref a] ∧ PoolAt H a ∧ ∀ l rs ns H', But a H H' → PoolAt H' a → H l = none → RowsAt H' l rs → Draw ns rs → Q (.ref l) H'
theorem ok_rows (T : Tx K mg) (F : FnP K ("_law_rows", none) "_law_rows" "_law_rows" s__law_rows fd) : FnOk P w K mg base CX0 3 (He.fAd K ("_law_rows", none)) fd ["_law_pool_here"] spRows := by
  obtain ⟨f1, F1⟩ := T.F__law_take
  obtain ⟨f2, F2⟩ := T.F__law_name
  obtain ⟨f3, F3⟩ := T.F__law_parts
  refine F.ok sc__law_rows (fun vs H Q E h => ?_) (fun cdv A outer s H vs Q E hr h => ?_)
  · obtain ⟨_, rfl, _⟩ := h; rfl
  obtain ⟨a, rfl, hP, q⟩ := h
  have nd := sc__law_rows.nd
  have hr1 : Room 1 _ := hr.mono (by decide)
  refine ⟨_, PSs.nox (pss_cons (ps_set (i := 1) nd rfl (.inl rfl) (pe_call (ok_take T F1) hr1 (by rfl) T.g_law_take T.k_law_take (b__law_take F1) .nil pass0 (pa_cons (pv 0) (pa_cons pe_int pa_nil))))
    (pss_cons (ps_set (i := 2) nd rfl (.inl rfl) (pe_lst pa_nil))
    (pss_cons (ps_for PassesOwn.never rfl (pi_range1 rfl T.n_range (pa_cons (pe_op op_add pe_int (pe_call (ok_take T F1) hr1 (by rfl) T.g_law_take T.k_law_take (b__law_take F1) .nil pass0 (pa_cons (pv 0) (pa_cons pe_int pa_nil)))) pa_nil)) (pg_name (i := 3) nd rfl (.inl rfl))
      (pss_one (ps_expr (pe_bm PySem.F.plainAttrs_list PySem.F.slot_list_append PySem.F.type_list_append mt_append (pv 2)
        (pa_cons (pe_call (ok_name T F2) hr1 (by rfl) T.g_law_name T.k_law_name (b__law_name F2) .nil pass0 (pa_cons (pv 1) (pa_cons (pv 3) (pa_cons (pe_op op_cat (pe_lst (pa_cons pe_str pa_nil)) (pv 2)) pa_nil)))) pa_nil)))))
    (pss_cons (ps_set (i := 4) nd rfl (.inl rfl) (pe_lst pa_nil))
    (pss_cons (ps_for PassesOwn.never rfl (pi_range1 rfl T.n_range (pa_cons (pe_callB call_len_seq (by rfl) T.n_len PySem.boot_len (pa_cons (pv 2) pa_nil)) pa_nil)) (pg_name (i := 3) nd rfl (.inl rfl))
      (pss_cons (ps_set (i := 5) nd rfl (.inl rfl) (pe_op op_add pe_int (pe_op op_mod (pe_callTy call_int1 (by rfl) T.n_int (by decide +kernel) (pa_cons (pe_op op_add pe_int (pe_call (ok_take T F1) hr1 (by rfl) T.g_law_take T.k_law_take (b__law_take F1) .nil pass0 (pa_cons (pv 0) (pa_cons pe_int pa_nil)))) pa_nil)) pe_int)))
      (pss_cons (ps_set (i := 6) nd rfl (.inl rfl) (pe_call (ok_take T F1) hr1 (by rfl) T.g_law_take T.k_law_take (b__law_take F1) .nil pass0 (pa_cons (pv 0) (pa_cons (pv 5) pa_nil))))
      (pss_one (ps_for PassesOwn.never rfl (pi_range1 rfl T.n_range (pa_cons (pv 5) pa_nil)) (pg_name (i := 7) nd rfl (.inl rfl))
        (pss_cons (ps_set (i := 8) nd rfl (.inl rfl) (pe_call (ok_name T F2) hr1 (by rfl) T.g_law_name T.k_law_name (b__law_name F2) .nil pass0 (pa_cons (pe_op op_fdiv (pv 1) pe_int) (pa_cons (pe_callB call_len_seq (by rfl) T.n_len PySem.boot_len (pa_cons (pv 4) pa_nil))
            (pa_cons (pe_lc (own := [("_law_row", 11)]) (g := gName 11) (tt := tYes) (te := tOp (rIxT K) (tVar 11) (tC (.int 1))) rfl nd (pi_list (pv 4)) (blkOk_by (N := ["_law_pool_here", "_law_seed", "_law_names", "_law_k", "_law_rows_here", "_law_count", "_law_base", "_law_at", "_law_maker", "_law_inner", "_law_turn", "_law_row"]) (sc := defScope s__law_rows) (by decide +kernel))
              (fun _ _ _ _ _ => pg_name (i := 11) nd rfl (Or.inl rfl)) (fun _ _ _ _ _ => pts_nil) (fun _ _ _ _ _ => pe_ix (r := rIxT K) ix_tup (pv 11) pe_int (fun _ _ => rfl))) pa_nil)))))
        (pss_cons (ps_set (i := 9) nd rfl (.inl rfl) (pv 2))
        (pss_cons (ps_if (pt_cmpR op_eq (pv 7) (pv 6) (nomark _)) (pss_one (ps_set (i := 9) nd rfl (.inl rfl) (pe_slice sl_list (pv 2) (po_some (pe_op op_add (pv 3) pe_int)) po_none))) pss_nil)
        (pss_one (ps_expr (pe_bm PySem.F.plainAttrs_list PySem.F.slot_list_append PySem.F.type_list_append mt_append (pv 4) (pa_cons (pe_tup (pa_cons (pe_ix ix_list (pv 2) (pv 3) (fun _ _ => rfl)) (pa_cons (pv 8)
          (pa_cons (pe_call (ok_lparts T F3) hr (by rfl) T.g_law_parts T.k_law_parts (b__law_parts F3) .nil pass0 (pa_cons (pv 0) (pa_cons (pe_op op_add (pe_op op_fdiv (pv 1) pe_int) (pe_op op_fdiv (pe_callB call_len_seq (by rfl) T.n_len PySem.boot_len (pa_cons (pv 4) pa_nil)) pe_int))
            (pa_cons (pv 9) (pa_cons (pe_cmpR op_eq (pv 7) (pv 6) (nomark _)) pa_nil))))) pa_nil)))) pa_nil))))))))))))
    (pss_cons (ps_set (i := 10) nd rfl (.inl rfl) (pe_call (ok_take T F1) hr1 (by rfl) T.g_law_take T.k_law_take (b__law_take F1) .nil pass0 (pa_cons (pv 0) (pa_cons (pe_callB call_len_seq (by rfl) T.n_len PySem.boot_len (pa_cons (pv 4) pa_nil)) pa_nil))))
    (pss_one (ps_ret (pe_op op_cat (pe_slice sl_list (pv 4) (po_some (pv 10)) po_none) (pe_slice sl_list (pv 4) po_none (po_some (pv 10)))))))))))), ?_⟩
  -- seed, names
  refine ⟨_, rfl, a, _, rfl, hP, by decide, fun sd H1 sd0 sd1 b1 hP1 => ?_⟩
  refine ⟨Nat.zero_le _, fun tn htn => ?_⟩
  have nat : a ≠ tn := hP1.ne_new htn
  have bt : But a H (upd H1 tn (.lst [])) := b1.trans (but_of (same_new htn))
  have hP2 : PoolAt (upd H1 tn (.lst [])) a := hP1.upd nat
  have htn0 : H tn = none := by
    cases e : H tn with
    | none => rfl
    | some o => exact absurd (b1 _ _ nat.symm e) (by rw [htn]; exact fun z => nomatch z)
  refine ⟨_, rfl, a, 3, rfl, hP2, by decide, fun z3 H3 z30 z31 b3 hP3 => ⟨_, _, rfl, rfl, _, rfl, by show -(2 ^ 62) ≤ 1 + z3; omega, by show 1 + z3 < 2 ^ 62; omega, ?_⟩⟩
  refine for_it walk_range (fun i σ H4 => (∃ v3 v4 v5 v6 v7 v8 v9 v10 v11, σ = [some (.ref a), some (.int sd), some (.ref tn), v3, v4, v5, v6, v7, v8, v9, v10, v11]) ∧ But a H H4 ∧ PoolAt H4 a ∧
    ∃ ns : List Str, H4 tn = some (.lst (ns.map V.str)) ∧ ns.length = i ∧ ns.Nodup ∧ ∀ k ∈ ns, GN k 8 ∧ k ≠ ("byte" : Str)) ?_ (fun _ _ _ _ _ => trivial) ?_ ?_
  · exact ⟨⟨_, _, _, _, _, _, _, _, _, rfl⟩, bt.trans b3, hP3, [], b3 _ _ nat.symm upd_same, rfl, List.nodup_nil, fun k hk => absurd hk List.not_mem_nil⟩
  · rintro i y σ H4 H5 hi ⟨⟨v3, v4, v5, v6, v7, v8, v9, v10, v11, rfl⟩, bu, hP4, ns, hn, len, nnd, each⟩ ⟨rfl, rfl⟩
    have i3 : i < 3 := by have z : i < (1 + z3).toNat := hi; omega
    refine ⟨_, rfl, .inl ⟨rfl, _, SqL.of hn⟩, _, rfl, _, rfl, (by show 1 ≤ sizeLine; decide), fun l1 hl1 => ?_⟩
    have s5 := same_new (o := .lst [.str ("byte" : Str)]) hl1
    have hn5 := s5 _ _ hn
    refine ⟨_, rfl, l1, tn, _, _, rfl, rfl, upd_same, hn5, ?_, fun l2 hl2 => ?_⟩
    · show 1 + (ns.map V.str).length ≤ sizeLine
      rw [List.length_map]; exact sz_of (by omega)
    have s6 := same_new (o := .lst ([.str ("byte" : Str)] ++ ns.map V.str)) hl2
    refine ⟨sd, _, l2, ("byte" : Str) :: ns, rfl, ⟨sd0, by omega⟩, ⟨by omega, by omega⟩, SqL.of upd_same, by rw [List.length_cons]; omega, fun x gx hx => ?_⟩
    have gx8 : GN x 8 := gx.mono (by rw [List.length_cons]; omega)
    have hn6 := s6 _ _ hn5
    refine ⟨tn, _, _, rfl, rfl, hn6, (by rw [List.length_map]; exact small1000 (by omega)), ⟨_, _, _, _, _, _, _, _, _, rfl⟩, ?_, ?_, ns ++ [x], ?_, ?_, ?_, ?_⟩
    · intro c o n e
      rw [upd_ne (ne_of_none e htn0)]; exact s6 _ _ (s5 _ _ (bu _ _ n e))
    · exact ((hP4.same s5).same s6).upd nat
    · rw [upd_same, List.map_append] <;> rfl
    · rw [List.length_append, List.length_singleton, len]
    · exact List.nodup_append.mpr ⟨nnd, by simp, fun u hu w hw e => hx (by simp at hw; rw [← hw, ← e]; exact List.mem_cons_of_mem _ hu)⟩
    · intro k hk
      rcases List.mem_append.mp hk with w | w
      · exact each k w
      · rw [List.mem_singleton.mp w]; exact ⟨gx8, fun e => hx (by rw [e]; exact List.mem_cons_self ..)⟩
  rintro σ H4 ⟨⟨v3, v4, v5, v6, v7, v8, v9, v10, v11, rfl⟩, bu4, hP4, ns, hn4, len, nnd, names⟩
  have n3 : ns.length ≤ 3 := by rw [len]; omega
  have n1 : ns ≠ [] := by intro z; rw [z] at len; have : (0 : Nat) = (1 + z3).toNat := len; omega
  -- rows
  refine ⟨Nat.zero_le _, fun rl hrl => ?_⟩
  have nar : a ≠ rl := hP4.ne_new hrl
  have ntr : tn ≠ rl := ne_of_none hn4 hrl
  have hrl0 : H rl = none := by
    cases e : H rl with
    | none => rfl
    | some o => exact absurd (bu4 _ _ nar.symm e) (by rw [hrl]; exact fun z => nomatch z)
  have hn4' : (upd H4 rl (.lst [])) tn = some (.lst (ns.map V.str)) := by rw [upd_ne ntr]; exact hn4
  refine ⟨_, rfl, tn, _, rfl, .inl (SqL.of hn4'), _, rfl, by show -(2 ^ 62) ≤ (((ns.map V.str).length : Nat) : Int); omega, by show (((ns.map V.str).length : Nat) : Int) < 2 ^ 62; rw [List.length_map]; omega, ?_⟩
  have elen : (((ns.map V.str).length : Nat) : Int).toNat = ns.length := by rw [List.length_map]; omega
  refine for_it walk_range (fun i σ H5 => (∃ v3 v5 v6 v7 v8 v9 v10 v11, σ = [some (.ref a), some (.int sd), some (.ref tn), v3, some (.ref rl), v5, v6, v7, v8, v9, v10, v11]) ∧ But a H H5 ∧ PoolAt H5 a ∧ H5 tn = some (.lst (ns.map V.str)) ∧
    ∃ vs rs, H5 rl = some (.lst vs) ∧ All2 (RowAt H5) vs rs ∧ Half ns rs i 0 false) ?_ (fun _ _ _ _ _ => trivial) ?_ ?_
  · exact ⟨⟨_, _, _, _, _, _, _, _, rfl⟩, bu4.trans (but_of (same_new hrl)), hP4.upd nar, hn4', [], [], upd_same, All2.nil, ⟨fun r hr => absurd hr List.not_mem_nil, List.nodup_nil, Nat.zero_le _, fun j k hj _ => by rcases hj with z | z; exact absurd z (Nat.not_lt_zero _); exact absurd z.2 (by decide)⟩⟩
  · rintro i y σ H5 H6 hi ⟨⟨v3, v5, v6, v7, v8, v9, v10, v11, rfl⟩, bu5, hP5, hn5, vs, rs, hl5, al5, half⟩ ⟨rfl, rfl⟩
    have ilt : i < ns.length := by have z : i < (((ns.map V.str).length : Nat) : Int).toNat := hi; rw [elen] at z; exact z
    -- count
    refine ⟨_, rfl, a, 3, rfl, hP5, by decide, fun ct H7 ct0 ct1 b7 hP7 => ⟨_, _, rfl, rfl, .inl ⟨_, rfl, _, _, rfl, rfl, (by show (0 : Int) < 3; decide), _, _, rfl, rfl, ?_⟩⟩⟩
    have c0 : 0 ≤ (1 + ct) % 3 := Int.emod_nonneg _ (by decide)
    have c1 : (1 + ct) % 3 < 3 := Int.emod_lt_of_pos _ (by decide)
    -- base
    refine ⟨_, rfl, _, rfl, a, _, rfl, hP7, (by show (0 : Int) < 1 + (1 + ct) % 3; omega), fun bs H8 bs0 bs1 b8 hP8 => ?_⟩
    have b68 := b7.trans b8
    refine ⟨_, rfl, _, rfl, by show -(2 ^ 62) ≤ 1 + (1 + ct) % 3; omega, by show 1 + (1 + ct) % 3 < 2 ^ 62; omega, ?_⟩
    have t68 : Tups H6 H8 := but_tups b68 hP5.not
    refine for_it walk_range (fun m σ H9 => (∃ v7 v8 v9 v10 v11, σ = [some (.ref a), some (.int sd), some (.ref tn), some (.int (0 + (i : Nat))), some (.ref rl), some (.int (1 + (1 + ct) % 3)), some (.int bs), v7, v8, v9, v10, v11]) ∧ But a H H9 ∧ PoolAt H9 a ∧ H9 tn = some (.lst (ns.map V.str)) ∧
      ∃ vs rs, H9 rl = some (.lst vs) ∧ All2 (RowAt H9) vs rs ∧ Half ns rs i m (decide (bs < (m : Int)))) ?_ (fun _ _ _ _ _ => trivial) ?_ ?_
    · refine ⟨⟨_, _, _, _, _, rfl⟩, bu5.trans b68, hP8, b68 _ _ nat.symm hn5, vs, rs, b68 _ _ nar.symm hl5, al5.mono fun _ _ w => w.mono t68, half.each, half.makers, half.few, fun j k hj hk => ?_⟩
      refine half.base j k (hj.imp id fun z => ?_) hk
      have z2 : bs < ((0 : Nat) : Int) := of_decide_eq_true z.2
      exact absurd z2 (by omega)
    · rintro m y σ H9 H10 hm ⟨⟨v7, v8, v9, v10, v11, rfl⟩, bu9, hP9, hn9, vs, rs, hl9, al9, half⟩ ⟨rfl, rfl⟩
      have m3 : m < 3 := by have z : m < (1 + (1 + ct) % 3).toNat := hm; omega
      have rlen : rs.length ≤ 3 * 2 + 2 := by have := half.few; omega
      have hdiv0 : 0 ≤ sd / 2 ∧ sd / 2 ≤ 10000000 := ⟨by omega, by omega⟩
      -- the maker
      refine ⟨_, rfl, _, _, rfl, rfl, ⟨by decide, by decide⟩, _, rfl, rl, _, rfl, .inl (SqL.of hl9), _, rfl, rl, rfl, ⟨_, SqL.of hl9⟩, fun D hD => ?_⟩
      have naD : a ≠ D := hP9.ne_new hD
      refine lc_it (walk_list (K := K) (a := rl) (xs := vs)) (fun j H11 => Same H10 H11 ∧ H11 D = some (.lst ((rmakers (rs.take j)).map V.str))) ⟨same_new hD, upd_same⟩ (fun j H11 _ z => SqL.of (z.1 _ _ hl9)) ?_ ?_
      · rintro j x H11 H12 hj ⟨sm, hDj⟩ ⟨rfl, hx⟩
        obtain ⟨r, hrr, b, u, rfl, hb, pa⟩ := al9.get hx
        refine ⟨rfl, _, rfl, b, _, _, _, rfl, rfl, SqT.of (sm _ _ hb), atI_nat (j := 1) rfl, _, hDj, ?_, same_mut sm hD, ?_⟩
        · unfold rmakers; rw [List.length_map, List.length_map, List.length_take]; exact small1000 (by omega)
        · rw [upd_same, rmakers_take_succ hrr, List.map_append] <;> rfl
      rintro H11 ⟨s11, hD11⟩
      rw [al9.1, List.take_length] at hD11
      refine ⟨_, _, D, rmakers rs, rfl, hdiv0, ⟨by show (0 : Int) ≤ ((vs.length : Nat) : Int); omega, by show ((vs.length : Nat) : Int) ≤ 1000; rw [al9.1]; omega⟩, SqL.of hD11, by unfold rmakers; rw [List.length_map]; omega, fun x gx hx => ?_⟩
      have gx13 : GN x 13 := gx.mono (by unfold rmakers; rw [List.length_map]; omega)
      have hn11 := s11 _ _ hn9
      have hl11 := s11 _ _ hl9
      have hP11 := hP9.same s11
      have t911 := tups_of s11
      -- one more row, from the inner list li of kinds ks
      have more : ∀ (H12 : Hp) (li : Addr) (ks : List Str) (isb : Bool), Same H11 H12 → H12 li = some (.lst (ks.map V.str)) → li ≠ a → ks.length ≤ 3 → (∀ k ∈ ks, k ∈ ns) → (isb = true → ks = ns.drop (i + 1)) → (isb = decide ((m : Int) = bs)) →
          ∃ k, atI (ns.map V.str) (0 + (i : Nat)) = some (.str k) ∧ ∀ v ps H13, But a H12 H13 → PoolAt H13 a → PartsAt H13 v ps → GP ks ps → ∀ t, H13 t = none → H13 rl = some (.lst vs) ∧ ∀ (Q' : Hp → Prop),
            (∀ H14 vs' rs', But a H H14 → PoolAt H14 a → H14 tn = some (.lst (ns.map V.str)) → H14 rl = some (.lst vs') → All2 (RowAt H14) vs' rs' → Half ns rs' i (m + 1) (decide (bs < ((m + 1 : Nat) : Int))) → Q' H14) → Q' (upd (upd H13 t (.tup [.str k, .str x, v])) rl (.lst (vs ++ [.ref t]))) := by
        intro H12 li ks isb s12 hli nla lks sub hb1 hb2
        have hP12 := hP11.same s12
        obtain ⟨k, hk⟩ : ∃ k, ns[i]? = some k := ⟨ns[i], List.getElem?_eq_getElem ilt⟩
        refine ⟨k, at_nat (j := i) (by omega) (by rw [List.getElem?_map, hk]; rfl), fun v ps H13 b13 hP13 hps gp t ht => ?_⟩
        have t913 : Tups H10 H13 := Tups.trans t911 (Tups.trans (tups_of s12) (but_tups b13 hP12.not))
        have hl13 : H13 rl = some (.lst vs) := b13 _ _ nar.symm (s12 _ _ hl11)
        refine ⟨hl13, fun Q' fin => ?_⟩
        have nrt : rl ≠ t := ne_of_none hl13 ht
        have nat' : a ≠ t := hP13.ne_new ht
        have ntt : tn ≠ t := ne_of_none (b13 _ _ nat.symm (s12 _ _ hn11)) ht
        have s14 := same_new (o := .tup [.str k, .str x, v]) ht
        have t14 : Tups H13 (upd (upd H13 t (.tup [.str k, .str x, v])) rl (.lst (vs ++ [.ref t]))) := Tups.trans (tups_of s14) (tups_upd fun u f w => by rw [upd_ne nrt, hl13] at w; cases w; exact f)
        refine fin _ (vs ++ [.ref t]) (rs ++ [(k, x, ps)]) ?_ ((hP13.upd nat').upd nar) (by rw [upd_ne ntr, upd_ne ntt]; exact b13 _ _ nat.symm (s12 _ _ hn11)) upd_same ?_ ?_
        · intro c o n e
          rw [upd_ne (ne_of_none e hrl0)]
          exact s14 _ _ (b13 _ _ n (s12 _ _ (s11 _ _ (bu9 _ _ n e))))
        · exact (al9.mono fun _ _ w => w.mono (Tups.trans t913 t14)).snoc ⟨t, v, rfl, by rw [upd_ne nrt.symm, upd_same], hps.mono t14⟩
        · have hkn : k ∈ ns := List.mem_of_getElem? hk
          refine ⟨fun r hr' => ?_, ?_, ?_, fun j k' hj hk' => ?_⟩
          · rcases List.mem_append.mp hr' with w | w
            · exact half.each r w
            · rw [List.mem_singleton.mp w]; exact ⟨hkn, gx13, gp.mono sub⟩
          · unfold rmakers at hx ⊢
            rw [List.map_append]
            exact List.nodup_append.mpr ⟨half.makers, by simp, fun u hu w hw e => hx (by simp at hw; rw [← hw, ← e]; exact hu)⟩
          · rw [List.length_append, List.length_singleton]; have := half.few; omega
          · by_cases hj2 : j < i ∨ (j = i ∧ decide (bs < (m : Int)) = true)
            · obtain ⟨r, hr', w⟩ := half.base j k' hj2 hk'
              exact ⟨r, List.mem_append_left _ hr', w⟩
            · have hji : j = i := by
                rcases hj with w | w
                · exact absurd (.inl w) hj2
                · exact w.1
              have hbm : (m : Int) = bs := by
                have w1 : ¬ bs < (m : Int) := fun w => hj2 (.inr ⟨hji, decide_eq_true w⟩)
                have w2 : bs < ((m + 1 : Nat) : Int) := by
                  rcases hj with w | w
                  · exact absurd (.inl w) hj2
                  · exact of_decide_eq_true w.2
                omega
              have hks : ks = ns.drop (i + 1) := hb1 (by rw [hb2]; exact decide_eq_true hbm)
              rw [hji] at hk' ⊢
              rw [hk] at hk'
              cases hk'
              exact ⟨_, List.mem_append_right _ (List.mem_singleton.mpr rfl), rfl, by rw [← hks]; exact gp⟩
      -- inner
      refine ⟨_, rfl, ?_⟩
      have hdv : 0 ≤ sd / 3 + ((vs.length : Nat) : Int) / 2 ∧ sd / 3 + ((vs.length : Nat) : Int) / 2 ≤ 10000000 := by rw [al9.1]; omega
      have vl : vs.length < sizeLine := by rw [al9.1]; exact small1000 (by omega)
      have edec : decide (V.int (0 + (m : Nat)) = V.int bs) = decide ((m : Int) = bs) := by simp
      refine ⟨_, rfl, _, rfl, rfl, _, rfl, ?_⟩
      show (if decide (V.int (0 + (m : Nat)) = V.int bs) = true then _ else _)
      rw [edec]
      by_cases hb : (m : Int) = bs
      · rw [decide_eq_true hb]
        refine iteT ⟨_, rfl, _, rfl, _, _, rfl, rfl, _, rfl, tn, _, rfl, SqL.of hn11, fun li hli => ?_⟩
        have s12 := same_new (o := .lst (cutV (ns.map V.str) (some (0 + (i : Nat) + 1)) none)) hli
        have ecut : cutV (ns.map V.str) (some (0 + (i : Nat) + 1)) none = (ns.drop (i + 1)).map V.str := by
          rw [show (0 + (i : Nat) + 1 : Int) = ((i + 1 : Nat) : Int) by omega, cutV_drop, List.map_drop]
        obtain ⟨k, hka, go⟩ := more _ li (ns.drop (i + 1)) true s12 (by rw [upd_same, ecut]) (hP11.ne_new hli).symm (by rw [List.length_drop]; omega) (fun k hk => List.mem_of_mem_drop hk) (fun _ => rfl) (decide_eq_true hb).symm
        refine ⟨_, rfl, .inl ⟨rfl, _, SqL.of (s12 _ _ hl11)⟩, _, rfl, _, rfl, tn, _, _, _, rfl, rfl, SqL.of (s12 _ _ hn11), hka, _, rfl, _, rfl, _, rfl, _, _, rfl, rfl, ⟨by decide, by decide⟩, _, rfl, rl, _, rfl, .inl (SqL.of (s12 _ _ hl11)), _, _, rfl, rfl, ⟨by decide, by decide⟩, _, _, rfl, rfl, _, rfl, _, rfl, _, rfl, rfl,
          a, li, _, decide (V.int (0 + (m : Nat)) = V.int bs), ns.drop (i + 1), rfl, hP11.same s12, hdv, by rw [upd_same, ecut], (hP11.ne_new hli).symm, by rw [List.length_drop]; omega, fun v ps H13 b13 hP13 hps gp => ⟨by show 3 ≤ sizeLine; decide, fun t ht => ?_⟩⟩
        obtain ⟨g1, g2⟩ := go v ps H13 b13 hP13 hps gp t ht
        exact ⟨rl, _, _, rfl, rfl, (same_new ht) _ _ g1, vl, g2 _ fun H14 vs' rs' b14 hP14 hn14 hl14 al14 half14 => ⟨⟨_, _, _, _, _, rfl⟩, b14, hP14, hn14, vs', rs', hl14, al14, half14⟩⟩
      · rw [decide_eq_false hb]
        refine iteF ?_
        obtain ⟨k, hka, go⟩ := more _ tn ns false (Same.refl _) hn11 nat.symm n3 (fun k hk => hk) (fun z => absurd z (by decide)) (decide_eq_false hb).symm
        refine ⟨_, rfl, .inl ⟨rfl, _, SqL.of hl11⟩, _, rfl, _, rfl, tn, _, _, _, rfl, rfl, SqL.of hn11, hka, _, rfl, _, rfl, _, rfl, _, _, rfl, rfl, ⟨by decide, by decide⟩, _, rfl, rl, _, rfl, .inl (SqL.of hl11), _, _, rfl, rfl, ⟨by decide, by decide⟩, _, _, rfl, rfl, _, rfl, _, rfl, _, rfl, rfl,
          a, tn, _, decide (V.int (0 + (m : Nat)) = V.int bs), ns, rfl, hP11, hdv, hn11, nat.symm, by omega, fun v ps H13 b13 hP13 hps gp => ⟨by show 3 ≤ sizeLine; decide, fun t ht => ?_⟩⟩
        obtain ⟨g1, g2⟩ := go v ps H13 b13 hP13 hps gp t ht
        exact ⟨rl, _, _, rfl, rfl, (same_new ht) _ _ g1, vl, g2 _ fun H14 vs' rs' b14 hP14 hn14 hl14 al14 half14 => ⟨⟨_, _, _, _, _, rfl⟩, b14, hP14, hn14, vs', rs', hl14, al14, half14⟩⟩
    · rintro σ H9 ⟨⟨v7, v8, v9, v10, v11, rfl⟩, bu9, hP9, hn9, vs, rs, hl9, al9, half⟩
      refine ⟨⟨_, _, _, _, _, _, _, _, rfl⟩, bu9, hP9, hn9, vs, rs, hl9, al9, half.each, half.makers, ?_, fun j k hj hk => ?_⟩
      · have h1 := half.few
        have h2 : (1 + (1 + ct) % 3).toNat ≤ 3 := by omega
        omega
      · refine half.base j k ?_ hk
        rcases hj with z | z
        · by_cases e : j = i
          · exact .inr ⟨e, decide_eq_true (by omega)⟩
          · exact .inl (by omega)
        · exact absurd z.2 (by decide)
  · rintro σ H5 ⟨⟨v3, v5, v6, v7, v8, v9, v10, v11, rfl⟩, bu5, hP5, hn5, vs, rs, hl5, al5, half⟩
    rw [elen] at half
    have draw : Draw ns rs := ⟨n3, n1, nnd, names, half.each, half.makers, by have := half.few; omega, fun j k hk => half.base j k (.inl (List.getElem?_eq_some_iff.mp hk).1) hk⟩
    have rpos : 0 < rs.length := List.length_pos_iff.mpr draw.valid.ne
    refine ⟨_, rfl, _, rfl, rl, _, rfl, .inl (SqL.of hl5), a, _, rfl, hP5, (by show (0 : Int) < ((vs.length : Nat) : Int); rw [al5.1]; omega), fun tu H6 tu0 tu1 b6 hP6 => ?_⟩
    have hl6 : H6 rl = some (.lst vs) := b6 _ _ nar.symm hl5
    have etu : tu = ((tu.toNat : Nat) : Int) := (Int.toNat_of_nonneg tu0).symm
    refine ⟨_, rfl, _, rfl, _, rfl, rl, _, rfl, SqL.of hl6, fun l1 hl1 => ?_⟩
    have s7 := same_new (o := .lst (cutV vs (some tu) none)) hl1
    refine ⟨_, rfl, _, rfl, _, rfl, rl, _, rfl, SqL.of (s7 _ _ hl6), fun l2 hl2 => ?_⟩
    have s8 := same_new (o := .lst (cutV vs none (some tu))) hl2
    have e1 : cutV vs (some tu) none = vs.drop tu.toNat := by rw [etu, cutV_drop]; rfl
    have e2 : cutV vs none (some tu) = vs.take tu.toNat := by rw [etu, cutV_take]; rfl
    refine ⟨l1, l2, _, _, rfl, rfl, s8 _ _ upd_same, upd_same, ?_, fun l3 hl3 => ?_⟩
    · rw [e1, e2, List.length_drop, List.length_take, al5.1]; have := half.few; exact sz_of (by omega)
    have s9 := same_new (o := .lst (cutV vs (some tu) none ++ cutV vs none (some tu))) hl3
    have s69 := (s7.trans s8).trans s9
    have bb : But a H _ := (bu5.trans b6).trans (but_of s69)
    have t59 : Tups H5 _ := Tups.trans (but_tups b6 hP5.not) (tups_of s69)
    have hl30 : H l3 = none := by
      cases e : H l3 with
      | none => rfl
      | some o =>
        have n : l3 ≠ a := fun w => by
          have := (hP6.same (s7.trans s8)).ne_new hl3
          exact this w.symm
        have := (s7.trans s8) _ _ (b6 _ _ n (bu5 _ _ n e))
        rw [hl3] at this; cases this
    refine q l3 (rs.drop tu.toNat ++ rs.take tu.toNat) ns _ bb (hP6.same s69) hl30 ⟨vs.drop tu.toNat ++ vs.take tu.toNat, by rw [upd_same, e1, e2], ?_⟩ (draw.rot _)
    exact ((al5.drop _).app (al5.take _)).mono fun _ _ w => w.mono t59
end
end Bg
set_option Elab.async false
set_option linter.all false
set_option maxRecDepth 100000
set_option maxHeartbeats 4000000
namespace Bg
open PySem PySem.Spec PyProof.Rows L2
/-! ### a def that raises nothing, called while an error is handled -/
structure FnC (P : Program) (w : World) (K : PySem.W.Frag) (mg : Str → Option Value) (base : Heap) (k : Nat) (f : Addr) (fd : FuncData) (ps : List Str) (sp : Sp) : Prop where
  len : ∀ vs H Q E, sp vs H Q E → vs.length = ps.length
  go : ∀ (A : Around) (outer : List Env) (s : Shared) (H : Hp) (us : List Value) (vs : List V) (Q : VK) (E : XK) (p : Addr × Obj), L2H.RoomH k A → L2H.PinOk outer H s p → Env0 P w K mg base A outer s H → BindsTo s fd ⟨us, []⟩ (ps.zip us) → Vals vs us → sp vs H Q E →
    codeAny (model P w) A (.call (.ref f) ⟨us, []⟩) (CR CX0 outer P w H s Q E) s
section
variable {P : Program} {w : World} {K : PySem.W.Frag} {mg : Str → Option Value} {base : Heap} {x qual : Str} {params : Arguments} {body : List Stmt} {scope : Scope} {dvs : List V} {kws : List (Str × V)} {f : Addr} {fd : FuncData} {k : Nat} {N ps : List Str} {sp : Sp}
theorem FunD.okC (F : FunD K x qual params body scope dvs kws f fd) (S : FnScope N ps scope) (len : ∀ vs H Q E, sp vs H Q E → vs.length = ps.length)
    (hbody : ∀ (cdv : Value) (A : Around) (outer : List Env) (s : Shared) (H : Hp) (vs : List V) (Q : VK) (E : XK) (p : Addr × Obj), L2H.RoomH k (A.deeper (envOfC qual scope s.heap.objs.size f cdv)) → sp vs H Q E →
      ∃ t, PSs (L2H.cxH CX0 P w K mg base N qual scope f cdv A outer s H E p) body t ∧ t { nx := fun _ H' => Q .non H', rt := Q } (L2.start N vs) H) : FnC P w K mg base (k + 1) f fd ps sp := by
  obtain ⟨oc, od, dV, kV, doc, pm, an, cdv, ct, osl, rfl, lk, hcd, _, _⟩ := F.ex
  refine ⟨len, fun A outer s H us vs Q E p room pin e0 hb r h => ?_⟩
  have inB : ∀ b o, base.get? b = some o → s.heap.get? b = some o := fun b o e => (e0.bs b o e).1
  have KX : K.In s.heap := e0.mod.kin.keeps inB
  refine codeAny_call_function room.depth (KX _ _ lk) rfl S.co S.gen rfl (PySem.W.codeRec_of KX hcd) (hb _ _ _ _ ?_)
  refine wpAny_newFunctionEnv_cells S.kind (fun ⟨n, v⟩ hy => ?_) fun env he s1 call => ?_
  · rcases S.par n (List.of_mem_zip hy).1 with q | q
    · exact Or.inl q
    · exact Or.inr ⟨q, PySem.W.cellsFrom_some _ _ _ (Or.inl q)⟩
  cases he
  refine ⟨(e0.mod.nolimit.keeps inB).keeps call.toInCall.keep, codeAny_func ?_⟩
  obtain ⟨t, ht, hq⟩ := hbody cdv A outer s H vs Q E p (room.deeper _) h
  have I : Inv (L2H.cxH CX0 P w K mg base N qual scope f cdv A outer s H E p) [] (L2.start N vs) H s1 := L2H.inv_startH S pin e0 (len _ _ _ _ h) r call
  refine wpAny_mono (ht.run [] s1 (L2.start N vs) H _ I hq) (fun fl s' hs => ?_) fun e s' hs => hs
  cases fl with
  | ret u =>
    obtain ⟨v, σ', H', J, rv, q⟩ := hs
    exact ⟨v, H', J.os, J.bare, J.base, J.hok, rv, q⟩
  | next =>
    obtain ⟨σ', H', J, q⟩ := hs
    exact ⟨V.non, H', J.os, J.bare, J.base, J.hok, rfl, q⟩
  | brk => exact hs.elim fun _ z => z.elim fun _ z => z.2.elim
  | cont => exact hs.elim fun _ z => z.elim fun _ z => z.2.elim
end
section
variable {X : Cx} {k : Nat} {f : Addr} {fd : FuncData} {ps : List Str} {sp : Sp} {x : Str} {q pos : Pos} {e : Expr} {es : List Expr} {t : TA} {p : Addr × Obj}
/-- the call, in a context that pins p (the error in hand) -/
theorem pe_callC (F : FnC X.prog X.w X.K X.mg X.base k f fd ps sp) (hr : L2H.RoomH k X.A) (hp : p ∈ X.pn) (hg : Gl X x) (hm : X.mg x = some (.ref f)) (hk : PySem.W.keepIn X.K (.ref f) = true) (hb : Binds X.K fd ps []) (ha : PA X (e :: es) t)
    (hdb : (x == ("__debug__" : Str)) = false := by decide) (he : starEach (e :: es) X.env = (false, eval e X.env) :: starEach es X.env := by rfl) (hpl : (backTo pos (starEach es X.env)).any (·.1) = false := by rfl) :
    PE X (.Call (.Name x q) (e :: es) [] pos) (tCall sp [] E0 t) := by
  refine ⟨fun pins s σ H Q I h => ?_⟩
  refine wpAny_Call_Name_kw (ld_glob I hg hm ?_ hdb)
  refine PySem.W.callWith_K (h₀ := X.base) I.ok.mod.kin hk (thn (ha.run pos pins s σ H _ I h) fun us s1 ⟨vs, H1, J, r, z⟩ => ⟨J.kIn, ?_⟩) he hpl
  show wpAny _ _ (call (.ref f) us) _ _ _
  have z : sp vs H1 Q E0 := by
    have z' : sp (vs ++ []) H1 Q E0 := z
    rwa [List.append_nil] at z'
  have hl : us.length = ps.length := by rw [← r.length]; exact F.len _ _ _ _ z
  have b := hb s1 us J.kIn (by rw [List.append_nil]; exact hl)
  rw [List.append_nil] at b
  obtain ⟨g1, g2, g3, g4, g5⟩ := J.pin p (List.mem_append_left _ hp)
  refine wpAny_call (codeAny_mono (F.go X.A X.stack s1 H1 us vs Q E0 p hr ⟨g1, g2, fun m => (List.mem_cons.mp (J.stkSub p.1 m)).elim g3 g4, g5⟩ J.env0 b r z) fun res s' hq => ?_)
  · cases res with
    | error er => exact hq.elim
    | ok fl =>
      cases fl with
      | ret u => exact J.after hq
      | next => exact hq.elim
      | brk => exact hq.elim
      | cont => exact hq.elim
end
end Bg
set_option Elab.async false
set_option linter.all false
set_option maxRecDepth 100000
set_option maxHeartbeats 4000000
namespace Bg
open PySem PySem.Spec PyProof.Rows L2
/-- row i is the fault that is told: of the first pass that finds one the first -/
inductive Due : List Row → Nat → Prop where
  | empty : Due [] 0
  | each {rs : List Row} {i : Nat} (l : i < rs.length) (b : bad1 rs i = true) (p : ∀ j, j < i → bad1 rs j = false) : Due rs i
  | inner {rs : List Row} {i : Nat} (ok : EachOk rs) (l : i < rs.length) (b : bad2 rs i = true) (p : ∀ j, j < i → bad2 rs j = false) : Due rs i
  | fin {rs : List Row} {i : Nat} (ok : EachOk rs) (ok2 : InnerOk rs) (l : i < rs.length) (b : ∀ r, rs[i]? = some r → r.1 ∉ (leastOf rs).1) (p : ∀ j, j < i → ∀ r, rs[j]? = some r → r.1 ∈ (leastOf rs).1) : Due rs i
section
variable {P : Program} {w : World} {K : PySem.W.Frag} {mg : Str → Option Value} {base : Heap} {fd : FuncData}
/-- a callee's errors are the def's -/
theorem passX {X : Cx} {E : XK} (tk : Takes X (fun cls d _ H => E cls d H)) : Passes (L2.CX X.prog X.w) X E := passes_call tk fun _ _ _ _ h => h
theorem EachOk.four {rs : List Row} (v : EachOk rs) : ∀ r ∈ rs, r.2.2.length ≤ 4 := fun r hr => by
  have := (v.good r hr).2.2
  unfold partsB at this
  simp at this
  exact this.1
def spInitX (K : PySem.W.Frag) : Sp := fun vs H _ E => ∃ (x a : Addr) (rs : List Row) (i : Nat), vs = [.ref x, .ref a] ∧ RowsAt H a rs ∧ RowsShort rs ∧ Due rs i ∧ RaisesBK K H i E
theorem okx_init (T : Tx K mg) (F : FnP K ("Kinds", some "__init__") "__init__" "Kinds.__init__" s_Kinds_init fd) : FnOk P w K mg base (L2.CX P w) 6 (He.fAd K ("Kinds", some "__init__")) fd ["self", "rows"] (spInitX K) := by
  obtain ⟨f0, F0⟩ := T.F_BadKinds_init
  obtain ⟨f1, F1⟩ := T.F_check_each_row
  obtain ⟨f2, F2⟩ := T.F_check_inner_kinds
  obtain ⟨f3, F3⟩ := T.F_least_trees
  obtain ⟨f4, F4⟩ := T.F_check_finite
  refine F.ok sc_Kinds_init (fun vs H Q E h => ?_) (fun cdv A outer s H vs Q E hr h => ?_)
  · obtain ⟨x, _, _, _, rfl, _⟩ := h; rfl
  obtain ⟨x, a, rs, i, rfl, hra, sh, due, q⟩ := h
  obtain ⟨us, ha, al⟩ := id hra
  have nd := sc_Kinds_init.nd
  have nz : rs.length ≠ 0 → decide (V.int ((us.length : Nat) : Int) = V.int 0) = false := fun z => decide_eq_false fun e => z (by have := V.int.inj e; rw [← al.1]; omega)
  cases due with
  | empty =>
    have u0 : us.length = 0 := al.1
    refine ⟨_, pss_cons (ps_if (pt_cmpR op_eq (pe_callB call_len_seq (by rfl) T.n_len PySem.boot_len (pa_cons (pv 1) pa_nil)) pe_int (nomark _)) (pss_one (ps_raise rfl (takes_of rfl rfl rfl rfl) (pmk_oex T.x_BadKinds.oex T.m_BadKinds_init.at_ (beq_iff_eq.mp T.m_BadKinds_init.fn) (ok_bki T F0) (hr.mono (by decide)) (b_BadKinds_init F0) .nil pass0 (by rfl) T.g_BadKinds (pa_cons pe_int pa_nil)))) pss_nil) pss_never, ?_⟩
    refine ⟨_, rfl, a, _, rfl, .inl (SqL.of ha), rfl, _, rfl, ?_⟩
    rw [u0, show decide (V.int ((0 : Nat) : Int) = V.int 0) = true from decide_eq_true rfl]
    exact iteT (raiseB_read (i := 0) (by omega) q)
  | each l b p =>
    refine ⟨_, pss_cons (ps_if (pt_cmpR op_eq (pe_callB call_len_seq (by rfl) T.n_len PySem.boot_len (pa_cons (pv 1) pa_nil)) pe_int (nomark _)) (pss_one (ps_raise rfl (takes_of rfl rfl rfl rfl) (pmk_oex T.x_BadKinds.oex T.m_BadKinds_init.at_ (beq_iff_eq.mp T.m_BadKinds_init.fn) (ok_bki T F0) (hr.mono (by decide)) (b_BadKinds_init F0) .nil pass0 (by rfl) T.g_BadKinds (pa_cons pe_int pa_nil)))) pss_nil)
      (pss_cons (ps_expr (pe_call (okx_check_each_row T F1) hr (by rfl) T.g_check_each_row T.k_check_each_row (b_check_each_row F1) .nil (passX (takes_of rfl rfl rfl rfl)) (pa_cons (pv 1) pa_nil))) pss_never), ?_⟩
    refine ⟨_, rfl, a, _, rfl, .inl (SqL.of ha), rfl, _, rfl, ?_⟩
    rw [nz (by omega)]
    exact iteF ⟨_, rfl, a, rs, i, rfl, hra, sh, l, b, p, q⟩
  | inner ok l b p =>
    refine ⟨_, pss_cons (ps_if (pt_cmpR op_eq (pe_callB call_len_seq (by rfl) T.n_len PySem.boot_len (pa_cons (pv 1) pa_nil)) pe_int (nomark _)) (pss_one (ps_raise rfl (takes_of rfl rfl rfl rfl) (pmk_oex T.x_BadKinds.oex T.m_BadKinds_init.at_ (beq_iff_eq.mp T.m_BadKinds_init.fn) (ok_bki T F0) (hr.mono (by decide)) (b_BadKinds_init F0) .nil pass0 (by rfl) T.g_BadKinds (pa_cons pe_int pa_nil)))) pss_nil)
      (pss_cons (ps_expr (pe_call (ok_check_each_row T F1) hr (by rfl) T.g_check_each_row T.k_check_each_row (b_check_each_row F1) .nil pass0 (pa_cons (pv 1) pa_nil)))
      (pss_cons (ps_expr (pe_call (okx_check_inner_kinds T F2) (hr.mono (by decide)) (by rfl) T.g_check_inner_kinds T.k_check_inner_kinds (b_check_inner_kinds F2) .nil (passX (takes_of rfl rfl rfl rfl)) (pa_cons (pv 1) pa_nil))) pss_never)), ?_⟩
    refine ⟨_, rfl, a, _, rfl, .inl (SqL.of ha), rfl, _, rfl, ?_⟩
    rw [nz (by omega)]
    exact iteF ⟨_, rfl, a, rs, rfl, hra, sh, ok, fun H1 s1 => ⟨_, rfl, a, rs, i, rfl, hra.mono s1, sh, l, b, p, q.mono s1⟩⟩
  | fin ok ok2 l b p =>
    refine ⟨_, pss_cons (ps_if (pt_cmpR op_eq (pe_callB call_len_seq (by rfl) T.n_len PySem.boot_len (pa_cons (pv 1) pa_nil)) pe_int (nomark _)) (pss_one (ps_raise rfl (takes_of rfl rfl rfl rfl) (pmk_oex T.x_BadKinds.oex T.m_BadKinds_init.at_ (beq_iff_eq.mp T.m_BadKinds_init.fn) (ok_bki T F0) (hr.mono (by decide)) (b_BadKinds_init F0) .nil pass0 (by rfl) T.g_BadKinds (pa_cons pe_int pa_nil)))) pss_nil)
      (pss_cons (ps_expr (pe_call (ok_check_each_row T F1) hr (by rfl) T.g_check_each_row T.k_check_each_row (b_check_each_row F1) .nil pass0 (pa_cons (pv 1) pa_nil)))
      (pss_cons (ps_expr (pe_call (ok_check_inner_kinds T F2) (hr.mono (by decide)) (by rfl) T.g_check_inner_kinds T.k_check_inner_kinds (b_check_inner_kinds F2) .nil pass0 (pa_cons (pv 1) pa_nil)))
      (pss_cons (ps_set (i := 2) nd rfl (Or.inr rfl) (pe_call (ok_least_trees T F3) (hr.mono (by decide)) (by rfl) T.g_least_trees T.k_least_trees (b_least_trees F3) .nil pass0 (pa_cons (pv 1) pa_nil)))
      (pss_cons (ps_expr (pe_call (okx_check_finite T F4) (hr.mono (by decide)) (by rfl) T.g_check_finite T.k_check_finite (b_check_finite F4) .nil (passX (takes_of rfl rfl rfl rfl)) (pa_cons (pv 1) (pa_cons (pv 2) pa_nil)))) pss_never)))), ?_⟩
    refine ⟨_, rfl, a, _, rfl, .inl (SqL.of ha), rfl, _, rfl, ?_⟩
    rw [nz (by omega)]
    refine iteF ⟨_, rfl, a, rs, rfl, hra, sh, ok, fun H1 s1 => ?_⟩
    refine ⟨_, rfl, a, rs, rfl, hra.mono s1, sh, ok2, fun H2 s2 => ?_⟩
    have s02 := s1.trans s2
    refine ⟨_, rfl, a, rs, rfl, hra.mono s02, sh.1, ok.four, ok.kinds, fun dl0 H3 s3 hdl0 ⟨lvs0, hl0, ld0⟩ => ?_⟩
    have s03 := s02.trans s3
    exact ⟨_, rfl, _, rfl, a, dl0, rs, lvs0, _, i, rfl, hra.mono s03, hl0, KD.mono ld0 (fun _ _ _ => trivial), sh.1, l, b, p, q.mono s03⟩
end
end Bg
set_option Elab.async false
set_option linter.all false
set_option maxRecDepth 100000
set_option maxHeartbeats 4000000
namespace Bg
open PySem PySem.Spec PyProof.Rows L2
section
variable {P : Program} {w : World} {K : PySem.W.Frag} {mg : Str → Option Value} {base : Heap} {fd : FuncData}
def spLInt : Sp := fun vs H Q _ => ∃ n : Int, vs = [.int n] ∧ Q (.bl true) H
theorem okc_lint (T : Tx K mg) (F : FnP K ("_law_int", none) "_law_int" "_law_int" s__law_int fd) : FnC P w K mg base 1 (He.fAd K ("_law_int", none)) fd ["_law_value"] spLInt := by
  refine Bg.FunD.okC (k := 0) F sc__law_int (fun vs H Q E h => ?_) (fun cdv A outer s H vs Q E p hr h => ?_)
  · obtain ⟨_, rfl, _⟩ := h; rfl
  obtain ⟨v, rfl, q⟩ := h
  refine ⟨_, (pss_one (ps_ret (pe_and (pe_callB call_isi (by rfl) T.n_isinstance (by decide +kernel) (pa_cons (pv 0) (pa_cons (pe_bltn (v := .ty "int") (by rfl) T.n_int (by decide +kernel) rfl) pa_nil)))
    (pe_one (pe_not (pe_callB call_isi (by rfl) T.n_isinstance (by decide +kernel) (pa_cons (pv 0) (pa_cons (pe_bltn (v := .ty "bool") (by rfl) T.n_bool (by decide +kernel) rfl) pa_nil)))))))), ?_⟩
  refine ⟨_, rfl, .int v, .ty "int", .type "int", .type "int", true, rfl, ClsV.ty _, TyX.base (TyOf.int v), kit_ty (by decide +kernel), _, rfl, iteT ?_⟩
  exact ⟨_, rfl, .int v, .ty "bool", .type "int", .type "bool", false, rfl, ClsV.ty _, TyX.base (TyOf.int v), kit_ty (by decide +kernel), _, rfl, q⟩
def rLo (K : PySem.W.Frag) : List V → Hp → VK → Prop := fun xs H Q => ∃ p ys, xs = [V.ref p] ∧ (SqL K H p ys ∨ SqT K H p ys) ∧ ∀ q, H q = none → Q (.ref q) (upd H q (.lst ys))
theorem takesN {X : Cx} : Takes X (fun _ _ _ _ => False) := fun _ _ ⟨_, _, _, _, _, _, _, _, _, _, _, _, _, _, _, _, h⟩ => h.elim
theorem row_lk (i : Nat) : ([("row", V.int (i : Nat))] : List (Str × V)).lookup ("row" : Str) = some (.int (i : Nat)) := by simp [List.lookup]
def spBadRow : Sp := fun vs H Q _ => ∃ (a : Addr) (rs : List Row), vs = [.ref a] ∧ RowsAt H a rs ∧ ((ValidT rs ∧ ∀ H', Same H H' → Q (.int (-1)) H') ∨ ∃ i : Nat, RowsShort rs ∧ Due rs i ∧ ∀ H', Same H H' → Q (.int (i : Nat)) H')
theorem ok_bad_row (T : Tx K mg) (F : FnP K ("_law_bad_row", none) "_law_bad_row" "_law_bad_row" s__law_bad_row fd) : FnOk P w K mg base CX0 8 (He.fAd K ("_law_bad_row", none)) fd ["_law_rows_here"] spBadRow := by
  obtain ⟨f1, F1⟩ := T.F_Kinds_init
  obtain ⟨f2, F2⟩ := T.F__law_int
  refine F.ok sc__law_bad_row (fun vs H Q E h => ?_) (fun cdv A outer s H vs Q E hr h => ?_)
  · obtain ⟨a, rs, rfl, _⟩ := h; rfl
  obtain ⟨a, rs, rfl, hra, h⟩ := h
  obtain ⟨us, ha, al⟩ := id hra
  rcases h with ⟨val, q⟩ | ⟨i, sh, due, q⟩
  · refine ⟨_, PSs.nox (pss_cons (ps_try_thru0 (pss_one (ps_expr (pe_make T.mk_Kinds (ok_init T F1) hr (by rfl) T.g_Kinds (b_Kinds_init F1) .nil pass0 (pa_cons (pe_callTy call_list_of (by rfl) T.n_list (by decide +kernel) (pa_cons (pv 0) pa_nil)) pa_nil)))))
      (pss_one (ps_ret (pe_un un_neg pe_int)))), ?_⟩
    refine ⟨_, rfl, a, us, rfl, .inl (SqL.of ha), fun lp hlp => fun x dx hx hdx nex => ?_⟩
    have s3 := same_new (o := .lst us) hlp
    have s4 : Same (upd H lp (.lst us)) (upd (upd (upd H lp (.lst us)) dx (.own x)) x (.ins (CK K) dx [])) := fun b o e => by
      rw [upd_ne (ne_of_none e hx), upd_ne (ne_of_none e hdx)]; exact e
    refine ⟨x, dx, lp, rs, rfl, upd_same, ⟨us, s4 _ _ upd_same, al.mono fun _ _ z => z.mono (tups_of (s3.trans s4))⟩, val, fun H5 b5 hK => ⟨rfl, ?_⟩⟩
    exact ⟨_, rfl, q _ (s3.trans fun b o e => b5 _ _ (ne_of_none e hx) (s4 _ _ e))⟩
  · have hr1 : L2H.RoomH 1 _ := L2H.roomH_of (hr.mono (by decide) : Room 1 _)
    refine ⟨_, pss_cons (ps_try_as (i := 1) (Wout := fun _ _ _ _ => False) (c := .ref (He.ga K "GroveError")) rfl rfl sc__law_bad_row.nd rfl rfl ⟨by rfl, by decide, Or.inl T.g_GroveError⟩ takesN
        (fun W pn xe tk _ => pss_one (ps_expr (pe_makeAt T.mk_Kinds (okx_init T F1) hr (by rfl) T.g_Kinds (b_Kinds_init F1) (fun σ => passAt tk σ) (pa_cons (pe_callTy (T := "list") (r := rLo K) call_list_of (by rfl) T.n_list (by decide +kernel) (pa_cons (pv 0) pa_nil)) pa_nil))))
        (fun a' oe cls d pn hz hf => pss_cons (ps_if (pt_val (pe_callB (id := "isinstance") (r := rIsDT K a' cls d) (call_isDT hz hf) (by rfl) T.n_isinstance (by decide +kernel) (pa_cons (pv 1) (pa_cons (pe_tup (pa_cons (pe_glob (v := .ref _) (by rfl) T.g_BadFunctions rfl) (pa_cons (pe_glob (v := .ref _) (by rfl) T.g_BadLayout rfl) (pa_cons (pe_glob (v := .ref _) (by rfl) T.g_BadRow rfl) (pa_cons (pe_glob (v := .ref _) (by rfl) T.g_BadTree rfl) (pa_cons (pe_glob (v := .ref _) (by rfl) T.g_NoLayout rfl) (pa_cons (pe_glob (v := .ref _) (by rfl) T.g_NotThere rfl) (pa_cons (pe_glob (v := .ref _) (by rfl) T.g_Stuck rfl) (pa_cons (pe_glob (v := .ref _) (by rfl) T.g_WrongLayout rfl) pa_nil))))))))) pa_nil)))) (pss_one (ps_ret (pe_un un_neg pe_int))) pss_nil)
          (pss_cons (ps_if (PW.pt (pw_or (pt_not (pt_val (pe_callB (id := "isinstance") (r := rIsD K a' cls d) (call_isD hz hf) (by rfl) T.n_isinstance (by decide +kernel) (pa_cons (pv 1) (pa_cons (pe_glob (v := .ref _) (by rfl) T.g_BadKinds rfl) pa_nil)))))
            (pw_or (pt_not (pt_val (pe_callB (id := "isinstance") (r := rIsD K a' cls d) (call_isD hz hf) (by rfl) T.n_isinstance (by decide +kernel) (pa_cons (pv 1) (pa_cons (pe_bltn (v := .ty "ValueError") (by rfl) T.n_ValueError (by decide +kernel) rfl) pa_nil)))))
            (pw_or1 (pt_not (pt_val (pe_callC (p := (a', oe)) (sp := spLInt) (okc_lint T F2) ⟨hr1.dp, hr1.un⟩ (List.mem_cons_self) (by rfl) T.g_law_int T.k_law_int (b__law_int F2) (pa_cons (pe_xf T.x_BadKinds.xf T.na_BadKinds_row hz hf (pv 1)) pa_nil)))))))) (pss_one (ps_ret (pe_un un_neg pe_int))) pss_nil)
          (pss_one (ps_ret (pe_xf T.x_BadKinds.xf T.na_BadKinds_row hz hf (pv 1)))))))
      pss_never, ?_⟩
    refine ⟨_, rfl, a, us, rfl, .inl (SqL.of ha), fun lp hlp => fun x dx hx hdx nex => ?_⟩
    have s3 := same_new (o := .lst us) hlp
    have s4 : Same (upd H lp (.lst us)) (upd (upd (upd H lp (.lst us)) dx (.own x)) x (.ins (CK K) dx [])) := fun b o e => by
      rw [upd_ne (ne_of_none e hx), upd_ne (ne_of_none e hdx)]; exact e
    refine ⟨x, lp, rs, i, rfl, ⟨us, s4 _ _ upd_same, al.mono fun _ _ z => z.mono (tups_of (s3.trans s4))⟩, sh, due, fun dd H1 s1 e1 => ?_⟩
    have s01 : Same H H1 := (s3.trans s4).trans s1
    refine ⟨true, T.e_BadKinds_GroveError, fun _ a' ha' => ?_, fun z => nomatch z⟩
    refine ⟨_, rfl, (by show 8 ≤ sizeLine; decide), fun tp htp => ?_⟩
    have s2 := same_new (o := .tup [V.ref (He.ga K "BadFunctions"), V.ref (He.ga K "BadLayout"), V.ref (He.ga K "BadRow"), V.ref (He.ga K "BadTree"), V.ref (He.ga K "NoLayout"), V.ref (He.ga K "NotThere"), V.ref (He.ga K "Stuck"), V.ref (He.ga K "WrongLayout")]) htp
    have e2 := s2 _ _ e1
    refine ⟨tp, _, _, false, BK K, dd, _, rfl, rfl, rfl, e2, T.x_BadKinds, upd_same, (.cons (.own _) (.cons (.own _) (.cons (.own _) (.cons (.own _) (.cons (.own _) (.cons (.own _) (.cons (.own _) (.cons (.own _) .nil)))))))), T.kit_BadKinds_any, _, rfl, iteF ?_⟩
    refine ⟨_, rfl, .ref (BK K), .ref (BK K), true, BK K, dd, _, rfl, rfl, rfl, e2, T.x_BadKinds, ClsV.own _, if_pos (beq_self_eq_true _), _, rfl, iteF ?_⟩
    refine ⟨_, rfl, .ty "ValueError", .type "ValueError", true, BK K, dd, _, rfl, rfl, rfl, e2, T.x_BadKinds, ClsV.ty _, T.kit_BadKinds_ValueError, _, rfl, iteF ?_⟩
    refine ⟨_, rfl, rfl, rfl, dd, _, .int (i : Nat), rfl, e2, row_lk i, _, rfl, _, rfl, iteF ?_⟩
    exact ⟨_, rfl, rfl, rfl, dd, _, .int (i : Nat), rfl, e2, row_lk i, q _ (s01.trans s2)⟩
end
end Bg
set_option Elab.async false
set_option linter.all false
set_option maxRecDepth 100000
set_option maxHeartbeats 2000000
namespace Bg
open PySem PySem.Spec PyProof.Rows L2
/-! ### which row of a spoilt table is due -/
theorem get_of_take {α : Type} {l l' : List α} {i : Nat} (h : l'.take (i + 1) = l.take (i + 1)) : l'[i]? = l[i]? := by
  have := congrArg (fun z : List α => z[i]?) h
  simpa [List.getElem?_take] using this
theorem take_of_take {α : Type} {l l' : List α} {i : Nat} (h : l'.take (i + 1) = l.take (i + 1)) : l'.take i = l.take i := by
  have := congrArg (fun z : List α => z.take i) h
  simpa [List.take_take] using this
theorem bad1_congr {rs rs' : List Row} {i : Nat} (h : rs'.take (i + 1) = rs.take (i + 1)) : bad1 rs' i = bad1 rs i := by
  unfold bad1
  rw [get_of_take h, h, take_of_take h]
theorem each_bad1 {rs : List Row} (ok : EachOk rs) {j : Nat} (hj : j < rs.length) : bad1 rs j = false := by
  obtain ⟨r, hr⟩ : ∃ r, rs[j]? = some r := ⟨_, List.getElem?_eq_getElem hj⟩
  obtain ⟨g1, g2, g3⟩ := ok.good r (List.mem_of_getElem? hr)
  have n : r.2.1 ∉ rmakers (rs.take j) := by
    rw [rmakers_take]
    exact not_mem_take_of_nodup ok.nd (by unfold rmakers; rw [List.getElem?_map, hr]; rfl)
  have d : ¬ 4 < (distinct (rkinds (rs.take (j + 1)))).length := by
    rw [rkinds_take]
    exact Nat.not_lt.mpr (Nat.le_trans (distinct_take_len _ _) ok.kinds)
  have f := ok.few
  rw [bad1_at hr, g1, g2, g3, decide_eq_false n, decide_eq_false d, decide_eq_false (show ¬ 12 ≤ j by omega)] <;> rfl
theorem take_set_lt {α : Type} (l : List α) {j m : Nat} (h : j < m) (x : α) : (l.set m x).take (j + 1) = l.take (j + 1) := by
  apply List.ext_getElem?
  intro i
  rw [List.getElem?_take, List.getElem?_take]
  by_cases hi : i < j + 1
  · rw [if_pos hi, if_pos hi, List.getElem?_set_ne (by omega)]
  · rw [if_neg hi, if_neg hi]
theorem get_set_self {α : Type} (l : List α) {m : Nat} (h : m < l.length) (x : α) : (l.set m x)[m]? = some x := by
  rw [List.getElem?_set_self h]
/-- the row is bad by itself -/
def RowBad (r : Row) : Prop := kindB r.1 = false ∨ nameB r.2.1 = false ∨ partsB r.2.2 = false
theorem bad1_row {rs : List Row} {i : Nat} {r : Row} (h : rs[i]? = some r) (b : RowBad r ∨ r.2.1 ∈ rmakers (rs.take i)) : bad1 rs i = true := by
  rw [bad1_at h]
  rcases b with (b | b | b) | b
  · rw [b]; rfl
  · rw [b]; simp
  · rw [b]; simp
  · rw [decide_eq_true b]; simp
theorem due_set {rs : List Row} (ok : EachOk rs) {m : Nat} {r' : Row} (hm : m < rs.length) (b : RowBad r' ∨ r'.2.1 ∈ rmakers (rs.take m)) : Due (rs.set m r') m := by
  have e : (rs.set m r').take m = rs.take m := by
    cases m with
    | zero => rfl
    | succ n => exact take_set_lt rs (Nat.lt_succ_self n) r'
  exact .each (by rw [List.length_set]; exact hm) (bad1_row (get_set_self rs hm r') (by rw [e]; exact b)) fun j hj => by
    rw [bad1_congr (take_set_lt rs hj r')]; exact each_bad1 ok (by omega)
theorem due_set2 {rs : List Row} (ok : EachOk rs) {a b : Nat} {r1 r2 : Row} (ha : a < rs.length) (hb : b < rs.length) (h1 : RowBad r1) (h2 : RowBad r2) : Due ((rs.set a r1).set b r2) (if b < a then b else a) := by
  by_cases c : b < a
  · rw [if_pos c]
    exact .each (by simp [hb]) (bad1_row (get_set_self _ (by simp [hb]) r2) (.inl h2)) fun j hj => by
      rw [bad1_congr (rs := rs) (by rw [take_set_lt _ hj, take_set_lt _ (by omega)])]; exact each_bad1 ok (by omega)
  · rw [if_neg c]
    by_cases e : a = b
    · subst e
      exact .each (by simp [hb]) (bad1_row (get_set_self _ (by simp [hb]) r2) (.inl h2)) fun j hj => by
        rw [bad1_congr (rs := rs) (by rw [take_set_lt _ hj, take_set_lt _ hj])]; exact each_bad1 ok (by omega)
    · exact .each (by simp [ha]) (bad1_row (by rw [List.getElem?_set_ne (by omega)]; exact get_set_self _ ha r1) (.inl h1)) fun j hj => by
        rw [bad1_congr (rs := rs) (by rw [take_set_lt _ (by omega), take_set_lt _ hj])]; exact each_bad1 ok (by omega)
/-- .. kind and maker as before -/
structure Heads (r r' : Row) : Prop where
  k : r'.1 = r.1
  m : r'.2.1 = r.2.1
theorem map_set_same {α β : Type} (f : α → β) (l : List α) {m : Nat} {r r' : α} (h : l[m]? = some r) (e : f r' = f r) : (l.set m r').map f = l.map f := by
  apply List.ext_getElem?
  intro i
  rw [List.getElem?_map, List.getElem?_map]
  by_cases hi : m = i
  · subst hi
    rw [get_set_self l (List.getElem?_eq_some_iff.mp h).1, h]
    show some (f r') = some (f r)
    rw [e]
  · rw [List.getElem?_set_ne hi]
theorem rkinds_set {rs : List Row} {m : Nat} {r r' : Row} (h : rs[m]? = some r) (e : Heads r r') : rkinds (rs.set m r') = rkinds rs := map_set_same _ rs h e.k
theorem rmakers_set {rs : List Row} {m : Nat} {r r' : Row} (h : rs[m]? = some r) (e : Heads r r') : rmakers (rs.set m r') = rmakers rs := map_set_same _ rs h e.m
theorem each_set {rs : List Row} (ok : EachOk rs) {m : Nat} {r r' : Row} (h : rs[m]? = some r) (e : Heads r r') (p : partsB r'.2.2 = true) : EachOk (rs.set m r') := by
  refine ⟨fun x hx => ?_, by rw [rmakers_set h e]; exact ok.nd, by rw [List.length_set]; exact ok.few, by rw [rkinds_set h e]; exact ok.kinds⟩
  rcases List.mem_or_eq_of_mem_set hx with z | z
  · exact ok.good x z
  · obtain ⟨g1, g2, _⟩ := ok.good r (List.mem_of_getElem? h)
    rw [z, e.k, e.m]; exact ⟨g1, g2, p⟩
/-- a row of the eleventh way: a kind that no row has -/
structure FarRow (rs : List Row) (r r' : Row) : Prop extends Heads r r' where
  p : partsB r'.2.2 = true
  far : ∃ x ∈ r'.2.2, badP rs x = true
theorem badP_congr {rs rs' : List Row} (e : rkinds rs' = rkinds rs) (p : Part) : badP rs' p = badP rs p := by unfold badP; rw [e]
theorem inner_bad2 {rs rs' : List Row} (ok : InnerOk rs) (e : rkinds rs' = rkinds rs) {j : Nat} {r : Row} (h : rs'[j]? = some r) (hr : r ∈ rs) : bad2 rs' j = false := by
  rw [bad2_at h, List.any_eq_false]
  intro p hp z
  rw [badP_congr e] at z
  unfold badP at z
  rcases ok r hr p hp with y | y
  · rw [decide_eq_true y] at z; simp at z
  · rw [decide_eq_true y] at z; simp at z
theorem far_bad2 {rs rs' : List Row} (e : rkinds rs' = rkinds rs) {j : Nat} {r r' : Row} (h : rs'[j]? = some r') (f : FarRow rs r r') : bad2 rs' j = true := by
  obtain ⟨x, hx, b⟩ := f.far
  rw [bad2_at h, List.any_eq_true]
  exact ⟨x, hx, by rw [badP_congr e]; exact b⟩
theorem due_far {rs : List Row} (ok : EachOk rs) (ok2 : InnerOk rs) {m : Nat} {r r' : Row} (h : rs[m]? = some r) (f : FarRow rs r r') : Due (rs.set m r') m := by
  have hm := (List.getElem?_eq_some_iff.mp h).1
  have ek := rkinds_set h f.toHeads
  refine .inner (each_set ok h f.toHeads f.p) (by rw [List.length_set]; exact hm) (far_bad2 ek (get_set_self rs hm r') f) fun j hj => ?_
  have hj' : j < rs.length := by omega
  refine inner_bad2 ok2 ek (r := rs[j]) (by rw [List.getElem?_set_ne (by omega), List.getElem?_eq_getElem hj']) (List.getElem_mem hj')
theorem far_heads {rs : List Row} {a b : Nat} {ra rb r1 : Row} (ha : rs[a]? = some ra) (hb : rs[b]? = some rb) (f1 : Heads ra r1) : ∃ r, (rs.set a r1)[b]? = some r ∧ r.1 = rb.1 ∧ r.2.1 = rb.2.1 := by
  by_cases e : a = b
  · subst e
    rw [ha] at hb; cases hb
    exact ⟨r1, get_set_self rs (List.getElem?_eq_some_iff.mp ha).1 r1, f1.k, f1.m⟩
  · exact ⟨rb, by rw [List.getElem?_set_ne e]; exact hb, rfl, rfl⟩
theorem due_far2 {rs : List Row} (ok : EachOk rs) (ok2 : InnerOk rs) {a b : Nat} {ra rb r1 r2 : Row} (ha : rs[a]? = some ra) (hb : rs[b]? = some rb) (f1 : FarRow rs ra r1) (f2 : FarRow rs rb r2) : Due ((rs.set a r1).set b r2) (if b < a then b else a) := by
  have la := (List.getElem?_eq_some_iff.mp ha).1
  have lb := (List.getElem?_eq_some_iff.mp hb).1
  obtain ⟨r, hr, e1, e2⟩ := far_heads ha hb f1.toHeads
  have h2 : Heads r r2 := ⟨by rw [e1]; exact f2.k, by rw [e2]; exact f2.m⟩
  have ek : rkinds ((rs.set a r1).set b r2) = rkinds rs := (rkinds_set hr h2).trans (rkinds_set ha f1.toHeads)
  have ok' := each_set (each_set ok ha f1.toHeads f1.p) hr h2 f2.p
  have old : ∀ j, j < rs.length → j ≠ a → j ≠ b → bad2 ((rs.set a r1).set b r2) j = false := fun j hj na nb =>
    inner_bad2 ok2 ek (r := rs[j]) (by rw [List.getElem?_set_ne (by omega), List.getElem?_set_ne (by omega), List.getElem?_eq_getElem hj]) (List.getElem_mem hj)
  by_cases c : b < a
  · rw [if_pos c]
    exact .inner ok' (by simp [lb]) (far_bad2 ek (get_set_self _ (by simp [lb]) r2) f2) fun j hj => old j (by omega) (by omega) (by omega)
  · rw [if_neg c]
    by_cases e : a = b
    · subst e
      exact .inner ok' (by simp [lb]) (far_bad2 ek (get_set_self _ (by simp [lb]) r2) f2) fun j hj => old j (by omega) (by omega) (by omega)
    · exact .inner ok' (by simp [la]) (far_bad2 ek (by rw [List.getElem?_set_ne (by omega)]; exact get_set_self _ la r1) f1) fun j hj => old j (by omega) (by omega) (by omega)
end Bg
set_option Elab.async false
set_option linter.all false
set_option maxRecDepth 100000
set_option maxHeartbeats 8000000
namespace Bg
open PySem PySem.Spec PyProof.Rows L2
/-- text * int -/
theorem op_mulS {X : Cx} : OpR X (binaryOp .Mult) (fun x y H Q => ∃ (z : Str) (n : Int), x = .str z ∧ y = .int n ∧ MulOk z n ∧ Q (.str (Txt.mul z n)) H) := by
  intro pins s σ H x y v u Q I rx ry h
  obtain ⟨z, n, rfl, rfl, ok, q⟩ := h
  obtain ⟨t, rfl⟩ := rx
  obtain ⟨t', rfl⟩ := ry
  exact PySem.SB.mul ok fun t2 k => ⟨.str _, H, I.tok k, ⟨t2, rfl⟩, q⟩
theorem q24_ok : MulOk "q" 24 := ⟨by decide +kernel, fun _ _ => by decide +kernel, fun _ _ => by decide +kernel⟩
theorem b25_ok : MulOk "b" 25 := ⟨by decide +kernel, fun _ _ => by decide +kernel, fun _ _ => by decide +kernel⟩
theorem ifn {i j : Int} {A B : Prop} (h : i ≠ j) (b : B) : if decide (V.int i = V.int j) = true then A else B := by
  rw [decide_eq_false fun z => h (V.int.inj z)]
  exact iteF b
theorem ift {i : Int} {A B : Prop} (a : A) : if decide (V.int i = V.int i) = true then A else B := by
  rw [decide_eq_true rfl]
  exact iteT a
def badL : List Str := ["", "1a", "a b", "a.b", "a_b", "+a", Txt.mul "b" 25, "a\n"]
theorem badL_bad : ∀ x ∈ badL, nameB x = false ∧ x.length ≤ 100000 := by decide +kernel
/-- parts that are being made: from H0 on -/
structure PL (H0 G : Hp) (vs : List V) (ps : List Part) : Prop where
  same : Same H0 G
  all : All2 (PartAt G) vs ps
theorem pl_nil {H0 : Hp} : PL H0 H0 [] [] := ⟨Same.refl _, All2.nil⟩
theorem pl_snoc {H0 G : Hp} {vs : List V} {ps : List Part} {p : Addr} {part : Part} (h : PL H0 G vs ps) (hp : G p = none) : PL H0 (upd G p (.tup (partVs part))) (vs ++ [.ref p]) (ps ++ [part]) :=
  ⟨h.same.trans (same_new hp), (h.all.mono fun _ _ z => z.mono (tups_of (same_new hp))).snoc ⟨p, rfl, upd_same⟩⟩
theorem fin_ {pool : Addr} {H G0 G : Hp} {Q : VK} {S : Row → Prop} {vs : List V} {ps : List Part} {t row : Addr} {k m : Str} (q : ∀ v r' H', But pool H H' → PoolAt H' pool → RowAt H' v r' → RowShort r' → S r' → Q v H')
    (bg : But pool H G0) (pg : PoolAt G0 pool) (pl : PL G0 G vs ps) (ht : G t = none) (hrow : (upd G t (.tup vs)) row = none) (sh : RowShort (k, m, ps)) (sp : S (k, m, ps)) : Q (.ref row) (upd (upd G t (.tup vs)) row (.tup [.str k, .str m, .ref t])) := by
  have s1 := pl.same.trans ((same_new (o := .tup vs) ht).trans (same_new (o := .tup [.str k, .str m, .ref t]) hrow))
  have pa : PartsAt (upd G t (.tup vs)) (.ref t) ps := ⟨t, vs, rfl, upd_same, pl.all.mono fun _ _ z => z.mono (tups_of (same_new ht))⟩
  exact q _ (k, m, ps) _ (bg.trans (but_of s1)) (pg.same s1) ⟨row, .ref t, rfl, upd_same, pa.mono (tups_of (same_new hrow))⟩ sh sp
theorem p5 (k : Str) : partsB [("a", "byte", none), ("b", k, some 2), ("a", k, some 1)] = false := by
  have e : (distinct (([("a", "byte", none), ("b", k, some 2), ("a", k, some 1)] : List Part).map (·.1))).length = 2 := (by decide +kernel : (distinct [("a" : Str), "b", "a"]).length = 2)
  unfold partsB
  rw [e]; simp
theorem p6 {bd : Str} (h : nameB bd = false) : partsB [("a", "byte", none), (bd, "byte", none)] = false := by
  unfold partsB; simp [partB, h]
theorem p8 {k : Str} (h : ¬ k = ("byte" : Str)) : partsB [("a", k, none)] = false := by
  unfold partsB; simp [partB, h]
theorem p9 {k : Str} {pr : Int} (h : ¬ (1 ≤ pr ∧ pr ≤ 1000)) : partsB [("a", "byte", none), ("b", k, some pr)] = false := by
  have e : (decide (1 ≤ pr) && decide (pr ≤ 1000)) = false := by
    cases x : (decide (1 ≤ pr) && decide (pr ≤ 1000)) with
    | false => rfl
    | true =>
      obtain ⟨a, b⟩ := Bool.and_eq_true_iff.mp x
      exact absurd ⟨of_decide_eq_true a, of_decide_eq_true b⟩ h
  have e2 : partB ("b", k, some pr) = false := by
    show (nameB "b" && (kindB k && (decide (1 ≤ pr) && decide (pr ≤ 1000)))) = false
    rw [e]; simp
  unfold partsB
  rw [show ([("a", "byte", none), ("b", k, some pr)] : List Part).all partB = false by simp [e2]]
  simp
theorem p10 {bd : Str} (h : nameB bd = false) : partsB [("a", bd, some 3)] = false := by
  have e2 : partB ("a", bd, some 3) = false := by
    show (nameB "a" && ((nameB bd && !decide (bd = ("byte" : Str))) && (decide ((1 : Int) ≤ 3) && decide ((3 : Int) ≤ 1000)))) = false
    rw [h]; simp
  unfold partsB
  rw [show ([("a", bd, some 3)] : List Part).all partB = false by simp [e2]]
  simp
theorem fin2_ {pool : Addr} {H G0 : Hp} {Q : VK} {S : Row → Prop} {ps : List Part} {u : V} {row : Addr} {k m : Str} (q : ∀ v r' H', But pool H H' → PoolAt H' pool → RowAt H' v r' → RowShort r' → S r' → Q v H')
    (bg : But pool H G0) (pg : PoolAt G0 pool) (pa : PartsAt G0 u ps) (hrow : G0 row = none) (sh : RowShort (k, m, ps)) (sp : S (k, m, ps)) : Q (.ref row) (upd G0 row (.tup [.str k, .str m, u])) :=
  q _ (k, m, ps) _ (bg.trans (but_of (same_new hrow))) (pg.same (same_new hrow)) ⟨row, u, rfl, upd_same, pa.mono (tups_of (same_new hrow))⟩ sh sp
/-- what the ways make of the row r at the place at -/
def Spoilt (rs : List Row) (at_ : Nat) (r : Row) : Nat → Row → Prop
  | 3, r' => RowBad r' ∨ r'.2.1 ∈ rmakers (rs.take at_)
  | 11, r' => FarRow rs r r'
  | _, r' => RowBad r'
section
variable {P : Program} {w : World} {K : PySem.W.Frag} {mg : Str → Option Value} {base : Heap} {fd : FuncData}
def spSpoilt (K : PySem.W.Frag) : Sp := fun vs H Q _ => ∃ (pool lr : Addr) (at_ way : Nat) (us : List V) (rs : List Row) (ns : List Str) (r : Row), vs = [.ref pool, .ref lr, .int (at_ : Nat), .int (way : Nat)] ∧ PoolAt H pool ∧ lr ≠ pool ∧ H lr = some (.lst us) ∧ All2 (RowAt H) us rs ∧ Draw ns rs ∧ rs[at_]? = some r ∧ way < 12 ∧
  ∀ v r' H', But pool H H' → PoolAt H' pool → RowAt H' v r' → RowShort r' → Spoilt rs at_ r way r' → Q v H'
theorem ok_spoilt (T : Tx K mg) (F : FnP K ("_law_spoilt", none) "_law_spoilt" "_law_spoilt" s__law_spoilt fd) : FnOk P w K mg base CX0 2 (He.fAd K ("_law_spoilt", none)) fd ["_law_pool_here", "_law_rows_here", "_law_at", "_law_way"] (spSpoilt K) := by
  obtain ⟨f1, F1⟩ := T.F__law_take
  refine F.ok sc__law_spoilt (fun vs H Q E h => ?_) (fun cdv A outer s H vs Q E hr h => ?_)
  · obtain ⟨pool, lr, at_, way, us, rs, ns, r, rfl, _⟩ := h; rfl
  obtain ⟨pool, lr, at_, way, us, rs, ns, r, rfl, hP, nlr, hl, al, draw, hat, hw, q⟩ := h
  have nd := sc__law_spoilt.nd
  refine ⟨_, PSs.nox (pss_cons (ps_set (i := 4) nd rfl (.inl rfl) (pe_ix ix_tup (pe_ix ix_list (pv 1) (pv 2) (fun _ _ => rfl)) pe_int (fun _ _ => rfl)))
    (pss_cons (ps_set (i := 5) nd rfl (.inl rfl) (pe_ix ix_tup (pe_ix ix_list (pv 1) (pv 2) (fun _ _ => rfl)) pe_int (fun _ _ => rfl)))
    (pss_cons (ps_set (i := 6) nd rfl (.inl rfl) (pe_ix ix_list (pe_lst (pa_cons pe_str (pa_cons pe_str (pa_cons pe_str (pa_cons pe_str (pa_cons pe_str (pa_cons pe_str (pa_cons (pe_op op_mulS pe_str pe_int) (pa_cons pe_str pa_nil))))))))) (pe_call (ok_take T F1) hr (by rfl) T.g_law_take T.k_law_take (b__law_take F1) .nil pass0 (pa_cons (pv 0) (pa_cons pe_int pa_nil))) (fun _ _ => rfl)))
    (pss_cons (ps_set (i := 7) nd rfl (.inl rfl) (pe_ix ix_list (pe_lst (pa_cons pe_int (pa_cons pe_int (pa_cons (pe_op op_sub (pe_un un_neg pe_int) (pe_call (ok_take T F1) hr (by rfl) T.g_law_take T.k_law_take (b__law_take F1) .nil pass0 (pa_cons (pv 0) (pa_cons pe_int pa_nil)))) pa_nil)))) (pe_call (ok_take T F1) hr (by rfl) T.g_law_take T.k_law_take (b__law_take F1) .nil pass0 (pa_cons (pv 0) (pa_cons pe_int pa_nil))) (fun _ _ => rfl)))
    (pss_cons (ps_if (pt_cmpR op_eq (pv 3) pe_int (nomark _)) (pss_one (ps_ret (pe_tup (pa_cons (pv 6) (pa_cons (pv 5) (pa_cons (pe_tup pa_nil) pa_nil)))))) pss_nil)
    (pss_cons (ps_if (pt_cmpR op_eq (pv 3) pe_int (nomark _)) (pss_one (ps_ret (pe_tup (pa_cons pe_str (pa_cons (pv 5) (pa_cons (pe_ix ix_tup (pe_ix ix_list (pv 1) (pv 2) (fun _ _ => rfl)) pe_int (fun _ _ => rfl)) pa_nil)))))) pss_nil)
    (pss_cons (ps_if (PW.pt (pw_or (pt_cmpR op_eq (pv 3) pe_int (nomark _)) (pw_or1 (PW.pt (pw_and (pt_cmpR op_eq (pv 3) pe_int (nomark _)) (pw_and1 (pt_cmpR op_eq (pv 2) pe_int (nomark _)))))))) (pss_one (ps_ret (pe_tup (pa_cons (pv 4) (pa_cons (pv 6) (pa_cons (pe_ix ix_tup (pe_ix ix_list (pv 1) (pv 2) (fun _ _ => rfl)) pe_int (fun _ _ => rfl)) pa_nil)))))) pss_nil)
    (pss_cons (ps_if (pt_cmpR op_eq (pv 3) pe_int (nomark _)) (pss_one (ps_ret (pe_tup (pa_cons (pv 4) (pa_cons (pe_ix ix_tup (pe_ix ix_list (pv 1) (pe_call (ok_take T F1) hr (by rfl) T.g_law_take T.k_law_take (b__law_take F1) .nil pass0 (pa_cons (pv 0) (pa_cons (pv 2) pa_nil))) (fun _ _ => rfl)) pe_int (fun _ _ => rfl)) (pa_cons (pe_tup pa_nil) pa_nil)))))) pss_nil)
    (pss_cons (ps_if (pt_cmpR op_eq (pv 3) pe_int (nomark _)) (pss_one (ps_ret (pe_tup (pa_cons (pv 4) (pa_cons (pv 5) (pa_cons (pe_tup (pa_cons (pe_tup (pa_cons pe_str (pa_cons pe_str pa_nil))) (pa_cons (pe_tup (pa_cons pe_str (pa_cons pe_str pa_nil))) (pa_cons (pe_tup (pa_cons pe_str (pa_cons pe_str pa_nil))) (pa_cons (pe_tup (pa_cons pe_str (pa_cons pe_str pa_nil))) (pa_cons (pe_tup (pa_cons pe_str (pa_cons pe_str pa_nil))) pa_nil)))))) pa_nil)))))) pss_nil)
    (pss_cons (ps_if (pt_cmpR op_eq (pv 3) pe_int (nomark _)) (pss_one (ps_ret (pe_tup (pa_cons (pv 4) (pa_cons (pv 5) (pa_cons (pe_tup (pa_cons (pe_tup (pa_cons pe_str (pa_cons pe_str pa_nil))) (pa_cons (pe_tup (pa_cons pe_str (pa_cons (pv 4) (pa_cons pe_int pa_nil)))) (pa_cons (pe_tup (pa_cons pe_str (pa_cons (pv 4) (pa_cons pe_int pa_nil)))) pa_nil)))) pa_nil)))))) pss_nil)
    (pss_cons (ps_if (pt_cmpR op_eq (pv 3) pe_int (nomark _)) (pss_one (ps_ret (pe_tup (pa_cons (pv 4) (pa_cons (pv 5) (pa_cons (pe_tup (pa_cons (pe_tup (pa_cons pe_str (pa_cons pe_str pa_nil))) (pa_cons (pe_tup (pa_cons (pv 6) (pa_cons pe_str pa_nil))) pa_nil))) pa_nil)))))) pss_nil)
    (pss_cons (ps_if (pt_cmpR op_eq (pv 3) pe_int (nomark _)) (pss_one (ps_ret (pe_tup (pa_cons (pv 4) (pa_cons (pv 5) (pa_cons (pe_tup (pa_cons (pe_tup (pa_cons pe_str (pa_cons pe_str (pa_cons pe_int pa_nil)))) pa_nil)) pa_nil)))))) pss_nil)
    (pss_cons (ps_if (pt_cmpR op_eq (pv 3) pe_int (nomark _)) (pss_one (ps_ret (pe_tup (pa_cons (pv 4) (pa_cons (pv 5) (pa_cons (pe_tup (pa_cons (pe_tup (pa_cons pe_str (pa_cons (pv 4) pa_nil))) pa_nil)) pa_nil)))))) pss_nil)
    (pss_cons (ps_if (pt_cmpR op_eq (pv 3) pe_int (nomark _)) (pss_one (ps_ret (pe_tup (pa_cons (pv 4) (pa_cons (pv 5) (pa_cons (pe_tup (pa_cons (pe_tup (pa_cons pe_str (pa_cons pe_str pa_nil))) (pa_cons (pe_tup (pa_cons pe_str (pa_cons (pv 4) (pa_cons (pv 7) pa_nil)))) pa_nil))) pa_nil)))))) pss_nil)
    (pss_cons (ps_if (pt_cmpR op_eq (pv 3) pe_int (nomark _)) (pss_one (ps_ret (pe_tup (pa_cons (pv 4) (pa_cons (pv 5) (pa_cons (pe_tup (pa_cons (pe_tup (pa_cons pe_str (pa_cons (pv 6) (pa_cons pe_int pa_nil)))) pa_nil)) pa_nil)))))) pss_nil)
    (pss_one (ps_ret (pe_tup (pa_cons (pv 4) (pa_cons (pv 5) (pa_cons (pe_tup (pa_cons (pe_tup (pa_cons pe_str (pa_cons (pe_op op_mulS pe_str pe_int) (pa_cons pe_int pa_nil)))) pa_nil)) pa_nil))))))))))))))))))))), ?_⟩
  obtain ⟨v0, hv, ra⟩ := al.get' hat
  obtain ⟨b, u, rfl, hb, pa⟩ := ra
  have hr' := List.mem_of_getElem? hat
  obtain ⟨gk, nb⟩ := draw.names _ (draw.each r hr').1
  have lk : r.1.length ≤ 100000 := gk.short (by decide)
  have lm : r.2.1.length ≤ 100000 := (draw.each r hr').2.1.short (by decide)
  have qn : Txt.mul "q" 24 ∉ rkinds rs := fun z => by
    obtain ⟨r2, h2, e⟩ := List.mem_map.mp z
    have l := (draw.names _ (draw.each r2 h2).1).1.len
    rw [e] at l
    exact absurd l (by decide +kernel)
  refine ⟨_, rfl, _, rfl, lr, us, _, _, rfl, rfl, SqL.of hl, atI_nat (j := at_) hv, b, _, _, _, rfl, rfl, SqT.of hb, atI_nat (j := 0) rfl, ?_⟩
  refine ⟨_, rfl, _, rfl, lr, us, _, _, rfl, rfl, SqL.of hl, atI_nat (j := at_) hv, b, _, _, _, rfl, rfl, SqT.of hb, atI_nat (j := 1) rfl, ?_⟩
  refine ⟨_, _, rfl, rfl, b25_ok, (by show 8 ≤ sizeLine; decide), fun B hB => ⟨_, rfl, pool, _, rfl, hP.upd (hP.ne_new hB), by decide, fun z H2 z0 z8 b2 hP2 => ?_⟩⟩
  obtain ⟨n, rfl⟩ := Int.eq_ofNat_of_zero_le z0
  have n8 : n < badL.length := by show n < 8; omega
  have hbm : badL[n] ∈ badL := List.getElem_mem n8
  have hbd : badL[n]? = some badL[n] := List.getElem?_eq_getElem n8
  generalize badL[n] = bd at hbm hbd
  obtain ⟨hn, lbd⟩ := badL_bad bd hbm
  refine ⟨B, badL.map V.str, _, .str bd, rfl, rfl, SqL.of (b2 _ _ (hP.ne_new hB).symm upd_same), atI_nat (j := n) (by rw [List.getElem?_map, hbd]; rfl), ?_⟩
  refine ⟨_, rfl, _, rfl, pool, _, rfl, hP2, by decide, fun y H4 y0 y1 b4 hP4 => ⟨_, _, rfl, rfl, (by show 3 ≤ sizeLine; decide), fun G hG => ⟨_, rfl, pool, _, rfl, hP4.upd (hP4.ne_new hG), by decide, fun u3 H6 u0 u1 b6 hP6 => ?_⟩⟩⟩
  obtain ⟨m, rfl⟩ := Int.eq_ofNat_of_zero_le u0
  obtain ⟨pr, hpr, npr⟩ : ∃ pr : Int, ([.int 0, .int 1001, .int (-1 - y)] : List V)[m]? = some (.int pr) ∧ ¬ (1 ≤ pr ∧ pr ≤ 1000) := by
    match m, u1 with
    | 0, _ => exact ⟨0, rfl, by omega⟩
    | 1, _ => exact ⟨1001, rfl, by omega⟩
    | 2, _ => exact ⟨-1 - y, rfl, by omega⟩
    | m + 3, h => exact absurd h (by omega)
  refine ⟨G, [.int 0, .int 1001, .int (-1 - y)], _, .int pr, rfl, rfl, SqL.of (b6 _ _ (hP4.ne_new hG).symm upd_same), atI_nat (j := m) hpr, ?_⟩
  have b8 : But pool H H6 := (((but_of (same_new hB)).trans b2).trans b4).trans ((but_of (same_new hG)).trans b6)
  have la : ("a" : Str).length ≤ 100000 := by decide +kernel
  have lb : ("b" : Str).length ≤ 100000 := by decide +kernel
  have ly : ("byte" : Str).length ≤ 100000 := by decide +kernel
  obtain ⟨ns', ep, _⟩ := id hP
  have hl6 : H6 lr = some (.lst us) := b8 _ _ nlr hl
  have hb6 := b8 _ _ (ne_of hb ep (by intro z; cases z)) hb
  have pa6 : PartsAt H6 u r.2.2 := pa.mono (still_but b8 ep).tups
  have ps : PartsShort r.2.2 := (draw.valid.short.2 r hr').2.2
  match way, hw, q with
  | 0, _, q =>
    refine ⟨_, rfl, rfl, _, rfl, ?_⟩
    refine ift ?_
    refine ⟨_, rfl, _, rfl, (by show 0 ≤ sizeLine; decide), fun t ht => ⟨(by show 3 ≤ sizeLine; decide), fun row hrow => fin_ (ps := []) q b8 hP6 pl_nil ht hrow ?_ ?_⟩⟩
    · refine ⟨by first | assumption | decide +kernel, by first | assumption | decide +kernel, by show 0 ≤ 1000; decide, ?_⟩
      intro p hp; simp at hp
    · exact .inl (by show kindB bd = false; unfold kindB; rw [hn]; rfl)
  | 1, _, q =>
    refine ⟨_, rfl, rfl, _, rfl, ?_⟩
    refine ifn (by decide) ?_
    refine ⟨_, rfl, rfl, _, rfl, ?_⟩
    refine ift ?_
    exact ⟨_, rfl, _, rfl, _, rfl, lr, us, _, _, rfl, rfl, SqL.of hl6, atI_nat (j := at_) hv, b, _, _, _, rfl, rfl, SqT.of hb6, atI_nat (j := 2) rfl, (by show 3 ≤ sizeLine; decide), fun row hrow => fin2_ q b8 hP6 pa6 hrow ⟨ly, lm, ps⟩ (.inl (by show kindB "byte" = false; decide +kernel))⟩
  | 2, _, q =>
    refine ⟨_, rfl, rfl, _, rfl, ?_⟩
    refine ifn (by decide) ?_
    refine ⟨_, rfl, rfl, _, rfl, ?_⟩
    refine ifn (by decide) ?_
    refine ⟨_, rfl, rfl, _, rfl, ?_⟩
    refine ift ?_
    exact ⟨_, rfl, _, rfl, _, rfl, _, rfl, lr, us, _, _, rfl, rfl, SqL.of hl6, atI_nat (j := at_) hv, b, _, _, _, rfl, rfl, SqT.of hb6, atI_nat (j := 2) rfl, (by show 3 ≤ sizeLine; decide), fun row hrow => fin2_ q b8 hP6 pa6 hrow ⟨lk, lbd, ps⟩ (.inr (.inl hn))⟩
  | 3, _, q =>
    refine ⟨_, rfl, rfl, _, rfl, ?_⟩
    refine ifn (by decide) ?_
    refine ⟨_, rfl, rfl, _, rfl, ?_⟩
    refine ifn (by decide) ?_
    refine ⟨_, rfl, rfl, _, rfl, ?_⟩
    refine ifn (by decide) ?_
    refine ⟨_, rfl, rfl, _, rfl, ?_⟩
    refine ift ?_
    refine ⟨_, rfl, rfl, _, rfl, ?_⟩
    by_cases a0 : at_ = 0
    · rw [show decide (V.int ((at_ : Nat) : Int) = V.int 0) = true from decide_eq_true (by rw [a0]; rfl)]
      refine iteT ?_
      exact ⟨_, rfl, _, rfl, _, rfl, _, rfl, lr, us, _, _, rfl, rfl, SqL.of hl6, atI_nat (j := at_) hv, b, _, _, _, rfl, rfl, SqT.of hb6, atI_nat (j := 2) rfl, (by show 3 ≤ sizeLine; decide), fun row hrow => fin2_ q b8 hP6 pa6 hrow ⟨lk, lbd, ps⟩ (.inl (.inr (.inl hn)))⟩
    · rw [show decide (V.int ((at_ : Nat) : Int) = V.int 0) = false from decide_eq_false fun z => a0 (by have := V.int.inj z; omega)]
      refine iteF ?_
      refine ⟨_, rfl, rfl, _, rfl, ?_⟩
      refine ift ?_
      refine ⟨_, rfl, _, rfl, _, rfl, _, rfl, pool, _, rfl, hP6, (by omega), fun z7 H7 z70 z7a b7 hP7 => ?_⟩
      obtain ⟨n7, rfl⟩ := Int.eq_ofNat_of_zero_le z70
      have n7a : n7 < at_ := by omega
      have n7l : n7 < rs.length := by have := (List.getElem?_eq_some_iff.mp hat).1; omega
      have hr7 : rs[n7]? = some rs[n7] := List.getElem?_eq_getElem n7l
      obtain ⟨v7, hv7, ra7⟩ := al.get' hr7
      have l7 : rs[n7].2.1.length ≤ 100000 := (draw.each _ (List.getElem_mem n7l)).2.1.short (by decide)
      have in7 : rs[n7].2.1 ∈ rmakers (rs.take at_) := List.mem_map.mpr ⟨rs[n7], List.mem_of_getElem? (i := n7) (by rw [List.getElem?_take_of_lt n7a]; exact hr7), rfl⟩
      generalize rs[n7] = r7 at ra7 l7 in7
      obtain ⟨b', u', rfl, hb', _⟩ := ra7
      have b9 := b8.trans b7
      have hb7 := b9 _ _ (ne_of hb' ep (by intro z; cases z)) hb'
      exact ⟨lr, us, _, _, rfl, rfl, SqL.of (b7 _ _ nlr hl6), atI_nat (j := n7) hv7, b', _, _, _, rfl, rfl, SqT.of hb7, atI_nat (j := 1) rfl, Nat.zero_le _, fun t ht => ⟨(by show 3 ≤ sizeLine; decide), fun row hrow => fin_ (ps := []) q b9 hP7 pl_nil ht hrow ⟨lk, l7, by show 0 ≤ 1000; decide, fun p hp => by simp at hp⟩ (.inr in7)⟩⟩
  | 4, _, q =>
    refine ⟨_, rfl, rfl, _, rfl, ?_⟩
    refine ifn (by decide) ?_
    refine ⟨_, rfl, rfl, _, rfl, ?_⟩
    refine ifn (by decide) ?_
    refine ⟨_, rfl, rfl, _, rfl, ?_⟩
    refine ifn (by decide) ?_
    refine ⟨_, rfl, rfl, _, rfl, ?_⟩
    refine ifn (by decide) ?_
    refine ⟨_, rfl, rfl, _, rfl, ?_⟩
    refine ifn (by decide) ?_
    refine ⟨_, rfl, rfl, _, rfl, ?_⟩
    refine ift ?_
    refine ⟨_, rfl, _, rfl, (by show 2 ≤ sizeLine; decide), fun p0 hp0 => ⟨(by show 2 ≤ sizeLine; decide), fun p1 hp1 => ⟨(by show 2 ≤ sizeLine; decide), fun p2 hp2 => ⟨(by show 2 ≤ sizeLine; decide), fun p3 hp3 => ⟨(by show 2 ≤ sizeLine; decide), fun p4 hp4 => ⟨(by show 5 ≤ sizeLine; decide), fun t ht => ⟨(by show 3 ≤ sizeLine; decide), fun row hrow => fin_ (ps := [("a", "byte", none), ("b", "byte", none), ("c", "byte", none), ("d", "byte", none), ("e", "byte", none)]) q b8 hP6 (pl_snoc (part := ("e", "byte", none)) (pl_snoc (part := ("d", "byte", none)) (pl_snoc (part := ("c", "byte", none)) (pl_snoc (part := ("b", "byte", none)) (pl_snoc (part := ("a", "byte", none)) pl_nil hp0) hp1) hp2) hp3) hp4) ht hrow ?_ ?_⟩⟩⟩⟩⟩⟩⟩
    · refine ⟨by first | assumption | decide +kernel, by first | assumption | decide +kernel, by show 5 ≤ 1000; decide, ?_⟩
      intro p hp
      simp only [List.mem_cons, List.not_mem_nil, or_false] at hp
      rcases hp with rfl | rfl | rfl | rfl | rfl <;> exact ⟨by first | assumption | decide +kernel, by first | assumption | decide +kernel⟩
    · exact .inr (.inr (by show partsB [("a", "byte", none), ("b", "byte", none), ("c", "byte", none), ("d", "byte", none), ("e", "byte", none)] = false; decide +kernel))
  | 5, _, q =>
    refine ⟨_, rfl, rfl, _, rfl, ?_⟩
    refine ifn (by decide) ?_
    refine ⟨_, rfl, rfl, _, rfl, ?_⟩
    refine ifn (by decide) ?_
    refine ⟨_, rfl, rfl, _, rfl, ?_⟩
    refine ifn (by decide) ?_
    refine ⟨_, rfl, rfl, _, rfl, ?_⟩
    refine ifn (by decide) ?_
    refine ⟨_, rfl, rfl, _, rfl, ?_⟩
    refine ifn (by decide) ?_
    refine ⟨_, rfl, rfl, _, rfl, ?_⟩
    refine ifn (by decide) ?_
    refine ⟨_, rfl, rfl, _, rfl, ?_⟩
    refine ift ?_
    refine ⟨_, rfl, _, rfl, (by show 2 ≤ sizeLine; decide), fun p0 hp0 => ⟨_, rfl, (by show 3 ≤ sizeLine; decide), fun p1 hp1 => ⟨_, rfl, (by show 3 ≤ sizeLine; decide), fun p2 hp2 => ⟨(by show 3 ≤ sizeLine; decide), fun t ht => ⟨(by show 3 ≤ sizeLine; decide), fun row hrow => fin_ (ps := [("a", "byte", none), ("b", r.1, some 2), ("a", r.1, some 1)]) q b8 hP6 (pl_snoc (part := ("a", r.1, some 1)) (pl_snoc (part := ("b", r.1, some 2)) (pl_snoc (part := ("a", "byte", none)) pl_nil hp0) hp1) hp2) ht hrow ?_ ?_⟩⟩⟩⟩⟩
    · refine ⟨by first | assumption | decide +kernel, by first | assumption | decide +kernel, by show 3 ≤ 1000; decide, ?_⟩
      intro p hp
      simp only [List.mem_cons, List.not_mem_nil, or_false] at hp
      rcases hp with rfl | rfl | rfl <;> exact ⟨by first | assumption | decide +kernel, by first | assumption | decide +kernel⟩
    · exact .inr (.inr (p5 r.1))
  | 6, _, q =>
    refine ⟨_, rfl, rfl, _, rfl, ?_⟩
    refine ifn (by decide) ?_
    refine ⟨_, rfl, rfl, _, rfl, ?_⟩
    refine ifn (by decide) ?_
    refine ⟨_, rfl, rfl, _, rfl, ?_⟩
    refine ifn (by decide) ?_
    refine ⟨_, rfl, rfl, _, rfl, ?_⟩
    refine ifn (by decide) ?_
    refine ⟨_, rfl, rfl, _, rfl, ?_⟩
    refine ifn (by decide) ?_
    refine ⟨_, rfl, rfl, _, rfl, ?_⟩
    refine ifn (by decide) ?_
    refine ⟨_, rfl, rfl, _, rfl, ?_⟩
    refine ifn (by decide) ?_
    refine ⟨_, rfl, rfl, _, rfl, ?_⟩
    refine ift ?_
    refine ⟨_, rfl, _, rfl, (by show 2 ≤ sizeLine; decide), fun p0 hp0 => ⟨_, rfl, (by show 2 ≤ sizeLine; decide), fun p1 hp1 => ⟨(by show 2 ≤ sizeLine; decide), fun t ht => ⟨(by show 3 ≤ sizeLine; decide), fun row hrow => fin_ (ps := [("a", "byte", none), (bd, "byte", none)]) q b8 hP6 (pl_snoc (part := (bd, "byte", none)) (pl_snoc (part := ("a", "byte", none)) pl_nil hp0) hp1) ht hrow ?_ ?_⟩⟩⟩⟩
    · refine ⟨by first | assumption | decide +kernel, by first | assumption | decide +kernel, by show 2 ≤ 1000; decide, ?_⟩
      intro p hp
      simp only [List.mem_cons, List.not_mem_nil, or_false] at hp
      rcases hp with rfl | rfl <;> exact ⟨by first | assumption | decide +kernel, by first | assumption | decide +kernel⟩
    · exact .inr (.inr (p6 hn))
  | 7, _, q =>
    refine ⟨_, rfl, rfl, _, rfl, ?_⟩
    refine ifn (by decide) ?_
    refine ⟨_, rfl, rfl, _, rfl, ?_⟩
    refine ifn (by decide) ?_
    refine ⟨_, rfl, rfl, _, rfl, ?_⟩
    refine ifn (by decide) ?_
    refine ⟨_, rfl, rfl, _, rfl, ?_⟩
    refine ifn (by decide) ?_
    refine ⟨_, rfl, rfl, _, rfl, ?_⟩
    refine ifn (by decide) ?_
    refine ⟨_, rfl, rfl, _, rfl, ?_⟩
    refine ifn (by decide) ?_
    refine ⟨_, rfl, rfl, _, rfl, ?_⟩
    refine ifn (by decide) ?_
    refine ⟨_, rfl, rfl, _, rfl, ?_⟩
    refine ifn (by decide) ?_
    refine ⟨_, rfl, rfl, _, rfl, ?_⟩
    refine ift ?_
    refine ⟨_, rfl, _, rfl, (by show 3 ≤ sizeLine; decide), fun p0 hp0 => ⟨(by show 1 ≤ sizeLine; decide), fun t ht => ⟨(by show 3 ≤ sizeLine; decide), fun row hrow => fin_ (ps := [("a", "byte", some 3)]) q b8 hP6 (pl_snoc (part := ("a", "byte", some 3)) pl_nil hp0) ht hrow ?_ ?_⟩⟩⟩
    · refine ⟨by first | assumption | decide +kernel, by first | assumption | decide +kernel, by show 1 ≤ 1000; decide, ?_⟩
      intro p hp
      simp only [List.mem_cons, List.not_mem_nil, or_false] at hp
      subst hp
      exact ⟨by first | assumption | decide +kernel, by first | assumption | decide +kernel⟩
    · exact .inr (.inr (by show partsB [("a", "byte", some 3)] = false; decide +kernel))
  | 8, _, q =>
    refine ⟨_, rfl, rfl, _, rfl, ?_⟩
    refine ifn (by decide) ?_
    refine ⟨_, rfl, rfl, _, rfl, ?_⟩
    refine ifn (by decide) ?_
    refine ⟨_, rfl, rfl, _, rfl, ?_⟩
    refine ifn (by decide) ?_
    refine ⟨_, rfl, rfl, _, rfl, ?_⟩
    refine ifn (by decide) ?_
    refine ⟨_, rfl, rfl, _, rfl, ?_⟩
    refine ifn (by decide) ?_
    refine ⟨_, rfl, rfl, _, rfl, ?_⟩
    refine ifn (by decide) ?_
    refine ⟨_, rfl, rfl, _, rfl, ?_⟩
    refine ifn (by decide) ?_
    refine ⟨_, rfl, rfl, _, rfl, ?_⟩
    refine ifn (by decide) ?_
    refine ⟨_, rfl, rfl, _, rfl, ?_⟩
    refine ifn (by decide) ?_
    refine ⟨_, rfl, rfl, _, rfl, ?_⟩
    refine ift ?_
    refine ⟨_, rfl, _, rfl, _, rfl, (by show 2 ≤ sizeLine; decide), fun p0 hp0 => ⟨(by show 1 ≤ sizeLine; decide), fun t ht => ⟨(by show 3 ≤ sizeLine; decide), fun row hrow => fin_ (ps := [("a", r.1, none)]) q b8 hP6 (pl_snoc (part := ("a", r.1, none)) pl_nil hp0) ht hrow ?_ ?_⟩⟩⟩
    · refine ⟨by first | assumption | decide +kernel, by first | assumption | decide +kernel, by show 1 ≤ 1000; decide, ?_⟩
      intro p hp
      simp only [List.mem_cons, List.not_mem_nil, or_false] at hp
      subst hp
      exact ⟨by first | assumption | decide +kernel, by first | assumption | decide +kernel⟩
    · exact .inr (.inr (p8 nb))
  | 9, _, q =>
    refine ⟨_, rfl, rfl, _, rfl, ?_⟩
    refine ifn (by decide) ?_
    refine ⟨_, rfl, rfl, _, rfl, ?_⟩
    refine ifn (by decide) ?_
    refine ⟨_, rfl, rfl, _, rfl, ?_⟩
    refine ifn (by decide) ?_
    refine ⟨_, rfl, rfl, _, rfl, ?_⟩
    refine ifn (by decide) ?_
    refine ⟨_, rfl, rfl, _, rfl, ?_⟩
    refine ifn (by decide) ?_
    refine ⟨_, rfl, rfl, _, rfl, ?_⟩
    refine ifn (by decide) ?_
    refine ⟨_, rfl, rfl, _, rfl, ?_⟩
    refine ifn (by decide) ?_
    refine ⟨_, rfl, rfl, _, rfl, ?_⟩
    refine ifn (by decide) ?_
    refine ⟨_, rfl, rfl, _, rfl, ?_⟩
    refine ifn (by decide) ?_
    refine ⟨_, rfl, rfl, _, rfl, ?_⟩
    refine ifn (by decide) ?_
    refine ⟨_, rfl, rfl, _, rfl, ?_⟩
    refine ift ?_
    refine ⟨_, rfl, _, rfl, (by show 2 ≤ sizeLine; decide), fun p0 hp0 => ⟨_, rfl, _, rfl, (by show 3 ≤ sizeLine; decide), fun p1 hp1 => ⟨(by show 2 ≤ sizeLine; decide), fun t ht => ⟨(by show 3 ≤ sizeLine; decide), fun row hrow => fin_ (ps := [("a", "byte", none), ("b", r.1, some pr)]) q b8 hP6 (pl_snoc (part := ("b", r.1, some pr)) (pl_snoc (part := ("a", "byte", none)) pl_nil hp0) hp1) ht hrow ?_ ?_⟩⟩⟩⟩
    · refine ⟨by first | assumption | decide +kernel, by first | assumption | decide +kernel, by show 2 ≤ 1000; decide, ?_⟩
      intro p hp
      simp only [List.mem_cons, List.not_mem_nil, or_false] at hp
      rcases hp with rfl | rfl <;> exact ⟨by first | assumption | decide +kernel, by first | assumption | decide +kernel⟩
    · exact .inr (.inr (p9 npr))
  | 10, _, q =>
    refine ⟨_, rfl, rfl, _, rfl, ?_⟩
    refine ifn (by decide) ?_
    refine ⟨_, rfl, rfl, _, rfl, ?_⟩
    refine ifn (by decide) ?_
    refine ⟨_, rfl, rfl, _, rfl, ?_⟩
    refine ifn (by decide) ?_
    refine ⟨_, rfl, rfl, _, rfl, ?_⟩
    refine ifn (by decide) ?_
    refine ⟨_, rfl, rfl, _, rfl, ?_⟩
    refine ifn (by decide) ?_
    refine ⟨_, rfl, rfl, _, rfl, ?_⟩
    refine ifn (by decide) ?_
    refine ⟨_, rfl, rfl, _, rfl, ?_⟩
    refine ifn (by decide) ?_
    refine ⟨_, rfl, rfl, _, rfl, ?_⟩
    refine ifn (by decide) ?_
    refine ⟨_, rfl, rfl, _, rfl, ?_⟩
    refine ifn (by decide) ?_
    refine ⟨_, rfl, rfl, _, rfl, ?_⟩
    refine ifn (by decide) ?_
    refine ⟨_, rfl, rfl, _, rfl, ?_⟩
    refine ifn (by decide) ?_
    refine ⟨_, rfl, rfl, _, rfl, ?_⟩
    refine ift ?_
    refine ⟨_, rfl, _, rfl, _, rfl, (by show 3 ≤ sizeLine; decide), fun p0 hp0 => ⟨(by show 1 ≤ sizeLine; decide), fun t ht => ⟨(by show 3 ≤ sizeLine; decide), fun row hrow => fin_ (ps := [("a", bd, some 3)]) q b8 hP6 (pl_snoc (part := ("a", bd, some 3)) pl_nil hp0) ht hrow ?_ ?_⟩⟩⟩
    · refine ⟨by first | assumption | decide +kernel, by first | assumption | decide +kernel, by show 1 ≤ 1000; decide, ?_⟩
      intro p hp
      simp only [List.mem_cons, List.not_mem_nil, or_false] at hp
      subst hp
      exact ⟨by first | assumption | decide +kernel, by first | assumption | decide +kernel⟩
    · exact .inr (.inr (p10 hn))
  | 11, _, q =>
    refine ⟨_, rfl, rfl, _, rfl, ?_⟩
    refine ifn (by decide) ?_
    refine ⟨_, rfl, rfl, _, rfl, ?_⟩
    refine ifn (by decide) ?_
    refine ⟨_, rfl, rfl, _, rfl, ?_⟩
    refine ifn (by decide) ?_
    refine ⟨_, rfl, rfl, _, rfl, ?_⟩
    refine ifn (by decide) ?_
    refine ⟨_, rfl, rfl, _, rfl, ?_⟩
    refine ifn (by decide) ?_
    refine ⟨_, rfl, rfl, _, rfl, ?_⟩
    refine ifn (by decide) ?_
    refine ⟨_, rfl, rfl, _, rfl, ?_⟩
    refine ifn (by decide) ?_
    refine ⟨_, rfl, rfl, _, rfl, ?_⟩
    refine ifn (by decide) ?_
    refine ⟨_, rfl, rfl, _, rfl, ?_⟩
    refine ifn (by decide) ?_
    refine ⟨_, rfl, rfl, _, rfl, ?_⟩
    refine ifn (by decide) ?_
    refine ⟨_, rfl, rfl, _, rfl, ?_⟩
    refine ifn (by decide) ?_
    refine ⟨_, rfl, rfl, _, rfl, ?_⟩
    refine ifn (by decide) ?_
    refine ⟨_, rfl, _, rfl, _, _, rfl, rfl, q24_ok, (by show 3 ≤ sizeLine; decide), fun p0 hp0 => ⟨(by show 1 ≤ sizeLine; decide), fun t ht => ⟨(by show 3 ≤ sizeLine; decide), fun row hrow => fin_ (ps := [("a", Txt.mul "q" 24, some 3)]) q b8 hP6 (pl_snoc (part := ("a", Txt.mul "q" 24, some 3)) pl_nil hp0) ht hrow ?_ ?_⟩⟩⟩
    · refine ⟨by first | assumption | decide +kernel, by first | assumption | decide +kernel, by show 1 ≤ 1000; decide, ?_⟩
      intro p hp
      simp only [List.mem_cons, List.not_mem_nil, or_false] at hp
      subst hp
      exact ⟨by first | assumption | decide +kernel, by first | assumption | decide +kernel⟩
    · exact ⟨⟨rfl, rfl⟩, (by show partsB [("a", Txt.mul "q" 24, some 3)] = true; decide +kernel), ("a", Txt.mul "q" 24, some 3), List.mem_singleton.mpr rfl, by unfold badP; rw [decide_eq_false (by decide +kernel), decide_eq_false qn]; rfl⟩
  | n + 12, h, _ => exact absurd h (by omega)
end
end Bg
set_option Elab.async false
set_option linter.all false
set_option maxRecDepth 100000
set_option maxHeartbeats 2000000
namespace Bg
open PySem PySem.Spec PyProof.Rows L2
/-! ### kinds without a finite tree -/
theorem nodeGo_none {ks : List Str} {L : Str → Ent} {p : Part} (hb : ¬ p.2.1 = ("byte" : Str)) (hn : p.2.1 ∉ ks) : ∀ (ps : List Part) (row : List Int) (ts : List PyData), p ∈ ps → nodeGo ks L ps row ts = none
  | [], _, _, h => by cases h
  | a :: ps, row, ts, h => by
    show (if a.2.1 = ("byte" : Str) then nodeGo ks L ps (row ++ [0]) (ts ++ [.int 0]) else if a.2.1 ∈ ks then nodeGo ks L ps (row ++ (L a.2.1).1) (ts ++ [(L a.2.1).2]) else none) = none
    rcases List.mem_cons.mp h with e | h
    · subst e
      rw [if_neg hb, if_neg hn]
    · split
      · exact nodeGo_none hb hn ps _ _ h
      · split
        · exact nodeGo_none hb hn ps _ _ h
        · rfl
theorem stepL_not {rs : List Row} {s : LS} {r : Row} {k : Str} (hk : k ∉ s.1) (h : r.1 = k → ∃ p ∈ r.2.2, p.2.1 = k ∧ ¬ k = ("byte" : Str)) : k ∉ (stepL rs s r).1 := by
  by_cases e : r.1 = k
  · obtain ⟨p, hp, ep, nb⟩ := h e
    have z : nodeOf s.1 s.2 (tagOf rs r) r.2.1 r.2.2 = none := by
      unfold nodeOf
      rw [nodeGo_none (p := p) (by rw [ep]; exact nb) (by rw [ep]; exact hk) _ _ _ hp] <;> rfl
    unfold stepL
    rw [z]; exact hk
  · unfold stepL
    split
    · exact hk
    · split
      · intro z
        rcases mem_addNew.mp z with z | z
        · exact hk z
        · exact e z.symm
      · exact hk
theorem foldL_not {rs : List Row} {k : Str} : ∀ (l : List Row) (s : LS), k ∉ s.1 → (∀ r ∈ l, r.1 = k → ∃ p ∈ r.2.2, p.2.1 = k ∧ ¬ k = ("byte" : Str)) → k ∉ (l.foldl (stepL rs) s).1
  | [], _, hk, _ => hk
  | r :: l, s, hk, h => foldL_not l _ (stepL_not hk (h r (List.mem_cons_self ..))) fun x hx => h x (List.mem_cons_of_mem _ hx)
theorem least_not {rs : List Row} {k : Str} (h : ∀ r ∈ rs, r.1 = k → ∃ p ∈ r.2.2, p.2.1 = k ∧ ¬ k = ("byte" : Str)) : k ∉ (leastOf rs).1 := by
  have key : ∀ n, k ∉ (leastN rs n).1 := by
    intro n
    induction n with
    | zero => exact List.not_mem_nil
    | succ n ih => exact foldL_not rs _ ih h
  exact key _
theorem leastN_has' {rs : List Row} {S : Str → Prop} {rank : Str → Nat} (b : ∀ k, S k → ∃ r ∈ rs, r.1 = k ∧ ∀ p ∈ r.2.2, p.2.1 = ("byte" : Str) ∨ (S p.2.1 ∧ rank p.2.1 < rank k)) : ∀ n k, S k → rank k < n → k ∈ (leastN rs n).1
  | 0, k, _, h => absurd h (Nat.not_lt_zero _)
  | n + 1, k, hk, h => by
    obtain ⟨r, hr, e, hp⟩ := b k hk
    subst e
    exact foldL_has rs rs _ r hr fun p hpp => (hp p hpp).imp id fun z => leastN_has' b n _ z.1 (by omega)
abbrev Zs : Str := Txt.mul "z" 20
abbrev Ys : Str := Txt.mul "y" 20
abbrev Xs : Str := Txt.mul "x" 20
abbrev Ws : Str := Txt.mul "w" 20
def zrow : Row := (Zs, Ys, [("a", "byte", none), ("b", Zs, some 1)])
def endl (rs : List Row) (p : Nat) : List Row := rs.take p ++ zrow :: rs.drop p
theorem endl_mem {rs : List Row} {p : Nat} {x : Row} : x ∈ endl rs p ↔ x = zrow ∨ x ∈ rs := by
  unfold endl
  rw [List.mem_append, List.mem_cons]
  constructor
  · rintro (h | h | h)
    · exact .inr (List.mem_of_mem_take h)
    · exact .inl h
    · exact .inr (List.mem_of_mem_drop h)
  · rintro (h | h)
    · exact .inr (.inl h)
    · rw [← List.take_append_drop p rs, List.mem_append] at h
      exact h.imp id .inr
theorem endl_map {β : Type} (f : Row → β) (rs : List Row) (p : Nat) : (endl rs p).map f = (rs.map f).take p ++ f zrow :: (rs.map f).drop p := by
  unfold endl
  rw [List.map_append, List.map_cons, List.map_take, List.map_drop]
theorem endl_len {rs : List Row} {p : Nat} : (endl rs p).length = rs.length + 1 := by
  unfold endl
  rw [List.length_append, List.length_cons, List.length_take, List.length_drop]; omega
theorem endl_at {rs : List Row} {p : Nat} (h : p ≤ rs.length) : (endl rs p)[p]? = some zrow := by
  unfold endl
  have l : (rs.take p).length = p := by rw [List.length_take]; omega
  rw [List.getElem?_append_right (by omega), l, Nat.sub_self]; rfl
theorem endl_lt {rs : List Row} {p j : Nat} (h : p ≤ rs.length) (hj : j < p) : (endl rs p)[j]? = rs[j]? := by
  unfold endl
  rw [List.getElem?_append_left (by rw [List.length_take]; omega), List.getElem?_take_of_lt hj]
theorem gn_ne {x y : Str} {n : Nat} (h : GN x n) (l : n < y.cps.toList.length) : x ≠ y := fun z => by
  have := h.len
  rw [z] at this; omega
theorem mem_ne {l : List Str} {y : Str} {n : Nat} (h : ∀ x ∈ l, GN x n) (hl : n < y.cps.toList.length) : y ∉ l := fun z => gn_ne (h y z) hl rfl
theorem nodup_mid {l : List Str} {a : Str} (p : Nat) (nd : l.Nodup) (ha : a ∉ l) : (l.take p ++ a :: l.drop p).Nodup := by
  refine (List.perm_middle.nodup_iff).mpr ?_
  rw [List.take_append_drop]
  exact List.nodup_cons.mpr ⟨ha, nd⟩
section
variable {ns : List Str} {rs : List Row} {p : Nat}
theorem Draw.gk (d : Draw ns rs) : ∀ k ∈ rkinds rs, GN k 8 := fun k hk => by
  obtain ⟨r, hr, e⟩ := List.mem_map.mp hk
  rw [← e]; exact (d.names _ (d.each r hr).1).1
theorem Draw.gm (d : Draw ns rs) : ∀ k ∈ rmakers rs, GN k 13 := fun k hk => by
  obtain ⟨r, hr, e⟩ := List.mem_map.mp hk
  rw [← e]; exact (d.each r hr).2.1
theorem z20 : 8 < Zs.cps.toList.length := by decide +kernel
theorem y20 : 13 < Ys.cps.toList.length := by decide +kernel
theorem z_not (d : Draw ns rs) : Zs ∉ rkinds rs := mem_ne d.gk z20
theorem endl_kinds (d : Draw ns rs) : ∀ k ∈ rkinds (endl rs p), k ∈ Zs :: ns := fun k hk => by
  obtain ⟨r, hr, e⟩ := List.mem_map.mp hk
  rcases endl_mem.mp hr with z | z
  · rw [← e, z]; exact List.mem_cons_self ..
  · rw [← e]; exact List.mem_cons_of_mem _ (d.each r z).1
theorem endl_sub (d : Draw ns rs) : ∀ k ∈ rkinds rs, k ∈ rkinds (endl rs p) := fun k hk => by
  obtain ⟨r, hr, e⟩ := List.mem_map.mp hk
  exact List.mem_map.mpr ⟨r, endl_mem.mpr (.inr hr), e⟩
theorem endl_z : Zs ∈ rkinds (endl rs p) := List.mem_map.mpr ⟨zrow, endl_mem.mpr (.inl rfl), rfl⟩
theorem endl_each (d : Draw ns rs) : EachOk (endl rs p) := by
  refine ⟨fun r hr => ?_, ?_, by rw [endl_len]; have := d.nine; omega, ?_⟩
  · rcases endl_mem.mp hr with z | z
    · rw [z]; exact (by decide +kernel : kindB zrow.1 = true ∧ nameB zrow.2.1 = true ∧ partsB zrow.2.2 = true)
    · exact d.valid.each.good r z
  · unfold rmakers
    rw [endl_map]
    exact nodup_mid p d.makers (mem_ne d.gm y20)
  · refine Nat.le_trans (nodup_sub_len _ (Zs :: ns) (nodup_distinct _) fun k hk => endl_kinds d k (mem_distinct.mp hk)) ?_
    have := d.n3
    rw [List.length_cons]; omega
theorem endl_inner (d : Draw ns rs) : InnerOk (endl rs p) := fun r hr x hx => by
  rcases endl_mem.mp hr with z | z
  · rw [z] at hx
    rcases List.mem_cons.mp hx with e | hx
    · rw [e]; exact .inl rfl
    · rw [List.mem_singleton.mp hx]; exact .inr endl_z
  · exact (d.valid.inner r z x hx).imp id (endl_sub d _)
theorem endl_short (d : Draw ns rs) : RowsShort (endl rs p) := by
  refine ⟨by rw [endl_len]; have := d.nine; omega, fun r hr => ?_⟩
  rcases endl_mem.mp hr with z | z
  · rw [z]
    refine ⟨by decide +kernel, by decide +kernel, by decide +kernel, fun x hx => ?_⟩
    rcases List.mem_cons.mp hx with e | hx
    · rw [e]; exact ⟨by decide +kernel, by decide +kernel⟩
    · rw [List.mem_singleton.mp hx]; exact ⟨by decide +kernel, by decide +kernel⟩
  · exact d.valid.short.2 r z
theorem dist_le (d : Draw ns rs) {big : List Row} (h : ∀ k ∈ rkinds rs, k ∈ rkinds big) : (distinct (rkinds rs)).length ≤ (distinct (rkinds big)).length :=
  nodup_sub_len _ _ (nodup_distinct _) fun k hk => mem_distinct.mpr (h k (mem_distinct.mp hk))
theorem endl_due (d : Draw ns rs) (hp : p ≤ rs.length) : Due (endl rs p) p := by
  obtain ⟨rank, f⟩ := d.valid.fin
  refine .fin (endl_each d) (endl_inner d) (by rw [endl_len]; omega) (fun r hr => ?_) fun j hj r hr => ?_
  · rw [endl_at hp] at hr
    cases hr
    refine least_not fun x hx e => ?_
    rcases endl_mem.mp hx with z | z
    · rw [z]; exact ⟨("b", Zs, some 1), by unfold zrow; simp, rfl, (by decide +kernel : ¬ Zs = ("byte" : Str))⟩
    · exact absurd (List.mem_map.mpr ⟨x, z, e⟩) (z_not d)
  · rw [endl_lt hp hj] at hr
    have hk : r.1 ∈ rkinds rs := List.mem_map.mpr ⟨r, List.mem_of_getElem? hr, rfl⟩
    refine leastN_has' (S := fun k => k ∈ rkinds rs) (rank := rank) (fun k hk => ?_) _ _ hk (Nat.lt_of_lt_of_le (f.lt _ hk) (dist_le d (endl_sub d)))
    obtain ⟨x, hx, e, h⟩ := f.base k hk
    exact ⟨x, endl_mem.mpr (.inr hx), e, h⟩
theorem snoc_each {rs : List Row} {r : Row} (ok : EachOk rs) (few : rs.length < 12) (g : kindB r.1 = true ∧ nameB r.2.1 = true ∧ partsB r.2.2 = true) (new : r.2.1 ∉ rmakers rs) (old : r.1 ∈ rkinds rs) : EachOk (rs ++ [r]) := by
  refine ⟨fun x hx => ?_, ?_, by rw [List.length_append]; simp; omega, ?_⟩
  · rcases List.mem_append.mp hx with z | z
    · exact ok.good x z
    · rw [List.mem_singleton.mp z]; exact g
  · unfold rmakers
    rw [List.map_append]
    refine (List.perm_append_comm.nodup_iff).mpr ?_
    exact List.nodup_cons.mpr ⟨new, ok.nd⟩
  · refine Nat.le_trans (nodup_sub_len _ (distinct (rkinds rs)) (nodup_distinct _) fun k hk => ?_) ok.kinds
    have hk := mem_distinct.mp hk
    unfold rkinds at hk
    rw [List.map_append, List.mem_append] at hk
    rcases hk with z | z
    · exact mem_distinct.mpr z
    · rw [List.mem_singleton.mp z]; exact mem_distinct.mpr old
theorem endl_new (d : Draw ns rs) {m : Str} (h1 : 13 < m.cps.toList.length) (h2 : ¬ m = Ys) : m ∉ rmakers (endl rs p) := fun z => by
  obtain ⟨r, hr, e⟩ := List.mem_map.mp z
  rcases endl_mem.mp hr with y | y
  · rw [y] at e; exact h2 e.symm
  · exact mem_ne d.gm h1 (List.mem_map.mpr ⟨r, y, e⟩)
def xrow : Row := (Zs, Xs, [])
theorem endl_valid (d : Draw ns rs) : ValidT (endl rs p ++ [xrow]) := by
  have sub : ∀ k ∈ rkinds (endl rs p), k ∈ rkinds (endl rs p ++ [xrow]) := fun k hk => by
    unfold rkinds; rw [List.map_append, List.mem_append]; exact .inl hk
  obtain ⟨rank, f⟩ := d.valid.fin
  have sh := endl_short (p := p) d
  refine ⟨⟨by rw [List.length_append, endl_len]; have := d.nine; simp; omega, fun r hr => ?_⟩, by simp, snoc_each (endl_each d) (by rw [endl_len]; have := d.nine; omega) (by decide +kernel) (endl_new d (by decide +kernel) (by decide +kernel)) endl_z, fun r hr x hx => ?_, fun k => if k = Zs then 0 else rank k, fun k hk => ?_, fun k hk => ?_⟩
  · rcases List.mem_append.mp hr with z | z
    · exact sh.2 r z
    · rw [List.mem_singleton.mp z]
      exact ⟨by decide +kernel, by decide +kernel, by decide +kernel, fun x hx => by cases hx⟩
  · rcases List.mem_append.mp hr with z | z
    · exact (endl_inner d r z x hx).imp id (sub _)
    · rw [List.mem_singleton.mp z] at hx; cases hx
  · have pos : 0 < (distinct (rkinds (endl rs p ++ [xrow]))).length := List.length_pos_of_mem (mem_distinct.mpr hk)
    show (if k = Zs then 0 else rank k) < _
    split
    · exact pos
    · rename_i nz
      have kr : k ∈ rkinds rs := by
        obtain ⟨r, hr, e⟩ := List.mem_map.mp hk
        rcases List.mem_append.mp hr with z | z
        · rcases endl_mem.mp z with y | y
          · rw [y] at e; exact absurd e.symm nz
          · exact List.mem_map.mpr ⟨r, y, e⟩
        · rw [List.mem_singleton.mp z] at e; exact absurd e.symm nz
      exact Nat.lt_of_lt_of_le (f.lt k kr) (dist_le d fun x hx => sub _ (endl_sub d x hx))
  · by_cases kz : k = Zs
    · exact ⟨xrow, List.mem_append.mpr (.inr (List.mem_singleton.mpr rfl)), kz.symm, fun x hx => by cases hx⟩
    · have kr : k ∈ rkinds rs := by
        obtain ⟨r, hr, e⟩ := List.mem_map.mp hk
        rcases List.mem_append.mp hr with z | z
        · rcases endl_mem.mp z with y | y
          · rw [y] at e; exact absurd e.symm kz
          · exact List.mem_map.mpr ⟨r, y, e⟩
        · rw [List.mem_singleton.mp z] at e; exact absurd e.symm kz
      obtain ⟨x, hx, e, h⟩ := f.base k kr
      refine ⟨x, List.mem_append.mpr (.inl (endl_mem.mpr (.inr hx))), e, fun y hy => (h y hy).imp id fun z => ⟨sub _ (endl_sub d _ z.1), ?_⟩⟩
      show (if y.2.1 = Zs then 0 else rank y.2.1) < (if k = Zs then 0 else rank k)
      have n : ¬ y.2.1 = Zs := fun w => z_not d (by rw [← w]; exact z.1)
      rw [if_neg n, if_neg kz]; exact z.2
def wrow (k : Str) : Row := (k, Ws, [("a", Txt.mul "q" 24, some 2)])
theorem endl_due2 (d : Draw ns rs) {k : Str} (hk : k ∈ rkinds rs) : RowsShort (endl rs p ++ [wrow k]) ∧ Due (endl rs p ++ [wrow k]) (endl rs p).length := by
  have sh := endl_short (p := p) d
  have gk := d.gk k hk
  have kb : kindB k = true := by
    obtain ⟨r, hr, e⟩ := List.mem_map.mp hk
    rw [← e]; exact (d.valid.each.good r hr).1
  have ok : EachOk (endl rs p ++ [wrow k]) := snoc_each (endl_each d) (by rw [endl_len]; have := d.nine; omega) ⟨kb, by show nameB Ws = true; decide +kernel, by show partsB [("a", Txt.mul "q" 24, some 2)] = true; decide +kernel⟩ (endl_new d (by show 13 < Ws.cps.toList.length; decide +kernel) (by show ¬ Ws = Ys; decide +kernel)) (endl_sub d k hk)
  have ks : ∀ x ∈ rkinds (endl rs p ++ [wrow k]), x = Zs ∨ x ∈ rkinds rs := fun x hx => by
    obtain ⟨r, hr, e⟩ := List.mem_map.mp hx
    rcases List.mem_append.mp hr with z | z
    · rcases endl_mem.mp z with y | y
      · rw [y] at e; exact .inl e.symm
      · exact .inr (List.mem_map.mpr ⟨r, y, e⟩)
    · rw [List.mem_singleton.mp z] at e; rw [← e]; exact .inr hk
  have sub : ∀ x ∈ rkinds (endl rs p), x ∈ rkinds (endl rs p ++ [wrow k]) := fun x hx => by
    unfold rkinds; rw [List.map_append, List.mem_append]; exact .inl hx
  refine ⟨⟨by rw [List.length_append, endl_len]; have := d.nine; simp; omega, fun r hr => ?_⟩, .inner ok (by rw [List.length_append]; simp) ?_ fun j hj => ?_⟩
  · rcases List.mem_append.mp hr with z | z
    · exact sh.2 r z
    · rw [List.mem_singleton.mp z]
      refine ⟨gk.short (by decide), by show Ws.length ≤ 100000; decide +kernel, by show 1 ≤ 1000; decide, fun x hx => ?_⟩
      rw [List.mem_singleton.mp hx]; exact ⟨by decide +kernel, by decide +kernel⟩
  · rw [bad2_at (r := wrow k) (by rw [List.getElem?_append_right (Nat.le_refl _), Nat.sub_self]; rfl), List.any_eq_true]
    refine ⟨("a", Txt.mul "q" 24, some 2), List.mem_singleton.mpr rfl, ?_⟩
    have n : Txt.mul "q" 24 ∉ rkinds (endl rs p ++ [wrow k]) := fun z => by
      rcases ks _ z with e | e
      · exact absurd e (by decide +kernel)
      · exact mem_ne d.gk (by decide +kernel) e
    unfold badP
    rw [decide_eq_false n, decide_eq_false (by decide +kernel)] <;> rfl
  · have hr : (endl rs p ++ [wrow k])[j]? = some (endl rs p)[j] := by rw [List.getElem?_append_left hj, List.getElem?_eq_getElem hj]
    rw [bad2_at hr, List.any_eq_false]
    intro x hx z
    unfold badP at z
    rcases endl_inner d _ (List.getElem_mem hj) x hx with y | y
    · rw [decide_eq_true y] at z; simp at z
    · rw [decide_eq_true (sub _ y)] at z; simp at z
end
end Bg
set_option Elab.async false
set_option linter.all false
set_option maxRecDepth 100000
set_option maxHeartbeats 2000000
namespace Bg
open PySem PySem.Spec PyProof.Rows L2
/-! ### the tables that are written out -/
def letsM : List Str := ["a", "b", "c", "d", "e", "f", "g", "h", "i", "j", "k", "l", "m"]
def letsE : List Str := ["a", "b", "c", "d", "e"]
def letsB : List Str := ["a", "b"]
def mrow (c : Str) : Row := ("k", "m" ++ c, [])
def erow (c : Str) : Row := ("k" ++ c, "m" ++ c, [])
def lrow (c : Str) : Row := ("k" ++ c, "m" ++ c, [("a", "k" ++ c, some 1)])
def many : List Row := letsM.map mrow
def wide : List Row := letsE.map erow
def loops : List Row := letsB.map lrow
def full : List Part := [(Txt.mul "c" 24, "byte", none), ("d", Txt.mul "a" 24, some 1000), ("e", Txt.mul "a" 24, some 1), ("f9Z", "byte", none)]
def t5 : List Row := many.take 3 ++ ([("k", "1a", [])] : List Row) ++ many.drop 4
def t6 : List Row := ([erow "a", ("kb", "1a", [])] : List Row) ++ wide.drop 2
def t7 : List Row := ([("c", "mc", [])] : List Row) ++ loops.reverse
def t9 : List Row := [(Txt.mul "a" 24, Txt.mul "b" 24, full), (Txt.mul "a" 24, "Z", [])]
instance (p : Part) : Decidable (PartShort p) := by unfold PartShort; infer_instance
instance (ps : List Part) : Decidable (PartsShort ps) := by unfold PartsShort; infer_instance
instance (r : Row) : Decidable (RowShort r) := by unfold RowShort; infer_instance
instance (rs : List Row) : Decidable (RowsShort rs) := by unfold RowsShort; infer_instance
instance (rs : List Row) : Decidable (InnerOk rs) := by unfold InnerOk; infer_instance
theorem many_short : RowsShort many := by decide +kernel
theorem many_due : Due many 12 := .each (by decide +kernel) (by decide +kernel) (by decide +kernel)
theorem empty_short : RowsShort [] := by decide +kernel
theorem t5_short : RowsShort t5 := by decide +kernel
theorem t5_due : Due t5 3 := .each (by decide +kernel) (by decide +kernel) (by decide +kernel)
theorem t6_short : RowsShort t6 := by decide +kernel
theorem t6_due : Due t6 1 := .each (by decide +kernel) (by decide +kernel) (by decide +kernel)
theorem wide_short : RowsShort wide := by decide +kernel
theorem wide_due : Due wide 4 := .each (by decide +kernel) (by decide +kernel) (by decide +kernel)
theorem loops_short : RowsShort loops := by decide +kernel
theorem loops_each : EachOk loops := ⟨by decide +kernel, by decide +kernel, by decide +kernel, by decide +kernel⟩
theorem loops_due : Due loops 0 := by
  refine .fin loops_each (by decide +kernel) (by decide +kernel) (fun r hr => ?_) fun j hj => absurd hj (Nat.not_lt_zero _)
  cases hr
  refine least_not fun x hx e => ?_
  obtain ⟨c, hc, rfl⟩ := List.mem_map.mp hx
  exact ⟨("a", "k" ++ c, some 1), List.mem_singleton.mpr rfl, e, by decide +kernel⟩
theorem t7_short : RowsShort t7 := by decide +kernel
theorem t7_due : Due t7 1 := by
  refine .fin ⟨by decide +kernel, by decide +kernel, by decide +kernel, by decide +kernel⟩ (by decide +kernel) (by decide +kernel) (fun r hr => ?_) fun j hj r hr => ?_
  · cases hr
    have h : ∀ x ∈ t7, x.1 = (lrow "b").1 → ∃ p ∈ x.2.2, p.2.1 = (lrow "b").1 ∧ ¬ (lrow "b").1 = ("byte" : Str) := by decide +kernel
    exact least_not h
  · have j0 : j = 0 := by omega
    subst j0
    cases hr
    exact leastN_has' (rs := t7) (S := fun k => k = "c") (rank := fun _ => 0) (fun k hk => ⟨("c", "mc", []), by decide +kernel, hk.symm, fun p hp => by cases hp⟩) _ _ rfl (by decide +kernel)
/-- rows without tree parts, one pass in order -/
theorem flat_valid {rs : List Row} (sh : RowsShort rs) (ne : rs ≠ []) (ok : EachOk rs) (h : ∀ r ∈ rs, ∃ x ∈ rs, x.1 = r.1 ∧ x.2.2 = []) (inn : InnerOk rs) : ValidT rs := by
  refine ⟨sh, ne, ok, inn, fun _ => 0, fun k hk => List.length_pos_of_mem (mem_distinct.mpr hk), fun k hk => ?_⟩
  obtain ⟨r, hr, e⟩ := List.mem_map.mp hk
  obtain ⟨x, hx, e1, e2⟩ := h r hr
  exact ⟨x, hx, e1.trans e, fun p hp => by rw [e2] at hp; cases hp⟩
theorem many12_valid : ValidT (many.take 12) := flat_valid (by decide +kernel) (by decide +kernel) ⟨by decide +kernel, by decide +kernel, by decide +kernel, by decide +kernel⟩ (by decide +kernel) (by decide +kernel)
theorem wide4_valid : ValidT (wide.take 4) := flat_valid (by decide +kernel) (by decide +kernel) ⟨by decide +kernel, by decide +kernel, by decide +kernel, by decide +kernel⟩ (by decide +kernel) (by decide +kernel)
theorem t9_valid : ValidT t9 := flat_valid (by decide +kernel) (by decide +kernel) ⟨by decide +kernel, by decide +kernel, by decide +kernel, by decide +kernel⟩ (by decide +kernel) (by decide +kernel)
end Bg
set_option Elab.async false
set_option linter.all false
set_option maxRecDepth 100000
set_option maxHeartbeats 8000000
namespace Bg
open PySem PySem.Spec PyProof.Rows L2
theorem all2_set {α β : Type} {R : α → β → Prop} {vs : List α} {xs : List β} (h : All2 R vs xs) {v : α} {x : β} (r : R v x) (n : Nat) : All2 R (vs.set n v) (xs.set n x) := by
  refine ⟨by rw [List.length_set, List.length_set]; exact h.1, fun i a b ha hb => ?_⟩
  by_cases e : n = i
  · subst e
    have l1 : n < vs.length := by have := (List.getElem?_eq_some_iff.mp ha).1; rwa [List.length_set] at this
    have l2 : n < xs.length := by have := (List.getElem?_eq_some_iff.mp hb).1; rwa [List.length_set] at this
    rw [List.getElem?_set_self l1] at ha
    rw [List.getElem?_set_self l2] at hb
    cases ha; cases hb; exact r
  · rw [List.getElem?_set_ne e] at ha hb
    exact h.2 i a b ha hb
theorem ifne {v : V} {A B : Prop} (b : B) : if (!decide (v = v)) = true then A else B := by
  rw [decide_eq_true rfl]
  exact iteF b
theorem short_set {rs : List Row} (h : RowsShort rs) {r : Row} (hr : RowShort r) (n : Nat) : RowsShort (rs.set n r) := by
  refine ⟨by rw [List.length_set]; exact h.1, fun x hx => ?_⟩
  rcases List.mem_or_eq_of_mem_set hx with z | z
  · exact h.2 x z
  · rw [z]; exact hr
theorem ixN_nat_ {n j : Nat} (hj : j < n) : ixN n (j : Int) = some j := by
  unfold ixN
  rw [if_pos (by omega), if_pos (by omega)]; simp
/-- what the law holds on to: the rows and the pool -/
structure Hold (H : Hp) (pool lr : Addr) (us : List V) (rs : List Row) : Prop where
  pl : PoolAt H pool
  ne : lr ≠ pool
  rows : H lr = some (.lst us)
  al : All2 (RowAt H) us rs
theorem Hold.but {H H' : Hp} {pool lr : Addr} {us : List V} {rs : List Row} (h : Hold H pool lr us rs) (b : But pool H H') (p : PoolAt H' pool) : Hold H' pool lr us rs := by
  obtain ⟨ns, e, _⟩ := id h.pl
  exact ⟨p, h.ne, b _ _ h.ne h.rows, h.al.mono fun _ _ z => z.mono (still_but b e).tups⟩
theorem Hold.same {H H' : Hp} {pool lr : Addr} {us : List V} {rs : List Row} (h : Hold H pool lr us rs) (s : Same H H') : Hold H' pool lr us rs := h.but (but_of s) (h.pl.same s)
/-- a list that is being changed: its rows -/
structure Work (H : Hp) (pool B : Addr) (vs : List V) (rs : List Row) : Prop where
  ne : B ≠ pool
  at_ : H B = some (.lst vs)
  al : All2 (RowAt H) vs rs
theorem Work.but {H H' : Hp} {pool B : Addr} {vs : List V} {rs : List Row} (h : Work H pool B vs rs) (hp : PoolAt H pool) (b : But pool H H') : Work H' pool B vs rs := by
  obtain ⟨ns, e, _⟩ := id hp
  exact ⟨h.ne, b _ _ h.ne h.at_, h.al.mono fun _ _ z => z.mono (still_but b e).tups⟩
theorem Work.put {H : Hp} {pool B : Addr} {vs : List V} {rs : List Row} (h : Work H pool B vs rs) {v : V} {r : Row} (rv : RowAt H v r) (n : Nat) : Work (upd H B (.lst (vs.set n v))) pool B (vs.set n v) (rs.set n r) := by
  have t : Tups H (upd H B (.lst (vs.set n v))) := tups_upd fun u f z => by rw [h.at_] at z; cases z; exact f
  exact ⟨h.ne, upd_same, all2_set (h.al.mono fun _ _ z => z.mono t) (rv.mono t) n⟩
theorem Hold.put {H : Hp} {pool lr B : Addr} {us vs xs : List V} {rs rs' : List Row} (h : Hold H pool lr us rs) (k : Work H pool B vs rs') (n : lr ≠ B) : Hold (upd H B (.lst xs)) pool lr us rs := by
  have t : Tups H (upd H B (.lst xs)) := tups_upd fun u f z => by rw [k.at_] at z; cases z; exact f
  exact ⟨h.pl.upd k.ne.symm, h.ne, by rw [upd_ne n]; exact h.rows, h.al.mono fun _ _ z => z.mono t⟩
section
variable {P : Program} {w : World} {K : PySem.W.Frag} {mg : Str → Option Value} {base : Heap} {fd : FuncData}
theorem spoilt_row {rs : List Row} {n : Nat} {r r' : Row} : ∀ {i : Nat}, Spoilt rs n r i r' → i < 12 → ¬ i = 3 → ¬ i = 11 → RowBad r'
  | 0, h, _, _, _ => h
  | 1, h, _, _, _ => h
  | 2, h, _, _, _ => h
  | 3, _, _, e, _ => absurd rfl e
  | 4, h, _, _, _ => h
  | 5, h, _, _, _ => h
  | 6, h, _, _, _ => h
  | 7, h, _, _, _ => h
  | 8, h, _, _, _ => h
  | 9, h, _, _, _ => h
  | 10, h, _, _, _ => h
  | 11, _, _, _, e => absurd rfl e
  | _ + 12, _, h, _, _ => absurd h (by omega)
def spTables (K : PySem.W.Frag) : Sp := fun vs H Q _ => ∃ (pool lr : Addr) (us : List V) (rs : List Row) (ns : List Str), vs = [.ref pool, .ref lr] ∧ Hold H pool lr us rs ∧ Draw ns rs ∧ ∀ H', Q (.bl true) H'
def spLaw (K : PySem.W.Frag) : Sp := fun vs H Q _ => ∃ (a : Addr) (ns : List Int), vs = [.ref a] ∧ SqL K H a (ns.map V.int) ∧ ns.length ≤ 63 ∧ ∀ H', Q (.bl true) H'
def TablesOk : Prop := ∀ (P : Program) (w : World) (K : PySem.W.Frag) (mg : Str → Option Value) (base : Heap) (fd : FuncData), Tx K mg → FnP K ("_law_tables", none) "_law_tables" "_law_tables" s__law_tables fd → FnOk P w K mg base CX0 9 (He.fAd K ("_law_tables", none)) fd ["_law_pool_here", "_law_rows_here"] (spTables K)
theorem ok_law (tok : TablesOk) (T : Tx K mg) (F : FnP K ("law", none) "law" "law" s_law fd) : FnOk P w K mg base CX0 10 (He.fAd K ("law", none)) fd ["_law_script"] (spLaw K) := by
  have ok_tables : ∀ {fd : FuncData}, Tx K mg → FnP K ("_law_tables", none) "_law_tables" "_law_tables" s__law_tables fd → FnOk P w K mg base CX0 9 (He.fAd K ("_law_tables", none)) fd ["_law_pool_here", "_law_rows_here"] (spTables K) := fun T F => tok P w K mg base _ T F
  obtain ⟨f1, F1⟩ := T.F__law_pool
  obtain ⟨f2, F2⟩ := T.F__law_rows
  obtain ⟨f3, F3⟩ := T.F__law_take
  obtain ⟨f4, F4⟩ := T.F__law_spoilt
  obtain ⟨f5, F5⟩ := T.F__law_bad_row
  obtain ⟨f6, F6⟩ := T.F__law_tables
  refine F.ok sc_law (fun vs H Q E h => ?_) (fun cdv A outer s H vs Q E hr h => ?_)
  · obtain ⟨_, _, rfl, _⟩ := h; rfl
  obtain ⟨a, ns, rfl, hS, h63, q⟩ := h
  have nd := sc_law.nd
  have hr1 : Room 1 _ := hr.mono (by decide)
  have hr2 : Room 2 _ := hr.mono (by decide)
  have hr3 : Room 3 _ := hr.mono (by decide)
  have hr8 : Room 8 _ := hr.mono (by decide)
  have hr9 : Room 9 _ := hr.mono (by decide)
  refine ⟨_, PSs.nox (pss_cons (ps_set (i := 1) nd rfl (.inl rfl) (pe_call (ok_pool T F1) hr1 (by rfl) T.g_law_pool T.k_law_pool (b__law_pool F1) .nil pass0 (pa_cons (pv 0) pa_nil)))
    (pss_cons (ps_set (i := 2) nd rfl (.inl rfl) (pe_call (ok_rows T F2) hr3 (by rfl) T.g_law_rows T.k_law_rows (b__law_rows F2) .nil pass0 (pa_cons (pv 1) pa_nil)))
    (pss_cons (ps_set (i := 3) nd rfl (.inl rfl) (pe_call (ok_take T F3) hr1 (by rfl) T.g_law_take T.k_law_take (b__law_take F3) .nil pass0 (pa_cons (pv 1) (pa_cons (pe_callB call_len_seq (by rfl) T.n_len PySem.boot_len (pa_cons (pv 2) pa_nil)) pa_nil))))
    (pss_cons (ps_for PassesOwn.never rfl (pi_range1 rfl T.n_range (pa_cons pe_int pa_nil)) (pg_name (i := 4) nd rfl (.inl rfl))
      (pss_cons (ps_set (i := 5) nd rfl (.inl rfl) (pe_callTy call_list_of (by rfl) T.n_list (by decide +kernel) (pa_cons (pv 2) pa_nil)))
      (pss_cons (ps_asg (pe_call (ok_spoilt T F4) hr2 (by rfl) T.g_law_spoilt T.k_law_spoilt (b__law_spoilt F4) .nil pass0 (pa_cons (pv 1) (pa_cons (pv 2) (pa_cons (pv 3) (pa_cons (pv 4) pa_nil))))) (pg_sub (pv 5) (pv 3) set_list))
      (pss_one (ps_if (PW.pt (pw_or (pt_cmpR op_ne (pe_call (ok_bad_row T F5) hr8 (by rfl) T.g_law_bad_row T.k_law_bad_row (b__law_bad_row F5) .nil pass0 (pa_cons (pv 2) pa_nil)) (pe_un un_neg pe_int) (nomark _)) (pw_or1 (pt_cmpR op_ne (pe_call (ok_bad_row T F5) hr8 (by rfl) T.g_law_bad_row T.k_law_bad_row (b__law_bad_row F5) .nil pass0 (pa_cons (pv 5) pa_nil)) (pv 3) (nomark _))))) (pss_one (ps_ret pe_bl)) pss_nil)))))
    (pss_cons (ps_set (i := 6) nd rfl (.inl rfl) (pe_call (ok_take T F3) hr1 (by rfl) T.g_law_take T.k_law_take (b__law_take F3) .nil pass0 (pa_cons (pv 1) (pa_cons (pe_callB call_len_seq (by rfl) T.n_len PySem.boot_len (pa_cons (pv 2) pa_nil)) pa_nil))))
    (pss_cons (ps_set (i := 5) nd rfl (.inl rfl) (pe_callTy call_list_of (by rfl) T.n_list (by decide +kernel) (pa_cons (pv 2) pa_nil)))
    (pss_cons (ps_asg (pe_call (ok_spoilt T F4) hr2 (by rfl) T.g_law_spoilt T.k_law_spoilt (b__law_spoilt F4) .nil pass0 (pa_cons (pv 1) (pa_cons (pv 2) (pa_cons (pv 3) (pa_cons pe_int pa_nil))))) (pg_sub (pv 5) (pv 3) set_list))
    (pss_cons (ps_asg (pe_call (ok_spoilt T F4) hr2 (by rfl) T.g_law_spoilt T.k_law_spoilt (b__law_spoilt F4) .nil pass0 (pa_cons (pv 1) (pa_cons (pv 2) (pa_cons (pv 6) (pa_cons pe_int pa_nil))))) (pg_sub (pv 5) (pv 6) set_list))
    (pss_cons (ps_if (pt_cmpR op_ne (pe_call (ok_bad_row T F5) hr8 (by rfl) T.g_law_bad_row T.k_law_bad_row (b__law_bad_row F5) .nil pass0 (pa_cons (pv 5) pa_nil)) (pv 6) (nomark _)) (pss_one (ps_ret pe_bl)) pss_nil)
    (pss_cons (ps_for PassesOwn.never rfl (pi_list (pe_lst (pa_cons (pe_tup (pa_cons pe_int (pa_cons pe_int pa_nil))) (pa_cons (pe_tup (pa_cons pe_int (pa_cons pe_int pa_nil))) (pa_cons (pe_tup (pa_cons pe_int (pa_cons pe_int pa_nil))) (pa_cons (pe_tup (pa_cons pe_int (pa_cons pe_int pa_nil))) pa_nil)))))) (pg_name (i := 7) nd rfl (.inl rfl))
      (pss_cons (ps_set (i := 5) nd rfl (.inl rfl) (pe_callTy call_list_of (by rfl) T.n_list (by decide +kernel) (pa_cons (pv 2) pa_nil)))
      (pss_cons (ps_asg (pe_call (ok_spoilt T F4) hr2 (by rfl) T.g_law_spoilt T.k_law_spoilt (b__law_spoilt F4) .nil pass0 (pa_cons (pv 1) (pa_cons (pv 2) (pa_cons (pv 3) (pa_cons (pe_ix ix_tup (pv 7) pe_int (fun _ _ => rfl)) pa_nil))))) (pg_sub (pv 5) (pv 3) set_list))
      (pss_cons (ps_asg (pe_call (ok_spoilt T F4) hr2 (by rfl) T.g_law_spoilt T.k_law_spoilt (b__law_spoilt F4) .nil pass0 (pa_cons (pv 1) (pa_cons (pv 2) (pa_cons (pv 6) (pa_cons (pe_ix ix_tup (pv 7) pe_int (fun _ _ => rfl)) pa_nil))))) (pg_sub (pv 5) (pv 6) set_list))
      (pss_one (ps_if (pt_cmpR op_ne (pe_call (ok_bad_row T F5) hr8 (by rfl) T.g_law_bad_row T.k_law_bad_row (b__law_bad_row F5) .nil pass0 (pa_cons (pv 5) pa_nil)) (pe_ix ix_list (pe_lst (pa_cons (pv 3) (pa_cons (pv 6) pa_nil))) (pe_callTy call_int1 (by rfl) T.n_int (by decide +kernel) (pa_cons (pe_cmpR op_lt (pv 6) (pv 3) (nomark _)) pa_nil)) (fun _ _ => rfl)) (nomark _)) (pss_one (ps_ret pe_bl)) pss_nil))))))
    (pss_one (ps_ret (pe_call (ok_tables T F6) hr9 (by rfl) T.g_law_tables T.k_law_tables (b__law_tables F6) .nil pass0 (pa_cons (pv 1) (pa_cons (pv 2) pa_nil))))))))))))))), ?_⟩
  refine ⟨_, rfl, a, ns, rfl, hS, h63, fun pool H1 s1 hpool hP1 => ?_⟩
  refine ⟨_, rfl, pool, rfl, hP1, fun lr rs kns H2 b2 hP2 hlr hra draw => ?_⟩
  have val := draw.valid
  obtain ⟨us, hus, al⟩ := hra
  have nlr : lr ≠ pool := fun z => by
    obtain ⟨ns', e, _⟩ := hP1
    rw [z, e] at hlr; cases hlr
  have hd2 : Hold H2 pool lr us rs := ⟨hP2, nlr, hus, al⟩
  have pos : 0 < ((us.length : Nat) : Int) := by
    have : rs.length ≠ 0 := fun z => val.ne (List.length_eq_zero_iff.mp z)
    rw [al.1]; omega
  refine ⟨_, rfl, _, rfl, lr, us, rfl, .inl (SqL.of hus), pool, _, rfl, hP2, pos, fun z H3 z0 zm b3 hP3 => ?_⟩
  obtain ⟨n, rfl⟩ := Int.eq_ofNat_of_zero_le z0
  have hd3 := hd2.but b3 hP3
  have nl : n < rs.length := by rw [← al.1]; omega
  obtain ⟨r, hrn⟩ : ∃ r, rs[n]? = some r := ⟨_, List.getElem?_eq_getElem nl⟩
  have hr' := List.mem_of_getElem? hrn
  refine ⟨_, rfl, by decide, by decide, for_it (walk_range (lo := 0) (n := 12)) (fun i σ H' => (∃ v4 v5 v6 v7, σ = [some (.ref a), some (.ref pool), some (.ref lr), some (.int (n : Nat)), v4, v5, v6, v7]) ∧ Hold H' pool lr us rs) ⟨⟨_, _, _, _, rfl⟩, hd3⟩ (fun _ _ _ _ _ => trivial) ?_ ?_⟩
  · rintro i y σ H4' H4 hi ⟨⟨v4, v5, v6, v7, rfl⟩, hd4⟩ ⟨rfl, hy⟩
    obtain rfl : y = .int (i : Int) := by
      rw [hy]
      show V.int (0 + (i : Int)) = V.int (i : Int)
      rw [Int.zero_add]
    refine ⟨_, rfl, lr, us, rfl, .inl (SqL.of hd4.rows), fun B hB => ?_⟩
    have sB := same_new (o := .lst us) hB
    have hd5 := hd4.same sB
    have wk5 : Work (upd H4 B (.lst us)) pool B us rs := ⟨(hd4.pl.ne_new hB).symm, upd_same, hd4.al.mono fun _ _ z => z.mono (tups_of sB)⟩
    refine ⟨_, rfl, _, rfl, _, rfl, _, rfl, pool, lr, n, i, us, rs, kns, r, rfl, hd5.pl, nlr, hd5.rows, hd5.al, draw, hrn, hi, fun v r' H6 b6 hP6 rv sh sp => ?_⟩
    have hd6 := hd5.but b6 hP6
    have wk6 := wk5.but hd5.pl b6
    refine ⟨_, rfl, _, rfl, B, us, _, n, rfl, rfl, wk6.at_, ixN_nat_ (by rw [al.1]; exact nl), ?_⟩
    have wk7 := wk6.put rv n
    have hd7 : Hold (upd H6 B (.lst (us.set n v))) pool lr us rs := hd6.put wk6 (ne_of_none hd4.rows hB)
    have val1 : ValidT rs := val
    refine ⟨_, rfl, lr, rs, rfl, ⟨us, hd7.rows, hd7.al⟩, .inl ⟨val, fun H8 s8 => ⟨_, rfl, rfl, _, rfl, ?_⟩⟩⟩
    refine ifne ?_
    have wk8 := wk7.but hd7.pl (but_of s8)
    have hd8 := hd7.same s8
    have due : Due (rs.set n r') n := by
      by_cases e11 : i = 11
      · subst e11; exact due_far val.each val.inner hrn sp
      · by_cases e3 : i = 3
        · subst e3; exact due_set val.each nl sp
        · exact due_set val.each nl (.inl (spoilt_row sp hi e3 e11))
    refine ⟨_, rfl, B, rs.set n r', rfl, ⟨_, wk8.at_, wk8.al⟩, .inr ⟨n, short_set val.short sh n, due, fun H9 s9 => ⟨_, rfl, rfl, _, rfl, ?_⟩⟩⟩
    exact ifne ⟨⟨_, _, _, _, rfl⟩, hd8.same s9⟩
  rintro σ H4 ⟨⟨v4, v5, v6, v7, rfl⟩, hd4⟩
  refine ⟨_, rfl, _, rfl, lr, us, rfl, .inl (SqL.of hd4.rows), pool, _, rfl, hd4.pl, pos, fun z H5 z0 zm b5 hP5 => ?_⟩
  obtain ⟨m, rfl⟩ := Int.eq_ofNat_of_zero_le z0
  have hd5 := hd4.but b5 hP5
  have ml : m < rs.length := by rw [← al.1]; omega
  obtain ⟨r2, hrm⟩ : ∃ r2, rs[m]? = some r2 := ⟨_, List.getElem?_eq_getElem ml⟩
  refine ⟨_, rfl, lr, us, rfl, .inl (SqL.of hd5.rows), fun B hB => ?_⟩
  have sB := same_new (o := .lst us) hB
  have hd6 := hd5.same sB
  have wk6 : Work (upd H5 B (.lst us)) pool B us rs := ⟨(hd5.pl.ne_new hB).symm, upd_same, hd5.al.mono fun _ _ z => z.mono (tups_of sB)⟩
  have lB : lr ≠ B := ne_of_none hd5.rows hB
  refine ⟨_, rfl, _, rfl, _, rfl, pool, lr, n, 11, us, rs, kns, r, rfl, hd6.pl, nlr, hd6.rows, hd6.al, draw, hrn, by decide, fun v r1 H7 b7 hP7 rv sh sp => ?_⟩
  have hd7 := hd6.but b7 hP7
  have wk7 := wk6.but hd6.pl b7
  refine ⟨_, rfl, _, rfl, B, us, _, n, rfl, rfl, wk7.at_, ixN_nat_ (by rw [al.1]; exact nl), ?_⟩
  have wk8 := wk7.put rv n
  have hd8 : Hold (upd H7 B (.lst (us.set n v))) pool lr us rs := hd7.put wk7 lB
  refine ⟨_, rfl, _, rfl, _, rfl, pool, lr, m, 4, us, rs, kns, r2, rfl, hd8.pl, nlr, hd8.rows, hd8.al, draw, hrm, by decide, fun v2 r4 H9 b9 hP9 rv2 sh2 sp2 => ?_⟩
  have hd9 := hd8.but b9 hP9
  have wk9 := wk8.but hd8.pl b9
  refine ⟨_, rfl, _, rfl, B, us.set n v, _, m, rfl, rfl, wk9.at_, ixN_nat_ (by rw [List.length_set, al.1]; exact ml), ?_⟩
  have wk10 := wk9.put rv2 m
  have hd10 : Hold (upd H9 B (.lst ((us.set n v).set m v2))) pool lr us rs := hd9.put wk9 lB
  have far : FarRow rs r r1 := sp
  have due1 : Due ((rs.set n r1).set m r4) m := due_set (each_set val.each hrn far.toHeads far.p) (by rw [List.length_set]; exact ml) (.inl sp2)
  refine ⟨_, rfl, B, (rs.set n r1).set m r4, rfl, ⟨_, wk10.at_, wk10.al⟩, .inr ⟨m, short_set (short_set val.short sh n) sh2 m, due1, fun H11 s11 => ⟨_, rfl, rfl, _, rfl, ?_⟩⟩⟩
  refine ifne ?_
  have hd11 := hd10.same s11
  -- the pairs of ways
  refine ⟨(by show 2 ≤ sizeLine; decide), fun p1 h1 => ⟨(by show 2 ≤ sizeLine; decide), fun p2 h2 => ⟨(by show 2 ≤ sizeLine; decide), fun p3 h3 => ⟨(by show 2 ≤ sizeLine; decide), fun p4 h4 => ⟨(by show 4 ≤ sizeLine; decide), fun L hL => ?_⟩⟩⟩⟩⟩
  have t1 := same_new (o := .tup [.int 9, .int 2]) h1
  have t2 := same_new (o := .tup [.int 2, .int 9]) h2
  have t3 := same_new (o := .tup [.int 11, .int 11]) h3
  have t4 := same_new (o := .tup [.int 4, .int 0]) h4
  have tL := same_new (o := .lst [.ref p1, .ref p2, .ref p3, .ref p4]) hL
  have s12 := ((t1.trans t2).trans t3).trans (t4.trans tL)
  have hd12 := hd11.same s12
  have g1 := tL _ _ (t4 _ _ (t3 _ _ (t2 _ _ (show upd H11 p1 (.tup [.int 9, .int 2]) p1 = _ from upd_same))))
  have g2 := tL _ _ (t4 _ _ (t3 _ _ (show (upd (upd H11 p1 (.tup [.int 9, .int 2])) p2 (.tup [.int 2, .int 9])) p2 = _ from upd_same)))
  have g3 := tL _ _ (t4 _ _ (show (upd (upd (upd H11 p1 (.tup [.int 9, .int 2])) p2 (.tup [.int 2, .int 9])) p3 (.tup [.int 11, .int 11])) p3 = _ from upd_same))
  have g4 := tL _ _ (show (upd (upd (upd (upd H11 p1 (.tup [.int 9, .int 2])) p2 (.tup [.int 2, .int 9])) p3 (.tup [.int 11, .int 11])) p4 (.tup [.int 4, .int 0])) p4 = _ from upd_same)
  have gL : (upd (upd (upd (upd (upd H11 p1 (.tup [.int 9, .int 2])) p2 (.tup [.int 2, .int 9])) p3 (.tup [.int 11, .int 11])) p4 (.tup [.int 4, .int 0])) L (.lst [.ref p1, .ref p2, .ref p3, .ref p4])) L = some (.lst [.ref p1, .ref p2, .ref p3, .ref p4]) := upd_same
  generalize hH12 : upd (upd (upd (upd (upd H11 p1 (.tup [.int 9, .int 2])) p2 (.tup [.int 2, .int 9])) p3 (.tup [.int 11, .int 11])) p4 (.tup [.int 4, .int 0])) L (.lst [.ref p1, .ref p2, .ref p3, .ref p4]) = H12 at hd12 g1 g2 g3 g4 gL
  obtain ⟨np, ep, _⟩ := id hd12.pl
  have LP : L ≠ pool := fun z => by
    have := (hd11.same (((t1.trans t2).trans t3).trans t4)).pl.ne_new hL
    exact this z.symm
  refine ⟨L, rfl, ⟨_, SqL.of gL⟩, for_it (walk_list (K := K) (a := L) (xs := [.ref p1, .ref p2, .ref p3, .ref p4])) (fun i σ H' => (∃ v4 v5 v7, σ = [some (.ref a), some (.ref pool), some (.ref lr), some (.int (n : Nat)), v4, v5, some (.int (m : Nat)), v7]) ∧ But pool H12 H' ∧ PoolAt H' pool) ⟨⟨_, _, _, rfl⟩, But.refl _ _, hd12.pl⟩ (fun i σ H' _ z => SqL.of (z.2.1 _ _ LP gL)) ?_ ?_⟩
  · rintro i y σ H13' H13 hi ⟨⟨v4, v5, v7, rfl⟩, b13, hP13⟩ ⟨rfl, hy⟩
    have hd13 := hd12.but b13 hP13
    have key : ∃ (p : Addr) (w1 w2 : Nat), y = .ref p ∧ H13 p = some (.tup [.int (w1 : Nat), .int (w2 : Nat)]) ∧ w1 < 12 ∧ w2 < 12 ∧ ((w1 = 11 ∧ w2 = 11) ∨ (¬ w1 = 3 ∧ ¬ w1 = 11 ∧ ¬ w2 = 3 ∧ ¬ w2 = 11)) := by
      have tk : ∀ {p : Addr} {xs : List V}, H12 p = some (.tup xs) → H13 p = some (.tup xs) := fun g => b13 _ _ (ne_of g ep (by intro z; cases z)) g
      match i, hi, hy with
      | 0, _, hy => cases hy; exact ⟨p1, 9, 2, rfl, tk g1, by decide, by decide, by decide⟩
      | 1, _, hy => cases hy; exact ⟨p2, 2, 9, rfl, tk g2, by decide, by decide, by decide⟩
      | 2, _, hy => cases hy; exact ⟨p3, 11, 11, rfl, tk g3, by decide, by decide, by decide⟩
      | 3, _, hy => cases hy; exact ⟨p4, 4, 0, rfl, tk g4, by decide, by decide, by decide⟩
      | i + 4, h, _ => exact absurd h (by show ¬ i + 4 < 4; omega)
    obtain ⟨p, w1, w2, rfl, hp, lw1, lw2, cw⟩ := key
    refine ⟨_, rfl, lr, us, rfl, .inl (SqL.of hd13.rows), fun B hB => ?_⟩
    have sB := same_new (o := .lst us) hB
    have hd6 := hd13.same sB
    have wk6 : Work (upd H13 B (.lst us)) pool B us rs := ⟨(hd13.pl.ne_new hB).symm, upd_same, hd13.al.mono fun _ _ z => z.mono (tups_of sB)⟩
    have lB : lr ≠ B := ne_of_none hd13.rows hB
    have pB : p ≠ B := ne_of_none hp hB
    have pp : p ≠ pool := by
      obtain ⟨np', ep', _⟩ := id hd13.pl
      exact ne_of hp ep' (by intro z; cases z)
    have hp6 := sB _ _ hp
    refine ⟨_, rfl, _, rfl, _, rfl, _, rfl, p, _, _, _, rfl, rfl, SqT.of hp6, atI_nat (j := 0) rfl, pool, lr, n, w1, us, rs, kns, r, rfl, hd6.pl, nlr, hd6.rows, hd6.al, draw, hrn, lw1, fun v r1 H7 b7 hP7 rv sh sp => ?_⟩
    have hd7 := hd6.but b7 hP7
    have wk7 := wk6.but hd6.pl b7
    have hp7 := b7 _ _ pp hp6
    refine ⟨_, rfl, _, rfl, B, us, _, n, rfl, rfl, wk7.at_, ixN_nat_ (by rw [al.1]; exact nl), ?_⟩
    have wk8 := wk7.put rv n
    have hd8 : Hold (upd H7 B (.lst (us.set n v))) pool lr us rs := hd7.put wk7 lB
    have hp8 : (upd H7 B (.lst (us.set n v))) p = some (.tup [.int (w1 : Nat), .int (w2 : Nat)]) := by rw [upd_ne pB]; exact hp7
    refine ⟨_, rfl, _, rfl, _, rfl, _, rfl, p, _, _, _, rfl, rfl, SqT.of hp8, atI_nat (j := 1) rfl, pool, lr, m, w2, us, rs, kns, r2, rfl, hd8.pl, nlr, hd8.rows, hd8.al, draw, hrm, lw2, fun v2 r4 H9 b9 hP9 rv2 sh2 sp2 => ?_⟩
    have hd9 := hd8.but b9 hP9
    have wk9 := wk8.but hd8.pl b9
    refine ⟨_, rfl, _, rfl, B, us.set n v, _, m, rfl, rfl, wk9.at_, ixN_nat_ (by rw [List.length_set, al.1]; exact ml), ?_⟩
    have wk10 := wk9.put rv2 m
    have hd10 : Hold (upd H9 B (.lst ((us.set n v).set m v2))) pool lr us rs := hd9.put wk9 lB
    have due2 : Due ((rs.set n r1).set m r4) (if m < n then m else n) := by
      rcases cw with ⟨e1, e2⟩ | ⟨e1, e2, e3, e4⟩
      · subst e1 e2
        exact due_far2 val.each val.inner hrn hrm sp sp2
      · exact due_set2 val.each nl ml (spoilt_row sp lw1 e1 e2) (spoilt_row sp2 lw2 e3 e4)
    refine ⟨_, rfl, B, (rs.set n r1).set m r4, rfl, ⟨_, wk10.at_, wk10.al⟩, .inr ⟨_, short_set (short_set val.short sh n) sh2 m, due2, fun H11 s11 => ?_⟩⟩
    refine ⟨_, rfl, _, rfl, (by show 2 ≤ sizeLine; decide), fun L2 hL2 => ⟨_, rfl, _, rfl, _, _, rfl, rfl, .inr ⟨_, rfl, L2, _, _, .int ((if m < n then m else n : Nat) : Int), rfl, rfl, SqL.of upd_same, ?_, rfl, _, rfl, ?_⟩⟩⟩
    · by_cases c : m < n
      · rw [if_pos c, decide_eq_true (show (m : Int) < (n : Int) by omega)]; rfl
      · rw [if_neg c, decide_eq_false (show ¬ (m : Int) < (n : Int) by omega)]; rfl
    · refine ifne ?_
      have sE := s11.trans (same_new (o := .lst [.int (n : Nat), .int (m : Nat)]) hL2)
      have bE : But pool H12 (upd H11 L2 (.lst [.int (n : Nat), .int (m : Nat)])) := fun b o nb e => by
        have e13 := b13 _ _ nb e
        have nB : b ≠ B := ne_of_none e13 hB
        refine sE b o ?_
        rw [upd_ne nB]
        refine b9 b o nb ?_
        rw [upd_ne nB]
        exact b7 _ _ nb (sB _ _ e13)
      exact ⟨⟨_, _, _, rfl⟩, bE, (hd10.same sE).pl⟩
  · rintro σ H13 ⟨⟨v4, v5, v7, rfl⟩, b13, hP13⟩
    exact ⟨_, rfl, _, rfl, pool, lr, us, rs, kns, rfl, hd12.but b13 hP13, draw, fun H' => q H'⟩
end
end Bg
set_option Elab.async false
set_option linter.all false
set_option maxRecDepth 100000
set_option maxHeartbeats 8000000
namespace Bg
open PySem PySem.Spec PyProof.Rows L2
abbrev rAS : R2 := fun x y H Q => ∃ i j, x = .str i ∧ y = .str j ∧ i.length + j.length ≤ sizeLine ∧ Q (.str (i ++ j)) H
theorem lc_chars {σ : L2.St} {H : Hp} {Q : VK} {j : Nat} {te : TE} {own : List Nat} {z : Str} (f : Str → Row) (small : z.cps.size ≤ 1000) (hw : ∀ v, wipe ((wipe σ own).set j (some v)) own = wipe σ own)
    (he : ∀ (c : Nat) H' (Q' : VK), (∀ v H'', Same H' H'' → RowAt H'' v (f ⟨#[c]⟩) → Q' v H'') → te ((wipe σ own).set j (some (.str ⟨#[c]⟩))) H' Q')
    (q : ∀ D H' us, Same H H' → H D = none → H' D = some (.lst us) → All2 (RowAt H') us (z.cps.toList.map fun c => f ⟨#[c]⟩) → Q (.ref D) H') : tLc (iStr (tC (.str z))) (gName j) tYes te own σ H Q := by
  refine ⟨z, rfl, fun D hD => lc_it (walk_str (z := z)) (fun n H2 => Same H H2 ∧ ∃ us, H2 D = some (.lst us) ∧ All2 (RowAt H2) us ((z.cps.toList.take n).map fun c => f ⟨#[c]⟩)) ⟨same_new hD, [], upd_same, All2.nil⟩ (fun _ _ _ _ => trivial) ?_ ?_⟩
  · rintro n x H2 H3 hn ⟨sm, us, hD2, al⟩ ⟨rfl, c, hc, rfl⟩
    have hc' : z.cps.toList[n]? = some c := by rw [← hc]; simp
    refine ⟨hw _, ?_⟩
    refine he c H3 _ fun v H4 s4 rv => ⟨us, s4 _ _ hD2, ?_, same_mut (sm.trans s4) hD, us ++ [v], upd_same, ?_⟩
    · rw [al.1, List.length_map, List.length_take]; exact small1000 (by omega)
    · have t : Tups H4 (upd H4 D (.lst (us ++ [v]))) := tups_upd fun u f z => by rw [s4 _ _ hD2] at z; cases z; exact f
      rw [take_succ_of hc', List.map_append]
      exact (al.mono fun _ _ w => (w.mono (tups_of s4)).mono t).snoc (rv.mono t)
  · rintro H2 ⟨sm, us, hD2, al⟩
    have e : z.cps.toList.take z.cps.size = z.cps.toList := by
      have : z.cps.size = z.cps.toList.length := by simp
      rw [this, List.take_length]
    rw [e] at al
    exact q D H2 us sm hD hD2 al
theorem many_is : ("abcdefghijklm" : Str).cps.toList.map (fun c => mrow ⟨#[c]⟩) = many := by
  have h : ("abcdefghijklm" : Str).cps.toList.map (fun c => (⟨#[c]⟩ : Str)) = letsM := by decide +kernel
  show _ = letsM.map mrow
  rw [← h, List.map_map]; rfl
theorem wide_is : ("abcde" : Str).cps.toList.map (fun c => erow ⟨#[c]⟩) = wide := by
  have h : ("abcde" : Str).cps.toList.map (fun c => (⟨#[c]⟩ : Str)) = letsE := by decide +kernel
  show _ = letsE.map erow
  rw [← h, List.map_map]; rfl
theorem loops_is : ("ab" : Str).cps.toList.map (fun c => lrow ⟨#[c]⟩) = loops := by
  have h : ("ab" : Str).cps.toList.map (fun c => (⟨#[c]⟩ : Str)) = letsB := by decide +kernel
  show _ = letsB.map lrow
  rw [← h, List.map_map]; rfl
theorem as_len (x : Str) (c : Nat) (h : x.length ≤ 5) : x.length + (⟨#[c]⟩ : Str).length ≤ sizeLine := by
  have : (⟨#[c]⟩ : Str).length = 1 := rfl
  have b := sl_big
  omega
theorem rowAt_new {H0 G : Hp} {vs : List V} {ps : List Part} {t row : Addr} {k m : Str} (pl : PL H0 G vs ps) (ht : G t = none) (hrow : (upd G t (.tup vs)) row = none) :
    RowAt (upd (upd G t (.tup vs)) row (.tup [.str k, .str m, .ref t])) (.ref row) (k, m, ps) ∧ Same H0 (upd (upd G t (.tup vs)) row (.tup [.str k, .str m, .ref t])) := by
  have s1 := pl.same.trans ((same_new (o := .tup vs) ht).trans (same_new (o := .tup [.str k, .str m, .ref t]) hrow))
  have pa : PartsAt (upd G t (.tup vs)) (.ref t) ps := ⟨t, vs, rfl, upd_same, pl.all.mono fun _ _ z => z.mono (tups_of (same_new ht))⟩
  exact ⟨⟨row, .ref t, rfl, upd_same, pa.mono (tups_of (same_new hrow))⟩, s1⟩
/-- lists of rows, one behind the other -/
theorem ra_cat {H : Hp} {l b : Addr} {r1 r2 : List Row} {Q : VK} (h1 : RowsAt H l r1) (h2 : RowsAt H b r2) (sz : r1.length + r2.length ≤ 1000) (q : ∀ p H', H p = none → Same H H' → RowsAt H' p (r1 ++ r2) → Q (.ref p) H') : rCat (.ref l) (.ref b) H Q := by
  obtain ⟨u1, e1, a1⟩ := h1
  obtain ⟨u2, e2, a2⟩ := h2
  have bg := sl_big
  refine ⟨l, b, u1, u2, rfl, rfl, e1, e2, by rw [a1.1, a2.1]; omega, fun p hp => q p _ hp (same_new hp) ⟨u1 ++ u2, upd_same, (a1.app a2).mono fun _ _ z => z.mono (tups_of (same_new hp))⟩⟩
theorem ra_take {H : Hp} {p : Addr} {us : List V} {rs : List Row} (al : All2 (RowAt H) us rs) (hp : H p = none) (n : Nat) : RowsAt (upd H p (.lst (cutV us none (some (n : Int))))) p (rs.take n) :=
  ⟨us.take n, by rw [upd_same, cutV_take], (al.take n).mono fun _ _ z => z.mono (tups_of (same_new hp))⟩
theorem ra_drop {H : Hp} {p : Addr} {us : List V} {rs : List Row} (al : All2 (RowAt H) us rs) (hp : H p = none) (n : Nat) : RowsAt (upd H p (.lst (cutV us (some (n : Int)) none))) p (rs.drop n) :=
  ⟨us.drop n, by rw [upd_same, cutV_drop], (al.drop n).mono fun _ _ z => z.mono (tups_of (same_new hp))⟩
/-- a list of one row -/
theorem ra_one {H : Hp} {p row : Addr} {r : Row} (h : RowAt H (.ref row) r) (hp : H p = none) : RowsAt (upd H p (.lst [.ref row])) p [r] :=
  ⟨[.ref row], upd_same, (All2.snoc All2.nil (h.mono (tups_of (same_new hp))))⟩
theorem z20_ok : MulOk "z" 20 := ⟨by decide +kernel, fun _ _ => by decide +kernel, fun _ _ => by decide +kernel⟩
theorem y20_ok : MulOk "y" 20 := ⟨by decide +kernel, fun _ _ => by decide +kernel, fun _ _ => by decide +kernel⟩
theorem x20_ok : MulOk "x" 20 := ⟨by decide +kernel, fun _ _ => by decide +kernel, fun _ _ => by decide +kernel⟩
theorem w20_ok : MulOk "w" 20 := ⟨by decide +kernel, fun _ _ => by decide +kernel, fun _ _ => by decide +kernel⟩
theorem c24_ok : MulOk "c" 24 := ⟨by decide +kernel, fun _ _ => by decide +kernel, fun _ _ => by decide +kernel⟩
theorem a24_ok : MulOk "a" 24 := ⟨by decide +kernel, fun _ _ => by decide +kernel, fun _ _ => by decide +kernel⟩
theorem b24_ok : MulOk "b" 24 := ⟨by decide +kernel, fun _ _ => by decide +kernel, fun _ _ => by decide +kernel⟩
/-- a statement, what holds behind it (chosen in the reading), the rest -/
def tMid (t u : TS) : TS := fun D σ H => ∃ M : L2.St → Hp → Prop, t { D with nx := M } σ H ∧ ∀ σ' H', M σ' H' → u D σ' H'
theorem pss_mid {X : Cx} {st : Stmt} {rest : List Stmt} {t u : TS} (h1 : PS X st t) (h2 : PSs X rest u) : PSs X (st :: rest) (tMid t u) := by
  refine ⟨fun pins s σ H D I h => ?_⟩
  obtain ⟨M, a, b⟩ := h
  refine wpAny_execs_cons (thn (h1.run pins s σ H { D with nx := M } I a) fun f s1 q => ?_)
  cases f with
  | next =>
    obtain ⟨σ1, H1, I1, q1⟩ := q
    exact h2.run pins s1 σ1 H1 D I1 (b _ _ q1)
  | ret v => exact q
  | brk => exact q
  | cont => exact q
theorem gn_ {i : Nat} {x : V} {σ : L2.St} {H : Hp} {Q : L2.St → Hp → Prop} (h : Q (σ.set i (some x)) H) : gName i x σ H Q := h
theorem nx_ {n : L2.St → Hp → Prop} {r : VK} {b c : L2.St → Hp → Prop} {σ : L2.St} {H : Hp} (h : n σ H) : ({ nx := n, rt := r, bk := b, ct := c } : Ends).nx σ H := h
theorem seq_asg {t : TE} {g : TG} {u : TS} {D : Ends} {σ : L2.St} {H : Hp} (h : t σ H fun x H1 => g x σ H1 fun σ' H' => u D σ' H') : tSeq (tAsg t g) u D σ H := h
theorem set_asg {t : TE} {g : TG} {D : Ends} {σ : L2.St} {H : Hp} (h : t σ H fun x H1 => g x σ H1 fun σ' H' => D.nx σ' H') : tAsg t g D σ H := h
theorem all2_rev {α β : Type} {R : α → β → Prop} {vs : List α} {xs : List β} (h : All2 R vs xs) : All2 R vs.reverse xs.reverse := by
  refine ⟨by rw [List.length_reverse, List.length_reverse]; exact h.1, fun i a b ha hb => ?_⟩
  have l1 : i < vs.length := by have := (List.getElem?_eq_some_iff.mp ha).1; rwa [List.length_reverse] at this
  have l2 : i < xs.length := by have := (List.getElem?_eq_some_iff.mp hb).1; rwa [List.length_reverse] at this
  rw [List.getElem?_reverse l1] at ha
  rw [List.getElem?_reverse l2] at hb
  rw [← h.1] at hb
  exact h.2 _ a b ha hb
section
variable {P : Program} {w : World} {K : PySem.W.Frag} {mg : Str → Option Value} {base : Heap} {fd : FuncData}
theorem ok_tables (T : Tx K mg) (F : FnP K ("_law_tables", none) "_law_tables" "_law_tables" s__law_tables fd) : FnOk P w K mg base CX0 9 (He.fAd K ("_law_tables", none)) fd ["_law_pool_here", "_law_rows_here"] (spTables K) := by
  obtain ⟨f1, F1⟩ := T.F__law_take
  obtain ⟨f2, F2⟩ := T.F__law_bad_row
  refine F.ok sc__law_tables (fun vs H Q E h => ?_) (fun cdv A outer s H vs Q E hr h => ?_)
  · obtain ⟨pool, lr, us, rs, ns, rfl, _⟩ := h; rfl
  have nd := sc__law_tables.nd
  have hr1 : Room 1 _ := hr.mono (by decide)
  refine ⟨_, PSs.nox (pss_cons (ps_set (i := 2) nd rfl (.inl rfl) (pe_call (ok_take T F1) hr1 (by rfl) T.g_law_take T.k_law_take (b__law_take F1) .nil pass0 (pa_cons (pv 0) (pa_cons (pe_op op_add (pe_callB call_len_seq (by rfl) T.n_len PySem.boot_len (pa_cons (pv 1) pa_nil)) pe_int) pa_nil))))
    (pss_cons (ps_set (i := 3) nd rfl (.inl rfl) (pe_op op_mulS pe_str pe_int))
    (pss_cons (ps_set (i := 4) nd rfl (.inl rfl) (pe_op op_cat (pe_op op_cat (pe_slice sl_list (pv 1) po_none (po_some (pv 2))) (pe_lst (pa_cons (pe_tup (pa_cons (pv 3) (pa_cons (pe_op op_mulS pe_str pe_int) (pa_cons (pe_tup (pa_cons (pe_tup (pa_cons pe_str (pa_cons pe_str pa_nil))) (pa_cons (pe_tup (pa_cons pe_str (pa_cons (pv 3) (pa_cons pe_int pa_nil)))) pa_nil))) pa_nil)))) pa_nil))) (pe_slice sl_list (pv 1) (po_some (pv 2)) po_none)))
    (pss_cons (ps_if (PW.pt (pw_or (pt_cmpR op_ne (pe_call (ok_bad_row T F2) hr (by rfl) T.g_law_bad_row T.k_law_bad_row (b__law_bad_row F2) .nil pass0 (pa_cons (pv 4) pa_nil)) (pv 2) (nomark _)) (pw_or1 (pt_cmpR op_ne (pe_call (ok_bad_row T F2) hr (by rfl) T.g_law_bad_row T.k_law_bad_row (b__law_bad_row F2) .nil pass0 (pa_cons (pe_op op_cat (pv 4) (pe_lst (pa_cons (pe_tup (pa_cons (pv 3) (pa_cons (pe_op op_mulS pe_str pe_int) (pa_cons (pe_tup pa_nil) pa_nil)))) pa_nil))) pa_nil)) (pe_un un_neg pe_int) (nomark _))))) (pss_one (ps_ret pe_bl)) pss_nil)
    (pss_mid (ps_if (pt_cmpR op_ne (pe_call (ok_bad_row T F2) hr (by rfl) T.g_law_bad_row T.k_law_bad_row (b__law_bad_row F2) .nil pass0 (pa_cons (pe_op op_cat (pv 4) (pe_lst (pa_cons (pe_tup (pa_cons (pe_ix ix_tup (pe_ix ix_list (pv 1) pe_int (fun _ _ => rfl)) pe_int (fun _ _ => rfl)) (pa_cons (pe_op op_mulS pe_str pe_int) (pa_cons (pe_tup (pa_cons (pe_tup (pa_cons pe_str (pa_cons (pe_op op_mulS pe_str pe_int) (pa_cons pe_int pa_nil)))) pa_nil)) pa_nil)))) pa_nil))) pa_nil)) (pe_callB call_len_seq (by rfl) T.n_len PySem.boot_len (pa_cons (pv 4) pa_nil)) (nomark _)) (pss_one (ps_ret pe_bl)) pss_nil)
    (pss_mid (ps_setLc (i := 5) (own := [("_law_letter", 9)]) (g := gName 9) (tt := tYes) (te := tTup (tCons (tC (.str "k")) (tCons (tOp rAS (tC (.str "m")) (tVar 9)) (tCons (tTup tNil) tNil)))) (by rfl) nd rfl rfl (sw_true rfl rfl rfl (by decide +kernel)) (pi_str pe_str) (blkOk_by (N := ["_law_pool_here", "_law_rows_here", "_law_place", "_law_kind", "_law_endless", "_law_many", "_law_wide", "_law_loops", "_law_full", "_law_letter"]) (sc := defScope s__law_tables) (by decide +kernel)) (fun _ _ _ _ _ => pg_name (i := 9) nd rfl (Or.inl rfl)) (fun _ _ _ _ _ => pts_nil) (fun _ _ _ _ _ => (pe_tup (pa_cons pe_str (pa_cons (pe_op (r := rAS) op_add_str pe_str (pv 9)) (pa_cons (pe_tup pa_nil) pa_nil))))))
    (pss_cons (ps_if (PW.pt (pw_or (pt_cmpR op_ne (pe_call (ok_bad_row T F2) hr (by rfl) T.g_law_bad_row T.k_law_bad_row (b__law_bad_row F2) .nil pass0 (pa_cons (pe_slice sl_list (pv 5) po_none (po_some pe_int)) pa_nil)) (pe_un un_neg pe_int) (nomark _)) (pw_or (pt_cmpR op_ne (pe_call (ok_bad_row T F2) hr (by rfl) T.g_law_bad_row T.k_law_bad_row (b__law_bad_row F2) .nil pass0 (pa_cons (pv 5) pa_nil)) pe_int (nomark _)) (pw_or1 (pt_cmpR op_ne (pe_call (ok_bad_row T F2) hr (by rfl) T.g_law_bad_row T.k_law_bad_row (b__law_bad_row F2) .nil pass0 (pa_cons (pe_lst pa_nil) pa_nil)) pe_int (nomark _)))))) (pss_one (ps_ret pe_bl)) pss_nil)
    (pss_mid (ps_if (pt_cmpR op_ne (pe_call (ok_bad_row T F2) hr (by rfl) T.g_law_bad_row T.k_law_bad_row (b__law_bad_row F2) .nil pass0 (pa_cons (pe_op op_cat (pe_op op_cat (pe_slice sl_list (pv 5) po_none (po_some pe_int)) (pe_lst (pa_cons (pe_tup (pa_cons pe_str (pa_cons pe_str (pa_cons (pe_tup pa_nil) pa_nil)))) pa_nil))) (pe_slice sl_list (pv 5) (po_some pe_int) po_none)) pa_nil)) pe_int (nomark _)) (pss_one (ps_ret pe_bl)) pss_nil)
    (pss_mid (ps_setLc (i := 6) (own := [("_law_letter", 9)]) (g := gName 9) (tt := tYes) (te := tTup (tCons (tOp rAS (tC (.str "k")) (tVar 9)) (tCons (tOp rAS (tC (.str "m")) (tVar 9)) (tCons (tTup tNil) tNil)))) (by rfl) nd rfl rfl (sw_true rfl rfl rfl (by decide +kernel)) (pi_str pe_str) (blkOk_by (N := ["_law_pool_here", "_law_rows_here", "_law_place", "_law_kind", "_law_endless", "_law_many", "_law_wide", "_law_loops", "_law_full", "_law_letter"]) (sc := defScope s__law_tables) (by decide +kernel)) (fun _ _ _ _ _ => pg_name (i := 9) nd rfl (Or.inl rfl)) (fun _ _ _ _ _ => pts_nil) (fun _ _ _ _ _ => (pe_tup (pa_cons (pe_op (r := rAS) op_add_str pe_str (pv 9)) (pa_cons (pe_op (r := rAS) op_add_str pe_str (pv 9)) (pa_cons (pe_tup pa_nil) pa_nil))))))
    (pss_mid (ps_if (pt_cmpR op_ne (pe_call (ok_bad_row T F2) hr (by rfl) T.g_law_bad_row T.k_law_bad_row (b__law_bad_row F2) .nil pass0 (pa_cons (pe_op op_cat (pe_lst (pa_cons (pe_ix ix_list (pv 6) pe_int (fun _ _ => rfl)) (pa_cons (pe_tup (pa_cons pe_str (pa_cons pe_str (pa_cons (pe_tup pa_nil) pa_nil)))) pa_nil))) (pe_slice sl_list (pv 6) (po_some pe_int) po_none)) pa_nil)) pe_int (nomark _)) (pss_one (ps_ret pe_bl)) pss_nil)
    (pss_mid (ps_setLc (i := 7) (own := [("_law_letter", 9)]) (g := gName 9) (tt := tYes) (te := tTup (tCons (tOp rAS (tC (.str "k")) (tVar 9)) (tCons (tOp rAS (tC (.str "m")) (tVar 9)) (tCons (tTup (tCons (tTup (tCons (tC (.str "a")) (tCons (tOp rAS (tC (.str "k")) (tVar 9)) (tCons (tC (.int 1)) tNil)))) tNil)) tNil)))) (by rfl) nd rfl rfl (sw_true rfl rfl rfl (by decide +kernel)) (pi_str pe_str) (blkOk_by (N := ["_law_pool_here", "_law_rows_here", "_law_place", "_law_kind", "_law_endless", "_law_many", "_law_wide", "_law_loops", "_law_full", "_law_letter"]) (sc := defScope s__law_tables) (by decide +kernel)) (fun _ _ _ _ _ => pg_name (i := 9) nd rfl (Or.inl rfl)) (fun _ _ _ _ _ => pts_nil) (fun _ _ _ _ _ => (pe_tup (pa_cons (pe_op (r := rAS) op_add_str pe_str (pv 9)) (pa_cons (pe_op (r := rAS) op_add_str pe_str (pv 9)) (pa_cons (pe_tup (pa_cons (pe_tup (pa_cons pe_str (pa_cons (pe_op (r := rAS) op_add_str pe_str (pv 9)) (pa_cons pe_int pa_nil)))) pa_nil)) pa_nil))))))
    (pss_cons (ps_if (PW.pt (pw_or (pt_cmpR op_ne (pe_call (ok_bad_row T F2) hr (by rfl) T.g_law_bad_row T.k_law_bad_row (b__law_bad_row F2) .nil pass0 (pa_cons (pv 7) pa_nil)) pe_int (nomark _)) (pw_or1 (pt_cmpR op_ne (pe_call (ok_bad_row T F2) hr (by rfl) T.g_law_bad_row T.k_law_bad_row (b__law_bad_row F2) .nil pass0 (pa_cons (pe_op op_cat (pe_lst (pa_cons (pe_tup (pa_cons pe_str (pa_cons pe_str (pa_cons (pe_tup pa_nil) pa_nil)))) pa_nil)) (pe_revL (pv 7))) pa_nil)) pe_int (nomark _))))) (pss_one (ps_ret pe_bl)) pss_nil)
    (pss_cons (ps_if (PW.pt (pw_or (pt_cmpR op_ne (pe_call (ok_bad_row T F2) hr (by rfl) T.g_law_bad_row T.k_law_bad_row (b__law_bad_row F2) .nil pass0 (pa_cons (pe_slice sl_list (pv 6) po_none (po_some pe_int)) pa_nil)) (pe_un un_neg pe_int) (nomark _)) (pw_or1 (pt_cmpR op_ne (pe_call (ok_bad_row T F2) hr (by rfl) T.g_law_bad_row T.k_law_bad_row (b__law_bad_row F2) .nil pass0 (pa_cons (pv 6) pa_nil)) pe_int (nomark _))))) (pss_one (ps_ret pe_bl)) pss_nil)
    (pss_cons (ps_set (i := 8) nd rfl (.inl rfl) (pe_tup (pa_cons (pe_tup (pa_cons (pe_op op_mulS pe_str pe_int) (pa_cons pe_str pa_nil))) (pa_cons (pe_tup (pa_cons pe_str (pa_cons (pe_op op_mulS pe_str pe_int) (pa_cons pe_int pa_nil)))) (pa_cons (pe_tup (pa_cons pe_str (pa_cons (pe_op op_mulS pe_str pe_int) (pa_cons pe_int pa_nil)))) (pa_cons (pe_tup (pa_cons pe_str (pa_cons pe_str pa_nil))) pa_nil))))))
    (pss_one (ps_ret (pe_cmpR op_eq (pe_call (ok_bad_row T F2) hr (by rfl) T.g_law_bad_row T.k_law_bad_row (b__law_bad_row F2) .nil pass0 (pa_cons (pe_lst (pa_cons (pe_tup (pa_cons (pe_op op_mulS pe_str pe_int) (pa_cons (pe_op op_mulS pe_str pe_int) (pa_cons (pv 8) pa_nil)))) (pa_cons (pe_tup (pa_cons (pe_op op_mulS pe_str pe_int) (pa_cons pe_str (pa_cons (pe_tup pa_nil) pa_nil)))) pa_nil))) pa_nil)) (pe_un un_neg pe_int) (nomark _)))))))))))))))))), ?_⟩
  obtain ⟨pool, lr, us, rs, ns, rfl, hd, draw, q⟩ := h
  have al0 := hd.al.1
  have d9 := draw.nine
  refine ⟨_, rfl, _, rfl, lr, us, rfl, .inl (SqL.of hd.rows), _, _, rfl, rfl, pool, _, rfl, hd.pl, (by omega), fun z H1 z0 zm b1 hP1 => ?_⟩
  obtain ⟨p, rfl⟩ := Int.eq_ofNat_of_zero_le z0
  have hp : p ≤ rs.length := by rw [← al0]; omega
  have hd1 := hd.but b1 hP1
  refine ⟨_, _, rfl, rfl, z20_ok, ?_⟩
  -- the endless kind
  refine ⟨_, rfl, _, rfl, _, rfl, lr, us, rfl, SqL.of hd1.rows, fun l1 h1 => ?_⟩
  have ra1 := ra_take hd1.al h1 p
  have t1 := same_new (o := .lst (cutV us none (some (p : Int)))) h1
  refine ⟨_, rfl, _, _, rfl, rfl, y20_ok, (by show 2 ≤ sizeLine; decide), fun p0 h0 => ⟨_, rfl, (by show 3 ≤ sizeLine; decide), fun p1 h2 => ⟨(by show 2 ≤ sizeLine; decide), fun t ht => ⟨(by show 3 ≤ sizeLine; decide), fun row hrow => ⟨(by show 1 ≤ sizeLine; decide), fun l2 hl2 => ?_⟩⟩⟩⟩⟩
  have pl := pl_snoc (part := ("b", Zs, some 1)) (pl_snoc (part := ("a", "byte", none)) pl_nil h0) h2
  obtain ⟨rrow, t2⟩ := rowAt_new (k := Zs) (m := Ys) (ps := [("a", "byte", none), ("b", Zs, some 1)]) pl ht hrow
  have t3 := same_new (o := .lst [.ref row]) hl2
  refine ra_cat ((ra1.mono t2).mono t3) (ra_one rrow hl2) (by rw [List.length_take]; simp; omega) fun l3 H3 hl3 t4 ra3 => ?_
  have hd3 := hd1.same (((t1.trans t2).trans t3).trans t4)
  refine ⟨_, rfl, _, rfl, _, rfl, lr, us, rfl, SqL.of hd3.rows, fun l4 hl4 => ?_⟩
  have t5 := same_new (o := .lst (cutV us (some (p : Int)) none)) hl4
  refine ra_cat (ra3.mono t5) (ra_drop hd3.al hl4 p) (by rw [List.length_append, List.length_take, List.length_drop]; simp; omega) fun l5 H5 hl5 t6 ra5 => ?_
  have ee : (rs.take p ++ ([(Zs, Ys, [("a", "byte", none), ("b", Zs, some 1)])] : List Row)) ++ rs.drop p = endl rs p := by unfold endl zrow; simp
  rw [ee] at ra5
  have hd5 := hd3.same (t5.trans t6)
  have le5 : (endl rs p).length ≤ 10 := by rw [endl_len]; omega
  refine ⟨_, rfl, l5, endl rs p, rfl, ra5, .inr ⟨p, endl_short draw, endl_due draw hp, fun H6 t7 => ⟨_, rfl, rfl, _, rfl, ?_⟩⟩⟩
  refine ifne ?_
  refine ⟨_, rfl, _, rfl, _, _, rfl, rfl, x20_ok, Nat.zero_le _, fun t ht => ⟨(by show 3 ≤ sizeLine; decide), fun row hrow => ⟨(by show 1 ≤ sizeLine; decide), fun l hl => ?_⟩⟩⟩
  obtain ⟨rx, tx⟩ := rowAt_new (k := Zs) (m := Xs) (ps := []) pl_nil ht hrow
  refine ra_cat (((ra5.mono t7).mono tx).mono (same_new hl)) (ra_one rx hl) (by simp; omega) fun l6 H7 hl6 t8 ra6 => ?_
  refine ⟨l6, endl rs p ++ [xrow], rfl, ra6, .inl ⟨endl_valid draw, fun H8 t9 => ⟨_, rfl, rfl, _, rfl, ?_⟩⟩⟩
  refine ifne ?_
  have s8 := ((((t7.trans tx).trans (same_new (o := .lst [.ref row]) hl)).trans t8).trans t9)
  have hd8 := hd5.same s8
  have ra8 := ra5.mono s8
  -- a kind that is nowhere
  refine ⟨fun σ' H' => σ' = [some (.ref pool), some (.ref lr), some (.int (p : Nat)), some (.str Zs), some (.ref l5), none, none, none, none, none] ∧ Same H8 H', ?_, ?_⟩
  · obtain ⟨us5, e5, al5⟩ := id ra8
    obtain ⟨v0, r0, hv0, hr0⟩ : ∃ v0 r0, us[0]? = some v0 ∧ rs[0]? = some r0 := by
      have l0 : 0 < rs.length := List.length_pos_iff.mpr draw.valid.ne
      exact ⟨_, _, List.getElem?_eq_getElem (by omega), List.getElem?_eq_getElem l0⟩
    obtain ⟨b0, u0, rfl, hb0, _⟩ := hd8.al.2 0 _ _ hv0 hr0
    have k0 : r0.1 ∈ rkinds rs := List.mem_map.mpr ⟨r0, List.mem_of_getElem? hr0, rfl⟩
    obtain ⟨shw, duew⟩ := endl_due2 (p := p) draw k0
    refine ⟨_, rfl, _, rfl, lr, us, _, _, rfl, rfl, SqL.of hd8.rows, atI_nat (j := 0) hv0, b0, _, _, _, rfl, rfl, SqT.of hb0, atI_nat (j := 0) rfl, _, _, rfl, rfl, w20_ok, _, _, rfl, rfl, q24_ok, (by show 3 ≤ sizeLine; decide), fun p0 h0 => ⟨(by show 1 ≤ sizeLine; decide), fun t ht => ⟨(by show 3 ≤ sizeLine; decide), fun row hrow => ⟨(by show 1 ≤ sizeLine; decide), fun l hl => ?_⟩⟩⟩⟩
    have pl := pl_snoc (part := ("a", Txt.mul "q" 24, some 2)) pl_nil h0
    obtain ⟨rx, tx⟩ := rowAt_new (k := r0.1) (m := Ws) (ps := [("a", Txt.mul "q" 24, some 2)]) pl ht hrow
    refine ra_cat ((ra8.mono tx).mono (same_new hl)) (ra_one rx hl) (by simp; omega) fun l6 H9 hl6 t9 ra9 => ?_
    refine ⟨l6, endl rs p ++ [wrow r0.1], rfl, ra9, .inr ⟨_, shw, duew, fun H10 t10 => ?_⟩⟩
    have sA := ((tx.trans (same_new (o := .lst [.ref row]) hl)).trans t9).trans t10
    refine ⟨_, rfl, l5, us5, rfl, .inl (SqL.of (sA _ _ e5)), rfl, _, rfl, ?_⟩
    rw [← al5.1]
    exact ifne ⟨rfl, sA⟩
  rintro _ H9 ⟨rfl, t9⟩
  have bg := sl_big
  have l1 : ("m" : Str).length ≤ 5 := by decide +kernel
  have l2 : ("k" : Str).length ≤ 5 := by decide +kernel
  -- thirteen makers
  refine ⟨fun σ' H' => ∃ l, σ' = [some (.ref pool), some (.ref lr), some (.int (p : Nat)), some (.str Zs), some (.ref l5), some (.ref l), none, none, none, none] ∧ Same H9 H' ∧ RowsAt H' l many, ?_, ?_⟩
  · refine set_asg ?_
    refine lc_chars mrow (by decide +kernel) (fun v => rfl) (fun c H' Q' k => ?_) fun D H' us' s hD hD2 al' => ?_
    · refine ⟨_, rfl, _, _, rfl, rfl, as_len _ c l1, Nat.zero_le _, fun t ht => ⟨(by show 3 ≤ sizeLine; decide), fun row hrow => ?_⟩⟩
      obtain ⟨rx, tx⟩ := rowAt_new (k := "k") (m := "m" ++ (⟨#[c]⟩ : Str)) (ps := []) pl_nil ht hrow
      exact k _ _ tx rx
    · rw [many_is] at al'
      exact ⟨D, rfl, s, us', hD2, al'⟩
  rintro _ H10 ⟨lm, rfl, t10, ram⟩
  obtain ⟨um, em, am⟩ := id ram
  refine ⟨_, rfl, _, rfl, lm, um, rfl, SqL.of em, fun l hl => ?_⟩
  refine ⟨l, many.take 12, rfl, ra_take am hl 12, .inl ⟨many12_valid, fun H11 t11 => ⟨_, rfl, rfl, _, rfl, ?_⟩⟩⟩
  refine ifne ?_
  have s11 := (same_new (o := .lst (cutV um none (some (12 : Int)))) hl).trans t11
  refine ⟨_, rfl, lm, many, rfl, ram.mono s11, .inr ⟨12, many_short, many_due, fun H12 t12 => ⟨rfl, _, rfl, ?_⟩⟩⟩
  refine ifne ?_
  refine ⟨Nat.zero_le _, fun l0 hl0 => ?_⟩
  refine ⟨l0, [], rfl, ⟨[], upd_same, All2.nil⟩, .inr ⟨0, empty_short, .empty, fun H13 t13 => ⟨rfl, _, rfl, ?_⟩⟩⟩
  refine ifne ?_
  have s13 := ((s11.trans t12).trans (same_new (o := .lst []) hl0)).trans t13
  have ram13 := ram.mono s13
  refine ⟨fun σ' H' => σ' = [some (.ref pool), some (.ref lr), some (.int (p : Nat)), some (.str Zs), some (.ref l5), some (.ref lm), none, none, none, none] ∧ Same H13 H', ?_, ?_⟩
  · obtain ⟨um, em, am⟩ := id ram13
    refine ⟨_, rfl, _, rfl, lm, um, rfl, SqL.of em, fun k1 hk1 => ?_⟩
    have ra1 := ra_take am hk1 3
    have u1 := same_new (o := .lst (cutV um none (some (3 : Int)))) hk1
    refine ⟨Nat.zero_le _, fun t ht => ⟨(by show 3 ≤ sizeLine; decide), fun row hrow => ⟨(by show 1 ≤ sizeLine; decide), fun k2 hk2 => ?_⟩⟩⟩
    obtain ⟨rx, tx⟩ := rowAt_new (k := "k") (m := "1a") (ps := []) pl_nil ht hrow
    have u2 := same_new (o := .lst [.ref row]) hk2
    refine ra_cat ((ra1.mono tx).mono u2) (ra_one rx hk2) (by decide +kernel) fun k3 H14 hk3 u3 ra3 => ?_
    have s14 := ((u1.trans tx).trans u2).trans u3
    have am14 := am.mono fun _ _ z => z.mono (tups_of s14)
    refine ⟨_, rfl, _, rfl, lm, um, rfl, SqL.of (s14 _ _ em), fun k4 hk4 => ?_⟩
    have u4 := same_new (o := .lst (cutV um (some (4 : Int)) none)) hk4
    refine ra_cat (ra3.mono u4) (ra_drop am14 hk4 4) (by decide +kernel) fun k5 H15 hk5 u5 ra5' => ?_
    refine ⟨k5, Bg.t5, rfl, ra5', .inr ⟨3, t5_short, t5_due, fun H16 u6 => ⟨rfl, _, rfl, ?_⟩⟩⟩
    exact ifne ⟨rfl, ((s14.trans u4).trans u5).trans u6⟩
  rintro _ H14 ⟨rfl, t14⟩
  -- five kinds
  refine ⟨fun σ' H' => ∃ l, σ' = [some (.ref pool), some (.ref lr), some (.int (p : Nat)), some (.str Zs), some (.ref l5), some (.ref lm), some (.ref l), none, none, none] ∧ Same H14 H' ∧ RowsAt H' l wide, ?_, ?_⟩
  · refine set_asg ?_
    refine lc_chars erow (by decide +kernel) (fun v => rfl) (fun c H' Q' k => ?_) fun D H' us' s hD hD2 al' => ?_
    · refine ⟨_, rfl, _, _, rfl, rfl, as_len _ c l2, _, rfl, _, _, rfl, rfl, as_len _ c l1, Nat.zero_le _, fun t ht => ⟨(by show 3 ≤ sizeLine; decide), fun row hrow => ?_⟩⟩
      obtain ⟨rx, tx⟩ := rowAt_new (k := "k" ++ (⟨#[c]⟩ : Str)) (m := "m" ++ (⟨#[c]⟩ : Str)) (ps := []) pl_nil ht hrow
      exact k _ _ tx rx
    · rw [wide_is] at al'
      exact ⟨D, rfl, s, us', hD2, al'⟩
  rintro _ H15 ⟨lw, rfl, t15, raw⟩
  refine ⟨fun σ' H' => σ' = [some (.ref pool), some (.ref lr), some (.int (p : Nat)), some (.str Zs), some (.ref l5), some (.ref lm), some (.ref lw), none, none, none] ∧ Same H15 H', ?_, ?_⟩
  · obtain ⟨uw, ew, aw⟩ := id raw
    obtain ⟨v0, hv0, r0⟩ := aw.get' (i := 0) (x := erow "a") rfl
    refine ⟨_, rfl, lw, uw, _, v0, rfl, rfl, SqL.of ew, atI_nat (j := 0) hv0, Nat.zero_le _, fun t ht => ⟨(by show 3 ≤ sizeLine; decide), fun row hrow => ⟨(by show 2 ≤ sizeLine; decide), fun k1 hk1 => ?_⟩⟩⟩
    obtain ⟨rx, tx⟩ := rowAt_new (k := "kb") (m := "1a") (ps := []) pl_nil ht hrow
    have u1 := same_new (o := .lst [v0, .ref row]) hk1
    have ra1 : RowsAt _ k1 [erow "a", ("kb", "1a", [])] := ⟨[v0, .ref row], upd_same, ((All2.snoc All2.nil (r0.mono (tups_of tx))).snoc rx).mono fun _ _ z => z.mono (tups_of u1)⟩
    have s16 := tx.trans u1
    have aw16 := aw.mono fun _ _ z => z.mono (tups_of s16)
    refine ⟨_, rfl, _, rfl, lw, uw, rfl, SqL.of (s16 _ _ ew), fun k4 hk4 => ?_⟩
    have u4 := same_new (o := .lst (cutV uw (some (2 : Int)) none)) hk4
    refine ra_cat (ra1.mono u4) (ra_drop aw16 hk4 2) (by decide +kernel) fun k5 H17 hk5 u5 ra5' => ?_
    refine ⟨k5, Bg.t6, rfl, ra5', .inr ⟨1, t6_short, t6_due, fun H18 u6 => ⟨rfl, _, rfl, ?_⟩⟩⟩
    exact ifne ⟨rfl, ((s16.trans u4).trans u5).trans u6⟩
  rintro _ H16 ⟨rfl, t16⟩
  -- loops
  refine ⟨fun σ' H' => ∃ l, σ' = [some (.ref pool), some (.ref lr), some (.int (p : Nat)), some (.str Zs), some (.ref l5), some (.ref lm), some (.ref lw), some (.ref l), none, none] ∧ Same H16 H' ∧ RowsAt H' l loops, ?_, ?_⟩
  · refine set_asg ?_
    refine lc_chars lrow (by decide +kernel) (fun v => rfl) (fun c H' Q' k => ?_) fun D H' us' s hD hD2 al' => ?_
    · refine ⟨_, rfl, _, _, rfl, rfl, as_len _ c l2, _, rfl, _, _, rfl, rfl, as_len _ c l1, _, rfl, _, _, rfl, rfl, as_len _ c l2, (by show 3 ≤ sizeLine; decide), fun p0 h0 => ⟨(by show 1 ≤ sizeLine; decide), fun t ht => ⟨(by show 3 ≤ sizeLine; decide), fun row hrow => ?_⟩⟩⟩
      obtain ⟨rx, tx⟩ := rowAt_new (k := "k" ++ (⟨#[c]⟩ : Str)) (m := "m" ++ (⟨#[c]⟩ : Str)) (ps := [("a", "k" ++ (⟨#[c]⟩ : Str), some 1)]) (pl_snoc (part := ("a", "k" ++ (⟨#[c]⟩ : Str), some 1)) pl_nil h0) ht hrow
      exact k _ _ tx rx
    · rw [loops_is] at al'
      exact ⟨D, rfl, s, us', hD2, al'⟩
  rintro _ H17 ⟨ll, rfl, t17, ral⟩
  refine ⟨_, rfl, ll, loops, rfl, ral, .inr ⟨0, loops_short, loops_due, fun H18 t18 => ⟨rfl, _, rfl, ?_⟩⟩⟩
  refine ifne ?_
  obtain ⟨ul, el, al18⟩ := ral.mono t18
  refine ⟨Nat.zero_le _, fun t ht => ⟨(by show 3 ≤ sizeLine; decide), fun row hrow => ⟨(by show 1 ≤ sizeLine; decide), fun k1 hk1 => ?_⟩⟩⟩
  obtain ⟨rx, tx⟩ := rowAt_new (k := "c") (m := "mc") (ps := []) pl_nil ht hrow
  have u1 := same_new (o := .lst [.ref row]) hk1
  have s18 := tx.trans u1
  refine ⟨_, rfl, ll, ul, rfl, SqL.of (s18 _ _ el), fun k2 hk2 => ?_⟩
  have u2 := same_new (o := .lst ul.reverse) hk2
  have rr : RowsAt (upd _ k2 (.lst ul.reverse)) k2 loops.reverse := ⟨ul.reverse, upd_same, all2_rev (al18.mono fun _ _ z => z.mono (tups_of (s18.trans u2)))⟩
  refine ra_cat ((ra_one rx hk1).mono u2) rr (by decide +kernel) fun k5 H19 hk5 u5 ra5' => ?_
  refine ⟨k5, Bg.t7, rfl, ra5', .inr ⟨1, t7_short, t7_due, fun H20 u6 => ⟨rfl, _, rfl, ?_⟩⟩⟩
  refine ifne ?_
  have s20 := ((s18.trans u2).trans u5).trans u6
  have raw20 := raw.mono (((t16.trans t17).trans t18).trans s20)
  obtain ⟨uw, ew, aw⟩ := id raw20
  refine ⟨_, rfl, _, rfl, lw, uw, rfl, SqL.of ew, fun l hl => ?_⟩
  refine ⟨l, wide.take 4, rfl, ra_take aw hl 4, .inl ⟨wide4_valid, fun H21 t21 => ⟨_, rfl, rfl, _, rfl, ?_⟩⟩⟩
  refine ifne ?_
  have s21 := (same_new (o := .lst (cutV uw none (some (4 : Int)))) hl).trans t21
  refine ⟨_, rfl, lw, wide, rfl, raw20.mono s21, .inr ⟨4, wide_short, wide_due, fun H22 t22 => ⟨rfl, _, rfl, ?_⟩⟩⟩
  refine ifne ?_
  -- the longest names
  refine ⟨_, _, rfl, rfl, c24_ok, (by show 2 ≤ sizeLine; decide), fun p0 h0 => ⟨_, _, rfl, rfl, a24_ok, (by show 3 ≤ sizeLine; decide), fun p1 h1 => ⟨_, _, rfl, rfl, a24_ok, (by show 3 ≤ sizeLine; decide), fun p2 h2 => ⟨(by show 2 ≤ sizeLine; decide), fun p3 h3 => ⟨(by show 4 ≤ sizeLine; decide), fun tf htf => ?_⟩⟩⟩⟩⟩
  have pl := pl_snoc (part := ("f9Z", "byte", none)) (pl_snoc (part := ("e", Txt.mul "a" 24, some 1)) (pl_snoc (part := ("d", Txt.mul "a" 24, some 1000)) (pl_snoc (part := (Txt.mul "c" 24, "byte", none)) pl_nil h0) h1) h2) h3
  have paf : PartsAt (upd _ tf (.tup [.ref p0, .ref p1, .ref p2, .ref p3])) (.ref tf) full := ⟨tf, [.ref p0, .ref p1, .ref p2, .ref p3], rfl, upd_same, pl.all.mono fun _ _ z => z.mono (tups_of (same_new htf))⟩
  refine ⟨_, _, rfl, rfl, a24_ok, _, _, rfl, rfl, b24_ok, _, rfl, (by show 3 ≤ sizeLine; decide), fun ra hra => ⟨_, _, rfl, rfl, a24_ok, Nat.zero_le _, fun t ht => ⟨(by show 3 ≤ sizeLine; decide), fun rb hrb => ⟨(by show 2 ≤ sizeLine; decide), fun L hL => ?_⟩⟩⟩⟩
  have uA := same_new (o := .tup [.str (Txt.mul "a" 24), .str (Txt.mul "b" 24), .ref tf]) hra
  have rA : RowAt _ (.ref ra) (Txt.mul "a" 24, Txt.mul "b" 24, full) := ⟨ra, .ref tf, rfl, upd_same, paf.mono (tups_of uA)⟩
  obtain ⟨rB, uB⟩ := rowAt_new (k := Txt.mul "a" 24) (m := "Z") (ps := []) pl_nil ht hrb
  have uL := same_new (o := .lst [.ref ra, .ref rb]) hL
  refine ⟨L, Bg.t9, rfl, ⟨[.ref ra, .ref rb], upd_same, ((All2.snoc All2.nil (rA.mono (tups_of uB))).snoc rB).mono fun _ _ z => z.mono (tups_of uL)⟩, .inl ⟨t9_valid, fun H23 t23 => ⟨_, rfl, rfl, ?_⟩⟩⟩
  show Q (.bl (decide (V.int (-1) = V.int (-1)))) H23
  rw [decide_eq_true rfl]
  exact q H23
end
theorem tables_ok : TablesOk := fun _ _ _ _ _ _ T F => ok_tables T F
end Bg
set_option Elab.async false
set_option linter.all false
set_option maxRecDepth 100000
set_option maxHeartbeats 0
namespace Bg
open PySem PySem.Spec PyProof.Rows L2
abbrev R : PySem.W.OpenRow := PySem.W.OpenLaw.row PySem.Challenge.rw_bytegrove_k03_invalid_kinds_tables
abbrev hk : PySem.W.Hook := hookE 5 fa fn exs
def ob (s : PySem.W.SharedT) : He.AlD × Bool := obsE 5 fa fn exs (HandSHeadRun.getT s)
theorem ob_eq (s : PySem.W.SharedT) : ob s = hk.obs s.abs := obsE_eq (HandSHeadRun.getT_eq s)
def loose : List PySem.Str := (["_wall", "GroveError", "BadKinds", "BadFunctions", "BadTree", "BadLayout", "BadRow", "NotThere", "Stuck", "WrongLayout", "NoLayout", "BYTE", "MOST_LETTERS", "MOST_PARTS", "MOST_PRICE", "MOST_ROWS", "MOST_KINDS", "MOST_LEVELS", "is_name", "is_kind_name"] : List PySem.Str) ++ (["is_number", "is_part", "are_parts", "check_each_row", "check_inner_kinds", "check_finite", "makers_by_kind", "holdings", "least_node", "least_trees", "Kinds", "_law_take", "_law_pool", "_law_name", "_law_parts", "_law_rows", "_law_int", "_law_bad_row", "_law_spoilt", "_law_tables"] : List PySem.Str)
theorem run (w : World) : HandSHeadRun.RunEq R (PySem.W.view R.prog [43]) hk ob 4000 loose w := by
  intro os
  kernel_rfl
end Bg
set_option Elab.async false
set_option linter.all false
set_option maxRecDepth 100000
set_option maxHeartbeats 0
namespace Bg
open PySem PySem.Spec PyProof.Rows L2
end Bg
open PySem PySem.W PySem.Calls PyProof.Rows
theorem PySem.Challenge.cw_bytegrove_k03_invalid_kinds_tables_holds : PySem.Challenge.rw_bytegrove_k03_invalid_kinds_tables.Holds := by
  w_on; o_law
  refine HandSHeadRun.head_any (r := Bg.R) (q := view (Bg.R).prog [43]) (H := Bg.hk) (ob := Bg.ob) (M := 4000) (loose := Bg.loose) (d := HandSHeadRun.topDef (Bg.R).prog 43) (kwd := []) Bg.ob_eq
    (by kernel_rfl) (fun s => by kernel_rfl) Bg.run (by kernel_rfl) (by kernel_rfl) (by kernel_rfl) (by rfl) (by first | assumption | decide +kernel) (by decide +kernel) ⟨rfl, rfl, rfl, rfl, rfl, by decide +kernel⟩ ?hw ?hc
  case hw => w_witness2
  case hc =>
    refine L2.walk_ofE (l := PySem.Challenge.rw_bytegrove_k03_invalid_kinds_tables) (n := 63) (k := 10) (x := "_law_script") (CX := L2.CX0) rfl (by decide) (by kernel_rfl) ⟨rfl, by decide, by decide⟩ ?F (fun _ _ _ _ z => z)
    intro w mg fa h Y G hmg0
    obtain ⟨K, KX, c, ex⟩ := Y
    have T : Bg.Tx K mg := ⟨c, ex, h, KX, G⟩
    have hmg : mg ("law" : PySem.Str) = some (.ref fa) := by
      have e : (HandSHeadRun.topDef (Bg.R).prog 43).name = ("law" : PySem.Str) := by kernel_rfl
      rw [← e]
      exact hmg0
    have e := hmg.symm.trans T.g_law
    cases e
    obtain ⟨fd, F⟩ := T.F_law
    refine ⟨K, fd, Bg.spLaw K, KX, fun s v => L2.FunD.bindsA (ps := ["_law_script"]) F (fun _ _ _ _ _ _ us hl => match us, hl with | [_], _ => rfl) s [v] rfl, fun H a ns hl _ hS => ⟨a, ns, rfl, hS, hl, fun _ => rfl⟩, fun base _ _ => ?_⟩
    exact Bg.ok_law Bg.tables_ok T F
