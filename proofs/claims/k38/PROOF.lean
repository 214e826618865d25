import PyProof.Rows.All
import Wide.All
import OpenK.AllK
import Wide.FinOn
import HandS.ForMost
import HandS.Walk
import HandS.Property
import HandS.Defaults
import HandS.Dict
import HandS.MakeKw
import HandS.Head0
import HandS.Head1
import HandS.Head2
import HandS.HeadEnd
import HandS.HeadHook1
import HandS.HeadHook2
import KE.KExcSuper
import HandS.Exc
import HandS.ExcField
import HandS.TryOnly
import HandS.TryMany
import HandS.WordsExc
import HandS.ExcSuper
import HandS.ClsMeth
import HandS.Base
import HandS.Call
import KE.GoesMore
import KE.GoesEnum
import HandS.IsInst
import HandS.Wide
import HandS.SortRule
import HandS.SortInts
import HandS.MakeKwOnly
import HandS.Star
import HandS.Sort
import HandS.Conv
import HandS.Gcd
import KE.KMathGC
import HandS.SetBool
import HandS.Strs
import HandS.More
import HandS.Iter
import PyProof.IsiBase
import KE.KTypeName
import HandS.TupAny
import HandS.Zip
import PyProof.Rows.SetFrom
import HandS.OwnEq
import HandS.DeepEq
import KE.GoesZip
import PyProof.TupleOfSeq
import HandS.SetFor
import HandS.DictComp
import KE.KOpsOwn
import HandS.CallSlots
import HandS.DictEq
import KE.GoesRaise
import PySem.Challenge.RW_jawturns_k38_whole_jaws_close
set_option Elab.async false
set_option linter.all false
set_option maxRecDepth 100000
set_option maxHeartbeats 8000000
namespace J
open PySem PySem.Spec PyProof.Rows L2
/-! ### what the top leaves, told by facts and by defs at addresses of one's own choice -/
structure DefJ where
  at_ : PySem.W.Frag → Addr
  name : Str
  qual : Str
  params : Arguments
  body : List Stmt
  scope : Scope
  dfl : List He.Dv := []
  cls : List Str := []
abbrev FnJ : Type := Option (Str × Str × Arguments × FuncBody × Scope × Addr × List Str × Addr)
def fnJ (K : PySem.W.Frag) (a : Addr) : FnJ := match K.lookup a with
  | some ⟨_, _, .func fd, _⟩ => some (fd.name, fd.qualname, fd.params, fd.body, fd.scope, fd.globals, fd.closure.map (·.1), fd.builtins)
  | _ => none
def DefJ.val (d : DefJ) : FnJ := some (d.name, d.qual, d.params, .stmts d.body, d.scope, mainGlobals, d.cls, builtinsNs)
def DefJ.dvs (K : PySem.W.Frag) (d : DefJ) : List V := d.dfl.map (He.Dv.v K)
def DefJ.ok (K : PySem.W.Frag) (d : DefJ) : Bool := PySem.W.keepIn K (.ref (d.at_ K)) && (match K.lookup (d.at_ K) with
  | some ⟨_, _, .func fd, _⟩ => PySem.W.codeIn K fd.code d.qual && He.dflB K fd.defaults (d.dvs K)
  | _ => false)
theorem DefJ.funD {K : PySem.W.Frag} {d : DefJ} (e : fnJ K (d.at_ K) = d.val) (c : d.ok K = true) (hcl : d.cls = []) : ∃ fd, FunD K d.name d.qual d.params d.body d.scope (d.dvs K) [] (d.at_ K) fd := by
  obtain ⟨kp, c2⟩ := He.ba c
  unfold fnJ at e
  cases q : K.lookup (d.at_ K) with
  | none => rw [q] at c2; cases c2
  | some o =>
    obtain ⟨oc, od, dt, osl⟩ := o
    rw [q] at c2 e
    cases dt with
    | func fd =>
      obtain ⟨m1, m2, m3, m4, m5, m6, m7, m8, m9, m10, m11, m12, m13, m14, m15⟩ := fd
      have e2 : (some (m1, m2, m3, m4, m5, m6, m7.map (·.1), m15) : FnJ) = some (d.name, d.qual, d.params, .stmts d.body, d.scope, mainGlobals, d.cls, builtinsNs) := e
      simp only [Option.some.injEq, Prod.mk.injEq] at e2
      obtain ⟨h1, h2, h3, h4, h5, h6, h7, h8⟩ := e2
      rw [hcl] at h7
      have h7 := List.map_eq_nil_iff.mp h7
      subst h1 h2 h3 h4 h5 h6 h7 h8
      obtain ⟨k1, k2⟩ := He.ba (show (PySem.W.codeIn K m13 d.qual && He.dflB K m8 (d.dvs K)) = true from c2)
      exact ⟨_, ⟨oc, od, m8, m9, m10, m11, m12, m13, m14, osl, rfl, q, k1, He.dflB_ok k2, .inl rfl⟩, kp⟩
    | _ => cases c2
abbrev FaJ : Type := PySem.W.Frag → Bool
abbrev AlJ : Type := Bool × List FnJ
def obsJ (fa : List FaJ) (fn : List DefJ) (K : PySem.W.Frag) : AlJ := ((fa.all fun f => f K) && fn.all fun d => d.ok K, fn.map fun d => fnJ K (d.at_ K))
/-- by a recursion of its own: `List.map` on both sides would have the kernel compare the functions first, and so look at the whole fragment -/
def valsJ : List DefJ → List FnJ
  | [] => []
  | d :: r => d.val :: valsJ r
theorem valsJ_eq : ∀ fn : List DefJ, valsJ fn = fn.map DefJ.val
  | [] => rfl
  | d :: r => by rw [List.map_cons, ← valsJ_eq r]; rfl
def valJ (fn : List DefJ) : AlJ := (true, valsJ fn)
def SaysJ (fa : List FaJ) (fn : List DefJ) (K : PySem.W.Frag) : Prop := obsJ fa fn K = valJ fn
def obsJG (n : Nat) (fa : List FaJ) (fn : List DefJ) (g : Addr → Option Obj) : AlJ := obsJ fa fn (He.frG g (He.asD g n ++ [cStatics]))
def hookJ (n : Nat) (fa : List FaJ) (fn : List DefJ) : PySem.W.Hook where
  α := AlJ
  obs := fun s => obsJG n fa fn s.heap.get?
  val := fun _ => valJ fn
  says := fun _ h => ∃ K : PySem.W.Frag, K.In h ∧ SaysJ fa fn K
  of := fun _ _ e => ⟨_, He.frG_in, e⟩
  keeps := fun _ _ _ ⟨K, hK, c⟩ k => ⟨K, PySem.W.Frag.In.keeps hK k, c⟩
/-- the same over a list of addresses that is written out -/
def hookA (as : List Addr) (fa : List FaJ) (fn : List DefJ) : PySem.W.Hook where
  α := AlJ
  obs := fun s => obsJ fa fn (He.frG s.heap.get? as)
  val := fun _ => valJ fn
  says := fun _ h => ∃ K : PySem.W.Frag, K.In h ∧ SaysJ fa fn K
  of := fun _ _ e => ⟨_, He.frG_in, e⟩
  keeps := fun _ _ _ ⟨K, hK, c⟩ k => ⟨K, PySem.W.Frag.In.keeps hK k, c⟩
theorem obsJG_eq {n : Nat} {fa : List FaJ} {fn : List DefJ} {g : Addr → Option Obj} {s : Shared} (h : ∀ a, g a = s.heap.get? a) : obsJG n fa fn g = (hookJ n fa fn).obs s := by
  have e : g = s.heap.get? := funext h
  rw [e] <;> rfl
section
variable {fa : List FaJ} {fn : List DefJ} {K : PySem.W.Frag}
theorem SaysJ.fact (c : SaysJ fa fn K) (i : Nat) {f : FaJ} (h : fa[i]? = some f := by rfl) : f K = true := by
  have c1 := (He.ba (show ((fa.all fun f => f K) && fn.all fun d => d.ok K) = true from congrArg (fun z : AlJ => z.1) c)).1
  exact List.all_eq_true.mp c1 f (List.mem_of_getElem? h)
/-- the __init__ of an error: it closes over its class -/
theorem DefJ.funC {K : PySem.W.Frag} {d : DefJ} (e : fnJ K (d.at_ K) = d.val) (c : d.ok K = true) (hcl : d.cls = [("__class__" : Str)]) : ∃ oc od dV kV doc pm an cdv ct cc osl,
    K.lookup (d.at_ K) = some ⟨oc, od, .func { name := d.name, qualname := d.qual, params := d.params, body := .stmts d.body, scope := d.scope, globals := mainGlobals, closure := [("__class__", cc)], defaults := dV, kwdefaults := kV, doc, pyModule := pm, annotations := an, code := cdv, closureTuple := ct, builtins := builtinsNs }, osl⟩ ∧ PySem.W.codeIn K cdv d.qual = true ∧ PySem.W.keepIn K (.ref (d.at_ K)) = true ∧ DflV K dV (d.dvs K) := by
  obtain ⟨kp, c2⟩ := He.ba c
  unfold fnJ at e
  cases q : K.lookup (d.at_ K) with
  | none => rw [q] at c2; cases c2
  | some o =>
    obtain ⟨oc, od, dt, osl⟩ := o
    rw [q] at c2 e
    cases dt with
    | func fd =>
      obtain ⟨m1, m2, m3, m4, m5, m6, m7, m8, m9, m10, m11, m12, m13, m14, m15⟩ := fd
      have e2 : (some (m1, m2, m3, m4, m5, m6, m7.map (·.1), m15) : FnJ) = some (d.name, d.qual, d.params, .stmts d.body, d.scope, mainGlobals, d.cls, builtinsNs) := e
      simp only [Option.some.injEq, Prod.mk.injEq] at e2
      obtain ⟨h1, h2, h3, h4, h5, h6, h7, h8⟩ := e2
      rw [hcl] at h7
      subst h1 h2 h3 h4 h5 h6 h8
      obtain ⟨k1, k2⟩ := He.ba (show (PySem.W.codeIn K m13 d.qual && He.dflB K m8 (d.dvs K)) = true from c2)
      cases m7 with
      | nil => cases h7
      | cons p r =>
        cases r with
        | cons _ _ => simp at h7
        | nil =>
          obtain ⟨n, cc⟩ := p
          have hn : n = "__class__" := by simpa using h7
          subst hn
          exact ⟨oc, od, m8, m9, m10, m11, m12, m13, m14, cc, osl, rfl, k1, kp, He.dflB_ok k2⟩
    | _ => cases c2
theorem SaysJ.defC_ (c : SaysJ fa fn K) (i : Nat) {d : DefJ} (h : fn[i]? = some d := by rfl) (hcl : d.cls = [("__class__" : Str)] := by rfl) : ∃ oc od dV kV doc pm an cdv ct cc osl,
    K.lookup (d.at_ K) = some ⟨oc, od, .func { name := d.name, qualname := d.qual, params := d.params, body := .stmts d.body, scope := d.scope, globals := mainGlobals, closure := [("__class__", cc)], defaults := dV, kwdefaults := kV, doc, pyModule := pm, annotations := an, code := cdv, closureTuple := ct, builtins := builtinsNs }, osl⟩ ∧ PySem.W.codeIn K cdv d.qual = true ∧ PySem.W.keepIn K (.ref (d.at_ K)) = true ∧ DflV K dV (d.dvs K) := by
  have c2 := (He.ba (show ((fa.all fun f => f K) && fn.all fun d => d.ok K) = true from congrArg (fun z : AlJ => z.1) c)).2
  have e : fn.map (fun d => fnJ K (d.at_ K)) = fn.map DefJ.val := (congrArg (fun z : AlJ => z.2) c).trans (valsJ_eq fn)
  have e2 : (fn.map fun d => fnJ K (d.at_ K))[i]? = (fn.map DefJ.val)[i]? := by rw [e]
  rw [List.getElem?_map, List.getElem?_map, h] at e2
  exact DefJ.funC (Option.some.inj e2) (List.all_eq_true.mp c2 d (List.mem_of_getElem? h)) hcl
theorem SaysJ.def_ (c : SaysJ fa fn K) (i : Nat) {d : DefJ} (h : fn[i]? = some d := by rfl) (hcl : d.cls = [] := by rfl) : ∃ fd, FunD K d.name d.qual d.params d.body d.scope (d.dvs K) [] (d.at_ K) fd := by
  have c2 := (He.ba (show ((fa.all fun f => f K) && fn.all fun d => d.ok K) = true from congrArg (fun z : AlJ => z.1) c)).2
  have e : fn.map (fun d => fnJ K (d.at_ K)) = fn.map DefJ.val := (congrArg (fun z : AlJ => z.2) c).trans (valsJ_eq fn)
  have e2 : (fn.map fun d => fnJ K (d.at_ K))[i]? = (fn.map DefJ.val)[i]? := by rw [e]
  rw [List.getElem?_map, List.getElem?_map, h] at e2
  exact DefJ.funD (Option.some.inj e2) (List.all_eq_true.mp c2 d (List.mem_of_getElem? h)) hcl
end
/-! properties -/
def pg (K : PySem.W.Frag) (C : Addr) (f : Str) : Addr := match PySem.W.recIn K (He.ma K C f) "property" with
  | some (.ref g :: _) => g
  | _ => 0
def propB (C f : Str) : FaJ := fun K => He.eqO (PySem.W.findIn K (.ref (He.ga K C)) f) (some (some (.ref (He.ma K (He.ga K C) f)))) && (He.eqO (PySem.W.specialIn K (.ref (He.ma K (He.ga K C) f)) "__get__") (some (some (.builtin "property.__get__"))) &&
  (decide (PySem.W.takesIn K (.ref (He.ma K (He.ga K C) f)) = some true) && (match PySem.W.recIn K (He.ma K (He.ga K C) f) "property" with
    | some (.ref _ :: _) => true
    | _ => false)))
theorem propB_ok {K : PySem.W.Frag} {C f : Str} (h : propB C f K = true) : PropOf K (He.ga K C) f (He.ma K (He.ga K C) f) (pg K (He.ga K C) f) := by
  obtain ⟨h1, h⟩ := He.ba h
  obtain ⟨h2, h⟩ := He.ba h
  obtain ⟨h3, h4⟩ := He.ba h
  refine ⟨He.eqO_ok h1, He.eqO_ok h2, of_decide_eq_true h3, ?_⟩
  cases q : PySem.W.recIn K (He.ma K (He.ga K C) f) "property" with
  | none => rw [q] at h4; cases h4
  | some l =>
    rw [q] at h4
    cases l with
    | nil => cases h4
    | cons v r =>
      cases v with
      | ref g => exact ⟨r, by unfold pg; rw [q]⟩
      | _ => cases h4
def jsubB (C : Str) : FaJ := fun K => match PySem.W.findIn K (.ref (He.ga K C)) "__getitem__" with
  | some (some (.ref f)) => PySem.W.fnIn K f
  | _ => true
def SubF (K : PySem.W.Frag) (C : Addr) : Prop := ∀ f, PySem.W.findIn K (.ref C) "__getitem__" = some (some (.ref f)) → PySem.W.fnIn K f = true
theorem jsubB_ok {K : PySem.W.Frag} {C : Str} (h : jsubB C K = true) : SubF K (He.ga K C) := fun f e => by
  unfold jsubB at h
  rw [e] at h
  exact h
/-- a def of the text, without defaults -/
def Src (K : PySem.W.Frag) (x qual : Str) (st : Stmt) (f : Addr) : Prop := ∃ fd, FunD K x qual (defArgs st) (defBody st) (defScope st) [] [] f fd
def SrcD (K : PySem.W.Frag) (x qual : Str) (st : Stmt) (dvs : List V) (f : Addr) : Prop := ∃ fd, FunD K x qual (defArgs st) (defBody st) (defScope st) dvs [] f fd
/-! ### facts of one's own -/
def tupB (x : Str) (zs : List V) : FaJ := fun K => match K.lookup (He.ga K x) with
  | some ⟨.type n, _, .seq its _, _⟩ => decide (n = "tuple") && (He.relAll zs its.toList && decide (its.size ≤ sizeLine))
  | _ => false
theorem tupB_ok {K : PySem.W.Frag} {x : Str} {zs : List V} (h : tupB x zs K = true) (H : Hp) : SqT K H (He.ga K x) zs := by
  unfold tupB at h
  cases q : K.lookup (He.ga K x) with
  | none => rw [q] at h; cases h
  | some o =>
    obtain ⟨oc, od, dt, osl⟩ := o
    rw [q] at h
    cases oc with
    | type n =>
      cases dt with
      | seq its m =>
        obtain ⟨h1, h2⟩ := He.ba (show (decide (n = "tuple") && (He.relAll zs its.toList && decide (its.size ≤ sizeLine))) = true from h)
        obtain ⟨h2, h3⟩ := He.ba h2
        exact .inr ⟨_, its, m, q, by rw [of_decide_eq_true h1], rfl, of_decide_eq_true h3, He.relAll_ok h2⟩
      | _ => cases h
    | _ => cases h
def bfnB (x : Str) (id : String) : FaJ := fun K => He.eqO (PySem.W.nsIn K mainGlobals x) (some (some (.builtin id)))
theorem bfnB_ok {K : PySem.W.Frag} {h : Heap} {mg : Str → Option Value} (X : K.In h) (G : h.Ns mainGlobals mg) {x : Str} {id : String} (c : bfnB x id K = true) : mg x = some (.builtin id) := PySem.W.mg_of X G (He.eqO_ok c)
/-- what a law's own def is to do -/
def spLaw (K : PySem.W.Frag) : Sp := fun vs H Q _ => ∃ (a : Addr) (ns : List Int), vs = [.ref a] ∧ SqL K H a (ns.map V.int) ∧ ns.length ≤ 63 ∧ ∀ H', Q (.bl true) H'
end J
namespace JX
open PySem PySem.W PySem.Calls PyProof.Rows PySem.HandSPX
/-! ### an error of the program: class x(JawError), def __init__(self, n): super().__init__(text); self.n = n -/
def eA (n : Str) (p1 p2 : Pos) : Arguments := { posonlyargs := [], args := [{ arg := "self", annotation := none, pos := p1 }, { arg := n, annotation := none, pos := p2 }], vararg := none, kwonlyargs := [], kw_defaults := [], kwarg := none, defaults := [] }
def eB (n txt : Str) (kd : Nat) (q1 q2 q3 q4 q5 q6 q7 q8 q9 q10 : Pos) : List Stmt :=
  [.Expr (.Call (.Attribute (.Call (.Name "super" q1) [] [] q2) "__init__" q3) [.Constant (.str txt) kd q4] [] q5) q6, .Assign [.Attribute (.Name "self" q7) n q8] (.Name n q9) q10]
def eS (n : Str) : Scope := { kind := .function, names := [(PySem.Str.ofString "self", .local), (n, .local), (PySem.Str.ofString "__class__", .free), (PySem.Str.ofString "super", .globalImplicit)], isGenerator := false, isCoroutine := false, more := [] }
/-- what is asked of the field's name -/
structure NmOk (n : Str) : Prop where
  s : (n == ("self" : Str)) = false
  s' : (("self" : Str) == n) = false
  c : (n == ("__class__" : Str)) = false
  c' : (("__class__" : Str) == n) = false
  u : (n == ("super" : Str)) = false
  u' : (("super" : Str) == n) = false
  d : (n == ("__debug__" : Str)) = false
  bd : ∀ (qual : Str) (p1 p2 : Pos) (body : List Stmt) (kV doc pm : Value) (an : Option Addr) (cdv ct : Value) (cc : Addr) (a b : Value), bindArgs (ksFn "__init__" qual (eA n p1 p2) body (eS n) .none kV doc pm an cdv ct cc) ⟨[a, b], []⟩ = pure [(("self" : Str), a), (n, b)]
structure ErrTxt (P : Program) (K : Frag) (C : Addr) (n : Str) : Prop where
  cls : ∃ nm q N bs bm sn sub ab col dd k0 k1 k2 k3 k5, K.lookup C = some (excClassObj nm q C N bs bm true sn sub ab col dd k0 k1 k2 k3 k5 "ValueError.__new__") ∧ refsVE bm = true
  sa : findIn K (.ref C) "__setattr__" = some (some (.builtin "object.__setattr__"))
  ga : findIn K (.ref C) "__getattribute__" = some (some (.builtin "BaseException.__getattribute__"))
  gg : findIn K (.ref C) "__getattr__" = some none
  noN : findIn K (.ref C) n = some none
  kC : keepIn K (.ref C) = true
  exC : subIn K (.ref C) (.type "BaseException") = some true
  veC : subIn K (.ref C) (.type "ValueError") = some true
  tyC : typeIn K (.ref C) = some (.type "type")
  hdC : hasDictIn K C = true
  sup : ks_superIn K C C "__init__" = some (some (.builtin "ValueError.__init__"))
  opq : nsIn K cStatics "thirdparty.any" = some none
  mro : mroIn K C (.ref C) = some true
  nm : NmOk n
  fn : ∃ (fI cc cda : Addr) (qual : Str) (oc : Value) (od : Option Addr) (kV doc pm : Value) (an : Option Addr) (ct : Value) (osl : Array (Option Value)) (p1 p2 q1 q2 q3 q4 q5 q6 q7 q8 q9 q10 : Pos) (txt : Str) (kd : Nat),
    findIn K (.ref C) "__init__" = some (some (.ref fI)) ∧ typeIn K (.ref fI) = some (.type "function") ∧
    K.lookup fI = some ⟨oc, od, .func (ksFn "__init__" qual (eA n p1 p2) (eB n txt kd q1 q2 q3 q4 q5 q6 q7 q8 q9 q10) (eS n) .none kV doc pm an (.ref cda) ct cc), osl⟩ ∧ codeIn K (.ref cda) qual = true ∧
    (∃ cl cld csl, K.lookup cc = some ⟨cl, cld, .cell (some (.ref C)), csl⟩) ∧ (q3.endLine == q5.line) = true ∧
    ∃ ccl cdd ccs vs file tf, K.lookup cda = some ⟨ccl, cdd, .fields vs, ccs⟩ ∧ vs[2]? = some (.str file tf) ∧ ((P.main.file : Str) == file) = true
  top : (P.main.scope.names.lookup ("super" : Str)).isSome = false
theorem one_size (v : Value) : [v].length ≤ sizeLine := by
  rw [sizeLine_eq]
  exact (by decide : 1 ≤ 16777216)
theorem ldL {M : Model} {A : Around} {E : Value → Shared → Prop} {s : Shared} {env : Env} {m : Str → Option Value} {x : Str} {pos : Pos} {v : Value} {Q : Value → Shared → Prop} (hn : s.heap.Ns env.locals m) (hv : m x = some v) (h : Q v s)
    (hk : env.scope.kind = .function) (hl : env.kindOf x = some .local) (hd : (x == ("__debug__" : Str)) = false) : wpAny M A (eval (.Name x pos) env) Q E s := wpAny_Name (wpAny_loadName_local hk hl hn hv h) hd
/-- what __init__ leaves of a fresh exception at x -/
structure InitEnd (h h' : Heap) (x C dx t1 : Addr) (n : Str) (v : Value) : Prop where
  keep : ∀ b o, b ≠ x → h.get? b = some o → h'.get? b = some o
  obj : h'.get? x = some { cls := .ref C, dict := some dx, data := .fields #[.ref t1, .none, .none, .none, .bool false, .none] }
  dbig : h.objs.size ≤ dx
  dne : dx ≠ x
  ns : h'.Ns1 dx (fun y => if y = n then some v else none)
/-- a made error -/
structure OwnMade (h h' : Heap) (e C d : Addr) (n : Str) (v : Value) : Prop where
  keep : ∀ b o, h.get? b = some o → h'.get? b = some o
  new : h.objs.size ≤ e
  obj : ∃ oe vs, h'.get? e = some oe ∧ oe.cls = .ref C ∧ oe.dict = some d ∧ oe.data = .fields vs ∧ vs[1]? = some .none
  dbig : h.objs.size ≤ d
  dne : d ≠ e
  ns : h'.Ns1 d (fun y => if y = n then some v else none)
theorem he_mk {env : Env} {q1 q2 q3 q4 q5 : Pos} {txt : Str} {kd : Nat} (hl : (q3.endLine == q5.line) = true) : ∃ pl : Sem Bool, eval (.Call (.Attribute (.Call (.Name "super" q1) [] [] q2) "__init__" q3) [.Constant (.str txt) kd q4] [] q5) env = (do
      let ov ← attributeBase (.Call (.Name "super" q1) [] [] q2) "__init__" env (eval (.Call (.Name "super" q1) [] [] q2) env)
      standAt q3.atName
      let (g, first) ← holding [ov] (getMethod ov "__init__" pl)
      callWith q5 g first (backTo q5 (starEach [.Constant (.str txt) kd q4] env)) []) := by
  refine ⟨do return (← importBound (.Call (.Name "super" q1) [] [] q2) env).getD true, ?_⟩
  show (do
    let ov ← attributeBase (.Call (.Name "super" q1) [] [] q2) "__init__" env (eval (.Call (.Name "super" q1) [] [] q2) env)
    standAt q3.atName
    methodCall (.Call (.Name "super" q1) [] [] q2) "__init__" q3 q5 env ov (1 + 0) (backTo q5 (starEach [.Constant (.str txt) kd q4] env)) (backToKw q5 (keywordEach [] env))) = _
  have few : methodCallForm (1 + 0) (backTo q5 (starEach [.Constant (.str txt) kd q4] env)) (backToKw q5 (keywordEach [] env)) = true := rfl
  unfold methodCall
  rw [few]
  unfold methodCallPos calleeOf
  simp only [hl, Bool.not_true, Bool.false_or, if_true, pure_bind]
  rfl
section
variable {prog : Program} {w : World} {A : Around} {E : Value → Shared → Prop} {R : Result → Shared → Prop} {s : Shared} {K : Frag} {mg : Str → Option Value} {C fI : Addr} {n : Str}
/-- super().__init__, called on the text: the args are laid anew -/
theorem call_mw {h : Heap} {g : Array GenState} {d : Drawn} {t : Nat} {os : OsState} {nm q : Str} {N : Addr} {bs bm : List Value} {hdct : Bool} {sn : List Str} {sub : List Value} {ab : Bool} {col : Option Bool} {dd : Option Addr} {k0 k1 k2 k3 k5 : Option Value}
    {u e t0 : Addr} {rest : List Value} {Q : Value → Shared → Prop}
    (hC : h.get? C = some (excClassObj nm q C N bs bm hdct sn sub ab col dd k0 k1 k2 k3 k5 "ValueError.__new__")) (he : h.get? e = some (excO C t0)) (hu : h.get? u = some (kxs_mw "ValueError.__init__" e)) (hrest : rest.length ≤ sizeLine)
    (hq : ∀ h' t1, (∀ b o, b ≠ e → h.get? b = some o → h'.get? b = some o) → h'.get? e = some (excO C t1) → Q .none ⟨h', g, d, t, os⟩) :
    wpAny (model prog w) A (call (.ref u) rest) Q E ⟨h, g, d, t, os⟩ := by
  refine wpAny_call (codeAny_of_tree ?_)
  show wpAny _ A.in1 (callAny (.ref u) ⟨rest, []⟩) _ _ _
  simp only [callAny]
  refine wpAny_bind (wpAny_load hu ?_)
  simp only [kxs_mw, show (Value.type "method-wrapper" == Value.type "method" || Value.type "method-wrapper" == Value.type "builtin_function_or_method" || Value.type "method-wrapper" == Value.type "method-wrapper") = true by decide, if_true]
  refine KFB.if_so (by decide) ?_
  refine wpAny_bind (check_bound_init F.excBase_ValueError.toExcCallFacts hC he rfl ?_)
  refine wpAny_bind (wpAny_pure (wpAny_pure ?_))
  refine ⟨plainId_quiet F.excBase_ValueError.init.plain _, codeAny_builtin F.excBase_ValueError.initEntry ?_⟩
  refine exc_init_tree (cls := .ref C) (t0 := t0) (dv := none) (c2 := .none) (c3 := .none) (b4 := .bool false) he hrest fun h' k he' _ => ?_
  exact hq h' _ k he'
theorem jaw_init (T : ErrTxt prog K C n) (X : K.In s.heap) (hlim : s.heap.NoLimit) {x t0 : Addr} {v : Value} (hx : s.heap.get? x = some (excO C t0)) (hnx : K.lookup x = none) (hroom : A.depth < recursionLimit)
    (G : s.heap.Ns mainGlobals mg) (hmg : mg "super" = none) (BL : ∃ mb, s.heap.Ns builtinsNs mb ∧ mb "super" = some (.type "super")) (hi : findIn K (.ref C) "__init__" = some (some (.ref fI)))
    (hq : ∀ h' tk dx t1, InitEnd s.heap h' x C dx t1 n v → R (.ok (.ret .none)) { s with heap := h', toks := tk }) :
    codeAny (model prog w) A (.call (.ref fI) ⟨[.ref x, v], []⟩) R s := by
  obtain ⟨fI', cc, cda, qual, oc, od, kV, doc, pm, an, ct, osl, p1, p2, q1, q2, q3, q4, q5, q6, q7, q8, q9, q10, txt, kd, hi', hty, ho, hcd, ⟨cl, cld, csl, hcell⟩, hline, ccl, cdd, ccs, vs, file, tf, hcode, hvs, hfile⟩ := T.fn
  rw [hi] at hi'
  cases hi'
  obtain ⟨nm, q, N, bs, bm, sn, sub, ab, col, dd, k0, k1, k2, k3, k5, hC, hbm⟩ := T.cls
  have hcl : clsIn K C = some { name := nm, bases := bs, mro := .ref C :: bm, ns := N, qualname := q, hasDict := true, slotNames := sn, subclasses := sub, abstract := ab, collection := col, hasDel := false } := by unfold clsIn; rw [hC] <;> rfl
  have l1 : (eS n).names.lookup ("self" : Str) = some .local := by kernel_rfl
  have l2 : (eS n).names.lookup n = some .local := by
    have e := T.nm.s
    show List.lookup n [((PySem.Str.ofString "self" : Str), NameKind.local), (n, .local), (PySem.Str.ofString "__class__", .free), (PySem.Str.ofString "super", .globalImplicit)] = _
    rw [List.lookup_cons, e, List.lookup_cons]
    simp
  have l3 : (eS n).names.lookup ("__class__" : Str) = some .free := by
    show List.lookup ("__class__" : Str) [((PySem.Str.ofString "self" : Str), NameKind.local), (n, .local), (PySem.Str.ofString "__class__", .free), (PySem.Str.ofString "super", .globalImplicit)] = _
    rw [List.lookup_cons, show (("__class__" : Str) == PySem.Str.ofString "self") = false by decide +kernel, List.lookup_cons, T.nm.c']
    kernel_rfl
  have l4 : (eS n).names.lookup ("super" : Str) = some .globalImplicit := by
    show List.lookup ("super" : Str) [((PySem.Str.ofString "self" : Str), NameKind.local), (n, .local), (PySem.Str.ofString "__class__", .free), (PySem.Str.ofString "super", .globalImplicit)] = _
    rw [List.lookup_cons, show (("super" : Str) == PySem.Str.ofString "self") = false by decide +kernel, List.lookup_cons, T.nm.u']
    kernel_rfl
  refine ks_codeAny_call_defAt (fd := ksFn "__init__" qual (eA n p1 p2) (eB n txt kd q1 q2 q3 q4 q5 q6 q7 q8 q9 q10) (eS n) .none kV doc pm an (.ref cda) ct cc) (binds := [("self", .ref x), (n, v)]) hroom (X _ _ ho) rfl hlim (codeRec_of X hcd) rfl
    (BindsTo.of_eq (T.nm.bd ..)) ?hcell ?hloc (fun h₁ hns k₁ => ?_) rfl rfl rfl
  case hcell =>
    intro y hy
    have hy' : y ∈ [((PySem.Str.ofString "self" : Str), NameKind.local), (n, .local), (PySem.Str.ofString "__class__", .free), (PySem.Str.ofString "super", .globalImplicit)] := hy
    rcases List.mem_cons.mp hy' with rfl | hy'
    · intro z; cases z
    rcases List.mem_cons.mp hy' with rfl | hy'
    · intro z; cases z
    rcases List.mem_cons.mp hy' with rfl | hy'
    · intro z; cases z
    rcases List.mem_cons.mp hy' with rfl | hy'
    · intro z; cases z
    · cases hy'
  case hloc =>
    intro y hy
    rcases List.mem_cons.mp hy with rfl | hy
    · exact l1
    rcases List.mem_cons.mp hy with rfl | hy
    · exact l2
    · cases hy
  have X₁ : K.In h₁ := X.keeps k₁
  have hx₁ := k₁ _ _ hx
  have m1 : List.lookup ("self" : Str) ([(("self" : Str), Value.ref x), (n, v)] : List (Str × Value)).reverse = some (.ref x) := by
    show List.lookup ("self" : Str) [(n, v), (("self" : Str), Value.ref x)] = _
    rw [List.lookup_cons, T.nm.s']
    kernel_rfl
  have m2 : List.lookup n ([(("self" : Str), Value.ref x), (n, v)] : List (Str × Value)).reverse = some v := by
    show List.lookup n [(n, v), (("self" : Str), Value.ref x)] = _
    rw [List.lookup_cons]
    simp
  have I₁ : InstAt h₁ x (excO C t0) C none := ⟨hx₁, rfl, rfl, trivial⟩
  obtain ⟨mb, hB, hmb⟩ := BL
  have hxC : x ≠ C := ks_ne X₁ I₁ hcl
  -- super().__init__(text)
  show _root_.PySem.wpAt _ _ (.func (eB n txt kd q1 q2 q3 q4 q5 q6 q7 q8 q9 q10) (ksEnv qual (eS n) s.heap.objs.size fI (.ref cda) cc)) (execs _ (ksEnv qual (eS n) s.heap.objs.size fI (.ref cda) cc)) _ _ _
  obtain ⟨pl, hpl⟩ := he_mk (env := ksEnv qual (eS n) s.heap.objs.size fI (.ref cda) cc) (q1 := q1) (q2 := q2) (q4 := q4) (txt := txt) (kd := kd) hline
  refine ks_wpAt_execs_cons (ks_wpAt_Expr_any (ks_wpAt_MethodCall ?_ hpl))
  refine ks_wpAt_super_base (env := ksEnv qual (eS n) s.heap.objs.size fI (.ref cda) cc) l4 l3 (by decide) rfl (X₁ _ _ ho) rfl (show _ = some _ from rfl) rfl (X₁ _ _ hcode) rfl hvs hfile T.top ?_
  refine ks_loadName_global rfl l4 (loadGlobal_builtin (env := ksEnv qual (eS n) s.heap.objs.size fI (.ref cda) cc) (G.keeps k₁) hmg (hB.keeps k₁) hmb ⟨rfl, ?_⟩)
  refine wpAny_loadName_free rfl l3 rfl ⟨_, X₁ _ _ hcell, rfl⟩ ?_
  refine wpAny_loadName_local rfl l1 hns m1 ?_
  refine ks_wpAny_isType_cls (X₁ _ _ hC) rfl ⟨rfl, ?_⟩
  refine ks_wpAny_call_super (X₁ _ _ hC) rfl hx₁ rfl (fun c e => by cases e) (looks_mroIn X₁ T.mro) (fun h₂ hso k₂ => ?_)
  have X₂ := X₁.keeps k₂
  have hx₂ := k₂ _ _ hx₁
  have I₂ : InstAt h₂ x (excO C t0) C none := ⟨hx₂, rfl, rfl, trivial⟩
  -- the method
  have hal : alongIn K "__init__" (((Value.ref C :: bm).dropWhile (· != .ref C)).drop 1) = some (some (.builtin "ValueError.__init__")) := by
    have e := T.sup
    unfold ks_superIn at e
    rw [hcl] at e
    exact e
  refine kxs_getMethod kxs_ValueError hso (looks_opaque X₂ T.opq) (l₀ := Value.ref C :: bm) (fun A Q E s k q => wpAny_bind ((looks_clsIn X₂ hcl) A _ E s k (wpAny_pure q))) rfl X₂ hal (I₂.type.andThen (looks_subIn X₂ T.veC)) hxC rfl ?_
  have k₃ : ∀ b o, h₂.get? b = some o → (h₂.push (kxs_mw "ValueError.__init__" x)).get? b = some o := fun b o e => Heap.get?_push_of_some _ e
  have hmw : (h₂.push (kxs_mw "ValueError.__init__" x)).get? h₂.objs.size = some (kxs_mw "ValueError.__init__" x) := Heap.get?_push_at rfl rfl
  have X₃ := X₂.keeps k₃
  have hx₃ := k₃ _ _ hx₂
  refine kxs_callWith (i := "ValueError.__init__") (x := x) (first := []) rfl ?_
  refine evalArgs_plain (spliced_cons ?_)
  refine wpAny_Constant_str (k := kd) (pos := q4) (spliced_nil ⟨hmw, ?_⟩)
  refine call_mw (X₃ _ _ hC) hx₃ hmw (one_size _) fun h₄ t1 k₄ hx₄ => ?_
  have kk : ∀ b o, b ≠ x → h₁.get? b = some o → h₄.get? b = some o := fun b o hb e => k₄ b o hb (k₃ b o (k₂ b o e))
  have X₄ : K.In h₄ := fun a o e => kk a o (fun z => by rw [z, hnx] at e; cases e) (X₁ a o e)
  have hxL : s.heap.objs.size ≠ x := Nat.ne_of_gt (Heap.lt_size hx)
  have hns₄ : h₄.Ns s.heap.objs.size (fun y => List.lookup y ([(("self" : Str), Value.ref x), (n, v)] : List (Str × Value)).reverse) := hns.at fun o e => kk _ _ hxL e
  -- self.n = n
  show _root_.PySem.wpAt _ _ _ (execs [.Assign [.Attribute (.Name "self" q7) n q8] (.Name n q9) q10] (ksEnv qual (eS n) s.heap.objs.size fI (.ref cda) cc)) _ _ _
  refine wpAt_of_wpAny ?_
  refine wpAny_execs_cons (plainObj_wpAny_Assign_Attribute ?_)
  refine ldL (v := v) hns₄ m2 (ldL (v := .ref x) hns₄ m1 ?_ rfl l1 (by decide)) rfl l2 T.nm.d
  refine set_plain X₄ (ox := excO C t1) (od := none) ⟨hx₄, rfl, rfl, trivial⟩ T.sa ?_
  refine exc_osa X₄ hx₄ hcl (show refsVE (.ref C :: bm) = true from hbm) rfl T.noN (fun h₅ tk₅ dx k₅ dn dne hx₅ hn₅ => ?_)
  have z : s.heap.objs.size ≤ h₄.objs.size := Nat.le_of_lt hns₄.lt
  exact wpAny_execs_nil (hq h₅ tk₅ dx t1 ⟨fun b o hb e => k₅ b o hb (kk b o hb (k₁ b o e)), hx₅, Nat.le_trans z dn, dne, hn₅⟩)
theorem jaw_made (T : ErrTxt prog K C n) {v : Value} (X : K.In s.heap) (hlim : s.heap.NoLimit) (hroom : A.depth + 1 < recursionLimit)
    (G : s.heap.Ns mainGlobals mg) (hmg : mg "super" = none) (BL : ∃ mb, s.heap.Ns builtinsNs mb ∧ mb "super" = some (.type "super"))
    (hq : ∀ h' tk e d, OwnMade s.heap h' e C d n v → R (.ok (.ret (.ref e))) { s with heap := h', toks := tk }) :
    codeAny (model prog w) A (.call (.ref C) ⟨[v], []⟩) R s := by
  obtain ⟨nm, q, N, bs, bm, sn, sub, ab, col, dd, k0, k1, k2, k3, k5, hC, hbm⟩ := T.cls
  obtain ⟨fI, _, _, _, _, _, _, _, _, _, _, _, _, _, _, _, _, _, _, _, _, _, _, _, _, _, hi, hty, _⟩ := id T.fn
  obtain ⟨hp, g, dr, tk, os⟩ := s
  have k : ∀ b o, hp.get? b = some o → ((hp.push (kdv_tup [v])).push (excO C hp.objs.size)).get? b = some o := fun b o e => Heap.get?_push_of_some _ (Heap.get?_push_of_some _ e)
  have hget : ((hp.push (kdv_tup [v])).push (excO C hp.objs.size)).get? (hp.objs.size + 1) = some (excO C hp.objs.size) := by heap_get
  have hnx : K.lookup (hp.objs.size + 1) = none := by
    cases e : K.lookup (hp.objs.size + 1) with
    | none => rfl
    | some o =>
      have z : hp.get? (hp.objs.size + 1) = some o := X _ _ e
      exact absurd (Nat.lt_of_succ_lt (Heap.lt_size z)) (Nat.lt_irrefl _)
  obtain ⟨mb, hB, hmb⟩ := BL
  refine call_own F.excBase_ValueError (fun X => refsVE_contains X bm hbm) (X _ _ hC) (looks_findIn X hi) (fun self => bind_fn X self hty) (one_size v) ?_
  refine jaw_init (s := ⟨(hp.push (kdv_tup [v])).push (excO C hp.objs.size), g, dr, tk, os⟩) (mg := mg) T (X.keeps k) (hlim.keeps k) hget hnx ?_ (G.keeps k) hmg ⟨mb, hB.keeps k, hmb⟩ hi fun h' tk' dx t1 ⟨k', hx, dn, dne, hns⟩ => ?_
  · show A.depth + 1 < recursionLimit
    exact hroom
  · have old : ∀ b o, hp.get? b = some o → h'.get? b = some o := fun b o e => k' b o (Nat.ne_of_lt (Nat.lt_succ_of_lt (Heap.lt_size e))) (k b o e)
    have z : hp.objs.size + 1 + 1 ≤ dx := by
      first
        | (simpa only [Heap.size_push] using dn)
        | exact dn
        | (have q := dn; rw [Heap.size_push, Heap.size_push] at q; exact q)
    exact ⟨rfl, hq h' tk' (hp.objs.size + 1) dx ⟨old, Nat.le_succ _, ⟨_, _, hx, rfl, rfl, rfl, rfl⟩, Nat.le_trans (Nat.le_trans (Nat.le_succ _) (Nat.le_succ _)) z, dne, hns⟩⟩
end
theorem nm_value : NmOk "value" := ⟨by decide, by decide, by decide, by decide, by decide, by decide, by decide, fun _ _ _ _ _ _ _ _ _ _ _ _ _ => rfl⟩
theorem nm_at : NmOk "at" := ⟨by decide, by decide, by decide, by decide, by decide, by decide, by decide, fun _ _ _ _ _ _ _ _ _ _ _ _ _ => rfl⟩
theorem nm_state : NmOk "state" := ⟨by decide, by decide, by decide, by decide, by decide, by decide, by decide, fun _ _ _ _ _ _ _ _ _ _ _ _ _ => rfl⟩
theorem nm_limit : NmOk "limit" := ⟨by decide, by decide, by decide, by decide, by decide, by decide, by decide, fun _ _ _ _ _ _ _ _ _ _ _ _ _ => rfl⟩
end JX
namespace J
open PySem PySem.Spec PyProof.Rows L2 JX
theorem relO_one {n : Str} {v : V} {v' : Value} (r : RelV v v') (f : Str) : RelO (List.lookup f [(n, v)]) (if f = n then some v' else none) := by
  by_cases hw : f = n
  · subst hw
    rw [if_pos rfl]
    have q : List.lookup f [(f, v)] = some v := by simp [List.lookup]
    rw [q]
    exact r
  · rw [if_neg hw]
    have qw : (f == n) = false := by simpa using hw
    have q2 : List.lookup f [(n, v)] = none := by simp [List.lookup, qw]
    rw [q2]
    trivial
/-- what the text says of an error: its class at C, its field n, its name x -/
structure ErrIs (P : Program) (K : PySem.W.Frag) (mg : Str → Option Value) (C : Addr) (x n : Str) : Prop where
  txt : ErrTxt P K C n
  gl : mg x = some (.ref C)
  su : mg "super" = none
section
variable {X : Cx} {C : Addr} {x n : Str}
/-- x(e) -/
def tMkJ (C : Addr) (n : Str) (ta : TA) : L2.St → Hp → XK → Prop := fun σ H Q => ta σ H fun vs H1 => ∃ v, vs = [v] ∧ ∀ d, H1 d = none → Q (.ref C) (some d) (upd H1 d (.xd [(n, v)]))
theorem pmk_jaw {a : Expr} {ta : TA} {p pos : Pos} {k : Nat} (T : ErrIs X.prog X.K X.mg C x n) (hr : Room k X.A) (ha : PA X [a] ta) (hg : Gl X x := by rfl) (hdb : (x == ("__debug__" : Str)) = false := by decide)
    (he : starEach (a :: []) X.env = (false, eval a X.env) :: starEach [] X.env := by rfl) (hpl : (backTo pos (starEach [] X.env)).any (·.1) = false := by rfl) :
    PMk X (.Call (.Name x p) [a] [] pos) (tMkJ C n ta) := by
  intro pins s σ H Q I h
  refine wpAny_Call_Name_kw (ld_glob I hg T.gl ?_ hdb)
  refine PySem.W.callWith_K (h₀ := X.base) I.ok.mod.kin T.txt.kC (thn (ha.run pos pins s σ H _ I h) fun us s1 hh => ?_) he hpl
  obtain ⟨vs, H1, I1, r1, v, ev, q1⟩ := hh
  subst ev
  refine ⟨I1.kIn, ?_⟩
  cases r1 with
  | cons rv rn =>
    rename_i v' us'
    cases rn
    show wpAny _ _ (call (.ref C) [v']) _ _ _
    have hlim := I1.nolimit
    have G1 : s1.heap.Ns mainGlobals X.mg := I1.mod.glob.keeps I1.bk
    have B1 : ∃ mb, s1.heap.Ns builtinsNs mb ∧ mb "super" = some (.type "super") := by
      obtain ⟨mb, h1, h2⟩ := I1.mod.blt
      exact ⟨mb, h1.keeps I1.bk, (h2 _ (by decide)).trans (by decide +kernel)⟩
    obtain ⟨hp, g, dr, tk, os⟩ := s1
    refine wpAny_call (jaw_made T.txt I1.kIn hlim (by have := hr.dp; omega) G1 T.su B1 fun h' tk' e d M => ?_)
    show MkP X pins σ Q (.ref e) ⟨h', g, dr, tk', os⟩
    obtain ⟨oe, fv, hoe, hc, hd, hdat, h1⟩ := M.obj
    have hns := M.ns
    obtain ⟨G', g1, g2⟩ := restrict h' fun b => decide (b ≠ e)
    have gk : ∀ b, b ≠ e → G'.get? b = h'.get? b := fun b hb => g1 b (decide_eq_true hb)
    have ge : G'.get? e = none := g2 e (by simp)
    have old : ∀ b o, hp.get? b = some o → G'.get? b = some o := fun b o q => (gk b (Nat.ne_of_lt (Nat.lt_of_lt_of_le (Heap.lt_size q) M.new))).trans (M.keep b o q)
    have ob : ObjOk X.prog X.w (upd H1 d (.xd [(n, v)])) G' d (.xd [(n, v)]) :=
      ⟨_, hns.at (fun o q => (gk d M.dne).trans q), fun f => relO_one rv f⟩
    have J : Inv X pins σ (upd H1 d (.xd [(n, v)])) ⟨G', g, dr, tk', os⟩ := I1.laid (t' := tk') old M.dbig ob
    refine ⟨e, oe, fv, ⟨G', g, dr, tk', os⟩, _, .ref C, some d, rfl, J, fun b o q => ?_, ge, hoe, ⟨hc, hd⟩, hdat, h1, ?_, rfl, I1.bare, raises_own T.txt.exC T.txt.tyC, q1 d (I1.hok.fresh M.dbig)⟩
    · by_cases hb : b = e
      · have q' : G'.get? b = some o := q
        rw [hb, ge] at q'; cases q'
      · exact (gk b hb).symm.trans q
    · rw [upd_ne (Ne.symm M.dne)]
      exact I1.hok.fresh M.new
/-- raise x(e) -/
def tRaiseJ (C : Addr) (n : Str) (W : WX) (ta : TA) : TS := fun _ σ H => tMkJ C n ta σ H fun cls d H' => W cls d σ H'
theorem ps_raiseJ {a : Expr} {ta : TA} {W : WX} {p pos pos2 : Pos} {k : Nat} (hc : X.calm = true) (T : ErrIs X.prog X.K X.mg C x n) (hr : Room k X.A) (tk : Takes X W) (ha : PA X [a] ta) (hg : Gl X x := by rfl) (hdb : (x == ("__debug__" : Str)) = false := by decide)
    (he : starEach (a :: []) X.env = (false, eval a X.env) :: starEach [] X.env := by rfl) (hpl : (backTo pos (starEach [] X.env)).any (·.1) = false := by rfl) :
    PS X (.Raise (some (.Call (.Name x p) [a] [] pos)) none pos2) (tRaiseJ C n W ta) := ps_raise hc tk (pmk_jaw T hr ha hg hdb he hpl)
theorem w_raiseJ {W : WX} {ta : TA} {D : Ends} {σ : L2.St} {H : Hp} (h : ta σ H fun vs H1 => ∃ v, vs = [v] ∧ ∀ d, H1 d = none → W (.ref C) (some d) σ (upd H1 d (.xd [(n, v)]))) : tRaiseJ C n W ta D σ H := h
end
theorem ErrTxt.xf {P : Program} {K : PySem.W.Frag} {C : Addr} {n : Str} (T : ErrTxt P K C n) : XfC K C := ⟨T.ga, T.gg, T.exC, T.hdC⟩

/-! ### the facts of an error -/
def PrOk (P : Program) : Prop := P.main.file = ("/claim/cut.py" : Str) ∧ (P.main.scope.names.lookup ("super" : Str)).isSome = false
def exClsB (K : PySem.W.Frag) (C : Addr) : Bool := match K.lookup C with
  | some ⟨.type "type", _, .cls cd, sl⟩ => (match cd.mro, sl.toList with
    | .ref C' :: bm, [_, _, _, _, some (.builtin m), _] => decide (C' = C) && (decide (m = "ValueError.__new__") && (!cd.hasDel && (cd.hasDict && PySem.HandSPX.refsVE bm)))
    | _, _ => false)
  | _ => false
theorem exClsB_ok {K : PySem.W.Frag} {C : Addr} (q : exClsB K C = true) : ∃ nm q N bs bm sn sub ab col dd k0 k1 k2 k3 k5, K.lookup C = some (excClassObj nm q C N bs bm true sn sub ab col dd k0 k1 k2 k3 k5 "ValueError.__new__") ∧ PySem.HandSPX.refsVE bm = true := by
  unfold exClsB at q
  split at q
  · rename_i dd cd sl ho
    split at q
    · rename_i C' bm k0 k1 k2 k3 n k5 hm hs
      obtain ⟨h1, q⟩ := He.ba q
      obtain ⟨h2, q⟩ := He.ba q
      obtain ⟨h3, q⟩ := He.ba q
      obtain ⟨h4, h5⟩ := He.ba q
      obtain rfl := of_decide_eq_true h1
      obtain rfl := of_decide_eq_true h2
      obtain ⟨nm, bs, mro, ns, qn, hd, sn, sb, ab, col, del⟩ := cd
      dsimp only at hm h3 h4
      have h3 : del = false := by simpa using h3
      subst hm h3 h4
      have hsl : sl = #[k0, k1, k2, k3, some (.builtin "ValueError.__new__"), k5] := by
        obtain ⟨l⟩ := sl
        simp only at hs
        rw [hs]
      subst hsl
      exact ⟨nm, qn, ns, bs, bm, sn, sb, ab, col, dd, k0, k1, k2, k3, k5, ho, h5⟩
    · cases q
  · cases q
def cellB (K : PySem.W.Frag) (f C : Addr) (file : Str) : Bool := match K.lookup f with
  | some ⟨_, _, .func fd, _⟩ => (match fd.closure, fd.code with
    | [(_, cc)], .ref cda => (match K.lookup cc with
        | some ⟨_, _, .cell (some (.ref D)), _⟩ => decide (D = C)
        | _ => false) && (match K.lookup cda with
        | some ⟨_, _, .fields vs, _⟩ => (match (vs[2]? : Option Value) with
          | some (.str y _) => decide (y = file)
          | _ => false)
        | _ => false)
    | _, _ => false)
  | _ => false
/-- what is asked of the class x with the field n -/
def errB (x n : Str) : FaJ := fun K =>
  exClsB K (He.ga K x) && (He.eqO (PySem.W.findIn K (.ref (He.ga K x)) "__setattr__") (some (some (.builtin "object.__setattr__"))) &&
  (He.eqO (PySem.W.findIn K (.ref (He.ga K x)) "__getattribute__") (some (some (.builtin "BaseException.__getattribute__"))) && (He.eqO (PySem.W.findIn K (.ref (He.ga K x)) "__getattr__") (some none) &&
  (He.eqO (PySem.W.findIn K (.ref (He.ga K x)) n) (some none) && (PySem.W.keepIn K (.ref (He.ga K x)) && (decide (PySem.W.subIn K (.ref (He.ga K x)) (.type "BaseException") = some true) &&
  (decide (PySem.W.subIn K (.ref (He.ga K x)) (.type "ValueError") = some true) && (decide (PySem.W.typeIn K (.ref (He.ga K x)) = some (.type "type")) && (PySem.W.hasDictIn K (He.ga K x) &&
  (He.eqO (PySem.W.ks_superIn K (He.ga K x) (He.ga K x) "__init__") (some (some (.builtin "ValueError.__init__"))) && (He.eqO (PySem.W.nsIn K cStatics "thirdparty.any") (some none) && (decide (PySem.W.mroIn K (He.ga K x) (.ref (He.ga K x)) = some true) &&
  (He.eqO (PySem.W.findIn K (.ref (He.ga K x)) "__init__") (some (some (.ref (He.ma K (He.ga K x) "__init__")))) && (decide (PySem.W.typeIn K (.ref (He.ma K (He.ga K x) "__init__")) = some (.type "function")) && cellB K (He.ma K (He.ga K x) "__init__") (He.ga K x) "/claim/cut.py"))))))))))))))
theorem err_is {P : Program} {K : PySem.W.Frag} {h : Heap} {mg : Str → Option Value} {x n : Str} {d : DefJ} (X : K.In h) (G : h.Ns mainGlobals mg) (hP : PrOk P) (hn : NmOk n) (c : errB x n K = true) (hx : mg x = some (.ref (He.ga K x))) (hs : mg "super" = none)
    (hd : ∃ oc od dV kV doc pm an cdv ct cc osl, K.lookup (d.at_ K) = some ⟨oc, od, .func { name := d.name, qualname := d.qual, params := d.params, body := .stmts d.body, scope := d.scope, globals := mainGlobals, closure := [("__class__", cc)], defaults := dV, kwdefaults := kV, doc, pyModule := pm, annotations := an, code := cdv, closureTuple := ct, builtins := builtinsNs }, osl⟩ ∧
      PySem.W.codeIn K cdv d.qual = true ∧ PySem.W.keepIn K (.ref (d.at_ K)) = true ∧ DflV K dV (d.dvs K))
    (hat : d.at_ K = He.ma K (He.ga K x) "__init__") (hnm : d.name = "__init__") (hdv : d.dvs K = [])
    (sh : ∃ (p1 p2 q1 q2 q3 q4 q5 q6 q7 q8 q9 q10 : Pos) (txt : Str) (kd : Nat), d.params = eA n p1 p2 ∧ d.body = eB n txt kd q1 q2 q3 q4 q5 q6 q7 q8 q9 q10 ∧ d.scope = eS n ∧ (q3.endLine == q5.line) = true) : ErrIs P K mg (He.ga K x) x n := by
  obtain ⟨c1, c⟩ := He.ba c
  obtain ⟨c2, c⟩ := He.ba c
  obtain ⟨c3, c⟩ := He.ba c
  obtain ⟨c4, c⟩ := He.ba c
  obtain ⟨c5, c⟩ := He.ba c
  obtain ⟨c6, c⟩ := He.ba c
  obtain ⟨c7, c⟩ := He.ba c
  obtain ⟨c8, c⟩ := He.ba c
  obtain ⟨c9, c⟩ := He.ba c
  obtain ⟨c10, c⟩ := He.ba c
  obtain ⟨c11, c⟩ := He.ba c
  obtain ⟨c12, c⟩ := He.ba c
  obtain ⟨c13, c⟩ := He.ba c
  obtain ⟨c14, c⟩ := He.ba c
  obtain ⟨c15, c16⟩ := He.ba c
  refine ⟨⟨exClsB_ok c1, He.eqO_ok c2, He.eqO_ok c3, He.eqO_ok c4, He.eqO_ok c5, c6, of_decide_eq_true c7, of_decide_eq_true c8, of_decide_eq_true c9, c10, He.eqO_ok c11, He.eqO_ok c12, of_decide_eq_true c13, hn, ?_, hP.2⟩, hx, hs⟩
  obtain ⟨oc, od, dV, kV, doc, pm, an, cdv, ct, cc, osl, hl, hcd, _, hD⟩ := hd
  obtain ⟨p1, p2, q1, q2, q3, q4, q5, q6, q7, q8, q9, q10, txt, kd, e1, e2, e3, e4⟩ := sh
  rw [hdv] at hD
  have hdV : dV = .none := by
    rcases hD with ⟨_, e⟩ | ⟨e, _⟩
    · exact e
    · exact absurd rfl e
  subst hdV
  rw [hnm, e1, e2, e3] at hl
  rw [hat] at hl
  unfold cellB at c16
  rw [hl] at c16
  dsimp only at c16
  cases cdv with
  | ref cda =>
    obtain ⟨k1, k2⟩ := He.ba c16
    refine ⟨_, cc, cda, _, oc, od, kV, doc, pm, an, ct, osl, p1, p2, q1, q2, q3, q4, q5, q6, q7, q8, q9, q10, txt, kd, He.eqO_ok c14, of_decide_eq_true c15, hl, hcd, ?_, e4, ?_⟩
    · split at k1
      · rename_i cl cld D csl ho
        obtain rfl := of_decide_eq_true k1
        exact ⟨cl, cld, csl, ho⟩
      · cases k1
    · split at k2
      · rename_i ccl cdd vs ccs ho
        split at k2
        · rename_i y t hv
          exact ⟨ccl, cdd, ccs, vs, y, t, ho, hv, by rw [hP.1, of_decide_eq_true k2]; exact beq_self_eq_true _⟩
        · cases k2
      · cases k2
  | _ => cases c16
/-! ### facts of classes with an own __eq__ -/
structure EqF (K : PySem.W.Frag) (C : Addr) : Prop where
  ne : PySem.W.findIn K (.ref C) "__ne__" = some (some (.builtin "object.__ne__"))
  ob : PySem.W.mroIn K C (.type "object") = some true
def eqfB (C : Str) : FaJ := fun K => He.eqO (PySem.W.findIn K (.ref (He.ga K C)) "__ne__") (some (some (.builtin "object.__ne__"))) && decide (PySem.W.mroIn K (He.ga K C) (.type "object") = some true)
theorem eqfB_ok {K : PySem.W.Frag} {C : Str} (h : eqfB C K = true) : EqF K (He.ga K C) := by
  obtain ⟨h1, h2⟩ := He.ba h
  exact ⟨He.eqO_ok h1, of_decide_eq_true h2⟩
structure IsIns (K : PySem.W.Frag) (C : Addr) : Prop where
  ha : PySem.W.findIn K (.ref C) "__class__" = some (some (.builtin "object.__class__"))
  hn : PySem.W.specialIn K (.builtin "object.__class__") "__get__" = some (some (.builtin "getset_descriptor.__get__"))
  htk : PySem.W.takesIn K (.builtin "object.__class__") = some true
  kit : PySem.W.kitOne K (.ref C) (.ref C) = some true
  hm : PySem.W.mroIn K C (.type "object") = some true
def isInsB (C : Str) : FaJ := fun K => He.eqO (PySem.W.findIn K (.ref (He.ga K C)) "__class__") (some (some (.builtin "object.__class__"))) && (He.eqO (PySem.W.specialIn K (.builtin "object.__class__") "__get__") (some (some (.builtin "getset_descriptor.__get__"))) &&
  (decide (PySem.W.takesIn K (.builtin "object.__class__") = some true) && (decide (PySem.W.kitOne K (.ref (He.ga K C)) (.ref (He.ga K C)) = some true) && decide (PySem.W.mroIn K (He.ga K C) (.type "object") = some true))))
theorem isInsB_ok {K : PySem.W.Frag} {C : Str} (h : isInsB C K = true) : IsIns K (He.ga K C) := by
  obtain ⟨h1, h⟩ := He.ba h
  obtain ⟨h2, h⟩ := He.ba h
  obtain ⟨h3, h⟩ := He.ba h
  obtain ⟨h4, h5⟩ := He.ba h
  exact ⟨He.eqO_ok h1, He.eqO_ok h2, of_decide_eq_true h3, of_decide_eq_true h4, of_decide_eq_true h5⟩
/-- what is asked of the classes for own op int -/
structure BinI (K : PySem.W.Frag) (C : Addr) (nm : String) : Prop where
  first : PySem.W.selfFirst K C = true
  refl : PySem.W.findIn K (.ref C) (PySem.dunderR nm) = some none
  fo : ∃ v, PySem.W.findIn K (.type "int") (PySem.dunder nm) = some v
  ro : ∃ v, PySem.W.findIn K (.type "int") (PySem.dunderR nm) = some v
  sub : PySem.W.subIn K (.type "int") (.ref C) = some false
def binIB (C : Str) (nm : String) : FaJ := fun K => PySem.W.selfFirst K (He.ga K C) && (He.eqO (PySem.W.findIn K (.ref (He.ga K C)) (PySem.dunderR nm)) (some none) && ((PySem.W.findIn K (.type "int") (PySem.dunder nm)).isSome && ((PySem.W.findIn K (.type "int") (PySem.dunderR nm)).isSome && decide (PySem.W.subIn K (.type "int") (.ref (He.ga K C)) = some false))))
theorem binIB_ok {K : PySem.W.Frag} {C : Str} {nm : String} (h : binIB C nm K = true) : BinI K (He.ga K C) nm := by
  obtain ⟨h1, h⟩ := He.ba h
  obtain ⟨h2, h⟩ := He.ba h
  obtain ⟨h3, h⟩ := He.ba h
  obtain ⟨h4, h5⟩ := He.ba h
  exact ⟨h1, He.eqO_ok h2, Option.isSome_iff_exists.mp h3, Option.isSome_iff_exists.mp h4, of_decide_eq_true h5⟩
end J
namespace J
open PySem PySem.Spec PyProof.Rows L2
/-- the kinds of value that a strange thing may have -/
def tysA : List String := ["int", "bool", "NoneType", "str", "list", "tuple", "dict"]
/-- what is asked of the classes for own op anything -/
structure BinA (K : PySem.W.Frag) (C : Addr) (nm : String) : Prop where
  first : PySem.W.selfFirst K C = true
  rc : ∃ rc, PySem.W.findIn K (.ref C) (PySem.dunderR nm) = some rc ∧ (rc = none ∨ ∃ g : Addr, rc = some (.ref g))
  ty : ∀ T ∈ tysA, (∃ v, PySem.W.findIn K (.type T) (PySem.dunder nm) = some v) ∧ (∃ v, PySem.W.findIn K (.type T) (PySem.dunderR nm) = some v) ∧ PySem.W.subIn K (.type T) (.ref C) = some false
def okRef : Option (Option Value) → Bool
  | some none => true
  | some (some (.ref _)) => true
  | _ => false
def binAB (C : Str) (nm : String) : FaJ := fun K => PySem.W.selfFirst K (He.ga K C) && (okRef (PySem.W.findIn K (.ref (He.ga K C)) (PySem.dunderR nm)) && tysA.all fun T => (PySem.W.findIn K (.type T) (PySem.dunder nm)).isSome && ((PySem.W.findIn K (.type T) (PySem.dunderR nm)).isSome && decide (PySem.W.subIn K (.type T) (.ref (He.ga K C)) = some false)))
theorem binAB_ok {K : PySem.W.Frag} {C : Str} {nm : String} (h : binAB C nm K = true) : BinA K (He.ga K C) nm := by
  obtain ⟨h1, h⟩ := He.ba h
  obtain ⟨h2, h⟩ := He.ba h
  refine ⟨h1, ?_, fun T hT => ?_⟩
  · cases e : PySem.W.findIn K (.ref (He.ga K C)) (PySem.dunderR nm) with
    | none => rw [e] at h2; cases h2
    | some r =>
      rw [e] at h2
      cases r with
      | none => exact ⟨_, rfl, .inl rfl⟩
      | some v =>
        cases v with
        | ref g => exact ⟨_, rfl, .inr ⟨g, rfl⟩⟩
        | _ => cases h2
  · have h3 := List.all_eq_true.mp h T hT
    obtain ⟨h3, h4⟩ := He.ba h3
    obtain ⟨h4, h5⟩ := He.ba h4
    exact ⟨Option.isSome_iff_exists.mp h3, Option.isSome_iff_exists.mp h4, of_decide_eq_true h5⟩
/-- what is asked of the classes for n * own: int, bool or None on the left -/
structure BinR (K : PySem.W.Frag) (C : Addr) : Prop where
  first : PySem.W.selfFirst K C = true
  sub : PySem.W.subIn K (.ref C) (.type "int") = some false ∧ PySem.W.subIn K (.ref C) (.type "bool") = some false
  non : PySem.W.findIn K (.type "NoneType") (PySem.dunder "mul") = some none ∧ PySem.W.findIn K (.type "NoneType") (PySem.dunderR "mul") = some none
def binRB (C : Str) : FaJ := fun K => PySem.W.selfFirst K (He.ga K C) && (decide (PySem.W.subIn K (.ref (He.ga K C)) (.type "int") = some false) && (decide (PySem.W.subIn K (.ref (He.ga K C)) (.type "bool") = some false) && (He.eqO (PySem.W.findIn K (.type "NoneType") (PySem.dunder "mul")) (some none) && He.eqO (PySem.W.findIn K (.type "NoneType") (PySem.dunderR "mul")) (some none))))
theorem binRB_ok {K : PySem.W.Frag} {C : Str} (h : binRB C K = true) : BinR K (He.ga K C) := by
  obtain ⟨h1, h⟩ := He.ba h
  obtain ⟨h2, h⟩ := He.ba h
  obtain ⟨h3, h⟩ := He.ba h
  obtain ⟨h4, h5⟩ := He.ba h
  exact ⟨h1, ⟨of_decide_eq_true h2, of_decide_eq_true h3⟩, He.eqO_ok h4, He.eqO_ok h5⟩
/-! ### a classmethod called by keyword; a class that stands in a name, called -/
def cmFn (K : PySem.W.Frag) (C : Addr) (m : Str) : Addr := match PySem.W.recIn K (He.ma K C m) "classmethod" with
  | some (.ref g :: _) => g
  | _ => 0
structure CmF (K : PySem.W.Frag) (C : Addr) (m : Str) : Prop where
  rd : ClX.CRead K C (.type "type")
  mt : ClX.CMet K C (.type "type") m (He.ma K C m) (cmFn K C m)
def foundB (o : Option PySem.W.CFound) (p C : Addr) : Bool := match o with
  | some (.get (.builtin id) (.ref p') .none (.ref C')) => decide (id = "classmethod.__get__") && (decide (p' = p) && decide (C' = C))
  | _ => false
theorem foundB_ok {o : Option PySem.W.CFound} {p C : Addr} (h : foundB o p C = true) : o = some (.get (.builtin "classmethod.__get__") (.ref p) .none (.ref C)) := by
  unfold foundB at h
  split at h
  · obtain ⟨h1, h⟩ := He.ba h
    obtain ⟨h2, h3⟩ := He.ba h
    rw [of_decide_eq_true h1, of_decide_eq_true h2, of_decide_eq_true h3]
  · cases h
def cmRcB (K : PySem.W.Frag) (C : Addr) (m : Str) : Bool := match PySem.W.recIn K (He.ma K C m) "classmethod" with
  | some (.ref _ :: _) => true
  | _ => false
theorem cmRcB_ok {K : PySem.W.Frag} {C : Addr} {m : Str} (h : cmRcB K C m = true) : ∃ rest, PySem.W.recIn K (He.ma K C m) "classmethod" = some (.ref (cmFn K C m) :: rest) := by
  unfold cmRcB at h
  unfold cmFn
  cases e : PySem.W.recIn K (He.ma K C m) "classmethod" with
  | none => rw [e] at h; cases h
  | some l =>
    cases l with
    | nil => rw [e] at h; cases h
    | cons v t =>
      cases v with
      | ref g => exact ⟨t, rfl⟩
      | _ => rw [e] at h; cases h
def cmB (C m : Str) : FaJ := fun K => PySem.W.readsIn K (He.ga K C) (.type "type") && (He.eqO (PySem.W.specialIn K (.ref (He.ga K C)) "__getattribute__") (some (some (.builtin "type.__getattribute__"))) &&
  (foundB (PySem.W.findCls K (.ref (He.ga K C)) (.type "type") m) (He.ma K (He.ga K C) m) (He.ga K C) && (cmRcB K (He.ga K C) m && PySem.W.fnIn K (cmFn K (He.ga K C) m))))
theorem cmB_ok {K : PySem.W.Frag} {C m : Str} (h : cmB C m K = true) : CmF K (He.ga K C) m := by
  obtain ⟨h1, h⟩ := He.ba h
  obtain ⟨h2, h⟩ := He.ba h
  obtain ⟨h3, h⟩ := He.ba h
  obtain ⟨h4, h5⟩ := He.ba h
  exact ⟨⟨h1, He.eqO_ok h2⟩, ⟨foundB_ok h3, cmRcB_ok h4, h5⟩⟩
end J
namespace Qk38
open PySem PySem.Spec PyProof.Rows L2 J
def top (i : Nat) : Stmt := PySem.Challenge.pw_jawturns_k38_whole_jaws_close.main.body.getD i (.Pass ⟨0, 0, 0, 0⟩)
abbrev s_is_whole : Stmt := top 15
abbrev N_is_whole : List Str := ["x"]
abbrev p_is_whole : List Str := ["x"]
theorem sc_is_whole : FnScope N_is_whole p_is_whole (defScope s_is_whole) := ⟨rfl, rfl, rfl, by decide +kernel, rfl, by decide +kernel, by decide +kernel⟩

abbrev s_is_whole_from : Stmt := top 16
abbrev N_is_whole_from : List Str := ["x", "low", "high"]
abbrev p_is_whole_from : List Str := ["x", "low", "high"]
theorem sc_is_whole_from : FnScope N_is_whole_from p_is_whole_from (defScope s_is_whole_from) := ⟨rfl, rfl, rfl, by decide +kernel, rfl, by decide +kernel, by decide +kernel⟩

abbrev s_is_row : Stmt := top 17
abbrev N_is_row : List Str := ["x"]
abbrev p_is_row : List Str := ["x"]
theorem sc_is_row : FnScope N_is_row p_is_row (defScope s_is_row) := ⟨rfl, rfl, rfl, by decide +kernel, rfl, by decide +kernel, by decide +kernel⟩

abbrev s_is_row_of : Stmt := top 18
abbrev N_is_row_of : List Str := ["x", "low", "high"]
abbrev p_is_row_of : List Str := ["x", "low", "high"]
theorem sc_is_row_of : FnScope N_is_row_of p_is_row_of (defScope s_is_row_of) := ⟨rfl, rfl, rfl, by decide +kernel, rfl, by decide +kernel, by decide +kernel⟩

abbrev s_is_word : Stmt := top 19
abbrev N_is_word : List Str := ["x"]
abbrev p_is_word : List Str := ["x"]
theorem sc_is_word : FnScope N_is_word p_is_word (defScope s_is_word) := ⟨rfl, rfl, rfl, by decide +kernel, rfl, by decide +kernel, by decide +kernel⟩

abbrev s_is_deed : Stmt := top 20
abbrev N_is_deed : List Str := ["x"]
abbrev p_is_deed : List Str := ["x"]
theorem sc_is_deed : FnScope N_is_deed p_is_deed (defScope s_is_deed) := ⟨rfl, rfl, rfl, by decide +kernel, rfl, by decide +kernel, by decide +kernel⟩

abbrev s_check_round : Stmt := top 21
abbrev N_check_round : List Str := ["around"]
abbrev p_check_round : List Str := ["around"]
theorem sc_check_round : FnScope N_check_round p_check_round (defScope s_check_round) := ⟨rfl, rfl, rfl, by decide +kernel, rfl, by decide +kernel, by decide +kernel⟩

abbrev s_check_widths : Stmt := top 22
abbrev N_check_widths : List Str := ["widths", "at", "width"]
abbrev p_check_widths : List Str := ["widths"]
theorem sc_check_widths : FnScope N_check_widths p_check_widths (defScope s_check_widths) := ⟨rfl, rfl, rfl, by decide +kernel, rfl, by decide +kernel, by decide +kernel⟩

abbrev s_checked_standings : Stmt := top 23
abbrev N_checked_standings : List Str := ["around", "standings", "standing"]
abbrev p_checked_standings : List Str := ["around", "standings"]
theorem sc_checked_standings : FnScope N_checked_standings p_checked_standings (defScope s_checked_standings) := ⟨rfl, rfl, rfl, by decide +kernel, rfl, by decide +kernel, by decide +kernel⟩

abbrev s_PlanD_initD : Stmt := inClass (top 26) 0
abbrev N_PlanD_initD : List Str := ["self", "around", "deeds", "at", "deed", "word", "turn"]
abbrev p_PlanD_initD : List Str := ["self", "around", "deeds"]
theorem sc_PlanD_initD : FnScope N_PlanD_initD p_PlanD_initD (defScope s_PlanD_initD) := ⟨rfl, rfl, rfl, by decide +kernel, rfl, by decide +kernel, by decide +kernel⟩

abbrev s_check_plan : Stmt := top 27
abbrev N_check_plan : List Str := ["part", "plan", "words", "word", "turn"]
abbrev p_check_plan : List Str := ["part", "plan"]
theorem sc_check_plan : FnScope N_check_plan p_check_plan (defScope s_check_plan) := ⟨rfl, rfl, rfl, by decide +kernel, rfl, by decide +kernel, by decide +kernel⟩

abbrev s_carried : Stmt := top 28
abbrev N_carried : List Str := ["part", "plan", "x"]
abbrev p_carried : List Str := ["part", "plan", "x"]
theorem sc_carried : FnScope N_carried p_carried (defScope s_carried) := ⟨rfl, rfl, rfl, by decide +kernel, rfl, by decide +kernel, by decide +kernel⟩

abbrev s_after : Stmt := top 29
abbrev N_after : List Str := ["part", "plan", "standings", "left", "deed", "x"]
abbrev p_after : List Str := ["part", "plan", "standings"]
theorem sc_after : FnScope N_after p_after (defScope s_after) := ⟨rfl, rfl, rfl, by decide +kernel, rfl, by decide +kernel, by decide +kernel⟩

abbrev s_counts : Stmt := top 30
abbrev N_counts : List Str := ["part", "plan", "standings"]
abbrev p_counts : List Str := ["part", "plan"]
theorem sc_counts : FnScope N_counts p_counts (defScope s_counts) := ⟨rfl, rfl, rfl, by decide +kernel, rfl, by decide +kernel, by decide +kernel⟩

abbrev s__carried_all : Stmt := top 31
abbrev N__carried_all : List Str := ["part", "plan", "places", "word", "turn", "turning", "x"]
abbrev p__carried_all : List Str := ["part", "plan", "places"]
theorem sc__carried_all : FnScope N__carried_all p__carried_all (defScope s__carried_all) := ⟨rfl, rfl, rfl, by decide +kernel, rfl, by decide +kernel, by decide +kernel⟩

abbrev s__unlike : Stmt := top 32
abbrev N__unlike : List Str := ["part", "plan", "period", "left", "steps", "deed", "x"]
abbrev p__unlike : List Str := ["part", "plan"]
theorem sc__unlike : FnScope N__unlike p__unlike (defScope s__unlike) := ⟨rfl, rfl, rfl, by decide +kernel, rfl, by decide +kernel, by decide +kernel⟩

abbrev s_PartD_initD : Stmt := inClass (top 34) 0
abbrev N_PartD_initD : List Str := ["self", "squeeze", "push", "widths", "turnings", "around"]
abbrev p_PartD_initD : List Str := ["self", "squeeze", "push", "widths"]
theorem sc_PartD_initD : FnScope N_PartD_initD p_PartD_initD (defScope s_PartD_initD) := ⟨rfl, rfl, rfl, by decide +kernel, rfl, by decide +kernel, by decide +kernel⟩

abbrev s_PartD_getitemD : Stmt := inClass (top 34) 3
abbrev N_PartD_getitemD : List Str := ["self", "at"]
abbrev p_PartD_getitemD : List Str := ["self", "at"]
theorem sc_PartD_getitemD : FnScope N_PartD_getitemD p_PartD_getitemD (defScope s_PartD_getitemD) := ⟨rfl, rfl, rfl, by decide +kernel, rfl, by decide +kernel, by decide +kernel⟩

abbrev s_Part_words : Stmt := inClass (top 34) 7
abbrev N_Part_words : List Str := ["self"]
abbrev p_Part_words : List Str := ["self"]
theorem sc_Part_words : FnScope N_Part_words p_Part_words (defScope s_Part_words) := ⟨rfl, rfl, rfl, by decide +kernel, rfl, by decide +kernel, by decide +kernel⟩

abbrev s_Part_period : Stmt := inClass (top 34) 8
abbrev N_Part_period : List Str := ["self", "period", "turning"]
abbrev p_Part_period : List Str := ["self"]
theorem sc_Part_period : FnScope N_Part_period p_Part_period (defScope s_Part_period) := ⟨rfl, rfl, rfl, by decide +kernel, rfl, by decide +kernel, by decide +kernel⟩

abbrev s_Part_settled : Stmt := inClass (top 34) 11
abbrev N_Part_settled : List Str := ["self", "standing", "deed", "word", "turn", "turning"]
abbrev p_Part_settled : List Str := ["self", "standing", "deed"]
theorem sc_Part_settled : FnScope N_Part_settled p_Part_settled (defScope s_Part_settled) := ⟨rfl, rfl, rfl, by decide +kernel, rfl, by decide +kernel, by decide +kernel⟩

abbrev s_Part_width : Stmt := inClass (top 34) 12
abbrev N_Part_width : List Str := ["self", "x"]
abbrev p_Part_width : List Str := ["self", "x"]
theorem sc_Part_width : FnScope N_Part_width p_Part_width (defScope s_Part_width) := ⟨rfl, rfl, rfl, by decide +kernel, rfl, by decide +kernel, by decide +kernel⟩

abbrev s__check_even : Stmt := top 35
abbrev N__check_even : List Str := ["squeeze"]
abbrev p__check_even : List Str := ["squeeze"]
theorem sc__check_even : FnScope N__check_even p__check_even (defScope s__check_even) := ⟨rfl, rfl, rfl, by decide +kernel, rfl, by decide +kernel, by decide +kernel⟩

abbrev s__check_shown : Stmt := top 36
abbrev N__check_shown : List Str := ["squeeze", "around", "widths", "at"]
abbrev p__check_shown : List Str := ["squeeze", "around", "widths"]
theorem sc__check_shown : FnScope N__check_shown p__check_shown (defScope s__check_shown) := ⟨rfl, rfl, rfl, by decide +kernel, rfl, by decide +kernel, by decide +kernel⟩

abbrev s_TurningD_initD : Stmt := inClass (top 39) 0
abbrev N_TurningD_initD : List Str := ["self", "around", "rows"]
abbrev p_TurningD_initD : List Str := ["self", "around", "rows"]
theorem sc_TurningD_initD : FnScope N_TurningD_initD p_TurningD_initD (defScope s_TurningD_initD) := ⟨rfl, rfl, rfl, by decide +kernel, rfl, by decide +kernel, by decide +kernel⟩

abbrev s_Turning_of_widths : Stmt := inClass (top 39) 1
abbrev N_Turning_of_widths : List Str := ["cls", "widths", "around", "at"]
abbrev p_Turning_of_widths : List Str := ["cls", "widths"]
theorem sc_Turning_of_widths : FnScope N_Turning_of_widths p_Turning_of_widths (defScope s_Turning_of_widths) := ⟨rfl, rfl, rfl, by decide +kernel, rfl, by decide +kernel, by decide +kernel⟩

abbrev s_TurningD_callD : Stmt := inClass (top 39) 4
abbrev N_TurningD_callD : List Str := ["self", "x"]
abbrev p_TurningD_callD : List Str := ["self", "x"]
theorem sc_TurningD_callD : FnScope N_TurningD_callD p_TurningD_callD (defScope s_TurningD_callD) := ⟨rfl, rfl, rfl, by decide +kernel, rfl, by decide +kernel, by decide +kernel⟩

abbrev s_Turning_period : Stmt := inClass (top 39) 6
abbrev N_Turning_period : List Str := ["self"]
abbrev p_Turning_period : List Str := ["self"]
theorem sc_Turning_period : FnScope N_Turning_period p_Turning_period (defScope s_Turning_period) := ⟨rfl, rfl, rfl, by decide +kernel, rfl, by decide +kernel, by decide +kernel⟩

abbrev s_Turning_lifted : Stmt := inClass (top 39) 8
abbrev N_Turning_lifted : List Str := ["self", "x", "place"]
abbrev p_Turning_lifted : List Str := ["self", "x"]
theorem sc_Turning_lifted : FnScope N_Turning_lifted p_Turning_lifted (defScope s_Turning_lifted) := ⟨rfl, rfl, rfl, by decide +kernel, rfl, by decide +kernel, by decide +kernel⟩

abbrev s_Turning_is_even : Stmt := inClass (top 39) 9
abbrev N_Turning_is_even : List Str := ["self"]
abbrev p_Turning_is_even : List Str := ["self"]
theorem sc_Turning_is_even : FnScope N_Turning_is_even p_Turning_is_even (defScope s_Turning_is_even) := ⟨rfl, rfl, rfl, by decide +kernel, rfl, by decide +kernel, by decide +kernel⟩

abbrev s__is_pair : Stmt := top 40
abbrev N__is_pair : List Str := ["around", "pair"]
abbrev p__is_pair : List Str := ["around", "pair"]
theorem sc__is_pair : FnScope N__is_pair p__is_pair (defScope s__is_pair) := ⟨rfl, rfl, rfl, by decide +kernel, rfl, by decide +kernel, by decide +kernel⟩

abbrev s__check_rows : Stmt := top 41
abbrev N__check_rows : List Str := ["around", "rows", "before", "at", "pair", "ends", "begin", "rest"]
abbrev p__check_rows : List Str := ["around", "rows"]
theorem sc__check_rows : FnScope N__check_rows p__check_rows (defScope s__check_rows) := ⟨rfl, rfl, rfl, by decide +kernel, rfl, by decide +kernel, by decide +kernel⟩

abbrev s__ends : Stmt := top 42
abbrev N__ends : List Str := ["around", "rows", "begins", "begin", "rest"]
abbrev p__ends : List Str := ["around", "rows"]
theorem sc__ends : FnScope N__ends p__ends (defScope s__ends) := ⟨rfl, rfl, rfl, by decide +kernel, rfl, by decide +kernel, by decide +kernel⟩

abbrev s__lifts_of_places : Stmt := top 43
abbrev N__lifts_of_places : List Str := ["around", "rows", "lifts", "ends", "at", "begin", "rest", "goal", "x", "place"]
abbrev p__lifts_of_places : List Str := ["around", "rows"]
theorem sc__lifts_of_places : FnScope N__lifts_of_places p__lifts_of_places (defScope s__lifts_of_places) := ⟨rfl, rfl, rfl, by decide +kernel, rfl, by decide +kernel, by decide +kernel⟩

abbrev s__turned_rows : Stmt := top 44
abbrev N__turned_rows : List Str := ["around", "rows", "c", "begin", "rest"]
abbrev p__turned_rows : List Str := ["around", "rows", "c"]
theorem sc__turned_rows : FnScope N__turned_rows p__turned_rows (defScope s__turned_rows) := ⟨rfl, rfl, rfl, by decide +kernel, rfl, by decide +kernel, by decide +kernel⟩

abbrev s__least_period : Stmt := top 45
abbrev N__least_period : List Str := ["around", "rows", "times", "many"]
abbrev p__least_period : List Str := ["around", "rows"]
theorem sc__least_period : FnScope N__least_period p__least_period (defScope s__least_period) := ⟨rfl, rfl, rfl, by decide +kernel, rfl, by decide +kernel, by decide +kernel⟩

abbrev s__rows_downhill : Stmt := top 46
abbrev N__rows_downhill : List Str := ["around", "widths", "tops", "valleys", "x", "rises", "falls", "rests", "top", "rest", "valley"]
abbrev p__rows_downhill : List Str := ["around", "widths"]
theorem sc__rows_downhill : FnScope N__rows_downhill p__rows_downhill (defScope s__rows_downhill) := ⟨rfl, rfl, rfl, by decide +kernel, rfl, by decide +kernel, by decide +kernel⟩

abbrev s_L_state : Stmt := top 48
abbrev N_L_state : List Str := ["_law_script"]
abbrev p_L_state : List Str := ["_law_script"]
theorem sc_L_state : FnScope N_L_state p_L_state (defScope s_L_state) := ⟨rfl, rfl, rfl, by decide +kernel, rfl, by decide +kernel, by decide +kernel⟩

abbrev s_L_draw : Stmt := top 49
abbrev N_L_draw : List Str := ["_law_state_here", "_law_many", "_law_digit", "_law_cell", "_law_number"]
abbrev p_L_draw : List Str := ["_law_state_here", "_law_many"]
theorem sc_L_draw : FnScope N_L_draw p_L_draw (defScope s_L_draw) := ⟨rfl, rfl, rfl, by decide +kernel, rfl, by decide +kernel, by decide +kernel⟩

abbrev s_L_deeds : Stmt := top 50
abbrev N_L_deeds : List Str := ["_law_state_here", "_law_around", "_law_words", "_law_many", "_law_deeds_here", "_law_k", "_law_word"]
abbrev p_L_deeds : List Str := ["_law_state_here", "_law_around", "_law_words", "_law_many"]
theorem sc_L_deeds : FnScope N_L_deeds p_L_deeds (defScope s_L_deeds) := ⟨rfl, rfl, rfl, by decide +kernel, rfl, by decide +kernel, by decide +kernel⟩

abbrev s_L_slope : Stmt := top 51
abbrev N_L_slope : List Str := ["_law_low", "_law_high", "_law_many", "_law_k"]
abbrev p_L_slope : List Str := ["_law_low", "_law_high", "_law_many"]
theorem sc_L_slope : FnScope N_L_slope p_L_slope (defScope s_L_slope) := ⟨rfl, rfl, rfl, by decide +kernel, rfl, by decide +kernel, by decide +kernel⟩

abbrev s_L_half : Stmt := top 52
abbrev N_L_half : List Str := ["_law_state_here", "_law_many", "_law_k", "_law_tops", "_law_widths", "_law_low", "_law_down", "_law_shift"]
abbrev p_L_half : List Str := ["_law_state_here"]
theorem sc_L_half : FnScope N_L_half p_L_half (defScope s_L_half) := ⟨rfl, rfl, rfl, by decide +kernel, rfl, by decide +kernel, by decide +kernel⟩

abbrev s_L_rolled : Stmt := top 53
abbrev N_L_rolled : List Str := ["_law_widths", "_law_x", "_law_many", "_law_k", "_law_here", "_law_left", "_law_right"]
abbrev p_L_rolled : List Str := ["_law_widths", "_law_x"]
theorem sc_L_rolled : FnScope N_L_rolled p_L_rolled (defScope s_L_rolled) := ⟨rfl, rfl, rfl, by decide +kernel, rfl, by decide +kernel, by decide +kernel⟩

abbrev s_law : Stmt := top 54
abbrev N_law : List Str := ["_law_script", "_law_state_here", "_law_half_here", "_law_widths", "_law_around", "_law_part", "_law_deeds_here", "_law_plan", "_law_left", "_law_period", "_law_x", "_law_standing", "_law_word", "_law_turn", "_law_rolled_here"]
abbrev p_law : List Str := ["_law_script"]
theorem sc_law : FnScope N_law p_law (defScope s_law) := ⟨rfl, rfl, rfl, by decide +kernel, rfl, by decide +kernel, by decide +kernel⟩

abbrev s_BadRoundDi : Stmt := inClass (top 4) 0
abbrev s_BadRowsDi : Stmt := inClass (top 5) 0
abbrev s_BadWordDi : Stmt := inClass (top 8) 0
abbrev s_BadStandingDi : Stmt := inClass (top 7) 0
abbrev s_BadTurnDi : Stmt := inClass (top 6) 0
abbrev s_BadPlanDi : Stmt := inClass (top 9) 0
structure Env (P : Program) (K : PySem.W.Frag) (mg : Str → Option Value) : Prop where
  b_isinstance : mg "isinstance" = none
  b_int : mg "int" = none
  b_bool : mg "bool" = none
  b_list : mg "list" = none
  b_tuple : mg "tuple" = none
  b_len : mg "len" = none
  b_enumerate : mg "enumerate" = none
  b_range : mg "range" = none
  b_sorted : mg "sorted" = none
  b_set : mg "set" = none
  b_property : mg "property" = none
  b_classmethod : mg "classmethod" = none
  b_min : mg "min" = none
  b_zip : mg "zip" = none
  b_super : mg "super" = none
  c_LEAST_ROUND : ∃ t, mg "LEAST_ROUND" = some (.int 2 t)
  c_GREATEST_ROUND : ∃ t, mg "GREATEST_ROUND" = some (.int 360 t)
  c_GREATEST_WIDTH : ∃ t, mg "GREATEST_WIDTH" = some (.int 1000000000000 t)
  c_MOST_DEEDS : ∃ t, mg "MOST_DEEDS" = some (.int 400 t)
  c_MOST_PAIRS : ∃ t, mg "MOST_PAIRS" = some (.int 12 t)
  k_Plan : Cls K (He.ga K "Plan")
  g_Plan : mg "Plan" = some (.ref (He.ga K "Plan"))
  n_Plan_around : NoAttr K (He.ga K "Plan") "around"
  n_Plan_deeds : NoAttr K (He.ga K "Plan") "deeds"
  k_Part : Cls K (He.ga K "Part")
  g_Part : mg "Part" = some (.ref (He.ga K "Part"))
  n_Part_around : NoAttr K (He.ga K "Part") "around"
  n_Part__turnings : NoAttr K (He.ga K "Part") "_turnings"
  n_Part__widths : NoAttr K (He.ga K "Part") "_widths"
  k_Turning : Cls K (He.ga K "Turning")
  g_Turning : mg "Turning" = some (.ref (He.ga K "Turning"))
  n_Turning_around : NoAttr K (He.ga K "Turning") "around"
  n_Turning_rows : NoAttr K (He.ga K "Turning") "rows"
  n_Turning__lifts : NoAttr K (He.ga K "Turning") "_lifts"
  n_Turning__period : NoAttr K (He.ga K "Turning") "_period"
  g_WORDS : mg "WORDS" = some (.ref (He.ga K "WORDS"))
  t_WORDS : ∀ H : Hp, SqT K H (He.ga K "WORDS") [.str "push", .str "squeeze"]
  g_lcm : mg "lcm" = some (.builtin "math.lcm")
  q_Part : SubF K (He.ga K "Part")
  mk_Plan : Mk K (He.ga K "Plan") (He.ma K (He.ga K "Plan") "__init__")
  mk_Part : Mk K (He.ga K "Part") (He.ma K (He.ga K "Part") "__init__")
  mk_Turning : Mk K (He.ga K "Turning") (He.ma K (He.ga K "Turning") "__init__")
  g_is_whole : mg "is_whole" = some (.ref (He.ga K "is_whole"))
  s_is_whole : Src K "is_whole" "is_whole" s_is_whole (He.fAd K ("is_whole", none))
  g_is_whole_from : mg "is_whole_from" = some (.ref (He.ga K "is_whole_from"))
  s_is_whole_from : Src K "is_whole_from" "is_whole_from" s_is_whole_from (He.fAd K ("is_whole_from", none))
  g_is_row : mg "is_row" = some (.ref (He.ga K "is_row"))
  s_is_row : Src K "is_row" "is_row" s_is_row (He.fAd K ("is_row", none))
  g_is_row_of : mg "is_row_of" = some (.ref (He.ga K "is_row_of"))
  s_is_row_of : Src K "is_row_of" "is_row_of" s_is_row_of (He.fAd K ("is_row_of", none))
  g_is_word : mg "is_word" = some (.ref (He.ga K "is_word"))
  s_is_word : Src K "is_word" "is_word" s_is_word (He.fAd K ("is_word", none))
  g_is_deed : mg "is_deed" = some (.ref (He.ga K "is_deed"))
  s_is_deed : Src K "is_deed" "is_deed" s_is_deed (He.fAd K ("is_deed", none))
  g_check_round : mg "check_round" = some (.ref (He.ga K "check_round"))
  s_check_round : Src K "check_round" "check_round" s_check_round (He.fAd K ("check_round", none))
  g_check_widths : mg "check_widths" = some (.ref (He.ga K "check_widths"))
  s_check_widths : Src K "check_widths" "check_widths" s_check_widths (He.fAd K ("check_widths", none))
  g_checked_standings : mg "checked_standings" = some (.ref (He.ga K "checked_standings"))
  s_checked_standings : Src K "checked_standings" "checked_standings" s_checked_standings (He.fAd K ("checked_standings", none))
  s_PlanD_initD : Src K "__init__" "Plan.__init__" s_PlanD_initD (He.fAd K ("Plan", some "__init__"))
  g_check_plan : mg "check_plan" = some (.ref (He.ga K "check_plan"))
  s_check_plan : Src K "check_plan" "check_plan" s_check_plan (He.fAd K ("check_plan", none))
  g_carried : mg "carried" = some (.ref (He.ga K "carried"))
  s_carried : Src K "carried" "carried" s_carried (He.fAd K ("carried", none))
  g_after : mg "after" = some (.ref (He.ga K "after"))
  s_after : SrcD K "after" "after" s_after [.non] (He.fAd K ("after", none))
  g_counts : mg "counts" = some (.ref (He.ga K "counts"))
  s_counts : Src K "counts" "counts" s_counts (He.fAd K ("counts", none))
  g__carried_all : mg "_carried_all" = some (.ref (He.ga K "_carried_all"))
  s__carried_all : Src K "_carried_all" "_carried_all" s__carried_all (He.fAd K ("_carried_all", none))
  g__unlike : mg "_unlike" = some (.ref (He.ga K "_unlike"))
  s__unlike : Src K "_unlike" "_unlike" s__unlike (He.fAd K ("_unlike", none))
  s_PartD_initD : SrcD K "__init__" "Part.__init__" s_PartD_initD [.non, .non, .non] (He.fAd K ("Part", some "__init__"))
  m_PartD_getitemD : Meth K (He.ga K "Part") "__getitem__" (He.ma K (He.ga K "Part") "__getitem__")
  s_PartD_getitemD : Src K "__getitem__" "Part.__getitem__" s_PartD_getitemD (He.fAd K ("Part", some "__getitem__"))
  m_Part_words : PropOf K (He.ga K "Part") "words" (He.ma K (He.ga K "Part") "words") (pg K (He.ga K "Part") "words")
  s_Part_words : Src K "words" "Part.words" s_Part_words (pg K (He.ga K "Part") "words")
  m_Part_period : PropOf K (He.ga K "Part") "period" (He.ma K (He.ga K "Part") "period") (pg K (He.ga K "Part") "period")
  s_Part_period : Src K "period" "Part.period" s_Part_period (pg K (He.ga K "Part") "period")
  m_Part_settled : Meth K (He.ga K "Part") "settled" (He.ma K (He.ga K "Part") "settled")
  s_Part_settled : Src K "settled" "Part.settled" s_Part_settled (He.fAd K ("Part", some "settled"))
  m_Part_width : Meth K (He.ga K "Part") "width" (He.ma K (He.ga K "Part") "width")
  s_Part_width : Src K "width" "Part.width" s_Part_width (He.fAd K ("Part", some "width"))
  g__check_even : mg "_check_even" = some (.ref (He.ga K "_check_even"))
  s__check_even : Src K "_check_even" "_check_even" s__check_even (He.fAd K ("_check_even", none))
  g__check_shown : mg "_check_shown" = some (.ref (He.ga K "_check_shown"))
  s__check_shown : Src K "_check_shown" "_check_shown" s__check_shown (He.fAd K ("_check_shown", none))
  s_TurningD_initD : Src K "__init__" "Turning.__init__" s_TurningD_initD (He.fAd K ("Turning", some "__init__"))
  m_Turning_of_widths : CmF K (He.ga K "Turning") "of_widths"
  s_Turning_of_widths : Src K "of_widths" "Turning.of_widths" s_Turning_of_widths (cmFn K (He.ga K "Turning") "of_widths")
  m_TurningD_callD : Meth K (He.ga K "Turning") "__call__" (He.ma K (He.ga K "Turning") "__call__")
  s_TurningD_callD : Src K "__call__" "Turning.__call__" s_TurningD_callD (He.fAd K ("Turning", some "__call__"))
  m_Turning_period : PropOf K (He.ga K "Turning") "period" (He.ma K (He.ga K "Turning") "period") (pg K (He.ga K "Turning") "period")
  s_Turning_period : Src K "period" "Turning.period" s_Turning_period (pg K (He.ga K "Turning") "period")
  m_Turning_lifted : Meth K (He.ga K "Turning") "lifted" (He.ma K (He.ga K "Turning") "lifted")
  s_Turning_lifted : Src K "lifted" "Turning.lifted" s_Turning_lifted (He.fAd K ("Turning", some "lifted"))
  m_Turning_is_even : Meth K (He.ga K "Turning") "is_even" (He.ma K (He.ga K "Turning") "is_even")
  s_Turning_is_even : Src K "is_even" "Turning.is_even" s_Turning_is_even (He.fAd K ("Turning", some "is_even"))
  g__is_pair : mg "_is_pair" = some (.ref (He.ga K "_is_pair"))
  s__is_pair : Src K "_is_pair" "_is_pair" s__is_pair (He.fAd K ("_is_pair", none))
  g__check_rows : mg "_check_rows" = some (.ref (He.ga K "_check_rows"))
  s__check_rows : Src K "_check_rows" "_check_rows" s__check_rows (He.fAd K ("_check_rows", none))
  g__ends : mg "_ends" = some (.ref (He.ga K "_ends"))
  s__ends : Src K "_ends" "_ends" s__ends (He.fAd K ("_ends", none))
  g__lifts_of_places : mg "_lifts_of_places" = some (.ref (He.ga K "_lifts_of_places"))
  s__lifts_of_places : Src K "_lifts_of_places" "_lifts_of_places" s__lifts_of_places (He.fAd K ("_lifts_of_places", none))
  g__turned_rows : mg "_turned_rows" = some (.ref (He.ga K "_turned_rows"))
  s__turned_rows : Src K "_turned_rows" "_turned_rows" s__turned_rows (He.fAd K ("_turned_rows", none))
  g__least_period : mg "_least_period" = some (.ref (He.ga K "_least_period"))
  s__least_period : Src K "_least_period" "_least_period" s__least_period (He.fAd K ("_least_period", none))
  g__rows_downhill : mg "_rows_downhill" = some (.ref (He.ga K "_rows_downhill"))
  s__rows_downhill : Src K "_rows_downhill" "_rows_downhill" s__rows_downhill (He.fAd K ("_rows_downhill", none))
  g_L_state : mg "_law_state" = some (.ref (He.ga K "_law_state"))
  s_L_state : Src K "_law_state" "_law_state" s_L_state (He.fAd K ("_law_state", none))
  g_L_draw : mg "_law_draw" = some (.ref (He.ga K "_law_draw"))
  s_L_draw : Src K "_law_draw" "_law_draw" s_L_draw (He.fAd K ("_law_draw", none))
  g_L_deeds : mg "_law_deeds" = some (.ref (He.ga K "_law_deeds"))
  s_L_deeds : Src K "_law_deeds" "_law_deeds" s_L_deeds (He.fAd K ("_law_deeds", none))
  g_L_slope : mg "_law_slope" = some (.ref (He.ga K "_law_slope"))
  s_L_slope : Src K "_law_slope" "_law_slope" s_L_slope (He.fAd K ("_law_slope", none))
  g_L_half : mg "_law_half" = some (.ref (He.ga K "_law_half"))
  s_L_half : Src K "_law_half" "_law_half" s_L_half (He.fAd K ("_law_half", none))
  g_L_rolled : mg "_law_rolled" = some (.ref (He.ga K "_law_rolled"))
  s_L_rolled : Src K "_law_rolled" "_law_rolled" s_L_rolled (He.fAd K ("_law_rolled", none))
  g_law : mg "law" = some (.ref (He.ga K "law"))
  s_law : Src K "law" "law" s_law (He.fAd K ("law", none))
  e_BadRound : ErrIs P K mg (He.ga K "BadRound") "BadRound" "value"
  e_BadRows : ErrIs P K mg (He.ga K "BadRows") "BadRows" "at"
  e_BadWord : ErrIs P K mg (He.ga K "BadWord") "BadWord" "value"
  e_BadStanding : ErrIs P K mg (He.ga K "BadStanding") "BadStanding" "value"
  e_BadTurn : ErrIs P K mg (He.ga K "BadTurn") "BadTurn" "value"
  e_BadPlan : ErrIs P K mg (He.ga K "BadPlan") "BadPlan" "at"
  x_BadRound_BadRound : PySem.W.exmOne K (.ref (He.ga K "BadRound")) (.ref (He.ga K "BadRound")) = some true
  x_BadRound_BadRows : PySem.W.exmOne K (.ref (He.ga K "BadRound")) (.ref (He.ga K "BadRows")) = some false
  x_BadRound_BadWord : PySem.W.exmOne K (.ref (He.ga K "BadRound")) (.ref (He.ga K "BadWord")) = some false
  x_BadRound_BadStanding : PySem.W.exmOne K (.ref (He.ga K "BadRound")) (.ref (He.ga K "BadStanding")) = some false
  x_BadRound_BadTurn : PySem.W.exmOne K (.ref (He.ga K "BadRound")) (.ref (He.ga K "BadTurn")) = some false
  x_BadRound_BadPlan : PySem.W.exmOne K (.ref (He.ga K "BadRound")) (.ref (He.ga K "BadPlan")) = some false
  x_BadRows_BadRound : PySem.W.exmOne K (.ref (He.ga K "BadRows")) (.ref (He.ga K "BadRound")) = some false
  x_BadRows_BadRows : PySem.W.exmOne K (.ref (He.ga K "BadRows")) (.ref (He.ga K "BadRows")) = some true
  x_BadRows_BadWord : PySem.W.exmOne K (.ref (He.ga K "BadRows")) (.ref (He.ga K "BadWord")) = some false
  x_BadRows_BadStanding : PySem.W.exmOne K (.ref (He.ga K "BadRows")) (.ref (He.ga K "BadStanding")) = some false
  x_BadRows_BadTurn : PySem.W.exmOne K (.ref (He.ga K "BadRows")) (.ref (He.ga K "BadTurn")) = some false
  x_BadRows_BadPlan : PySem.W.exmOne K (.ref (He.ga K "BadRows")) (.ref (He.ga K "BadPlan")) = some false
  x_BadWord_BadRound : PySem.W.exmOne K (.ref (He.ga K "BadWord")) (.ref (He.ga K "BadRound")) = some false
  x_BadWord_BadRows : PySem.W.exmOne K (.ref (He.ga K "BadWord")) (.ref (He.ga K "BadRows")) = some false
  x_BadWord_BadWord : PySem.W.exmOne K (.ref (He.ga K "BadWord")) (.ref (He.ga K "BadWord")) = some true
  x_BadWord_BadStanding : PySem.W.exmOne K (.ref (He.ga K "BadWord")) (.ref (He.ga K "BadStanding")) = some false
  x_BadWord_BadTurn : PySem.W.exmOne K (.ref (He.ga K "BadWord")) (.ref (He.ga K "BadTurn")) = some false
  x_BadWord_BadPlan : PySem.W.exmOne K (.ref (He.ga K "BadWord")) (.ref (He.ga K "BadPlan")) = some false
  x_BadStanding_BadRound : PySem.W.exmOne K (.ref (He.ga K "BadStanding")) (.ref (He.ga K "BadRound")) = some false
  x_BadStanding_BadRows : PySem.W.exmOne K (.ref (He.ga K "BadStanding")) (.ref (He.ga K "BadRows")) = some false
  x_BadStanding_BadWord : PySem.W.exmOne K (.ref (He.ga K "BadStanding")) (.ref (He.ga K "BadWord")) = some false
  x_BadStanding_BadStanding : PySem.W.exmOne K (.ref (He.ga K "BadStanding")) (.ref (He.ga K "BadStanding")) = some true
  x_BadStanding_BadTurn : PySem.W.exmOne K (.ref (He.ga K "BadStanding")) (.ref (He.ga K "BadTurn")) = some false
  x_BadStanding_BadPlan : PySem.W.exmOne K (.ref (He.ga K "BadStanding")) (.ref (He.ga K "BadPlan")) = some false
  x_BadTurn_BadRound : PySem.W.exmOne K (.ref (He.ga K "BadTurn")) (.ref (He.ga K "BadRound")) = some false
  x_BadTurn_BadRows : PySem.W.exmOne K (.ref (He.ga K "BadTurn")) (.ref (He.ga K "BadRows")) = some false
  x_BadTurn_BadWord : PySem.W.exmOne K (.ref (He.ga K "BadTurn")) (.ref (He.ga K "BadWord")) = some false
  x_BadTurn_BadStanding : PySem.W.exmOne K (.ref (He.ga K "BadTurn")) (.ref (He.ga K "BadStanding")) = some false
  x_BadTurn_BadTurn : PySem.W.exmOne K (.ref (He.ga K "BadTurn")) (.ref (He.ga K "BadTurn")) = some true
  x_BadTurn_BadPlan : PySem.W.exmOne K (.ref (He.ga K "BadTurn")) (.ref (He.ga K "BadPlan")) = some false
  x_BadPlan_BadRound : PySem.W.exmOne K (.ref (He.ga K "BadPlan")) (.ref (He.ga K "BadRound")) = some false
  x_BadPlan_BadRows : PySem.W.exmOne K (.ref (He.ga K "BadPlan")) (.ref (He.ga K "BadRows")) = some false
  x_BadPlan_BadWord : PySem.W.exmOne K (.ref (He.ga K "BadPlan")) (.ref (He.ga K "BadWord")) = some false
  x_BadPlan_BadStanding : PySem.W.exmOne K (.ref (He.ga K "BadPlan")) (.ref (He.ga K "BadStanding")) = some false
  x_BadPlan_BadTurn : PySem.W.exmOne K (.ref (He.ga K "BadPlan")) (.ref (He.ga K "BadTurn")) = some false
  x_BadPlan_BadPlan : PySem.W.exmOne K (.ref (He.ga K "BadPlan")) (.ref (He.ga K "BadPlan")) = some true
end Qk38
namespace Qk38
open PySem PySem.Spec PyProof.Rows L2 J
def d_is_whole : DefJ := ⟨fun K => (He.fAd K ("is_whole", none)), "is_whole", "is_whole", defArgs s_is_whole, defBody s_is_whole, defScope s_is_whole, [], []⟩
def d_is_whole_from : DefJ := ⟨fun K => (He.fAd K ("is_whole_from", none)), "is_whole_from", "is_whole_from", defArgs s_is_whole_from, defBody s_is_whole_from, defScope s_is_whole_from, [], []⟩
def d_is_row : DefJ := ⟨fun K => (He.fAd K ("is_row", none)), "is_row", "is_row", defArgs s_is_row, defBody s_is_row, defScope s_is_row, [], []⟩
def d_is_row_of : DefJ := ⟨fun K => (He.fAd K ("is_row_of", none)), "is_row_of", "is_row_of", defArgs s_is_row_of, defBody s_is_row_of, defScope s_is_row_of, [], []⟩
def d_is_word : DefJ := ⟨fun K => (He.fAd K ("is_word", none)), "is_word", "is_word", defArgs s_is_word, defBody s_is_word, defScope s_is_word, [], []⟩
def d_is_deed : DefJ := ⟨fun K => (He.fAd K ("is_deed", none)), "is_deed", "is_deed", defArgs s_is_deed, defBody s_is_deed, defScope s_is_deed, [], []⟩
def d_check_round : DefJ := ⟨fun K => (He.fAd K ("check_round", none)), "check_round", "check_round", defArgs s_check_round, defBody s_check_round, defScope s_check_round, [], []⟩
def d_check_widths : DefJ := ⟨fun K => (He.fAd K ("check_widths", none)), "check_widths", "check_widths", defArgs s_check_widths, defBody s_check_widths, defScope s_check_widths, [], []⟩
def d_checked_standings : DefJ := ⟨fun K => (He.fAd K ("checked_standings", none)), "checked_standings", "checked_standings", defArgs s_checked_standings, defBody s_checked_standings, defScope s_checked_standings, [], []⟩
def d_PlanD_initD : DefJ := ⟨fun K => (He.fAd K ("Plan", some "__init__")), "__init__", "Plan.__init__", defArgs s_PlanD_initD, defBody s_PlanD_initD, defScope s_PlanD_initD, [], []⟩
def d_check_plan : DefJ := ⟨fun K => (He.fAd K ("check_plan", none)), "check_plan", "check_plan", defArgs s_check_plan, defBody s_check_plan, defScope s_check_plan, [], []⟩
def d_carried : DefJ := ⟨fun K => (He.fAd K ("carried", none)), "carried", "carried", defArgs s_carried, defBody s_carried, defScope s_carried, [], []⟩
def d_after : DefJ := ⟨fun K => (He.fAd K ("after", none)), "after", "after", defArgs s_after, defBody s_after, defScope s_after, [.non], []⟩
def d_counts : DefJ := ⟨fun K => (He.fAd K ("counts", none)), "counts", "counts", defArgs s_counts, defBody s_counts, defScope s_counts, [], []⟩
def d__carried_all : DefJ := ⟨fun K => (He.fAd K ("_carried_all", none)), "_carried_all", "_carried_all", defArgs s__carried_all, defBody s__carried_all, defScope s__carried_all, [], []⟩
def d__unlike : DefJ := ⟨fun K => (He.fAd K ("_unlike", none)), "_unlike", "_unlike", defArgs s__unlike, defBody s__unlike, defScope s__unlike, [], []⟩
def d_PartD_initD : DefJ := ⟨fun K => (He.fAd K ("Part", some "__init__")), "__init__", "Part.__init__", defArgs s_PartD_initD, defBody s_PartD_initD, defScope s_PartD_initD, [.non, .non, .non], []⟩
def d_PartD_getitemD : DefJ := ⟨fun K => (He.fAd K ("Part", some "__getitem__")), "__getitem__", "Part.__getitem__", defArgs s_PartD_getitemD, defBody s_PartD_getitemD, defScope s_PartD_getitemD, [], []⟩
def d_Part_words : DefJ := ⟨fun K => (pg K (He.ga K "Part") "words"), "words", "Part.words", defArgs s_Part_words, defBody s_Part_words, defScope s_Part_words, [], []⟩
def d_Part_period : DefJ := ⟨fun K => (pg K (He.ga K "Part") "period"), "period", "Part.period", defArgs s_Part_period, defBody s_Part_period, defScope s_Part_period, [], []⟩
def d_Part_settled : DefJ := ⟨fun K => (He.fAd K ("Part", some "settled")), "settled", "Part.settled", defArgs s_Part_settled, defBody s_Part_settled, defScope s_Part_settled, [], []⟩
def d_Part_width : DefJ := ⟨fun K => (He.fAd K ("Part", some "width")), "width", "Part.width", defArgs s_Part_width, defBody s_Part_width, defScope s_Part_width, [], []⟩
def d__check_even : DefJ := ⟨fun K => (He.fAd K ("_check_even", none)), "_check_even", "_check_even", defArgs s__check_even, defBody s__check_even, defScope s__check_even, [], []⟩
def d__check_shown : DefJ := ⟨fun K => (He.fAd K ("_check_shown", none)), "_check_shown", "_check_shown", defArgs s__check_shown, defBody s__check_shown, defScope s__check_shown, [], []⟩
def d_TurningD_initD : DefJ := ⟨fun K => (He.fAd K ("Turning", some "__init__")), "__init__", "Turning.__init__", defArgs s_TurningD_initD, defBody s_TurningD_initD, defScope s_TurningD_initD, [], []⟩
def d_Turning_of_widths : DefJ := ⟨fun K => (cmFn K (He.ga K "Turning") "of_widths"), "of_widths", "Turning.of_widths", defArgs s_Turning_of_widths, defBody s_Turning_of_widths, defScope s_Turning_of_widths, [], []⟩
def d_TurningD_callD : DefJ := ⟨fun K => (He.fAd K ("Turning", some "__call__")), "__call__", "Turning.__call__", defArgs s_TurningD_callD, defBody s_TurningD_callD, defScope s_TurningD_callD, [], []⟩
def d_Turning_period : DefJ := ⟨fun K => (pg K (He.ga K "Turning") "period"), "period", "Turning.period", defArgs s_Turning_period, defBody s_Turning_period, defScope s_Turning_period, [], []⟩
def d_Turning_lifted : DefJ := ⟨fun K => (He.fAd K ("Turning", some "lifted")), "lifted", "Turning.lifted", defArgs s_Turning_lifted, defBody s_Turning_lifted, defScope s_Turning_lifted, [], []⟩
def d_Turning_is_even : DefJ := ⟨fun K => (He.fAd K ("Turning", some "is_even")), "is_even", "Turning.is_even", defArgs s_Turning_is_even, defBody s_Turning_is_even, defScope s_Turning_is_even, [], []⟩
def d__is_pair : DefJ := ⟨fun K => (He.fAd K ("_is_pair", none)), "_is_pair", "_is_pair", defArgs s__is_pair, defBody s__is_pair, defScope s__is_pair, [], []⟩
def d__check_rows : DefJ := ⟨fun K => (He.fAd K ("_check_rows", none)), "_check_rows", "_check_rows", defArgs s__check_rows, defBody s__check_rows, defScope s__check_rows, [], []⟩
def d__ends : DefJ := ⟨fun K => (He.fAd K ("_ends", none)), "_ends", "_ends", defArgs s__ends, defBody s__ends, defScope s__ends, [], []⟩
def d__lifts_of_places : DefJ := ⟨fun K => (He.fAd K ("_lifts_of_places", none)), "_lifts_of_places", "_lifts_of_places", defArgs s__lifts_of_places, defBody s__lifts_of_places, defScope s__lifts_of_places, [], []⟩
def d__turned_rows : DefJ := ⟨fun K => (He.fAd K ("_turned_rows", none)), "_turned_rows", "_turned_rows", defArgs s__turned_rows, defBody s__turned_rows, defScope s__turned_rows, [], []⟩
def d__least_period : DefJ := ⟨fun K => (He.fAd K ("_least_period", none)), "_least_period", "_least_period", defArgs s__least_period, defBody s__least_period, defScope s__least_period, [], []⟩
def d__rows_downhill : DefJ := ⟨fun K => (He.fAd K ("_rows_downhill", none)), "_rows_downhill", "_rows_downhill", defArgs s__rows_downhill, defBody s__rows_downhill, defScope s__rows_downhill, [], []⟩
def d_L_state : DefJ := ⟨fun K => (He.fAd K ("_law_state", none)), "_law_state", "_law_state", defArgs s_L_state, defBody s_L_state, defScope s_L_state, [], []⟩
def d_L_draw : DefJ := ⟨fun K => (He.fAd K ("_law_draw", none)), "_law_draw", "_law_draw", defArgs s_L_draw, defBody s_L_draw, defScope s_L_draw, [], []⟩
def d_L_deeds : DefJ := ⟨fun K => (He.fAd K ("_law_deeds", none)), "_law_deeds", "_law_deeds", defArgs s_L_deeds, defBody s_L_deeds, defScope s_L_deeds, [], []⟩
def d_L_slope : DefJ := ⟨fun K => (He.fAd K ("_law_slope", none)), "_law_slope", "_law_slope", defArgs s_L_slope, defBody s_L_slope, defScope s_L_slope, [], []⟩
def d_L_half : DefJ := ⟨fun K => (He.fAd K ("_law_half", none)), "_law_half", "_law_half", defArgs s_L_half, defBody s_L_half, defScope s_L_half, [], []⟩
def d_L_rolled : DefJ := ⟨fun K => (He.fAd K ("_law_rolled", none)), "_law_rolled", "_law_rolled", defArgs s_L_rolled, defBody s_L_rolled, defScope s_L_rolled, [], []⟩
def d_law : DefJ := ⟨fun K => (He.fAd K ("law", none)), "law", "law", defArgs s_law, defBody s_law, defScope s_law, [], []⟩
def d_BadRoundDi : DefJ := ⟨fun K => He.fAd K ("BadRound", some "__init__"), "__init__", "BadRound.__init__", defArgs s_BadRoundDi, defBody s_BadRoundDi, defScope s_BadRoundDi, [], ["__class__"]⟩
def d_BadRowsDi : DefJ := ⟨fun K => He.fAd K ("BadRows", some "__init__"), "__init__", "BadRows.__init__", defArgs s_BadRowsDi, defBody s_BadRowsDi, defScope s_BadRowsDi, [], ["__class__"]⟩
def d_BadWordDi : DefJ := ⟨fun K => He.fAd K ("BadWord", some "__init__"), "__init__", "BadWord.__init__", defArgs s_BadWordDi, defBody s_BadWordDi, defScope s_BadWordDi, [], ["__class__"]⟩
def d_BadStandingDi : DefJ := ⟨fun K => He.fAd K ("BadStanding", some "__init__"), "__init__", "BadStanding.__init__", defArgs s_BadStandingDi, defBody s_BadStandingDi, defScope s_BadStandingDi, [], ["__class__"]⟩
def d_BadTurnDi : DefJ := ⟨fun K => He.fAd K ("BadTurn", some "__init__"), "__init__", "BadTurn.__init__", defArgs s_BadTurnDi, defBody s_BadTurnDi, defScope s_BadTurnDi, [], ["__class__"]⟩
def d_BadPlanDi : DefJ := ⟨fun K => He.fAd K ("BadPlan", some "__init__"), "__init__", "BadPlan.__init__", defArgs s_BadPlanDi, defBody s_BadPlanDi, defScope s_BadPlanDi, [], ["__class__"]⟩
def fn_ : List DefJ := [d_is_whole, d_is_whole_from, d_is_row, d_is_row_of, d_is_word, d_is_deed, d_check_round, d_check_widths, d_checked_standings, d_PlanD_initD, d_check_plan, d_carried, d_after, d_counts, d__carried_all, d__unlike, d_PartD_initD, d_PartD_getitemD, d_Part_words, d_Part_period, d_Part_settled, d_Part_width, d__check_even, d__check_shown, d_TurningD_initD, d_Turning_of_widths, d_TurningD_callD, d_Turning_period, d_Turning_lifted, d_Turning_is_even, d__is_pair, d__check_rows, d__ends, d__lifts_of_places, d__turned_rows, d__least_period, d__rows_downhill, d_L_state, d_L_draw, d_L_deeds, d_L_slope, d_L_half, d_L_rolled, d_law, d_BadRoundDi, d_BadRowsDi, d_BadWordDi, d_BadStandingDi, d_BadTurnDi, d_BadPlanDi]
def fa_ : List FaJ := [(fun K => (He.Fa.free "isinstance").ok K), (fun K => (He.Fa.free "int").ok K), (fun K => (He.Fa.free "bool").ok K), (fun K => (He.Fa.free "list").ok K), (fun K => (He.Fa.free "tuple").ok K), (fun K => (He.Fa.free "len").ok K), (fun K => (He.Fa.free "enumerate").ok K), (fun K => (He.Fa.free "range").ok K), (fun K => (He.Fa.free "sorted").ok K), (fun K => (He.Fa.free "set").ok K), (fun K => (He.Fa.free "property").ok K), (fun K => (He.Fa.free "classmethod").ok K), (fun K => (He.Fa.free "min").ok K), (fun K => (He.Fa.free "zip").ok K), (fun K => (He.Fa.free "super").ok K), (fun K => (He.Fa.int "LEAST_ROUND" 2).ok K), (fun K => (He.Fa.int "GREATEST_ROUND" 360).ok K), (fun K => (He.Fa.int "GREATEST_WIDTH" 1000000000000).ok K), (fun K => (He.Fa.int "MOST_DEEDS" 400).ok K), (fun K => (He.Fa.int "MOST_PAIRS" 12).ok K), (fun K => (He.Fa.cls "Plan").ok K), (fun K => (He.Fa.glo "Plan").ok K), (fun K => (He.Fa.noat "Plan" "around").ok K), (fun K => (He.Fa.noat "Plan" "deeds").ok K), (fun K => (He.Fa.cls "Part").ok K), (fun K => (He.Fa.glo "Part").ok K), (fun K => (He.Fa.noat "Part" "around").ok K), (fun K => (He.Fa.noat "Part" "_turnings").ok K), (fun K => (He.Fa.noat "Part" "_widths").ok K), (fun K => (He.Fa.cls "Turning").ok K), (fun K => (He.Fa.glo "Turning").ok K), (fun K => (He.Fa.noat "Turning" "around").ok K), (fun K => (He.Fa.noat "Turning" "rows").ok K), (fun K => (He.Fa.noat "Turning" "_lifts").ok K), (fun K => (He.Fa.noat "Turning" "_period").ok K), (fun K => (He.Fa.glo "WORDS").ok K), tupB "WORDS" [.str "push", .str "squeeze"], bfnB "lcm" "math.lcm", jsubB "Part", (fun K => (He.Fa.mkr "Plan").ok K), (fun K => (He.Fa.mkr "Part").ok K), (fun K => (He.Fa.mkr "Turning").ok K), (fun K => (He.Fa.glo "is_whole").ok K), (fun K => (He.Fa.glo "is_whole_from").ok K), (fun K => (He.Fa.glo "is_row").ok K), (fun K => (He.Fa.glo "is_row_of").ok K), (fun K => (He.Fa.glo "is_word").ok K), (fun K => (He.Fa.glo "is_deed").ok K), (fun K => (He.Fa.glo "check_round").ok K), (fun K => (He.Fa.glo "check_widths").ok K), (fun K => (He.Fa.glo "checked_standings").ok K), (fun K => (He.Fa.glo "check_plan").ok K), (fun K => (He.Fa.glo "carried").ok K), (fun K => (He.Fa.glo "after").ok K), (fun K => (He.Fa.glo "counts").ok K), (fun K => (He.Fa.glo "_carried_all").ok K), (fun K => (He.Fa.glo "_unlike").ok K), (fun K => (He.Fa.meth "Part" "__getitem__").ok K), propB "Part" "words", propB "Part" "period", (fun K => (He.Fa.meth "Part" "settled").ok K), (fun K => (He.Fa.meth "Part" "width").ok K), (fun K => (He.Fa.glo "_check_even").ok K), (fun K => (He.Fa.glo "_check_shown").ok K), cmB "Turning" "of_widths", (fun K => (He.Fa.meth "Turning" "__call__").ok K), propB "Turning" "period", (fun K => (He.Fa.meth "Turning" "lifted").ok K), (fun K => (He.Fa.meth "Turning" "is_even").ok K), (fun K => (He.Fa.glo "_is_pair").ok K), (fun K => (He.Fa.glo "_check_rows").ok K), (fun K => (He.Fa.glo "_ends").ok K), (fun K => (He.Fa.glo "_lifts_of_places").ok K), (fun K => (He.Fa.glo "_turned_rows").ok K), (fun K => (He.Fa.glo "_least_period").ok K), (fun K => (He.Fa.glo "_rows_downhill").ok K), (fun K => (He.Fa.glo "_law_state").ok K), (fun K => (He.Fa.glo "_law_draw").ok K), (fun K => (He.Fa.glo "_law_deeds").ok K), (fun K => (He.Fa.glo "_law_slope").ok K), (fun K => (He.Fa.glo "_law_half").ok K), (fun K => (He.Fa.glo "_law_rolled").ok K), (fun K => (He.Fa.glo "law").ok K), (fun K => (He.Fa.glo "BadRound").ok K), errB "BadRound" "value", (fun K => (He.Fa.glo "BadRows").ok K), errB "BadRows" "at", (fun K => (He.Fa.glo "BadWord").ok K), errB "BadWord" "value", (fun K => (He.Fa.glo "BadStanding").ok K), errB "BadStanding" "value", (fun K => (He.Fa.glo "BadTurn").ok K), errB "BadTurn" "value", (fun K => (He.Fa.glo "BadPlan").ok K), errB "BadPlan" "at", (fun K => (He.Fa.exm "BadRound" "BadRound" true).ok K), (fun K => (He.Fa.exm "BadRound" "BadRows" false).ok K), (fun K => (He.Fa.exm "BadRound" "BadWord" false).ok K), (fun K => (He.Fa.exm "BadRound" "BadStanding" false).ok K), (fun K => (He.Fa.exm "BadRound" "BadTurn" false).ok K), (fun K => (He.Fa.exm "BadRound" "BadPlan" false).ok K), (fun K => (He.Fa.exm "BadRows" "BadRound" false).ok K), (fun K => (He.Fa.exm "BadRows" "BadRows" true).ok K), (fun K => (He.Fa.exm "BadRows" "BadWord" false).ok K), (fun K => (He.Fa.exm "BadRows" "BadStanding" false).ok K), (fun K => (He.Fa.exm "BadRows" "BadTurn" false).ok K), (fun K => (He.Fa.exm "BadRows" "BadPlan" false).ok K), (fun K => (He.Fa.exm "BadWord" "BadRound" false).ok K), (fun K => (He.Fa.exm "BadWord" "BadRows" false).ok K), (fun K => (He.Fa.exm "BadWord" "BadWord" true).ok K), (fun K => (He.Fa.exm "BadWord" "BadStanding" false).ok K), (fun K => (He.Fa.exm "BadWord" "BadTurn" false).ok K), (fun K => (He.Fa.exm "BadWord" "BadPlan" false).ok K), (fun K => (He.Fa.exm "BadStanding" "BadRound" false).ok K), (fun K => (He.Fa.exm "BadStanding" "BadRows" false).ok K), (fun K => (He.Fa.exm "BadStanding" "BadWord" false).ok K), (fun K => (He.Fa.exm "BadStanding" "BadStanding" true).ok K), (fun K => (He.Fa.exm "BadStanding" "BadTurn" false).ok K), (fun K => (He.Fa.exm "BadStanding" "BadPlan" false).ok K), (fun K => (He.Fa.exm "BadTurn" "BadRound" false).ok K), (fun K => (He.Fa.exm "BadTurn" "BadRows" false).ok K), (fun K => (He.Fa.exm "BadTurn" "BadWord" false).ok K), (fun K => (He.Fa.exm "BadTurn" "BadStanding" false).ok K), (fun K => (He.Fa.exm "BadTurn" "BadTurn" true).ok K), (fun K => (He.Fa.exm "BadTurn" "BadPlan" false).ok K), (fun K => (He.Fa.exm "BadPlan" "BadRound" false).ok K), (fun K => (He.Fa.exm "BadPlan" "BadRows" false).ok K), (fun K => (He.Fa.exm "BadPlan" "BadWord" false).ok K), (fun K => (He.Fa.exm "BadPlan" "BadStanding" false).ok K), (fun K => (He.Fa.exm "BadPlan" "BadTurn" false).ok K), (fun K => (He.Fa.exm "BadPlan" "BadPlan" true).ok K)]
theorem env_of {P : Program} {K : PySem.W.Frag} {h : Heap} {mg : Str → Option Value} (hP : PrOk P) (X : K.In h) (G : h.Ns mainGlobals mg) (c : SaysJ fa_ fn_ K) : Env P K mg where
  b_isinstance := He.free_ok X G (c.fact 0 (f := fun K => (He.Fa.free "isinstance").ok K) rfl)
  b_int := He.free_ok X G (c.fact 1 (f := fun K => (He.Fa.free "int").ok K) rfl)
  b_bool := He.free_ok X G (c.fact 2 (f := fun K => (He.Fa.free "bool").ok K) rfl)
  b_list := He.free_ok X G (c.fact 3 (f := fun K => (He.Fa.free "list").ok K) rfl)
  b_tuple := He.free_ok X G (c.fact 4 (f := fun K => (He.Fa.free "tuple").ok K) rfl)
  b_len := He.free_ok X G (c.fact 5 (f := fun K => (He.Fa.free "len").ok K) rfl)
  b_enumerate := He.free_ok X G (c.fact 6 (f := fun K => (He.Fa.free "enumerate").ok K) rfl)
  b_range := He.free_ok X G (c.fact 7 (f := fun K => (He.Fa.free "range").ok K) rfl)
  b_sorted := He.free_ok X G (c.fact 8 (f := fun K => (He.Fa.free "sorted").ok K) rfl)
  b_set := He.free_ok X G (c.fact 9 (f := fun K => (He.Fa.free "set").ok K) rfl)
  b_property := He.free_ok X G (c.fact 10 (f := fun K => (He.Fa.free "property").ok K) rfl)
  b_classmethod := He.free_ok X G (c.fact 11 (f := fun K => (He.Fa.free "classmethod").ok K) rfl)
  b_min := He.free_ok X G (c.fact 12 (f := fun K => (He.Fa.free "min").ok K) rfl)
  b_zip := He.free_ok X G (c.fact 13 (f := fun K => (He.Fa.free "zip").ok K) rfl)
  b_super := He.free_ok X G (c.fact 14 (f := fun K => (He.Fa.free "super").ok K) rfl)
  c_LEAST_ROUND := He.int_ok X G (c.fact 15 (f := fun K => (He.Fa.int "LEAST_ROUND" 2).ok K) rfl)
  c_GREATEST_ROUND := He.int_ok X G (c.fact 16 (f := fun K => (He.Fa.int "GREATEST_ROUND" 360).ok K) rfl)
  c_GREATEST_WIDTH := He.int_ok X G (c.fact 17 (f := fun K => (He.Fa.int "GREATEST_WIDTH" 1000000000000).ok K) rfl)
  c_MOST_DEEDS := He.int_ok X G (c.fact 18 (f := fun K => (He.Fa.int "MOST_DEEDS" 400).ok K) rfl)
  c_MOST_PAIRS := He.int_ok X G (c.fact 19 (f := fun K => (He.Fa.int "MOST_PAIRS" 12).ok K) rfl)
  k_Plan := He.cls_ok (c.fact 20 (f := fun K => (He.Fa.cls "Plan").ok K) rfl)
  g_Plan := He.glo_ok X G (c.fact 21 (f := fun K => (He.Fa.glo "Plan").ok K) rfl)
  n_Plan_around := He.noat_ok (c.fact 22 (f := fun K => (He.Fa.noat "Plan" "around").ok K) rfl)
  n_Plan_deeds := He.noat_ok (c.fact 23 (f := fun K => (He.Fa.noat "Plan" "deeds").ok K) rfl)
  k_Part := He.cls_ok (c.fact 24 (f := fun K => (He.Fa.cls "Part").ok K) rfl)
  g_Part := He.glo_ok X G (c.fact 25 (f := fun K => (He.Fa.glo "Part").ok K) rfl)
  n_Part_around := He.noat_ok (c.fact 26 (f := fun K => (He.Fa.noat "Part" "around").ok K) rfl)
  n_Part__turnings := He.noat_ok (c.fact 27 (f := fun K => (He.Fa.noat "Part" "_turnings").ok K) rfl)
  n_Part__widths := He.noat_ok (c.fact 28 (f := fun K => (He.Fa.noat "Part" "_widths").ok K) rfl)
  k_Turning := He.cls_ok (c.fact 29 (f := fun K => (He.Fa.cls "Turning").ok K) rfl)
  g_Turning := He.glo_ok X G (c.fact 30 (f := fun K => (He.Fa.glo "Turning").ok K) rfl)
  n_Turning_around := He.noat_ok (c.fact 31 (f := fun K => (He.Fa.noat "Turning" "around").ok K) rfl)
  n_Turning_rows := He.noat_ok (c.fact 32 (f := fun K => (He.Fa.noat "Turning" "rows").ok K) rfl)
  n_Turning__lifts := He.noat_ok (c.fact 33 (f := fun K => (He.Fa.noat "Turning" "_lifts").ok K) rfl)
  n_Turning__period := He.noat_ok (c.fact 34 (f := fun K => (He.Fa.noat "Turning" "_period").ok K) rfl)
  g_WORDS := He.glo_ok X G (c.fact 35 (f := fun K => (He.Fa.glo "WORDS").ok K) rfl)
  t_WORDS := fun H => tupB_ok (c.fact 36 (f := tupB "WORDS" [.str "push", .str "squeeze"]) rfl) H
  g_lcm := bfnB_ok X G (c.fact 37 (f := bfnB "lcm" "math.lcm") rfl)
  q_Part := jsubB_ok (c.fact 38 (f := jsubB "Part") rfl)
  mk_Plan := He.mkr_ok (c.fact 39 (f := fun K => (He.Fa.mkr "Plan").ok K) rfl)
  mk_Part := He.mkr_ok (c.fact 40 (f := fun K => (He.Fa.mkr "Part").ok K) rfl)
  mk_Turning := He.mkr_ok (c.fact 41 (f := fun K => (He.Fa.mkr "Turning").ok K) rfl)
  g_is_whole := He.glo_ok X G (c.fact 42 (f := fun K => (He.Fa.glo "is_whole").ok K) rfl)
  s_is_whole := c.def_ 0 (d := d_is_whole) rfl
  g_is_whole_from := He.glo_ok X G (c.fact 43 (f := fun K => (He.Fa.glo "is_whole_from").ok K) rfl)
  s_is_whole_from := c.def_ 1 (d := d_is_whole_from) rfl
  g_is_row := He.glo_ok X G (c.fact 44 (f := fun K => (He.Fa.glo "is_row").ok K) rfl)
  s_is_row := c.def_ 2 (d := d_is_row) rfl
  g_is_row_of := He.glo_ok X G (c.fact 45 (f := fun K => (He.Fa.glo "is_row_of").ok K) rfl)
  s_is_row_of := c.def_ 3 (d := d_is_row_of) rfl
  g_is_word := He.glo_ok X G (c.fact 46 (f := fun K => (He.Fa.glo "is_word").ok K) rfl)
  s_is_word := c.def_ 4 (d := d_is_word) rfl
  g_is_deed := He.glo_ok X G (c.fact 47 (f := fun K => (He.Fa.glo "is_deed").ok K) rfl)
  s_is_deed := c.def_ 5 (d := d_is_deed) rfl
  g_check_round := He.glo_ok X G (c.fact 48 (f := fun K => (He.Fa.glo "check_round").ok K) rfl)
  s_check_round := c.def_ 6 (d := d_check_round) rfl
  g_check_widths := He.glo_ok X G (c.fact 49 (f := fun K => (He.Fa.glo "check_widths").ok K) rfl)
  s_check_widths := c.def_ 7 (d := d_check_widths) rfl
  g_checked_standings := He.glo_ok X G (c.fact 50 (f := fun K => (He.Fa.glo "checked_standings").ok K) rfl)
  s_checked_standings := c.def_ 8 (d := d_checked_standings) rfl
  s_PlanD_initD := c.def_ 9 (d := d_PlanD_initD) rfl
  g_check_plan := He.glo_ok X G (c.fact 51 (f := fun K => (He.Fa.glo "check_plan").ok K) rfl)
  s_check_plan := c.def_ 10 (d := d_check_plan) rfl
  g_carried := He.glo_ok X G (c.fact 52 (f := fun K => (He.Fa.glo "carried").ok K) rfl)
  s_carried := c.def_ 11 (d := d_carried) rfl
  g_after := He.glo_ok X G (c.fact 53 (f := fun K => (He.Fa.glo "after").ok K) rfl)
  s_after := c.def_ 12 (d := d_after) rfl
  g_counts := He.glo_ok X G (c.fact 54 (f := fun K => (He.Fa.glo "counts").ok K) rfl)
  s_counts := c.def_ 13 (d := d_counts) rfl
  g__carried_all := He.glo_ok X G (c.fact 55 (f := fun K => (He.Fa.glo "_carried_all").ok K) rfl)
  s__carried_all := c.def_ 14 (d := d__carried_all) rfl
  g__unlike := He.glo_ok X G (c.fact 56 (f := fun K => (He.Fa.glo "_unlike").ok K) rfl)
  s__unlike := c.def_ 15 (d := d__unlike) rfl
  s_PartD_initD := c.def_ 16 (d := d_PartD_initD) rfl
  m_PartD_getitemD := He.meth_ok (c.fact 57 (f := fun K => (He.Fa.meth "Part" "__getitem__").ok K) rfl)
  s_PartD_getitemD := c.def_ 17 (d := d_PartD_getitemD) rfl
  m_Part_words := propB_ok (c.fact 58 (f := propB "Part" "words") rfl)
  s_Part_words := c.def_ 18 (d := d_Part_words) rfl
  m_Part_period := propB_ok (c.fact 59 (f := propB "Part" "period") rfl)
  s_Part_period := c.def_ 19 (d := d_Part_period) rfl
  m_Part_settled := He.meth_ok (c.fact 60 (f := fun K => (He.Fa.meth "Part" "settled").ok K) rfl)
  s_Part_settled := c.def_ 20 (d := d_Part_settled) rfl
  m_Part_width := He.meth_ok (c.fact 61 (f := fun K => (He.Fa.meth "Part" "width").ok K) rfl)
  s_Part_width := c.def_ 21 (d := d_Part_width) rfl
  g__check_even := He.glo_ok X G (c.fact 62 (f := fun K => (He.Fa.glo "_check_even").ok K) rfl)
  s__check_even := c.def_ 22 (d := d__check_even) rfl
  g__check_shown := He.glo_ok X G (c.fact 63 (f := fun K => (He.Fa.glo "_check_shown").ok K) rfl)
  s__check_shown := c.def_ 23 (d := d__check_shown) rfl
  s_TurningD_initD := c.def_ 24 (d := d_TurningD_initD) rfl
  m_Turning_of_widths := cmB_ok (c.fact 64 (f := cmB "Turning" "of_widths") rfl)
  s_Turning_of_widths := c.def_ 25 (d := d_Turning_of_widths) rfl
  m_TurningD_callD := He.meth_ok (c.fact 65 (f := fun K => (He.Fa.meth "Turning" "__call__").ok K) rfl)
  s_TurningD_callD := c.def_ 26 (d := d_TurningD_callD) rfl
  m_Turning_period := propB_ok (c.fact 66 (f := propB "Turning" "period") rfl)
  s_Turning_period := c.def_ 27 (d := d_Turning_period) rfl
  m_Turning_lifted := He.meth_ok (c.fact 67 (f := fun K => (He.Fa.meth "Turning" "lifted").ok K) rfl)
  s_Turning_lifted := c.def_ 28 (d := d_Turning_lifted) rfl
  m_Turning_is_even := He.meth_ok (c.fact 68 (f := fun K => (He.Fa.meth "Turning" "is_even").ok K) rfl)
  s_Turning_is_even := c.def_ 29 (d := d_Turning_is_even) rfl
  g__is_pair := He.glo_ok X G (c.fact 69 (f := fun K => (He.Fa.glo "_is_pair").ok K) rfl)
  s__is_pair := c.def_ 30 (d := d__is_pair) rfl
  g__check_rows := He.glo_ok X G (c.fact 70 (f := fun K => (He.Fa.glo "_check_rows").ok K) rfl)
  s__check_rows := c.def_ 31 (d := d__check_rows) rfl
  g__ends := He.glo_ok X G (c.fact 71 (f := fun K => (He.Fa.glo "_ends").ok K) rfl)
  s__ends := c.def_ 32 (d := d__ends) rfl
  g__lifts_of_places := He.glo_ok X G (c.fact 72 (f := fun K => (He.Fa.glo "_lifts_of_places").ok K) rfl)
  s__lifts_of_places := c.def_ 33 (d := d__lifts_of_places) rfl
  g__turned_rows := He.glo_ok X G (c.fact 73 (f := fun K => (He.Fa.glo "_turned_rows").ok K) rfl)
  s__turned_rows := c.def_ 34 (d := d__turned_rows) rfl
  g__least_period := He.glo_ok X G (c.fact 74 (f := fun K => (He.Fa.glo "_least_period").ok K) rfl)
  s__least_period := c.def_ 35 (d := d__least_period) rfl
  g__rows_downhill := He.glo_ok X G (c.fact 75 (f := fun K => (He.Fa.glo "_rows_downhill").ok K) rfl)
  s__rows_downhill := c.def_ 36 (d := d__rows_downhill) rfl
  g_L_state := He.glo_ok X G (c.fact 76 (f := fun K => (He.Fa.glo "_law_state").ok K) rfl)
  s_L_state := c.def_ 37 (d := d_L_state) rfl
  g_L_draw := He.glo_ok X G (c.fact 77 (f := fun K => (He.Fa.glo "_law_draw").ok K) rfl)
  s_L_draw := c.def_ 38 (d := d_L_draw) rfl
  g_L_deeds := He.glo_ok X G (c.fact 78 (f := fun K => (He.Fa.glo "_law_deeds").ok K) rfl)
  s_L_deeds := c.def_ 39 (d := d_L_deeds) rfl
  g_L_slope := He.glo_ok X G (c.fact 79 (f := fun K => (He.Fa.glo "_law_slope").ok K) rfl)
  s_L_slope := c.def_ 40 (d := d_L_slope) rfl
  g_L_half := He.glo_ok X G (c.fact 80 (f := fun K => (He.Fa.glo "_law_half").ok K) rfl)
  s_L_half := c.def_ 41 (d := d_L_half) rfl
  g_L_rolled := He.glo_ok X G (c.fact 81 (f := fun K => (He.Fa.glo "_law_rolled").ok K) rfl)
  s_L_rolled := c.def_ 42 (d := d_L_rolled) rfl
  g_law := He.glo_ok X G (c.fact 82 (f := fun K => (He.Fa.glo "law").ok K) rfl)
  s_law := c.def_ 43 (d := d_law) rfl
  e_BadRound := err_is (d := d_BadRoundDi) X G hP JX.nm_value (c.fact 84 (f := errB "BadRound" "value") rfl) (He.glo_ok X G (c.fact 83 (f := fun K => (He.Fa.glo "BadRound").ok K) rfl)) (He.free_ok X G (c.fact 14 (f := fun K => (He.Fa.free "super").ok K) rfl)) (c.defC_ 44 (d := d_BadRoundDi) rfl rfl) rfl rfl rfl ⟨_, _, _, _, _, _, _, _, _, _, _, _, _, _, rfl, rfl, rfl, by decide⟩
  e_BadRows := err_is (d := d_BadRowsDi) X G hP JX.nm_at (c.fact 86 (f := errB "BadRows" "at") rfl) (He.glo_ok X G (c.fact 85 (f := fun K => (He.Fa.glo "BadRows").ok K) rfl)) (He.free_ok X G (c.fact 14 (f := fun K => (He.Fa.free "super").ok K) rfl)) (c.defC_ 45 (d := d_BadRowsDi) rfl rfl) rfl rfl rfl ⟨_, _, _, _, _, _, _, _, _, _, _, _, _, _, rfl, rfl, rfl, by decide⟩
  e_BadWord := err_is (d := d_BadWordDi) X G hP JX.nm_value (c.fact 88 (f := errB "BadWord" "value") rfl) (He.glo_ok X G (c.fact 87 (f := fun K => (He.Fa.glo "BadWord").ok K) rfl)) (He.free_ok X G (c.fact 14 (f := fun K => (He.Fa.free "super").ok K) rfl)) (c.defC_ 46 (d := d_BadWordDi) rfl rfl) rfl rfl rfl ⟨_, _, _, _, _, _, _, _, _, _, _, _, _, _, rfl, rfl, rfl, by decide⟩
  e_BadStanding := err_is (d := d_BadStandingDi) X G hP JX.nm_value (c.fact 90 (f := errB "BadStanding" "value") rfl) (He.glo_ok X G (c.fact 89 (f := fun K => (He.Fa.glo "BadStanding").ok K) rfl)) (He.free_ok X G (c.fact 14 (f := fun K => (He.Fa.free "super").ok K) rfl)) (c.defC_ 47 (d := d_BadStandingDi) rfl rfl) rfl rfl rfl ⟨_, _, _, _, _, _, _, _, _, _, _, _, _, _, rfl, rfl, rfl, by decide⟩
  e_BadTurn := err_is (d := d_BadTurnDi) X G hP JX.nm_value (c.fact 92 (f := errB "BadTurn" "value") rfl) (He.glo_ok X G (c.fact 91 (f := fun K => (He.Fa.glo "BadTurn").ok K) rfl)) (He.free_ok X G (c.fact 14 (f := fun K => (He.Fa.free "super").ok K) rfl)) (c.defC_ 48 (d := d_BadTurnDi) rfl rfl) rfl rfl rfl ⟨_, _, _, _, _, _, _, _, _, _, _, _, _, _, rfl, rfl, rfl, by decide⟩
  e_BadPlan := err_is (d := d_BadPlanDi) X G hP JX.nm_at (c.fact 94 (f := errB "BadPlan" "at") rfl) (He.glo_ok X G (c.fact 93 (f := fun K => (He.Fa.glo "BadPlan").ok K) rfl)) (He.free_ok X G (c.fact 14 (f := fun K => (He.Fa.free "super").ok K) rfl)) (c.defC_ 49 (d := d_BadPlanDi) rfl rfl) rfl rfl rfl ⟨_, _, _, _, _, _, _, _, _, _, _, _, _, _, rfl, rfl, rfl, by decide⟩
  x_BadRound_BadRound := He.exm_ok (c.fact 95 (f := fun K => (He.Fa.exm "BadRound" "BadRound" true).ok K) rfl)
  x_BadRound_BadRows := He.exm_ok (c.fact 96 (f := fun K => (He.Fa.exm "BadRound" "BadRows" false).ok K) rfl)
  x_BadRound_BadWord := He.exm_ok (c.fact 97 (f := fun K => (He.Fa.exm "BadRound" "BadWord" false).ok K) rfl)
  x_BadRound_BadStanding := He.exm_ok (c.fact 98 (f := fun K => (He.Fa.exm "BadRound" "BadStanding" false).ok K) rfl)
  x_BadRound_BadTurn := He.exm_ok (c.fact 99 (f := fun K => (He.Fa.exm "BadRound" "BadTurn" false).ok K) rfl)
  x_BadRound_BadPlan := He.exm_ok (c.fact 100 (f := fun K => (He.Fa.exm "BadRound" "BadPlan" false).ok K) rfl)
  x_BadRows_BadRound := He.exm_ok (c.fact 101 (f := fun K => (He.Fa.exm "BadRows" "BadRound" false).ok K) rfl)
  x_BadRows_BadRows := He.exm_ok (c.fact 102 (f := fun K => (He.Fa.exm "BadRows" "BadRows" true).ok K) rfl)
  x_BadRows_BadWord := He.exm_ok (c.fact 103 (f := fun K => (He.Fa.exm "BadRows" "BadWord" false).ok K) rfl)
  x_BadRows_BadStanding := He.exm_ok (c.fact 104 (f := fun K => (He.Fa.exm "BadRows" "BadStanding" false).ok K) rfl)
  x_BadRows_BadTurn := He.exm_ok (c.fact 105 (f := fun K => (He.Fa.exm "BadRows" "BadTurn" false).ok K) rfl)
  x_BadRows_BadPlan := He.exm_ok (c.fact 106 (f := fun K => (He.Fa.exm "BadRows" "BadPlan" false).ok K) rfl)
  x_BadWord_BadRound := He.exm_ok (c.fact 107 (f := fun K => (He.Fa.exm "BadWord" "BadRound" false).ok K) rfl)
  x_BadWord_BadRows := He.exm_ok (c.fact 108 (f := fun K => (He.Fa.exm "BadWord" "BadRows" false).ok K) rfl)
  x_BadWord_BadWord := He.exm_ok (c.fact 109 (f := fun K => (He.Fa.exm "BadWord" "BadWord" true).ok K) rfl)
  x_BadWord_BadStanding := He.exm_ok (c.fact 110 (f := fun K => (He.Fa.exm "BadWord" "BadStanding" false).ok K) rfl)
  x_BadWord_BadTurn := He.exm_ok (c.fact 111 (f := fun K => (He.Fa.exm "BadWord" "BadTurn" false).ok K) rfl)
  x_BadWord_BadPlan := He.exm_ok (c.fact 112 (f := fun K => (He.Fa.exm "BadWord" "BadPlan" false).ok K) rfl)
  x_BadStanding_BadRound := He.exm_ok (c.fact 113 (f := fun K => (He.Fa.exm "BadStanding" "BadRound" false).ok K) rfl)
  x_BadStanding_BadRows := He.exm_ok (c.fact 114 (f := fun K => (He.Fa.exm "BadStanding" "BadRows" false).ok K) rfl)
  x_BadStanding_BadWord := He.exm_ok (c.fact 115 (f := fun K => (He.Fa.exm "BadStanding" "BadWord" false).ok K) rfl)
  x_BadStanding_BadStanding := He.exm_ok (c.fact 116 (f := fun K => (He.Fa.exm "BadStanding" "BadStanding" true).ok K) rfl)
  x_BadStanding_BadTurn := He.exm_ok (c.fact 117 (f := fun K => (He.Fa.exm "BadStanding" "BadTurn" false).ok K) rfl)
  x_BadStanding_BadPlan := He.exm_ok (c.fact 118 (f := fun K => (He.Fa.exm "BadStanding" "BadPlan" false).ok K) rfl)
  x_BadTurn_BadRound := He.exm_ok (c.fact 119 (f := fun K => (He.Fa.exm "BadTurn" "BadRound" false).ok K) rfl)
  x_BadTurn_BadRows := He.exm_ok (c.fact 120 (f := fun K => (He.Fa.exm "BadTurn" "BadRows" false).ok K) rfl)
  x_BadTurn_BadWord := He.exm_ok (c.fact 121 (f := fun K => (He.Fa.exm "BadTurn" "BadWord" false).ok K) rfl)
  x_BadTurn_BadStanding := He.exm_ok (c.fact 122 (f := fun K => (He.Fa.exm "BadTurn" "BadStanding" false).ok K) rfl)
  x_BadTurn_BadTurn := He.exm_ok (c.fact 123 (f := fun K => (He.Fa.exm "BadTurn" "BadTurn" true).ok K) rfl)
  x_BadTurn_BadPlan := He.exm_ok (c.fact 124 (f := fun K => (He.Fa.exm "BadTurn" "BadPlan" false).ok K) rfl)
  x_BadPlan_BadRound := He.exm_ok (c.fact 125 (f := fun K => (He.Fa.exm "BadPlan" "BadRound" false).ok K) rfl)
  x_BadPlan_BadRows := He.exm_ok (c.fact 126 (f := fun K => (He.Fa.exm "BadPlan" "BadRows" false).ok K) rfl)
  x_BadPlan_BadWord := He.exm_ok (c.fact 127 (f := fun K => (He.Fa.exm "BadPlan" "BadWord" false).ok K) rfl)
  x_BadPlan_BadStanding := He.exm_ok (c.fact 128 (f := fun K => (He.Fa.exm "BadPlan" "BadStanding" false).ok K) rfl)
  x_BadPlan_BadTurn := He.exm_ok (c.fact 129 (f := fun K => (He.Fa.exm "BadPlan" "BadTurn" false).ok K) rfl)
  x_BadPlan_BadPlan := He.exm_ok (c.fact 130 (f := fun K => (He.Fa.exm "BadPlan" "BadPlan" true).ok K) rfl)
end Qk38
namespace Qk38E
open PySem PySem.Spec PyProof.Rows L2 J Qk38
def as_ : List Addr := [2, 3, 58, 59, 66, 77, 78, 80, 81, 87, 98, 99, 101, 102, 108, 119, 120, 122, 123, 129, 140, 141, 143, 144, 150, 161, 162, 164, 165, 171, 182, 183, 185, 186, 189, 195, 196, 202, 203, 209, 210, 216, 217, 223, 224, 230, 231, 237, 238, 244, 245, 251, 252, 263, 264, 320, 321, 331, 332, 338, 339, 340, 344, 345, 349, 350, 354, 355, 359, 360, 368, 374, 375, 395, 396, 421, 422, 423, 429, 430, 431, 450, 451, 457, 458, 481, 482, 492, 493, 499, 500, 513, 514, 520, 521, 523, 544, 545, 557, 558, 559, 570, 571, 577, 578, 594, 595, 605, 606, 612, 613, 617, 618, 624, 625, 629, 630, 634, 635, 639, 640, 646, 647, 653, 654, 660, 661, 665, 666, 670, 671, 677, 678, 682, 683]
abbrev hk_ : PySem.W.Hook := hookA as_ fa_ fn_
def FT : Prop := ∀ {P : Program} {w : World} {K : PySem.W.Frag} {h : Heap} {mg : PySem.Str → Option Value} {f : Addr}, PrOk P → K.In h → h.Ns mainGlobals mg → mg ("law" : PySem.Str) = some (.ref f) → SaysJ fa_ fn_ K →
    ∃ fd : FuncData, (∀ (s : Shared) (v : Value), BindsTo s fd ⟨[v], []⟩ [("_law_script", v)]) ∧ ∀ base : Heap, K.In base → base.Ns mainGlobals mg → L2.FnOk P w K mg base L2.CX0 8 f fd ["_law_script"] (spLaw K)
theorem ofF (F : FT) : ∀ (w : World) (s : Shared), hk_.obs s = hk_.val w → (hk_.says w s.heap ∧ FT) := fun w s e => ⟨hk_.of w s e, F⟩
theorem keepsF : ∀ (w : World) (h h' : Heap), (hk_.says w h ∧ FT) → (∀ b o, h.get? b = some o → h'.get? b = some o) → (hk_.says w h' ∧ FT) := fun w h h' a k => ⟨hk_.keeps w h h' a.1 k, a.2⟩
abbrev R_ : PySem.W.OpenRow := PySem.W.OpenLaw.row PySem.Challenge.rw_jawturns_k38_whole_jaws_close
/-- a small view of the top: the imports, the law -/
abbrev q1_ : Program := PySem.W.view R_.prog [0, 54]
abbrev l1_ : List PySem.Str := (["_wall", "__name__", "JawError", "BadRound", "BadRows", "BadTurn", "BadStanding", "BadWord", "BadPlan", "WORDS", "LEAST_ROUND", "GREATEST_ROUND", "GREATEST_WIDTH", "is_whole", "is_whole_from", "is_row", "is_row_of", "is_word", "is_deed", "check_round", "check_widths", "checked_standings", "MOST_DEEDS", "Plan", "check_plan", "carried", "after", "counts", "_carried_all", "_unlike"] : List PySem.Str) ++ (["Part", "_check_even", "_check_shown", "MOST_PAIRS", "Turning", "_is_pair", "_check_rows", "_ends", "_lifts_of_places", "_turned_rows", "_least_period", "_rows_downhill", "_law_state", "_law_draw", "_law_deeds", "_law_slope", "_law_half", "_law_rolled"] : List PySem.Str)
open PySem PySem.W PySem.Calls PyProof.Rows in
theorem PySem.W.holds_open {q : Program} {loose : List PySem.Str} {Xt : Shared → Bool} {XP : (PySem.Str → Option Value) → Heap → Prop} {α : Type} {Yf : Shared → α} {Ya : World → α} {YP : World → Heap → Prop} {N : Nat}
    (left : LeftO R_.prog q1_ l1_ (fun s => xlAt q1_ [] s && recOk R_.toRowW.records s) Yf Ya N true) (hY : ∀ w s, Yf s = Ya w → YP w s.heap) (hYk : ∀ w h h', YP w h → (∀ b o, h.get? b = some o → h'.get? b = some o) → YP w h')
    (_ : ∀ s, Xt s = true → XP (s.heap.nsMap mainGlobals) s.heap) (_ : ∀ mg h h', XP mg h → (∀ b o, h.get? b = some o → h'.get? b = some o) → XP mg h')
    (_ : (0 : Nat) = 0) (_ : (0 : Nat) = 0) (_ : (0 : Nat) = 0) (_ : ∀ s, Xt s = true → RecFacts R_.toRowW.records s.heap) (hwr : (!R_.writes || R_.records.isEmpty) = true)
    (k1 : R_.wellSaid = true) (ok : (chainsOk q1_ && opensWell R_.prog && (frees R_.toRowW && R_.within.isEmpty)) = true) (hb : R_.prog.bare) (hw : R_.toRowW.promised)
    (call : WalkO q1_ l1_ (XL q1_ []) YP R_.toRowW (HandSHeadRun.topDef R_.prog 54) [] fun f vs => PySem.call f vs) : R_.Holds :=
  _root_.PySem.W.holds_open (r := R_) (q := q1_) (loose := l1_) (XP := XL q1_ []) (YP := YP) (d := HandSHeadRun.topDef R_.prog 54) (kwd := []) left hY hYk (fun s z => xl_of s (Bool.and_eq_true_iff.mp z).1) XL.keeps (by kernel_rfl) (by kernel_rfl) (by kernel_rfl) (fun s z => recFacts_of (Bool.and_eq_true_iff.mp z).2) hwr k1 ok hb hw call
section
local macro_rules
  | `($f:ident hkq) => match f.getId.eraseMacroScopes with
    | `Hook.obs => `(PySem.W.Hook.obs hk_)
    | `Hook.val => `(PySem.W.Hook.val hk_)
    | `Hook.says => `(fun (w : World) (h : Heap) => PySem.W.Hook.says hk_ w h ∧ FT)
    | `Hook.of => `(ofF (by assumption))
    | `Hook.keeps => `(keepsF)
    | _ => Lean.Macro.throwUnsupported
set_option maxHeartbeats 0 in
open PySem PySem.W PySem.Calls PyProof.Rows in
theorem early_ (F : FT) : PySem.Challenge.rw_jawturns_k38_whole_jaws_close.Holds := by
  w_on; o_law
  o_head hkq
  case hw => w_witness2
  case hc =>
    refine L2.walk_ofE (l := PySem.Challenge.rw_jawturns_k38_whole_jaws_close) (n := 63) (k := 8) (x := "_law_script") (CX := L2.CX0) rfl (by decide) (by kernel_rfl) ⟨rfl, by decide, by decide⟩ ?F (fun _ _ _ _ z => z)
    intro w mg fa h Y G hmg0
    obtain ⟨⟨K, KX, c⟩, F⟩ := Y
    have hmg : mg ("law" : PySem.Str) = some (.ref fa) := by
      have e : (HandSHeadRun.topDef (PySem.W.OpenLaw.row PySem.Challenge.rw_jawturns_k38_whole_jaws_close).prog 54).name = ("law" : PySem.Str) := by kernel_rfl
      rw [← e]
      exact hmg0
    obtain ⟨fd, hb, hF⟩ := F (P := (PySem.Challenge.rw_jawturns_k38_whole_jaws_close).prog) (w := w) ⟨by kernel_rfl, by kernel_rfl⟩ KX G hmg c
    exact ⟨K, fd, spLaw K, KX, hb, fun H a ns hl _ hS => ⟨a, ns, rfl, hS, hl, fun _ => rfl⟩, hF⟩
end
end Qk38E
namespace Qk38
end Qk38
namespace J
open PySem PySem.Spec PyProof.Rows L2
/-- a list whose items are not told, but that R holds of them -/
def lstR (R : List V → Prop) (S : Addr) : Heap → Prop := fun h => ∃ (xs : List V) (its : List Value) (n : Nat), R xs ∧ xs.length ≤ sizeLine ∧ Vals xs its ∧ h.get? S = some { cls := .type "list", data := .seq its.toArray n }
def hid (R : List V → Prop) (S : Addr) : HO := .ext (lstR R S)
theorem hid_ok {P : Program} {w : World} {H : Hp} {h : Heap} {S : Addr} {R : List V → Prop} {xs : List V} (x : ObjOk P w H h S (.lst xs)) (r : R xs) (H' : Hp) : ObjOk P w H' h S (hid R S) := by
  obtain ⟨z, its, n, v, e⟩ := x
  refine ⟨⟨xs, its, n, r, z, v, e⟩, ⟨_, e⟩, ?_⟩
  rintro h1 h2 ⟨ys, jts, m, r, z, v, e⟩ k
  exact ⟨ys, jts, m, r, z, v, k _ e⟩
theorem hid_open {P : Program} {w : World} {H : Hp} {h : Heap} {S : Addr} {R : List V → Prop} (x : ObjOk P w H h S (hid R S)) (H' : Hp) : ∃ xs, R xs ∧ ObjOk P w H' h S (.lst xs) := by
  obtain ⟨⟨xs, its, n, r, z, v, e⟩, _, _⟩ := x
  exact ⟨xs, r, z, its, n, v, e⟩
theorem upd_id {H : Hp} {S : Addr} {o : HO} (h : H S = some o) : upd H S o = H := by
  funext b
  by_cases e : b = S
  · subst e; rw [upd_same, h]
  · rw [upd_ne e]
theorem obj_there {P : Program} {w : World} {H : Hp} {h : Heap} {a : Addr} {o : HO} (x : ObjOk P w H h a o) : ∃ u, h.get? a = some u := by
  cases o with
  | lst xs => obtain ⟨_, _, _, _, e⟩ := x; exact ⟨_, e⟩
  | tup xs => obtain ⟨_, _, _, o, e, _⟩ := x; exact ⟨_, e⟩
  | dK kvs => obtain ⟨_, _, _, _, o, _, _, e, _⟩ := x; exact ⟨_, e⟩
  | dT kvs => obtain ⟨_, _, _, _, o, _, _, e, _⟩ := x; exact ⟨_, e⟩
  | set S n => obtain ⟨o, _, _, _, e, _⟩ := x; exact ⟨_, e⟩
  | ins C dx fs => obtain ⟨_, _, _, e, _⟩ := x; exact ⟨_, e⟩
  | own y => exact x
  | xd fs => obtain ⟨_, ⟨_, _, _, e, _⟩, _⟩ := x; exact ⟨_, e⟩
  | rng lo hi => obtain ⟨_, _, _, e⟩ := x; exact ⟨_, e⟩
  | frz ob u => obtain ⟨e, _⟩ := x; exact ⟨_, e⟩
  | tbl ps => exact ⟨_, (show h.get? a = some _ from x)⟩
  | met f y => exact ⟨_, (show h.get? a = some _ from x)⟩
  | ext φ => obtain ⟨_, e, _⟩ := x; exact e
theorem there {P : Program} {w : World} {H : Hp} {h : Heap} {S : Addr} {o : HO} (ok : HOk P w H h) (q : H S = some o) : ∃ u, h.get? S = some u := obj_there (ok S o q)
/-- the same heap, read anew at S -/
theorem reread {P : Program} {w : World} {H : Hp} {h : Heap} {S : Addr} {o : HO} (ok : HOk P w H h) (mu : Mut (H S)) (new : ObjOk P w (upd H S o) h S o) : HOk P w (upd H S o) h :=
  ok.write mu (.inl rfl) (fun _ _ _ q => q) (obj_there new) new
theorem reread_un {fs ex : List Addr} {H : Hp} {h : Heap} {S : Addr} {o : HO} (mu : Mut (H S)) (hs : ∃ u, h.get? S = some u) : Un fs ex H (upd H S o) h h :=
  Un.write mu (.inl rfl) (fun _ _ _ q => q) hs
/-- a def that keeps R of a list: its callers see a heap that stands still -/
def Hid (sp : Sp) : Sp := fun vs H Q E => ∃ (S : Addr) (R : List V → Prop), H S = some (hid R S) ∧
  ∀ xs, R xs → sp vs (upd H S (.lst xs)) (fun v H' => ∃ H1 xs', H1 S = some (hid R S) ∧ R xs' ∧ H' = upd H1 S (.lst xs') ∧ Q v H1) E
theorem hide {P : Program} {w : World} {K : PySem.W.Frag} {mg : Str → Option Value} {base : Heap} {k : Nat} {f : Addr} {fd : FuncData} {ps : List Str} {sp : Sp}
    (F : FnOk P w K mg base (fun _ _ _ _ _ _ => False) k f fd ps sp) (sp' : Sp) (hh : ∀ vs H Q E, sp' vs H Q E → Hid sp vs H Q E) (hl : ∀ vs H Q E, sp' vs H Q E → vs.length = ps.length) : FnOk P w K mg base (fun _ _ _ _ _ _ => False) k f fd ps sp' where
  len := hl
  run := fun A outer s H args us vs Q E hr he hb hv hs => by
    obtain ⟨S, R, hS, q⟩ := hh _ _ _ _ hs
    have mu : Mut (H S) := by rw [hS]; trivial
    obtain ⟨xs, rx, ox⟩ := hid_open (he.hok S _ hS) H
    have ox' : ObjOk P w (upd H S (.lst xs)) s.heap S (.lst xs) := ox
    have ok1 : HOk P w (upd H S (.lst xs)) s.heap := reread he.hok mu ox'
    have e1 : Env0 P w K mg base A outer s (upd H S (.lst xs)) :=
      ⟨he.frames, he.mod, fun b o e => ⟨(he.bs b o e).1, by
          have := (he.bs b o e).2
          rw [upd_ne (fun z => by rw [z, hS] at this; cases this)]; exact this⟩, he.bsz, he.funs, fun b hb => by
          have := he.frf b hb
          rw [upd_ne (fun z => by rw [z, hS] at this; cases this)]; exact this, ok1, he.bare⟩
    have run := F.run A outer s _ args us vs _ E hr e1 hb hv (q xs rx)
    refine codeAny_mono run fun r s' c => ?_
    cases r with
    | error e => exact c
    | ok st =>
      cases st with
      | ret u =>
        obtain ⟨v, H', os, bare, un, hok, rv, H1, xs', h1, rx', eH, hQ⟩ := c
        subst eH
        have t1 := there he.hok hS
        have t2 := there hok (show upd H1 S (.lst xs') S = some (.lst xs') from upd_same)
        have eH1 : upd (upd H1 S (.lst xs')) S (hid R S) = H1 := by rw [upd_upd]; exact upd_id h1
        have m2 : Mut (upd H1 S (.lst xs') S) := by rw [upd_same]; trivial
        have ok2 : HOk P w (upd (upd H1 S (.lst xs')) S (hid R S)) s'.heap := reread hok m2 (hid_ok (hok S _ upd_same) rx' _)
        rw [eH1] at ok2
        have u2 : Un (frs outer) [] (upd H1 S (.lst xs')) (upd (upd H1 S (.lst xs')) S (hid R S)) s'.heap s'.heap := reread_un m2 t2
        rw [eH1] at u2
        exact ⟨v, H1, os, bare, ((reread_un mu t1).trans un).trans u2, ok2, rv, hQ⟩
      | _ => exact c
/-- a def whose new list is told by R alone from then on -/
theorem hideRet {P : Program} {w : World} {K : PySem.W.Frag} {mg : Str → Option Value} {base : Heap} {k : Nat} {f : Addr} {fd : FuncData} {ps : List Str} {sp : Sp}
    (F : FnOk P w K mg base (fun _ _ _ _ _ _ => False) k f fd ps sp) (sp' : Sp)
    (hh : ∀ vs H Q E, sp' vs H Q E → sp vs H (fun v H1 => ∃ S R xs, H1 S = some (.lst xs) ∧ R xs ∧ Q v (upd H1 S (hid R S))) E) (hl : ∀ vs H Q E, sp' vs H Q E → vs.length = ps.length) : FnOk P w K mg base (fun _ _ _ _ _ _ => False) k f fd ps sp' where
  len := hl
  run := fun A outer s H args us vs Q E hr he hb hv hs => by
    refine codeAny_mono (F.run A outer s H args us vs _ E hr he hb hv (hh _ _ _ _ hs)) fun r s' c => ?_
    cases r with
    | error e => exact c
    | ok st =>
      cases st with
      | ret u =>
        obtain ⟨v, H', os, bare, un, hok, rv, S, R, xs, hS, rx, hQ⟩ := c
        have m2 : Mut (H' S) := by rw [hS]; trivial
        exact ⟨v, _, os, bare, un.trans (reread_un m2 (there hok hS)), reread hok m2 (hid_ok (hok S _ hS) rx _), rv, hQ⟩
      | _ => exact c
end J
namespace J
open PySem PySem.Spec PyProof.Rows
theorem meets_enumerate_newT (t : Addr) (items : Array Value) :
    Meets (Builtin.«enumerate.__new__» ⟨[.type "enumerate", .ref t], []⟩) (fun _ R s => s.heap.IsTuple t items ∧
      R (.ok (.ret (.ref (s.heap.push { cls := .type "tuple_iterator", data := .fields #[.ref t, .int 0 0] }).objs.size)))
        { s with heap := (s.heap.push { cls := .type "tuple_iterator", data := .fields #[.ref t, .int 0 0] }).push { cls := .type "enumerate", data := .fields #[.none, .bool false, .ref s.heap.objs.size, rawInt 0, .none, .none] } }) :=
  .of_wp fun prog w A R s h => by
    obtain ⟨hp, g, d, tk, os⟩ := s; obtain ⟨h1, h⟩ := h
    have hsub := sub_enumerate
    have q1 : ∀ {A' : Around} {E : Value → Shared → Prop} {Q : Value → Shared → Prop}, Q (.ref hp.objs.size) ⟨hp.push { cls := .type "tuple_iterator", data := .fields #[.ref t, .int 0 0] }, g, d, tk, os⟩ → wpAny (model prog w) A' (pyIter (.ref t)) Q E ⟨hp, g, d, tk, os⟩ :=
      fun q => wpAny_pyIter_tuple (s := ⟨hp, g, d, tk, os⟩) h1 q
    wp_walk using q1
    refine wpAny_stack_any fun st => wpAny_pure ?_
    split
    · rename_i c _ _ _ _ _
      cases (c == Value.type "enumerate")
      · wp_walk using q1
        exact ⟨_, rfl, h⟩
      · wp_walk using q1
        exact ⟨_, rfl, h⟩
    · wp_walk using q1
      exact ⟨_, rfl, h⟩
theorem call_enumerate_tuple {prog : Program} {w : World} {A : Around} {E : Value → Shared → Prop} {s : Shared} {t : Addr} {items : Array Value} {Q : Value → Shared → Prop} (hT : s.heap.IsTuple t items)
    (h : ∀ h', IsEnum h' (s.heap.objs.size + 1) s.heap.objs.size 0 .none → h'.IsTupleIter s.heap.objs.size t 0 → h'.objs.size = s.heap.objs.size + 2 →
      (∀ b o, s.heap.get? b = some o → h'.get? b = some o) → Q (.ref (s.heap.objs.size + 1)) { s with heap := h' }) :
    wpAny (model prog w) A (call (.type "enumerate") [.ref t]) Q E s := by
  refine callType_new PySem.F.called_enumerate (by decide) (PySem.F.typeCall_enumerate_1 _) (PySem.F.newCall_enumerate_1 _) (fun obj => PySem.F.args_object_init_2 obj _) PySem.F.entry_enumerate_new
    (meets_enumerate_newT t items) ⟨hT, ?_⟩
  have hz : (s.heap.push { cls := .type "tuple_iterator", data := .fields #[.ref t, .int 0 0] }).objs.size = s.heap.objs.size + 1 := Heap.size_push ..
  show _ ∧ _
  rw [hz]
  have he : IsEnum ((s.heap.push { cls := .type "tuple_iterator", data := .fields #[.ref t, .int 0 0] }).push
      { cls := .type "enumerate", data := .fields #[.none, .bool false, .ref s.heap.objs.size, rawInt 0, .none, .none] }) (s.heap.objs.size + 1) s.heap.objs.size 0 .none := by
    have := Heap.get?_push_size (s.heap.push { cls := .type "tuple_iterator", data := .fields #[.ref t, .int 0 0] })
      (o := { cls := .type "enumerate", data := .fields #[.none, .bool false, .ref s.heap.objs.size, rawInt 0, .none, .none] }) rfl
    rw [hz] at this; exact this
  refine ⟨⟨_, he, rfl⟩, h _ he ⟨_, Heap.get?_push_of_some _ (Heap.get?_push_size _ rfl), rfl, rfl⟩ (by rw [Heap.size_push, hz]) fun b o x => Heap.get?_push_of_some _ (Heap.get?_push_of_some _ x)⟩
theorem wpAny_pyNext_enum_endT {prog : Program} {w : World} {A : Around} {E : Value → Shared → Prop} {s : Shared} {e it l : Addr} {i : Nat} {k : Int} {items : Array Value} {od0 : Value} {Q : Option Value → Shared → Prop} (hh : A.handled = none)
    (he : IsEnum s.heap e it k od0) (hti : s.heap.IsTupleIter it l i) (hl : s.heap.IsTuple l items) (hx : items[i]? = none)
    (hQ : ∀ h', Heap.ExtBut it s.heap h' → Q none { s with heap := h' }) : wpAny (model prog w) A (pyNext (.ref e)) Q E s := by
  have hT : s.TypeIs (.ref e) "enumerate" := ⟨_, he, rfl⟩
  unfold pyNext
  refine wpAny_bind (wpAny_attempt (wpAny_callSpecial?_slot (name := Str.ofString "__next__") hT PySem.F.slot_enumerate_next
    (wpAny_call_entry PySem.F.slot_enumerate_next hT PySem.F.entry_enumerate_next ?_ (PySem.F.args_enumerate_next_1 _))))
  show wpAny _ _ (field (.ref e) 2 >>= _) _ _ _
  refine wpAny_bind (wpAny_field he rfl (x := .ref it) rfl ?_)
  refine wpAny_bind (wpAny_nextOf_tuple_end hh hti hl hx fun h' x he' hx' => ?_)
  obtain ⟨o, ho, hc⟩ := hx'
  refine wpAny_bind (wpAny_isInstance (T := "StopIteration") (b := true) ⟨o, ho, hc⟩ isSubtype_stop ?_)
  exact wpAny_pure (hQ _ he')
open L2
/-- the tuple at a, each item in a new pair -/
def IteT (K : PySem.W.Frag) (a : Addr) : It :=
  ⟨fun i H => ∃ (xs : List V) (x : V), SqT K H a xs ∧ xs[i]? = some x, fun i H v H' => ∃ T x, v = .ref T ∧ H T = none ∧ H' = upd H T (.tup [.int (i : Nat), x]) ∧ ∀ xs, SqT K H a xs → xs[i]? = some x, fun i H => ∃ xs : List V, SqT K H a xs ∧ xs.length ≤ i⟩
theorem turn_enumT {P : Program} {w : World} {K : PySem.W.Frag} {els : List Expr} {kt : Nat} {tp0 : Pos} (a e it : Addr) :
    Turn P w K (.Tuple els kt tp0) (IteT K a) [e, it] e (fun i h => (∃ od0, IsEnum h e it ((i : Nat) : Int) od0) ∧ h.IsTupleIter it a i ∧ e ≠ it) where
  mem := by simp
  obj := fun i h st b hb => by
    obtain ⟨⟨od0, he⟩, ⟨o, ho, hc, hd⟩, _⟩ := st
    have e' : b = e ∨ b = it := by simpa using hb
    rcases e' with z | z
    · rw [z]; exact ⟨_, he, fun v q => nomatch q⟩
    · rw [z]; exact ⟨o, ho, fun v q => by rw [hd] at q; cases q⟩
  keep := fun i h h' st k => let ⟨⟨od0, he⟩, hi, hdi⟩ := st; ⟨⟨od0, k e (by simp) _ he⟩, hi.at fun o q => k it (by simp) o q, hdi⟩
  item := by
    intro X hP hw hK hc i pins s σ H E I hf st hg
    subst hP hw hK
    obtain ⟨⟨od0, he⟩, hti, hdi⟩ := st
    obtain ⟨xs, x, hq, hx⟩ := hg
    obtain ⟨its, rv, p, hz⟩ := I.tuple hq
    obtain ⟨u, hu, ru⟩ := rv.get hx
    have hle0 : e < s.heap.objs.size := Heap.lt_size he
    have hli0 : it < s.heap.objs.size := by obtain ⟨_, q, _⟩ := hti; exact Heap.lt_size q
    have hT0 : s.heap.IsTuple a its.toArray := p
    have hl : i < its.toArray.size := by
      have := (List.getElem?_eq_some_iff.mp hu).1
      simpa using this
    obtain ⟨oa, hga, hca, na, hda⟩ := id hT0
    have hita : a ≠ it := fun z => by
      obtain ⟨o, ho, hc', hd'⟩ := id hti
      rw [z, ho] at hga; cases hga; rw [hd'] at hda; cases hda
    have hea : e ≠ a := fun z => by
      have he' : s.heap.get? e = some _ := he
      rw [z, hga] at he'; cases he'; cases hda
    have D := Draws.tuple (prog := X.prog) (w := X.w) (A := X.A.in1) (I.ok.hd hc) it a hita its.toArray
    refine wpAny_pyNext_enum_itemD D he ⟨hti, hT0⟩ hl hdi (by simp [hdi, hea]) fun y h' tk hy ho st' hT hsz hk => ?_
    obtain ⟨hti', _⟩ := st'
    have ey : y = u := by
      have hy' : its.toArray[i]? = some y := hy
      have hu' : its.toArray[i]? = some u := by simpa using hu
      rw [hu'] at hy'; exact (Option.some.inj hy').symm
    subst ey
    refine ⟨_, rfl, wpAny_letOwnedTupleGo_enum (s := { s with heap := h', toks := tk + 1 }) ho fun h'' he' sm => ?_⟩
    have hT2 : h''.get? s.heap.objs.size = some { cls := .type "tuple", data := .seq #[.int i tk, y] } := (sm.2 _ (Nat.ne_of_gt hle0)).trans hT
    have new : ObjOk X.prog X.w (upd H s.heap.objs.size (.tup [.int (i : Nat), x])) h'' s.heap.objs.size (.tup [.int (i : Nat), x]) :=
      ⟨by show 2 ≤ sizeLine; decide, [.int i tk, y], .cons ⟨_, rfl⟩ (.cons ru .nil), ⟨_, hT2, rfl, _, rfl⟩⟩
    have I1 : Inv X pins σ (upd H s.heap.objs.size (.tup [.int (i : Nat), x])) { s with heap := h'', toks := tk + 1 } :=
      I.turnedNew (ch := [e, it]) (fun b ob hb q => (sm.2 b (fun z => hb (by simp [z]))).trans (hk b ob (fun z => hb (by simp [z])) (fun z => hb (by simp [z])) q)) hf (Nat.le_refl _) new
    refine ⟨.ref s.heap.objs.size, _, I1, rfl, ⟨_, x, rfl, I.hok.fresh (Nat.le_refl _), rfl, fun ys hy => by rw [I.tuple_inj hy hq]; exact hx⟩, ⟨⟨y, ?_⟩, hti'.at fun o q => (sm.2 it (Ne.symm hdi)).trans q, hdi⟩, fun b hb => ?_⟩
    · have e1 : ((i + 1 : Nat) : Int) = (i : Int) + 1 := by omega
      rw [e1]; exact he'
    · have hb' : b < s.heap.objs.size := by
        have e' : b = e ∨ b = it := by simpa using hb
        rcases e' with z | z
        · rw [z]; exact hle0
        · rw [z]; exact hli0
      rw [upd_ne (Nat.ne_of_lt hb')]
      exact (hf b hb).1
  done := by
    intro X hP hw hK hc i pins s σ H E I hf st hg
    subst hP hw hK
    obtain ⟨⟨od0, he⟩, hti, hdi⟩ := st
    obtain ⟨xs, hq, hx⟩ := hg
    obtain ⟨its, rv, p, hz⟩ := I.tuple hq
    obtain ⟨f0, f1, f2, f3, f4, f5⟩ := hf it (by simp)
    have hl := rv.length
    have hT0 : s.heap.IsTuple a its.toArray := p
    obtain ⟨oa, hga, hca, na, hda⟩ := id hT0
    refine wpAny_pyNext_enum_endT (I.ok.hd hc) he hti hT0 (by simp; omega) fun h' eb => ⟨rfl, I.turned (t' := s.toks) (fun b o hb q => eb b o hb q) f0 f1 f3 f4 f5⟩
  self := fun A i s Q E st h => let ⟨⟨_, he⟩, _⟩ := st; wpAny_pyIter_enum he h

/-! ### lists and tuples alike -/
def SqA (K : PySem.W.Frag) (H : Hp) (a : Addr) (xs : List V) : Prop := SqL K H a xs ∨ SqT K H a xs
theorem SqT.same {K : PySem.W.Frag} {H H' : Hp} {a : Addr} {xs : List V} (e : Same H H') (h : SqT K H a xs) : SqT K H' a xs := by
  rcases h with (h | ⟨o, h⟩) | h
  · exact .inl (.inl (e _ _ h))
  · exact .inl (.inr ⟨o, e _ _ h⟩)
  · exact .inr h
theorem SqA.same {K : PySem.W.Frag} {H H' : Hp} {a : Addr} {xs : List V} (e : Same H H') (h : SqA K H a xs) : SqA K H' a xs := h.elim (fun h => .inl (e.seq h)) fun h => .inr (SqT.same e h)
theorem sqa_l {K : PySem.W.Frag} {H : Hp} {a : Addr} {xs : List V} (h : H a = some (.lst xs)) : SqA K H a xs := .inl (.inl (.inl h))
theorem sqa_t {K : PySem.W.Frag} {H : Hp} {a : Addr} {xs : List V} (h : H a = some (.tup xs)) : SqA K H a xs := .inr (.inl (.inl h))
def iEnumS (K : PySem.W.Frag) (ta : TA) : TI := fun σ H R => ta σ H fun vs H1 => ∃ a xs, vs = [.ref a] ∧ ((SqL K H1 a xs ∧ R (Ite K a) H1) ∨ (SqT K H1 a xs ∧ R (IteT K a) H1))
theorem pi_enumS {X : Cx} {e : Expr} {ta : TA} {p pos tp0 : Pos} {els : List Expr} {kt : Nat} (hg : Gl X "enumerate") (hm : X.mg "enumerate" = none) (ha : PA X [e] ta) (hs : starEach [e] X.env = [(false, eval e X.env)] := by rfl) :
    PI X (.Tuple els kt tp0) (.Call (.Name "enumerate" p) [e] [] pos) (iEnumS X.K ta) := by
  refine ⟨fun pins s σ H R I h => ?_⟩
  refine Call_ (ld_blt I hg hm boot_enumerate (PyProof.Rows.callWith_type1 (thn (ha.run pos pins s σ H _ I h) fun us s1 ⟨vs, H1, I1, r1, q1⟩ => ?_) hs rfl))
  obtain ⟨a, xs, ex, q⟩ := q1
  subst ex
  cases r1 with
  | cons r rr =>
    cases rr
    cases r
    rcases q with ⟨hq, q⟩ | ⟨hq, q⟩
    · obtain ⟨its, rv, p', hz⟩ := I1.list hq
      refine call_enumerate_list p'.isList fun h' he hti hsz hk => wpAny_pyIter_enum he ?_
      have I2 : Inv X pins σ H1 { s1 with heap := h' } := I1.kept (t' := s1.toks) hk
      refine ⟨s1.heap.objs.size + 1, [s1.heap.objs.size + 1, s1.heap.objs.size], _, _, H1, rfl, I2, turn_enum a (s1.heap.objs.size + 1) s1.heap.objs.size, ⟨⟨.none, he⟩, hti, Nat.succ_ne_self _⟩, fun b hb => ?_, q⟩
      have e' : b = s1.heap.objs.size + 1 ∨ b = s1.heap.objs.size := by simpa using hb
      have hle : s1.heap.objs.size ≤ b := by
        rcases e' with z | z
        · rw [z]; exact Nat.le_add_right _ _
        · rw [z]; exact Nat.le_refl _
      exact I1.fpOk hle (I1.hok.fresh hle)
    · obtain ⟨its, rv, p', hz⟩ := I1.tuple hq
      refine call_enumerate_tuple (show s1.heap.IsTuple a its.toArray from p') fun h' he hti hsz hk => wpAny_pyIter_enum he ?_
      have I2 : Inv X pins σ H1 { s1 with heap := h' } := I1.kept (t' := s1.toks) hk
      refine ⟨s1.heap.objs.size + 1, [s1.heap.objs.size + 1, s1.heap.objs.size], _, _, H1, rfl, I2, turn_enumT a (s1.heap.objs.size + 1) s1.heap.objs.size, ⟨⟨.none, he⟩, hti, Nat.succ_ne_self _⟩, fun b hb => ?_, q⟩
      have e' : b = s1.heap.objs.size + 1 ∨ b = s1.heap.objs.size := by simpa using hb
      have hle : s1.heap.objs.size ≤ b := by
        rcases e' with z | z
        · rw [z]; exact Nat.le_add_right _ _
        · rw [z]; exact Nat.le_refl _
      exact I1.fpOk hle (I1.hok.fresh hle)
def iSeq (K : PySem.W.Frag) (tl : TE) : TI := fun σ H R => tl σ H fun x H1 => ∃ a xs, x = .ref a ∧ ((SqL K H1 a xs ∧ R (Itl K a) H1) ∨ (SqT K H1 a xs ∧ R (Itt K a) H1))
theorem pi_seq {X : Cx} {tg l : Expr} {tl : TE} (hl : PE X l tl) : PI X tg l (iSeq X.K tl) := by
  refine ⟨fun pins s σ H R I h => ?_⟩
  refine thn (hl.run pins s σ H _ I h) fun v s1 ⟨x, H1, I1, r1, q1⟩ => ?_
  obtain ⟨a, xs, e, q⟩ := q1
  subst e
  cases r1
  rcases q with ⟨hq, q⟩ | ⟨hq, q⟩
  · obtain ⟨its, rv, p, hz⟩ := I1.list hq
    refine wpAny_pyIter_list p.isList ?_
    refine ⟨s1.heap.objs.size, [s1.heap.objs.size], _, _, H1, rfl, I1.kept (t' := s1.toks) fun b o e => Heap.get?_push_of_some _ e, turn_list a _, ⟨_, Heap.get?_push_size _ rfl, rfl, rfl⟩, fun b hb => ?_, q⟩
    have e : b = s1.heap.objs.size := by simpa using hb
    subst e
    exact I1.fpOk (Nat.le_refl _) (I1.hok.fresh (Nat.le_refl _))
  · obtain ⟨its, rv, p, hz⟩ := I1.tuple hq
    refine wpAny_pyIter_tuple (show s1.heap.IsTuple a its.toArray from p) ?_
    refine ⟨s1.heap.objs.size, [s1.heap.objs.size], _, _, H1, rfl, I1.kept (t' := s1.toks) fun b o e => Heap.get?_push_of_some _ e, turn_tuple a _, ⟨_, Heap.get?_push_size _ rfl, rfl, rfl⟩, fun b hb => ?_, q⟩
    have e : b = s1.heap.objs.size := by simpa using hb
    subst e
    exact I1.fpOk (Nat.le_refl _) (I1.hok.fresh (Nat.le_refl _))
theorem walk_enumT {K : PySem.W.Frag} {a : Addr} {xs : List V} : Walk (IteT K a) xs.length (fun H => SqT K H a xs) (YPair (fun i => some (.int (i : Nat))) (fun i => xs[i]?)) := by
  refine ⟨fun i _ hi q => ⟨xs, xs[i], q, by simp [hi]⟩, fun _ q => ⟨xs, q, Nat.le_refl _⟩, fun i H v H' _ q y => ?_⟩
  obtain ⟨T, x, h1, h2, h3, h4⟩ := y
  exact ⟨T, .int (i : Nat), x, h1, h2, h3, rfl, h4 xs q⟩
/-! ### loops, as the reading asks for them -/
abbrev ForG (g : TG) (tb : TS) (D : Ends) (σ : L2.St) : It → Hp → Prop := fun J H1 => ∃ W : Nat → Nat → L2.St → Hp → Prop, (∃ m, W 0 m σ H1) ∧ ∀ i m σ H, W i m σ H →
      (J.stop i H ∧ D.nx σ H) ∨ (J.go i H ∧ ∃ N : L2.St → Hp → Prop, (∀ σ' H', N σ' H' → ∃ m', m' < m ∧ W (i + 1) m' σ' H') ∧ ∀ x H', J.yld i H x H' → g x σ H' fun σ2 H2 => tb { D with nx := N, ct := N, bk := D.nx } σ2 H2)
section
variable {K : PySem.W.Frag} {g : TG} {tb : TS} {D : Ends} {σ : L2.St} {H : Hp} {p : Addr} {xs : List V}
/-- for .. in enumerate(p) -/
theorem forE (H0 : Hp) (sq : SqA K H0 p xs) (Pv : Nat → L2.St → Hp → Prop) (h0 : Pv 0 σ H) (hS : ∀ i σ H', i ≤ xs.length → Pv i σ H' → Same H0 H')
    (hs : ∀ i x σ H' T, xs[i]? = some x → Pv i σ H' → H' T = none → g (.ref T) σ (upd H' T (.tup [.int (i : Nat), x])) fun σ2 H2 => tb { D with nx := Pv (i + 1), ct := Pv (i + 1), bk := D.nx } σ2 H2)
    (hd : ∀ σ H', Pv xs.length σ H' → D.nx σ H') : ∃ a ys, [V.ref p] = [.ref a] ∧ ((SqL K H a ys ∧ ForG g tb D σ (Ite K a) H) ∨ (SqT K H a ys ∧ ForG g tb D σ (IteT K a) H)) := by
  have s0 := hS 0 σ H (Nat.zero_le _) h0
  rcases sq with sq | sq
  · refine ⟨p, xs, rfl, .inl ⟨s0.seq sq, for_it walk_enum Pv h0 (fun i σ H' hi q => (hS i σ H' hi q).seq sq) (fun i v σ H' H'' hi q y => ?_) hd⟩⟩
    obtain ⟨T, x, z, e1, e2, e3, e4, e5⟩ := y
    subst e1 e3
    cases e4
    exact hs i z σ H' T e5 q e2
  · refine ⟨p, xs, rfl, .inr ⟨SqT.same s0 sq, for_it walk_enumT Pv h0 (fun i σ H' hi q => SqT.same (hS i σ H' hi q) sq) (fun i v σ H' H'' hi q y => ?_) hd⟩⟩
    obtain ⟨T, x, z, e1, e2, e3, e4, e5⟩ := y
    subst e1 e3
    cases e4
    exact hs i z σ H' T e5 q e2
/-- for .. in p -/
theorem forS (H0 : Hp) (sq : SqA K H0 p xs) (Pv : Nat → L2.St → Hp → Prop) (h0 : Pv 0 σ H) (hS : ∀ i σ H', i ≤ xs.length → Pv i σ H' → Same H0 H')
    (hs : ∀ i x σ H', xs[i]? = some x → Pv i σ H' → g x σ H' fun σ2 H2 => tb { D with nx := Pv (i + 1), ct := Pv (i + 1), bk := D.nx } σ2 H2)
    (hd : ∀ σ H', Pv xs.length σ H' → D.nx σ H') : ∃ a ys, V.ref p = .ref a ∧ ((SqL K H a ys ∧ ForG g tb D σ (Itl K a) H) ∨ (SqT K H a ys ∧ ForG g tb D σ (Itt K a) H)) := by
  have s0 := hS 0 σ H (Nat.zero_le _) h0
  rcases sq with sq | sq
  · exact ⟨p, xs, rfl, .inl ⟨s0.seq sq, for_list Pv h0 (fun i σ H' hi q => (hS i σ H' hi q).seq sq) hs hd⟩⟩
  · exact ⟨p, xs, rfl, .inr ⟨SqT.same s0 sq, for_tup Pv h0 (fun i σ H' hi q => SqT.same (hS i σ H' hi q) sq) hs hd⟩⟩
theorem forR1 {n : Int} (hn : -(2 ^ 62) ≤ n ∧ n < 2 ^ 62) (Pv : Nat → L2.St → Hp → Prop) (h0 : Pv 0 σ H)
    (hs : ∀ (i : Nat) σ H', (i : Int) < n → Pv i σ H' → g (.int (i : Int)) σ H' fun σ2 H2 => tb { D with nx := Pv (i + 1), ct := Pv (i + 1), bk := D.nx } σ2 H2)
    (hd : ∀ σ H', Pv n.toNat σ H' → D.nx σ H') : ∃ j : Int, [V.int n] = [.int j] ∧ -(2 ^ 62) ≤ j ∧ j < 2 ^ 62 ∧ ForG g tb D σ (Itr 0 j.toNat) H := by
  refine ⟨n, rfl, hn.1, hn.2, for_range Pv h0 (fun i σ H' hi q => ?_) hd⟩
  have e : (0 : Int) + (i : Int) = i := by omega
  rw [e]
  exact hs i σ H' (by omega) q
theorem forR2 {lo hi : Int} (hn : -(2 ^ 62) ≤ lo ∧ lo < 2 ^ 62 ∧ -(2 ^ 62) ≤ hi ∧ hi < 2 ^ 62) (Pv : Nat → L2.St → Hp → Prop) (h0 : Pv 0 σ H)
    (hs : ∀ (i : Nat) σ H', lo + (i : Int) < hi → Pv i σ H' → g (.int (lo + (i : Int))) σ H' fun σ2 H2 => tb { D with nx := Pv (i + 1), ct := Pv (i + 1), bk := D.nx } σ2 H2)
    (hd : ∀ σ H', Pv (hi - lo).toNat σ H' → D.nx σ H') : ∃ i j : Int, [V.int lo, V.int hi] = [.int i, .int j] ∧ (-(2 ^ 62) ≤ i ∧ i < 2 ^ 62 ∧ -(2 ^ 62) ≤ j ∧ j < 2 ^ 62) ∧ ForG g tb D σ (Itr i (j - i).toNat) H :=
  ⟨lo, hi, rfl, hn, for_range Pv h0 (fun i σ H' hi q => hs i σ H' (by omega) q) hd⟩
end
abbrev LcG (g : TG) (tt : TT) (te : TE) (vs : List Nat) (σ : L2.St) (Q : VK) : It → Hp → Prop := fun J H1 => ∀ D, H1 D = none → ∃ W : Nat → Nat → Hp → Prop, (∃ m, W 0 m (upd H1 D (.lst []))) ∧ ∀ i m H, W i m H →
  (J.stop i H ∧ Q (.ref D) H) ∨ (J.go i H ∧ ∃ Nx : Hp → Prop, (∀ H', Nx H' → ∃ m', m' < m ∧ W (i + 1) m' H') ∧ ∀ x H', J.yld i H x H' → g x (wipe σ vs) H' fun σ2 H2 => wipe σ2 vs = wipe σ vs ∧ tt σ2 H2 fun b H3 =>
    if b = true then te σ2 H3 fun y H4 => ∃ acc, H4 D = some (.lst acc) ∧ acc.length < sizeLine ∧ Nx (upd H4 D (.lst (acc ++ [y]))) else Nx H3)
theorem w_lc {wi : TI} {g : TG} {tt : TT} {te : TE} {vs : List Nat} {σ : L2.St} {H : Hp} {Q : VK} (h : wi σ H (LcG g tt te vs σ Q)) : tLc wi g tt te vs σ H Q := h
section
variable {K : PySem.W.Frag} {g : TG} {tt : TT} {te : TE} {vs : List Nat} {σ : L2.St} {H : Hp} {Q : VK} {p : Addr} {xs : List V}
theorem same_upd2 {H H4 : Hp} {Dl : Addr} {o : HO} (h : H Dl = none) (s : Same H H4) : Same H (upd H4 Dl o) := fun a u e => by
  rw [upd_ne (ne_of_none e h)]; exact s a u e
/-- between two turns: what the new list at Dl holds, and what else is so -/
abbrev LcInv (H : Hp) (Dl : Addr) (Pv : Nat → List V → Hp → Prop) (i : Nat) (H' : Hp) : Prop := ∃ acc, Same H H' ∧ H' Dl = some (.lst acc) ∧ Pv i acc H'
/-- a turn of a comprehension: what is asked -/
abbrev LcTurn (g : TG) (tt : TT) (te : TE) (vs : List Nat) (σ : L2.St) (H : Hp) (Dl : Addr) (Pv : Nat → List V → Hp → Prop) (i : Nat) (x : V) (H1 : Hp) : Prop :=
  g x (wipe σ vs) H1 fun σ2 H2 => wipe σ2 vs = wipe σ vs ∧ tt σ2 H2 fun b H3 =>
      if b = true then te σ2 H3 fun y H4 => ∃ acc, H4 Dl = some (.lst acc) ∧ acc.length < sizeLine ∧ LcInv H Dl Pv (i + 1) (upd H4 Dl (.lst (acc ++ [y]))) else LcInv H Dl Pv (i + 1) H3
theorem lc_step {Dl : Addr} {Pv : Nat → List V → Hp → Prop} {i : Nat} {acc : List V} {y : V} {H4 : Hp} (hD : H Dl = none) (s : Same H H4) (l : H4 Dl = some (.lst acc)) (z : acc.length < 100000) (p : Pv (i + 1) (acc ++ [y]) (upd H4 Dl (.lst (acc ++ [y])))) :
    ∃ acc, H4 Dl = some (.lst acc) ∧ acc.length < sizeLine ∧ LcInv H Dl Pv (i + 1) (upd H4 Dl (.lst (acc ++ [y]))) := ⟨acc, l, Nat.lt_of_lt_of_le z (by decide), acc ++ [y], same_upd2 hD s, upd_same, p⟩
theorem lc_gen {J : It} {n : Nat} {G : Hp → Prop} {Y : Nat → Hp → V → Hp → Prop} (w : Walk J n G Y) (hY : ∀ i H' x H'', Y i H' x H'' → H'' = H') (hG : ∀ H', Same H H' → G H') (Pv : Nat → List V → Hp → Prop)
    (h0 : ∀ Dl, H Dl = none → Pv 0 [] (upd H Dl (.lst [])))
    (hs : ∀ Dl i x acc H', H Dl = none → i < n → Y i H' x H' → Same H H' → H' Dl = some (.lst acc) → Pv i acc H' → LcTurn g tt te vs σ H Dl Pv i x H')
    (hd : ∀ Dl acc H', H Dl = none → Same H H' → H' Dl = some (.lst acc) → Pv n acc H' → Q (.ref Dl) H') : LcG g tt te vs σ Q J H := by
  intro Dl hD
  refine lc_it w (fun i H' => LcInv H Dl Pv i H') ⟨[], same_upd2 hD (Same.refl H), upd_same, h0 Dl hD⟩ (fun i H' _ ⟨_, s, _⟩ => hG H' s) (fun i x H' H'' hi ⟨acc, s, hl, pv⟩ y => ?_) fun H' ⟨acc, s, hl, pv⟩ => hd Dl acc H' hD s hl pv
  have e := hY i H' x H'' y
  subst e
  exact hs Dl i x acc H'' hD hi y s hl pv
/-- [.. for .. in p] -/
theorem lcS (sq : SqA K H p xs) (Pv : Nat → List V → Hp → Prop) (h0 : ∀ Dl, H Dl = none → Pv 0 [] (upd H Dl (.lst [])))
    (hs : ∀ Dl i x acc H', H Dl = none → xs[i]? = some x → Same H H' → H' Dl = some (.lst acc) → Pv i acc H' → LcTurn g tt te vs σ H Dl Pv i x H')
    (hd : ∀ Dl acc H', H Dl = none → Same H H' → H' Dl = some (.lst acc) → Pv xs.length acc H' → Q (.ref Dl) H') :
    ∃ a ys, V.ref p = .ref a ∧ ((SqL K H a ys ∧ LcG g tt te vs σ Q (Itl K a) H) ∨ (SqT K H a ys ∧ LcG g tt te vs σ Q (Itt K a) H)) := by
  rcases sq with sq | sq
  · exact ⟨p, xs, rfl, .inl ⟨sq, lc_gen walk_list (fun _ _ _ _ y => y.1) (fun H' s => s.seq sq) Pv h0 (fun Dl i x acc H' hD _ y s l q => hs Dl i x acc H' hD y.2 s l q) hd⟩⟩
  · exact ⟨p, xs, rfl, .inr ⟨sq, lc_gen walk_tup (fun _ _ _ _ y => y.1) (fun H' s => SqT.same s sq) Pv h0 (fun Dl i x acc H' hD _ y s l q => hs Dl i x acc H' hD y.2 s l q) hd⟩⟩
theorem lcR1 {n : Int} (hn : -(2 ^ 62) ≤ n ∧ n < 2 ^ 62) (Pv : Nat → List V → Hp → Prop) (h0 : ∀ Dl, H Dl = none → Pv 0 [] (upd H Dl (.lst [])))
    (hs : ∀ Dl (i : Nat) acc H', H Dl = none → (i : Int) < n → Same H H' → H' Dl = some (.lst acc) → Pv i acc H' → LcTurn g tt te vs σ H Dl Pv i (.int (i : Int)) H')
    (hd : ∀ Dl acc H', H Dl = none → Same H H' → H' Dl = some (.lst acc) → Pv n.toNat acc H' → Q (.ref Dl) H') :
    ∃ j : Int, [V.int n] = [.int j] ∧ -(2 ^ 62) ≤ j ∧ j < 2 ^ 62 ∧ LcG g tt te vs σ Q (Itr 0 j.toNat) H := by
  refine ⟨n, rfl, hn.1, hn.2, lc_gen walk_range (fun _ _ _ _ y => y.1) (fun _ _ => trivial) Pv h0 (fun Dl i x acc H' hD hi y s l q => ?_) hd⟩
  have e : x = .int (i : Int) := by rw [y.2]; show V.int ((0 : Int) + (i : Int)) = _; rw [Int.zero_add]
  rw [e]
  exact hs Dl i acc H' hD (by omega) s l q
theorem lcR2 {lo hi : Int} (hn : -(2 ^ 62) ≤ lo ∧ lo < 2 ^ 62 ∧ -(2 ^ 62) ≤ hi ∧ hi < 2 ^ 62) (Pv : Nat → List V → Hp → Prop) (h0 : ∀ Dl, H Dl = none → Pv 0 [] (upd H Dl (.lst [])))
    (hs : ∀ Dl (i : Nat) acc H', H Dl = none → lo + (i : Int) < hi → Same H H' → H' Dl = some (.lst acc) → Pv i acc H' → LcTurn g tt te vs σ H Dl Pv i (.int (lo + (i : Int))) H')
    (hd : ∀ Dl acc H', H Dl = none → Same H H' → H' Dl = some (.lst acc) → Pv (hi - lo).toNat acc H' → Q (.ref Dl) H') :
    ∃ i j : Int, [V.int lo, V.int hi] = [.int i, .int j] ∧ (-(2 ^ 62) ≤ i ∧ i < 2 ^ 62 ∧ -(2 ^ 62) ≤ j ∧ j < 2 ^ 62) ∧ LcG g tt te vs σ Q (Itr i (j - i).toNat) H := by
  refine ⟨lo, hi, rfl, hn, lc_gen walk_range (fun _ _ _ _ y => y.1) (fun _ _ => trivial) Pv h0 (fun Dl i x acc H' hD hi' y s l q => ?_) hd⟩
  have e : x = .int (lo + (i : Int)) := y.2
  rw [e]
  exact hs Dl i acc H' hD (by omega) s l q
end
end J
namespace J
open PySem PySem.Spec PyProof.Rows L2
/-! ### callables -/
structure Cal (P : Program) (w : World) (K : PySem.W.Frag) (mg : Str → Option Value) (base : Heap) (k : Nat) (x : Str) (ps : List Str) (sp : Sp) : Prop where
  ex : ∃ f fd, mg x = some (.ref f) ∧ PySem.W.keepIn K (.ref f) = true ∧ Binds K fd ps [] ∧ FnOk P w K mg base CX0 k f fd ps sp
structure CalM (P : Program) (w : World) (K : PySem.W.Frag) (mg : Str → Option Value) (base : Heap) (k : Nat) (C : Addr) (m qual : Str) (st : Stmt) (ps : List Str) (sp : Sp) : Prop where
  ex : ∃ f fd, Meth K C m f ∧ Binds K fd ps [] ∧ FnOk P w K mg base CX0 k f fd ps sp ∧ FunD K m qual (defArgs st) (defBody st) (defScope st) [] [] f fd
section
variable {X : Cx} {k : Nat} {x : Str} {ps : List Str} {sp : Sp} {e : Expr} {es : List Expr} {t : TA} {p pos : Pos}
theorem pe_cal (c : Cal X.prog X.w X.K X.mg X.base k x ps sp) (hr : Room k X.A) (ha : PA X (e :: es) t) (hg : Gl X x := by rfl) (hdb : (x == ("__debug__" : Str)) = false := by decide)
    (he : starEach (e :: es) X.env = (false, eval e X.env) :: starEach es X.env := by rfl) (hpl : (backTo pos (starEach es X.env)).any (·.1) = false := by rfl) :
    PE X (.Call (.Name x p) (e :: es) [] pos) (tCall sp [] E0 t) := by
  obtain ⟨f, fd, hm, hk, hb, F⟩ := c.ex
  exact pe_call F hr hg hm hk hb .nil pass0 ha hdb he hpl
theorem pe_cal0 (c : Cal X.prog X.w X.K X.mg X.base k x ps sp) (hr : Room k X.A) (hg : Gl X x := by rfl) (hdb : (x == ("__debug__" : Str)) = false := by decide) :
    PE X (.Call (.Name x p) [] [] pos) (tCall sp [] E0 tNil) := by
  obtain ⟨f, fd, hm, hk, hb, F⟩ := c.ex
  exact pe_call0 F hr hg hm hk hb .nil pass0 hdb
theorem pe_const {i : Int} (hm : ∃ t, X.mg x = some (.int i t)) (hg : Gl X x := by rfl) (hn : x ≠ "__name__" := by decide) (hdb : (x == ("__debug__" : Str)) = false := by decide) : PE X (.Name x pos) (tC (.int i)) := by
  obtain ⟨t, hm⟩ := hm
  first
  | exact pe_glob hg hm ⟨_, rfl⟩
  | exact pe_glob hg hm ⟨_, rfl⟩ hn
  | exact pe_glob hg hm ⟨_, rfl⟩ hdb
end
/-! ### the steps of a reading -/
section
variable {K : PySem.W.Frag} {D : Ends} {σ : L2.St} {H : Hp} {Q : VK} {t u : TS} {te ta tb tc : TE} {tt tu : TT} {g : TG} {x y v : V} {i j : Int} {r r' : R2}
theorem w_seq (h : t { D with nx := u D } σ H) : tSeq t u D σ H := h
theorem w_par {i j : Nat} {ta : TA} (h : ta σ H fun vs H1 => ∃ v w, vs = [v, w] ∧ D.nx ((σ.set i (some v)).set j (some w)) H1) : tPar i j ta D σ H := h
theorem w_asg (h : te σ H fun x H1 => g x σ H1 D.nx) : tAsg te g D σ H := h
theorem w_ret (h : te σ H D.rt) : tRet te D σ H := h
theorem w_retN (h : D.rt .non H) : tRetN D σ H := h
theorem w_drop (h : te σ H fun _ H1 => D.nx σ H1) : tDrop te D σ H := h
theorem w_ifS (h : tt σ H fun b H1 => if b = true then t D σ H1 else u D σ H1) : tIfS tt t u D σ H := h
theorem w_next (h : D.nx σ H) : tNext D σ H := h
theorem w_brk (h : D.bk σ H) : tBreak D σ H := h
theorem w_cont (h : D.ct σ H) : tCont D σ H := h
theorem w_for {wi : TI} {tb : TS} (h : wi σ H fun J H1 => ∃ W : Nat → Nat → L2.St → Hp → Prop, (∃ m, W 0 m σ H1) ∧ ∀ i m σ H, W i m σ H →
      (J.stop i H ∧ D.nx σ H) ∨ (J.go i H ∧ ∃ N : L2.St → Hp → Prop, (∀ σ' H', N σ' H' → ∃ m', m' < m ∧ W (i + 1) m' σ' H') ∧ ∀ x H', J.yld i H x H' → g x σ H' fun σ2 H2 => tb { D with nx := N, ct := N, bk := D.nx } σ2 H2)) : tFor wi g tb D σ H := h
theorem w_name {n : Nat} {R : L2.St → Hp → Prop} (h : R (σ.set n (some v)) H) : gName n v σ H R := h
theorem w_var {n : Nat} (h : σ[n]? = some (some v)) (q : Q v H) : tVar n σ H Q := ⟨v, h, q⟩
theorem w_c (q : Q v H) : tC v σ H Q := q
theorem w_op (h : ta σ H fun x H1 => tb σ H1 fun y H2 => r x y H2 Q) : tOp r ta tb σ H Q := h
theorem w_un {r : V → Hp → VK → Prop} (h : ta σ H fun x H1 => r x H1 Q) : tUn r ta σ H Q := h
theorem w_rU {g : Int → V} (q : Q (g i) H) : rU g (.int i) H Q := ⟨i, rfl, q⟩
theorem w_neg (q : Q (.int (-i)) H) : rU (fun i => .int (-i)) (.int i) H Q := ⟨i, rfl, q⟩
theorem w_rI0 {g : Int → Int → V} (q : Q (g i j) H) : rI0 g (.int i) (.int j) H Q := ⟨i, j, rfl, rfl, q⟩
theorem w_add (q : Q (.int (i + j)) H) : rI0 (fun i j => .int (i + j)) (.int i) (.int j) H Q := ⟨i, j, rfl, rfl, q⟩
theorem w_sub (q : Q (.int (i - j)) H) : rI0 (fun i j => .int (i - j)) (.int i) (.int j) H Q := ⟨i, j, rfl, rfl, q⟩
theorem w_mulL (q : Q (.int (i * j)) H) (h : -(2 ^ 64) < i ∧ i < 2 ^ 64) : rI CMul (fun i j => .int (i * j)) (.int i) (.int j) H Q := ⟨i, j, rfl, rfl, .inl h, q⟩
theorem w_mulR (q : Q (.int (i * j)) H) (h : -(2 ^ 64) < j ∧ j < 2 ^ 64) : rI CMul (fun i j => .int (i * j)) (.int i) (.int j) H Q := ⟨i, j, rfl, rfl, .inr h, q⟩
theorem w_mod (q : Q (.int (i % j)) H) (h : 0 < j) : rI (fun _ j => 0 < j) (fun i j => .int (i % j)) (.int i) (.int j) H Q := ⟨i, j, rfl, rfl, h, q⟩
theorem cdw {i j : Int} (h : 0 < j) (h2 : j < 2 ^ 80) : CDivW i j := wide_div (b := 80) h (by omega) (by decide) (by decide)
theorem w_fdiv (q : Q (.int (i / j)) H) (h : 0 < j) (h2 : j < 2 ^ 80) : rI CDivW (fun i j => .int (i / j)) (.int i) (.int j) H Q := ⟨i, j, rfl, rfl, cdw h h2, q⟩
theorem w_pow (q : Q (.int (i ^ j.toNat)) H) (h : 0 ≤ j ∧ j ≤ 1000000 ∧ i.natAbs < 2 ^ 64) : rI CPow (fun i j => .int (i ^ j.toNat)) (.int i) (.int j) H Q := ⟨i, j, rfl, rfl, h, q⟩
theorem w_eqI (q : Q (.bl (decide (i = j))) H) : rEq (.int i) (.int j) H Q := ⟨rfl, by
  have e : decide (V.int i = V.int j) = decide (i = j) := by rw [dec_int]; by_cases h : i = j <;> simp [h]
  rw [e]; exact q⟩
theorem w_neI (q : Q (.bl (!decide (i = j))) H) : rNe (.int i) (.int j) H Q := ⟨rfl, by
  have e : decide (V.int i = V.int j) = decide (i = j) := by rw [dec_int]; by_cases h : i = j <;> simp [h]
  rw [e]; exact q⟩
theorem w_eqB {a b : Bool} (q : Q (.bl (decide (a = b))) H) : rEq (.bl a) (.bl b) H Q := ⟨rfl, by
  have e : decide (V.bl a = V.bl b) = decide (a = b) := by rw [dec_bl]; by_cases h : a = b <;> simp [h]
  rw [e]; exact q⟩
theorem w_neB {a b : Bool} (q : Q (.bl (!decide (a = b))) H) : rNe (.bl a) (.bl b) H Q := ⟨rfl, by
  have e : decide (V.bl a = V.bl b) = decide (a = b) := by rw [dec_bl]; by_cases h : a = b <;> simp [h]
  rw [e]; exact q⟩

end
section
variable {K : PySem.W.Frag} {D : Ends} {σ : L2.St} {H : Hp} {Q : VK} {R : Bool → Hp → Prop} {te ta tb tc : TE} {tt tu : TT} {x y v : V} {i j : Int} {r r' : R2}
theorem w_tst (h : te σ H fun x H' => ∃ k, x = .bl k ∧ R k H') : tTest te σ H R := h
theorem w_tB (h : te σ H fun x H1 => ∃ c, x = .bl c ∧ R c H1) : tB te σ H R := h
theorem w_exb {b : Bool} (h : R b H) : ∃ k, V.bl b = .bl k ∧ R k H := ⟨b, rfl, h⟩
theorem w_and (h : tt σ H fun c H1 => if c = true then tu σ H1 R else R false H1) : tAnd tt tu σ H R := h
theorem w_or (h : tt σ H fun c H1 => if c = true then R true H1 else tu σ H1 R) : tOr tt tu σ H R := h
theorem w_not (h : tt σ H fun c H1 => R (!c) H1) : tNot tt σ H R := h
theorem w_andV (h : ta σ H fun x H1 => ∃ c, x = .bl c ∧ if c = true then tb σ H1 Q else Q (.bl false) H1) : tAndV ta tb σ H Q := h
theorem w_orV (h : ta σ H fun x H1 => ∃ c, x = .bl c ∧ if c = true then Q (.bl true) H1 else tb σ H1 Q) : tOrV ta tb σ H Q := h
theorem w_notV (h : ta σ H fun x H1 => ∃ c, x = .bl c ∧ Q (.bl (!c)) H1) : tNotV ta σ H Q := h
theorem w_exc {b : Bool} {P : Bool → Prop} (h : P b) : ∃ k, V.bl b = .bl k ∧ P k := ⟨b, rfl, h⟩
theorem w_ifE (h : tt σ H fun c H1 => if c = true then ta σ H1 Q else tb σ H1 Q) : tIf tt ta tb σ H Q := h
theorem w_chain (h : ta σ H fun x H1 => tb σ H1 fun y H2 => r x y H2 fun z H3 => ∃ k, z = .bl k ∧ (if k = true then tc σ H3 fun w' H4 => r' y w' H4 Q else Q (.bl false) H3)) : tChain r r' ta tb tc σ H Q := h
theorem w_nil {A : List V → Hp → Prop} (h : A [] H) : tNil σ H A := h
theorem w_cons {tr : TA} {A : List V → Hp → Prop} (h : ta σ H fun x H1 => tr σ H1 fun xs H2 => A (x :: xs) H2) : tCons ta tr σ H A := h
theorem w_call {sp : Sp} {E : XK} {t : TA} (h : t σ H fun vs H1 => sp vs H1 Q E) : tCall sp [] E t σ H Q := by
  have e : tCall sp [] E t = fun σ H Q => t σ H fun vs H1 => sp vs H1 Q E := by funext σ H Q; simp [tCall]
  rw [e]; exact h
theorem w_cb {r : List V → Hp → VK → Prop} {t : TA} (h : t σ H fun vs H1 => r vs H1 Q) : tCB r t σ H Q := h
theorem w_bm {T : String} {r : V → List V → Hp → VK → Prop} {t : TA} (h : te σ H fun x H1 => tyV K T x H1 ∧ t σ H1 fun xs H2 => r x xs H2 Q) : tBM K T r te t σ H Q := h
theorem w_bm0 {T : String} {r : V → List V → Hp → VK → Prop} (h : te σ H fun x H1 => tyV K T x H1 ∧ r x [] H1 Q) : tBM0 K T r te σ H Q := h
theorem w_sl {r : V → Option Int → Option Int → Hp → VK → Prop} {tl th : TO} (h : te σ H fun x H1 => tl σ H1 fun l H2 => th σ H2 fun u H3 => r x l u H3 Q) : tSl r te tl th σ H Q := h
theorem w_noPart {A : Option Int → Hp → Prop} (h : A none H) : tNoPart σ H A := h
theorem w_part {A : Option Int → Hp → Prop} (h : te σ H fun x H1 => ∃ i, x = .int i ∧ A (some i) H1) : tPart te σ H A := h
theorem w_exi {P : Int → Prop} (h : P i) : ∃ k, V.int i = .int k ∧ P k := ⟨i, rfl, h⟩
theorem w_ixL {p : Addr} {xs : List V} (q : Q v H) (h : SqL K H p xs) (a : atI xs i = some v) : rIxL K (.ref p) (.int i) H Q := ⟨p, xs, i, v, rfl, rfl, h, a, q⟩
theorem w_ixT {p : Addr} {xs : List V} (q : Q v H) (h : SqT K H p xs) (a : atI xs i = some v) : rIxT K (.ref p) (.int i) H Q := ⟨p, xs, i, v, rfl, rfl, h, a, q⟩
theorem w_gSub {to ti : TE} {s : TSet} {N : L2.St → Hp → Prop} (h : to σ H fun o H1 => ti σ H1 fun i H2 => s o i v H2 fun H3 => N σ H3) : gSub to ti s v σ H N := h
theorem w_setL {p : Addr} {xs : List V} {n : Nat} {A : Hp → Prop} (q : A (upd H p (.lst (xs.set n v)))) (h : H p = some (.lst xs)) (a : ixN xs.length i = some n) : rSetL (.ref p) (.int i) v H A := ⟨p, xs, i, n, rfl, rfl, h, a, q⟩
theorem w_append {p : Addr} {xs : List V} (q : Q .non (upd H p (.lst (xs ++ [y])))) (h : H p = some (.lst xs)) (z : xs.length < sizeLine) : rAppend (.ref p) [y] H Q := ⟨p, xs, y, rfl, rfl, h, z, q⟩

theorem w_gTup {n : Nat} {p : Addr} {xs : List V} {t : TGs} {N : L2.St → Hp → Prop} (h : t xs σ H N) (s : SqT K H p xs) (l : xs.length = n) : gTup K n t (.ref p) σ H N := ⟨p, xs, rfl, s, l, h⟩
theorem w_gCons {t : TG} {u : TGs} {vs : List V} {N : L2.St → Hp → Prop} (h : t v σ H fun σ' H' => u vs σ' H' N) : gCons t u (v :: vs) σ H N := ⟨v, vs, rfl, h⟩
theorem w_gNil {N : L2.St → Hp → Prop} (h : N σ H) : gNil [] σ H N := ⟨rfl, h⟩
theorem w_if {c : Bool} {A B : Prop} (h1 : c = true → A) (h2 : c = false → B) : if c = true then A else B := by cases c <;> simp_all
theorem w_ifd {p : Prop} [Decidable p] {A B : Prop} (h1 : p → A) (h2 : ¬ p → B) : if decide p = true then A else B := by by_cases h : p <;> simp [h, h1, h2]
theorem w_ifnd {p : Prop} [Decidable p] {A B : Prop} (h1 : ¬ p → A) (h2 : p → B) : if (!decide p) = true then A else B := by by_cases h : p <;> simp [h, h1, h2]
theorem w_ifT {A B : Prop} (h1 : A) : if true = true then A else B := by simpa using h1
theorem w_ifF {A B : Prop} (h1 : B) : if false = true then A else B := by simpa using h1
theorem w_ifnT {A B : Prop} (h1 : B) : if (!true) = true then A else B := by simpa using h1
theorem w_ifnF {A B : Prop} (h1 : A) : if (!false) = true then A else B := by simpa using h1
abbrev rAddI : R2 := rI0 fun i j => .int (i + j)
abbrev rSubI : R2 := rI0 fun i j => .int (i - j)
abbrev rMulI : R2 := rI CMul fun i j => .int (i * j)
abbrev rModI : R2 := rI (fun _ j => 0 < j) fun i j => .int (i % j)
abbrev rDivI : R2 := rI CDivW fun i j => .int (i / j)
abbrev rPowI : R2 := rI CPow fun i j => .int (i ^ j.toNat)
abbrev rLtI : R2 := rI0 fun i j => .bl (decide (i < j))
abbrev rLeI : R2 := rI0 fun i j => .bl (decide (i ≤ j))
abbrev rGtI : R2 := rI0 fun i j => .bl (decide (j < i))
abbrev rGeI : R2 := rI0 fun i j => .bl (decide (j ≤ i))
theorem w_yes (h : R true H) : tYes σ H R := h
/-- built-ins with named readings -/
def rInt1 : List V → Hp → VK → Prop := fun xs H Q => (∃ i, xs = [.int i] ∧ Q (.int i) H) ∨ ∃ k, xs = [.bl k] ∧ Q (.int (if k then 1 else 0)) H
theorem jc_int {X : Cx} : CallR X (.type "int") rInt1 := call_int1
theorem w_int (q : Q (.int i) H) : rInt1 [.int i] H Q := .inl ⟨i, rfl, q⟩
def rLenS (K : PySem.W.Frag) : List V → Hp → VK → Prop := fun xs H Q => ∃ p ys, xs = [.ref p] ∧ (SqL K H p ys ∨ SqT K H p ys) ∧ Q (.int (ys.length : Int)) H
theorem jc_len {X : Cx} : CallR X (.builtin "len") (rLenS X.K) := call_len_seq
theorem w_lenL {p : Addr} {ys : List V} (q : Q (.int (ys.length : Int)) H) (h : SqL K H p ys) : rLenS K [.ref p] H Q := ⟨p, ys, rfl, .inl h, q⟩
theorem w_lenT {p : Addr} {ys : List V} (q : Q (.int (ys.length : Int)) H) (h : SqT K H p ys) : rLenS K [.ref p] H Q := ⟨p, ys, rfl, .inr h, q⟩
def rListS (K : PySem.W.Frag) : List V → Hp → VK → Prop := fun xs H Q => ∃ p ys, xs = [.ref p] ∧ (SqL K H p ys ∨ SqT K H p ys) ∧ ∀ l, H l = none → Q (.ref l) (upd H l (.lst ys))
theorem jc_list {X : Cx} : CallR X (.type "list") (rListS X.K) := call_list_of
def rAbs : List V → Hp → VK → Prop := fun xs H Q => ∃ i, xs = [.int i] ∧ Q (.int (if i < 0 then -i else i)) H
theorem jc_abs {X : Cx} : CallR X (.builtin "abs") rAbs := call_abs
theorem w_abs (q : Q (.int (if i < 0 then -i else i)) H) : rAbs [.int i] H Q := ⟨i, rfl, q⟩
def rMax2 : List V → Hp → VK → Prop := fun xs H Q => ∃ i j, xs = [.int i, .int j] ∧ Q (.int (if j > i then j else i)) H
theorem jc_max2 {X : Cx} (hc : X.calm = true) : CallR X (.builtin "max") rMax2 := call_max2 hc
theorem w_max2 (q : Q (.int (if j > i then j else i)) H) : rMax2 [.int i, .int j] H Q := ⟨i, j, rfl, q⟩
def rMin2 : List V → Hp → VK → Prop := fun xs H Q => ∃ i j, xs = [.int i, .int j] ∧ Q (.int (if j < i then j else i)) H
theorem jc_min2 {X : Cx} (hc : X.calm = true) : CallR X (.builtin "min") rMin2 := call_min2 hc
theorem w_min2 (q : Q (.int (if j < i then j else i)) H) : rMin2 [.int i, .int j] H Q := ⟨i, j, rfl, q⟩
def rTupOf (K : PySem.W.Frag) : List V → Hp → VK → Prop := fun xs H Q => ∃ p ys, xs = [.ref p] ∧ ((SqL K H p ys ∧ ∀ l, H l = none → Q (.ref l) (upd H l (.tup ys))) ∨ (SqT K H p ys ∧ Q (.ref p) H))
theorem jc_tuple {X : Cx} : CallR X (.type "tuple") (rTupOf X.K) := call_tuple_of
/-- isinstance -/
theorem w_isi {c : V} {t u : Value} {b : Bool} (q : Q (.bl b) H) (ty : TyX K H x t) (cl : ClsV c u) (e : PySem.W.kitOne K t u = some b) : rIsi K [x, c] H Q := ⟨x, c, t, u, b, rfl, cl, ty, e, q⟩
theorem w_isiT {tp : Addr} {cs : List V} {t : Value} {us : List Value} {b : Bool} (q : Q (.bl b) H) (ty : TyX K H x t) (ht : H tp = some (.tup cs)) (cl : Paired ClsV cs us) (e : PySem.W.kitAny K t us = some b) : rIsiT K [x, .ref tp] H Q := ⟨x, tp, cs, t, us, b, rfl, ht, cl, ty, e, q⟩
theorem szl {n : Nat} (h : n ≤ 100000) : n ≤ sizeLine := Nat.le_trans h (by decide)
theorem szlt {n : Nat} (h : n < 100000) : n < sizeLine := Nat.lt_of_lt_of_le h (by decide)
end
/-! ### heaps -/
theorem same_new {H : Hp} {p : Addr} {o : HO} (h : H p = none) : Same H (upd H p o) := fun a u e => by
  rw [upd_ne (ne_of_none e h)]; exact e
/-- an object that H0 does not know may change -/
theorem same_mut {H0 H : Hp} {p : Addr} {o : HO} (e : Same H0 H) (h : H0 p = none) : Same H0 (upd H p o) := fun a u ha => by
  rw [upd_ne (ne_of_none ha h)]; exact e a u ha
theorem sqL {K : PySem.W.Frag} {H : Hp} {a : Addr} {xs : List V} (h : H a = some (.lst xs)) : SqL K H a xs := Or.inl (Or.inl h)
theorem sqT {K : PySem.W.Frag} {H : Hp} {a : Addr} {xs : List V} (h : H a = some (.tup xs)) : SqT K H a xs := Or.inl (Or.inl h)
end J
namespace J
open PySem PySem.Spec PyProof.Rows L2
section
variable {P : Program} {w : World} {K : PySem.W.Frag} {mg : Str → Option Value} {base : Heap}
abbrev BodyOk (P : Program) (w : World) (K : PySem.W.Frag) (mg : Str → Option Value) (base : Heap) (N : List Str) (qual : Str) (st : Stmt) (f : Addr) (k : Nat) (sp : Sp) : Prop :=
  ∀ (cdv : Value) (A : Around) (outer : List Env) (s : Shared) (H : Hp) (vs : List V) (Q : VK) (E : XK), Room k (A.deeper (envOfC qual (defScope st) s.heap.objs.size f cdv)) → sp vs H Q E →
      ∃ t, PSs (cxOf CX0 P w K mg base N qual (defScope st) f cdv A outer s H E).nox (defBody st) t ∧ t { nx := fun _ H' => Q .non H', rt := Q } (start N vs) H
abbrev BindOk (x qual : Str) (st : Stmt) (ps : List Str) : Prop :=
  ∀ (kV doc pm : Value) (an : Option Addr) (cdv ct : Value) (us : List Value), us.length = ps.length → bindArgs (PySem.W.fnOf x qual (defArgs st) (defBody st) (defScope st) .none kV doc pm an cdv ct) ⟨us, []⟩ = pure (ps.zip us)
theorem fn_mk {x qual : Str} {st : Stmt} {f : Addr} {fd : FuncData} {N ps : List Str} {k : Nat} {sp : Sp} (F : FunD K x qual (defArgs st) (defBody st) (defScope st) [] [] f fd) (S : FnScope N ps (defScope st))
    (len : ∀ vs H Q E, sp vs H Q E → vs.length = ps.length) (hbody : BodyOk P w K mg base N qual st f k sp) : FnOk P w K mg base CX0 (k + 1) f fd ps sp :=
  F.ok S len fun cdv A outer s H vs Q E hr hsp => by
    obtain ⟨t, h, q⟩ := hbody cdv A outer s H vs Q E hr hsp
    exact ⟨t, h.nox, q⟩
theorem cal_mk {x : Str} {st : Stmt} {f : Addr} {N ps : List Str} {k : Nat} {sp : Sp} (F : Src K x x st f) (hm : mg x = some (.ref f)) (S : FnScope N ps (defScope st)) (hb : BindOk x x st ps)
    (len : ∀ vs H Q E, sp vs H Q E → vs.length = ps.length) (hbody : BodyOk P w K mg base N x st f k sp) : Cal P w K mg base (k + 1) x ps sp := by
  obtain ⟨fd, F⟩ := F
  exact ⟨f, fd, hm, F.kp, F.bindsN hb, fn_mk F S len hbody⟩
theorem calm_mk {C : Addr} {m qual : Str} {st : Stmt} {f : Addr} {N ps : List Str} {k : Nat} {sp : Sp} (F : Src K m qual st f) (hm : Meth K C m f) (S : FnScope N ps (defScope st)) (hb : BindOk m qual st ps)
    (len : ∀ vs H Q E, sp vs H Q E → vs.length = ps.length) (hbody : BodyOk P w K mg base N qual st f k sp) : CalM P w K mg base (k + 1) C m qual st ps sp := by
  obtain ⟨fd, F⟩ := F
  exact ⟨f, fd, hm, F.bindsN hb, fn_mk F S len hbody, F⟩
theorem Cal.hide {x : Str} {ps : List Str} {k : Nat} {sp sp' : Sp} (c : Cal P w K mg base k x ps sp) (h : ∀ vs H Q E, sp' vs H Q E → Hid sp vs H Q E) (hl : ∀ vs H Q E, sp' vs H Q E → vs.length = ps.length) : Cal P w K mg base k x ps sp' := by
  obtain ⟨f, fd, hm, hk, hb, F⟩ := c.ex
  exact ⟨f, fd, hm, hk, hb, J.hide F sp' h hl⟩
end
end J
namespace J
open PySem PySem.Spec PyProof.Rows L2
theorem _root_.L2.Same.get1 {H H' : Hp} {a : Addr} {o : HO} (e : Same H H') (h : H a = some o) : H' a = some o := e a o h
/-- what isinstance(x, int) and not isinstance(x, bool) says -/
def Wh (K : PySem.W.Frag) (H : Hp) (x : V) (b : Bool) : Prop := ∃ t c d, TyX K H x t ∧ PySem.W.kitOne K t (.type "int") = some c ∧ PySem.W.kitOne K t (.type "bool") = some d ∧ b = (c && !d)
theorem wh_int {K : PySem.W.Frag} {H : Hp} {i : Int} : Wh K H (.int i) true := ⟨.type "int", true, false, .base (.int i), kit_ty (by decide +kernel), kit_ty (by decide +kernel), rfl⟩
end J
namespace J
open PySem PySem.Spec PyProof.Rows L2
section
variable {K : PySem.W.Frag} {σ : L2.St} {H : Hp} {te : TE} {ta : TA} {R : It → Hp → Prop}
theorem w_iEnumS (h : ta σ H fun vs H1 => ∃ a xs, vs = [.ref a] ∧ ((SqL K H1 a xs ∧ R (Ite K a) H1) ∨ (SqT K H1 a xs ∧ R (IteT K a) H1))) : iEnumS K ta σ H R := h
theorem w_iSeq (h : te σ H fun x H1 => ∃ a xs, x = .ref a ∧ ((SqL K H1 a xs ∧ R (Itl K a) H1) ∨ (SqT K H1 a xs ∧ R (Itt K a) H1))) : iSeq K te σ H R := h
theorem w_iRng1 (h : ta σ H fun vs H1 => ∃ j : Int, vs = [.int j] ∧ -(2 ^ 62) ≤ j ∧ j < 2 ^ 62 ∧ R (Itr 0 j.toNat) H1) : iRng1 ta σ H R := h
theorem w_iRng2 (h : ta σ H fun vs H1 => ∃ i j : Int, vs = [.int i, .int j] ∧ (-(2 ^ 62) ≤ i ∧ i < 2 ^ 62 ∧ -(2 ^ 62) ≤ j ∧ j < 2 ^ 62) ∧ R (Itr i (j - i).toNat) H1) : iRng2 ta σ H R := h
end
end J
namespace J
open PySem PySem.Spec PyProof.Rows L2
/-! displays, the new object told by what is known of it -/
def jTup (t : TA) : TE := fun σ H Q => t σ H fun xs H1 => xs.length ≤ 100000 ∧ ∀ p H', H1 p = none → Same H1 H' → H' p = some (.tup xs) → Q (.ref p) H'
def jLst (t : TA) : TE := fun σ H Q => t σ H fun xs H1 => xs.length ≤ 100000 ∧ ∀ p H', H1 p = none → Same H1 H' → H' p = some (.lst xs) → Q (.ref p) H'
section
variable {X : Cx} {es : List Expr} {t : TA} {pos : Pos}
theorem pj_tup {x1} (h : PA X es t) : PE X (.Tuple es x1 pos) (jTup t) := by
  refine ⟨fun pins s σ H Q I hq => wpAny_Tuple_spliced (thn (h.run pos pins s σ H _ I hq) fun us s1 hh => ?_)⟩
  obtain ⟨xs, H1, I1, r, z, q⟩ := hh
  refine ⟨by rw [← r.length]; exact szl z, ?_⟩
  have nf := I1.hok.fresh (Nat.le_refl s1.heap.objs.size)
  have ob : ObjOk X.prog X.w (upd H1 s1.heap.objs.size (.tup xs)) (s1.heap.push { cls := .type "tuple", data := .seq us.toArray }) s1.heap.objs.size (.tup xs) := ⟨szl z, us, r, ⟨_, Heap.get?_push_size _ rfl, rfl, _, rfl⟩⟩
  exact ⟨.ref s1.heap.objs.size, upd H1 s1.heap.objs.size (.tup xs), I1.laid (t' := s1.toks) (fun b u e => Heap.get?_push_of_some _ e) (Nat.le_refl _) ob, rfl, q _ _ nf (same_new nf) upd_same⟩
theorem pj_lst (h : PA X es t) : PE X (.List es pos) (jLst t) := by
  refine ⟨fun pins s σ H Q I hq => wpAny_List_spliced (thn (h.run pos pins s σ H _ I hq) fun us s1 hh => ?_)⟩
  obtain ⟨xs, H1, I1, r, z, q⟩ := hh
  refine ⟨by rw [← r.length]; exact szl z, ?_⟩
  have nf := I1.hok.fresh (Nat.le_refl s1.heap.objs.size)
  have ob : ObjOk X.prog X.w (upd H1 s1.heap.objs.size (.lst xs)) (s1.heap.push { cls := .type "list", data := .seq us.toArray }) s1.heap.objs.size (.lst xs) := ⟨szl z, us, 0, r, Heap.get?_push_size _ rfl⟩
  exact ⟨.ref s1.heap.objs.size, upd H1 s1.heap.objs.size (.lst xs), I1.laid (t' := s1.toks) (fun b u e => Heap.get?_push_of_some _ e) (Nat.le_refl _) ob, rfl, q _ _ nf (same_new nf) upd_same⟩
end
section
variable {σ : L2.St} {H : Hp} {Q : VK} {t : TA}
theorem w_tup (h : t σ H fun xs H1 => xs.length ≤ 100000 ∧ ∀ p H', H1 p = none → Same H1 H' → H' p = some (.tup xs) → Q (.ref p) H') : jTup t σ H Q := h
theorem w_lst (h : t σ H fun xs H1 => xs.length ≤ 100000 ∧ ∀ p H', H1 p = none → Same H1 H' → H' p = some (.lst xs) → Q (.ref p) H') : jLst t σ H Q := h
end
end J
namespace J
open PySem PySem.Spec PyProof.Rows L2
/-- a tracked list or tuple -/
def Sq (H : Hp) (p : Addr) (xs : List V) : Prop := H p = some (.lst xs) ∨ H p = some (.tup xs)
theorem Sq.sqa {K : PySem.W.Frag} {H : Hp} {p : Addr} {xs : List V} (h : Sq H p xs) : SqA K H p xs := h.elim sqa_l sqa_t
theorem Sq.same {H H' : Hp} {p : Addr} {xs : List V} (e : Same H H') (h : Sq H p xs) : Sq H' p xs := h.elim (fun h => .inl (e _ _ h)) fun h => .inr (e _ _ h)
/-- what isinstance(x, (list, tuple)) says -/
def Rw (K : PySem.W.Frag) (H : Hp) (x : V) (b : Bool) : Prop := ∃ t, TyX K H x t ∧ PySem.W.kitAny K t [.type "list", .type "tuple"] = some b
theorem kitAny_tt {K : PySem.W.Frag} {t : String} {b c : Bool} (h1 : kitB t "list" = some b) (h2 : kitB t "tuple" = some c) : PySem.W.kitAny K (.type t) [.type "list", .type "tuple"] = some (b || c) := by
  unfold PySem.W.kitAny
  rw [kit_ty h1]
  cases b with
  | true => rfl
  | false =>
    show PySem.W.kitAny K (.type t) [.type "tuple"] = _
    unfold PySem.W.kitAny
    rw [kit_ty h2]
    cases c <;> rfl
theorem Sq.rw {K : PySem.W.Frag} {H : Hp} {p : Addr} {xs : List V} (h : Sq H p xs) : Rw K H (.ref p) true := by
  rcases h with h | h
  · exact ⟨_, .base (.lst h), kitAny_tt (b := true) (c := false) (by decide +kernel) (by decide +kernel)⟩
  · exact ⟨_, .base (.tup h), kitAny_tt (b := false) (c := true) (by decide +kernel) (by decide +kernel)⟩
/-- values that stand for pairs of ints -/
def PairsAt (H : Hp) (vs : List V) (rs : List (Int × Int)) : Prop := Paired (fun (v : V) (q : Int × Int) => ∃ t, v = .ref t ∧ H t = some (.tup [.int q.1, .int q.2])) vs rs
theorem PairsAt.same {H H' : Hp} {vs : List V} {rs : List (Int × Int)} (e : Same H H') (h : PairsAt H vs rs) : PairsAt H' vs rs := Paired.mapP h fun v q ⟨t, a, b⟩ => ⟨t, a, e _ _ b⟩
theorem PairsAt.length {H : Hp} {vs : List V} {rs : List (Int × Int)} (h : PairsAt H vs rs) : vs.length = rs.length := Paired.length h
theorem paired_get {α β : Type} {F : α → β → Prop} : ∀ {xs : List α} {ys : List β} {i : Nat} {x : α}, Paired F xs ys → xs[i]? = some x → ∃ y, ys[i]? = some y ∧ F x y
  | _, _, _, _, .nil, h => by simp at h
  | _, _, 0, _, .cons r _, h => by simp at h; subst h; exact ⟨_, rfl, r⟩
  | _, _, i + 1, _, .cons _ t, h => by
    obtain ⟨y, a, b⟩ := paired_get (i := i) t (by simpa using h)
    exact ⟨y, by simpa using a, b⟩
theorem paired_get' {α β : Type} {F : α → β → Prop} : ∀ {xs : List α} {ys : List β} {i : Nat} {y : β}, Paired F xs ys → ys[i]? = some y → ∃ x, xs[i]? = some x ∧ F x y
  | _, _, _, _, .nil, h => by simp at h
  | _, _, 0, _, .cons r _, h => by simp at h; subst h; exact ⟨_, rfl, r⟩
  | _, _, i + 1, _, .cons _ t, h => by
    obtain ⟨y, a, b⟩ := paired_get' (i := i) t (by simpa using h)
    exact ⟨y, by simpa using a, b⟩
theorem paired_append {α β : Type} {F : α → β → Prop} : ∀ {xs xs' : List α} {ys ys' : List β}, Paired F xs ys → Paired F xs' ys' → Paired F (xs ++ xs') (ys ++ ys')
  | _, _, _, _, .nil, h => h
  | _, _, _, _, .cons r t, h => .cons r (paired_append t h)
theorem PairsAt.get {H : Hp} {vs : List V} {rs : List (Int × Int)} {i : Nat} {v : V} (h : PairsAt H vs rs) (e : vs[i]? = some v) : ∃ b r t, rs[i]? = some (b, r) ∧ v = .ref t ∧ H t = some (.tup [.int b, .int r]) := by
  obtain ⟨⟨b, r⟩, a, t, c, d⟩ := paired_get h e
  exact ⟨b, r, t, a, c, d⟩
/-- where the stretches end -/
def endsL (N : Int) (rs : List (Int × Int)) : List Int := (rs.map Prod.fst).drop 1 ++ [(rs.map Prod.fst).headD 0 + N]
/-- the rows of a turning of the round N -/
structure Rows (N : Int) (rs : List (Int × Int)) : Prop where
  n2 : 2 ≤ N
  n360 : N ≤ 360
  l1 : 1 ≤ rs.length
  l12 : rs.length ≤ 12
  bd : ∀ q ∈ rs, 0 ≤ q.1 ∧ q.1 < N ∧ 0 ≤ q.2 ∧ q.2 < N
  asc : rs.Pairwise fun p q => p.1 < q.1
  st : ∀ (i : Nat) b r e, rs[i]? = some (b, r) → (endsL N rs)[i]? = some e → (r - b) % N < e - b
theorem endsL_length {N : Int} {rs : List (Int × Int)} (h : 1 ≤ rs.length) : (endsL N rs).length = rs.length := by
  unfold endsL; simp; omega
end J
namespace J
open PySem PySem.Spec PyProof.Rows L2
theorem tyX_same {K : PySem.W.Frag} {H H' : Hp} {x : V} {t : Value} (e : Same H H') (h : TyX K H x t) : TyX K H' x t := by
  cases h with
  | base h => exact .base (by
      cases h with
      | non => exact .non
      | bl => exact .bl _
      | int => exact .int _
      | str => exact .str _
      | flt => exact .flt _
      | lst h => exact .lst (e _ _ h)
      | frz h => exact .frz (e _ _ h)
      | tup h => exact .tup (e _ _ h)
      | dK h => exact .dK (e _ _ h)
      | dT h => exact .dT (e _ _ h)
      | ins h a b c d f => exact .ins (e _ _ h) a b c d f)
  | byt => exact .byt _
  | set h => exact .set (e _ _ h)
  | kList h c => exact .kList h c
  | kTuple h c => exact .kTuple h c
  | kDict h c => exact .kDict h c
  | fTuple h => exact .fTuple (e _ _ h)
  | fDict h => exact .fDict (e _ _ h)
end J
namespace J
open PySem PySem.Spec PyProof.Rows L2
section
variable {K : PySem.W.Frag} {H : Hp} {Q : VK} {x y v : V} {i j : Int} {R : Bool → Hp → Prop}
theorem w_new {o : HO} (h : ∀ p H', H p = none → Same H H' → H' p = some o → Q (.ref p) H') : ∀ p, H p = none → Q (.ref p) (upd H p o) := fun p n => h p _ n (same_new n) upd_same
theorem leb {n m : Nat} (h : Nat.ble n m = true) : n ≤ m := Nat.le_of_ble_eq_true h
theorem w_slL {p : Addr} {xs : List V} {lo hi : Option Int} (h : SqL K H p xs) (q : ∀ p' H', H p' = none → Same H H' → H' p' = some (.lst (cutV xs lo hi)) → Q (.ref p') H') : rSlL K (.ref p) lo hi H Q := ⟨p, xs, rfl, h, w_new q⟩
theorem w_cat {p p2 : Addr} {xs ys : List V} (h : H p = some (.lst xs)) (h2 : H p2 = some (.lst ys)) (z : xs.length + ys.length ≤ 100000) (q : ∀ p' H', H p' = none → Same H H' → H' p' = some (.lst (xs ++ ys)) → Q (.ref p') H') : rCat (.ref p) (.ref p2) H Q := ⟨p, p2, xs, ys, rfl, rfl, h, h2, szl z, w_new q⟩
theorem rep_one (x : V) (n : Nat) : (List.replicate n [x]).flatten = List.replicate n x := by
  induction n with
  | zero => rfl
  | succ n ih => simp [List.replicate_succ, ih]
theorem w_rep1 {p : Addr} {x : V} {n : Int} (h : H p = some (.lst [x])) (n0 : 0 ≤ n) (n1 : n ≤ 100000) (q : ∀ p' H', H p' = none → Same H H' → H' p' = some (.lst (List.replicate n.toNat x)) → Q (.ref p') H') : rRep (.ref p) (.int n) H Q :=
  ⟨p, n, [x], rfl, rfl, h, by omega, by omega, szl (by simp; omega), w_new (by rw [rep_one]; exact q)⟩
theorem w_mkL {xs : List V} (z : xs.length ≤ 100000) (q : ∀ p' H', H p' = none → Same H H' → H' p' = some (.lst xs) → Q (.ref p') H') : xs.length ≤ sizeLine ∧ ∀ p, H p = none → Q (.ref p) (upd H p (.lst xs)) := ⟨szl z, w_new q⟩
theorem w_mkT {xs : List V} (z : xs.length ≤ 100000) (q : ∀ p' H', H p' = none → Same H H' → H' p' = some (.tup xs) → Q (.ref p') H') : xs.length ≤ sizeLine ∧ ∀ p, H p = none → Q (.ref p) (upd H p (.tup xs)) := ⟨szl z, w_new q⟩
theorem w_tupOf {p : Addr} {xs : List V} (h : H p = some (.lst xs) ∨ H p = some (.tup xs)) (q : ∀ p' H', Same H H' → H' p' = some (.tup xs) → Q (.ref p') H') : rTupOf K [.ref p] H Q := by
  refine ⟨p, xs, rfl, ?_⟩
  rcases h with h | h
  · exact .inl ⟨sqL h, w_new fun p' H' _ s e => q p' H' s e⟩
  · exact .inr ⟨sqT h, q p H (Same.refl H) h⟩
theorem w_listOf {p : Addr} {xs : List V} (h : SqA K H p xs) (q : ∀ p' H', H p' = none → Same H H' → H' p' = some (.lst xs) → Q (.ref p') H') : rListS K [.ref p] H Q := ⟨p, xs, rfl, h, w_new q⟩
theorem cut_from {xs : List V} {n : Nat} : cutV xs (some (n : Int)) none = xs.drop n := by
  unfold cutV
  have e1 : HT.sIx xs.length 0 (some (n : Int)) = min n xs.length := by
    unfold HT.sIx
    simp
    try omega
  have e2 : HT.sIx xs.length xs.length none = xs.length := by
    unfold HT.sIx
    simp
  rw [e1, e2]
  by_cases h : n ≤ xs.length
  · rw [Nat.min_eq_left h, List.take_of_length_le (by simp)]
  · rw [Nat.min_eq_right (by omega), List.drop_eq_nil_of_le (by omega), List.drop_eq_nil_of_le (by omega)]; simp
theorem take_map_succ {α β : Type} {f : α → β} {xs : List α} {i : Nat} {a : α} (h : xs[i]? = some a) : (xs.take (i + 1)).map f = (xs.take i).map f ++ [f a] := by
  rw [List.take_add_one, h]; simp
theorem atI_of {xs : List V} {i : Int} {v : V} (h0 : 0 ≤ i) (h : xs[i.toNat]? = some v) : atI xs i = some v := by
  have e : i = ((i.toNat : Nat) : Int) := by omega
  rw [e]; exact atI_nat h
theorem ixN_of {n : Nat} {i : Int} (h0 : 0 ≤ i) (h1 : i < n) : ixN n i = some i.toNat := by unfold ixN; simp [h0, h1]
end
end J
namespace J
theorem pw_get {α : Type} {R : α → α → Prop} : ∀ {xs : List α} {i j : Nat} {a b : α}, xs.Pairwise R → i < j → xs[i]? = some a → xs[j]? = some b → R a b
  | [], _, _, _, _, _, _, h, _ => by simp at h
  | x :: xs, 0, j + 1, a, b, p, _, h1, h2 => by
    simp at h1 h2; subst h1
    exact (List.pairwise_cons.mp p).1 b (List.mem_of_getElem? h2)
  | x :: xs, i + 1, j + 1, a, b, p, h, h1, h2 => by
    simp at h1 h2
    exact pw_get (List.pairwise_cons.mp p).2 (by omega) h1 h2
  | x :: xs, i, 0, a, b, p, h, h1, h2 => by omega
theorem pw_next {rs : List (Int × Int)} {i : Nat} {b r b' r' : Int} (p : rs.Pairwise fun p q => p.1 < q.1) (h1 : rs[i]? = some (b, r)) (h2 : rs[i + 1]? = some (b', r')) : b < b' := pw_get (R := fun p q => p.1 < q.1) p (Nat.lt_succ_self i) h1 h2
end J
namespace J
open PySem PySem.Spec PyProof.Rows L2
def rIsNo : R2 := fun x y H Q => y = V.non ∧ Q (.bl (decide (x = .non))) H
def rNotNo : R2 := fun x y H Q => y = V.non ∧ Q (.bl (!decide (x = .non))) H
theorem jop_isN {X : Cx} : OpR X (compareOp .Is) rIsNo := op_isN
theorem jop_notN {X : Cx} : OpR X (compareOp .IsNot) rNotNo := op_notN
section
variable {H : Hp} {Q : VK} {i : Int} {a : Addr}
theorem w_isN0 (q : Q (.bl true) H) : rIsNo .non .non H Q := ⟨rfl, by simpa using q⟩
theorem w_isN1 (q : Q (.bl false) H) : rIsNo (.int i) .non H Q := ⟨rfl, by simpa using q⟩
theorem w_isN2 (q : Q (.bl false) H) : rIsNo (.ref a) .non H Q := ⟨rfl, by simpa using q⟩
theorem w_noN0 (q : Q (.bl false) H) : rNotNo .non .non H Q := ⟨rfl, by simpa using q⟩
theorem w_noN1 (q : Q (.bl true) H) : rNotNo (.int i) .non H Q := ⟨rfl, by simpa using q⟩
theorem w_noN2 (q : Q (.bl true) H) : rNotNo (.ref a) .non H Q := ⟨rfl, by simpa using q⟩
end
end J
namespace J
/-! ### turnings: the mathematics -/
/-- y is the rest, on the integers, of the stretch that x lies in -/
def IsLift (N : Int) (rs : List (Int × Int)) (x y : Int) : Prop :=
  ∃ (i : Nat) (b r e q : Int), rs[i]? = some (b, r) ∧ (endsL N rs)[i]? = some e ∧ b + N * q ≤ x ∧ x < e + N * q ∧ y = b + (r - b) % N + N * q
theorem IsLift.shift {N : Int} {rs : List (Int × Int)} {x y : Int} (h : IsLift N rs x y) (k : Int) : IsLift N rs (x + N * k) (y + N * k) := by
  obtain ⟨i, b, r, e, q, h1, h2, h3, h4, h5⟩ := h
  have d : N * (q + k) = N * q + N * k := Int.mul_add ..
  exact ⟨i, b, r, e, q + k, h1, h2, by omega, by omega, by omega⟩
/-- the begin of row i and then, in order, the ends -/
theorem ends_get {N : Int} {rs : List (Int × Int)} {i : Nat} {b r : Int} (h : rs[i + 1]? = some (b, r)) : (endsL N rs)[i]? = some b := by
  unfold endsL
  have l := (List.getElem?_eq_some_iff.mp h).1
  rw [List.getElem?_append_left (by simp; omega), List.getElem?_drop, List.getElem?_map, Nat.add_comm 1 i, h]
  rfl
theorem ends_last {N : Int} {rs : List (Int × Int)} {b0 r0 : Int} (h : rs[0]? = some (b0, r0)) : (endsL N rs)[rs.length - 1]? = some (b0 + N) := by
  unfold endsL
  have l := (List.getElem?_eq_some_iff.mp h).1
  rw [List.getElem?_append_right (by simp)]
  cases rs with
  | nil => simp at l
  | cons a t => simp at h; simp [h]
/-- where what is done reaches at row i -/
def atRow (N : Int) (rs : List (Int × Int)) (b0 : Int) : Nat → Int
  | 0 => b0
  | i + 1 => ((endsL N rs)[i]?).getD 0
theorem atRow_b {N : Int} {rs : List (Int × Int)} {b0 r0 : Int} (h0 : rs[0]? = some (b0, r0)) : ∀ {i : Nat} {b r : Int}, rs[i]? = some (b, r) → atRow N rs b0 i = b
  | 0, b, r, h => by rw [h0] at h; cases h; rfl
  | i + 1, b, r, h => by show ((endsL N rs)[i]?).getD 0 = b; rw [ends_get h]; rfl
theorem atRow_e {N : Int} {rs : List (Int × Int)} {b0 : Int} {i : Nat} {e : Int} (h : (endsL N rs)[i]? = some e) : atRow N rs b0 (i + 1) = e := by show ((endsL N rs)[i]?).getD 0 = e; rw [h]; rfl
theorem atRow_last {N : Int} {rs : List (Int × Int)} {b0 r0 : Int} (h0 : rs[0]? = some (b0, r0)) : atRow N rs b0 rs.length = b0 + N := by
  have l := (List.getElem?_eq_some_iff.mp h0).1
  have e : rs.length = (rs.length - 1) + 1 := by omega
  rw [e]; exact atRow_e (ends_last h0)
theorem Rows.first {N : Int} {rs : List (Int × Int)} (R : Rows N rs) : ∃ b0 r0, rs[0]? = some (b0, r0) := by
  have := R.l1
  cases rs with
  | nil => simp at this
  | cons a t => exact ⟨a.1, a.2, rfl⟩
theorem Rows.end_le {N : Int} {rs : List (Int × Int)} (R : Rows N rs) {b0 r0 : Int} (h0 : rs[0]? = some (b0, r0)) {i : Nat} {b r e : Int} (h1 : rs[i]? = some (b, r)) (h2 : (endsL N rs)[i]? = some e) : b0 ≤ b ∧ b < e ∧ e ≤ b0 + N := by
  have n2 := R.n2
  have hb := R.bd _ (List.mem_of_getElem? h1)
  have hb0 := R.bd _ (List.mem_of_getElem? h0)
  simp at hb hb0
  have le0 : b0 ≤ b := by
    cases i with
    | zero => rw [h0] at h1; cases h1; omega
    | succ i => have := pw_get (R := fun p q => p.1 < q.1) R.asc (Nat.succ_pos i) h0 h1; simp at this; omega
  have st := R.st i b r e h1 h2
  have := Int.emod_nonneg (r - b) (show N ≠ 0 by omega)
  refine ⟨le0, by omega, ?_⟩
  have l := (List.getElem?_eq_some_iff.mp h1).1
  by_cases hl : i + 1 < rs.length
  · obtain ⟨⟨b', r'⟩, h'⟩ : ∃ q, rs[i + 1]? = some q := ⟨rs[i + 1], by simp [hl]⟩
    have e1 := ends_get (N := N) h'
    rw [h2] at e1; cases e1
    have := R.bd _ (List.mem_of_getElem? h')
    simp at this; omega
  · have e1 : i = rs.length - 1 := by omega
    have e2 := ends_last (N := N) h0
    rw [← e1, h2] at e2; cases e2; omega
/-- the places from b0 up to c have their lifts -/
def TabTo (N : Int) (rs : List (Int × Int)) (b0 c : Int) (ls : List Int) : Prop :=
  ls.length = N.toNat ∧ ∀ u : Int, b0 ≤ u → u < c → ∃ y, IsLift N rs u y ∧ ls[(u % N).toNat]? = some (y - u + u % N)
def LiftTab (N : Int) (rs : List (Int × Int)) (ls : List Int) : Prop := ls.length = N.toNat ∧ ∀ p : Int, 0 ≤ p → p < N → ∃ y, ls[p.toNat]? = some y ∧ IsLift N rs p y
theorem mod_ne {N a b : Int} (h1 : a < b) (h2 : b < a + N) : a % N ≠ b % N := by
  intro e
  have n0 : 0 < N := by omega
  have d1 := Int.emod_add_mul_ediv a N
  have d2 := Int.emod_add_mul_ediv b N
  have h : N * (b / N - a / N) = b - a := by rw [Int.mul_sub]; omega
  have q1 : 0 < b / N - a / N := by
    rcases (show 0 < b / N - a / N ∨ b / N - a / N ≤ 0 by omega) with z | z
    · exact z
    · have := Int.mul_nonpos_of_nonneg_of_nonpos (Int.le_of_lt n0) z
      omega
  have : N * 1 ≤ N * (b / N - a / N) := Int.mul_le_mul_of_nonneg_left (by omega) (by omega)
  omega
theorem TabTo.step {N : Int} {rs : List (Int × Int)} {b0 c : Int} {ls : List Int} {y : Int} (R : Rows N rs) (t : TabTo N rs b0 c ls) (h0 : b0 ≤ c) (h1 : c < b0 + N) (hy : IsLift N rs c y) :
    TabTo N rs b0 (c + 1) (ls.set (c % N).toNat (y - c + c % N)) := by
  have n2 := R.n2
  have m1 := Int.emod_nonneg c (show N ≠ 0 by omega)
  have m2 := Int.emod_lt_of_pos c (show 0 < N by omega)
  refine ⟨by rw [List.length_set]; exact t.1, fun u hu hu2 => ?_⟩
  by_cases e : u = c
  · subst e
    refine ⟨y, hy, ?_⟩
    rw [List.getElem?_set_self (by have := t.1; omega)]
  · obtain ⟨z, hz, hl⟩ := t.2 u hu (by omega)
    refine ⟨z, hz, ?_⟩
    have ne := mod_ne (N := N) (a := u) (b := c) (by omega) (by omega)
    have k1 := Int.emod_nonneg u (show N ≠ 0 by omega)
    rw [List.getElem?_set_ne (by omega)]
    exact hl
theorem TabTo.done {N : Int} {rs : List (Int × Int)} {b0 : Int} {ls : List Int} (R : Rows N rs) (h0 : 0 ≤ b0 ∧ b0 < N) (t : TabTo N rs b0 (b0 + N) ls) : LiftTab N rs ls := by
  refine ⟨t.1, fun p hp hp2 => ?_⟩
  by_cases h : b0 ≤ p
  · obtain ⟨y, hy, hl⟩ := t.2 p h (by omega)
    have e : p % N = p := Int.emod_eq_of_lt hp hp2
    rw [e] at hl
    have e2 : y - p + p = y := by omega
    rw [e2] at hl
    exact ⟨y, hl, hy⟩
  · obtain ⟨y, hy, hl⟩ := t.2 (p + N) (by omega) (by omega)
    have e : (p + N) % N = p := by rw [Int.add_emod_right]; exact Int.emod_eq_of_lt hp hp2
    rw [e] at hl
    refine ⟨y - (p + N) + p, hl, ?_⟩
    have := hy.shift (-1)
    have e1 : p + N + N * -1 = p := by omega
    have e2 : y + N * -1 = y - (p + N) + p := by omega
    rw [e1, e2] at this
    exact this
end J
namespace J
open PySem PySem.Spec PyProof.Rows L2
/-! ### sorted lists of pairs -/
def lexLe (p q : Int × Int) : Prop := p.1 < q.1 ∨ (p.1 = q.1 ∧ p.2 ≤ q.2)
instance : DecidableRel lexLe := fun p q => by unfold lexLe; exact inferInstance
theorem lexLe.trans {p q r : Int × Int} (a : lexLe p q) (b : lexLe q r) : lexLe p r := by unfold lexLe at *; omega
theorem lexLe.anti {p q : Int × Int} (a : lexLe p q) (b : lexLe q p) : p = q := by
  unfold lexLe at *
  apply Prod.ext <;> omega
theorem lexLe.total (p q : Int × Int) : lexLe p q ∨ lexLe q p := by unfold lexLe; omega
def insP (p : Int × Int) : List (Int × Int) → List (Int × Int)
  | [] => [p]
  | q :: r => if lexLe p q then p :: q :: r else q :: insP p r
def sortP (l : List (Int × Int)) : List (Int × Int) := l.foldr insP []
theorem insP_perm (p : Int × Int) : ∀ l, (insP p l).Perm (p :: l)
  | [] => List.Perm.refl _
  | q :: r => by
    unfold insP
    split
    · exact List.Perm.refl _
    · exact (List.Perm.cons q (insP_perm p r)).trans (List.Perm.swap p q r)
theorem insP_sorted {p : Int × Int} : ∀ {l : List (Int × Int)}, l.Pairwise lexLe → (insP p l).Pairwise lexLe
  | [], _ => by simp [insP]
  | q :: r, h => by
    unfold insP
    have h' := List.pairwise_cons.mp h
    split
    · rename_i hp
      exact List.pairwise_cons.mpr ⟨fun x hx => by
        rcases List.mem_cons.mp hx with e | hx
        · rw [e]; exact hp
        · exact hp.trans (h'.1 x hx), h⟩
    · rename_i hp
      refine List.pairwise_cons.mpr ⟨fun x hx => ?_, insP_sorted h'.2⟩
      rcases List.mem_cons.mp ((insP_perm p r).mem_iff.mp hx) with e | hx
      · rw [e]; exact (lexLe.total p q).resolve_left hp
      · exact h'.1 x hx
theorem sortP_perm : ∀ l, (sortP l).Perm l
  | [] => List.Perm.refl _
  | p :: l => (insP_perm p _).trans (List.Perm.cons p (sortP_perm l))
theorem sortP_sorted : ∀ l, (sortP l).Pairwise lexLe
  | [] => List.Pairwise.nil
  | p :: l => insP_sorted (sortP_sorted l)
theorem sorted_eq : ∀ {l m : List (Int × Int)}, l.Perm m → l.Pairwise lexLe → m.Pairwise lexLe → l = m
  | [], m, p, _, _ => by rw [List.nil_perm.mp p]
  | a :: l, m, p, h1, h2 => by
    cases m with
    | nil => exact absurd p (by simp)
    | cons b m =>
      have h1' := List.pairwise_cons.mp h1
      have h2' := List.pairwise_cons.mp h2
      have e : a = b := by
        have ha : a ∈ b :: m := p.mem_iff.mp (List.mem_cons_self ..)
        have hb : b ∈ a :: l := p.mem_iff.mpr (List.mem_cons_self ..)
        rcases List.mem_cons.mp ha with e | ha
        · exact e
        · rcases List.mem_cons.mp hb with e | hb
          · exact e.symm
          · exact lexLe.anti (h1'.1 b hb) (h2'.1 a ha)
      subst e
      rw [sorted_eq (List.Perm.cons_inv p) h1'.2 h2'.2]
theorem sortP_id {l : List (Int × Int)} (h : l.Pairwise lexLe) : sortP l = l := sorted_eq (sortP_perm l) (sortP_sorted l) h
theorem sortP_of_perm {l m : List (Int × Int)} (h : l.Perm m) : sortP l = sortP m := sorted_eq ((sortP_perm l).trans (h.trans (sortP_perm m).symm)) (sortP_sorted l) (sortP_sorted m)
theorem Rows.sorted {N : Int} {rs : List (Int × Int)} (R : Rows N rs) : rs.Pairwise lexLe := R.asc.imp fun h => .inl h
/-- the pair that a value stands for -/
def kOf (H : Hp) (v : V) : Int × Int := match v with
  | .ref t => match H t with
    | some (.tup [.int a, .int b]) => (a, b)
    | _ => (0, 0)
  | _ => (0, 0)
theorem kOf_at {H : Hp} {t : Addr} {a b : Int} (h : H t = some (.tup [.int a, .int b])) : kOf H (.ref t) = (a, b) := by unfold kOf; simp [h]
theorem pairs_map {H : Hp} : ∀ {vs : List V} {rs : List (Int × Int)}, PairsAt H vs rs → vs.map (kOf H) = rs
  | _, _, .nil => rfl
  | _, _, .cons ⟨t, e, h⟩ r => by
    subst e
    rw [List.map_cons, kOf_at h, pairs_map r]
theorem pairs_of {H : Hp} : ∀ {vs : List V}, (∀ v ∈ vs, ∃ t a b, v = .ref t ∧ H t = some (.tup [.int a, .int b])) → PairsAt H vs (vs.map (kOf H))
  | [], _ => .nil
  | v :: vs, h => by
    obtain ⟨t, a, b, e, ht⟩ := h v (List.mem_cons_self ..)
    subst e
    exact .cons ⟨t, rfl, by rw [kOf_at ht]; exact ht⟩ (pairs_of fun v hv => h v (List.mem_cons_of_mem _ hv))
theorem pairs_mem {H : Hp} : ∀ {vs : List V} {rs : List (Int × Int)}, PairsAt H vs rs → ∀ v ∈ vs, ∃ t a b, v = .ref t ∧ H t = some (.tup [.int a, .int b])
  | _, _, .cons ⟨t, e, h⟩ r, v, hv => by
    rcases List.mem_cons.mp hv with z | hv
    · subst z; exact ⟨t, _, _, e, h⟩
    · exact pairs_mem r v hv
theorem lexB_le {p q : Int × Int} (h : SrtO.lexB q p = false) : lexLe p q := by
  have n : ¬ (q.1 < p.1 ∨ (q.1 = p.1 ∧ q.2 < p.2)) := fun z => by
    rw [SrtO.lexB_iff.mpr z] at h
    cases h
  unfold lexLe
  omega
/-- sorted(..) of a list of pairs -/
theorem w_sortP {K : PySem.W.Frag} {H : Hp} {Q : VK} {p : Addr} {vs : List V} {rs : List (Int × Int)} (h : SqL K H p vs) (hp : PairsAt H vs rs)
    (q : ∀ p' H' vs', H p' = none → Same H H' → H' p' = some (.lst vs') → PairsAt H' vs' (sortP rs) → Q (.ref p') H') : rSortedPO K [.ref p] H Q := by
  refine ⟨p, vs, kOf H, rfl, h, fun x hx => ?_, fun ys p' hs hst np => ?_⟩
  · obtain ⟨t, a, b, e, ht⟩ := pairs_mem hp x hx
    subst e
    exact ⟨t, rfl, by rw [kOf_at ht]; exact ht⟩
  · have pys : PairsAt H ys (ys.map (kOf H)) := pairs_of fun v hv => pairs_mem hp v (hst.perm.mem_iff.mp hv)
    have e : ys.map (kOf H) = sortP rs := by
      rw [← pairs_map hp]
      refine sorted_eq ((hst.perm.map _).trans (sortP_perm _).symm) ?_ (sortP_sorted _)
      rw [List.pairwise_map]
      exact hs.imp fun h => lexB_le h
    rw [e] at pys
    exact q p' _ ys np (same_new np) upd_same (pys.same (same_new np))
/-! ### == of lists of pairs -/
def pd (q : Int × Int) : PyData := .tuple [.int q.1, .int q.2]
theorem dp_pairs {K : PySem.W.Frag} {H : Hp} : ∀ {vs : List V} {rs : List (Int × Int)}, PairsAt H vs rs → DpAll K H vs (rs.map pd)
  | _, _, .nil => .nil
  | _, _, .cons ⟨t, e, h⟩ r => by
    subst e
    exact .cons (.tup (sqT h) (.cons (.int _) (.cons (.int _) .nil))) (dp_pairs r)
theorem eqv_pairs : ∀ (rs ss : List (Int × Int)), PyData.eqvAll (rs.map pd) (ss.map pd) = decide (rs = ss)
  | [], [] => by simp [PyData.eqvAll]
  | [], _ :: _ => by simp [PyData.eqvAll]
  | _ :: _, [] => by simp [PyData.eqvAll]
  | (a, b) :: rs, (c, d) :: ss => by
    show (PyData.eqv (pd (a, b)) (pd (c, d)) && PyData.eqvAll (rs.map pd) (ss.map pd)) = _
    rw [eqv_pairs rs ss]
    have e : PyData.eqv (pd (a, b)) (pd (c, d)) = (decide (a = c) && decide (b = d)) := by
      simp [pd, PyData.eqv, PyData.eqvAll]
      rw [Bool.eq_iff_iff]; simp
    rw [e]
    by_cases h1 : a = c <;> by_cases h2 : b = d <;> by_cases h3 : rs = ss <;> simp [h1, h2, h3]
theorem can_pairs : ∀ (rs : List (Int × Int)), PyData.canLayAll0 (rs.map pd) = true
  | [] => by simp [PyData.canLayAll0]
  | q :: rs => by
    show (PyData.canLay0 (pd q) && PyData.canLayAll0 (rs.map pd)) = true
    rw [can_pairs rs]
    simp [pd, PyData.canLay0, PyData.canLayAll0]
theorem depth_pairs : ∀ (rs : List (Int × Int)), PyData.depthAll (rs.map pd) ≤ 2
  | [] => by simp [PyData.depthAll]
  | q :: rs => by
    show max (PyData.depth (pd q)) (PyData.depthAll (rs.map pd)) ≤ 2
    have := depth_pairs rs
    have e : PyData.depth (pd q) ≤ 2 := by simp [pd, PyData.depth, PyData.depthAll]
    omega
theorem shaped_tup (rs : List (Int × Int)) : SeqAt.shaped (.tuple (rs.map pd)) = true := by
  unfold SeqAt.shaped
  have h1 := can_pairs rs
  have h2 := depth_pairs rs
  have e1 : PyData.canLay0 (.tuple (rs.map pd)) = true := by simp [PyData.canLay0, h1]
  have e2 : PyData.depth (.tuple (rs.map pd)) ≤ 64 := by simp [PyData.depth]; omega
  rw [e1, decide_eq_true e2]; rfl
theorem shaped_lst (rs : List (Int × Int)) : SeqAt.shaped (.list (rs.map pd)) = true := by
  unfold SeqAt.shaped
  have h1 := can_pairs rs
  have h2 := depth_pairs rs
  have e1 : PyData.canLay0 (.list (rs.map pd)) = true := by simp [PyData.canLay0, h1]
  have e2 : PyData.depth (.list (rs.map pd)) ≤ 64 := by simp [PyData.depth]; omega
  rw [e1, decide_eq_true e2]; rfl
theorem w_eqPT {K : PySem.W.Frag} {H : Hp} {Q : VK} {p p2 : Addr} {vs vs2 : List V} {rs rs2 : List (Int × Int)} (h : SqT K H p vs) (h2 : SqT K H p2 vs2) (a : PairsAt H vs rs) (b : PairsAt H vs2 rs2) (q : Q (.bl (decide (rs = rs2))) H) : rEqD K (.ref p) (.ref p2) H Q :=
  ⟨_, _, .tup h (dp_pairs a), .tup h2 (dp_pairs b), shaped_tup rs, shaped_tup rs2, by
    have e : PyData.eqv (.tuple (rs.map pd)) (.tuple (rs2.map pd)) = decide (rs = rs2) := by rw [← eqv_pairs]; simp [PyData.eqv]
    rw [e]; exact q⟩
theorem w_eqPL {K : PySem.W.Frag} {H : Hp} {Q : VK} {p p2 : Addr} {vs vs2 : List V} {rs rs2 : List (Int × Int)} (h : SqL K H p vs) (h2 : SqL K H p2 vs2) (a : PairsAt H vs rs) (b : PairsAt H vs2 rs2) (q : Q (.bl (decide (rs = rs2))) H) : rEqD K (.ref p) (.ref p2) H Q :=
  ⟨_, _, .lst h (dp_pairs a), .lst h2 (dp_pairs b), shaped_lst rs, shaped_lst rs2, by
    have e : PyData.eqv (.list (rs.map pd)) (.list (rs2.map pd)) = decide (rs = rs2) := by rw [← eqv_pairs]; simp [PyData.eqv]
    rw [e]; exact q⟩
/-! ### rows moved, the period -/
def movP (N c : Int) (q : Int × Int) : Int × Int := ((q.1 + c) % N, (q.2 + c) % N)
def turnR (N c : Int) (rs : List (Int × Int)) : List (Int × Int) := sortP (rs.map (movP N c))
theorem turnR_N {N : Int} {rs : List (Int × Int)} (R : Rows N rs) : turnR N N rs = rs := by
  have e : rs.map (movP N N) = rs := by
    conv => rhs; rw [← List.map_id rs]
    refine List.map_congr_left fun q hq => ?_
    have := R.bd q hq
    unfold movP
    rw [Int.add_emod_right, Int.add_emod_right, Int.emod_eq_of_lt this.1 this.2.1, Int.emod_eq_of_lt this.2.2.1 this.2.2.2]
    rfl
  unfold turnR
  rw [e]
  exact sortP_id R.sorted
/-- how often a part of the round fits -/
def fits (N : Int) (rs : List (Int × Int)) (m : Int) : Bool := decide (N % m = 0) && decide (turnR N (N / m) rs = rs)
def timesL (N : Int) (rs : List (Int × Int)) (n : Nat) : List Int := ((List.range n).map fun (i : Nat) => (1 + (i : Int))).filter (fits N rs)
def perR (N : Int) (rs : List (Int × Int)) : Int := N / ((timesL N rs rs.length).getLast?.getD 1)
theorem timesL_succ {N : Int} {rs : List (Int × Int)} {n : Nat} : timesL N rs (n + 1) = timesL N rs n ++ (if fits N rs (1 + (n : Int)) = true then [1 + (n : Int)] else []) := by
  unfold timesL
  rw [List.range_succ, List.map_append, List.filter_append]
  congr 1
  simp [List.filter]
  split <;> simp_all
theorem one_fits {N : Int} {rs : List (Int × Int)} (R : Rows N rs) : fits N rs 1 = true := by
  unfold fits
  simp [turnR_N R]
theorem timesL_ne {N : Int} {rs : List (Int × Int)} (R : Rows N rs) : timesL N rs rs.length ≠ [] := by
  have l := R.l1
  intro e
  have : (1 : Int) ∈ timesL N rs rs.length := by
    unfold timesL
    rw [List.mem_filter]
    refine ⟨List.mem_map.mpr ⟨0, by simp; omega, by simp⟩, one_fits R⟩
  rw [e] at this; cases this
end J
namespace J
open PySem PySem.Spec PyProof.Rows L2
/-- a list that changes leaves the pairs -/
theorem updL_pairs {H : Hp} {p : Addr} {acc acc' : List V} {vs : List V} {rs : List (Int × Int)} (h : H p = some (.lst acc)) (a : PairsAt H vs rs) : PairsAt (upd H p (.lst acc')) vs rs :=
  Paired.mapP a fun v q ⟨t, e, ht⟩ => ⟨t, e, by rw [upd_ne (ne_of ht h (by intro z; cases z))]; exact ht⟩
end J
namespace J
open PySem PySem.Spec PyProof.Rows L2
/-! ### calls of methods, constructors, instances -/
/-- how a def without defaults binds positional values and keywords; g brings them into the parameters' order -/
theorem kbn_mk {K : PySem.W.Frag} {x qual : Str} {st : Stmt} {f : Addr} {fd : FuncData} {ps : List Str} {n : Nat} {ks : List Str} (F : FunD K x qual (defArgs st) (defBody st) (defScope st) [] [] f fd)
    (g : {α : Type} → List α → List α → List α)
    (h : ∀ (kV doc pm : Value) (an : Option Addr) (cdv ct : Value) (us ws : List Value), us.length = n → ws.length = ks.length → bindArgs (PySem.W.fnOf x qual (defArgs st) (defBody st) (defScope st) .none kV doc pm an cdv ct) ⟨us, ks.zip ws⟩ = pure (ps.zip (g us ws)))
    (hg : ∀ {vs : List V} {us : List Value} {zs : List V} {ws : List Value}, Vals vs us → Vals zs ws → Vals (g vs zs) (g us ws)) : KBn K fd ps n ks (fun a b => g a b) (fun a b => g a b) := by
  obtain ⟨oc, od, dV, kV, doc, pm, an, cdv, ct, osl, rfl, lk, hcd, hD, hK⟩ := F.ex
  rcases hD with ⟨hd, rfl⟩ | ⟨e, _⟩
  · exact ⟨fun s us ws _ l1 l2 => .of_eq (h kV doc pm an cdv ct us ws l1 l2), hg⟩
  · exact absurd rfl e
def tMethK (C : Addr) (m : Str) (n : Nat) (sp : Sp) (gV : List V → List V → List V) (ta : TE) (tk : TA) : TE := fun σ H Q => ta σ H fun x H1 => ∃ a dx fs, x = .ref a ∧ H1 a = some (.ins C dx fs) ∧ fs.lookup m = none ∧ tk σ H1 fun zs H2 => zs.length = n ∧ sp (gV [.ref a] zs) H2 Q E0
section
variable {X : Cx} {k : Nat} {f C : Addr} {fd : FuncData} {ps ks : List Str} {sp : Sp} {x m qual : Str} {st : Stmt} {p pos apos : Pos} {o e : Expr} {es : List Expr} {kws : List Keyword} {ta : TE} {t tk : TA} {g : List Value → List Value → List Value} {gV : List V → List V → List V}
/-- o.m(k = e, ..) -/
theorem pe_methK0 {pl : Sem Bool} (he : PE X o ta) (c : Cls X.K C) (hm : Meth X.K C m f) (F : FnOk X.prog X.w X.K X.mg X.base CX0 k f fd ps sp) (hr : Room k X.A) (hb : KBn X.K fd ps 1 ks g gV) (hkw : PK X kws tk)
    (hall : (backToKw pos (keywordEach kws X.env)).all (·.1.isSome) = true := by rfl) (hks : (backToKw pos (keywordEach kws X.env)).filterMap (·.1) = ks := by rfl)
    (hpl : ((backTo pos (starEach [] X.env)).any (·.1) || (backToKw pos (keywordEach kws X.env)).any (·.1.isNone)) = false := by rfl)
    (ht : eval (.Call (.Attribute o m apos) [] kws pos) X.env = (do
      let ov ← eval o X.env
      standAt apos.atName
      let (f, first) ← holding [ov] (getMethod ov m pl)
      callWith pos f first (backTo pos (starEach [] X.env)) (backToKw pos (keywordEach kws X.env))) := by rfl) :
    PE X (.Call (.Attribute o m apos) [] kws pos) (tMethK C m ks.length sp gV ta tk) := by
  refine ⟨fun pins s σ H Q I h => ?_⟩
  refine PySem.W.methodCall_KW (pl := pl) (thn (he.run pins s σ H _ I h) fun u s1 hh => ?_) ht
  obtain ⟨x, H1, I1, rx, a, dx, fs, ex, ea, l, q⟩ := hh
  subst ex
  obtain rfl : u = Value.ref a := rx
  refine getmeth_ok I1 ea c hm l ?_
  refine PySem.W.callWith_KW0 (first := [.ref a]) (h₀ := X.base) I.ok.mod.kin hm.kp hall (thn (hkw.run pos pins s1 σ H1 _ I1 q) fun ws s2 hh2 => ?_) hpl
  obtain ⟨zs, H2, I2, rz, l2, q2⟩ := hh2
  refine ⟨I2.kIn, ?_⟩
  rw [hks]
  exact run_fnN (us := [.ref a]) (vs := [.ref a]) F hr hb pass0 I2 (.cons rfl .nil) rz rfl l2 q2
theorem pe_calm {pl : Sem Bool} (he : PE X o ta) (c : Cls X.K C) (cm : CalM X.prog X.w X.K X.mg X.base k C m qual st ps sp) (hr : Room k X.A) (ha : PA X (e :: es) t)
    (hst : starEach (e :: es) X.env = (false, eval e X.env) :: starEach es X.env := by rfl) (hpl : (backTo pos (starEach es X.env)).any (·.1) = false := by rfl)
    (ht : eval (.Call (.Attribute o m apos) (e :: es) [] pos) X.env = (do
      let ov ← eval o X.env
      standAt apos.atName
      let (f, first) ← holding [ov] (getMethod ov m pl)
      callWith pos f first (backTo pos (starEach (e :: es) X.env)) (backToKw pos (keywordEach [] X.env))) := by rfl) :
    PE X (.Call (.Attribute o m apos) (e :: es) [] pos) (tMeth C m sp [] E0 ta t) := by
  obtain ⟨f, fd, hm, hb, F, _⟩ := cm.ex
  exact pe_meth he c hm F hr hb .nil pass0 ha hst hpl ht
theorem pe_calm0 {pl : Sem Bool} (he : PE X o ta) (c : Cls X.K C) (cm : CalM X.prog X.w X.K X.mg X.base k C m qual st ps sp) (hr : Room k X.A)
    (ht : eval (.Call (.Attribute o m apos) [] [] pos) X.env = (do
      let ov ← eval o X.env
      standAt apos.atName
      let (f, first) ← holding [ov] (getMethod ov m pl)
      callWith pos f first (backTo pos (starEach [] X.env)) (backToKw pos (keywordEach [] X.env))) := by rfl) :
    PE X (.Call (.Attribute o m apos) [] [] pos) (tMeth C m sp [] E0 ta tNil) := by
  obtain ⟨f, fd, hm, hb, F, _⟩ := cm.ex
  exact pe_meth0 he c hm F hr hb .nil pass0 ht
end
section
variable {K : PySem.W.Frag} {σ : L2.St} {H : Hp} {Q : VK} {C : Addr} {m : Str} {sp : Sp} {ta : TE} {t tk : TA}
theorem w_meth (h : ta σ H fun x H1 => ∃ a dx fs, x = .ref a ∧ H1 a = some (.ins C dx fs) ∧ fs.lookup m = none ∧ t σ H1 fun vs H2 => sp (x :: vs) H2 Q E0) : tMeth C m sp [] E0 ta t σ H Q := by
  have e : tMeth C m sp [] E0 ta t = fun σ H Q => ta σ H fun x H1 => ∃ a dx fs, x = .ref a ∧ H1 a = some (.ins C dx fs) ∧ fs.lookup m = none ∧ t σ H1 fun vs H2 => sp (x :: vs) H2 Q E0 := by funext σ H Q; simp [tMeth]
  rw [e]; exact h
theorem w_methK {n : Nat} {gV : List V → List V → List V} (h : ta σ H fun x H1 => ∃ a dx fs, x = .ref a ∧ H1 a = some (.ins C dx fs) ∧ fs.lookup m = none ∧ tk σ H1 fun zs H2 => zs.length = n ∧ sp (gV [.ref a] zs) H2 Q E0) : tMethK C m n sp gV ta tk σ H Q := h
theorem w_fld {f : Str} (h : ta σ H fun x H1 => ∃ a C dx fs v, x = .ref a ∧ H1 a = some (.ins C dx fs) ∧ Cls K C ∧ NoAttr K C f ∧ fs.lookup f = some v ∧ Q v H1) : tFld K ta f σ H Q := h
theorem w_sFld {f : Str} {tv : TE} {D : Ends} (h : tv σ H fun y H1 => ta σ H1 fun x H2 => ∃ a C dx fs, x = .ref a ∧ H2 a = some (.ins C dx fs) ∧ Cls K C ∧ NoAttr K C f ∧ fs.length < 1000 ∧ D.nx σ (upd H2 a (.ins C dx (putF f y fs)))) : sFld K ta tv f D σ H := h
end
/-! ### a Turning as an object -/
def tfs (N : Int) (t l : Addr) (p : Int) : List (Str × V) := [("around", .int N), ("rows", .ref t), ("_lifts", .ref l), ("_period", .int p)]
/-- at x stands a Turning of the round N with the rows rs -/
def TurnAt (C : Addr) (H : Hp) (x : Addr) (N : Int) (rs : List (Int × Int)) : Prop :=
  ∃ dx t l vs ls, H x = some (.ins C dx (tfs N t l (perR N rs))) ∧ H t = some (.tup vs) ∧ PairsAt H vs rs ∧ H l = some (.lst (ls.map V.int)) ∧ LiftTab N rs ls ∧ Rows N rs
theorem TurnAt.same {C : Addr} {H H' : Hp} {x : Addr} {N : Int} {rs : List (Int × Int)} (e : Same H H') (h : TurnAt C H x N rs) : TurnAt C H' x N rs := by
  obtain ⟨dx, t, l, vs, ls, h1, h2, h3, h4, h5, h6⟩ := h
  exact ⟨dx, t, l, vs, ls, e _ _ h1, e _ _ h2, h3.same e, e _ _ h4, h5, h6⟩
def tfs1 (N : Int) : List (Str × V) := [("around", .int N)]
def tfs2 (N : Int) (t : Addr) : List (Str × V) := [("around", .int N), ("rows", .ref t)]
def tfs3 (N : Int) (t l : Addr) : List (Str × V) := [("around", .int N), ("rows", .ref t), ("_lifts", .ref l)]
theorem tf1 (N : Int) : putF "around" (.int N) [] = tfs1 N := rfl
theorem tf2 (N : Int) (t : Addr) : putF "rows" (.ref t) (tfs1 N) = tfs2 N t := by kernel_rfl
theorem tf3 (N : Int) (t l : Addr) : putF "_lifts" (.ref l) (tfs2 N t) = tfs3 N t l := by kernel_rfl
theorem tf4 (N : Int) (t l : Addr) (p : Int) : putF "_period" (.int p) (tfs3 N t l) = tfs N t l p := by kernel_rfl
theorem tfs_around (N : Int) (t l : Addr) (p : Int) : (tfs N t l p).lookup ("around" : Str) = some (.int N) := by kernel_rfl
theorem tfs_rows (N : Int) (t l : Addr) (p : Int) : (tfs N t l p).lookup ("rows" : Str) = some (.ref t) := by kernel_rfl
theorem tfs_lifts (N : Int) (t l : Addr) (p : Int) : (tfs N t l p).lookup ("_lifts" : Str) = some (.ref l) := by kernel_rfl
theorem tfs_period (N : Int) (t l : Addr) (p : Int) : (tfs N t l p).lookup ("_period" : Str) = some (.int p) := by kernel_rfl
theorem tf_rows2 (N : Int) (t : Addr) : (tfs2 N t).lookup ("rows" : Str) = some (.ref t) := by kernel_rfl
theorem tf_rows3 (N : Int) (t l : Addr) : (tfs3 N t l).lookup ("rows" : Str) = some (.ref t) := by kernel_rfl
theorem tfs_rests (N : Int) (t l : Addr) (p : Int) : (tfs N t l p).lookup ("rests" : Str) = none := by kernel_rfl
theorem tfs_lifted (N : Int) (t l : Addr) (p : Int) : (tfs N t l p).lookup ("lifted" : Str) = none := by kernel_rfl
end J
namespace J
open PySem PySem.Spec PyProof.Rows L2
theorem pairs_keep {H H' : Hp} {x : Addr} (hk : ∀ b o, b ≠ x → H b = some o → H' b = some o) : ∀ {vs : List V} {rs : List (Int × Int)}, PairsAt H vs rs → (∀ v ∈ vs, ∀ q, v = .ref q → q ≠ x) → PairsAt H' vs rs
  | _, _, .nil, _ => .nil
  | _, _, .cons ⟨t, e, h⟩ r, n => .cons ⟨t, e, hk _ _ (n _ (List.mem_cons_self ..) t e) h⟩ (pairs_keep hk r fun v hv => n v (List.mem_cons_of_mem _ hv))
/-- a constructor -/
structure CalI (P : Program) (w : World) (K : PySem.W.Frag) (mg : Str → Option Value) (base : Heap) (k : Nat) (C : Addr) (x qual : Str) (st : Stmt) (ps : List Str) (sp : Sp) : Prop where
  ex : ∃ f fd, Mk K C f ∧ mg x = some (.ref C) ∧ Binds K fd ps [] ∧ FnOk P w K mg base CX0 k f fd ps sp ∧ FunD K "__init__" qual (defArgs st) (defBody st) (defScope st) [] [] f fd
theorem cali_mk {P : Program} {w : World} {K : PySem.W.Frag} {mg : Str → Option Value} {base : Heap} {C : Addr} {x qual : Str} {st : Stmt} {f : Addr} {N ps : List Str} {k : Nat} {sp : Sp} (F : Src K "__init__" qual st f) (M : Mk K C f) (hm : mg x = some (.ref C)) (S : FnScope N ps (defScope st)) (hb : BindOk "__init__" qual st ps)
    (len : ∀ vs H Q E, sp vs H Q E → vs.length = ps.length) (hbody : BodyOk P w K mg base N qual st f k sp) : CalI P w K mg base (k + 1) C x qual st ps sp := by
  obtain ⟨fd, F⟩ := F
  exact ⟨f, fd, M, hm, F.bindsN hb, fn_mk F S len hbody, F⟩
/-- how keywords bind, by computation -/
abbrev KwOk (x qual : Str) (st : Stmt) (ps : List Str) (n : Nat) (ks : List Str) (g : {α : Type} → List α → List α → List α) : Prop :=
  ∀ (kV doc pm : Value) (an : Option Addr) (cdv ct : Value) (us ws : List Value), us.length = n → ws.length = ks.length → bindArgs (PySem.W.fnOf x qual (defArgs st) (defBody st) (defScope st) .none kV doc pm an cdv ct) ⟨us, ks.zip ws⟩ = pure (ps.zip (g us ws))
abbrev GOk (g : {α : Type} → List α → List α → List α) : Prop := ∀ {vs : List V} {us : List Value} {zs : List V} {ws : List Value}, Vals vs us → Vals zs ws → Vals (g vs zs) (g us ws)
def jMakeK (C : Addr) (m : Nat) (sp : Sp) (gV : List V → List V → List V) (tk : TA) : TE := fun σ H Q => tk σ H fun zs H2 => zs.length = m ∧ ∀ x dx, H2 x = none → H2 dx = none → dx ≠ x →
  sp (gV [.ref x] zs) (upd (upd H2 dx (.own x)) x (.ins C dx [])) (fun v H3 => v = .non ∧ Q (.ref x) H3) E0
def jMake (C : Addr) (sp : Sp) (t : TA) : TE := fun σ H Q => t σ H fun vs H2 => ∀ x dx, H2 x = none → H2 dx = none → dx ≠ x →
  sp (.ref x :: vs) (upd (upd H2 dx (.own x)) x (.ins C dx [])) (fun v H3 => v = .non ∧ Q (.ref x) H3) E0
section
variable {X : Cx} {k : Nat} {C : Addr} {x qual m : Str} {st : Stmt} {ps ks : List Str} {sp : Sp} {p pos apos : Pos} {o e : Expr} {es : List Expr} {kws : List Keyword} {ta tf : TE} {t tk : TA}
/-- C(k = e, ..) -/
theorem pe_calIK (c : CalI X.prog X.w X.K X.mg X.base k C x qual st ps sp) (ks : List Str) (g : {α : Type} → List α → List α → List α) (hw : KwOk "__init__" qual st ps 1 ks g) (hg : GOk g) (hr : Room (k + 1) X.A) (hkw : PK X kws tk) (hgl : Gl X x := by rfl)
    (hall : (backToKw pos (keywordEach kws X.env)).all (·.1.isSome) = true := by rfl) (hks : (backToKw pos (keywordEach kws X.env)).filterMap (·.1) = ks := by rfl) (hdb : (x == ("__debug__" : Str)) = false := by decide)
    (hpl : ((backTo pos (starEach [] X.env)).any (·.1) || (backToKw pos (keywordEach kws X.env)).any (·.1.isNone)) = false := by rfl) :
    PE X (.Call (.Name x p) [] kws pos) (jMakeK C ks.length sp (fun a b => g a b) tk) := by
  obtain ⟨f, fd, M, hm, hb, F, S⟩ := c.ex
  have hkb := kbn_mk S g hw hg
  refine ⟨fun pins s σ H Q I h => ?_⟩
  refine wpAny_Call_Name_kw (ld_glob I hgl hm ?_ hdb)
  refine PySem.W.callWith_KW0 (h₀ := X.base) I.ok.mod.kin M.kp hall ?_ hpl
  refine thn (hkw.run pos pins s σ H _ I h) fun ws s2 hh => ?_
  obtain ⟨zs, H2, I2, rz, l2, q2⟩ := hh
  refine ⟨I2.kIn, ?_⟩
  rw [hks]
  exact run_makeK (us := []) (vs := []) M F hr hkb pass0 I2 .nil rz rfl l2 q2
/-- C(e, ..) -/
theorem pe_calI (c : CalI X.prog X.w X.K X.mg X.base k C x qual st ps sp) (hr : Room (k + 1) X.A) (ha : PA X (e :: es) t) (hgl : Gl X x := by rfl) (hdb : (x == ("__debug__" : Str)) = false := by decide)
    (he : starEach (e :: es) X.env = (false, eval e X.env) :: starEach es X.env := by rfl) (hpl : (backTo pos (starEach es X.env)).any (·.1) = false := by rfl) :
    PE X (.Call (.Name x p) (e :: es) [] pos) (jMake C sp t) := by
  obtain ⟨f, fd, M, hm, hb, F, S⟩ := c.ex
  have := pe_make (pos := pos) (p := p) M F hr hgl hm hb .nil pass0 ha hdb he hpl
  have e : tMake C sp [] E0 t = jMake C sp t := by funext σ H Q; simp [tMake, jMake]
  rw [← e]
  exact this
/-- o.m(k = e, ..) -/
theorem pe_calmK {pl : Sem Bool} (he : PE X o ta) (c : Cls X.K C) (cm : CalM X.prog X.w X.K X.mg X.base k C m qual st ps sp) (ks : List Str) (g : {α : Type} → List α → List α → List α) (hw : KwOk m qual st ps 1 ks g) (hg : GOk g) (hr : Room k X.A) (hkw : PK X kws tk)
    (hall : (backToKw pos (keywordEach kws X.env)).all (·.1.isSome) = true := by rfl) (hks : (backToKw pos (keywordEach kws X.env)).filterMap (·.1) = ks := by rfl)
    (hpl : ((backTo pos (starEach [] X.env)).any (·.1) || (backToKw pos (keywordEach kws X.env)).any (·.1.isNone)) = false := by rfl)
    (ht : eval (.Call (.Attribute o m apos) [] kws pos) X.env = (do
      let ov ← eval o X.env
      standAt apos.atName
      let (f, first) ← holding [ov] (getMethod ov m pl)
      callWith pos f first (backTo pos (starEach [] X.env)) (backToKw pos (keywordEach kws X.env))) := by rfl) :
    PE X (.Call (.Attribute o m apos) [] kws pos) (tMethK C m ks.length sp (fun a b => g a b) ta tk) := by
  obtain ⟨f, fd, hm, hb, F, S⟩ := cm.ex
  exact pe_methK0 he c hm F hr (kbn_mk S g hw hg) hkw hall hks hpl ht
/-- an instance, called -/
def jCallO (C : Addr) (sp : Sp) (tf : TE) (t : TA) : TE := fun σ H Q => tf σ H fun y H1 => ∃ a dx fs, y = V.ref a ∧ t σ H1 fun vs H2 => H2 a = some (.ins C dx fs) ∧ sp (V.ref a :: vs) H2 Q E0
theorem pe_calO {fe : Expr} (hf : PE X fe tf) (cm : CalM X.prog X.w X.K X.mg X.base k C "__call__" qual st ps sp) (hr : Room k X.A) (ha : PA X (e :: es) t)
    (ht : eval (.Call fe (e :: es) [] pos) X.env = (do callWith pos (← eval fe X.env) [] (backTo pos (starEach (e :: es) X.env)) (backToKw pos (keywordEach [] X.env))) := by rfl)
    (he : starEach (e :: es) X.env = (false, eval e X.env) :: starEach es X.env := by rfl) (hpl : (backTo pos (starEach es X.env)).any (·.1) = false := by rfl) : PE X (.Call fe (e :: es) [] pos) (jCallO C sp tf t) := by
  obtain ⟨f, fd, hm, hb, F, S⟩ := cm.ex
  obtain ⟨oc, od, dV, kV, doc, pm, an, cdv, ct, osl, efd, lk, _⟩ := S.ex
  have c : StX.CallO X.K C f := ⟨hm.at_, hm.fn, by unfold PySem.W.fnIn; rw [lk]⟩
  refine ⟨fun pins s σ H Q I h => ?_⟩
  refine Call_ (thn (hf.run pins s σ H _ I h) fun u s1 hh => ?_) ht
  obtain ⟨y, H1, I1, ry, a, dx, fs, ey, q⟩ := hh
  subst ey
  obtain rfl : u = Value.ref a := ry
  refine StX.callO_with (thn (ha.run pos pins s1 σ H1 _ I1 q) fun us s2 hh2 => ?_) he hpl
  obtain ⟨vs, H2, I2, r, hi, q2⟩ := hh2
  have hic : StX.InsC X H2 a C := .inr ⟨dx, fs, hi⟩
  obtain ⟨ox, od', J', hd⟩ := StX.insC_at I2 hic
  exact ⟨⟨C, ox, od', J', hd⟩, StX.run_callO c (FnR.imp (F.raw hb .nil) fun vs H Q E q => by simpa using q) hr pass0 I2 hic r q2⟩
end
section
variable {σ : L2.St} {H : Hp} {Q : VK} {C : Addr} {sp : Sp} {tf : TE} {t tk : TA}
theorem w_makeK {m : Nat} {gV : List V → List V → List V} (h : tk σ H fun zs H2 => zs.length = m ∧ ∀ x dx, H2 x = none → H2 dx = none → dx ≠ x →
  sp (gV [.ref x] zs) (upd (upd H2 dx (.own x)) x (.ins C dx [])) (fun v H3 => v = .non ∧ Q (.ref x) H3) E0) : jMakeK C m sp gV tk σ H Q := h
theorem w_make (h : t σ H fun vs H2 => ∀ x dx, H2 x = none → H2 dx = none → dx ≠ x →
  sp (.ref x :: vs) (upd (upd H2 dx (.own x)) x (.ins C dx [])) (fun v H3 => v = .non ∧ Q (.ref x) H3) E0) : jMake C sp t σ H Q := h
theorem w_callO (h : tf σ H fun y H1 => ∃ a dx fs, y = V.ref a ∧ t σ H1 fun vs H2 => H2 a = some (.ins C dx fs) ∧ sp (V.ref a :: vs) H2 Q E0) : jCallO C sp tf t σ H Q := h
end
end J
namespace J
open PySem PySem.Spec PyProof.Rows L2
/-! ### the state from which a law draws -/
def StR (L : Addr) : List V → Prop := fun xs => ∃ i1 i2 i3 i4 i5 : Int, 0 ≤ i1 ∧ xs = [.ref L, .int i1, .int i2, .int i3, .int i4, .int i5]
def LawSt (H : Hp) (S : Addr) : Prop := ∃ (L : Addr) (ns : List Int), H S = some (hid (StR L) S) ∧ H L = some (.lst (ns.map V.int))
theorem LawSt.same {H H' : Hp} {S : Addr} (e : Same H H') (h : LawSt H S) : LawSt H' S := by
  obtain ⟨L, ns, a, b⟩ := h
  exact ⟨L, ns, e _ _ a, e _ _ b⟩
section
variable {P : Program} {w : World} {K : PySem.W.Frag} {mg : Str → Option Value} {base : Heap}
theorem Cal.hideRet {x : Str} {ps : List Str} {k : Nat} {sp sp' : Sp} (c : Cal P w K mg base k x ps sp)
    (h : ∀ vs H Q E, sp' vs H Q E → sp vs H (fun v H1 => ∃ S R xs, H1 S = some (.lst xs) ∧ R xs ∧ Q v (upd H1 S (hid R S))) E) (hl : ∀ vs H Q E, sp' vs H Q E → vs.length = ps.length) : Cal P w K mg base k x ps sp' := by
  obtain ⟨f, fd, hm, hk, hb, F⟩ := c.ex
  exact ⟨f, fd, hm, hk, hb, J.hideRet F sp' h hl⟩
end
end J
namespace J
/-! ### drawn rows -/
/-- rows from pairs that lie apart on the round -/
theorem rows_of {N : Int} {rs : List (Int × Int)} (n2 : 2 ≤ N) (n360 : N ≤ 360) (l1 : 1 ≤ rs.length) (l12 : rs.length ≤ 12) (bd : ∀ q ∈ rs, 0 ≤ q.1 ∧ q.1 < N ∧ 0 ≤ q.2 ∧ q.2 < N)
    (nd : (rs.map Prod.fst).Nodup) (gap : ∀ p ∈ rs, ∀ q ∈ rs, (p.1 < q.1 → (p.2 - p.1) % N < q.1 - p.1) ∧ (p.2 - p.1) % N < q.1 + N - p.1) : Rows N (sortP rs) := by
  have pm := sortP_perm rs
  have sl : (sortP rs).length = rs.length := pm.length_eq
  have mem : ∀ {q}, q ∈ sortP rs → q ∈ rs := fun h => pm.mem_iff.mp h
  have nd' : ((sortP rs).map Prod.fst).Nodup := (pm.map Prod.fst).nodup_iff.mpr nd
  have asc : (sortP rs).Pairwise fun p q => p.1 < q.1 := by
    have h := sortP_sorted rs
    have nd2 : (sortP rs).Pairwise fun p q => p.1 ≠ q.1 := by
      have := nd'
      unfold List.Nodup at this
      rwa [List.pairwise_map] at this
    refine (h.and nd2).imp fun {p q} hh => ?_
    have := hh.1
    unfold lexLe at this
    omega
  refine ⟨n2, n360, by omega, by omega, fun q hq => bd q (mem hq), asc, fun i b r e h1 h2 => ?_⟩
  have hi := (List.getElem?_eq_some_iff.mp h1).1
  have m1 := mem (List.mem_of_getElem? h1)
  have l := (List.getElem?_eq_some_iff.mp h1).1
  obtain ⟨⟨b0, r0⟩, h0⟩ : ∃ q, (sortP rs)[0]? = some q := ⟨(sortP rs)[0]'(by omega), by simp⟩
  by_cases hl : i + 1 < (sortP rs).length
  · obtain ⟨⟨b', r'⟩, h'⟩ : ∃ q, (sortP rs)[i + 1]? = some q := ⟨(sortP rs)[i + 1], by simp [hl]⟩
    have e1 := ends_get (N := N) h'
    rw [h2] at e1; cases e1
    have lt := pw_next asc h1 h'
    exact (gap _ m1 _ (mem (List.mem_of_getElem? h'))).1 lt
  · have e1 : i = (sortP rs).length - 1 := by omega
    have e2 := ends_last (N := N) h0
    rw [← e1, h2] at e2; cases e2
    exact (gap _ m1 _ (mem (List.mem_of_getElem? h0))).2
/-- the lifted pairs of a base pair -/
def lapsOf (N unit : Int) (rep : Nat) (p : Int × Int) : List (Int × Int) := (List.range rep).map fun (lap : Nat) => ((p.1 + lap * unit) % N, (p.2 + lap * unit) % N)
def allR (N unit : Int) (rep : Nat) (bs : List (Int × Int)) : List (Int × Int) := (bs.map (lapsOf N unit rep)).flatten
theorem allR_nil {N unit : Int} {rep : Nat} : allR N unit rep [] = [] := rfl
theorem allR_snoc {N unit : Int} {rep : Nat} {bs : List (Int × Int)} {p : Int × Int} : allR N unit rep (bs ++ [p]) = allR N unit rep bs ++ lapsOf N unit rep p := by
  unfold allR; simp
theorem lapsOf_length {N unit : Int} {rep : Nat} {p : Int × Int} : (lapsOf N unit rep p).length = rep := by unfold lapsOf; simp
theorem allR_length {N unit : Int} {rep : Nat} : ∀ {bs : List (Int × Int)}, (allR N unit rep bs).length = bs.length * rep
  | [] => by simp [allR]
  | p :: bs => by
    show (lapsOf N unit rep p ++ allR N unit rep bs).length = _
    rw [List.length_append, lapsOf_length, allR_length (bs := bs), List.length_cons, Nat.add_mul]
    omega
theorem mem_allR {N unit : Int} {rep : Nat} {bs : List (Int × Int)} {q : Int × Int} (h : q ∈ allR N unit rep bs) : ∃ p ∈ bs, ∃ lap : Nat, lap < rep ∧ q = ((p.1 + lap * unit) % N, (p.2 + lap * unit) % N) := by
  unfold allR at h
  obtain ⟨l, hl, hq⟩ := List.mem_flatten.mp h
  obtain ⟨p, hp, e⟩ := List.mem_map.mp hl
  subst e
  unfold lapsOf at hq
  obtain ⟨lap, hlap, e⟩ := List.mem_map.mp hq
  exact ⟨p, hp, lap, List.mem_range.mp hlap, e.symm⟩
theorem lap_le {a b : Nat} {unit : Int} (h : a < b) (u : 0 ≤ unit) : (a : Int) * unit + unit ≤ b * unit := by
  have : ((a : Int) + 1) * unit ≤ b * unit := Int.mul_le_mul_of_nonneg_right (by omega) u
  rw [Int.add_mul, Int.one_mul] at this
  exact this
/-- equal residues within one round are equal -/
theorem mod_inj {N b0 x y : Int} (n0 : 0 < N) (hx : b0 ≤ x ∧ x < b0 + N) (hy : b0 ≤ y ∧ y < b0 + N) (e : x % N = y % N) : x = y := by
  rcases (show x < y ∨ x = y ∨ y < x by omega) with h | h | h
  · exact absurd e (mod_ne h (by omega))
  · exact h
  · exact absurd e.symm (mod_ne h (by omega))
/-- the base pairs of one unit, from b0 on -/
structure Base (b0 unit : Int) (bs : List (Int × Int)) : Prop where
  apart : bs.Pairwise fun p q => p.2 < q.1
  bd : ∀ p ∈ bs, b0 ≤ p.1 ∧ p.1 ≤ p.2 ∧ p.2 < b0 + unit
theorem Base.step {b0 unit : Int} {bs : List (Int × Int)} {p : Int × Int} {c : Int} (h : Base b0 unit bs) (hc : ∀ q ∈ bs, q.2 < c) (h1 : c ≤ p.1) (h2 : b0 ≤ p.1) (h3 : p.1 ≤ p.2) (h4 : p.2 < b0 + unit) : Base b0 unit (bs ++ [p]) := by
  refine ⟨List.pairwise_append.mpr ⟨h.apart, by simp, fun q hq r hr => ?_⟩, fun q hq => ?_⟩
  · simp at hr; subst hr
    have := hc q hq; omega
  · rcases List.mem_append.mp hq with hq | hq
    · exact h.bd q hq
    · simp at hq; subst hq; exact ⟨h2, h3, h4⟩
theorem pw_lt {α : Type} {R : α → α → Prop} {l : List α} (h : l.Pairwise R) {p q : α} (hp : p ∈ l) (hq : q ∈ l) : p = q ∨ R p q ∨ R q p := by
  obtain ⟨i, hi, rfl⟩ := List.getElem_of_mem hp
  obtain ⟨j, hj, rfl⟩ := List.getElem_of_mem hq
  rcases Nat.lt_trichotomy i j with h1 | h1 | h1
  · exact .inr (.inl (pw_get (R := R) h h1 (by simp [hi]) (by simp [hj])))
  · subst h1; exact .inl rfl
  · exact .inr (.inr (pw_get (R := R) h h1 (by simp [hj]) (by simp [hi])))
/-- two lifted pairs: where they lie -/
theorem Base.two {b0 unit : Int} {bs : List (Int × Int)} (B : Base b0 unit bs) {p q : Int × Int} {l m : Nat} (hp : p ∈ bs) (hq : q ∈ bs) (h : p.1 + l * unit < q.1 + m * unit) : p.2 + l * unit < q.1 + m * unit := by
  have hb := B.bd p hp
  have hb2 := B.bd q hq
  have u0 : 0 ≤ unit := by omega
  rcases Nat.lt_trichotomy l m with h1 | h1 | h1
  · have := lap_le h1 u0; omega
  · subst h1
    rcases pw_lt B.apart hp hq with e | e | e
    · subst e; omega
    · omega
    · omega
  · have := lap_le h1 u0; omega
theorem Base.same {b0 unit : Int} {bs : List (Int × Int)} (B : Base b0 unit bs) {p q : Int × Int} {l m : Nat} (hp : p ∈ bs) (hq : q ∈ bs) (h : p.1 + l * unit = q.1 + m * unit) : p = q ∧ l = m := by
  have hb := B.bd p hp
  have hb2 := B.bd q hq
  have u0 : 0 ≤ unit := by omega
  rcases Nat.lt_trichotomy l m with h1 | h1 | h1
  · have := lap_le h1 u0; omega
  · subst h1
    rcases pw_lt B.apart hp hq with e | e | e
    · exact ⟨e, rfl⟩
    · omega
    · omega
  · have := lap_le h1 u0; omega
theorem laps_in {b0 unit N : Int} {rep l : Nat} {x : Int} (hN : N = rep * unit) (hl : l < rep) (hx : b0 ≤ x ∧ x < b0 + unit) : b0 ≤ x + l * unit ∧ x + l * unit < b0 + N := by
  have u0 : 0 ≤ unit := by omega
  have := lap_le hl u0
  have : 0 ≤ (l : Int) * unit := Int.mul_nonneg (by omega) u0
  omega
theorem allR_nodup {N b0 unit : Int} {rep : Nat} (n0 : 0 < N) (hN : N = rep * unit) : ∀ {bs : List (Int × Int)}, Base b0 unit bs → ((allR N unit rep bs).map Prod.fst).Nodup := by
  intro bs B
  unfold List.Nodup
  rw [List.pairwise_map]
  -- by places: a pair of the flattened list
  suffices h : ∀ (cs : List (Int × Int)), (∀ p ∈ cs, p ∈ bs) → cs.Pairwise (fun p q => p.2 < q.1) → (allR N unit rep cs).Pairwise (fun a b => a.1 ≠ b.1) from h bs (fun _ h => h) B.apart
  intro cs
  induction cs with
  | nil => intro _ _; exact List.Pairwise.nil
  | cons p cs ih =>
    intro hc pw
    have pw' := List.pairwise_cons.mp pw
    show (lapsOf N unit rep p ++ allR N unit rep cs).Pairwise _
    have hp := hc p (List.mem_cons_self ..)
    have bp := B.bd p hp
    refine List.pairwise_append.mpr ⟨?_, ih (fun q hq => hc q (List.mem_cons_of_mem _ hq)) pw'.2, fun a ha b hb e => ?_⟩
    · unfold lapsOf
      rw [List.pairwise_map]
      refine List.Pairwise.imp_of_mem (R := fun (a b : Nat) => a < b) (fun {a b} ha hb hab => ?_) (List.pairwise_lt_range)
      have ha := List.mem_range.mp ha
      have hb := List.mem_range.mp hb
      intro e
      have := mod_inj n0 (laps_in hN ha ⟨bp.1, by omega⟩) (laps_in hN hb ⟨bp.1, by omega⟩) e
      have := (B.same hp hp this).2
      omega
    · obtain ⟨p', hp', l, hl, ea⟩ : ∃ p' ∈ [p], ∃ lap : Nat, lap < rep ∧ a = ((p'.1 + lap * unit) % N, (p'.2 + lap * unit) % N) := mem_allR (by show a ∈ allR N unit rep [p]; unfold allR; simpa using ha)
      obtain ⟨q, hq, m, hm, eb⟩ := mem_allR hb
      simp at hp'; subst hp'
      have hq' := hc q (List.mem_cons_of_mem _ hq)
      have bq := B.bd q hq'
      rw [ea, eb] at e
      have := mod_inj n0 (laps_in hN hl ⟨bp.1, by omega⟩) (laps_in hN hm ⟨bq.1, by omega⟩) e
      have := (B.same hp hq' this).1
      have := pw'.1 q hq
      subst_vars
      omega
theorem allR_rows {N b0 unit : Int} {rep : Nat} {bs : List (Int × Int)} (n2 : 2 ≤ N) (n360 : N ≤ 360) (hN : N = rep * unit) (h0 : 0 ≤ b0) (B : Base b0 unit bs) (l1 : 1 ≤ bs.length) (r1 : 1 ≤ rep) (l12 : bs.length * rep ≤ 12) : Rows N (sortP (allR N unit rep bs)) := by
  have n0 : 0 < N := by omega
  refine rows_of n2 n360 ?_ (by rw [allR_length]; exact l12) (fun q hq => ?_) (allR_nodup n0 hN B) (fun p hp q hq => ?_)
  · rw [allR_length]
    exact Nat.mul_pos l1 r1
  · obtain ⟨p, hp, l, hl, e⟩ := mem_allR hq
    subst e
    exact ⟨Int.emod_nonneg _ (by omega), Int.emod_lt_of_pos _ n0, Int.emod_nonneg _ (by omega), Int.emod_lt_of_pos _ n0⟩
  · obtain ⟨p', hp', l, hl, ep⟩ := mem_allR hp
    obtain ⟨q', hq', m, hm, eq⟩ := mem_allR hq
    subst ep eq
    have bp := B.bd p' hp'
    have bq := B.bd q' hq'
    have i1 := laps_in hN hl (show b0 ≤ p'.1 ∧ p'.1 < b0 + unit by omega)
    have i2 := laps_in hN hm (show b0 ≤ q'.1 ∧ q'.1 < b0 + unit by omega)
    have i3 := laps_in hN hl (show b0 ≤ p'.2 ∧ p'.2 < b0 + unit by omega)
    have d : ((p'.2 + l * unit) % N - (p'.1 + l * unit) % N) % N = p'.2 - p'.1 := by
      rw [← Int.sub_emod]
      have e : p'.2 + l * unit - (p'.1 + l * unit) = p'.2 - p'.1 := by omega
      rw [e]
      exact Int.emod_eq_of_lt (by omega) (by omega)
    have key : ∀ x y : Int, b0 ≤ x → x < b0 + N → b0 ≤ y → y < b0 + N → (x < y → p'.2 - p'.1 < y - x) → (x ≥ y → p'.2 - p'.1 < y + N - x) → (x % N < y % N → p'.2 - p'.1 < y % N - x % N) ∧ p'.2 - p'.1 < y % N + N - x % N := by
      intro x y hx1 hx2 hy1 hy2 f1 f2
      have dx := Int.emod_add_mul_ediv x N
      have dy := Int.emod_add_mul_ediv y N
      have mx := Int.emod_nonneg x (show N ≠ 0 by omega)
      have mx2 := Int.emod_lt_of_pos x n0
      have my := Int.emod_nonneg y (show N ≠ 0 by omega)
      have my2 := Int.emod_lt_of_pos y n0
      have hq : N * (y / N - x / N) = N * (y / N) - N * (x / N) := Int.mul_sub ..
      rcases (show y / N - x / N = 0 ∨ 1 ≤ y / N - x / N ∨ y / N - x / N ≤ -1 by omega) with h | h | h
      · rw [h] at hq
        have : N * (0 : Int) = 0 := Int.mul_zero N
        constructor
        · intro hlt; have := f1 (by omega); omega
        · by_cases hxy : x < y
          · have := f1 hxy; omega
          · have := f2 (by omega); omega
      · have h1 : y / N - x / N = 1 := by
          rcases (show y / N - x / N = 1 ∨ 2 ≤ y / N - x / N by omega) with z | z
          · exact z
          · have := Int.mul_le_mul_of_nonneg_left z (Int.le_of_lt n0)
            omega
        rw [h1, Int.mul_one] at hq
        have := f1 (by omega)
        constructor
        · intro hlt; omega
        · omega
      · have := Int.mul_le_mul_of_nonneg_left h (Int.le_of_lt n0)
        have e : N * (-1 : Int) = -N := by omega
        rw [e] at this
        have := f2 (by omega)
        constructor
        · intro hlt; omega
        · omega
    show (_ → ((p'.2 + l * unit) % N - (p'.1 + l * unit) % N) % N < _) ∧ ((p'.2 + l * unit) % N - (p'.1 + l * unit) % N) % N < _
    rw [d]
    refine key _ _ i1.1 i1.2 i2.1 i2.2 (fun h => ?_) (fun h => ?_)
    · have := B.two hp' hq' h; omega
    · omega
/-! turning by a unit -/
theorem turnR_add {N c d : Int} {rs : List (Int × Int)} (h1 : turnR N c rs = rs) (h2 : turnR N d rs = rs) : turnR N (c + d) rs = rs := by
  have e : rs.map (movP N (c + d)) = (rs.map (movP N c)).map (movP N d) := by
    rw [List.map_map]
    refine List.map_congr_left fun q _ => ?_
    show movP N (c + d) q = movP N d (movP N c q)
    unfold movP
    simp only [Int.emod_add_emod]
    rw [Int.add_assoc, Int.add_assoc]
  have p1 : (rs.map (movP N c)).Perm rs := by
    have := sortP_perm (rs.map (movP N c))
    unfold turnR at h1
    rw [h1] at this
    exact this.symm
  unfold turnR at *
  rw [e, sortP_of_perm (p1.map (movP N d)), h2]
theorem turnR_mul {N c : Int} {rs : List (Int × Int)} (R : Rows N rs) (h : turnR N c rs = rs) : ∀ k : Nat, turnR N (k * c) rs = rs
  | 0 => by
    have e : rs.map (movP N ((0 : Nat) * c)) = rs := by
      conv => rhs; rw [← List.map_id rs]
      refine List.map_congr_left fun q hq => ?_
      have := R.bd q hq
      show movP N ((0 : Nat) * c) q = q
      unfold movP
      simp
      rw [Int.emod_eq_of_lt this.1 this.2.1, Int.emod_eq_of_lt this.2.2.1 this.2.2.2]
    unfold turnR
    rw [e]
    exact sortP_id R.sorted
  | k + 1 => by
    have e : ((k + 1 : Nat) : Int) * c = k * c + c := by
      have : ((k + 1 : Nat) : Int) = (k : Int) + 1 := by omega
      rw [this, Int.add_mul, Int.one_mul]
    rw [e]
    exact turnR_add (turnR_mul R h k) h
theorem laps_perm {N unit : Int} {rep : Nat} (hN : N = rep * unit) (r1 : 1 ≤ rep) (p : Int × Int) : ((lapsOf N unit rep p).map (movP N unit)).Perm (lapsOf N unit rep p) := by
  obtain ⟨r, rfl⟩ : ∃ r, rep = r + 1 := ⟨rep - 1, by omega⟩
  have e1 : (lapsOf N unit (r + 1) p).map (movP N unit) = (List.range (r + 1)).map fun (lap : Nat) => ((p.1 + ((lap + 1 : Nat) : Int) * unit) % N, (p.2 + ((lap + 1 : Nat) : Int) * unit) % N) := by
    unfold lapsOf
    rw [List.map_map]
    refine List.map_congr_left fun lap _ => ?_
    show movP N unit _ = _
    unfold movP
    simp only [Int.emod_add_emod]
    have : ((lap + 1 : Nat) : Int) * unit = lap * unit + unit := by
      have e : ((lap + 1 : Nat) : Int) = (lap : Int) + 1 := by omega
      rw [e, Int.add_mul, Int.one_mul]
    rw [this, Int.add_assoc, Int.add_assoc]
  rw [e1]
  have e2 : lapsOf N unit (r + 1) p = ((p.1 + ((0 : Nat) : Int) * unit) % N, (p.2 + ((0 : Nat) : Int) * unit) % N) :: (List.range r).map fun (lap : Nat) => ((p.1 + ((lap + 1 : Nat) : Int) * unit) % N, (p.2 + ((lap + 1 : Nat) : Int) * unit) % N) := by
    unfold lapsOf
    rw [List.range_succ_eq_map, List.map_cons, List.map_map]
    rfl
  rw [e2, List.range_succ, List.map_append]
  have e3 : ([r].map fun (lap : Nat) => ((p.1 + ((lap + 1 : Nat) : Int) * unit) % N, (p.2 + ((lap + 1 : Nat) : Int) * unit) % N)) = [((p.1 + ((0 : Nat) : Int) * unit) % N, (p.2 + ((0 : Nat) : Int) * unit) % N)] := by
    simp only [List.map_cons, List.map_nil]
    rw [← hN, Int.add_emod_right, Int.add_emod_right]
    simp
  rw [e3]
  exact List.perm_append_comm
theorem allR_turn {N unit : Int} {rep : Nat} (hN : N = rep * unit) (r1 : 1 ≤ rep) (bs : List (Int × Int)) : turnR N unit (sortP (allR N unit rep bs)) = sortP (allR N unit rep bs) := by
  have h : ((allR N unit rep bs).map (movP N unit)).Perm (allR N unit rep bs) := by
    induction bs with
    | nil => exact List.Perm.refl _
    | cons p bs ih =>
      show ((lapsOf N unit rep p ++ allR N unit rep bs).map (movP N unit)).Perm (lapsOf N unit rep p ++ allR N unit rep bs)
      rw [List.map_append]
      exact (laps_perm hN r1 p).append ih
  unfold turnR
  exact sortP_of_perm (((sortP_perm _).map _).trans h)
end J
namespace J
/-! ### where an integer is lifted to -/
theorem quot_eq {N b0 x q q' : Int} (n0 : 0 < N) (h1 : b0 ≤ x - N * q ∧ x - N * q < b0 + N) (h2 : b0 ≤ x - N * q' ∧ x - N * q' < b0 + N) : q = q' := by
  have e : N * (q - q') = N * q - N * q' := Int.mul_sub ..
  rcases (show q - q' = 0 ∨ 1 ≤ q - q' ∨ q - q' ≤ -1 by omega) with z | z | z
  · omega
  · have := Int.mul_le_mul_of_nonneg_left z (Int.le_of_lt n0); omega
  · have := Int.mul_le_mul_of_nonneg_left z (Int.le_of_lt n0)
    have e2 : N * (-1 : Int) = -N := by omega
    omega
theorem ends_le_begin {N : Int} {rs : List (Int × Int)} (R : Rows N rs) {i j : Nat} {b r e : Int} (h : i < j) (h1 : (endsL N rs)[i]? = some e) (h2 : rs[j]? = some (b, r)) : e ≤ b := by
  have lj := (List.getElem?_eq_some_iff.mp h2).1
  obtain ⟨⟨b', r'⟩, h'⟩ : ∃ q, rs[i + 1]? = some q := ⟨rs[i + 1]'(by omega), by simp⟩
  have e1 := ends_get (N := N) h'
  rw [h1] at e1; cases e1
  rcases (show i + 1 = j ∨ i + 1 < j by omega) with z | z
  · subst z; rw [h'] at h2; cases h2; exact Int.le_refl _
  · have := pw_get (R := fun p q => p.1 < q.1) R.asc z h' h2
    simp at this; omega
theorem IsLift.unique {N : Int} {rs : List (Int × Int)} {x y y' : Int} (R : Rows N rs) (h : IsLift N rs x y) (h' : IsLift N rs x y') : y = y' := by
  obtain ⟨i, b, r, e, q, h1, h2, h3, h4, h5⟩ := h
  obtain ⟨j, c, s, f, p, k1, k2, k3, k4, k5⟩ := h'
  obtain ⟨b0, r0, h0⟩ := R.first
  have n2 := R.n2
  have a := R.end_le h0 h1 h2
  have a' := R.end_le h0 k1 k2
  have eq : q = p := quot_eq (N := N) (b0 := b0) (x := x) (by omega) (by omega) (by omega)
  subst eq
  rcases Nat.lt_trichotomy i j with z | z | z
  · have := ends_le_begin R z h2 k1; omega
  · subst z
    rw [h1] at k1; cases k1
    omega
  · have := ends_le_begin R z k2 h1; omega
/-- the lowest point of row (b, r) not above x -/
def lowOf (N x b : Int) : Int := b + N * ((x - b) / N)
theorem low_le {N x b : Int} (n0 : 0 < N) : lowOf N x b ≤ x ∧ x < lowOf N x b + N := by
  unfold lowOf
  have := Int.emod_add_mul_ediv (x - b) N
  have := Int.emod_nonneg (x - b) (show N ≠ 0 by omega)
  have := Int.emod_lt_of_pos (x - b) n0
  omega
theorem low_ge {N x b q : Int} (n0 : 0 < N) (h : b + N * q ≤ x) : b + N * q ≤ lowOf N x b := by
  unfold lowOf
  have : q ≤ (x - b) / N := (Int.le_ediv_iff_mul_le n0).mpr (by rw [Int.mul_comm]; omega)
  have := Int.mul_le_mul_of_nonneg_left this (Int.le_of_lt n0)
  omega
/-- the best of the rows so far -/
def BestTo (N x : Int) (rs : List (Int × Int)) (i : Nat) (best : Int) (ans : Int) : Prop :=
  (∃ j b r, j < i ∧ rs[j]? = some (b, r) ∧ best = lowOf N x b ∧ ans = lowOf N x b + (r - b) % N) ∧ ∀ j b r, j < i → rs[j]? = some (b, r) → lowOf N x b ≤ best
theorem BestTo.lift {N x : Int} {rs : List (Int × Int)} {best ans : Int} (R : Rows N rs) (h : BestTo N x rs rs.length best ans) : IsLift N rs x ans := by
  obtain ⟨⟨j, b, r, hj, h1, h2, h3⟩, mx⟩ := h
  obtain ⟨b0, r0, h0⟩ := R.first
  have n2 := R.n2
  have n0 : 0 < N := by omega
  have hl : j < (endsL N rs).length := by rw [endsL_length R.l1]; exact hj
  obtain ⟨e, he⟩ : ∃ e, (endsL N rs)[j]? = some e := ⟨(endsL N rs)[j], by simp [hl]⟩
  have a := R.end_le h0 h1 he
  have lo := low_le (N := N) (x := x) (b := b) n0
  refine ⟨j, b, r, e, (x - b) / N, h1, he, lo.1, ?_, by rw [h3]; unfold lowOf; omega⟩
  have main : ∀ (c s : Int) (k : Nat) (t : Int), rs[k]? = some (c, s) → e + N * ((x - b) / N) = c + N * ((x - b) / N + t) → b < c + N * t → x < e + N * ((x - b) / N) := by
    intro c s k t hk e1 e2
    rcases (show x < e + N * ((x - b) / N) ∨ e + N * ((x - b) / N) ≤ x by omega) with z | z
    · exact z
    · rw [e1] at z
      have g := low_ge n0 z
      have m := mx k c s (List.getElem?_eq_some_iff.mp hk).1 hk
      rw [h2] at m
      unfold lowOf at m g
      have : N * ((x - b) / N + t) = N * ((x - b) / N) + N * t := Int.mul_add ..
      omega
  by_cases hl2 : j + 1 < rs.length
  · obtain ⟨⟨b', r'⟩, h'⟩ : ∃ q, rs[j + 1]? = some q := ⟨rs[j + 1], by simp [hl2]⟩
    have e1 := ends_get (N := N) h'
    rw [he] at e1; cases e1
    exact main _ _ _ 0 h' (by simp) (by simp; omega)
  · have e1 : j = rs.length - 1 := by omega
    have e2 := ends_last (N := N) h0
    rw [← e1, he] at e2; cases e2
    have d : N * ((x - b) / N + 1) = N * ((x - b) / N) + N := by rw [Int.mul_add]; omega
    exact main _ _ _ 1 h0 (by rw [d]; omega) (by omega)
theorem BestTo.step {N x : Int} {rs : List (Int × Int)} {i : Nat} {best ans b r : Int} (h : BestTo N x rs i best ans) (e : rs[i]? = some (b, r)) :
    (best < lowOf N x b → BestTo N x rs (i + 1) (lowOf N x b) (lowOf N x b + (r - b) % N)) ∧ (¬ best < lowOf N x b → BestTo N x rs (i + 1) best ans) := by
  obtain ⟨⟨j, c, s, hj, h1, h2, h3⟩, mx⟩ := h
  refine ⟨fun hlt => ⟨⟨i, b, r, by omega, e, rfl, rfl⟩, fun j b' r' hj' e' => ?_⟩, fun hlt => ⟨⟨j, c, s, by omega, h1, h2, h3⟩, fun j b' r' hj' e' => ?_⟩⟩
  · rcases (show j < i ∨ j = i by omega) with z | z
    · have := mx j b' r' z e'; omega
    · subst z; rw [e] at e'; cases e'; exact Int.le_refl _
  · rcases (show j < i ∨ j = i by omega) with z | z
    · exact mx j b' r' z e'
    · subst z; rw [e] at e'; cases e'; omega
theorem BestTo.first {N x : Int} {rs : List (Int × Int)} {b r : Int} (e : rs[0]? = some (b, r)) : BestTo N x rs 1 (lowOf N x b) (lowOf N x b + (r - b) % N) :=
  ⟨⟨0, b, r, by omega, e, rfl, rfl⟩, fun j b' r' hj' e' => by
    obtain rfl : j = 0 := by omega
    rw [e] at e'; cases e'; exact Int.le_refl _⟩
theorem Rows.lift {N : Int} {rs : List (Int × Int)} (R : Rows N rs) (x : Int) : ∃ y, IsLift N rs x y := by
  obtain ⟨b0, r0, h0⟩ := R.first
  have : ∀ n, 1 ≤ n → n ≤ rs.length → ∃ best ans, BestTo N x rs n best ans := by
    intro n
    induction n with
    | zero => intro h; omega
    | succ n ih =>
      intro _ hn
      rcases (show n = 0 ∨ 1 ≤ n by omega) with z | z
      · subst z; exact ⟨_, _, BestTo.first h0⟩
      · obtain ⟨best, ans, B⟩ := ih z (by omega)
        obtain ⟨⟨b, r⟩, e⟩ : ∃ q, rs[n]? = some q := ⟨rs[n]'(by omega), by simp⟩
        by_cases hlt : best < lowOf N x b
        · exact ⟨_, _, (B.step e).1 hlt⟩
        · exact ⟨_, _, (B.step e).2 hlt⟩
  obtain ⟨best, ans, B⟩ := this rs.length R.l1 (Nat.le_refl _)
  exact ⟨ans, B.lift R⟩
/-- how often the drawn rows repeat -/
def waysL (N : Int) (ev : Bool) (n : Nat) : List Int := ((List.range n).map fun (i : Nat) => (1 + (i : Int))).filter fun m => decide (N % m = 0) && (!ev || decide (m % 2 = 0))
theorem waysL_succ {N : Int} {ev : Bool} {n : Nat} : waysL N ev (n + 1) = waysL N ev n ++ (if (decide (N % (1 + (n : Int)) = 0) && (!ev || decide ((1 + (n : Int)) % 2 = 0))) = true then [1 + (n : Int)] else []) := by
  unfold waysL
  rw [List.range_succ, List.map_append, List.filter_append]
  congr 1
  simp [List.filter]
  split <;> simp_all
theorem waysL_mem {N : Int} {ev : Bool} {n : Nat} {m : Int} (h : m ∈ waysL N ev n) : 1 ≤ m ∧ m ≤ n ∧ N % m = 0 ∧ (ev = true → m % 2 = 0) := by
  unfold waysL at h
  obtain ⟨h1, h2⟩ := List.mem_filter.mp h
  obtain ⟨i, hi, e⟩ := List.mem_map.mp h1
  have := List.mem_range.mp hi
  simp at h2
  refine ⟨by omega, by omega, h2.1, fun he => ?_⟩
  rcases h2.2 with z | z
  · rw [he] at z; cases z
  · exact z
theorem waysL_ne {N : Int} {ev : Bool} (h : ev = true → N % 2 = 0) : waysL N ev 12 ≠ [] := by
  intro e
  cases ev with
  | false =>
    have : (1 : Int) ∈ waysL N false 12 := by
      unfold waysL
      exact List.mem_filter.mpr ⟨List.mem_map.mpr ⟨0, by simp, by simp⟩, by simp⟩
    rw [e] at this; cases this
  | true =>
    have : (2 : Int) ∈ waysL N true 12 := by
      unfold waysL
      exact List.mem_filter.mpr ⟨List.mem_map.mpr ⟨1, by simp, by simp⟩, by simp [h rfl]⟩
    rw [e] at this; cases this
end J
namespace J
open PySem PySem.Spec PyProof.Rows L2
theorem in64 {x : Int} (h : 0 ≤ x ∧ x < 2147483647) : -(2 ^ 64) < x ∧ x < 2 ^ 64 := by omega
abbrev CT (K : PySem.W.Frag) : Addr := He.ga K "Turning"
/-! lifting keeps order -/
theorem IsLift.mono {N : Int} {rs : List (Int × Int)} {x y x' y' : Int} (R : Rows N rs) (h : IsLift N rs x y) (h' : IsLift N rs x' y') (hx : x ≤ x') : y ≤ y' := by
  obtain ⟨i, b, r, e, q, h1, h2, h3, h4, h5⟩ := h
  obtain ⟨j, c, s, f, p, k1, k2, k3, k4, k5⟩ := h'
  obtain ⟨b0, r0, h0⟩ := R.first
  have n2 := R.n2
  have a := R.end_le h0 h1 h2
  have a' := R.end_le h0 k1 k2
  have s1 := R.st i b r e h1 h2
  have s2 := R.st j c s f k1 k2
  have m1 := Int.emod_nonneg (r - b) (show N ≠ 0 by omega)
  have m2 := Int.emod_nonneg (s - c) (show N ≠ 0 by omega)
  have d : N * (q - p) = N * q - N * p := Int.mul_sub ..
  rcases (show q = p ∨ 1 ≤ q - p ∨ q - p ≤ -1 by omega) with z | z | z
  · subst z
    rcases Nat.lt_trichotomy i j with w | w | w
    · have := ends_le_begin R w h2 k1; omega
    · subst w; rw [h1] at k1; cases k1; omega
    · have := ends_le_begin R w k2 h1; omega
  · have := Int.mul_le_mul_of_nonneg_left z (show 0 ≤ N by omega); omega
  · have := Int.mul_le_mul_of_nonneg_left z (show 0 ≤ N by omega)
    have e2 : N * (-1 : Int) = -N := by omega
    omega
theorem IsLift.near {N : Int} {rs : List (Int × Int)} {x y : Int} (R : Rows N rs) (h : IsLift N rs x y) : y - x < N ∧ x - y < N := by
  obtain ⟨i, b, r, e, q, h1, h2, h3, h4, h5⟩ := h
  obtain ⟨b0, r0, h0⟩ := R.first
  have n2 := R.n2
  have a := R.end_le h0 h1 h2
  have s1 := R.st i b r e h1 h2
  have m1 := Int.emod_nonneg (r - b) (show N ≠ 0 by omega)
  omega
theorem IsLift.fix {N : Int} {rs : List (Int × Int)} {x y : Int} (R : Rows N rs) (h : IsLift N rs x y) : IsLift N rs y y := by
  obtain ⟨i, b, r, e, q, h1, h2, h3, h4, h5⟩ := h
  have n2 := R.n2
  have s1 := R.st i b r e h1 h2
  have m1 := Int.emod_nonneg (r - b) (show N ≠ 0 by omega)
  exact ⟨i, b, r, e, q, h1, h2, by omega, by omega, h5⟩
theorem IsLift.rest {N : Int} {rs : List (Int × Int)} {x y : Int} (R : Rows N rs) (h : IsLift N rs x y) : y % N ∈ rs.map Prod.snd := by
  obtain ⟨i, b, r, e, q, h1, h2, h3, h4, h5⟩ := h
  have bd := R.bd _ (List.mem_of_getElem? h1)
  refine List.mem_map.mpr ⟨(b, r), List.mem_of_getElem? h1, ?_⟩
  show r = y % N
  rw [h5, Int.add_mul_emod_self_left, Int.add_emod_emod]
  have e1 : b + (r - b) = r := by omega
  rw [e1]
  exact (Int.emod_eq_of_lt bd.2.2.1 bd.2.2.2).symm
theorem inV_ints {a : Int} : ∀ {ys : List Int}, inV (.int a) (ys.map V.int) = decide (a ∈ ys)
  | [] => by simp [inV]
  | y :: ys => by
    have ih := inV_ints (a := a) (ys := ys)
    unfold inV at *
    rw [List.map_cons, List.any_cons, ih]
    have e : eqV (.int y) (.int a) = decide (a = y) := by
      show (y == a) = decide (a = y)
      by_cases h : a = y
      · subst h; simp
      · have h2 : ¬ y = a := fun z => h z.symm
        simp [h, h2]
    rw [e]
    by_cases h1 : a = y <;> by_cases h2 : a ∈ ys <;> simp [h1, h2]
theorem flat_ints (ys : List Int) : (ys.map V.int).all flatV = true := by simp [flatV]
theorem w_inI {K : PySem.W.Frag} {H : Hp} {Q : VK} {a : Int} {p : Addr} {ys : List Int} (h : SqL K H p (ys.map V.int)) (q : Q (.bl (decide (a ∈ ys))) H) : rIn K false (.int a) (.ref p) H Q :=
  ⟨p, _, rfl, .inl h, rfl, flat_ints ys, by rw [inV_ints]; exact q⟩
theorem w_niI {K : PySem.W.Frag} {H : Hp} {Q : VK} {a : Int} {p : Addr} {ys : List Int} (h : SqL K H p (ys.map V.int)) (q : Q (.bl (!decide (a ∈ ys))) H) : rIn K true (.int a) (.ref p) H Q :=
  ⟨p, _, rfl, .inl h, rfl, flat_ints ys, by rw [inV_ints]; exact q⟩
end J
namespace J
open PySem PySem.Spec PyProof.Rows L2
structure CalP (P : Program) (w : World) (K : PySem.W.Frag) (mg : Str → Option Value) (base : Heap) (k : Nat) (C : Addr) (f : Str) (ps : List Str) (sp : Sp) : Prop where
  ex : ∃ p g fd, PropOf K C f p g ∧ Binds K fd ps [] ∧ FnOk P w K mg base CX0 k g fd ps sp
theorem calp_mk {P : Program} {w : World} {K : PySem.W.Frag} {mg : Str → Option Value} {base : Heap} {C : Addr} {m qual : Str} {st : Stmt} {p g : Addr} {N ps : List Str} {k : Nat} {sp : Sp} (F : Src K m qual st g) (hm : PropOf K C m p g) (S : FnScope N ps (defScope st)) (hb : BindOk m qual st ps)
    (len : ∀ vs H Q E, sp vs H Q E → vs.length = ps.length) (hbody : BodyOk P w K mg base N qual st g k sp) : CalP P w K mg base (k + 1) C m ps sp := by
  obtain ⟨fd, F⟩ := F
  exact ⟨p, g, fd, hm, F.bindsN hb, fn_mk F S len hbody⟩
def jProp (C : Addr) (sp : Sp) (ta : TE) : TE := fun σ H Q => ta σ H fun x H1 => ∃ a dx fs, x = .ref a ∧ H1 a = some (.ins C dx fs) ∧ sp [.ref a] H1 Q E0
theorem pe_calp {X : Cx} {k : Nat} {C : Addr} {f : Str} {ps : List Str} {sp : Sp} {e : Expr} {pos : Pos} {ta : TE} (he : PE X e ta) (c : Cls X.K C) (cp : CalP X.prog X.w X.K X.mg X.base k C f ps sp) (hr : Room (k + 1) X.A)
    (hab : attributeBase e f X.env (eval e X.env) = eval e X.env := by rfl) : PE X (.Attribute e f pos) (jProp C sp ta) := by
  obtain ⟨p, g, fd, hp, hb, F⟩ := cp.ex
  exact pe_prop he c hp F hr hb .nil pass0 hab
theorem w_prop {C : Addr} {sp : Sp} {ta : TE} {σ : L2.St} {H : Hp} {Q : VK} (h : ta σ H fun x H1 => ∃ a dx fs, x = .ref a ∧ H1 a = some (.ins C dx fs) ∧ sp [.ref a] H1 Q E0) : jProp C sp ta σ H Q := h
end J
namespace J
open PySem PySem.Spec PyProof.Rows L2
/-- list(o.values()) -/
def jListVals (td : TE) : TE := fun σ H Q => td σ H fun x H1 => ∃ a kvs, x = V.ref a ∧ H1 a = some (.dK kvs) ∧ ∀ p, H1 p = none → Q (.ref p) (upd H1 p (.lst (kvs.map (·.2))))
section
variable {X : Cx} {o : Expr} {p pos apos mpos : Pos} {td : TE}
theorem pe_listVals (hc : X.calm = true) (hg : Gl X "list") (hm : X.mg "list" = none) (hd : PE X o td) (hbase : attributeBase o "values" X.env (eval o X.env) = eval o X.env := by rfl) (hline : (apos.endLine == mpos.line) = true := by rfl)
    (hse : starEach [Expr.Call (.Attribute o "values" apos) [] [] mpos] X.env = [(false, eval (Expr.Call (.Attribute o "values" apos) [] [] mpos) X.env)] := by rfl) :
    PE X (.Call (.Name "list" p) [.Call (.Attribute o "values" apos) [] [] mpos] [] pos) (jListVals td) := by
  refine ⟨fun pins s σ H Q I h => ?_⟩
  refine wpAny_Call_Name_kw (ld_blt I hg hm (u := .type "list") (by first | rfl | decide +kernel) ?_ (by first | decide +kernel | decide) (by first | decide +kernel | decide))
  rw [hse]
  refine PySem.callWith_type1 (wpAny_Call_method0_late hbase hline (thn (hd.run pins s σ H _ I h) fun v s1 ⟨x, H1, I1, r1, a, kvs, ex, ha, q⟩ => ?_))
  subst ex
  obtain rfl : v = Value.ref a := r1
  obtain ⟨z, hsys, vs, rel, dof⟩ := dk_of I1.hok ha
  obtain ⟨ep, dat⟩ := dof.dictAt
  have dat' := dat
  obtain ⟨ob, es, ho, ex, hdat, hko, hpr, hnd⟩ := dat'
  refine ⟨"dict", "dict.values", F.plainAttrs_dict, F.slot_dict_values, F.type_dict_values, ⟨ob, ho, ex.1⟩, fun b e => ?_, Calls.callWith_builtin rfl (PySem.evalArgs_none ?_)⟩
  · cases e
    exact ⟨ob, ho, ex.2.1⟩
  refine call_meetsIn F.slot_dict_values ⟨ob, ho, ex.1⟩ F.entry_dict_values (F.args_dict_values_1 _) (meets_dict_values (mixKind X.prog X.w) a hsys) ⟨⟨vs, dof⟩, ?_⟩
  have k1 : ∀ b u, s1.heap.get? b = some u → (s1.heap.push { cls := .type "dict_values", data := .fields #[.ref a] }).get? b = some u := fun b u e => Heap.get?_push_of_some _ e
  have dat1 : (s1.heap.push { cls := .type "dict_values", data := .fields #[.ref a] }).DictAt (mixKind X.prog X.w) a vs ep := dat.keep k1
  have hl : kvs.length = vs.length := KV.length rel
  refine PySem.W.kdl_call (PySem.W.kdl_values (knd := mixKind X.prog X.w) (r := s1.heap.objs.size) (d := a) (kvs := vs) (ep := ep)) (I.ok.hd hc) ⟨⟨_, Heap.get?_push_size _ rfl, rfl, rfl⟩, dat1⟩ (by rw [← hl]; exact z) fun h' tk acc' c' hkeep hS hacc => ?_
  refine ⟨.ref _, _, I1.laid (t' := tk) (o := .lst (kvs.map (·.2))) (fun b u e => hkeep b u (k1 b u e)) (Nat.le_of_lt (by rw [Heap.size_push]; exact Nat.lt_succ_self _)) (show ObjOk X.prog X.w _ _ _ (.lst (kvs.map (·.2))) from ⟨by rw [List.length_map]; exact z, acc'.toList, c', ?_, hS⟩), rfl, q _ (I1.hok.fresh (Nat.le_of_lt (by rw [Heap.size_push]; exact Nat.lt_succ_self _)))⟩
  have el : acc'.toList.length = acc'.size := by simp
  refine vals_of_at (by rw [List.length_map, el, hacc.1, hl]) fun j x w h1 h2 => ?_
  obtain ⟨k, hk⟩ := hacc.2 j w (by rw [← Array.getElem?_toList]; exact h2)
  obtain ⟨x', h3, h4⟩ := KV.at' rel hk
  rw [List.getElem?_map, h3] at h1
  cases h1
  exact h4
end
theorem w_listVals {td : TE} {σ : L2.St} {H : Hp} {Q : VK} (h : td σ H fun x H1 => ∃ a kvs, x = V.ref a ∧ H1 a = some (.dK kvs) ∧ ∀ p, H1 p = none → Q (.ref p) (upd H1 p (.lst (kvs.map (·.2))))) : jListVals td σ H Q := h
theorem w_disp {trs : List (TE × TE)} {σ : L2.St} {H : Hp} {Q : VK} (h : ∀ p, H p = none → tPairs trs σ (upd H p (.dK [])) fun ps H2 => H2 p = some (.dK []) ∧ ∃ kvs : List (Key × V), ps = kvs.map (fun kv => (kV kv.1, kv.2)) ∧ kvs.length ≤ 15 ∧ Q (.ref p) (upd H2 p (.dK (mergeK [] kvs)))) : tDisp trs σ H Q := h
theorem w_pairs0 {σ : L2.St} {H : Hp} {Q : List (V × V) → Hp → Prop} (h : Q [] H) : tPairs [] σ H Q := h
theorem w_pairs {tk tv : TE} {r : List (TE × TE)} {σ : L2.St} {H : Hp} {Q : List (V × V) → Hp → Prop} (h : tk σ H fun x H1 => tv σ H1 fun y H2 => tPairs r σ H2 fun ps H3 => Q ((x, y) :: ps) H3) : tPairs ((tk, tv) :: r) σ H Q := h
end J
namespace J
/-! ### the lifted map, free of the order of the rows -/
def Best (N x : Int) (rs : List (Int × Int)) (y : Int) : Prop := ∃ q ∈ rs, y = lowOf N x q.1 + (q.2 - q.1) % N ∧ ∀ q' ∈ rs, lowOf N x q'.1 ≤ lowOf N x q.1
theorem Best.lift {N x : Int} {rs : List (Int × Int)} {y : Int} (R : Rows N rs) (h : Best N x rs y) : IsLift N rs x y := by
  obtain ⟨⟨b, r⟩, hm, e, mx⟩ := h
  obtain ⟨j, hj, e1⟩ := List.getElem_of_mem hm
  have e2 : rs[j]? = some (b, r) := by rw [List.getElem?_eq_getElem hj, e1]
  exact BestTo.lift R ⟨⟨j, b, r, hj, e2, rfl, e⟩, fun i b' r' _ hi => mx (b', r') (List.mem_of_getElem? hi)⟩
theorem Rows.best {N : Int} {rs : List (Int × Int)} (R : Rows N rs) (x : Int) : ∃ y, Best N x rs y := by
  have : ∀ l : List (Int × Int), l ≠ [] → ∃ q ∈ l, ∀ q' ∈ l, lowOf N x q'.1 ≤ lowOf N x q.1 := by
    intro l
    induction l with
    | nil => intro h; exact absurd rfl h
    | cons a t ih =>
      intro _
      by_cases ht : t = []
      · subst ht; exact ⟨a, List.mem_cons_self .., fun q' hq => by simp at hq; subst hq; exact Int.le_refl _⟩
      · obtain ⟨q, hq, mx⟩ := ih ht
        by_cases c : lowOf N x q.1 ≤ lowOf N x a.1
        · refine ⟨a, List.mem_cons_self .., fun q' h' => ?_⟩
          rcases List.mem_cons.mp h' with z | z
          · subst z; exact Int.le_refl _
          · exact Int.le_trans (mx q' z) c
        · refine ⟨q, List.mem_cons_of_mem _ hq, fun q' h' => ?_⟩
          rcases List.mem_cons.mp h' with z | z
          · subst z; omega
          · exact mx q' z
  obtain ⟨q, hq, mx⟩ := this rs (by intro z; have := R.l1; rw [z] at this; simp at this)
  exact ⟨_, q, hq, rfl, mx⟩
theorem IsLift.best {N x : Int} {rs : List (Int × Int)} {y : Int} (R : Rows N rs) (h : IsLift N rs x y) : Best N x rs y := by
  obtain ⟨z, hz⟩ := R.best x
  rw [IsLift.unique R h (hz.lift R)]
  exact hz
theorem low_mod {N x b : Int} : lowOf N x b = x - (x - b) % N := by
  unfold lowOf
  have := Int.emod_add_mul_ediv (x - b) N
  omega
theorem low_mov {N x b c : Int} : lowOf N (x + c) ((b + c) % N) = lowOf N x b + c := by
  rw [low_mod, low_mod]
  have e : (x + c - (b + c) % N) % N = (x - b) % N := by
    rw [Int.sub_emod_emod]
    congr 1
    omega
  rw [e]
  omega
theorem dif_mov {N b r c : Int} : ((r + c) % N - (b + c) % N) % N = (r - b) % N := by
  rw [Int.sub_emod_emod, Int.emod_sub_emod]
  congr 1
  omega
theorem Best.mov {N x : Int} {rs : List (Int × Int)} {y : Int} (h : Best N x rs y) (c : Int) : Best N (x + c) (rs.map (movP N c)) (y + c) := by
  obtain ⟨q, hm, e, mx⟩ := h
  refine ⟨movP N c q, List.mem_map.mpr ⟨q, hm, rfl⟩, ?_, fun q' h' => ?_⟩
  · show y + c = lowOf N (x + c) ((q.1 + c) % N) + ((q.2 + c) % N - (q.1 + c) % N) % N
    rw [low_mov, dif_mov, e]
    omega
  · obtain ⟨a, ha, rfl⟩ := List.mem_map.mp h'
    show lowOf N (x + c) ((a.1 + c) % N) ≤ lowOf N (x + c) ((q.1 + c) % N)
    rw [low_mov, low_mov]
    have := mx a ha
    omega
theorem Best.perm {N x : Int} {rs rs' : List (Int × Int)} {y : Int} (p : rs.Perm rs') (h : Best N x rs y) : Best N x rs' y := by
  obtain ⟨q, hm, e, mx⟩ := h
  exact ⟨q, p.mem_iff.mp hm, e, fun q' h' => mx q' (p.mem_iff.mpr h')⟩
theorem turned_lift {N c x y : Int} {rs : List (Int × Int)} (R : Rows N rs) (R' : Rows N (turnR N c rs)) (h : IsLift N rs x y) : IsLift N (turnR N c rs) (x + c) (y + c) :=
  (((h.best R).mov c).perm (sortP_perm _).symm).lift R'
/-! ### what the map commutes with -/
def Keeps (N : Int) (rs : List (Int × Int)) (c : Int) : Prop := ∀ x y, IsLift N rs x y → IsLift N rs (x + c) (y + c)
theorem keeps_of {N c : Int} {rs : List (Int × Int)} (R : Rows N rs) (h : ∀ x, 0 ≤ x → x < N → ∀ y, IsLift N rs x y → IsLift N rs (x + c) (y + c)) : Keeps N rs c := by
  intro x y hxy
  have n2 := R.n2
  have m1 := Int.emod_nonneg x (show N ≠ 0 by omega)
  have m2 := Int.emod_lt_of_pos x (show 0 < N by omega)
  have d := Int.emod_add_mul_ediv x N
  have h1 := hxy.shift (-(x / N))
  have e1 : x + N * -(x / N) = x % N := by rw [Int.mul_neg]; omega
  rw [e1] at h1
  have h2 := (h _ m1 m2 _ h1).shift (x / N)
  have e2 : x % N + c + N * (x / N) = x + c := by omega
  have e3 : y + N * -(x / N) + c + N * (x / N) = y + c := by rw [Int.mul_neg]; omega
  rw [e2, e3] at h2
  exact h2
theorem Keeps.zero {N : Int} {rs : List (Int × Int)} : Keeps N rs 0 := fun x y h => by simpa using h
theorem Keeps.add {N c d : Int} {rs : List (Int × Int)} (h1 : Keeps N rs c) (h2 : Keeps N rs d) : Keeps N rs (c + d) := fun x y h => by
  have := h2 _ _ (h1 _ _ h)
  rw [Int.add_assoc, Int.add_assoc] at this
  exact this
theorem Keeps.neg {N c : Int} {rs : List (Int × Int)} (R : Rows N rs) (h : Keeps N rs c) : Keeps N rs (-c) := fun x y hx => by
  obtain ⟨z, hz⟩ := R.lift (x + -c)
  have h1 := h _ _ hz
  have e : x + -c + c = x := by omega
  rw [e] at h1
  have h2 := IsLift.unique R h1 hx
  have e2 : z = y + -c := by omega
  rw [← e2]
  exact hz
theorem Keeps.mul {N c : Int} {rs : List (Int × Int)} (R : Rows N rs) (h : Keeps N rs c) (k : Int) : Keeps N rs (k * c) := by
  have nat : ∀ n : Nat, Keeps N rs ((n : Int) * c) := by
    intro n
    induction n with
    | zero => simpa using Keeps.zero
    | succ n ih =>
      have := ih.add h
      have e : ((n + 1 : Nat) : Int) * c = (n : Int) * c + c := by rw [Int.natCast_add, Int.add_mul]; simp
      rw [e]; exact this
  rcases Int.le_total 0 k with z | z
  · have e : ((k.toNat : Nat) : Int) = k := by omega
    rw [← e]; exact nat _
  · have e : k * c = -((((-k).toNat : Nat) : Int) * c) := by
      have e2 : (((-k).toNat : Nat) : Int) = -k := by omega
      rw [e2, Int.neg_mul]; omega
    rw [e]; exact (nat _).neg R
theorem Keeps.mod {N c d : Int} {rs : List (Int × Int)} (R : Rows N rs) (h1 : Keeps N rs c) (h2 : Keeps N rs d) : Keeps N rs (c % d) := by
  have e : c % d = c + (-(c / d)) * d := by
    have := Int.emod_add_mul_ediv c d
    have e2 : (-(c / d)) * d = -(d * (c / d)) := by rw [Int.neg_mul, Int.mul_comm]
    omega
  rw [e]
  exact h1.add (h2.mul R _)
theorem Keeps.round {N : Int} {rs : List (Int × Int)} : Keeps N rs N := fun x y h => by simpa using h.shift 1
theorem keeps_of_turn {N c : Int} {rs : List (Int × Int)} (R : Rows N rs) (h : turnR N c rs = rs) : Keeps N rs c := fun x y hx => by
  have := turned_lift (c := c) R (by rw [h]; exact R) hx
  rw [h] at this
  exact this
/-! a stretch is told by its map -/
theorem stretch_unique {N : Int} {rs : List (Int × Int)} (R : Rows N rs) {i j : Nat} {b r e c s f q p u : Int} (h1 : rs[i]? = some (b, r)) (h2 : (endsL N rs)[i]? = some e) (h3 : b + N * q ≤ u) (h4 : u < e + N * q)
    (k1 : rs[j]? = some (c, s)) (k2 : (endsL N rs)[j]? = some f) (k3 : c + N * p ≤ u) (k4 : u < f + N * p) : i = j ∧ q = p := by
  obtain ⟨b0, r0, h0⟩ := R.first
  have n2 := R.n2
  have a := R.end_le h0 h1 h2
  have a' := R.end_le h0 k1 k2
  have eq : q = p := quot_eq (N := N) (b0 := b0) (x := u) (by omega) (by omega) (by omega)
  subst eq
  refine ⟨?_, rfl⟩
  rcases Nat.lt_trichotomy i j with z | z | z
  · have := ends_le_begin R z h2 k1; omega
  · exact z
  · have := ends_le_begin R z k2 h1; omega
theorem row_ends {N : Int} {rs : List (Int × Int)} (R : Rows N rs) {q : Int × Int} (h : q ∈ rs) : ∃ (i : Nat) (e : Int), rs[i]? = some q ∧ (endsL N rs)[i]? = some e := by
  obtain ⟨i, hi, e⟩ := List.getElem_of_mem h
  have hl : i < (endsL N rs).length := by rw [endsL_length R.l1]; exact hi
  exact ⟨i, (endsL N rs)[i], by rw [List.getElem?_eq_getElem hi, e], by simp [hl]⟩
/-- at a begin the map jumps -/
theorem jump {N : Int} {rs : List (Int × Int)} (R : Rows N rs) {b r : Int} (h : (b, r) ∈ rs) : IsLift N rs b (b + (r - b) % N) ∧ ¬ IsLift N rs (b - 1) (b + (r - b) % N) := by
  obtain ⟨i, e, h1, h2⟩ := row_ends R h
  obtain ⟨b0, r0, h0⟩ := R.first
  have n2 := R.n2
  have a := R.end_le h0 h1 h2
  have st := R.st i b r e h1 h2
  have m := Int.emod_nonneg (r - b) (show N ≠ 0 by omega)
  refine ⟨⟨i, b, r, e, 0, h1, h2, by simp, by simp; omega, by simp⟩, fun k => ?_⟩
  obtain ⟨j, c, s, f, p, k1, k2, k3, k4, k5⟩ := k
  have a' := R.end_le h0 k1 k2
  have st' := R.st j c s f k1 k2
  have m' := Int.emod_nonneg (s - c) (show N ≠ 0 by omega)
  obtain ⟨e1, e2⟩ := stretch_unique R (u := b + (r - b) % N) (q := 0) h1 h2 (by simp; omega) (by simp; omega) k1 k2 (p := p) (by omega) (by omega)
  subst e1 e2
  rw [h1] at k1; cases k1
  omega
/-- where the map jumps, there is a begin -/
theorem begin_of_jump {N : Int} {rs : List (Int × Int)} (R : Rows N rs) {u y : Int} (h : IsLift N rs u y) (hn : ¬ IsLift N rs (u - 1) y) : (u % N, y % N) ∈ rs := by
  have ry := IsLift.rest R h
  obtain ⟨i, b, r, e, q, h1, h2, h3, h4, h5⟩ := h
  have n2 := R.n2
  have bd := R.bd _ (List.mem_of_getElem? h1)
  simp at bd
  have hu : u = b + N * q := by
    rcases (show u = b + N * q ∨ b + N * q ≤ u - 1 by omega) with z | z
    · exact z
    · exact absurd ⟨i, b, r, e, q, h1, h2, z, by omega, h5⟩ hn
  have e1 : u % N = b := by rw [hu, Int.add_mul_emod_self_left]; exact Int.emod_eq_of_lt bd.1 bd.2.1
  have e2 : y % N = r := by
    rw [h5, Int.add_mul_emod_self_left, Int.add_emod_emod]
    have e1 : b + (r - b) = r := by omega
    rw [e1]
    exact Int.emod_eq_of_lt bd.2.2.1 bd.2.2.2
  rw [e1, e2]
  exact List.mem_of_getElem? h1
theorem Keeps.mem {N c : Int} {rs : List (Int × Int)} (R : Rows N rs) (h : Keeps N rs c) {q : Int × Int} (hq : q ∈ rs) : movP N c q ∈ rs := by
  obtain ⟨b, r⟩ := q
  obtain ⟨j1, j2⟩ := jump R hq
  have h1 := h _ _ j1
  have h2 : ¬ IsLift N rs (b + c - 1) (b + (r - b) % N + c) := fun z => by
    have := (h.neg R) _ _ z
    have e1 : b + c - 1 + -c = b - 1 := by omega
    have e2 : b + (r - b) % N + c + -c = b + (r - b) % N := by omega
    rw [e1, e2] at this
    exact j2 this
  have := begin_of_jump R h1 h2
  have e : (b + (r - b) % N + c) % N = (r + c) % N := by
    rw [← Int.emod_add_emod, Int.add_emod_emod, Int.emod_add_emod]
    congr 1
    omega
  rw [e] at this
  exact this
theorem movP_back {N c : Int} {q : Int × Int} (h : 0 ≤ q.1 ∧ q.1 < N ∧ 0 ≤ q.2 ∧ q.2 < N) : movP N c (movP N (-c) q) = q := by
  unfold movP
  simp only [Int.emod_add_emod]
  have e1 : q.1 + -c + c = q.1 := by omega
  have e2 : q.2 + -c + c = q.2 := by omega
  rw [e1, e2, Int.emod_eq_of_lt h.1 h.2.1, Int.emod_eq_of_lt h.2.2.1 h.2.2.2]
theorem Rows.nodup {N : Int} {rs : List (Int × Int)} (R : Rows N rs) : rs.Nodup := R.asc.imp fun h e => by rw [e] at h; omega
theorem movP_inj {N c : Int} {q p : Int × Int} (hq : 0 ≤ q.1 ∧ q.1 < N ∧ 0 ≤ q.2 ∧ q.2 < N) (hp : 0 ≤ p.1 ∧ p.1 < N ∧ 0 ≤ p.2 ∧ p.2 < N) (e : movP N c q = movP N c p) : q = p := by
  have h1 := movP_back (c := -c) hq
  have h2 := movP_back (c := -c) hp
  rw [Int.neg_neg] at h1 h2
  rw [← h1, ← h2, e]
theorem turn_of_keeps {N c : Int} {rs : List (Int × Int)} (R : Rows N rs) (h : Keeps N rs c) : turnR N c rs = rs := by
  have hn := h.neg R
  have nd : (rs.map (movP N c)).Nodup := by
    refine List.pairwise_map.mpr ?_
    refine List.Pairwise.imp_of_mem ?_ R.nodup
    intro a b ha hb hne e
    exact hne (movP_inj (R.bd a ha) (R.bd b hb) e)
  have pm : (rs.map (movP N c)).Perm rs := by
    refine (List.perm_ext_iff_of_nodup nd R.nodup).mpr fun q => ⟨fun hq => ?_, fun hq => ?_⟩
    · obtain ⟨a, ha, rfl⟩ := List.mem_map.mp hq
      exact h.mem R ha
    · exact List.mem_map.mpr ⟨movP N (-c) q, hn.mem R hq, movP_back (R.bd q hq)⟩
  unfold turnR
  rw [sortP_of_perm pm]
  exact sortP_id R.sorted
theorem keeps_iff {N c : Int} {rs : List (Int × Int)} (R : Rows N rs) : Keeps N rs c ↔ turnR N c rs = rs := ⟨turn_of_keeps R, keeps_of_turn R⟩
/-! ### the period -/
theorem nodup_len {α : Type} [BEq α] [LawfulBEq α] : ∀ {l m : List α}, l.Nodup → (∀ x ∈ l, x ∈ m) → l.length ≤ m.length
  | [], _, _, _ => Nat.zero_le _
  | a :: l, m, nd, h => by
    have nd' := List.nodup_cons.mp nd
    have ha := h a (List.mem_cons_self ..)
    have := nodup_len (l := l) (m := m.erase a) nd'.2 fun x hx => (List.mem_erase_of_ne (by intro z; subst z; exact nd'.1 hx)).mpr (h x (List.mem_cons_of_mem _ hx))
    rw [List.length_erase_of_mem ha] at this
    have : 0 < m.length := List.length_pos_of_mem ha
    rw [List.length_cons]
    omega
theorem many_le {N m s : Int} {rs : List (Int × Int)} (R : Rows N rs) (h : Keeps N rs s) (h0 : 0 < s) (hm : m * s = N) : m ≤ rs.length := by
  have n2 := R.n2
  have m0 : 0 < m := by
    rcases (show 0 < m ∨ m ≤ 0 by omega) with z | z
    · exact z
    · have := Int.mul_nonpos_of_nonpos_of_nonneg z (Int.le_of_lt h0); omega
  obtain ⟨b0, r0, h00⟩ := R.first
  have hq := List.mem_of_getElem? h00
  have bd := R.bd _ hq
  simp at bd
  have nd : ((List.range m.toNat).map fun (k : Nat) => movP N ((k : Int) * s) (b0, r0)).Nodup := by
    refine List.pairwise_map.mpr ?_
    refine List.Pairwise.imp_of_mem ?_ (List.pairwise_lt_range (n := m.toNat))
    intro i j hi hj hij e
    have e1 : (b0 + (i : Int) * s) % N = (b0 + (j : Int) * s) % N := congrArg Prod.fst e
    have hj2 : (j : Int) < m := by have := List.mem_range.mp hj; omega
    have l1 : (i : Int) * s < (j : Int) * s := Int.mul_lt_mul_of_pos_right (by omega) h0
    have l2 : (j : Int) * s < m * s := Int.mul_lt_mul_of_pos_right hj2 h0
    have l3 : 0 ≤ (i : Int) * s := Int.mul_nonneg (by omega) (Int.le_of_lt h0)
    exact mod_ne (N := N) (a := b0 + i * s) (b := b0 + j * s) (by omega) (by omega) e1
  have := nodup_len nd fun q hq' => by
    obtain ⟨k, _, rfl⟩ := List.mem_map.mp hq'
    exact (h.mul R k).mem R hq
  rw [List.length_map, List.length_range] at this
  omega
theorem least_div {N : Int} {rs : List (Int × Int)} (R : Rows N rs) : ∀ (n : Nat), 0 < n → Keeps N rs n → ∃ d : Int, 0 < d ∧ d ≤ n ∧ N % d = 0 ∧ Keeps N rs d := by
  intro n
  induction n using Nat.strongRecOn with
  | ind n ih =>
    intro h0 hk
    have m1 := Int.emod_nonneg N (show (n : Int) ≠ 0 by omega)
    have m2 := Int.emod_lt_of_pos N (show 0 < (n : Int) by omega)
    by_cases hz : N % (n : Int) = 0
    · exact ⟨n, by omega, Int.le_refl _, hz, hk⟩
    · have e : (((N % (n : Int)).toNat : Nat) : Int) = N % (n : Int) := by omega
      obtain ⟨d, d0, d1, d2, d3⟩ := ih (N % (n : Int)).toNat (by omega) (by omega) (by rw [e]; exact Keeps.mod R Keeps.round hk)
      exact ⟨d, d0, by omega, d2, d3⟩
theorem timesL_mem {N : Int} {rs : List (Int × Int)} {n : Nat} {m : Int} : m ∈ timesL N rs n ↔ 1 ≤ m ∧ m ≤ n ∧ fits N rs m = true := by
  unfold timesL
  rw [List.mem_filter]
  constructor
  · rintro ⟨h1, h2⟩
    obtain ⟨i, hi, e⟩ := List.mem_map.mp h1
    have := List.mem_range.mp hi
    exact ⟨by omega, by omega, h2⟩
  · rintro ⟨h1, h2, h3⟩
    exact ⟨List.mem_map.mpr ⟨(m - 1).toNat, List.mem_range.mpr (by omega), by omega⟩, h3⟩
theorem timesL_asc {N : Int} {rs : List (Int × Int)} {n : Nat} : (timesL N rs n).Pairwise (· < ·) := by
  unfold timesL
  refine List.Pairwise.filter _ (List.pairwise_map.mpr (List.pairwise_lt_range.imp fun h => by omega))
theorem last_max {l : List Int} (h : l.Pairwise (· < ·)) {m : Int} (hm : m ∈ l) : m ≤ l.getLast?.getD 1 := by
  have ne : l ≠ [] := List.ne_nil_of_mem hm
  rw [List.getLast?_eq_some_getLast ne, Option.getD_some]
  have e := List.dropLast_concat_getLast ne
  rw [← e] at hm h
  rcases List.mem_append.mp hm with z | z
  · have := (List.pairwise_append.mp h).2.2 m z (l.getLast ne) (List.mem_singleton.mpr rfl)
    omega
  · rw [List.mem_singleton.mp z]; exact Int.le_refl _
/-- the period: a divisor that the map commutes with, and the least one -/
theorem period_ok {N : Int} {rs : List (Int × Int)} (R : Rows N rs) : 0 < perR N rs ∧ perR N rs ≤ N ∧ N % perR N rs = 0 ∧ Keeps N rs (perR N rs) ∧ ∀ c, 0 < c → Keeps N rs c → perR N rs ≤ c := by
  have n2 := R.n2
  have ne := timesL_ne R
  have hm : (timesL N rs rs.length).getLast?.getD 1 ∈ timesL N rs rs.length := by
    rw [List.getLast?_eq_some_getLast ne]
    exact List.getLast_mem ne
  have mx := fun (m : Int) (h : m ∈ timesL N rs rs.length) => last_max timesL_asc h
  unfold perR
  generalize (timesL N rs rs.length).getLast?.getD 1 = m at hm mx
  obtain ⟨m1, m2, m3⟩ := timesL_mem.mp hm
  have f : N % m = 0 ∧ turnR N (N / m) rs = rs := by unfold fits at m3; simpa using m3
  have hN : N = m * (N / m) := by have := Int.emod_add_mul_ediv N m; omega
  have p0 : 0 < N / m := by
    rcases (show 0 < N / m ∨ N / m ≤ 0 by omega) with z | z
    · exact z
    · have := Int.mul_nonpos_of_nonneg_of_nonpos (show 0 ≤ m by omega) z; omega
  have hle : N / m ≤ N := Int.ediv_le_self _ (by omega)
  refine ⟨p0, hle, ?_, keeps_of_turn R f.2, fun c c0 hc => ?_⟩
  · have e : m * (N / m) % (N / m) = 0 := Int.mul_emod_left ..
    rw [← hN] at e
    exact e
  have ec : ((c.toNat : Nat) : Int) = c := by omega
  obtain ⟨d, d0, d1, d2, d3⟩ := least_div R c.toNat (by omega) (by rw [ec]; exact hc)
  have hd : N = d * (N / d) := by have := Int.emod_add_mul_ediv N d; omega
  have k0 : 0 < N / d := by
    rcases (show 0 < N / d ∨ N / d ≤ 0 by omega) with z | z
    · exact z
    · have := Int.mul_nonpos_of_nonneg_of_nonpos (show 0 ≤ d by omega) z; omega
  have kl := many_le (m := N / d) R d3 d0 (by rw [Int.mul_comm]; exact hd.symm)
  have e2 : N / (N / d) = d := by
    have : d * (N / d) / (N / d) = d := Int.mul_ediv_cancel _ (by omega)
    rw [← hd] at this
    exact this
  have fd : fits N rs (N / d) = true := by
    unfold fits
    have e1 : N % (N / d) = 0 := by
      have e : d * (N / d) % (N / d) = 0 := Int.mul_emod_left ..
      rw [← hd] at e
      exact e
    simp [e1, e2, turn_of_keeps R d3]
  have le := mx _ (timesL_mem.mpr ⟨by omega, kl, fd⟩)
  have : N / m ≤ d := by
    rcases (show N / m ≤ d ∨ d + 1 ≤ N / m by omega) with z | z
    · exact z
    · have h1 : (N / d) * (d + 1) ≤ m * (N / m) := Int.le_trans (Int.mul_le_mul_of_nonneg_right le (by omega)) (Int.mul_le_mul_of_nonneg_left z (by omega))
      rw [← hN, Int.mul_add] at h1
      have : (N / d) * d = N := by rw [Int.mul_comm]; exact hd.symm
      omega
  omega
theorem period_dvd {N c : Int} {rs : List (Int × Int)} (R : Rows N rs) : Keeps N rs c ↔ c % perR N rs = 0 := by
  obtain ⟨p0, p1, p2, p3, p4⟩ := period_ok R
  constructor
  · intro h
    have k := Keeps.mod R h p3
    have m1 := Int.emod_nonneg c (show perR N rs ≠ 0 by omega)
    have m2 := Int.emod_lt_of_pos c p0
    rcases (show c % perR N rs = 0 ∨ 0 < c % perR N rs by omega) with z | z
    · exact z
    · have := p4 _ z k; omega
  · intro h
    have e : c = (c / perR N rs) * perR N rs := by
      have := Int.emod_add_mul_ediv c (perR N rs)
      rw [Int.mul_comm]; omega
    rw [e]
    exact p3.mul R _

open PySem PySem.Spec PyProof.Rows L2
theorem tfs_is_even (N : Int) (t l : Addr) (p : Int) : (tfs N t l p).lookup ("is_even" : Str) = none := by kernel_rfl
end J
namespace J
open PySem PySem.Spec PyProof.Rows L2
/-! ### o[i] by an own __getitem__ -/
def jGet (C : Addr) (sp : Sp) (ta tb : TE) : TE := fun σ H Q => ta σ H fun x H1 => tb σ H1 fun y H2 => ∃ a dx fs, x = .ref a ∧ H2 a = some (.ins C dx fs) ∧ sp [.ref a, y] H2 Q E0
section
variable {X : Cx} {k : Nat} {C f a dx : Addr} {fs : List (Str × V)} {fd : FuncData} {ps : List Str} {sp : Sp}
theorem sub_own {pins : List (Addr × Obj)} {σ : L2.St} {H : Hp} {s : Shared} {Q : VK} {value slice : Expr} {i : Value} {y : V} (I : Inv X pins σ H s) (ea : H a = some (.ins C dx fs)) (hm : Meth X.K C "__getitem__" f) (hq : SubF X.K C)
    (F : FnOk X.prog X.w X.K X.mg X.base CX0 k f fd ps sp) (hr : Room (k + 1) X.A) (hb : Binds X.K fd ps []) (ry : RelV y i) (h : sp [.ref a, y] H Q E0)
    (hsl : subscripted slice true (.ref a) i = runValue (.builtin "lifetime.subscript" ⟨[.ref a, i], []⟩)) :
    wpAny (model X.prog X.w) X.A (PyProof.Rows.subscriptTail value slice (.ref a) i) (EP X pins σ Q) X.xe s := by
  obtain ⟨mA, O, _, _, _, _⟩ := ins_get I.hok ea
  obtain ⟨od, J, _⟩ := O.look
  have hf := hq f hm.at_
  have r : Vals [.ref a, y] [.ref a, i] := .cons rfl (.cons ry .nil)
  have hl : ([Value.ref a, i] ++ []).length = ps.length := by
    rw [← F.len _ _ _ _ h]
    rfl
  have key : wpAny (model X.prog X.w) X.A.in1 (call (.ref f) [.ref a, i]) (EP X pins σ Q) X.xe s := by
    refine wpAny_call (codeAny_mono (F.run X.A.in1 X.stack s H ⟨[.ref a, i], []⟩ ([.ref a, i] ++ []) [.ref a, y] Q E0 hr.in1 I.env0.in1 (hb _ [.ref a, i] I.kIn hl) r h) fun r s' hq' => ?_)
    cases r with
    | error er => exact pass0 (X := X) pins σ H s er s' I hq'
    | ok fl =>
      cases fl with
      | ret u => exact I.after hq'
      | next => exact False.elim hq'
      | brk => exact False.elim hq'
      | cont => exact False.elim hq'
  unfold PySem.W.fnIn at hf
  split at hf
  · rename_i e
    unfold PyProof.Rows.subscriptTail getitemInPython
    refine wpAny_bind (wpAny_bind (wpAny_bind (J.type.here ((PySem.W.looks_findIn I.kIn hm.at_).here ?_))))
    dsimp only
    refine wpAny_bind (wpAny_load (I.kIn _ _ e) (wpAny_pure ?_))
    dsimp only
    rw [hsl]
    refine wpAny_bind (wpAny_runValue (codeAny_builtin PySem.W.entry_sub ?_))
    unfold Builtin.«lifetime.subscript»
    refine wpAny_bind (PySem.W.special_fn I.kIn J hm.at_ (beq_iff_eq.mp hm.fn) (wpAny_mono key (fun v s' z => ?_) fun _ _ z => z))
    refine wpAny_pure ?_
    show wpAny (model X.prog X.w) X.A (letTemporaryGo value (.ref a) v >>= fun _ => pure v) (EP X pins σ Q) X.xe s'
    exact wpAny_bind (wpAny_letTemporaryGo (wpAny_pure z))
  · cases hf
variable {m qual : Str} {st : Stmt} {o i : Expr} {pos : Pos} {ta tb : TE}
theorem pe_calG {qual : Str} (ho : PE X o ta) (hi : PE X i tb) (cm : CalM X.prog X.w X.K X.mg X.base k C "__getitem__" qual st ps sp) (hq : SubF X.K C) (hr : Room (k + 1) X.A)
    (hsl : ∀ a j, subscripted i true (.ref a) j = runValue (.builtin "lifetime.subscript" ⟨[.ref a, j], []⟩) := by intro _ _; rfl) : PE X (.Subscript o i pos) (jGet C sp ta tb) := by
  obtain ⟨f, fd, hm, hb, F, _⟩ := cm.ex
  refine ⟨fun pins s σ H Q I h => ?_⟩
  refine PyProof.Rows.Subscript_ (binT ho hi I h fun v u s2 x y H2 I2 rx ry q => ?_)
  obtain ⟨a, dx, fs, ex, ea, q⟩ := q
  subst ex
  obtain rfl : v = Value.ref a := rx
  exact sub_own I2 ea hm hq F hr hb ry q (hsl a u)
end
theorem w_get {C : Addr} {sp : Sp} {ta tb : TE} {σ : L2.St} {H : Hp} {Q : VK} (h : ta σ H fun x H1 => tb σ H1 fun y H2 => ∃ a dx fs, x = .ref a ∧ H2 a = some (.ins C dx fs) ∧ sp [.ref a, y] H2 Q E0) : jGet C sp ta tb σ H Q := h
/-! ### lcm -/
def rLcm : List V → Hp → VK → Prop := fun vs H Q => ∃ a b : Int, vs = [.int a, .int b] ∧ a.natAbs < 2 ^ 64 ∧ b.natAbs < 2 ^ 64 ∧ Q (.int ((Nat.lcm a.natAbs b.natAbs : Nat) : Int)) H
theorem cr_lcm {X : Cx} : CallR X (.builtin "math.lcm") rLcm := by
  intro pins s σ H vs us Q I r h
  obtain ⟨a, b, rfl, h1, h2, q⟩ := h
  obtain ⟨t, u, rfl⟩ := Vals.int2 r
  exact PySem.W.mc_lcm h1 h2 fun _ => ⟨.int _, H, I.tok _, ⟨_, rfl⟩, q⟩

/-! ### dicts -/
section
variable {td ty tv : TE} {σ : L2.St} {H : Hp} {Q : VK} {D : Ends}
theorem w_dnewK (h : ∀ p, H p = none → Q (.ref p) (upd H p (.dK []))) : tDNewK σ H Q := h
theorem w_dput (h : tv σ H fun v H1 => td σ H1 fun x H2 => ty σ H2 fun y H3 => ∃ a H4, x = .ref a ∧ DPut H3 a y v H4 ∧ D.nx σ H4) : sDPut td ty tv D σ H := h
theorem w_dget (h : td σ H fun x H1 => ty σ H1 fun y H2 => ∃ a v, x = .ref a ∧ DGet H2 a y (some v) ∧ Q v H2) : tDGet td ty σ H Q := h
theorem w_din (h : ty σ H fun y H1 => td σ H1 fun x H2 => ∃ a o, x = .ref a ∧ DGet H2 a y o ∧ Q (.bl o.isSome) H2) : tDIn ty td σ H Q := h
theorem w_dnin (h : ty σ H fun y H1 => td σ H1 fun x H2 => ∃ a o, x = .ref a ∧ DGet H2 a y o ∧ Q (.bl (!o.isSome)) H2) : tDNotIn ty td σ H Q := h
end
/-! ### a constructor with defaults -/
abbrev BindD (x qual : Str) (st : Stmt) (ps : List Str) (n j dn : Nat) : Prop := ∀ (T : Addr) (kV doc pm : Value) (an : Option Addr) (cdv ct : Value) (us its : List Value), us.length = n → its.length = dn →
  ∃ k, bindArgs (PySem.W.fnOf x qual (defArgs st) (defBody st) (defScope st) (.ref T) kV doc pm an cdv ct) ⟨us, []⟩ = seqItems? (.ref T) >>= k ∧ k (some its.toArray) = pure (ps.zip (us ++ its.drop j))
structure CalID (P : Program) (w : World) (K : PySem.W.Frag) (mg : Str → Option Value) (base : Heap) (k : Nat) (C : Addr) (x : Str) (ps : List Str) (dvs : List V) (sp : Sp) : Prop where
  ex : ∃ f fd ds, Mk K C f ∧ mg x = some (.ref C) ∧ Vals dvs ds ∧ Binds K fd ps ds ∧ FnOk P w K mg base CX0 k f fd ps sp
theorem calid_mk {P : Program} {w : World} {K : PySem.W.Frag} {mg : Str → Option Value} {base : Heap} {C : Addr} {x qual : Str} {st : Stmt} {dvs : List V} {f : Addr} {N ps : List Str} {k : Nat} {sp : Sp} (F : SrcD K "__init__" qual st dvs f) (M : Mk K C f) (hm : mg x = some (.ref C)) (S : FnScope N ps (defScope st))
    (n j : Nat) (hd : dvs ≠ []) (hn : n + (dvs.length - j) = ps.length) (hb : BindD "__init__" qual st ps n j dvs.length)
    (len : ∀ vs H Q E, sp vs H Q E → vs.length = ps.length) (hbody : BodyOk P w K mg base N qual st f k sp) : CalID P w K mg base (k + 1) C x ps (dvs.drop j) sp := by
  obtain ⟨fd, F⟩ := F
  obtain ⟨ds, rd, b⟩ := F.binds1 n j hd hn hb
  exact ⟨f, fd, ds, M, hm, rd, b, F.ok S len fun cdv A outer s H vs Q E hr hsp => by
    obtain ⟨t, h, q⟩ := hbody cdv A outer s H vs Q E hr hsp
    exact ⟨t, h.nox, q⟩⟩
def jMakeD (C : Addr) (sp : Sp) (dvs : List V) (t : TA) : TE := fun σ H Q => t σ H fun vs H1 => ∀ x dx, H1 x = none → H1 dx = none → dx ≠ x →
  sp (.ref x :: (vs ++ dvs)) (upd (upd H1 dx (.own x)) x (.ins C dx [])) (fun v H2 => v = .non ∧ Q (.ref x) H2) E0
theorem pe_calID {X : Cx} {k : Nat} {C : Addr} {x : Str} {ps : List Str} {dvs : List V} {sp : Sp} {p pos : Pos} {e : Expr} {es : List Expr} {t : TA} (c : CalID X.prog X.w X.K X.mg X.base k C x ps dvs sp) (hr : Room (k + 1) X.A) (ha : PA X (e :: es) t) (hgl : Gl X x := by rfl) (hdb : (x == ("__debug__" : Str)) = false := by decide)
    (he : starEach (e :: es) X.env = (false, eval e X.env) :: starEach es X.env := by rfl) (hpl : (backTo pos (starEach es X.env)).any (·.1) = false := by rfl) :
    PE X (.Call (.Name x p) (e :: es) [] pos) (jMakeD C sp dvs t) := by
  obtain ⟨f, fd, ds, M, hm, rd, hb, F⟩ := c.ex
  exact pe_make (pos := pos) (p := p) M F hr hgl hm hb rd pass0 ha hdb he hpl
theorem w_makeD {C : Addr} {sp : Sp} {dvs : List V} {t : TA} {σ : L2.St} {H : Hp} {Q : VK} (h : t σ H fun vs H1 => ∀ x dx, H1 x = none → H1 dx = none → dx ≠ x →
  sp (.ref x :: (vs ++ dvs)) (upd (upd H1 dx (.own x)) x (.ins C dx [])) (fun v H2 => v = .non ∧ Q (.ref x) H2) E0) : jMakeD C sp dvs t σ H Q := h
/-! ### a Part as an object -/
abbrev CP (K : PySem.W.Frag) : Addr := He.ga K "Part"
def pfs (N : Int) (d : Addr) : List (Str × V) := [("around", .int N), ("_turnings", .ref d), ("_widths", .non)]
def pfs1 (N : Int) : List (Str × V) := [("around", .int N)]
def pfs2 (N : Int) (d : Addr) : List (Str × V) := [("around", .int N), ("_turnings", .ref d)]
theorem pf1 (N : Int) : putF "around" (.int N) [] = pfs1 N := rfl
theorem pf2 (N : Int) (d : Addr) : putF "_turnings" (.ref d) (pfs1 N) = pfs2 N d := by kernel_rfl
theorem pf3 (N : Int) (d : Addr) : putF "_widths" .non (pfs2 N d) = pfs N d := by kernel_rfl
theorem pfs_around (N : Int) (d : Addr) : (pfs N d).lookup ("around" : Str) = some (.int N) := by kernel_rfl
theorem pfs_turnings (N : Int) (d : Addr) : (pfs N d).lookup ("_turnings" : Str) = some (.ref d) := by kernel_rfl
theorem pfs_widths (N : Int) (d : Addr) : (pfs N d).lookup ("_widths" : Str) = some .non := by kernel_rfl
abbrev Rws := List (Int × Int)
/-- an argument of Part: None or a Turning -/
def TArg (C : Addr) (H : Hp) (N : Int) (v : V) : Option Rws → Prop
  | none => v = .non
  | some rs => ∃ t, v = .ref t ∧ TurnAt C H t N rs
theorem TArg.same {C : Addr} {H H' : Hp} {N : Int} {v : V} {o : Option Rws} (e : Same H H') (h : TArg C H N v o) : TArg C H' N v o := by
  cases o with
  | none => exact h
  | some rs => obtain ⟨t, e1, h1⟩ := h; exact ⟨t, e1, h1.same e⟩
/-- the table of words: push first -/
def tabL (sq pu : Option Rws) : List (Str × Rws) := (match pu with | some r => [("push", r)] | none => []) ++ (match sq with | some r => [("squeeze", r)] | none => [])
abbrev Ent (C : Addr) (H : Hp) (N : Int) (p : Key × V) (q : Str × Rws) : Prop := p.1 = .inr q.1 ∧ ∃ t, p.2 = .ref t ∧ TurnAt C H t N q.2
def PartAt (K : PySem.W.Frag) (H : Hp) (x : Addr) (N : Int) (sq pu : Option Rws) : Prop :=
  ∃ dx d kvs, H x = some (.ins (CP K) dx (pfs N d)) ∧ H d = some (.dK kvs) ∧ Paired (Ent (CT K) H N) kvs (tabL sq pu)
theorem PartAt.same {K : PySem.W.Frag} {H H' : Hp} {x : Addr} {N : Int} {sq pu : Option Rws} (e : Same H H') (h : PartAt K H x N sq pu) : PartAt K H' x N sq pu := by
  obtain ⟨dx, d, kvs, h1, h2, h3⟩ := h
  exact ⟨dx, d, kvs, e _ _ h1, e _ _ h2, Paired.mapP h3 fun p q ⟨e1, t, e2, h⟩ => ⟨e1, t, e2, h.same e⟩⟩
theorem tv_turn {K : PySem.W.Frag} {H : Hp} {v : V} {N : Int} {o : Option Rws} {C : Addr} (h : TArg C H N v o) : (o = none ∧ v = .non) ∨ ∃ t rs, o = some rs ∧ v = .ref t ∧ TurnAt C H t N rs := by
  cases o with
  | none => exact .inl ⟨rfl, h⟩
  | some rs => obtain ⟨t, e1, h1⟩ := h; exact .inr ⟨t, rs, rfl, e1, h1⟩
theorem tab_word {sq pu : Option Rws} {w : Str} {rs : Rws} (h : (w, rs) ∈ tabL sq pu) : (w = "push" ∧ pu = some rs) ∨ (w = "squeeze" ∧ sq = some rs) := by
  unfold tabL at h
  rcases List.mem_append.mp h with h | h
  · cases pu with
    | none => cases h
    | some r => simp at h; exact .inl ⟨h.1, by rw [h.2]⟩
  · cases sq with
    | none => cases h
    | some r => simp at h; exact .inr ⟨h.1, by rw [h.2]⟩
theorem val1 {v : V} {w : Str} (k : Str) (e : k = w) : valV [((.inr k : Key), v)] (.inr w) = some v := by subst e; simp [valV]
theorem ent_get {C : Addr} {H : Hp} {N : Int} {sq pu : Option Rws} {kvs : List (Key × V)} {w : Str} {rs : Rws} (he : Paired (Ent C H N) kvs (tabL sq pu)) (h : (w, rs) ∈ tabL sq pu) : ∃ t, valV kvs (.inr w) = some (.ref t) ∧ TurnAt C H t N rs := by
  have ne : (("push" : Str) = "squeeze") = False := eq_false (by decide +kernel)
  rcases tab_word h with ⟨rfl, rfl⟩ | ⟨rfl, rfl⟩
  · unfold tabL at he
    cases he with
    | @cons p q ps qs h1 t1 =>
      obtain ⟨e1, t, e2, ht⟩ := h1
      obtain ⟨p1, p2⟩ := p
      dsimp only at e1 e2
      subst e1 e2
      exact ⟨t, by simp [valV], ht⟩
  · unfold tabL at he
    cases pu with
    | none =>
      cases he with
      | @cons p q ps qs h1 t1 =>
        obtain ⟨e1, t, e2, ht⟩ := h1
        obtain ⟨p1, p2⟩ := p
        dsimp only at e1 e2
        subst e1 e2
        exact ⟨t, by simp [valV], ht⟩
    | some r =>
      cases he with
      | @cons p q ps qs h1 t1 =>
        obtain ⟨e1, t, e2, ht⟩ := h1
        obtain ⟨p1, p2⟩ := p
        dsimp only at e1 e2
        subst e1 e2
        cases t1 with
        | @cons p' q' ps' qs' h1' t1' =>
          obtain ⟨e1', t', e2', ht'⟩ := h1'
          obtain ⟨p1', p2'⟩ := p'
          dsimp only at e1' e2'
          subst e1' e2'
          refine ⟨t', ?_, ht'⟩
          have : ¬ (("squeeze" : Str) = "push") := by decide +kernel
          have : ¬ (("push" : Str) = "squeeze") := by decide +kernel
          simp [valV, *]
/-! ### the law's table: squeeze first -/
def tabS (sq pu : Option Rws) : List (Str × Rws) := (match sq with | some r => [("squeeze", r)] | none => []) ++ (match pu with | some r => [("push", r)] | none => [])
abbrev LE (H : Hp) (N : Int) (p : Key × V) (q : Str × Rws) : Prop := p.1 = .inr q.1 ∧ ∃ t xs, p.2 = .ref t ∧ H t = some (.lst xs) ∧ PairsAt H xs q.2 ∧ Rows N q.2
def TabAt (H : Hp) (d : Addr) (N : Int) (sq pu : Option Rws) : Prop := ∃ kvs, H d = some (.dK kvs) ∧ Paired (LE H N) kvs (tabS sq pu)
theorem TabAt.same {H H' : Hp} {d : Addr} {N : Int} {sq pu : Option Rws} (e : Same H H') (h : TabAt H d N sq pu) : TabAt H' d N sq pu := by
  obtain ⟨kvs, h1, h2⟩ := h
  exact ⟨kvs, e _ _ h1, Paired.mapP h2 fun p q ⟨e1, t, xs, e2, e3, e4, e5⟩ => ⟨e1, t, xs, e2, e _ _ e3, e4.same e, e5⟩⟩
/-- what the table has at a word -/
def LEnt (H : Hp) (N : Int) (v : Option V) : Option Rws → Prop
  | none => v = none
  | some rs => ∃ p xs, v = some (.ref p) ∧ H p = some (.lst xs) ∧ PairsAt H xs rs ∧ Rows N rs
theorem sp_ne : ¬ (("squeeze" : Str) = "push") := by decide +kernel
theorem ps_ne : ¬ (("push" : Str) = "squeeze") := by decide +kernel
theorem tab_sq {H : Hp} {N : Int} {sq pu : Option Rws} {kvs : List (Key × V)} (h : Paired (LE H N) kvs (tabS sq pu)) : LEnt H N (valV kvs (.inr "squeeze")) sq := by
  unfold tabS at h
  cases sq with
  | some rs =>
    cases h with
    | @cons p q ps qs h1 t1 =>
      obtain ⟨e1, t, xs, e2, e3, e4, e5⟩ := h1
      obtain ⟨p1, p2⟩ := p
      dsimp only at e1 e2
      subst e1 e2
      exact ⟨t, xs, by simp [valV], e3, e4, e5⟩
  | none =>
    cases pu with
    | none => cases h; rfl
    | some r =>
      cases h with
      | @cons p q ps qs h1 t1 =>
        obtain ⟨e1, t, xs, e2, e3, e4, e5⟩ := h1
        obtain ⟨p1, p2⟩ := p
        dsimp only at e1 e2
        subst e1 e2
        cases t1
        simp [LEnt, valV, ps_ne]
theorem tab_pu {H : Hp} {N : Int} {sq pu : Option Rws} {kvs : List (Key × V)} (h : Paired (LE H N) kvs (tabS sq pu)) : LEnt H N (valV kvs (.inr "push")) pu := by
  unfold tabS at h
  cases sq with
  | none =>
    cases pu with
    | none => cases h; rfl
    | some r =>
      cases h with
      | @cons p q ps qs h1 t1 =>
        obtain ⟨e1, t, xs, e2, e3, e4, e5⟩ := h1
        obtain ⟨p1, p2⟩ := p
        dsimp only at e1 e2
        subst e1 e2
        exact ⟨t, xs, by simp [valV], e3, e4, e5⟩
  | some rs =>
    cases h with
    | @cons p q ps qs h1 t1 =>
      obtain ⟨e1, t, xs, e2, e3, e4, e5⟩ := h1
      obtain ⟨p1, p2⟩ := p
      dsimp only at e1 e2
      subst e1 e2
      cases pu with
      | none => cases t1; simp [LEnt, valV, sp_ne]
      | some r =>
        cases t1 with
        | @cons p' q' ps' qs' h1' t1' =>
          obtain ⟨e1', t', xs', e2', e3', e4', e5'⟩ := h1'
          obtain ⟨p1', p2'⟩ := p'
          dsimp only at e1' e2'
          subst e1' e2'
          exact ⟨t', xs', by simp [valV, sp_ne], e3', e4', e5'⟩
/-! ### deeds, a Plan as an object -/
abbrev CL (K : PySem.W.Frag) : Addr := He.ga K "Plan"
abbrev Dd (H : Hp) (v : V) (q : Str × Int) : Prop := ∃ t, v = .ref t ∧ H t = some (.tup [.str q.1, .int q.2])
abbrev DeedsAt (H : Hp) (vs : List V) (ds : List (Str × Int)) : Prop := Paired (Dd H) vs ds
theorem deeds_same {H H' : Hp} {vs : List V} {ds : List (Str × Int)} (e : Same H H') (h : DeedsAt H vs ds) : DeedsAt H' vs ds := Paired.mapP h fun v q ⟨t, a, b⟩ => ⟨t, a, e _ _ b⟩
theorem deeds_get {H : Hp} : ∀ {vs : List V} {ds : List (Str × Int)}, DeedsAt H vs ds → ∀ {i : Nat} {x : V}, vs[i]? = some x → ∃ w c t, ds[i]? = some (w, c) ∧ x = .ref t ∧ H t = some (.tup [.str w, .int c])
  | _, _, .nil, i, x, h => by simp at h
  | _, _, .cons ⟨t, e, h⟩ r, 0, x, hx => by
    rename_i v q _ _
    obtain ⟨w, c⟩ := q
    have : v = x := by simpa using hx
    subst this
    exact ⟨w, c, t, rfl, e, h⟩
  | _, _, .cons _ r, i + 1, x, hx => by
    obtain ⟨w, c, t, h1, h2, h3⟩ := deeds_get r (i := i) (x := x) (by simpa using hx)
    exact ⟨w, c, t, by simpa using h1, h2, h3⟩
def lfs (N : Int) (t : Addr) : List (Str × V) := [("around", .int N), ("deeds", .ref t)]
theorem lf2 (N : Int) (t : Addr) : putF "deeds" (.ref t) (pfs1 N) = lfs N t := by kernel_rfl
theorem lfs_around (N : Int) (t : Addr) : (lfs N t).lookup ("around" : Str) = some (.int N) := by kernel_rfl
theorem lfs_deeds (N : Int) (t : Addr) : (lfs N t).lookup ("deeds" : Str) = some (.ref t) := by kernel_rfl
def PlanAt (K : PySem.W.Frag) (H : Hp) (x : Addr) (N : Int) (ds : List (Str × Int)) : Prop :=
  ∃ dx t vs, H x = some (.ins (CL K) dx (lfs N t)) ∧ H t = some (.tup vs) ∧ DeedsAt H vs ds ∧ ds.length ≤ 400 ∧ ∀ q ∈ ds, q.1 = "push" ∨ q.1 = "squeeze"
theorem PlanAt.same {K : PySem.W.Frag} {H H' : Hp} {x : Addr} {N : Int} {ds : List (Str × Int)} (e : Same H H') (h : PlanAt K H x N ds) : PlanAt K H' x N ds := by
  obtain ⟨dx, t, vs, h1, h2, h3, h4⟩ := h
  exact ⟨dx, t, vs, e _ _ h1, e _ _ h2, deeds_same e h3, h4⟩
/-! ### where a plan carries an integer -/
def Stp (N : Int) (sq pu : Option Rws) (d : Str × Int) (x y : Int) : Prop := ∃ rs z, (d.1, rs) ∈ tabL sq pu ∧ IsLift N rs (x - d.2) z ∧ y = z + d.2
def Car (N : Int) (sq pu : Option Rws) : List (Str × Int) → Int → Int → Prop
  | [], x, y => x = y
  | d :: ds, x, y => ∃ m, Stp N sq pu d x m ∧ Car N sq pu ds m y
theorem car_snoc {N : Int} {sq pu : Option Rws} {d : Str × Int} {m y : Int} (h2 : Stp N sq pu d m y) : ∀ {ds : List (Str × Int)} {x : Int}, Car N sq pu ds x m → Car N sq pu (ds ++ [d]) x y
  | [], x, h => ⟨y, (show x = m from h) ▸ h2, rfl⟩
  | _ :: _, _, ⟨n, h, h1⟩ => ⟨n, h, car_snoc h2 h1⟩
def Cars (N : Int) (sq pu : Option Rws) (ds : List (Str × Int)) (zs ys : List Int) : Prop := ys.length = zs.length ∧ ∀ (i : Nat) (a b : Int), zs[i]? = some a → ys[i]? = some b → Car N sq pu ds a b
end J
namespace J
open PySem PySem.Spec PyProof.Rows L2
/-! ### C(.., k = v): an __init__ with defaults -/
structure CalIDK (P : Program) (w : World) (K : PySem.W.Frag) (mg : Str → Option Value) (base : Heap) (k : Nat) (C : Addr) (x qual : Str) (st : Stmt) (ps : List Str) (dvs : List V) (sp : Sp) : Prop where
  ex : ∃ f fd, Mk K C f ∧ mg x = some (.ref C) ∧ FunD K "__init__" qual (defArgs st) (defBody st) (defScope st) dvs [] f fd ∧ FnOk P w K mg base CX0 k f fd ps sp
section
variable {P : Program} {w : World} {K : PySem.W.Frag} {mg : Str → Option Value} {base : Heap} {C : Addr} {x qual : Str} {st : Stmt} {dvs : List V} {f : Addr} {N ps : List Str} {k : Nat} {sp : Sp}
theorem calidk_mk (F : SrcD K "__init__" qual st dvs f) (M : Mk K C f) (hm : mg x = some (.ref C)) (S : FnScope N ps (defScope st)) (len : ∀ vs H Q E, sp vs H Q E → vs.length = ps.length) (hbody : BodyOk P w K mg base N qual st f k sp) :
    CalIDK P w K mg base (k + 1) C x qual st ps dvs sp := by
  obtain ⟨fd, F⟩ := F
  refine ⟨f, fd, M, hm, F, F.ok S len fun cdv A outer s H vs Q E hr hsp => ?_⟩
  obtain ⟨t, h, q⟩ := hbody cdv A outer s H vs Q E hr hsp
  exact ⟨t, h.nox, q⟩
theorem CalIDK.pos (c : CalIDK P w K mg base k C x qual st ps dvs sp) (n j : Nat) (hd : dvs ≠ []) (hn : n + (dvs.length - j) = ps.length) (hb : BindD "__init__" qual st ps n j dvs.length) : CalID P w K mg base k C x ps (dvs.drop j) sp := by
  obtain ⟨f, fd, M, hm, F, R⟩ := c.ex
  obtain ⟨ds, rd, b⟩ := F.binds1 n j hd hn hb
  exact ⟨f, fd, ds, M, hm, rd, b, R⟩
/-- how n values, the defaults and the keywords' values come together -/
abbrev BindK (qual : Str) (st : Stmt) (ps ks : List Str) (n dn : Nat) (g : {α : Type} → List α → List α → List α → List α) : Prop := ∀ (T : Addr) (kV doc pm : Value) (an : Option Addr) (cdv ct : Value) (us its ws : List Value), us.length = n → its.length = dn → ws.length = ks.length →
  ∃ k, bindArgs (PySem.W.fnOf "__init__" qual (defArgs st) (defBody st) (defScope st) (.ref T) kV doc pm an cdv ct) ⟨us, ks.zip ws⟩ = seqItems? (.ref T) >>= k ∧ k (some its.toArray) = pure (ps.zip (g us its ws))
abbrev GOk3 (g : {α : Type} → List α → List α → List α → List α) : Prop := ∀ {vs ds zs : List V} {us its ws : List Value}, Vals vs us → Vals ds its → Vals zs ws → Vals (g vs ds zs) (g us its ws)
end
section
variable {X : Cx} {k : Nat} {C : Addr} {x qual : Str} {st : Stmt} {ps : List Str} {dvs : List V} {sp : Sp} {p pos : Pos} {e : Expr} {es : List Expr} {kws : List Keyword} {t tk : TA}
def jMakeN (C : Addr) (n m : Nat) (sp : Sp) (gV : List V → List V → List V) (t tk : TA) : TE := tMakeN C n m sp gV E0 t tk
def jMakeN0 (C : Addr) (m : Nat) (sp : Sp) (gV : List V → List V → List V) (tk : TA) : TE := tMakeK C 0 m sp gV E0 tNil tk
theorem pe_calIDN (c : CalIDK X.prog X.w X.K X.mg X.base k C x qual st ps dvs sp) (n : Nat) (ks : List Str) (g : {α : Type} → List α → List α → List α → List α) (hd : dvs ≠ []) (hg : GOk3 g) (hb : BindK qual st ps ks (n + 1) dvs.length g) (hr : Room (k + 1) X.A)
    (ha : PA X (e :: es) t) (hkw : PK X kws tk) (hgl : Gl X x := by rfl) (hall : (backToKw pos (keywordEach kws X.env)).all (·.1.isSome) = true := by rfl) (hks : (backToKw pos (keywordEach kws X.env)).filterMap (·.1) = ks := by rfl)
    (hdb : (x == ("__debug__" : Str)) = false := by decide) (he : starEach (e :: es) X.env = (false, eval e X.env) :: starEach es X.env := by rfl)
    (hpl : ((backTo pos (starEach (e :: es) X.env)).any (·.1) || (backToKw pos (keywordEach kws X.env)).any (·.1.isNone)) = false := by rfl) :
    PE X (.Call (.Name x p) (e :: es) kws pos) (jMakeN C n ks.length sp (fun vs zs => g vs dvs zs) t tk) := by
  obtain ⟨f, fd, M, hm, F, R⟩ := c.ex
  obtain ⟨its, kb⟩ := F.kbindsD (ps := ps) (n + 1) ks g hd hg hb
  exact pe_makeN M R hr hgl hm kb pass0 ha hkw hall hks hdb he hpl
theorem pe_calIDN0 (c : CalIDK X.prog X.w X.K X.mg X.base k C x qual st ps dvs sp) (ks : List Str) (g : {α : Type} → List α → List α → List α → List α) (hd : dvs ≠ []) (hg : GOk3 g) (hb : BindK qual st ps ks 1 dvs.length g) (hr : Room (k + 1) X.A)
    (hkw : PK X kws tk) (hgl : Gl X x := by rfl) (hall : (backToKw pos (keywordEach kws X.env)).all (·.1.isSome) = true := by rfl) (hks : (backToKw pos (keywordEach kws X.env)).filterMap (·.1) = ks := by rfl)
    (hdb : (x == ("__debug__" : Str)) = false := by decide) (hpl : ((backTo pos (starEach [] X.env)).any (·.1) || (backToKw pos (keywordEach kws X.env)).any (·.1.isNone)) = false := by rfl) :
    PE X (.Call (.Name x p) [] kws pos) (jMakeN0 C ks.length sp (fun vs zs => g vs dvs zs) tk) := by
  obtain ⟨f, fd, M, hm, F, R⟩ := c.ex
  obtain ⟨its, kb⟩ := F.kbindsD (ps := ps) 1 ks g hd hg hb
  exact pe_makeK0 M R hr hgl hm kb pass0 hkw hall hks hdb hpl
end
section
variable {C : Addr} {n m : Nat} {sp : Sp} {gV : List V → List V → List V} {t tk : TA} {σ : L2.St} {H : Hp} {Q : VK}
theorem w_makeN (h : t σ H fun vs H1 => tk σ H1 fun zs H2 => vs.length = n ∧ zs.length = m ∧ ∀ x dx, H2 x = none → H2 dx = none → dx ≠ x → sp (gV (.ref x :: vs) zs) (upd (upd H2 dx (.own x)) x (.ins C dx [])) (fun v H3 => v = .non ∧ Q (.ref x) H3) E0) : jMakeN C n m sp gV t tk σ H Q := h
theorem w_makeN0 (h : tNil σ H fun vs H1 => tk σ H1 fun zs H2 => vs.length = 0 ∧ zs.length = m ∧ ∀ x dx, H2 x = none → H2 dx = none → dx ≠ x → sp (gV (.ref x :: vs) zs) (upd (upd H2 dx (.own x)) x (.ins C dx [])) (fun v H3 => v = .non ∧ Q (.ref x) H3) E0) : jMakeN0 C m sp gV tk σ H Q := h
end
end J
namespace J
open PySem PySem.Spec PyProof.Rows L2
/-! ### a set comprehension of ints -/
/-- the set with one more member -/
abbrev SetO1 (w : World) (D : Addr) (S : Int → Bool) (n : Nat) (y : Int) : HO := SetO w D (fun j => S j || decide (j = y)) (if S y = true then n else n + 1)
abbrev SetO0 (w : World) (D : Addr) : HO := SetO w D (fun _ => false) 0
/-- what a turn of the block comes to -/
def ScTurn (w : World) (D : Addr) (g : TG) (tt : TT) (te : TE) (vs : List Nat) (σ : L2.St) (Nx : Hp → Prop) (x : V) (G : Hp) : Prop :=
  g x (wipe σ vs) G fun σ' G1 => wipe σ' vs = wipe σ vs ∧ tt σ' G1 fun b G2 =>
    if b = true then te σ' G2 fun y G3 => ∃ (i : Int) (S : Int → Bool) (n : Nat), y = .int i ∧ G3 D = some (SetO w D S n) ∧ n + 1 < scanBound ∧ Nx (upd G3 D (SetO1 w D S n i))
    else Nx G2
def tSci (w : World) (wi : TI) (g : TG) (tt : TT) (te : TE) (vs : List Nat) : TE := fun σ H Q =>
  wi σ H fun J G => ∀ D, G D = none → ∃ W : Nat → Nat → Hp → Prop, (∃ m, W 0 m (upd G D (SetO0 w D))) ∧
    ∀ i m G1, W i m G1 → (J.stop i G1 ∧ Q (.ref D) G1) ∨
      (J.go i G1 ∧ ∃ Nx : Hp → Prop, (∀ G2, Nx G2 → ∃ m', m' < m ∧ W (i + 1) m' G2) ∧ ∀ x G2, J.yld i G1 x G2 → ScTurn w D g tt te vs σ Nx x G2)
section
variable {X : Cx}
theorem set_put {ps : List (Addr × Obj)} {σ : L2.St} {G : Hp} {z : Shared} {Er : Value → Shared → Prop} {D : Addr} {S : Int → Bool} {n : Nat} {y : Int} {u : Tok} {Q : Value → Shared → Prop}
    (iv : Inv X ps σ G z) (at_ : G D = some (SetO X.w D S n)) (small : n + 1 < scanBound) (q : ∀ z', Inv X ps σ (upd G D (SetO1 X.w D S n y)) z' → Q .none z') :
    wpAny (model X.prog X.w) X.A (call (.builtin "set.add") [.ref D, .int y u]) Q Er z := by
  refine setR_add (setO_get iv at_) small fun hp same new => q _ ?_
  have ex : ∃ o, hp.get? D = some o := by obtain ⟨o, _, _, _, e, _⟩ := new; exact ⟨o, e⟩
  have mu : Mut (G D) := by rw [at_]; trivial
  exact iv.write (e := D) (t' := z.toks + 1) mu (.inl rfl) (fun c o hc ho => (same.2 c hc).trans ho) ex (setO_new new)
abbrev freshSet (w : World) : Obj := { cls := .type "set", dict := none, data := .set #[] 0 (.fresh 0 0 (!w.params.followText "set-order")) }
theorem sci_run {ps : List (Addr × Obj)} {z : Shared} {σ : L2.St} {H : Hp} {Q : VK} {el tg it0 : Expr} {cs : List Expr} {sco : Scope} {own : List (PySem.Str × Nat)} {pos pos' : Pos} {wi : TI} {g : TG} {tt : TT} {te : TE} {use : Option (Value → Sem Unit)} {Qf : Value → Shared → Prop}
    (hc : X.calm = true) (nd : X.N.Nodup) (iv : Inv X ps σ H z) (hi : PI X tg it0 wi) (ok : BlkOk X.N X.env.scope sco own)
    (hg : ∀ (z : Shared) (H : Hp) (C : Addr) (cl : List (PySem.Str × Addr)) (fp : List Addr), PG (X.blk z H sco (compEnvC sco cl C X.env) fp) tg g)
    (ht : ∀ (z : Shared) (H : Hp) (C : Addr) (cl : List (PySem.Str × Addr)) (fp : List Addr), PTs (X.blk z H sco (compEnvC sco cl C X.env) fp) cs tt)
    (he : ∀ (z : Shared) (H : Hp) (C : Addr) (cl : List (PySem.Str × Addr)) (fp : List Addr), PE (X.blk z H sco (compEnvC sco cl C X.env) fp) el te)
    (hs : ∀ x, foldedSetIterable it0 X.env x = pure x) (h : tSci X.w wi g tt te (own.map (·.2)) σ H Q)
    (fin : ∀ D C z' m G, Inv X ps σ G z' → Q (.ref D) G → z'.heap.Ns C m → FpOk X ps G C → compPost (model X.prog X.w) X.A X.xe use Qf (.ref D) C (.ok .next) z') :
    wpAny (model X.prog X.w) X.A (comprehension (.SetComp el [⟨tg, it0, cs, 0⟩] sco pos) sco X.env pos' (newSet (.type "set")) false (eval it0 X.env) use) Qf X.xe z := by
  have frees : ∀ y ∈ sco.names, y.2 = .free → ∃ c, X.env.cells.lookup y.1 = some c := fun y hy e => (ok.free y hy e).elim (fun k => iv.ok.has _ (.inl k)) fun k => iv.ok.has _ (.inr k)
  have q0 := hi.run ps z σ H _ iv h
  refine wpAny_comprehension_free (use := use) rfl hs (closure_ok frees) ok.kind (fun y hy e => by rw [ok.uniq y hy, e]) (thn q0 fun _ z1 q1 => thn q1 fun _ z2 q2 => ?_)
  obtain ⟨it, fp, tn, J, G, rfl, iv2, T, st2, f2, q⟩ := q2
  refine PpSet.newSet_ok (newEnv_comp ?_)
  -- the new set stands at D
  obtain ⟨D, eD⟩ : ∃ D, z2.heap.objs.size = D := ⟨_, rfl⟩
  rw [eD]
  have nD : G D = none := iv2.hok.fresh (Nat.le_of_eq eD)
  obtain ⟨W, ⟨m0, w0⟩, turn⟩ := q D nD
  obtain ⟨z3, e3⟩ : ∃ z3 : Shared, ({ z2 with heap := z2.heap.push (freshSet X.w) } : Shared) = z3 := ⟨_, rfl⟩
  have iv3 : Inv X ps σ (upd G D (SetO0 X.w D)) z3 := by
    subst e3
    refine iv2.laid (t' := z2.toks) (fun c o e => Heap.get?_push_of_some _ e) (Nat.le_of_eq eD) ?_
    have := setO_new (P := X.prog) (H := upd G D (SetO0 X.w D)) (setR_fresh (h := z2.heap) X.w)
    rw [eD] at this
    exact this
  have hp3 : z3.heap = z2.heap.push (freshSet X.w) := by subst e3; rfl
  have below : ∀ c ∈ fp, c < z2.heap.objs.size := fun c hcm => by
    obtain ⟨o, e, _⟩ := T.obj _ _ st2 c hcm
    exact Heap.lt_size e
  have f3 : ∀ c ∈ fp, FpOk X ps (upd G D (SetO0 X.w D)) c ∧ c < z3.heap.objs.size := fun c hcm => by
    have lt := below c hcm
    have e : upd G D (SetO0 X.w D) c = G c := upd_ne (by rw [← eD]; exact Nat.ne_of_lt lt)
    exact ⟨⟨e.trans (f2 c hcm).1, (f2 c hcm).2⟩, by rw [hp3, Heap.size_push]; exact Nat.lt_succ_of_lt lt⟩
  have st3 : tn 0 z3.heap := T.keep _ _ _ st2 fun c _ o e => by rw [hp3]; exact Heap.get?_push_of_some _ e
  have iv4 := block_start iv3 ok nd f3
  obtain ⟨cl, ecl⟩ : ∃ cl, cellsFrom (z3.heap.objs.size + 1) sco.names (cloFrom X.env.cells sco.names []) = cl := ⟨_, rfl⟩
  obtain ⟨G3, eG⟩ : ∃ G3, upd G D (SetO0 X.w D) = G3 := ⟨_, rfl⟩
  have pg := hg z3 G3 z3.heap.objs.size cl fp
  have pt := ht z3 G3 z3.heap.objs.size cl fp
  have pe := he z3 G3 z3.heap.objs.size cl fp
  subst e3
  have nf : ∀ c ∈ fp, G3 c = none := fun c hcm => by rw [← eG]; exact (f3 c hcm).1.1
  rw [eG] at iv3 iv4 w0 f3
  rw [ecl] at iv4 ⊢
  obtain ⟨ce, ece⟩ : ∃ ce, compEnvC sco cl ({ z2 with heap := z2.heap.push (freshSet X.w) } : Shared).heap.objs.size X.env = ce := ⟨_, rfl⟩
  have loc : ce.locals = ({ z2 with heap := z2.heap.push (freshSet X.w) } : Shared).heap.objs.size := by rw [← ece]; rfl
  rw [ece] at iv4 pg pt pe
  obtain ⟨z3, e3⟩ : ∃ z3 : Shared, ({ z2 with heap := z2.heap.push (freshSet X.w) } : Shared) = z3 := ⟨_, rfl⟩
  rw [e3] at iv3 iv4 pg pt pe st3 f3 loc hp3
  suffices run : codeAny (model X.prog X.w) X.A (.compStart (.SetComp el [⟨tg, it0, cs, 0⟩] sco pos) 0 (.ref it) (.ref D) ce) (compPost (model X.prog X.w) X.A X.xe use Qf (.ref D) z3.heap.objs.size)
      { z3 with heap := pushCells (z3.heap.push { cls := .type "dict", data := .dict #[] }) sco.names } by
    rw [← ece] at run
    rw [← e3] at run
    exact run
  obtain ⟨z4, e4⟩ : ∃ z4 : Shared, ({ z3 with heap := pushCells (z3.heap.push { cls := .type "dict", data := .dict #[] }) sco.names } : Shared) = z4 := ⟨_, rfl⟩
  rw [e4] at iv4 ⊢
  have st4 : tn 0 z4.heap := T.keep _ _ _ st3 fun c _ o e => by rw [← e4]; exact pushCells_keeps _ _ _ _ (Heap.get?_push_of_some _ e)
  have quiet : ∀ {σ' : L2.St} {G' : Hp} {z' : Shared}, Inv (X.blk z3 G3 sco ce fp) [] σ' G' z' → (∀ c ∈ fp, G' c = none) → ∀ c ∈ fp, FpOk (X.blk z3 G3 sco ce fp) [] G' c := fun iv' none' c hcm =>
    have x0 := iv'.ok.exf c hcm
    ⟨none' c hcm, x0.1, iv'.ok.exfs c hcm, .inl hcm, fun y d e => x0.2 y d e, fun p hp => nomatch (show p ∈ ([] : List (Addr × Obj)) ++ [] from hp)⟩
  let Now : Nat → Shared → Prop := fun n z' => ∃ i G', Inv (X.blk z3 G3 sco ce fp) [] (wipe σ (own.map (·.2))) G' z' ∧ tn i z'.heap ∧ (∀ c ∈ fp, G' c = none) ∧ W i n G'
  have loop : codeAny (model X.prog X.w) X.A (.compLoop (.SetComp el [⟨tg, it0, cs, 0⟩] sco pos) 0 (.ref it) (.ref D) ce) (compPost (model X.prog X.w) X.A X.xe use Qf (.ref D) z3.heap.objs.size) z4 := by
    refine PpSet.compLoopS_any Now ?_ m0 ⟨0, G3, iv4, st4, nf, w0⟩
    rintro n z5 ⟨i, G5, iv5, st5, nf5, w5⟩
    rcases turn i n G5 w5 with ⟨stop, qq⟩ | ⟨go, Nx, next, step⟩
    · refine thnF (T.done (X.blk z3 G3 sco ce fp) rfl rfl rfl hc i [] z5 _ G5 (fun _ _ => False) iv5 (quiet iv5 nf5) st5 stop) fun r z6 hr => ?_
      obtain ⟨rfl, iv6⟩ := hr
      have iv7 : Inv X ps σ G5 z6 := iv3.call' (ch := fp) iv6.os iv6.base iv6.hok iv6.bare fun c hcm =>
        have x0 := (f3 c hcm).1.2
        ⟨x0.2.2.1, x0.1, x0.2.2.2.1, x0.2.2.2.2⟩
      have free : G5 ce.locals = none := iv6.free
      obtain ⟨mm, hn, _⟩ := iv6.loc
      have ns : z6.heap.Ns ce.locals mm := hn
      rw [loc] at free ns
      exact fin D z3.heap.objs.size z6 mm G5 iv7 qq ns (iv3.fpOk (Nat.le_refl _) free)
    · refine thnF (T.item (X.blk z3 G3 sco ce fp) rfl rfl rfl hc i [] z5 _ G5 (fun _ _ => False) iv5 (quiet iv5 nf5) st5 go) fun r z6 hr => ?_
      obtain ⟨u, rfl, h6⟩ := hr
      refine thnF h6 fun _ z7 h7 => ?_
      obtain ⟨x, G7, iv7, r7, y7, st7, n7⟩ := h7
      have iv7' := iv7.pinned (quiet iv7 n7) (T.obj _ _ st7)
      refine thnF (pg.run _ z7 _ G7 x u _ iv7' r7 (step x G7 y7)) fun _ z8 h8 => ?_
      obtain ⟨σ8, G8, iv8, wp8, q8⟩ := h8
      refine thnF (pt.run _ z8 σ8 G8 _ iv8 q8) fun b z9 h9 => ?_
      obtain ⟨G9, iv9, q9⟩ := h9
      have back : ∀ {z' : Shared} {G' : Hp}, Inv (X.blk z3 G3 sco ce fp) ([] ++ pinsAt fp z7.heap) σ8 G' z' → Nx G' → ∃ m, m < n ∧ Now m z' := fun iv' nx => by
        obtain ⟨m', lt, w'⟩ := next _ nx
        have pin := fun c (hcm : c ∈ fp) o (e : z7.heap.get? c = some o) => iv'.pin (c, o) (List.mem_append_right _ (List.mem_append_right _ (mem_pinsAt hcm e)))
        have len : (wipe σ (own.map (·.2))).length = σ8.length := by rw [← wp8, wipe_length]
        refine ⟨m', lt, i + 1, _, (iv'.unpinned (pins := [])).weak len (fun j v e => ?_), T.keep _ _ _ st7 fun c hcm o e => (pin c hcm o e).1, fun c hcm => ?_, w'⟩
        · rw [← wp8] at e; exact (wipe_some e).1
        · obtain ⟨o, e, _⟩ := T.obj _ _ st7 c hcm
          exact (pin c hcm o e).2.1
      cases b with
      | false =>
        have q9' : Nx G9 := by simpa using q9
        show ∃ m, m < n ∧ Now m z9
        exact back iv9 q9'
      | true =>
        simp only [if_true] at q9 ⊢
        refine thnF (pe.run _ z9 σ8 G9 _ iv9 q9) fun v z10 h10 => ?_
        obtain ⟨yv, G10, iv10, r10, k, S0, n0, rfl, at10, small, nx⟩ := h10
        obtain ⟨tk, rfl⟩ := r10
        exact set_put (X := X.blk z3 G3 sco ce fp) iv10 at10 small fun z11 iv11 => back iv11 nx
  exact PpSet.codeAny_compStart_set loop (T.self X.A 0 _ _ _ st4 loop)
/-- {e for t in i if ..} -/
theorem pe_sci {el tg it0 : Expr} {cs : List Expr} {sco : Scope} {own : List (PySem.Str × Nat)} {pos : Pos} {wi : TI} {g : TG} {tt : TT} {te : TE} (hc : X.calm = true) (nd : X.N.Nodup) (hi : PI X tg it0 wi) (ok : BlkOk X.N X.env.scope sco own)
    (hg : ∀ (z : Shared) (H : Hp) (C : Addr) (cl : List (PySem.Str × Addr)) (fp : List Addr), PG (X.blk z H sco (compEnvC sco cl C X.env) fp) tg g)
    (ht : ∀ (z : Shared) (H : Hp) (C : Addr) (cl : List (PySem.Str × Addr)) (fp : List Addr), PTs (X.blk z H sco (compEnvC sco cl C X.env) fp) cs tt)
    (he : ∀ (z : Shared) (H : Hp) (C : Addr) (cl : List (PySem.Str × Addr)) (fp : List Addr), PE (X.blk z H sco (compEnvC sco cl C X.env) fp) el te)
    (hs : ∀ x, foldedSetIterable it0 X.env x = pure x := by intro _; rfl) : PE X (.SetComp el [⟨tg, it0, cs, 0⟩] sco pos) (tSci X.w wi g tt te (own.map (·.2))) :=
  ⟨fun ps z σ H Q iv h => by
    rw [PpSet.eval_SetComp]
    refine sci_run hc nd iv hi ok hg ht he hs h fun D C z' m G iv' q ns f => ⟨m, ns, fun hp same => ?_⟩
    exact ⟨.ref D, G, iv'.turned (t' := z'.toks) (fun c o hb e => (same.2 c hb).trans e) f.1 f.2.1 f.2.2.2.1 f.2.2.2.2.1 f.2.2.2.2.2, rfl, q⟩⟩
end
end J
namespace J
open PySem PySem.Spec PyProof.Rows L2
/-! ### parts and plans: the mathematics -/
abbrev Tbl := List (Str × Rws)
def lcmI (a b : Int) : Int := ((Nat.lcm a.natAbs b.natAbs : Nat) : Int)
def perF (N : Int) (a : Int) : Tbl → Int
  | [] => a
  | q :: T => perF N (lcmI a (perR N q.2)) T
def perP (N : Int) (T : Tbl) : Int := perF N 1 T
theorem lcmI_dvd {a b c : Int} : lcmI a b ∣ c ↔ a ∣ c ∧ b ∣ c := by
  unfold lcmI
  rw [Int.ofNat_dvd_left]
  constructor
  · intro h
    exact ⟨Int.natAbs_dvd_natAbs.mp (Nat.dvd_trans (Nat.dvd_lcm_left ..) h), Int.natAbs_dvd_natAbs.mp (Nat.dvd_trans (Nat.dvd_lcm_right ..) h)⟩
  · rintro ⟨h1, h2⟩
    exact Nat.lcm_dvd (Int.natAbs_dvd_natAbs.mpr h1) (Int.natAbs_dvd_natAbs.mpr h2)
theorem perF_dvd {N c : Int} : ∀ {T : Tbl} {a : Int}, perF N a T ∣ c ↔ a ∣ c ∧ ∀ q ∈ T, perR N q.2 ∣ c
  | [], a => by simp [perF]
  | q :: T, a => by
    show perF N (lcmI a (perR N q.2)) T ∣ c ↔ _
    rw [perF_dvd, lcmI_dvd]
    simp only [List.mem_cons, forall_eq_or_imp]
    constructor
    · rintro ⟨⟨h1, h2⟩, h3⟩; exact ⟨h1, h2, h3⟩
    · rintro ⟨h1, h2, h3⟩; exact ⟨⟨h1, h2⟩, h3⟩
theorem perF_nn {N : Int} : ∀ {T : Tbl} {a : Int}, 0 ≤ a → 0 ≤ perF N a T
  | [], a, h => h
  | q :: T, a, _ => perF_nn (T := T) (by unfold lcmI; omega)
/-- a part's table is good -/
structure TblOk (N : Int) (T : Tbl) : Prop where
  n2 : 2 ≤ N
  n360 : N ≤ 360
  rows : ∀ q ∈ T, Rows N q.2
  one : ∀ w rs rs', (w, rs) ∈ T → (w, rs') ∈ T → rs = rs'
theorem perR_dvd {N c : Int} {rs : Rws} (R : Rows N rs) : perR N rs ∣ c ↔ Keeps N rs c := by
  rw [period_dvd R]
  exact ⟨fun h => Int.emod_eq_zero_of_dvd h, fun h => Int.dvd_of_emod_eq_zero h⟩
section
variable {N : Int} {T : Tbl}
theorem TblOk.dvd (k : TblOk N T) {c : Int} : perP N T ∣ c ↔ ∀ q ∈ T, Keeps N q.2 c := by
  unfold perP
  rw [perF_dvd]
  exact ⟨fun h q hq => (perR_dvd (k.rows q hq)).mp (h.2 q hq), fun h => ⟨Int.one_dvd c, fun q hq => (perR_dvd (k.rows q hq)).mpr (h q hq)⟩⟩
theorem TblOk.dvdN (k : TblOk N T) : perP N T ∣ N := k.dvd.mpr fun q _ => Keeps.round
theorem TblOk.pos (k : TblOk N T) : 0 < perP N T := by
  have h : 0 ≤ perP N T := perF_nn (by decide)
  rcases Int.lt_or_eq_of_le h with z | z
  · exact z
  · have d := k.dvdN
    rw [← z] at d
    have := Int.zero_dvd.mp d
    have := k.n2
    omega
theorem TblOk.le (k : TblOk N T) : perP N T ≤ N := Int.le_of_dvd (by have := k.n2; omega) k.dvdN
theorem TblOk.modN (k : TblOk N T) (x : Int) : x % N % perP N T = x % perP N T := Int.emod_emod_of_dvd x k.dvdN
end
/-! one deed, a plan -/
def StpT (N : Int) (T : Tbl) (d : Str × Int) (x y : Int) : Prop := ∃ rs z, (d.1, rs) ∈ T ∧ IsLift N rs (x - d.2) z ∧ y = z + d.2
def CarT (N : Int) (T : Tbl) : List (Str × Int) → Int → Int → Prop
  | [], x, y => x = y
  | d :: ds, x, y => ∃ m, StpT N T d x m ∧ CarT N T ds m y
theorem carT_iff {N : Int} {sq pu : Option Rws} : ∀ {ds : List (Str × Int)} {x y : Int}, Car N sq pu ds x y ↔ CarT N (tabL sq pu) ds x y
  | [], x, y => Iff.rfl
  | d :: ds, x, y => by
    constructor
    · rintro ⟨m, h, h2⟩; exact ⟨m, h, carT_iff.mp h2⟩
    · rintro ⟨m, h, h2⟩; exact ⟨m, h, carT_iff.mpr h2⟩
section
variable {N : Int} {T : Tbl} {d : Str × Int} {ds es : List (Str × Int)} {x y x' y' c : Int}
theorem StpT.shift (k : TblOk N T) (h : StpT N T d x y) (hc : perP N T ∣ c) : StpT N T d (x + c) (y + c) := by
  obtain ⟨rs, z, h1, h2, rfl⟩ := h
  refine ⟨rs, z + c, h1, ?_, by omega⟩
  have := k.dvd.mp hc _ h1 _ _ h2
  have e : x + c - d.2 = x - d.2 + c := by omega
  rw [e]; exact this
theorem StpT.mono (k : TblOk N T) (h : StpT N T d x y) (h' : StpT N T d x' y') (hx : x ≤ x') : y ≤ y' := by
  obtain ⟨rs, z, h1, h2, rfl⟩ := h
  obtain ⟨rs', z', h1', h2', rfl⟩ := h'
  have e := k.one _ _ _ h1 h1'
  subst e
  have := IsLift.mono (k.rows _ h1) h2 h2' (by omega)
  omega
theorem CarT.shift (k : TblOk N T) : ∀ {ds : List (Str × Int)} {x y : Int}, CarT N T ds x y → perP N T ∣ c → CarT N T ds (x + c) (y + c)
  | [], x, y, h, _ => by have : x = y := h; subst this; rfl
  | d :: ds, x, y, ⟨m, h, h2⟩, hc => ⟨m + c, h.shift k hc, CarT.shift k h2 hc⟩
theorem CarT.mono (k : TblOk N T) : ∀ {ds : List (Str × Int)} {x y x' y' : Int}, CarT N T ds x y → CarT N T ds x' y' → x ≤ x' → y ≤ y'
  | [], x, y, x', y', h, h', hx => by have a : x = y := h; have b : x' = y' := h'; omega
  | d :: ds, x, y, x', y', ⟨m, h, h2⟩, ⟨m', h', h2'⟩, hx => CarT.mono k h2 h2' (h.mono k h' hx)
theorem CarT.unique (k : TblOk N T) (h : CarT N T ds x y) (h' : CarT N T ds x y') : y = y' :=
  Int.le_antisymm (h.mono k h' (Int.le_refl _)) (h'.mono k h (Int.le_refl _))
theorem CarT.append : ∀ {ds : List (Str × Int)} {x : Int}, CarT N T (ds ++ es) x y ↔ ∃ m, CarT N T ds x m ∧ CarT N T es m y
  | [], x => ⟨fun h => ⟨x, rfl, h⟩, fun ⟨m, e, h⟩ => by have : x = m := e; subst this; exact h⟩
  | d :: ds, x => by
    constructor
    · rintro ⟨m, h, h2⟩
      obtain ⟨n, a, b⟩ := CarT.append.mp h2
      exact ⟨n, ⟨m, h, a⟩, b⟩
    · rintro ⟨n, ⟨m, h, a⟩, b⟩
      exact ⟨m, h, CarT.append.mpr ⟨n, a, b⟩⟩
theorem CarT.snoc : CarT N T (ds ++ [d]) x y ↔ ∃ m, CarT N T ds x m ∧ StpT N T d m y := by
  rw [CarT.append]
  constructor
  · rintro ⟨m, a, n, b, e⟩; have : n = y := e; subst this; exact ⟨m, a, b⟩
  · rintro ⟨m, a, b⟩; exact ⟨m, a, y, b, rfl⟩
theorem StpT.ex (k : TblOk N T) (h : ∃ rs, (d.1, rs) ∈ T) (x : Int) : ∃ y, StpT N T d x y := by
  obtain ⟨rs, hr⟩ := h
  obtain ⟨z, hz⟩ := (k.rows _ hr).lift (x - d.2)
  exact ⟨z + d.2, rs, z, hr, hz, rfl⟩
theorem CarT.ex (k : TblOk N T) : ∀ {ds : List (Str × Int)}, (∀ q ∈ ds, ∃ rs, (q.1, rs) ∈ T) → ∀ x, ∃ y, CarT N T ds x y
  | [], _, x => ⟨x, rfl⟩
  | d :: ds, h, x => by
    obtain ⟨m, hm⟩ := StpT.ex k (h d (List.mem_cons_self ..)) x
    obtain ⟨y, hy⟩ := CarT.ex k (fun q hq => h q (List.mem_cons_of_mem _ hq)) m
    exact ⟨y, m, hm, hy⟩
/-- some multiple of the period brings x into the cut -/
theorem into_cut {s c x : Int} (s0 : 0 < s) : c ≤ x - s * ((x - c) / s) ∧ x - s * ((x - c) / s) ≤ c + s - 1 := by
  have h1 := Int.emod_nonneg (x - c) (show s ≠ 0 by omega)
  have h2 := Int.emod_lt_of_pos (x - c) s0
  have h3 := Int.emod_add_mul_ediv (x - c) s
  omega
/-- where a cut is closed, all comes to one standing -/
theorem closed_all (k : TblOk N T) (h1 : CarT N T ds c y) (h2 : CarT N T ds (c + perP N T - 1) y) (h : CarT N T ds x x') : x' % perP N T = y % perP N T := by
  have s0 := k.pos
  obtain ⟨a, b⟩ := into_cut (c := c) (x := x) s0
  generalize hq : (x - c) / perP N T = q at a b
  have e : x - perP N T * q = x + perP N T * (-q) := by rw [Int.mul_neg]; omega
  rw [e] at a b
  have hs := h.shift k (c := perP N T * (-q)) (Int.dvd_mul_right ..)
  have l1 := h1.mono k hs a
  have l2 := hs.mono k h2 b
  have : y = x' + perP N T * (-q) := by omega
  rw [this, Int.add_mul_emod_self_left]
end
/-! what is left, modulo the period -/
def LeftIs (N : Int) (T : Tbl) (ds : List (Str × Int)) (ns : List Int) : Prop := ns.Pairwise (· < ·) ∧ ∀ k, k ∈ ns ↔ ∃ x y, 0 ≤ x ∧ x < perP N T ∧ CarT N T ds x y ∧ k = y % perP N T
section
variable {N : Int} {T : Tbl} {d : Str × Int} {ds : List (Str × Int)} {ns : List Int}
theorem LeftIs.rng (h : LeftIs N T ds ns) (k : TblOk N T) {x : Int} (hx : x ∈ ns) : 0 ≤ x ∧ x < perP N T := by
  obtain ⟨a, b, _, _, _, rfl⟩ := (h.2 x).mp hx
  have := k.pos
  exact ⟨Int.emod_nonneg _ (by omega), Int.emod_lt_of_pos _ this⟩
theorem left_step (k : TblOk N T) (h : LeftIs N T ds ns) (v : Int) : (∃ x ∈ ns, ∃ y, StpT N T d x y ∧ v = y % perP N T) ↔ ∃ x y, 0 ≤ x ∧ x < perP N T ∧ CarT N T (ds ++ [d]) x y ∧ v = y % perP N T := by
  have s0 := k.pos
  have red : ∀ m : Int, m = m % perP N T + perP N T * (m / perP N T) := fun m => (Int.emod_add_mul_ediv m _).symm
  constructor
  · rintro ⟨x, hx, y, hs, rfl⟩
    obtain ⟨x0, y0, h0, h1, h2, rfl⟩ := (h.2 x).mp hx
    refine ⟨x0, y + perP N T * (y0 / perP N T), h0, h1, CarT.snoc.mpr ⟨y0, h2, ?_⟩, by rw [Int.add_mul_emod_self_left]⟩
    have := hs.shift k (c := perP N T * (y0 / perP N T)) (Int.dvd_mul_right ..)
    rw [← red] at this
    exact this
  · rintro ⟨x0, y, h0, h1, h2, rfl⟩
    obtain ⟨m, a, b⟩ := CarT.snoc.mp h2
    refine ⟨m % perP N T, (h.2 _).mpr ⟨x0, m, h0, h1, a, rfl⟩, y + perP N T * (-(m / perP N T)), ?_, by rw [Int.add_mul_emod_self_left]⟩
    have := b.shift k (c := perP N T * (-(m / perP N T))) (Int.dvd_mul_right ..)
    have e : m + perP N T * (-(m / perP N T)) = m % perP N T := by
      have := red m
      rw [Int.mul_neg]
      omega
    rw [e] at this
    exact this
theorem left_none (k : TblOk N T) : LeftIs N T [] ((List.range (perP N T).toNat).map fun (i : Nat) => (i : Int)) := by
  have s0 := k.pos
  refine ⟨?_, fun v => ?_⟩
  · rw [List.pairwise_map]
    exact List.pairwise_lt_range.imp fun h => by omega
  · rw [List.mem_map]
    constructor
    · rintro ⟨i, hi, rfl⟩
      have := List.mem_range.mp hi
      exact ⟨i, i, by omega, by omega, rfl, (Int.emod_eq_of_lt (by omega) (by omega)).symm⟩
    · rintro ⟨x, y, h0, h1, e, rfl⟩
      have : x = y := e
      subst this
      exact ⟨x.toNat, List.mem_range.mpr (by omega), by rw [Int.emod_eq_of_lt h0 h1]; omega⟩
/-- one is left exactly if a cut is closed -/
theorem left_one (k : TblOk N T) (h : LeftIs N T ds ns) (hw : ∀ q ∈ ds, ∃ rs, (q.1, rs) ∈ T) {c y : Int} (h1 : CarT N T ds c y) (h2 : CarT N T ds (c + perP N T - 1) y) : ns.length = 1 := by
  have s0 := k.pos
  obtain ⟨y0, hy0⟩ := CarT.ex k hw 0
  have m0 : y0 % perP N T ∈ ns := (h.2 _).mpr ⟨0, y0, Int.le_refl _, s0, hy0, rfl⟩
  have all : ∀ v ∈ ns, v = y % perP N T := fun v hv => by
    obtain ⟨a, b, _, _, hc, rfl⟩ := (h.2 v).mp hv
    exact closed_all k h1 h2 hc
  cases ns with
  | nil => cases m0
  | cons a t =>
    cases t with
    | nil => rfl
    | cons b t =>
      have lt := (List.pairwise_cons.mp h.1).1 b (List.mem_cons_self ..)
      have e1 := all a (List.mem_cons_self ..)
      have e2 := all b (List.mem_cons_of_mem _ (List.mem_cons_self ..))
      omega
/-- few are left behind a deed -/
theorem left_few (k : TblOk N T) {rs : Rws} (hr : (d.1, rs) ∈ T) {x y : Int} (h : StpT N T d x y) : y % perP N T ∈ rs.map fun q => (q.2 + d.2) % perP N T := by
  obtain ⟨rs', z, h1, h2, rfl⟩ := h
  have e := k.one _ _ _ hr h1
  subst e
  have := IsLift.rest (k.rows _ hr) h2
  obtain ⟨q, hq, e⟩ := List.mem_map.mp this
  refine List.mem_map.mpr ⟨q, hq, ?_⟩
  rw [Int.add_emod, e, k.modN, ← Int.add_emod]
end
end J
namespace J
open PySem PySem.Spec PyProof.Rows L2
/-! ### a set comprehension over a list -/
def SetIs (S : Int → Bool) (n : Nat) (ms : List Int) : Prop := ms.Nodup ∧ n = ms.length ∧ ∀ k, S k = true ↔ k ∈ ms
abbrev ScG (w : World) (g : TG) (tt : TT) (te : TE) (vs : List Nat) (σ : L2.St) (Q : VK) : It → Hp → Prop := fun J G => ∀ D, G D = none → ∃ W : Nat → Nat → Hp → Prop, (∃ m, W 0 m (upd G D (SetO0 w D))) ∧
  ∀ i m G1, W i m G1 → (J.stop i G1 ∧ Q (.ref D) G1) ∨
    (J.go i G1 ∧ ∃ Nx : Hp → Prop, (∀ G2, Nx G2 → ∃ m', m' < m ∧ W (i + 1) m' G2) ∧ ∀ x G2, J.yld i G1 x G2 → ScTurn w D g tt te vs σ Nx x G2)
theorem w_sc {w : World} {wi : TI} {g : TG} {tt : TT} {te : TE} {vs : List Nat} {σ : L2.St} {H : Hp} {Q : VK} (h : wi σ H (ScG w g tt te vs σ Q)) : tSci w wi g tt te vs σ H Q := h
abbrev ScInv (w : World) (H : Hp) (D : Addr) (Pv : Nat → List Int → Prop) (i : Nat) (H' : Hp) : Prop := ∃ ms S n, Same H H' ∧ H' D = some (SetO w D S n) ∧ SetIs S n ms ∧ Pv i ms
theorem SetIs.put {S : Int → Bool} {n : Nat} {ms : List Int} {v : Int} (h : SetIs S n ms) : SetIs (fun j => S j || decide (j = v)) (if S v = true then n else n + 1) (if v ∈ ms then ms else v :: ms) := by
  obtain ⟨nd, e, m⟩ := h
  by_cases hv : v ∈ ms
  · rw [if_pos hv, if_pos ((m v).mpr hv)]
    refine ⟨nd, e, fun k => ?_⟩
    rw [Bool.or_eq_true, decide_eq_true_eq, m]
    exact ⟨fun z => z.elim id fun z => z ▸ hv, .inl⟩
  · rw [if_neg hv, if_neg (fun z => hv ((m v).mp z))]
    refine ⟨List.nodup_cons.mpr ⟨hv, nd⟩, by rw [e]; rfl, fun k => ?_⟩
    rw [Bool.or_eq_true, decide_eq_true_eq, m, List.mem_cons]
    exact Or.comm
theorem sc_step {w : World} {H H4 : Hp} {D : Addr} {S : Int → Bool} {n i : Nat} {ms : List Int} {v : Int} {Pv : Nat → List Int → Prop} (hD : H D = none) (s : Same H H4) (at_ : H4 D = some (SetO w D S n)) (si : SetIs S n ms) (few : ms.length < 4000)
    (p : ∀ ms', ms'.Nodup → (∀ k, k ∈ ms' ↔ k = v ∨ k ∈ ms) → Pv (i + 1) ms') :
    ∃ (i' : Int) (S : Int → Bool) (n : Nat), V.int v = .int i' ∧ H4 D = some (SetO w D S n) ∧ n + 1 < scanBound ∧ ScInv w H D Pv (i + 1) (upd H4 D (SetO1 w D S n i')) := by
  have q := si.put (v := v)
  refine ⟨v, S, n, rfl, at_, by have := si.2.1; show n + 1 < 4096; omega, _, _, _, same_upd2 hD s, upd_same, q, p _ q.1 fun k => ?_⟩
  by_cases hv : v ∈ ms
  · rw [if_pos hv]; exact ⟨.inr, fun z => z.elim (fun e => e ▸ hv) id⟩
  · rw [if_neg hv, List.mem_cons]
section
variable {w : World} {K : PySem.W.Frag} {g : TG} {tt : TT} {te : TE} {vs : List Nat} {σ : L2.St} {H : Hp} {Q : VK} {p : Addr} {xs : List V}
theorem sc_gen {J : It} {m : Nat} {G : Hp → Prop} {Y : Nat → Hp → V → Hp → Prop} (wk : Walk J m G Y) (hY : ∀ i H' x H'', Y i H' x H'' → H'' = H') (hG : ∀ H', Same H H' → G H') (Pv : Nat → List Int → Prop) (h0 : Pv 0 [])
    (hs : ∀ D i x ms S n H', H D = none → i < m → Y i H' x H' → Same H H' → H' D = some (SetO w D S n) → SetIs S n ms → Pv i ms → ScTurn w D g tt te vs σ (ScInv w H D Pv (i + 1)) x H')
    (hd : ∀ D ms S n H', H D = none → Same H H' → H' D = some (SetO w D S n) → SetIs S n ms → Pv m ms → Q (.ref D) H') : ScG w g tt te vs σ Q J H := by
  intro D hD
  refine ⟨fun i k H' => k = m - i ∧ i ≤ m ∧ ScInv w H D Pv i H', ⟨m, by simp, Nat.zero_le _, [], _, _, same_upd2 hD (Same.refl H), upd_same, ⟨.nil, rfl, fun k => by simp⟩, h0⟩, ?_⟩
  rintro i k H' ⟨rfl, hi, ms, S, n, s, at_, si, pv⟩
  rcases Nat.lt_or_ge i m with lt | ge
  · refine .inr ⟨wk.goes i H' lt (hG H' s), ScInv w H D Pv (i + 1), fun H'' z => ⟨m - (i + 1), by omega, rfl, lt, z⟩, fun x H'' y => ?_⟩
    have y' := wk.yields i H' x H'' lt (hG H' s) y
    have e := hY i H' x H'' y'
    subst e
    exact hs D i x ms S n _ hD lt y' s at_ si pv
  · have e : i = m := by omega
    subst e
    exact .inl ⟨wk.stops H' (hG H' s), hd D ms S n H' hD s at_ si pv⟩
theorem scS (sq : SqA K H p xs) (Pv : Nat → List Int → Prop) (h0 : Pv 0 [])
    (hs : ∀ D i x ms S n H', H D = none → xs[i]? = some x → Same H H' → H' D = some (SetO w D S n) → SetIs S n ms → Pv i ms → ScTurn w D g tt te vs σ (ScInv w H D Pv (i + 1)) x H')
    (hd : ∀ D ms S n H', H D = none → Same H H' → H' D = some (SetO w D S n) → SetIs S n ms → Pv xs.length ms → Q (.ref D) H') :
    ∃ a ys, V.ref p = .ref a ∧ ((SqL K H a ys ∧ ScG w g tt te vs σ Q (Itl K a) H) ∨ (SqT K H a ys ∧ ScG w g tt te vs σ Q (Itt K a) H)) := by
  rcases sq with sq | sq
  · exact ⟨p, xs, rfl, .inl ⟨sq, sc_gen walk_list (fun _ _ _ _ y => y.1) (fun H' s => s.seq sq) Pv h0 (fun D i x ms S n H' hD _ y s a si q => hs D i x ms S n H' hD y.2 s a si q) hd⟩⟩
  · exact ⟨p, xs, rfl, .inr ⟨sq, sc_gen walk_tup (fun _ _ _ _ y => y.1) (fun H' s => SqT.same s sq) Pv h0 (fun D i x ms S n H' hD _ y s a si q => hs D i x ms S n H' hD y.2 s a si q) hd⟩⟩
end
/-- sorted(a set) -/
theorem w_sortSet {w : World} {H : Hp} {Q : VK} {a : Addr} {S : Int → Bool} {n : Nat} {ms : List Int} (h : H a = some (SetO w a S n)) (si : SetIs S n ms) (few : ms.length < 64)
    (q : ∀ p H' (ns : List Int), H p = none → Same H H' → H' p = some (.lst (ns.map V.int)) → ns.Pairwise (· < ·) → (∀ k, k ∈ ns ↔ k ∈ ms) → ns.length = ms.length → Q (.ref p) H') : rSortedSet w [.ref a] H Q :=
  ⟨a, S, n, rfl, h, by have := si.2.1; omega, fun ns p pw mem len np => q p _ ns np (same_new np) upd_same pw (fun k => (mem k).trans (si.2.2 k)) (len.trans si.2.1)⟩
/-! ### sorted(a dict), list(range(n)), the values of a locked dict -/
def rSortD : List V → Hp → VK → Prop := fun xs H Q => ∃ (a : Addr) (kvs : List (Key × V)) (ks : List Str), xs = [.ref a] ∧ Rd H a (.dK kvs) ∧ kvs.map (·.1) = ks.map Sum.inr ∧ ks.length < 64 ∧ ∀ ys p, ys.Perm ks → sortedS ys = true → H p = none → Q (.ref p) (upd H p (.lst (ys.map V.str)))
theorem jc_sortD {X : Cx} (hc : X.calm = true) : CallR X (.builtin "sorted") rSortD := call_sortedD hc
theorem w_sortD {H : Hp} {Q : VK} {a : Addr} {kvs : List (Key × V)} {ks : List Str} (h : H a = some (.dK kvs)) (hk : kvs.map (·.1) = ks.map Sum.inr) (few : ks.length < 64) (q : ∀ ys p H', ys.Perm ks → sortedS ys = true → H p = none → Same H H' → H' p = some (.lst (ys.map V.str)) → Q (.ref p) H') : rSortD [.ref a] H Q :=
  ⟨a, kvs, ks, rfl, .inl h, hk, few, fun ys p pm so np => q ys p _ pm so np (same_new np) upd_same⟩
section
variable {ta td : TE} {σ : L2.St} {H : Hp} {Q : VK} {R : It → Hp → Prop} {D : Ends}
theorem w_lstRg1 (h : ta σ H fun x H1 => ∃ n, x = .int n ∧ (RgOk 0 n ∧ ∀ q, H1 q = none → Q (.ref q) (upd H1 q (.lst (rgV 0 n))))) : tLstRg (tRg1 ta) σ H Q := h
theorem w_lstRg2 {tb : TE} (h : ta σ H fun x H1 => tb σ H1 fun y H2 => ∃ i j, x = .int i ∧ y = .int j ∧ (RgOk i j ∧ ∀ q, H2 q = none → Q (.ref q) (upd H2 q (.lst (rgV i j))))) : tLstRg (tRg2 ta tb) σ H Q := h
theorem w_lock {t : TS} (h : ∃ d u, H d = some u ∧ Mut (some u) ∧ ∀ od, t ⟨fun σ' H' => H' d = some (.frz od u) ∧ D.nx σ' (upd H' d u), fun v H' => H' d = some (.frz od u) ∧ D.rt v (upd H' d u), fun σ' H' => H' d = some (.frz od u) ∧ D.bk σ' (upd H' d u), fun σ' H' => H' d = some (.frz od u) ∧ D.ct σ' (upd H' d u)⟩ σ (upd H d (.frz od u))) : tLock t D σ H := h
theorem w_iVals (h : td σ H fun x H1 => ∃ d o kvs, x = .ref d ∧ H1 d = some (.frz o (.dK kvs)) ∧ R (Itd d o kvs) H1) : iVals td σ H R := h
theorem w_lcm {a b : Int} (h1 : a.natAbs < 2 ^ 64) (h2 : b.natAbs < 2 ^ 64) (q : Q (.int (lcmI a b)) H) : rLcm [.int a, .int b] H Q := ⟨a, b, rfl, h1, h2, q⟩
theorem w_sum {K : PySem.W.Frag} {a : Addr} {ns : List Int} (h : SqL K H a (ns.map V.int)) (q : Q (.int ns.sum) H) : rSum K [.ref a] H Q := ⟨a, ns, rfl, h, q⟩
end
def upto (n : Int) : List Int := (List.range n.toNat).map fun (i : Nat) => (i : Int)
theorem upto_length {n : Int} : (upto n).length = n.toNat := by unfold upto; simp
theorem upto_get {n : Int} {i : Nat} (h : (i : Int) < n) : (upto n)[i]? = some (i : Int) := by
  unfold upto
  have : i < n.toNat := by omega
  simp [this]
theorem upto_some {n : Int} {i : Nat} {v : Int} (h : (upto n)[i]? = some v) : v = (i : Int) ∧ (i : Int) < n := by
  unfold upto at h
  rw [List.getElem?_map, Option.map_eq_some_iff] at h
  obtain ⟨j, hj, rfl⟩ := h
  have l := (List.getElem?_eq_some_iff.mp hj)
  obtain ⟨l1, l2⟩ := l
  simp at l1 l2
  omega
theorem rgV_upto {n : Int} : rgV 0 n = (upto n).map V.int := by
  unfold rgV upto
  rw [Int.sub_zero, List.map_map]
  refine List.map_congr_left fun i _ => ?_
  show V.int (0 + (i : Int)) = V.int (i : Int)
  rw [Int.zero_add]
theorem rgOk_small {n : Int} (h0 : 0 ≤ n) (h1 : n ≤ 100000) : RgOk 0 n := .of_le (by decide) (by omega) (by decide) h0
theorem forV {g : TG} {tb : TS} {D : Ends} {σ : L2.St} {H : Hp} {d : Addr} {o : Obj} {kvs : List (Key × V)} (Pv : Nat → L2.St → Hp → Prop) (h0 : Pv 0 σ H) (hS : ∀ i σ H', Pv i σ H' → H' d = some (.frz o (.dK kvs)))
    (hs : ∀ i k x σ H', kvs[i]? = some (k, x) → Pv i σ H' → g x σ H' fun σ2 H2 => tb { D with nx := Pv (i + 1), ct := Pv (i + 1), bk := D.nx } σ2 H2)
    (hd : ∀ σ H', Pv kvs.length σ H' → D.nx σ H') : ForG g tb D σ (Itd d o kvs) H := by
  refine for_it walk_values Pv h0 (fun i σ H' hi q => hS i σ H' q) (fun i v σ H' H'' hi q y => ?_) hd
  obtain ⟨e, k, hk⟩ := y
  subst e
  exact hs i k v σ _ hk q
theorem inV_strs {a : Str} : ∀ {ys : List Str}, inV (.str a) (ys.map V.str) = decide (a ∈ ys)
  | [] => by simp [inV]
  | y :: ys => by
    have ih := inV_strs (a := a) (ys := ys)
    unfold inV at *
    rw [List.map_cons, List.any_cons, ih]
    have e : eqV (.str y) (.str a) = decide (a = y) := by
      show (y == a) = decide (a = y)
      by_cases h : a = y
      · subst h; simp
      · have h2 : (y == a) = false := by
          cases q : (y == a) with
          | false => rfl
          | true => exact absurd (eq_of_beq q).symm h
        rw [h2]; simp [h]
    rw [e]
    by_cases h1 : a = y <;> by_cases h2 : a ∈ ys <;> simp [h1, h2]
theorem flat_strs (ys : List Str) : (ys.map V.str).all flatV = true := by simp [flatV]
section
variable {K : PySem.W.Frag} {H : Hp} {Q : VK} {a : Str} {p : Addr} {ys : List Str}
theorem w_inS (h : SqL K H p (ys.map V.str)) (q : Q (.bl (decide (a ∈ ys))) H) : rIn K false (.str a) (.ref p) H Q := ⟨p, _, rfl, .inl h, rfl, J.flat_strs ys, by rw [inV_strs]; exact q⟩
theorem w_niS (h : SqL K H p (ys.map V.str)) (q : Q (.bl (!decide (a ∈ ys))) H) : rIn K true (.str a) (.ref p) H Q := ⟨p, _, rfl, .inl h, rfl, J.flat_strs ys, by rw [inV_strs]; exact q⟩
end
/-! ### the part's words, its period -/
def wordsL (sq pu : Option Rws) : List Str := (tabL sq pu).map Prod.fst
theorem words_sorted {sq pu : Option Rws} {ys : List Str} (pm : ys.Perm (wordsL sq pu)) (so : sortedS ys = true) : ys = wordsL sq pu := by
  unfold wordsL tabL at *
  cases sq <;> cases pu <;> simp at pm ⊢
  · exact pm
  · exact pm
  · exact pm
  · match ys, pm.length_eq, pm, so with
    | [a, b], _, pm, so =>
      have ma := pm.mem_iff (a := a)
      have mb := pm.mem_iff (a := b)
      have m1 := pm.mem_iff (a := ("push" : Str))
      have m2 := pm.mem_iff (a := ("squeeze" : Str))
      simp at ma mb m1 m2
      rcases ma with rfl | rfl
      · rcases m2 with z | z
        · exact absurd z sp_ne
        · rw [← z]
      · exfalso
        rcases m1 with z | z
        · exact ps_ne z
        · subst z
          revert so
          decide +kernel
theorem ent_keys {C : Addr} {H : Hp} {N : Int} : ∀ {kvs : List (Key × V)} {T : List (Str × Rws)}, Paired (Ent C H N) kvs T → kvs.map (·.1) = (T.map Prod.fst).map Sum.inr
  | _, _, .nil => rfl
  | _, _, .cons ⟨e, _⟩ t => by rw [List.map_cons, List.map_cons, List.map_cons, ent_keys t, e]
theorem ent_at {C : Addr} {H : Hp} {N : Int} {kvs : List (Key × V)} {T : List (Str × Rws)} (h : Paired (Ent C H N) kvs T) {i : Nat} {k : Key} {x : V} (e : kvs[i]? = some (k, x)) : ∃ w rs t, T[i]? = some (w, rs) ∧ x = .ref t ∧ TurnAt C H t N rs := by
  obtain ⟨⟨w, rs⟩, a, _, t, e2, h2⟩ := paired_get h e
  exact ⟨w, rs, t, a, e2, h2⟩
theorem tab_one {sq pu : Option Rws} {w : Str} {rs rs' : Rws} (h : (w, rs) ∈ tabL sq pu) (h' : (w, rs') ∈ tabL sq pu) : rs = rs' := by
  rcases tab_word h with ⟨rfl, e⟩ | ⟨rfl, e⟩ <;> rcases tab_word h' with ⟨z, e'⟩ | ⟨z, e'⟩
  · rw [e] at e'; exact Option.some.inj e'
  · exact absurd z ps_ne
  · exact absurd z sp_ne
  · rw [e] at e'; exact Option.some.inj e'
theorem PartAt.tbl {K : PySem.W.Frag} {H : Hp} {x : Addr} {N : Int} {sq pu : Option Rws} (h : PartAt K H x N sq pu) (n2 : 2 ≤ N) (n360 : N ≤ 360) : TblOk N (tabL sq pu) := by
  obtain ⟨dx, d, kvs, g1, g2, g3⟩ := h
  refine ⟨n2, n360, fun q hq => ?_, fun w rs rs' => tab_one⟩
  obtain ⟨i, hi⟩ := List.getElem?_of_mem hq
  obtain ⟨p, _, _, t, _, ht⟩ := paired_get' g3 hi
  obtain ⟨_, _, _, _, _, _, _, _, _, _, R⟩ := ht
  exact R
/-- the period so far -/
def perTo (N : Int) (T : Tbl) (i : Nat) : Int := perF N 1 (T.take i)
theorem perF_append {N : Int} {q : Str × Rws} : ∀ {T : Tbl} {a : Int}, perF N a (T ++ [q]) = lcmI (perF N a T) (perR N q.2)
  | [], a => rfl
  | p :: T, a => perF_append (T := T)
theorem perTo_succ {N : Int} {T : Tbl} {i : Nat} {q : Str × Rws} (h : T[i]? = some q) : perTo N T (i + 1) = lcmI (perTo N T i) (perR N q.2) := by
  unfold perTo
  rw [List.take_add_one, h]
  exact perF_append
theorem TblOk.take {N : Int} {T : Tbl} (k : TblOk N T) (i : Nat) : TblOk N (T.take i) := ⟨k.n2, k.n360, fun q hq => k.rows q (List.mem_of_mem_take hq), fun w rs rs' h h' => k.one w rs rs' (List.mem_of_mem_take h) (List.mem_of_mem_take h')⟩
theorem TurnAt.lock {C : Addr} {H : Hp} {t d : Addr} {N : Int} {rs : Rws} {kvs : List (Key × V)} {o : HO} (hd : H d = some (.dK kvs)) (h : TurnAt C H t N rs) : TurnAt C (upd H d o) t N rs := by
  have kp : ∀ b u, b ≠ d → H b = some u → upd H d o b = some u := fun b u hb e => by rw [upd_ne hb]; exact e
  obtain ⟨dx', t', l', vs', ls', g1, g2, g3, g4, g5, g6⟩ := h
  exact ⟨dx', t', l', vs', ls', kp _ _ (ne_of g1 hd (by intro z; cases z)) g1, kp _ _ (ne_of g2 hd (by intro z; cases z)) g2, pairs_keep kp g3 (fun v hv q e => by
    obtain ⟨t2, a, b, e2, ht⟩ := pairs_mem g3 _ hv
    rw [e] at e2; cases e2
    exact ne_of ht hd (by intro z; cases z)), kp _ _ (ne_of g4 hd (by intro z; cases z)) g4, g5, g6⟩
theorem lcm_small {N : Int} {T : Tbl} (k : TblOk N T) {i : Nat} : (perTo N T i).natAbs < 2 ^ 64 := by
  have h := (k.take i).le
  have h0 := (k.take i).pos
  have := k.n360
  unfold perTo
  show (perP N (T.take i)).natAbs < _
  omega
theorem perR_small {N : Int} {rs : Rws} (R : Rows N rs) : (perR N rs).natAbs < 2 ^ 64 := by
  have h := period_ok R
  have := R.n360
  omega
theorem perTo_last {N : Int} {T : Tbl} {n : Nat} (h : T.length = n) : perTo N T n = perP N T := by unfold perTo; rw [← h, List.take_length]; rfl
/-! ### lists of what is left -/
/-- lists of ints at addresses other than p -/
def ListsAt (H : Hp) (p : Addr) (ps : List V) (nss : List (List Int)) : Prop := Paired (fun (v : V) (ns : List Int) => ∃ t, v = .ref t ∧ t ≠ p ∧ H t = some (.lst (ns.map V.int))) ps nss
theorem ListsAt.same {H H' : Hp} {p : Addr} {ps : List V} {nss : List (List Int)} (e : Same H H') (h : ListsAt H p ps nss) : ListsAt H' p ps nss := Paired.mapP h fun v ns ⟨t, a, b, c⟩ => ⟨t, a, b, e _ _ c⟩
theorem ListsAt.put {H : Hp} {p : Addr} {ps : List V} {nss : List (List Int)} {o : HO} (h : ListsAt H p ps nss) : ListsAt (upd H p o) p ps nss := Paired.mapP h fun v ns ⟨t, a, b, c⟩ => ⟨t, a, b, by rw [upd_ne b]; exact c⟩
/-- what is left ahead of the first deed and behind each -/
def LeftsAre (N : Int) (T : Tbl) (ds : List (Str × Int)) (n : Nat) (nss : List (List Int)) : Prop := nss.length = n + 1 ∧ ∀ i ns, nss[i]? = some ns → LeftIs N T (ds.take i) ns
theorem LeftsAre.snoc {N : Int} {T : Tbl} {ds : List (Str × Int)} {n : Nat} {nss : List (List Int)} {ns : List Int} (h : LeftsAre N T ds n nss) (h2 : LeftIs N T (ds.take (n + 1)) ns) : LeftsAre N T ds (n + 1) (nss ++ [ns]) := by
  refine ⟨by simp [h.1], fun i ms e => ?_⟩
  rcases Nat.lt_or_ge i nss.length with q | q
  · rw [List.getElem?_append_left q] at e
    exact h.2 i ms e
  · rw [List.getElem?_append_right q] at e
    have e0 : i - nss.length = 0 := by
      rcases Nat.eq_zero_or_pos (i - nss.length) with z | z
      · exact z
      · rw [List.getElem?_eq_none (by simp; omega)] at e; cases e
    rw [e0] at e
    have e2 : ns = ms := by simpa using e
    subst e2
    have : i = n + 1 := by have := h.1; omega
    subst this
    exact h2
theorem LeftsAre.last {N : Int} {T : Tbl} {ds : List (Str × Int)} {nss : List (List Int)} (h : LeftsAre N T ds ds.length nss) : ∃ ns, nss.getLast? = some ns ∧ LeftIs N T ds ns := by
  have hl := h.1
  have hi : ds.length < nss.length := by omega
  refine ⟨nss[ds.length], ?_, ?_⟩
  · rw [List.getLast?_eq_getElem?, show nss.length - 1 = ds.length by omega]; simp [hi]
  · have := h.2 ds.length nss[ds.length] (by simp [hi])
    rwa [List.take_length] at this
theorem atI_last2 {xs : List V} {v : V} (h : xs.getLast? = some v) : atI xs (-1) = some v := by
  obtain ⟨ys, rfl⟩ := List.getLast?_eq_some_iff.mp h
  exact atI_last _ _
theorem paired_last {α β : Type} {F : α → β → Prop} {xs : List α} {ys : List β} {y : β} (h : Paired F xs ys) (e : ys.getLast? = some y) : ∃ x, xs.getLast? = some x ∧ F x y := by
  have l := Paired.length h
  rw [List.getLast?_eq_getElem?] at e
  obtain ⟨x, a, b⟩ := paired_get' h e
  exact ⟨x, by rw [List.getLast?_eq_getElem?, l]; exact a, b⟩
theorem pfs_settled (N : Int) (d : Addr) : (pfs N d).lookup ("settled" : Str) = none := by kernel_rfl
theorem pfs_rests (N : Int) (d : Addr) : (pfs N d).lookup ("rests" : Str) = none := by kernel_rfl
/-- a cut whose two ends come to one integer -/
def Joins (N : Int) (T : Tbl) (ds : List (Str × Int)) (x : Int) : Prop := ∃ y, CarT N T ds x y ∧ CarT N T ds (x + perP N T - 1) y
def JointIs (N : Int) (T : Tbl) (ds : List (Str × Int)) (v : V) : Prop := (∃ x, v = .int x ∧ 0 ≤ x ∧ x < perP N T ∧ Joins N T ds x ∧ ∀ z, 0 ≤ z → z < x → ¬ Joins N T ds z) ∨ (v = .non ∧ ∀ z, 0 ≤ z → z < perP N T → ¬ Joins N T ds z)
theorem cut_lastI {xs : List V} (h : 1 ≤ xs.length) : cutV xs (some (-1)) none = xs.drop (xs.length - 1) := by
  unfold cutV
  have e1 : HT.sIx xs.length 0 (some (-1)) = xs.length - 1 := by
    unfold HT.sIx
    simp
    omega
  have e2 : HT.sIx xs.length xs.length none = xs.length := by
    unfold HT.sIx
    simp
  rw [e1, e2, List.take_of_length_le (by simp)]
theorem cut_frontI {xs : List V} (h : 1 ≤ xs.length) : cutV xs none (some (-1)) = xs.take (xs.length - 1) := by
  unfold cutV
  have e1 : HT.sIx xs.length 0 none = 0 := by
    unfold HT.sIx
    simp
  have e2 : HT.sIx xs.length xs.length (some (-1)) = xs.length - 1 := by
    unfold HT.sIx
    simp
    omega
  rw [e1, e2, List.drop_zero, Nat.sub_zero]
def lastsL (s : Int) (ys : List Int) : List Int := ys.drop (ys.length - 1) ++ (ys.take (ys.length - 1)).map (· + s)
theorem lasts_get {N : Int} {sq pu : Option Rws} {ds : List (Str × Int)} {ys : List Int} (ok : TblOk N (tabL sq pu)) (hc : Cars N sq pu ds (upto (perP N (tabL sq pu))) ys) {i : Nat} (hi : (i : Int) < perP N (tabL sq pu)) :
    ∃ a u, ys[i]? = some a ∧ (lastsL (perP N (tabL sq pu)) ys)[i]? = some u ∧ CarT N (tabL sq pu) ds i a ∧ CarT N (tabL sq pu) ds (i + perP N (tabL sq pu) - 1) u := by
  have s0 := ok.pos
  have hl : ys.length = (perP N (tabL sq pu)).toNat := by rw [hc.1, upto_length]
  have at_ : ∀ j : Nat, (j : Int) < perP N (tabL sq pu) → ∃ a, ys[j]? = some a ∧ CarT N (tabL sq pu) ds j a := fun j hj => by
    have lt : j < ys.length := by omega
    exact ⟨ys[j], by simp [lt], carT_iff.mp (hc.2 j j ys[j] (upto_get hj) (by simp [lt]))⟩
  obtain ⟨a, ha, ca⟩ := at_ i hi
  unfold lastsL
  have ld : (ys.drop (ys.length - 1)).length = 1 := by rw [List.length_drop]; omega
  cases i with
  | zero =>
    obtain ⟨u, hu, cu⟩ := at_ (ys.length - 1) (by omega)
    refine ⟨a, u, ha, ?_, ca, ?_⟩
    · rw [List.getElem?_append_left (by omega), List.getElem?_drop]
      simpa using hu
    · have e : ((0 : Nat) : Int) + perP N (tabL sq pu) - 1 = ((ys.length - 1 : Nat) : Int) := by omega
      rw [e]; exact cu
  | succ j =>
    obtain ⟨u, hu, cu⟩ := at_ j (by omega)
    refine ⟨a, u + perP N (tabL sq pu), ha, ?_, ca, ?_⟩
    · rw [List.getElem?_append_right (by omega), ld, List.getElem?_map, List.getElem?_take_of_lt (by omega)]
      simp [hu]
    · have := cu.shift ok (Int.dvd_refl _)
      have e : ((j + 1 : Nat) : Int) + perP N (tabL sq pu) - 1 = (j : Int) + perP N (tabL sq pu) := by omega
      rw [e]; exact this
theorem joins_iff {N : Int} {sq pu : Option Rws} {ds : List (Str × Int)} {i a u : Int} (ok : TblOk N (tabL sq pu)) (h1 : CarT N (tabL sq pu) ds i a) (h2 : CarT N (tabL sq pu) ds (i + perP N (tabL sq pu) - 1) u) : Joins N (tabL sq pu) ds i ↔ a = u := by
  constructor
  · rintro ⟨y, c1, c2⟩
    rw [h1.unique ok c1, h2.unique ok c2]
  · rintro rfl
    exact ⟨a, h1, h2⟩
end J
namespace J
open PySem PySem.Spec PyProof.Rows L2
/-! ### sums over a lap; nearer standings -/
def sumTo (g : Nat → Int) : Nat → Int
  | 0 => 0
  | n + 1 => sumTo g n + g n
theorem sumTo_list (g : Nat → Int) : ∀ n, ((List.range n).map g).sum = sumTo g n
  | 0 => rfl
  | n + 1 => by rw [List.range_succ, List.map_append, List.sum_append, sumTo_list g n]; simp [sumTo]
theorem sumTo_sub (g h : Nat → Int) : ∀ n, sumTo (fun i => g i - h i) n = sumTo g n - sumTo h n
  | 0 => rfl
  | n + 1 => by
    show sumTo (fun i => g i - h i) n + (g n - h n) = (sumTo g n + g n) - (sumTo h n + h n)
    rw [sumTo_sub g h n]; omega
theorem sumTo_congr {g h : Nat → Int} : ∀ {n}, (∀ i, i < n → g i = h i) → sumTo g n = sumTo h n
  | 0, _ => rfl
  | n + 1, e => by
    show sumTo g n + g n = sumTo h n + h n
    rw [sumTo_congr fun i hi => e i (Nat.lt_succ_of_lt hi), e n (Nat.lt_succ_self n)]
theorem sumTo_up (f : Int → Int) (l : Int) : ∀ n : Nat, sumTo (fun i => f (l + 1 + i)) n = sumTo (fun i => f (l + i)) n + f (l + n) - f l
  | 0 => by show (0 : Int) = 0 + f (l + 0) - f l; rw [Int.add_zero]; omega
  | n + 1 => by
    show sumTo (fun i => f (l + 1 + i)) n + f (l + 1 + n) = sumTo (fun i => f (l + i)) n + f (l + n) + f (l + ((n + 1 : Nat) : Int)) - f l
    rw [sumTo_up f l n]
    have e : l + 1 + (n : Int) = l + ((n + 1 : Nat) : Int) := by omega
    rw [e]; omega
theorem sumTo_down (f : Int → Int) (y : Int) : ∀ n : Nat, sumTo (fun i => f (y + 1 - i)) n = sumTo (fun i => f (y - i)) n + f (y + 1) - f (y + 1 - n)
  | 0 => by show (0 : Int) = 0 + f (y + 1) - f (y + 1 - 0); rw [Int.sub_zero]; omega
  | n + 1 => by
    show sumTo (fun i => f (y + 1 - i)) n + f (y + 1 - n) = sumTo (fun i => f (y - i)) n + f (y - n) + f (y + 1) - f (y + 1 - ((n + 1 : Nat) : Int))
    rw [sumTo_down f y n]
    have e : y + 1 - ((n + 1 : Nat) : Int) = y - n := by omega
    rw [e]; omega
/-- over a lap the distances of pairs l apart sum to l laps -/
theorem sum_up {f : Int → Int} {s : Nat} (hf : ∀ x, f (x + s) = f x + s) : ∀ l : Nat, sumTo (fun i => f ((l : Int) + i) - f i) s = l * (s : Int)
  | 0 => by
    rw [sumTo_congr (h := fun _ => 0) fun i _ => by simp]
    have : ∀ n, sumTo (fun _ => 0) n = 0 := fun n => by
      induction n with
      | zero => rfl
      | succ n ih => show sumTo (fun _ => 0) n + 0 = 0; rw [ih]; rfl
    rw [this]; simp
  | l + 1 => by
    have ih := sum_up hf l
    rw [sumTo_sub] at ih
    rw [sumTo_sub]
    have e : sumTo (fun i => f (((l + 1 : Nat) : Int) + i)) s = sumTo (fun i => f ((l : Int) + 1 + i)) s := sumTo_congr fun i _ => by rw [show ((l + 1 : Nat) : Int) = (l : Int) + 1 by omega]
    rw [e, sumTo_up f l s, hf l]
    have : ((l + 1 : Nat) : Int) * s = l * (s : Int) + s := by rw [show ((l + 1 : Nat) : Int) = (l : Int) + 1 by omega, Int.add_mul, Int.one_mul]
    omega
theorem sum_down {f : Int → Int} {s : Nat} (hf : ∀ x, f (x + s) = f x + s) (lo : Int) : ∀ d : Nat, sumTo (fun i => f (lo + d - i) - f (lo - i)) s = d * (s : Int)
  | 0 => by
    rw [sumTo_congr (h := fun _ => 0) fun i _ => by simp]
    have : ∀ n, sumTo (fun _ => 0) n = 0 := fun n => by
      induction n with
      | zero => rfl
      | succ n ih => show sumTo (fun _ => 0) n + 0 = 0; rw [ih]; rfl
    rw [this]; simp
  | d + 1 => by
    have ih := sum_down hf lo d
    rw [sumTo_sub] at ih
    rw [sumTo_sub]
    have e : sumTo (fun i => f (lo + ((d + 1 : Nat) : Int) - i)) s = sumTo (fun i => f (lo + d + 1 - i)) s := sumTo_congr fun i _ => by rw [show lo + ((d + 1 : Nat) : Int) = lo + d + 1 by omega]
    rw [e, sumTo_down f (lo + d) s]
    have := hf (lo + d + 1 - s)
    rw [show lo + d + 1 - (s : Int) + s = lo + d + 1 by omega] at this
    have : ((d + 1 : Nat) : Int) * s = d * (s : Int) + s := by rw [show ((d + 1 : Nat) : Int) = (d : Int) + 1 by omega, Int.add_mul, Int.one_mul]
    omega
theorem sum_ge {g : Nat → Int} {d : Int} : ∀ {n : Nat}, (∀ i, i < n → d ≤ g i) → n * d ≤ sumTo g n
  | 0, _ => by show (0 : Int) * d ≤ 0; rw [Int.zero_mul]; exact Int.le_refl _
  | n + 1, h => by
    have ih := sum_ge (g := g) (n := n) fun i hi => h i (Nat.lt_succ_of_lt hi)
    have h2 := h n (Nat.lt_succ_self n)
    show ((n + 1 : Nat) : Int) * d ≤ sumTo g n + g n
    rw [show ((n + 1 : Nat) : Int) = (n : Int) + 1 by omega, Int.add_mul, Int.one_mul]
    omega
theorem sum_all {g : Nat → Int} {d : Int} : ∀ {n : Nat}, (∀ i, i < n → d ≤ g i) → sumTo g n = n * d → ∀ i, i < n → g i = d
  | 0, _, _, i, hi => absurd hi (Nat.not_lt_zero i)
  | n + 1, h, e, i, hi => by
    have ge := sum_ge (g := g) (n := n) fun i hi => h i (Nat.lt_succ_of_lt hi)
    have h2 := h n (Nat.lt_succ_self n)
    have e' : sumTo g n + g n = ((n + 1 : Nat) : Int) * d := e
    rw [show ((n + 1 : Nat) : Int) = (n : Int) + 1 by omega, Int.add_mul, Int.one_mul] at e'
    rcases Nat.lt_succ_iff_lt_or_eq.mp hi with z | rfl
    · exact sum_all (n := n) (fun i hi => h i (Nat.lt_succ_of_lt hi)) (by omega) i z
    · omega
theorem lift_fn {N : Int} {rs : Rws} (R : Rows N rs) : ∃ f : Int → Int, (∀ x, IsLift N rs x (f x)) ∧ ∀ x y, IsLift N rs x y → y = f x := by
  refine ⟨fun x => (R.lift x).choose, fun x => (R.lift x).choose_spec, fun x y h => IsLift.unique R h (R.lift x).choose_spec⟩
/-- two standings apart by less than the period are brought nearer by some deed -/
theorem near_ex {N : Int} {T : Tbl} (k : TblOk N T) {lo hi : Int} (h0 : lo < hi) (h1 : hi - lo < perP N T) (hn : ∀ w rs, (w, rs) ∈ T → ∀ c : Int, 0 ≤ c → c < perP N T → ∀ a b, IsLift N rs (lo - c) a → IsLift N rs (hi - c) b → ¬ (b + c - (a + c) < hi - lo)) : False := by
  have s0 := k.pos
  have dv : perP N T ∣ hi - lo := by
    refine k.dvd.mpr fun q hq => ?_
    obtain ⟨w, rs⟩ := q
    have R : Rows N rs := k.rows _ hq
    obtain ⟨f, hf, uf⟩ := lift_fn R
    have kp : Keeps N rs (perP N T) := k.dvd.mp (Int.dvd_refl _) _ hq
    have fs : ∀ x, f (x + perP N T) = f x + perP N T := fun x => (uf _ _ (kp _ _ (hf x))).symm
    have es : ((perP N T).toNat : Int) = perP N T := by omega
    have ed : ((hi - lo).toNat : Int) = hi - lo := by omega
    have tot := sum_down (f := f) (s := (perP N T).toNat) (fun x => by rw [es]; exact fs x) lo (hi - lo).toNat
    rw [ed, es] at tot
    have ge : ∀ i : Nat, i < (perP N T).toNat → hi - lo ≤ f (lo + (hi - lo) - i) - f (lo - i) := fun i hi' => by
      have := hn w rs hq i (by omega) (by omega) _ _ (hf _) (hf _)
      rw [show lo + (hi - lo) - (i : Int) = hi - i by omega]
      omega
    have all := sum_all ge (by rw [tot, es, Int.mul_comm])
    intro x y hx
    obtain ⟨c, hc⟩ : ∃ c : Int, c = (lo - x) % perP N T := ⟨_, rfl⟩
    have c0 := Int.emod_nonneg (lo - x) (show perP N T ≠ 0 by omega)
    have c1 := Int.emod_lt_of_pos (lo - x) s0
    rw [← hc] at c0 c1
    have e1 := all c.toNat (by omega)
    have ec : ((c.toNat : Nat) : Int) = c := by omega
    rw [ec] at e1
    have sh : Keeps N rs (perP N T * ((lo - x) / perP N T)) := k.dvd.mp (Int.dvd_mul_right ..) _ hq
    have e2 : lo - c = x + perP N T * ((lo - x) / perP N T) := by
      have := Int.emod_add_mul_ediv (lo - x) (perP N T)
      omega
    have e3 : lo + (hi - lo) - c = x + (hi - lo) + perP N T * ((lo - x) / perP N T) := by omega
    have f1 := uf _ _ (sh _ _ hx)
    rw [← e2] at f1
    have f2 := uf _ _ (sh _ _ (hf (x + (hi - lo))))
    rw [← e3] at f2
    have e4 : f (x + (hi - lo)) = y + (hi - lo) := by omega
    rw [← e4]
    exact hf _
  have := Int.le_of_dvd (by omega) dv
  omega
end J
namespace J
open PySem PySem.Spec PyProof.Rows L2
/-! ### slice objects: their class's name; an own object sliced -/
local macro_rules | `(tactic| walk_at "js") => `(tactic| (repeat (any_goals (first | wp_step | assumption))))
theorem slGa : Slot "slice" "__getattribute__" "slice.__getattribute__" :=
  Slot.of (owner := "slice") (n := "__getattribute__") (by rw [typeLookup_type, builtinLookup_eq_fast]; kernel_rfl) (by decide +kernel) (by decide +kernel)
    (by decide +kernel) (by first | exact .inr (by decide +kernel) | exact .inl (by decide +kernel)) (by rw [isSubtype_type]; kernel_rfl)
theorem enGa : entryFor table "slice.__getattribute__" = some Builtin.«object.__getattribute__» := entryFor_alias (id' := "object.__getattribute__") (by kernel_rfl) (by first | decide +kernel | rfl) (by decide +kernel) (by kernel_rfl)
theorem arGa (a b : Value) : argsOk "slice.__getattribute__" ⟨[a, b], []⟩ := by
  unfold argsOk
  kernel_rfl
theorem lkCls : typeLookup (.type "slice") "__class__" = pure (some (.builtin "object.__class__")) := by
  rw [typeLookup_type, builtinLookup_eq_fast]
  kernel_rfl
theorem suCls : isSubtype (.type "slice") (.type (".".intercalate ("object.__class__".cutAt '.').dropLast)) = pure true := by
  rw [F.owner_object_class, isSubtype_type]
  kernel_rfl
section
variable {prog : Program} {w : World} {A : Around} {E : Value → Shared → Prop} {h : Heap} {g : Array GenState} {d : Drawn} {t : Nat} {os : OsState} {a : Addr} {o : Obj}
theorem cls_get {R : Result → Shared → Prop} (hx : h.get? a = some o) (hc : o.cls = .type "slice") (hq : R (.ok (.ret (.type "slice"))) ⟨h, g, d, t, os⟩) :
    codeAny (model prog w) A (.call (.builtin "getset_descriptor.__get__") ⟨[.builtin "object.__class__", .ref a, .type "slice"], []⟩) R ⟨h, g, d, t, os⟩ := by
  have y1 : (⟨h, g, d, t, os⟩ : Shared).TypeIs (.ref a) "slice" := ⟨_, hx, hc⟩
  have y2 : (⟨h, g, d, t, os⟩ : Shared).TypeIs (.builtin "object.__class__") "getset_descriptor" := F.typeOf_object_class
  have y3 := suCls
  refine codeAny_call_builtin F.slot_gs_get.plain F.entry_gs_get (F.slot_gs_get.check _ _ _ _ _ _ _ _ y2 (F.args_gs_get ..) ?_)
  walk_at "js"
  refine ⟨Code.quiet_builtin _ (by decide +kernel), codeAny_builtin F.entry_object_class ?_⟩
  walk_at "js"
theorem cls_run {k : Tok} {Q : Fin → Shared → Prop} (hx : h.get? a = some o) (hc : o.cls = .type "slice") (hq : Q (.done (.ret (.type "slice"))) ⟨h, g, d, t, os⟩) :
    wpAny (model prog w) A (Builtin.«object.__getattribute__» ⟨[.ref a, .str "__class__" k], []⟩) Q E ⟨h, g, d, t, os⟩ := by
  have y1 : (⟨h, g, d, t, os⟩ : Shared).TypeIs (.ref a) "slice" := ⟨_, hx, hc⟩
  have y2 : (⟨h, g, d, t, os⟩ : Shared).TypeIs (.builtin "object.__class__") "getset_descriptor" := F.typeOf_object_class
  have y4 := lkCls
  have y5 := F.typeOf_object_class
  have y6 := F.slot_gs_get.lookup
  have y7 := F.slot_gs_set.lookup
  walk_at "js"
  refine cls_get hx hc ?_
  walk_at "js"
theorem cls_call {k : Tok} {R : Result → Shared → Prop} (hx : h.get? a = some o) (hc : o.cls = .type "slice") (hq : R (.ok (.ret (.type "slice"))) ⟨h, g, d, t, os⟩) :
    codeAny (model prog w) A (.call (.builtin "slice.__getattribute__") ⟨[.ref a, .str "__class__" k], []⟩) R ⟨h, g, d, t, os⟩ :=
  codeAny_call_builtin slGa.plain enGa (slGa.check _ _ _ _ _ _ _ _ (show (⟨h, g, d, t, os⟩ : Shared).TypeIs (.ref a) "slice" from ⟨_, hx, hc⟩) (arGa ..) (cls_run hx hc hq))
theorem cls_by {k : Tok} {ex : Bool} {Q : Value → Shared → Prop} (hx : h.get? a = some o) (hc : o.cls = .type "slice") (hq : Q (.type "slice") ⟨h, g, d, t, os⟩) : wpAny (model prog w) A (getAttrBy (.ref a) (.str "__class__" k) true ex) Q E ⟨h, g, d, t, os⟩ := by
  have y1 : (⟨h, g, d, t, os⟩ : Shared).TypeIs (.ref a) "slice" := ⟨_, hx, hc⟩
  have y8 := slGa.lookup
  have y9 := slGa.bind (.ref a)
  walk_at "js"
  have no : (ex && onTheHeap (Value.builtin "slice.__getattribute__")) = false := by cases ex <;> rfl
  rw [no, if_neg Bool.false_ne_true]
  walk_at "js"
  refine cls_call hx hc ?_
  dsimp only
  exact PySem.W.handed_on rfl hq
theorem cls_attr {ex : Bool} {Q : Value → Shared → Prop} (hx : h.get? a = some o) (hc : o.cls = .type "slice") (hq : ∀ u, Q (.type "slice") ⟨h, g, d, u, os⟩) : wpAny (model prog w) A (getAttr (.ref a) "__class__" ex) Q E ⟨h, g, d, t, os⟩ := by
  unfold getAttr
  exact wpAny_bind (wpAny_mkText (cls_by hx hc (hq _)))
end
theorem name_attr {prog : Program} {w : World} {A : Around} {E : Value → Shared → Prop} {s : Shared} {K : PySem.W.Frag} {ex : Bool} {Q : Value → Shared → Prop} (X : K.In s.heap) (hq : ∀ k u, Q (.str "slice" k) { s with toks := u }) : wpAny (model prog w) A (getAttr (.type "slice") "__name__" ex) Q E s := by
  have o1 : opaqueClassAbove (.type "slice") = pure none := by
    unfold opaqueClassAbove
    dsimp only
    rw [show Manifest.isStub "slice" = false by decide +kernel]
    rfl
  have m1 : PySem.W.kitMeta "slice" = true := by decide +kernel
  have g1 : PySem.W.findIn K (.type "type") "__getattribute__" = some (some (.builtin "type.__getattribute__")) := PySem.W.type_tga
  have q1 : PySem.W.ktynFast "slice" = "slice" := by kernel_rfl
  have l1 : (Str.ofString "slice").length ≤ sizeLine := by decide +kernel
  have e1 : PySem.W.findCls K (.type "slice") (.type "type") "__name__" = some (.get (.builtin "getset_descriptor.__get__") (.builtin "type.__name__") (.type "slice") (.type "type")) := by kernel_rfl
  refine PySem.W.cls_open X (PySem.W.Looks.of_pure o1) (PySem.W.Looks.of_pure (PySem.W.kitMeta_of m1)) g1 (PySem.W.looks_hook X (r := none) (by rfl)) (by show PySem.W.subIn K _ _ = _; rfl) e1 ?_
  show wpAny _ _ (do ret (← holding [Value.builtin "type.__name__"] (call (.builtin "getset_descriptor.__get__") [.builtin "type.__name__", .type "slice", .type "type"]))) _ _ _
  refine wpAny_bind (wpAny_holding (wpAny_call (PySem.W.ktyn_get (s := { s with toks := s.toks + 1 }) (PySem.W.kitMeta_of m1) q1 l1 ?_)))
  exact wpAny_pure (PySem.W.handed_on rfl (hq _ _))
/-- a slice object, its ends as told -/
def slcO (a : Addr) (lo hi : Option Int) : HO := .ext fun h => ∃ vl vu, h.IsSliceOf a vl vu .none ∧ IsPart vl lo ∧ IsPart vu hi
def jClsName (te : TE) : TE := fun σ H Q => te σ H fun x H1 => ∃ a lo hi, x = .ref a ∧ H1 a = some (slcO a lo hi) ∧ Q (.str "slice") H1
/-- o[lo:hi], o of an own class -/
def jCutG (C : Addr) (sp : Sp) (te : TE) (tl th : TO) : TE := fun σ H Q => te σ H fun x H1 => tl σ H1 fun l H2 => th σ H2 fun u H3 => ∀ i, H3 i = none → ∃ a dx fs, x = .ref a ∧ H3 a = some (.ins C dx fs) ∧ sp [.ref a, .ref i] (upd H3 i (slcO i l u)) Q E0
/-- t[i], i a slice object -/
def jCutT (K : PySem.W.Frag) (te ti : TE) : TE := fun σ H Q => te σ H fun x H1 => ti σ H1 fun y H2 => ∃ i lo hi, y = .ref i ∧ H2 i = some (slcO i lo hi) ∧ rSlA K x lo hi H2 Q
section
variable {X : Cx} {e ei : Expr} {te ti : TE} {pos p1 p2 : Pos}
theorem pe_clsName (he : PE X e te) (hb1 : attributeBase e "__class__" X.env (eval e X.env) = eval e X.env := by rfl) (hb2 : attributeBase (.Attribute e "__class__" p1) "__name__" X.env (eval (.Attribute e "__class__" p1) X.env) = eval (.Attribute e "__class__" p1) X.env := by rfl) :
    PE X (.Attribute (.Attribute e "__class__" p1) "__name__" p2) (jClsName te) := by
  refine ⟨fun pins s σ H Q I h => ?_⟩
  refine attr_of hb2 (attr_of hb1 (thn (he.run pins s σ H _ I h) fun u s1 q1 => ?_))
  obtain ⟨x, H1, I1, rx, a, lo, hi, rfl, ha, q⟩ := q1
  obtain rfl : u = Value.ref a := rx
  obtain ⟨⟨vl, vu, ⟨ob, ho, hc, _⟩, _, _⟩, _⟩ := I1.hok a _ ha
  obtain ⟨hp, g, d, t, os⟩ := s1
  refine cls_attr ho hc fun u1 => ?_
  refine name_attr (K := X.K) I1.kIn fun k u2 => ?_
  exact ⟨.str "slice", H1, I1.kept (t' := u2) fun _ _ z => z, ⟨k, rfl⟩, q⟩
theorem pe_cutT (he : PE X e te) (hi : PE X ei ti) (hs : ∀ o i, subscripted ei false o i = operate [o, i] (getItem o i) := by intro _ _; rfl) : PE X (.Subscript e ei pos) (jCutT X.K te ti) := by
  refine ⟨fun pins s σ H Q I h => ?_⟩
  refine PyProof.Rows.Subscript_ (binT he hi I h fun v u s2 x y H2 I2 rx ry q => ?_)
  obtain ⟨i, lo, hi', rfl, ha, q⟩ := q
  obtain rfl : u = Value.ref i := ry
  obtain ⟨⟨vl, vu, hsl, pl, pu⟩, _⟩ := I2.hok i _ ha
  obtain ⟨T, id, hT, ht, hg⟩ := sl_tupA pins s2 σ H2 x v vl vu lo hi' i Q I2 rx hsl pl pu q
  exact tail_any (ops := [v, .ref i]) ht hT hg (hs _ _)
/-- o[i] through getItem, o of an own class -/
theorem item_own {M : Model} {A : Around} {E : Value → Shared → Prop} {s : Shared} {K : PySem.W.Frag} {x C f : Addr} {ox : Obj} {od : Option Obj} {v : Value} {Q : Value → Shared → Prop} (kin : K.In s.heap) (at_ : PySem.W.InstAt s.heap x ox C od) (hq : PySem.W.noSeq K C = true)
    (hs : PySem.W.findIn K (.ref C) "__getitem__" = some (some (.ref f))) (hf : PySem.W.typeIn K (.ref f) = some (.type "function")) (h : wpAny M A (call (.ref f) [.ref x, v]) Q E s) : wpAny M A (getItem (.ref x) v) Q E s := by
  unfold getItem sequenceKey
  refine wpAny_holding ?_
  refine wpAny_bind (wpAny_bind (at_.type.here (wpAny_bind ((PySem.W.anyM_none kin hq).here ?_))))
  rw [if_pos (show (!false) = true from rfl)]
  refine wpAny_pure (wpAny_bind (PySem.W.special_fn kin at_ hs hf (wpAny_mono h (fun _ _ z => ?_) fun _ _ z => z)))
  exact wpAny_pure z
theorem pe_cutG {C : Addr} {k : Nat} {qual : Str} {st : Stmt} {ps : List Str} {sp : Sp} {lo hi : Option Expr} {tl th : TO} {p3 : Pos} (he : PE X e te) (hl : PO X lo tl) (hu : PO X hi th) (cm : CalM X.prog X.w X.K X.mg X.base k C "__getitem__" qual st ps sp) (hsub : SubF X.K C) (hq : PySem.W.noSeq X.K C = true) (hr : Room k X.A)
    (hsl : ∀ o i, subscripted (.Slice lo hi none p3) true o i = operate [i, o] (getItem o i) := by intro _ _; rfl) : PE X (.Subscript e (.Slice lo hi none p3) pos) (jCutG C sp te tl th) := by
  obtain ⟨f, fd, hm, hb, F, _⟩ := cm.ex
  refine ⟨fun pins s σ H Q I h => ?_⟩
  refine Subscript_ (thn (he.run pins s σ H _ I h) fun v s1 z1 => ?_)
  obtain ⟨x, H1, I1, r1, q1⟩ := z1
  refine wpAny_Slice (thn (hl.run pins s1 σ H1 _ I1 q1) fun vl s2 z2 => ?_)
  obtain ⟨l, H2, I2, pl, q2⟩ := z2
  refine thn (hu.run pins s2 σ H2 _ I2 q2) fun vu s3 z3 => ?_
  obtain ⟨u, H3, I3, pu, q3⟩ := z3
  rw [evalPart_none]
  refine wpAny_pure ?_
  have nf : H3 s3.heap.objs.size = none := I3.hok.fresh (Nat.le_refl _)
  obtain ⟨a, dx, fs, rfl, ea, q⟩ := q3 _ nf
  obtain rfl : v = Value.ref a := r1
  have sl := Heap.IsSliceOf.new s3.heap vl vu .none
  have ob : ObjOk X.prog X.w (upd H3 s3.heap.objs.size (slcO s3.heap.objs.size l u)) (s3.heap.push { cls := .type "slice", data := .fields #[vl, vu, .none] }) s3.heap.objs.size (slcO s3.heap.objs.size l u) := by
    have sl' := sl
    obtain ⟨o, ho, hc, hd⟩ := sl'
    exact ⟨⟨vl, vu, sl, pl, pu⟩, ⟨o, ho⟩, fun h1 h2 y kk => by
      obtain ⟨vl', vu', ⟨o', ho', hc', hd'⟩, p1', p2'⟩ := y
      exact ⟨vl', vu', ⟨o', kk _ ho', hc', hd'⟩, p1', p2'⟩⟩
  have I4 := I3.laid (t' := s3.toks) (fun b u e => Heap.get?_push_of_some _ e) (Nat.le_refl _) ob
  have ea4 : upd H3 s3.heap.objs.size (slcO s3.heap.objs.size l u) a = some (.ins C dx fs) := by rw [upd_ne (ne_of_none ea nf)]; exact ea
  obtain ⟨mA, O, _, _, _, _⟩ := ins_get I4.hok ea4
  obtain ⟨od, J, _⟩ := O.look
  have hf := hsub f hm.at_
  have r : Vals [V.ref a, .ref s3.heap.objs.size] [Value.ref a, .ref s3.heap.objs.size] := .cons rfl (.cons rfl .nil)
  have len : ([Value.ref a, .ref s3.heap.objs.size] ++ []).length = ps.length := by rw [← F.len _ _ _ _ q]; rfl
  have main : wpAny (model X.prog X.w) X.A (call (.ref f) [.ref a, .ref s3.heap.objs.size]) (EP X pins σ Q) X.xe { s3 with heap := s3.heap.push { cls := .type "slice", data := .fields #[vl, vu, .none] } } := by
    refine wpAny_call (codeAny_mono (F.run X.A X.stack _ _ ⟨[.ref a, .ref s3.heap.objs.size], []⟩ ([.ref a, .ref s3.heap.objs.size] ++ []) [.ref a, .ref s3.heap.objs.size] Q E0 hr I4.env0 (hb _ [.ref a, .ref s3.heap.objs.size] I4.kIn len) r q) fun r s' hq' => ?_)
    cases r with
    | error er => exact pass0 (X := X) pins σ _ _ er s' I4 hq'
    | ok fl =>
      cases fl with
      | ret u => exact I4.after hq'
      | next => exact hq'.elim
      | brk => exact hq'.elim
      | cont => exact hq'.elim
  unfold PySem.W.fnIn at hf
  split at hf
  · rename_i e0
    unfold PyProof.Rows.subscriptTail getitemInPython
    refine wpAny_bind (wpAny_bind (wpAny_bind (J.type.here ((PySem.W.looks_findIn I4.kIn hm.at_).here ?_))))
    dsimp only
    refine wpAny_bind (wpAny_load (I4.kIn _ _ e0) (wpAny_pure ?_))
    dsimp only
    rw [hsl]
    refine wpAny_bind (wpAny_operating ?_)
    refine item_own I4.kIn J hq hm.at_ (beq_iff_eq.mp hm.fn) (wpAny_mono main (fun v s' z => ?_) fun _ _ z => z)
    exact wpAny_bind (wpAny_letTemporaryGo (wpAny_pure z))
  · cases hf
end
theorem w_clsName {te : TE} {σ : L2.St} {H : Hp} {Q : VK} (h : te σ H fun x H1 => ∃ a lo hi, x = .ref a ∧ H1 a = some (slcO a lo hi) ∧ Q (.str "slice") H1) : jClsName te σ H Q := h
theorem w_cutG {C : Addr} {sp : Sp} {te : TE} {tl th : TO} {σ : L2.St} {H : Hp} {Q : VK} (h : te σ H fun x H1 => tl σ H1 fun l H2 => th σ H2 fun u H3 => ∀ i, H3 i = none → ∃ a dx fs, x = .ref a ∧ H3 a = some (.ins C dx fs) ∧ sp [.ref a, .ref i] (upd H3 i (slcO i l u)) Q E0) : jCutG C sp te tl th σ H Q := h
theorem w_cutT {K : PySem.W.Frag} {te ti : TE} {σ : L2.St} {H : Hp} {Q : VK} (h : te σ H fun x H1 => ti σ H1 fun y H2 => ∃ i lo hi, y = .ref i ∧ H2 i = some (slcO i lo hi) ∧ rSlA K x lo hi H2 Q) : jCutT K te ti σ H Q := h
end J
namespace J
open PySem PySem.Spec PyProof.Rows L2
/-! ### an own operator between two of one class -/
def rOwn (C : Addr) (sp : Sp) : R2 := fun x y H Q => ∃ a b dx dy fs gs, x = .ref a ∧ y = .ref b ∧ H a = some (.ins C dx fs) ∧ H b = some (.ins C dy gs) ∧ sp [.ref a, .ref b] H (fun v H' => (∃ r, v = .ref r) ∧ Q v H') E0
theorem op_own {X : Cx} {op : Operator} {C : Addr} {k : Nat} {qual : Str} {st : Stmt} {ps : List Str} {sp : Sp} (cm : CalM X.prog X.w X.K X.mg X.base k C (PySem.dunder op.info.2) qual st ps sp) (hc : PySem.W.selfFirst X.K C = true) (hr : Room k X.A) : OpR X (binaryOp op) (rOwn C sp) := by
  obtain ⟨f, fd, hm, hb, F, _⟩ := cm.ex
  intro pins s σ H x y v u Q I rx ry h
  obtain ⟨a, b, dx, dy, fs, gs, rfl, rfl, ha, hb', q⟩ := h
  obtain rfl : v = Value.ref a := rx
  obtain rfl : u = Value.ref b := ry
  obtain ⟨_, Oa, _, _, _, _⟩ := ins_get I.hok ha
  obtain ⟨_, Ob, _, _, _, _⟩ := ins_get I.hok hb'
  obtain ⟨oda, Ja, _⟩ := Oa.look
  obtain ⟨odb, Jb, _⟩ := Ob.look
  have r : Vals [V.ref a, .ref b] [Value.ref a, .ref b] := .cons rfl (.cons rfl .nil)
  have len : ([Value.ref a, .ref b] ++ []).length = ps.length := by rw [← F.len _ _ _ _ q]; rfl
  have main : wpAny (model X.prog X.w) X.A (call (.ref f) [.ref a, .ref b]) (PySem.W.CmpBack fun v s => EP X pins σ Q v s) X.xe s := by
    refine wpAny_call (codeAny_mono (F.run X.A X.stack _ _ ⟨[.ref a, .ref b], []⟩ ([.ref a, .ref b] ++ []) [.ref a, .ref b] _ E0 hr I.env0 (hb _ [.ref a, .ref b] I.kIn len) r q) fun r s' hq' => ?_)
    cases r with
    | error er => exact pass0 (X := X) pins σ _ _ er s' I hq'
    | ok fl =>
      cases fl with
      | ret u =>
        obtain ⟨z, H', I', rz, ⟨r0, rfl⟩, q'⟩ := I.after hq'
        obtain rfl : u = Value.ref r0 := rz
        exact ⟨.ref r0, H', I', rfl, q'⟩
      | next => exact hq'.elim
      | brk => exact hq'.elim
      | cont => exact hq'.elim
  obtain ⟨cd, hcd, hmro⟩ := PySem.W.any_some hc
  obtain ⟨rest, hmro⟩ : ∃ rest, cd.mro = .ref C :: rest := by
    cases e : cd.mro with
    | nil => rw [e] at hmro; cases hmro
    | cons a r => rw [e, List.head?_cons] at hmro; cases (beq_iff_eq.mp hmro); exact ⟨r, rfl⟩
  unfold binaryOp
  refine wpAny_holding (wpAny_bind ?_)
  unfold binaryOp1
  refine wpAny_bind (Ja.type.here (wpAny_bind (Jb.type.here (wpAny_bind ((PySem.W.fills_K I.kIn hcd hmro hm.at_).here ?_)))))
  rw [if_pos (beq_self_eq_true _)]
  refine wpAny_bind (wpAny_pure ?_)
  simp only [Bool.and_false, Bool.false_and, Bool.false_eq_true, if_false, beq_self_eq_true, if_true]
  refine wpAny_bind (wpAny_pure ?_)
  try simp only [Bool.false_eq_true, if_false]
  refine wpAny_bind (m := tryMethod (.ref a) _ (.ref b)) ?_
  unfold tryMethod
  refine wpAny_bind (PySem.W.special_fn I.kIn Ja hm.at_ (beq_iff_eq.mp hm.fn) (wpAny_mono main (fun v s' hv => ?_) fun _ _ z => z))
  cases v <;> first | exact hv.elim | exact wpAny_pure (wpAny_pure (wpAny_pure hv))
end J
namespace J
open PySem PySem.Spec PyProof.Rows L2
/-! ### plans cut and put together -/
def cutA {α : Type} (xs : List α) (lo hi : Option Int) : List α := (xs.drop (HT.sIx xs.length 0 lo)).take (HT.sIx xs.length xs.length hi - HT.sIx xs.length 0 lo)
theorem cutA_V (xs : List V) (lo hi : Option Int) : cutV xs lo hi = cutA xs lo hi := rfl
theorem paired_drop {α β : Type} {F : α → β → Prop} : ∀ {xs : List α} {ys : List β} (n : Nat), Paired F xs ys → Paired F (xs.drop n) (ys.drop n)
  | _, _, 0, h => by simpa using h
  | _, _, _ + 1, .nil => .nil
  | _, _, n + 1, .cons _ t => by simpa using paired_drop n t
theorem paired_take {α β : Type} {F : α → β → Prop} : ∀ {xs : List α} {ys : List β} (n : Nat), Paired F xs ys → Paired F (xs.take n) (ys.take n)
  | _, _, 0, _ => by simpa using Paired.nil
  | _, _, _ + 1, .nil => .nil
  | _, _, n + 1, .cons r t => by simpa using Paired.cons r (paired_take n t)
theorem paired_cut {α β : Type} {F : α → β → Prop} {xs : List α} {ys : List β} (lo hi : Option Int) (h : Paired F xs ys) : Paired F (cutA xs lo hi) (cutA ys lo hi) := by
  unfold cutA
  rw [Paired.length h]
  exact paired_take _ (paired_drop _ h)
theorem cutA_mem {α : Type} {xs : List α} {lo hi : Option Int} {x : α} (h : x ∈ cutA xs lo hi) : x ∈ xs := List.mem_of_mem_drop (List.mem_of_mem_take h)
theorem cutA_len {α : Type} (xs : List α) (lo hi : Option Int) : (cutA xs lo hi).length ≤ xs.length := by
  unfold cutA
  rw [List.length_take, List.length_drop]
  omega
theorem cutA_front {α : Type} {xs : List α} {c : Int} (h0 : 0 ≤ c) : cutA xs none (some c) = xs.take c.toNat := by
  unfold cutA
  have e1 : HT.sIx xs.length 0 none = 0 := by
    unfold HT.sIx
    simp
  have e2 : HT.sIx xs.length xs.length (some c) = min c.toNat xs.length := by
    unfold HT.sIx
    simp
    omega
  rw [e1, e2, List.drop_zero, Nat.sub_zero]
  by_cases z : c.toNat ≤ xs.length
  · rw [Nat.min_eq_left z]
  · rw [Nat.min_eq_right (by omega), List.take_of_length_le (Nat.le_refl _), List.take_of_length_le (by omega)]
theorem cutA_back {α : Type} {xs : List α} {c : Int} (h0 : 0 ≤ c) : cutA xs (some c) none = xs.drop c.toNat := by
  unfold cutA
  have e1 : HT.sIx xs.length 0 (some c) = min c.toNat xs.length := by
    unfold HT.sIx
    simp
    omega
  have e2 : HT.sIx xs.length xs.length none = xs.length := by
    unfold HT.sIx
    simp
  rw [e1, e2]
  by_cases z : c.toNat ≤ xs.length
  · rw [Nat.min_eq_left z, List.take_of_length_le (by simp)]
  · rw [Nat.min_eq_right (by omega), List.drop_eq_nil_of_le (Nat.le_refl _), List.drop_eq_nil_of_le (by omega)]; simp
theorem whole_cut {α : Type} {xs : List α} {lo hi : Option Int} (h : HT.sIx xs.length 0 lo = 0 ∧ HT.sIx xs.length xs.length hi = xs.length) : cutA xs lo hi = xs := by
  unfold cutA
  rw [h.1, h.2, List.drop_zero, Nat.sub_zero, List.take_length]
section
variable {K : PySem.W.Frag} {H : Hp} {Q : VK} {a b : Addr} {xs ys : List V}
theorem w_slA {lo hi : Option Int} (h : H a = some (.tup xs)) (q : ∀ p H', Same H H' → H' p = some (.tup (cutA xs lo hi)) → Q (.ref p) H') : rSlA K (.ref a) lo hi H Q :=
  ⟨a, xs, rfl, sqT h, fun z => q a H (Same.refl H) (by rw [whole_cut z]; exact h), fun _ p np => q p _ (same_new np) upd_same⟩
theorem w_catA (ha : H a = some (.tup xs)) (hb : H b = some (.tup ys)) (z : xs.length + ys.length ≤ 100000) (q : ∀ p H', Same H H' → H' p = some (.tup (xs ++ ys)) → Q (.ref p) H') : rCatA K (.ref a) (.ref b) H Q := by
  refine ⟨a, b, xs, ys, rfl, rfl, sqT ha, sqT hb, szl z, fun e => ?_, fun _ e => ?_, fun _ _ p np => q p _ (same_new np) upd_same⟩
  · subst e; exact q b H (Same.refl H) hb
  · subst e; exact q a H (Same.refl H) (by rw [List.append_nil]; exact ha)
end
/-- turns in the round -/
def TurnsIn (N : Int) (ds : List (Str × Int)) : Prop := ∀ q ∈ ds, 0 ≤ q.2 ∧ q.2 < N
theorem TurnsIn.same {N : Int} {ds : List (Str × Int)} (h : TurnsIn N ds) : (ds.map fun q => (q.1, q.2 % N)) = ds := by
  refine (List.map_congr_left fun q hq => ?_).trans (List.map_id ds)
  obtain ⟨h0, h1⟩ := h q hq
  rw [Int.emod_eq_of_lt h0 h1]
  rfl
end J
namespace J
open PySem PySem.Spec PyProof.Rows L2
/-! ### defs called by keywords -/
structure Cal2 (P : Program) (w : World) (K : PySem.W.Frag) (mg : Str → Option Value) (base : Heap) (k : Nat) (x : Str) (st : Stmt) (ps : List Str) (sp : Sp) : Prop where
  ex : ∃ f fd, mg x = some (.ref f) ∧ PySem.W.keepIn K (.ref f) = true ∧ Binds K fd ps [] ∧ FnOk P w K mg base CX0 k f fd ps sp ∧ FunD K x x (defArgs st) (defBody st) (defScope st) [] [] f fd
section
variable {P : Program} {w : World} {K : PySem.W.Frag} {mg : Str → Option Value} {base : Heap}
theorem cal2_mk {x : Str} {st : Stmt} {f : Addr} {N ps : List Str} {k : Nat} {sp : Sp} (F : Src K x x st f) (hm : mg x = some (.ref f)) (S : FnScope N ps (defScope st)) (hb : BindOk x x st ps)
    (len : ∀ vs H Q E, sp vs H Q E → vs.length = ps.length) (hbody : BodyOk P w K mg base N x st f k sp) : Cal2 P w K mg base (k + 1) x st ps sp := by
  obtain ⟨fd, F⟩ := F
  exact ⟨f, fd, hm, F.kp, F.bindsN hb, fn_mk F S len hbody, F⟩
theorem Cal2.cal {x : Str} {st : Stmt} {ps : List Str} {k : Nat} {sp : Sp} (c : Cal2 P w K mg base k x st ps sp) : Cal P w K mg base k x ps sp := by
  obtain ⟨f, fd, hm, hk, hb, F, _⟩ := c.ex
  exact ⟨f, fd, hm, hk, hb, F⟩
end
def jCalK (m : Nat) (sp : Sp) (gV : List V → List V) (tk : TA) : TE := fun σ H Q => tk σ H fun zs H2 => zs.length = m ∧ sp (gV zs) H2 Q E0
theorem w_calK {m : Nat} {sp : Sp} {gV : List V → List V} {tk : TA} {σ : L2.St} {H : Hp} {Q : VK} (h : tk σ H fun zs H2 => zs.length = m ∧ sp (gV zs) H2 Q E0) : jCalK m sp gV tk σ H Q := h
theorem pe_calK {X : Cx} {k : Nat} {x : Str} {st : Stmt} {ps : List Str} {sp : Sp} {p pos : Pos} {kws : List Keyword} {tk : TA} (c : Cal2 X.prog X.w X.K X.mg X.base k x st ps sp) (ks : List Str) (g : {α : Type} → List α → List α → List α) (hw : KwOk x x st ps 0 ks g) (hg : GOk g) (hr : Room k X.A) (hkw : PK X kws tk) (hgl : Gl X x := by rfl)
    (hall : (backToKw pos (keywordEach kws X.env)).all (·.1.isSome) = true := by rfl) (hks : (backToKw pos (keywordEach kws X.env)).filterMap (·.1) = ks := by rfl) (hdb : (x == ("__debug__" : Str)) = false := by decide)
    (hpl : ((backTo pos (starEach [] X.env)).any (·.1) || (backToKw pos (keywordEach kws X.env)).any (·.1.isNone)) = false := by rfl) :
    PE X (.Call (.Name x p) [] kws pos) (jCalK ks.length sp (fun a => g [] a) tk) := by
  obtain ⟨f, fd, hm, hk, hb, F, S⟩ := c.ex
  have kb := kbn_mk S g hw hg
  refine ⟨fun pins s σ H Q I h => ?_⟩
  refine wpAny_Call_Name_kw (ld_glob I hgl hm ?_ hdb)
  refine PySem.W.callWith_KW0 (h₀ := X.base) I.ok.mod.kin hk hall ?_ hpl
  refine thn (hkw.run pos pins s σ H _ I h) fun ws s2 hh => ?_
  obtain ⟨zs, H2, I2, rz, l2, q2⟩ := hh
  refine ⟨I2.kIn, ?_⟩
  rw [hks]
  exact run_fnN (us := []) (vs := []) F hr kb pass0 I2 .nil rz rfl l2 q2
/-! ### len(set(a list of ints)) -/
theorem met_nodup (val : Nat → Int) : ∀ n, (firstMet val n).Nodup
  | 0 => .nil
  | n + 1 => by
    rw [firstMet_succ]
    have ih := met_nodup val n
    show (if (firstMet val n).any (· == val n) then firstMet val n else firstMet val n ++ [val n]).Nodup
    split
    · exact ih
    · rename_i h
      refine List.nodup_append.mpr ⟨ih, by simp, fun a ha b hb e => h ?_⟩
      have : b = val n := by simpa using hb
      subst this
      subst e
      exact List.any_eq_true.mpr ⟨_, ha, by simp⟩
theorem met_mem {ns : List Int} {k : Int} : k ∈ firstMet (fun i => ns.getD i 0) ns.length ↔ k ∈ ns := by
  have h := firstMet_any (fun i => ns.getD i 0) ns.length k
  have e : ((List.range ns.length).map fun i => ns.getD i 0) = ns := by
    refine List.ext_getElem (by simp) fun i h1 h2 => ?_
    simp [List.getD_eq_getElem?_getD, h2]
  rw [e] at h
  have f : ∀ l : List Int, l.any (· == k) = true ↔ k ∈ l := fun l => by
    rw [List.any_eq_true]
    exact ⟨fun ⟨x, hx, q⟩ => (eq_of_beq q) ▸ hx, fun hk => ⟨k, hk, by simp⟩⟩
  rw [← f, h, f]
def jLenSet (K : PySem.W.Frag) (ta : TE) : TE := fun σ H Q => ta σ H fun x H1 => ∃ (l : Addr) (ns : List Int), x = .ref l ∧ SqL K H1 l (ns.map V.int) ∧ ns.length ≤ 4000 ∧ ∀ ms : List Int, ms.Nodup → (∀ k, k ∈ ms ↔ k ∈ ns) → Q (.int (ms.length : Nat)) H1
theorem w_lenSet {K : PySem.W.Frag} {ta : TE} {σ : L2.St} {H : Hp} {Q : VK} (h : ta σ H fun x H1 => ∃ (l : Addr) (ns : List Int), x = .ref l ∧ SqL K H1 l (ns.map V.int) ∧ ns.length ≤ 4000 ∧ ∀ ms : List Int, ms.Nodup → (∀ k, k ∈ ms ↔ k ∈ ns) → Q (.int (ms.length : Nat)) H1) : jLenSet K ta σ H Q := h
theorem pe_lenSet {X : Cx} {a : Expr} {ta : TE} {p p2 q pos : Pos} (hg : Gl X "len") (hm : X.mg "len" = none) (hg2 : Gl X "set") (hm2 : X.mg "set" = none) (ha : PE X a ta) (hc : X.calm = true := by rfl)
    (na : starEach [a] X.env = (false, eval a X.env) :: starEach [] X.env := by rfl) : PE X (.Call (.Name "len" p) [.Call (.Name "set" p2) [a] [] q] [] pos) (jLenSet X.K ta) := by
  refine ⟨fun ps z σ H Q iv h => ?_⟩
  refine Call_ (ld_blt iv hg hm boot_len (callWith_builtin1 (args_cons (Call_ (ld_blt iv hg2 hm2 boot_set ?_)) rfl) rfl rfl))
  refine callWith_type1 (args_cons (thn (ha.run ps z σ H _ iv h) fun v z1 h1 => args_nil ?_) na) na rfl
  obtain ⟨x, G, iv1, r1, l, ns, rfl, hq, few, q1⟩ := h1
  obtain rfl : v = Value.ref l := r1
  obtain ⟨its, r, pl, hz⟩ := iv1.list hq
  have len : its.toArray.size = ns.length := by rw [List.size_toArray, ← r.length, List.length_map]
  refine call_set_list (iv1.ok.hd hc) pl.isList (by simpa using RZ.intsAre_vals r) (by rw [len]; unfold scanBound; omega) fun hp tk hS hk => args_nil ?_
  rw [len] at hS
  obtain ⟨o, es, ep, t, ho, hex, hd, _, _, _, hf, hn⟩ := hS
  have iv2 : Inv X ps σ G { z1 with heap := hp, toks := tk } := iv1.kept fun b o e => hk b o (Heap.lt_size e) e
  have sm := firstMet_length_le (fun i => ns.getD i 0) ns.length
  refine call_len_set ho hex hd hf (by rw [hn]; omega) ⟨.int (firstMet (fun i => ns.getD i 0) ns.length).length, G, iv2.tok _, ⟨_, by rw [hn]⟩, q1 _ (met_nodup _ _) fun k => met_mem⟩
end J
namespace J
open PySem PySem.Spec PyProof.Rows L2
theorem tab_get {H : Hp} {N : Int} {sq pu : Option Rws} {kvs : List (Key × V)} {w : Str} {rs : Rws} (h : Paired (LE H N) kvs (tabS sq pu)) (hm : (w, rs) ∈ tabL sq pu) : ∃ p xs, valV kvs (.inr w) = some (.ref p) ∧ H p = some (.lst xs) ∧ PairsAt H xs rs ∧ Rows N rs := by
  rcases tab_word hm with ⟨rfl, rfl⟩ | ⟨rfl, rfl⟩
  · exact tab_pu h
  · exact tab_sq h
theorem words_len {sq pu : Option Rws} (hne : sq ≠ none ∨ pu ≠ none) : 1 ≤ (wordsL sq pu).length ∧ (wordsL sq pu).length ≤ 2 := by
  unfold wordsL tabL
  cases sq <;> cases pu <;> simp_all
theorem words_tab {sq pu : Option Rws} {w : Str} (h : w ∈ wordsL sq pu) : ∃ rs, (w, rs) ∈ tabL sq pu := by
  unfold wordsL at h
  obtain ⟨q, hq, rfl⟩ := List.mem_map.mp h
  exact ⟨q.2, hq⟩
theorem car_near {N : Int} {T : Tbl} {ds : List (Str × Int)} {lo hi v1 v2 : Int} (k : TblOk N T) (h1 : CarT N T ds lo v1) (h2 : CarT N T ds hi v2) : v2 - v1 < hi - lo + perP N T := by
  have s0 := k.pos
  have e := Int.emod_add_mul_ediv (hi - lo) (perP N T)
  have r0 := Int.emod_nonneg (hi - lo) (show perP N T ≠ 0 by omega)
  have r1 := Int.emod_lt_of_pos (hi - lo) s0
  generalize (hi - lo) % perP N T = r at e r0 r1
  generalize (hi - lo) / perP N T = q at e
  rcases (show r = 0 ∨ 0 < r by omega) with z | z
  · have sh := h1.shift k (c := perP N T * q) (Int.dvd_mul_right ..)
    rw [show lo + perP N T * q = hi by omega] at sh
    have := h2.unique k sh
    omega
  · have sh := h1.shift k (c := perP N T * (q + 1)) (Int.dvd_mul_right ..)
    have m : perP N T * (q + 1) = perP N T * q + perP N T := by rw [Int.mul_add, Int.mul_one]
    have := h2.mono k sh (by omega)
    omega
theorem car_rest {N : Int} {T : Tbl} {ds : List (Str × Int)} {w : Str} {c x v : Int} {rs : Rws} (k : TblOk N T) (hl : ds.getLast? = some (w, c)) (hm : (w, rs) ∈ T) (h : CarT N T ds x v) : v % N ∈ rs.map fun q => (q.2 + c) % N := by
  obtain ⟨ds0, rfl⟩ := List.getLast?_eq_some_iff.mp hl
  obtain ⟨m, _, rs', z, h1, h2, rfl⟩ := CarT.snoc.mp h
  have e := k.one _ _ _ hm h1
  subst e
  obtain ⟨q, hq, e⟩ := List.mem_map.mp (IsLift.rest (k.rows _ hm) h2)
  refine List.mem_map.mpr ⟨q, hq, ?_⟩
  show (q.2 + c) % N = (z + c) % N
  rw [Int.add_emod, e, Int.emod_emod_of_dvd _ (Int.dvd_refl N), ← Int.add_emod]
/-! ### what is left, counted -/
theorem asc_eq : ∀ {xs ys : List Int}, xs.Pairwise (· < ·) → ys.Pairwise (· < ·) → (∀ k, k ∈ xs ↔ k ∈ ys) → xs = ys
  | [], [], _, _, _ => rfl
  | [], y :: ys, _, _, h => absurd ((h y).mpr (List.mem_cons_self ..)) (by simp)
  | x :: xs, [], _, _, h => absurd ((h x).mp (List.mem_cons_self ..)) (by simp)
  | x :: xs, y :: ys, px, py, h => by
    have hx := List.pairwise_cons.mp px
    have hy := List.pairwise_cons.mp py
    have e : x = y := by
      rcases List.mem_cons.mp ((h x).mp (List.mem_cons_self ..)) with z | z
      · exact z
      · rcases List.mem_cons.mp ((h y).mpr (List.mem_cons_self ..)) with q | q
        · exact q.symm
        · have := hy.1 x z; have := hx.1 y q; omega
    subst e
    rw [asc_eq hx.2 hy.2 fun k => ?_]
    have hk := h k
    rw [List.mem_cons, List.mem_cons] at hk
    constructor
    · intro z
      rcases hk.mp (.inr z) with q | q
      · have := hx.1 k z; omega
      · exact q
    · intro z
      rcases hk.mpr (.inr z) with q | q
      · have := hy.1 k z; omega
      · exact q
theorem LeftIs.eq {N : Int} {T : Tbl} {ds : List (Str × Int)} {ns ms : List Int} (h : LeftIs N T ds ns) (h' : LeftIs N T ds ms) : ns = ms := asc_eq h.1 h'.1 fun k => (h.2 k).trans (h'.2 k).symm
theorem asc_nodup {xs : List Int} (h : xs.Pairwise (· < ·)) : xs.Nodup := h.imp fun h e => by omega
theorem same_len {xs ys : List Int} (h : xs.Nodup) (h' : ys.Nodup) (e : ∀ k, k ∈ xs ↔ k ∈ ys) : xs.length = ys.length :=
  Nat.le_antisymm (nodup_len h fun k hk => (e k).mp hk) (nodup_len h' fun k hk => (e k).mpr hk)
theorem LeftsAre.eq {N : Int} {T : Tbl} {ds : List (Str × Int)} {n : Nat} {xs ys : List (List Int)} (h : LeftsAre N T ds n xs) (h' : LeftsAre N T ds n ys) : xs = ys := by
  refine List.ext_getElem (by rw [h.1, h'.1]) fun i h1 h2 => ?_
  exact (h.2 i _ (List.getElem?_eq_getElem h1)).eq (h'.2 i _ (List.getElem?_eq_getElem h2))
theorem left_all {N : Int} {T : Tbl} {ns : List Int} (k : TblOk N T) (h : LeftIs N T [] ns) : (ns.length : Int) = perP N T := by
  have e := h.eq (left_none k)
  have := k.pos
  rw [e, List.length_map, List.length_range]
  omega
/-- the image of few is few -/
theorem image_few {f : Int → Int} {ns ms : List Int} (h : ms.Nodup) (e : ∀ v ∈ ms, ∃ a ∈ ns, v = f a) : ms.length ≤ ns.length := by
  have := nodup_len (m := ns.map f) h fun v hv => by
    obtain ⟨a, ha, e⟩ := e v hv
    exact List.mem_map.mpr ⟨a, ha, e.symm⟩
  rwa [List.length_map] at this
theorem step_fn {N : Int} {T : Tbl} {d : Str × Int} {rs : Rws} (k : TblOk N T) (hm : (d.1, rs) ∈ T) : ∃ f : Int → Int, ∀ a y, StpT N T d a y → y = f a := by
  obtain ⟨f, hf, uf⟩ := lift_fn (k.rows _ hm)
  refine ⟨fun a => f (a - d.2) + d.2, fun a y h => ?_⟩
  obtain ⟨rs', z, h1, h2, rfl⟩ := h
  have e := k.one _ _ _ hm h1
  subst e
  rw [uf _ _ h2]
theorem left_le {N : Int} {T : Tbl} {d : Str × Int} {ds : List (Str × Int)} {rs : Rws} {ns ms : List Int} (k : TblOk N T) (hm : (d.1, rs) ∈ T) (h : LeftIs N T ds ns) (h' : LeftIs N T (ds ++ [d]) ms) : ms.length ≤ ns.length := by
  obtain ⟨f, hf⟩ := step_fn k hm
  refine image_few (f := fun a => f a % perP N T) (asc_nodup h'.1) fun v hv => ?_
  obtain ⟨a, ha, y, hs, rfl⟩ := (left_step k h v).mpr ((h'.2 v).mp hv)
  exact ⟨a, ha, by rw [hf _ _ hs]⟩
theorem left_pos {N : Int} {T : Tbl} {ds : List (Str × Int)} {ns : List Int} (k : TblOk N T) (h : LeftIs N T ds ns) (hw : ∀ q ∈ ds, ∃ rs, (q.1, rs) ∈ T) : 1 ≤ ns.length := by
  obtain ⟨y, hy⟩ := CarT.ex k hw 0
  exact List.length_pos_of_mem ((h.2 _).mpr ⟨0, y, Int.le_refl _, k.pos, hy, rfl⟩)
/-- all places give what the places below the period give -/
theorem left_round {N : Int} {T : Tbl} {ds : List (Str × Int)} {v : Int} (k : TblOk N T) : (∃ x y, 0 ≤ x ∧ x < N ∧ CarT N T ds x y ∧ v = y % perP N T) ↔ ∃ x y, 0 ≤ x ∧ x < perP N T ∧ CarT N T ds x y ∧ v = y % perP N T := by
  have s0 := k.pos
  have sN := k.le
  constructor
  · rintro ⟨x, y, h0, h1, hc, rfl⟩
    have e := Int.emod_add_mul_ediv x (perP N T)
    have sh := hc.shift k (c := perP N T * (-(x / perP N T))) (Int.dvd_mul_right ..)
    refine ⟨x % perP N T, y + perP N T * (-(x / perP N T)), Int.emod_nonneg _ (by omega), Int.emod_lt_of_pos _ s0, ?_, by rw [Int.add_mul_emod_self_left]⟩
    have : x + perP N T * (-(x / perP N T)) = x % perP N T := by rw [Int.mul_neg]; omega
    rwa [this] at sh
  · rintro ⟨x, y, h0, h1, hc, rfl⟩
    exact ⟨x, y, h0, by omega, hc, rfl⟩
/-- the rests below the period -/
def restsP (s : Int) (rs : Rws) (ys : List Int) : Prop := ∀ k, k ∈ ys ↔ k ∈ rs.map Prod.snd ∧ k < s
theorem left_rests {N : Int} {T : Tbl} {w : Str} {c : Int} {ds : List (Str × Int)} {rs : Rws} {ms ys : List Int} (k : TblOk N T) (hm : (w, rs) ∈ T) (h : LeftIs N T (ds ++ [(w, c)]) ms) (hy : restsP (perP N T) rs ys) : ms.length ≤ ys.length := by
  have s0 := k.pos
  have sN := k.le
  have R : Rows N rs := k.rows _ hm
  refine image_few (f := fun a => (a + c) % perP N T) (asc_nodup h.1) fun v hv => ?_
  obtain ⟨x, y, _, _, hc, rfl⟩ := (h.2 v).mp hv
  obtain ⟨m, _, rs', z, h1, h2, rfl⟩ := CarT.snoc.mp hc
  have e := k.one _ _ _ hm h1
  subst e
  refine ⟨z % perP N T, (hy _).mpr ⟨?_, Int.emod_lt_of_pos _ s0⟩, ?_⟩
  · have fx := h2.fix R
    have kp : Keeps N rs (perP N T * (-(z / perP N T))) := k.dvd.mp (Int.dvd_mul_right ..) _ hm
    have e := kp _ _ fx
    have ez : z + perP N T * (-(z / perP N T)) = z % perP N T := by
      have := Int.emod_add_mul_ediv z (perP N T)
      rw [Int.mul_neg]; omega
    rw [ez] at e
    have := e.rest R
    have n0 := Int.emod_nonneg z (show perP N T ≠ 0 by omega)
    have n1 := Int.emod_lt_of_pos z s0
    rwa [Int.emod_eq_of_lt n0 (by omega)] at this
  · show (z + c) % perP N T = (z % perP N T + c) % perP N T
    rw [Int.emod_add_emod]
/-! ### lists of ints compared -/
theorem dp_int {K : PySem.W.Frag} {H : Hp} {i : Int} : Dp K H (.int i) (.int i) := Dp.int i
noncomputable def kpB (N c : Int) (q : Str × Rws) : Bool := @decide (Keeps N q.2 c) (Classical.propDecidable _)
theorem kpB_iff {N c : Int} {q : Str × Rws} : kpB N c q = true ↔ Keeps N q.2 c := by unfold kpB; simp
theorem tab_mem {sq pu : Option Rws} {q : Str × Rws} : q ∈ tabS sq pu ↔ q ∈ tabL sq pu := by
  unfold tabS tabL
  rw [List.mem_append, List.mem_append]
  exact Or.comm
theorem tab_ok {H : Hp} {N : Int} {sq pu : Option Rws} {kvs : List (Key × V)} (h : Paired (LE H N) kvs (tabS sq pu)) (n2 : 2 ≤ N) (n360 : N ≤ 360) : TblOk N (tabL sq pu) :=
  ⟨n2, n360, fun q hq => by obtain ⟨_, _, _, _, _, R⟩ := tab_get (w := q.1) (rs := q.2) h hq; exact R, fun w rs rs' => tab_one⟩
theorem tbl_round {N : Int} {T : Tbl} (k : TblOk N T) : perP N T ∣ N := k.dvd.mpr fun q _ x y h => by have := h.shift 1; rwa [Int.mul_one] at this
theorem dp_ints {K : PySem.W.Frag} {H : Hp} : ∀ (is : List Int), DpAll K H (is.map V.int) (is.map PyData.int)
  | [] => .nil
  | i :: is => .cons (.int i) (dp_ints is)
theorem eqv_ints : ∀ (is js : List Int), PyData.eqvAll (is.map PyData.int) (js.map PyData.int) = decide (is = js)
  | [], [] => by simp [PyData.eqvAll]
  | [], _ :: _ => by simp [PyData.eqvAll]
  | _ :: _, [] => by simp [PyData.eqvAll]
  | a :: is, b :: js => by
    show (PyData.eqv (.int a) (.int b) && PyData.eqvAll (is.map PyData.int) (js.map PyData.int)) = _
    rw [eqv_ints is js]
    have e : PyData.eqv (.int a) (.int b) = decide (a = b) := by
      simp [PyData.eqv]
      rw [Bool.eq_iff_iff]; simp
    rw [e]
    by_cases h1 : a = b <;> by_cases h3 : is = js <;> simp [h1, h3]
theorem can_ints : ∀ (is : List Int), PyData.canLayAll0 (is.map PyData.int) = true
  | [] => by simp [PyData.canLayAll0]
  | i :: is => by
    show (PyData.canLay0 (.int i) && PyData.canLayAll0 (is.map PyData.int)) = true
    rw [can_ints is]
    simp [PyData.canLay0]
theorem depth_ints : ∀ (is : List Int), PyData.depthAll (is.map PyData.int) ≤ 2
  | [] => by simp [PyData.depthAll]
  | i :: is => by
    show max (PyData.depth (.int i)) (PyData.depthAll (is.map PyData.int)) ≤ 2
    have := depth_ints is
    have e : PyData.depth (.int i) ≤ 2 := by simp [PyData.depth]
    omega
theorem shaped_ints (is : List Int) : SeqAt.shaped (.list (is.map PyData.int)) = true := by
  unfold SeqAt.shaped
  have h1 := can_ints is
  have h2 := depth_ints is
  have e1 : PyData.canLay0 (.list (is.map PyData.int)) = true := by simp [PyData.canLay0, h1]
  have e2 : PyData.depth (.list (is.map PyData.int)) ≤ 64 := by simp [PyData.depth]; omega
  rw [e1, decide_eq_true e2]; rfl
theorem w_eqIL {K : PySem.W.Frag} {H : Hp} {Q : VK} {p p2 : Addr} {is js : List Int} (h : SqL K H p (is.map V.int)) (h2 : SqL K H p2 (js.map V.int)) (q : Q (.bl (decide (is = js))) H) : rEqD K (.ref p) (.ref p2) H Q :=
  ⟨_, _, .lst h (dp_ints is), .lst h2 (dp_ints js), shaped_ints is, shaped_ints js, by
    have e : PyData.eqv (.list (is.map PyData.int)) (.list (js.map PyData.int)) = decide (is = js) := by rw [← eqv_ints]; simp [PyData.eqv]
    rw [e]; exact q⟩
theorem cut_m1 {xs : List V} : cutV xs none (some (-1)) = xs.take (xs.length - 1) := by
  unfold cutV
  have e0 : HT.sIx xs.length 0 none = 0 := rfl
  have e : HT.sIx xs.length xs.length (some (-1)) = xs.length - 1 := by
    show (if (-1 : Int) < 0 then (-1 + (xs.length : Int)).toNat else min (-1 : Int).toNat xs.length) = _
    rw [if_pos (show (-1 : Int) < 0 by decide)]; omega
  rw [e0, e, List.drop_zero, Nat.sub_zero]
theorem cut_m2 {xs : List V} {v : V} : cutV (xs ++ [v]) none (some (-2)) = xs.take (xs.length - 1) := by
  unfold cutV
  have e0 : HT.sIx (xs ++ [v]).length 0 none = 0 := rfl
  have e : HT.sIx (xs ++ [v]).length (xs ++ [v]).length (some (-2)) = xs.length - 1 := by
    show (if (-2 : Int) < 0 then (-2 + ((xs ++ [v]).length : Int)).toNat else min (-2 : Int).toNat (xs ++ [v]).length) = _
    rw [if_pos (show (-2 : Int) < 0 by decide), List.length_append]
    show (-2 + ((xs.length + 1 : Nat) : Int)).toNat = _
    omega
  rw [e0, e, List.drop_zero, Nat.sub_zero, List.take_append_of_le_length (by omega)]
end J
namespace J
open PySem PySem.Spec PyProof.Rows L2
/-! ### defs that may raise -/
abbrev XT (P : Program) (w : World) : CXT := L2.CX P w
theorem fnLift {P : Program} {w : World} {K : PySem.W.Frag} {mg : Str → Option Value} {base : Heap} {k : Nat} {f : Addr} {fd : FuncData} {ps : List Str} {sp : Sp} (F : FnOk P w K mg base CX0 k f fd ps sp) : FnOk P w K mg base (L2.CX P w) k f fd ps sp :=
  ⟨F.len, fun A outer s H args us vs Q E hr he hb hv hs => codeAny_mono (F.run A outer s H args us vs Q E hr he hb hv hs) fun r s' c => by
    cases r with
    | error e => exact (show False from c).elim
    | ok st => cases st <;> exact c⟩
theorem fnOr {P : Program} {w : World} {K : PySem.W.Frag} {mg : Str → Option Value} {base : Heap} {CX : CXT} {k : Nat} {f : Addr} {fd : FuncData} {ps : List Str} {sp sp' : Sp} (F : FnOk P w K mg base CX k f fd ps sp) (G : FnOk P w K mg base CX k f fd ps sp') : FnOk P w K mg base CX k f fd ps (fun vs H Q E => sp vs H Q E ∨ sp' vs H Q E) :=
  ⟨fun vs H Q E h => h.elim (F.len _ _ _ _) (G.len _ _ _ _), fun A outer s H args us vs Q E hr he hb hv hs => hs.elim (F.run A outer s H args us vs Q E hr he hb hv) (G.run A outer s H args us vs Q E hr he hb hv)⟩
def spOr (sp sp' : Sp) : Sp := fun vs H Q E => sp vs H Q E ∨ sp' vs H Q E
structure CalX (P : Program) (w : World) (K : PySem.W.Frag) (mg : Str → Option Value) (base : Heap) (k : Nat) (x : Str) (st : Stmt) (ps : List Str) (sp : Sp) : Prop where
  ex : ∃ f fd, mg x = some (.ref f) ∧ PySem.W.keepIn K (.ref f) = true ∧ Binds K fd ps [] ∧ FnOk P w K mg base (L2.CX P w) k f fd ps sp ∧ FunD K x x (defArgs st) (defBody st) (defScope st) [] [] f fd
structure CalMX (P : Program) (w : World) (K : PySem.W.Frag) (mg : Str → Option Value) (base : Heap) (k : Nat) (C : Addr) (m qual : Str) (st : Stmt) (ps : List Str) (sp : Sp) : Prop where
  ex : ∃ f fd, Meth K C m f ∧ Binds K fd ps [] ∧ FnOk P w K mg base (L2.CX P w) k f fd ps sp ∧ FunD K m qual (defArgs st) (defBody st) (defScope st) [] [] f fd
structure CalIX (P : Program) (w : World) (K : PySem.W.Frag) (mg : Str → Option Value) (base : Heap) (k : Nat) (C : Addr) (x qual : Str) (st : Stmt) (ps : List Str) (sp : Sp) : Prop where
  ex : ∃ f fd, Mk K C f ∧ mg x = some (.ref C) ∧ Binds K fd ps [] ∧ FnOk P w K mg base (L2.CX P w) k f fd ps sp ∧ FunD K "__init__" qual (defArgs st) (defBody st) (defScope st) [] [] f fd
abbrev BodyX (P : Program) (w : World) (K : PySem.W.Frag) (mg : Str → Option Value) (base : Heap) (N : List Str) (qual : Str) (st : Stmt) (f : Addr) (k : Nat) (sp : Sp) : Prop :=
  ∀ (cdv : Value) (A : Around) (outer : List Env) (s : Shared) (H : Hp) (vs : List V) (Q : VK) (E : XK), Room k (A.deeper (envOfC qual (defScope st) s.heap.objs.size f cdv)) → sp vs H Q E →
      ∃ t, PSs (cxOf (L2.CX P w) P w K mg base N qual (defScope st) f cdv A outer s H E) (defBody st) t ∧ t { nx := fun _ H' => Q .non H', rt := Q } (start N vs) H
section
variable {P : Program} {w : World} {K : PySem.W.Frag} {mg : Str → Option Value} {base : Heap}
theorem calx_mk {x : Str} {st : Stmt} {f : Addr} {N ps : List Str} {k : Nat} {sp : Sp} (F : Src K x x st f) (hm : mg x = some (.ref f)) (S : FnScope N ps (defScope st)) (hb : BindOk x x st ps)
    (len : ∀ vs H Q E, sp vs H Q E → vs.length = ps.length) (hbody : BodyX P w K mg base N x st f k sp) : CalX P w K mg base (k + 1) x st ps sp := by
  obtain ⟨fd, F⟩ := F
  exact ⟨f, fd, hm, F.kp, F.bindsN hb, F.ok S len hbody, F⟩
theorem calmx_mk {C : Addr} {m qual : Str} {st : Stmt} {f : Addr} {N ps : List Str} {k : Nat} {sp : Sp} (F : Src K m qual st f) (hm : Meth K C m f) (S : FnScope N ps (defScope st)) (hb : BindOk m qual st ps)
    (len : ∀ vs H Q E, sp vs H Q E → vs.length = ps.length) (hbody : BodyX P w K mg base N qual st f k sp) : CalMX P w K mg base (k + 1) C m qual st ps sp := by
  obtain ⟨fd, F⟩ := F
  exact ⟨f, fd, hm, F.bindsN hb, F.ok S len hbody, F⟩
theorem calix_mk {C : Addr} {x qual : Str} {st : Stmt} {f : Addr} {N ps : List Str} {k : Nat} {sp : Sp} (F : Src K "__init__" qual st f) (M : Mk K C f) (hm : mg x = some (.ref C)) (S : FnScope N ps (defScope st)) (hb : BindOk "__init__" qual st ps)
    (len : ∀ vs H Q E, sp vs H Q E → vs.length = ps.length) (hbody : BodyX P w K mg base N qual st f k sp) : CalIX P w K mg base (k + 1) C x qual st ps sp := by
  obtain ⟨fd, F⟩ := F
  exact ⟨f, fd, M, hm, F.bindsN hb, F.ok S len hbody, F⟩
theorem Cal2.x {k : Nat} {x : Str} {st : Stmt} {ps : List Str} {sp : Sp} (c : Cal2 P w K mg base k x st ps sp) : CalX P w K mg base k x st ps sp := by
  obtain ⟨f, fd, a, b, c, d, e⟩ := c.ex
  exact ⟨f, fd, a, b, c, fnLift d, e⟩
theorem CalM.x {k : Nat} {C : Addr} {m qual : Str} {st : Stmt} {ps : List Str} {sp : Sp} (c : CalM P w K mg base k C m qual st ps sp) : CalMX P w K mg base k C m qual st ps sp := by
  obtain ⟨f, fd, a, b, d, e⟩ := c.ex
  exact ⟨f, fd, a, b, fnLift d, e⟩
theorem CalI.x {k : Nat} {C : Addr} {x qual : Str} {st : Stmt} {ps : List Str} {sp : Sp} (c : CalI P w K mg base k C x qual st ps sp) : CalIX P w K mg base k C x qual st ps sp := by
  obtain ⟨f, fd, a, b, c, d, e⟩ := c.ex
  exact ⟨f, fd, a, b, c, fnLift d, e⟩
theorem funD_eq {x qual : Str} {ar : Arguments} {bd : List Stmt} {sc : Scope} {f : Addr} {fd fd' : FuncData} (F : FunD K x qual ar bd sc [] [] f fd) (G : FunD K x qual ar bd sc [] [] f fd') : fd = fd' := by
  obtain ⟨oc, od, dV, kV, doc, pm, an, cdv, ct, osl, e1, lk, _⟩ := F.ex
  obtain ⟨oc', od', dV', kV', doc', pm', an', cdv', ct', osl', e2, lk', _⟩ := G.ex
  have h := Option.some.inj (lk.symm.trans lk')
  have h2 : Obj.data _ = Obj.data _ := congrArg Obj.data h
  exact Data.func.inj h2
theorem CalX.or {k j : Nat} {x : Str} {st : Stmt} {ps : List Str} {sp sp' : Sp} (c : CalX P w K mg base k x st ps sp) (d : CalX P w K mg base j x st ps sp') : CalX P w K mg base (max k j) x st ps (spOr sp sp') := by
  obtain ⟨f, fd, a1, a2, a3, a4, a5⟩ := c.ex
  obtain ⟨f', fd', b1, b2, b3, b4, b5⟩ := d.ex
  rw [a1] at b1
  cases b1
  obtain rfl := funD_eq a5 b5
  exact ⟨f, fd, a1, a2, a3, fnOr (a4.mono (Nat.le_max_left ..)) (b4.mono (Nat.le_max_right ..)), a5⟩
theorem CalMX.or {k j : Nat} {C : Addr} {m qual : Str} {st : Stmt} {ps : List Str} {sp sp' : Sp} (c : CalMX P w K mg base k C m qual st ps sp) (d : CalMX P w K mg base j C m qual st ps sp') : CalMX P w K mg base (max k j) C m qual st ps (spOr sp sp') := by
  obtain ⟨f, fd, a1, a3, a4, a5⟩ := c.ex
  obtain ⟨f', fd', b1, b3, b4, b5⟩ := d.ex
  have e := a1.at_.symm.trans b1.at_
  cases e
  obtain rfl := funD_eq a5 b5
  exact ⟨f, fd, a1, a3, fnOr (a4.mono (Nat.le_max_left ..)) (b4.mono (Nat.le_max_right ..)), a5⟩
theorem CalIX.or {k j : Nat} {C : Addr} {x qual : Str} {st : Stmt} {ps : List Str} {sp sp' : Sp} (c : CalIX P w K mg base k C x qual st ps sp) (d : CalIX P w K mg base j C x qual st ps sp') : CalIX P w K mg base (max k j) C x qual st ps (spOr sp sp') := by
  obtain ⟨f, fd, a1, a2, a3, a4, a5⟩ := c.ex
  obtain ⟨f', fd', b1, b2, b3, b4, b5⟩ := d.ex
  have e := a1.init.symm.trans b1.init
  cases e
  obtain rfl := funD_eq a5 b5
  exact ⟨f, fd, a1, a2, a3, fnOr (a4.mono (Nat.le_max_left ..)) (b4.mono (Nat.le_max_right ..)), a5⟩
end
/-! ### calls whose exceptions are wished for at the caller's slots -/
section
variable {X : Cx} {CX : CXT} {pins : List (Addr × Obj)} {σ : L2.St} {H : Hp} {s : Shared} {Q : VK} {E : XK}
/-- what a def's run leaves is what its call is wished for -/
theorem cr_end (I : Inv X pins σ H s) (hx : PassesAt CX X σ E) : ∀ (r : Result) (t : Shared), CR CX X.stack X.prog X.w H s Q E r t →
    (match r with | .ok (.ret u) => EP X pins σ Q u t | .ok _ => False | .error z => X.xe z t)
  | .error z, t, c => hx pins H s z t I c
  | .ok (.ret _), _, c => I.after c
  | .ok .next, _, c => c
  | .ok .brk, _, c => c
  | .ok .cont, _, c => c
/-- the same for an __init__ whose instance stands at x -/
theorem cr_made {x : Addr} (I : Inv X pins σ H s) (hx : PassesAt CX X σ E) : ∀ (r : Result) (t : Shared), CR CX X.stack X.prog X.w H s (fun v H2 => v = .non ∧ Q (.ref x) H2) E r t →
    (match r with | .ok (.ret u) => u = .none ∧ EP X pins σ Q (.ref x) t | .ok _ => False | .error z => X.xe z t)
  | .error z, t, c => hx pins H s z t I c
  | .ok (.ret u), t, c => by
    obtain ⟨v, H2, I2, rv, hv, q⟩ := I.after c
    rw [hv] at rv
    exact ⟨rv, .ref x, H2, I2, rfl, q⟩
  | .ok .next, _, c => c
  | .ok .brk, _, c => c
  | .ok .cont, _, c => c
section
variable {k n : Nat} {f C : Addr} {fd : FuncData} {ps ks : List Str} {sp : Sp} {g : List Value → List Value → List Value} {gV : List V → List V → List V} {us ws : List Value} {vs zs : List V}
theorem go_fnK (F : FnOk X.prog X.w X.K X.mg X.base CX k f fd ps sp) (hr : Room k X.A) (hb : KBn X.K fd ps n ks g gV) (hx : PassesAt CX X σ E) (I : Inv X pins σ H s) (r : Vals vs us) (rz : Vals zs ws)
    (ls : vs.length = n ∧ zs.length = ks.length) (h : sp (gV vs zs) H Q E) : wpAny (model X.prog X.w) X.A (call (.ref f) us (ks.zip ws)) (EP X pins σ Q) X.xe s :=
  have to := hb.to s us ws I.kIn (by rw [← r.length]; exact ls.1) (by rw [← rz.length]; exact ls.2)
  wpAny_call (codeAny_mono (F.run X.A X.stack s H ⟨us, ks.zip ws⟩ (g us ws) (gV vs zs) Q E hr I.env0 to (hb.rel r rz) h) fun r t c => by
    have := cr_end I hx r t c
    rcases r with z | (u | _ | _ | _) <;> exact this)
theorem go_mk (M : Mk X.K C f) (F : FnOk X.prog X.w X.K X.mg X.base CX k f fd ps sp) (hr : Room (k + 1) X.A) (hb : Binds X.K fd ps []) (hx : PassesAt CX X σ E) (I : Inv X pins σ H s) (r : Vals vs us)
    (h : ∀ x dx, H x = none → H dx = none → dx ≠ x → sp (.ref x :: vs) (upd (upd H dx (.own x)) x (.ins C dx [])) (fun v H2 => v = .non ∧ Q (.ref x) H2) E) : wpAny (model X.prog X.w) X.A (call (.ref C) us) (EP X pins σ Q) X.xe s := by
  generalize hz : s.heap.objs.size = z at *
  have q := h (z + 1) z (I.hok.fresh (by rw [hz]; omega)) (I.hok.fresh (by rw [hz]; exact Nat.le_refl z)) (fun e => absurd (show z = z + 1 from e) (by omega))
  have J := Inv.made (C := C) I
  have rr : Vals (V.ref (z + 1) :: vs) ([Value.ref (z + 1)] ++ us ++ []) := by
    exact .cons rfl (by simpa using r)
  have hl : (Value.ref (z + 1) :: us ++ []).length = ps.length := by
    have e := rr.length
    rw [F.len _ _ _ _ q] at e
    simpa using e.symm
  rw [hz] at J
  have hb' := hb _ (Value.ref (z + 1) :: us) J.kIn hl
  refine wpAny_call (make_map (f := f) I.kIn M.makes M.init (beq_iff_eq.mp M.fn) ?_)
  rw [hz]
  refine codeAny_mono (F.run _ X.stack _ _ ⟨Value.ref (z + 1) :: us, []⟩ _ _ _ _ (hr.make C us []) (J.env0.make C us []) hb' (by simpa using rr) q) fun r t c => ?_
  have := cr_made J hx r t c
  rcases r with e | (u | _ | _ | _) <;> exact this
theorem go_mkK (M : Mk X.K C f) (F : FnOk X.prog X.w X.K X.mg X.base CX k f fd ps sp) (hr : Room (k + 1) X.A) (hb : KBn X.K fd ps 1 ks g gV) (hx : PassesAt CX X σ E) (I : Inv X pins σ H s) (rz : Vals zs ws) (ls : zs.length = ks.length)
    (h : ∀ x dx, H x = none → H dx = none → dx ≠ x → sp (gV [.ref x] zs) (upd (upd H dx (.own x)) x (.ins C dx [])) (fun v H2 => v = .non ∧ Q (.ref x) H2) E) : wpAny (model X.prog X.w) X.A (call (.ref C) [] (ks.zip ws)) (EP X pins σ Q) X.xe s := by
  generalize hz : s.heap.objs.size = z at *
  have q := h (z + 1) z (I.hok.fresh (by rw [hz]; omega)) (I.hok.fresh (by rw [hz]; exact Nat.le_refl z)) (fun e => absurd (show z = z + 1 from e) (by omega))
  have J := Inv.made (C := C) I
  have rr : Vals [V.ref (z + 1)] [Value.ref (z + 1)] := .cons rfl .nil
  rw [hz] at J
  have to := hb.to _ [Value.ref (z + 1)] ws J.kIn rfl (by rw [← rz.length]; exact ls)
  refine wpAny_call (make_map (f := f) I.kIn M.makes M.init (beq_iff_eq.mp M.fn) ?_)
  rw [hz]
  refine codeAny_mono (F.run _ X.stack _ _ ⟨[Value.ref (z + 1)], ks.zip ws⟩ _ _ _ _ (hr.make C [] (ks.zip ws)) (J.env0.make C [] (ks.zip ws)) to (hb.rel rr rz) q) fun r t c => ?_
  have := cr_made J hx r t c
  rcases r with e | (u | _ | _ | _) <;> exact this
end
end
def jCalXS (sp : Sp) (W : WX) (t : TA) : TE := fun σ H Q => t σ H fun vs H1 => sp vs H1 Q (WE W σ)
def jCalKXS (m : Nat) (sp : Sp) (W : WX) (gV : List V → List V) (tk : TA) : TE := fun σ H Q => tk σ H fun zs H2 => zs.length = m ∧ sp (gV zs) H2 Q (WE W σ)
def jMethXS (C : Addr) (m : Str) (sp : Sp) (W : WX) (ta : TE) (t : TA) : TE := fun σ H Q => ta σ H fun x H1 => ∃ a dx fs, x = .ref a ∧ H1 a = some (.ins C dx fs) ∧ fs.lookup m = none ∧ t σ H1 fun vs H2 => sp (x :: vs) H2 Q (WE W σ)
def jMethKXS (C : Addr) (m : Str) (n : Nat) (sp : Sp) (W : WX) (gV : List V → List V → List V) (ta : TE) (tk : TA) : TE := fun σ H Q => ta σ H fun x H1 => ∃ a dx fs, x = .ref a ∧ H1 a = some (.ins C dx fs) ∧ fs.lookup m = none ∧ tk σ H1 fun zs H2 => zs.length = n ∧ sp (gV [.ref a] zs) H2 Q (WE W σ)
def jMakeXS (C : Addr) (sp : Sp) (W : WX) (t : TA) : TE := fun σ H Q => t σ H fun vs H2 => ∀ x dx, H2 x = none → H2 dx = none → dx ≠ x →
  sp (.ref x :: vs) (upd (upd H2 dx (.own x)) x (.ins C dx [])) (fun v H3 => v = .non ∧ Q (.ref x) H3) (WE W σ)
def jMakeKXS (C : Addr) (m : Nat) (sp : Sp) (W : WX) (gV : List V → List V → List V) (tk : TA) : TE := fun σ H Q => tk σ H fun zs H2 => zs.length = m ∧ ∀ x dx, H2 x = none → H2 dx = none → dx ≠ x →
  sp (gV [.ref x] zs) (upd (upd H2 dx (.own x)) x (.ins C dx [])) (fun v H3 => v = .non ∧ Q (.ref x) H3) (WE W σ)
section
variable {X : Cx} {k : Nat} {C : Addr} {x qual m : Str} {st : Stmt} {ps : List Str} {sp : Sp} {W : WX} {p pos apos : Pos} {o e : Expr} {es : List Expr} {kws : List Keyword} {ta tf : TE} {t tk : TA}
theorem pe_calX (c : CalX X.prog X.w X.K X.mg X.base k x st ps sp) (tk : Takes X W) (hr : Room k X.A) (ha : PA X (e :: es) t) (hg : Gl X x := by rfl) (hdb : (x == ("__debug__" : Str)) = false := by decide)
    (he : starEach (e :: es) X.env = (false, eval e X.env) :: starEach es X.env := by rfl) (hpl : (backTo pos (starEach es X.env)).any (·.1) = false := by rfl) :
    PE X (.Call (.Name x p) (e :: es) [] pos) (jCalXS sp W t) := by
  obtain ⟨f, fd, hm, hk, hb, F, _⟩ := c.ex
  exact pe_callS F hr hg hm hk hb (fun σ => passAt tk σ) ha hdb he hpl
theorem pe_calKX (c : CalX X.prog X.w X.K X.mg X.base k x st ps sp) (tkx : Takes X W) (ks : List Str) (g : {α : Type} → List α → List α → List α) (hw : KwOk x x st ps 0 ks g) (hg : GOk g) (hr : Room k X.A) (hkw : PK X kws tk) (hgl : Gl X x := by rfl)
    (hall : (backToKw pos (keywordEach kws X.env)).all (·.1.isSome) = true := by rfl) (hks : (backToKw pos (keywordEach kws X.env)).filterMap (·.1) = ks := by rfl) (hdb : (x == ("__debug__" : Str)) = false := by decide)
    (hpl : ((backTo pos (starEach [] X.env)).any (·.1) || (backToKw pos (keywordEach kws X.env)).any (·.1.isNone)) = false := by rfl) :
    PE X (.Call (.Name x p) [] kws pos) (jCalKXS ks.length sp W (fun a => g [] a) tk) := by
  obtain ⟨f, fd, hm, hk, hb, F, S⟩ := c.ex
  have kb := kbn_mk S g hw hg
  refine ⟨fun pins s σ H Q I h => ?_⟩
  refine wpAny_Call_Name_kw (ld_glob I hgl hm ?_ hdb)
  refine PySem.W.callWith_KW0 (h₀ := X.base) I.ok.mod.kin hk hall ?_ hpl
  refine thn (hkw.run pos pins s σ H _ I h) fun ws s2 hh => ?_
  obtain ⟨zs, H2, I2, rz, l2, q2⟩ := hh
  refine ⟨I2.kIn, ?_⟩
  rw [hks]
  exact go_fnK (us := []) (vs := []) F hr kb (passAt tkx σ) I2 .nil rz ⟨rfl, l2⟩ q2
theorem pe_calmX {pl : Sem Bool} (he : PE X o ta) (c : Cls X.K C) (cm : CalMX X.prog X.w X.K X.mg X.base k C m qual st ps sp) (tkx : Takes X W) (hr : Room k X.A) (ha : PA X (e :: es) t)
    (hst : starEach (e :: es) X.env = (false, eval e X.env) :: starEach es X.env := by rfl) (hpl : (backTo pos (starEach es X.env)).any (·.1) = false := by rfl)
    (ht : eval (.Call (.Attribute o m apos) (e :: es) [] pos) X.env = (do
      let ov ← eval o X.env
      standAt apos.atName
      let (f, first) ← holding [ov] (getMethod ov m pl)
      callWith pos f first (backTo pos (starEach (e :: es) X.env)) (backToKw pos (keywordEach [] X.env))) := by rfl) :
    PE X (.Call (.Attribute o m apos) (e :: es) [] pos) (jMethXS C m sp W ta t) := by
  obtain ⟨f, fd, hm, hb, F, _⟩ := cm.ex
  refine ⟨fun pins s σ H Q I h => ?_⟩
  refine PySem.W.methodCall_KW (pl := pl) (thn (he.run pins s σ H _ I h) fun u s1 hh => ?_) ht
  obtain ⟨x, H1, I1, rx, a, dx, fs, ex, ea, l, q⟩ := hh
  subst ex
  obtain rfl : u = Value.ref a := rx
  refine getmeth_ok I1 ea c hm l ?_
  refine PySem.W.callWith_K (first := [.ref a]) (h₀ := X.base) I.ok.mod.kin hm.kp (thn (ha.run pos pins s1 σ H1 _ I1 q) fun us s2 hh2 => ?_) hst hpl
  obtain ⟨vs, H2, I2, r, q2⟩ := hh2
  exact ⟨I2.kIn, run_fnS (us := .ref a :: us) (vs := .ref a :: vs) F hr hb (passAt tkx σ) I2 (.cons rfl r) q2⟩
theorem pe_calm0X {pl : Sem Bool} (he : PE X o ta) (c : Cls X.K C) (cm : CalMX X.prog X.w X.K X.mg X.base k C m qual st ps sp) (tkx : Takes X W) (hr : Room k X.A)
    (ht : eval (.Call (.Attribute o m apos) [] [] pos) X.env = (do
      let ov ← eval o X.env
      standAt apos.atName
      let (f, first) ← holding [ov] (getMethod ov m pl)
      callWith pos f first (backTo pos (starEach [] X.env)) (backToKw pos (keywordEach [] X.env))) := by rfl) :
    PE X (.Call (.Attribute o m apos) [] [] pos) (jMethXS C m sp W ta tNil) := by
  obtain ⟨f, fd, hm, hb, F, _⟩ := cm.ex
  refine ⟨fun pins s σ H Q I h => ?_⟩
  refine PySem.W.methodCall_KW (pl := pl) (thn (he.run pins s σ H _ I h) fun u s1 hh => ?_) ht
  obtain ⟨x, H1, I1, rx, a, dx, fs, ex, ea, l, q⟩ := hh
  subst ex
  obtain rfl : u = Value.ref a := rx
  refine getmeth_ok I1 ea c hm l ?_
  exact PySem.W.callWith_K0 (first := [.ref a]) I1.kIn hm.kp (run_fnS (us := [.ref a]) (vs := [.ref a]) F hr hb (passAt tkx σ) I1 (.cons rfl .nil) q)
theorem pe_calmKX {pl : Sem Bool} (he : PE X o ta) (c : Cls X.K C) (cm : CalMX X.prog X.w X.K X.mg X.base k C m qual st ps sp) (tkx : Takes X W) (ks : List Str) (g : {α : Type} → List α → List α → List α) (hw : KwOk m qual st ps 1 ks g) (hg : GOk g) (hr : Room k X.A) (hkw : PK X kws tk)
    (hall : (backToKw pos (keywordEach kws X.env)).all (·.1.isSome) = true := by rfl) (hks : (backToKw pos (keywordEach kws X.env)).filterMap (·.1) = ks := by rfl)
    (hpl : ((backTo pos (starEach [] X.env)).any (·.1) || (backToKw pos (keywordEach kws X.env)).any (·.1.isNone)) = false := by rfl)
    (ht : eval (.Call (.Attribute o m apos) [] kws pos) X.env = (do
      let ov ← eval o X.env
      standAt apos.atName
      let (f, first) ← holding [ov] (getMethod ov m pl)
      callWith pos f first (backTo pos (starEach [] X.env)) (backToKw pos (keywordEach kws X.env))) := by rfl) :
    PE X (.Call (.Attribute o m apos) [] kws pos) (jMethKXS C m ks.length sp W (fun a b => g a b) ta tk) := by
  obtain ⟨f, fd, hm, _, F, S⟩ := cm.ex
  have hb := kbn_mk S g hw hg
  refine ⟨fun pins s σ H Q I h => ?_⟩
  refine PySem.W.methodCall_KW (pl := pl) (thn (he.run pins s σ H _ I h) fun u s1 hh => ?_) ht
  obtain ⟨x, H1, I1, rx, a, dx, fs, ex, ea, l, q⟩ := hh
  subst ex
  obtain rfl : u = Value.ref a := rx
  refine getmeth_ok I1 ea c hm l ?_
  refine PySem.W.callWith_KW0 (first := [.ref a]) (h₀ := X.base) I.ok.mod.kin hm.kp hall (thn (hkw.run pos pins s1 σ H1 _ I1 q) fun ws s2 hh2 => ?_) hpl
  obtain ⟨zs, H2, I2, rz, l2, q2⟩ := hh2
  refine ⟨I2.kIn, ?_⟩
  rw [hks]
  exact go_fnK (us := [.ref a]) (vs := [.ref a]) F hr hb (passAt tkx σ) I2 (.cons rfl .nil) rz ⟨rfl, l2⟩ q2
theorem pe_calIX (c : CalIX X.prog X.w X.K X.mg X.base k C x qual st ps sp) (tkx : Takes X W) (hr : Room (k + 1) X.A) (ha : PA X (e :: es) t) (hgl : Gl X x := by rfl) (hdb : (x == ("__debug__" : Str)) = false := by decide)
    (he : starEach (e :: es) X.env = (false, eval e X.env) :: starEach es X.env := by rfl) (hpl : (backTo pos (starEach es X.env)).any (·.1) = false := by rfl) :
    PE X (.Call (.Name x p) (e :: es) [] pos) (jMakeXS C sp W t) := by
  obtain ⟨f, fd, M, hm, hb, F, S⟩ := c.ex
  refine ⟨fun pins s σ H Q I h => ?_⟩
  refine wpAny_Call_Name_kw (ld_glob I hgl hm ?_ hdb)
  refine PySem.W.callWith_K (h₀ := X.base) I.ok.mod.kin M.kp (thn (ha.run pos pins s σ H _ I h) fun us s1 hh => ?_) he hpl
  obtain ⟨vs, H1, I1, r, q⟩ := hh
  exact ⟨I1.kIn, go_mk M F hr hb (passAt tkx σ) I1 r q⟩
theorem pe_calIKX (c : CalIX X.prog X.w X.K X.mg X.base k C x qual st ps sp) (tkx : Takes X W) (ks : List Str) (g : {α : Type} → List α → List α → List α) (hw : KwOk "__init__" qual st ps 1 ks g) (hg : GOk g) (hr : Room (k + 1) X.A) (hkw : PK X kws tk) (hgl : Gl X x := by rfl)
    (hall : (backToKw pos (keywordEach kws X.env)).all (·.1.isSome) = true := by rfl) (hks : (backToKw pos (keywordEach kws X.env)).filterMap (·.1) = ks := by rfl) (hdb : (x == ("__debug__" : Str)) = false := by decide)
    (hpl : ((backTo pos (starEach [] X.env)).any (·.1) || (backToKw pos (keywordEach kws X.env)).any (·.1.isNone)) = false := by rfl) :
    PE X (.Call (.Name x p) [] kws pos) (jMakeKXS C ks.length sp W (fun a b => g a b) tk) := by
  obtain ⟨f, fd, M, hm, hb, F, S⟩ := c.ex
  have hkb := kbn_mk S g hw hg
  refine ⟨fun pins s σ H Q I h => ?_⟩
  refine wpAny_Call_Name_kw (ld_glob I hgl hm ?_ hdb)
  refine PySem.W.callWith_KW0 (h₀ := X.base) I.ok.mod.kin M.kp hall ?_ hpl
  refine thn (hkw.run pos pins s σ H _ I h) fun ws s2 hh => ?_
  obtain ⟨zs, H2, I2, rz, l2, q2⟩ := hh
  refine ⟨I2.kIn, ?_⟩
  rw [hks]
  exact go_mkK M F hr hkb (passAt tkx σ) I2 rz l2 q2
/-- an instance, called -/
def jCallOXS (C : Addr) (sp : Sp) (W : WX) (tf : TE) (t : TA) : TE := fun σ H Q => tf σ H fun y H1 => ∃ a dx fs, y = V.ref a ∧ t σ H1 fun vs H2 => H2 a = some (.ins C dx fs) ∧ sp (V.ref a :: vs) H2 Q (WE W σ)
theorem go_raw {CX : CXT} {k : Nat} {f : Addr} {sp : Sp} {E : XK} {Q : VK} {us : List Value} {vs : List V} {pins : List (Addr × Obj)} {σ : L2.St} {H : Hp} {s : Shared} (F : FnR X.prog X.w X.K X.mg X.base CX k f sp) (hr : Room k X.A) (hx : PassesAt CX X σ E) (I : Inv X pins σ H s) (r : Vals vs us) (h : sp vs H Q E) :
    codeAny (model X.prog X.w) X.A (.call (.ref f) ⟨us, []⟩) (fun r t => match r with | .ok (.ret v) => EP X pins σ Q v t | .ok _ => False | .error z => X.xe z t) s :=
  codeAny_mono (F X.A X.stack s H us vs Q E hr I.env0 r h) (cr_end I hx)
theorem pe_calOX {fe : Expr} (hf : PE X fe tf) (cm : CalMX X.prog X.w X.K X.mg X.base k C "__call__" qual st ps sp) (tkx : Takes X W) (hr : Room k X.A) (ha : PA X (e :: es) t)
    (ht : eval (.Call fe (e :: es) [] pos) X.env = (do callWith pos (← eval fe X.env) [] (backTo pos (starEach (e :: es) X.env)) (backToKw pos (keywordEach [] X.env))) := by rfl)
    (he : starEach (e :: es) X.env = (false, eval e X.env) :: starEach es X.env := by rfl) (hpl : (backTo pos (starEach es X.env)).any (·.1) = false := by rfl) : PE X (.Call fe (e :: es) [] pos) (jCallOXS C sp W tf t) := by
  obtain ⟨f, fd, hm, hb, F, S⟩ := cm.ex
  obtain ⟨oc, od, dV, kV, doc, pm, an, cdv, ct, osl, efd, lk, _⟩ := S.ex
  have c : StX.CallO X.K C f := ⟨hm.at_, hm.fn, by unfold PySem.W.fnIn; rw [lk]⟩
  refine ⟨fun pins s σ H Q I h => ?_⟩
  refine Call_ (thn (hf.run pins s σ H _ I h) fun u s1 hh => ?_) ht
  obtain ⟨y, H1, I1, ry, a, dx, fs, ey, q⟩ := hh
  subst ey
  obtain rfl : u = Value.ref a := ry
  refine StX.callO_with (thn (ha.run pos pins s1 σ H1 _ I1 q) fun us s2 hh2 => ?_) he hpl
  obtain ⟨vs, H2, I2, r, hi, q2⟩ := hh2
  have hic : StX.InsC X H2 a C := .inr ⟨dx, fs, hi⟩
  obtain ⟨ox, od', J', hd⟩ := StX.insC_at I2 hic
  exact ⟨⟨C, ox, od', J', hd⟩, wpAny_call (PySem.W.kco_code I2.kIn J' hd c.at_ c.fn c.fi (go_raw (us := .ref a :: us) (vs := .ref a :: vs) (FnR.imp (F.raw hb .nil) fun vs H Q E q => by simpa using q) hr (passAt tkx σ) I2 (.cons rfl r) q2))⟩
end
section
variable {σ : L2.St} {H : Hp} {Q : VK} {C : Addr} {m : Str} {sp : Sp} {W : WX} {ta tf : TE} {t tk : TA}
theorem w_calX (h : t σ H fun vs H1 => sp vs H1 Q (WE W σ)) : jCalXS sp W t σ H Q := h
theorem w_calKX {n : Nat} {gV : List V → List V} (h : tk σ H fun zs H2 => zs.length = n ∧ sp (gV zs) H2 Q (WE W σ)) : jCalKXS n sp W gV tk σ H Q := h
theorem w_methX (h : ta σ H fun x H1 => ∃ a dx fs, x = .ref a ∧ H1 a = some (.ins C dx fs) ∧ fs.lookup m = none ∧ t σ H1 fun vs H2 => sp (x :: vs) H2 Q (WE W σ)) : jMethXS C m sp W ta t σ H Q := h
theorem w_methKX {n : Nat} {gV : List V → List V → List V} (h : ta σ H fun x H1 => ∃ a dx fs, x = .ref a ∧ H1 a = some (.ins C dx fs) ∧ fs.lookup m = none ∧ tk σ H1 fun zs H2 => zs.length = n ∧ sp (gV [.ref a] zs) H2 Q (WE W σ)) : jMethKXS C m n sp W gV ta tk σ H Q := h
theorem w_makeX (h : t σ H fun vs H2 => ∀ x dx, H2 x = none → H2 dx = none → dx ≠ x →
  sp (.ref x :: vs) (upd (upd H2 dx (.own x)) x (.ins C dx [])) (fun v H3 => v = .non ∧ Q (.ref x) H3) (WE W σ)) : jMakeXS C sp W t σ H Q := h
theorem w_makeKX {n : Nat} {gV : List V → List V → List V} (h : tk σ H fun zs H2 => zs.length = n ∧ ∀ x dx, H2 x = none → H2 dx = none → dx ≠ x →
  sp (gV [.ref x] zs) (upd (upd H2 dx (.own x)) x (.ins C dx [])) (fun v H3 => v = .non ∧ Q (.ref x) H3) (WE W σ)) : jMakeKXS C n sp W gV tk σ H Q := h
theorem w_callOX (h : tf σ H fun y H1 => ∃ a dx fs, y = V.ref a ∧ t σ H1 fun vs H2 => H2 a = some (.ins C dx fs) ∧ sp (V.ref a :: vs) H2 Q (WE W σ)) : jCallOXS C sp W tf t σ H Q := h
end
end J
namespace J
open PySem PySem.Spec PyProof.Rows L2
/-! ### several except clauses, each with or without a name -/
abbrev Hdl : Type := Value × Option Nat × (Addr → Value → Option Addr → TS)
def atEnd (i : Nat) (D : Ends) : Ends := { nx := fun σ' H' => D.nx (σ'.set i none) H', rt := D.rt, bk := fun σ' H' => D.bk (σ'.set i none) H', ct := fun σ' H' => D.ct (σ'.set i none) H' }
def hdGoes (i : Option Nat) (ts : Addr → Value → Option Addr → TS) (D : Ends) : WX := fun cls d σ H => ∀ a, H a = none → match i with
  | none => ts a cls d D σ H
  | some i => ts a cls d (atEnd i D) (σ.set i (some (.ref a))) H
def wHds (K : PySem.W.Frag) (Wout : WX) (D : Ends) : List Hdl → WX
  | [] => Wout
  | (c, i, ts) :: r => fun cls d σ H => ∃ b, PySem.W.exmOne K cls c = some b ∧ (b = true → hdGoes i ts D cls d σ H) ∧ (b = false → wHds K Wout D r cls d σ H)
inductive HdsA (X : Cx) : List ExceptHandler → List Hdl → Prop
  | nil : HdsA X [] []
  | cons {x : Str} {c : Value} {ts : Addr → Value → Option Addr → TS} {b₀ : Stmt} {suite : List Stmt} {np pos' : Pos} {hds : List ExceptHandler} {l : List Hdl} (hc : Names X x c)
      (hsu : ∀ (a : Addr) (oe : Obj) (cls : Value) (d : Option Addr) (pn : List (Addr × Obj)), Zc cls d oe → (∃ vs, oe.data = .fields vs) → PSs (X.suite a ((a, oe) :: pn)) (b₀ :: suite) (ts a cls d)) (r : HdsA X hds l) :
      HdsA X (.ExceptHandler (some (.Name x np)) none (b₀ :: suite) pos' :: hds) ((c, none, ts) :: l)
  | consA {x n : Str} {i : Nat} {c : Value} {ts : Addr → Value → Option Addr → TS} {b₀ : Stmt} {suite : List Stmt} {np pos' : Pos} {hds : List ExceptHandler} {l : List Hdl} (hN : X.N.Nodup) (hi : X.N[i]? = some n) (hln : X.env.kindOf n = some .local) (hc : Names X x c)
      (hsu : ∀ (a : Addr) (oe : Obj) (cls : Value) (d : Option Addr) (pn : List (Addr × Obj)), Zc cls d oe → (∃ vs, oe.data = .fields vs) → PSs (X.suite a ((a, oe) :: pn)) (b₀ :: suite) (ts a cls d)) (r : HdsA X hds l) :
      HdsA X (.ExceptHandler (some (.Name x np)) (some n) (b₀ :: suite) pos' :: hds) ((c, some i, ts) :: l)
def tTryA (K : PySem.W.Frag) (Wout : WX) (l : List Hdl) (tb : WX → TS) : TS := fun D σ H => tb (wHds K Wout D l) D σ H
/-- what a block leaves, told of another state of the same slots -/
theorem sp_map {X X' : Cx} {pins pins' : List (Addr × Obj)} {D : Ends} (h : ∀ σ H s, Inv X pins σ H s → Inv X' pins' σ H s) : ∀ {f : Flow} {s : Shared}, SP X pins D f s → SP X' pins' D f s
  | .next, s, ⟨σ, H, I, q⟩ => ⟨σ, H, h σ H s I, q⟩
  | .brk, s, ⟨σ, H, I, q⟩ => ⟨σ, H, h σ H s I, q⟩
  | .cont, s, ⟨σ, H, I, q⟩ => ⟨σ, H, h σ H s I, q⟩
  | .ret _, s, ⟨v, σ, H, I, r, q⟩ => ⟨v, σ, H, h σ H s I, r, q⟩
section
variable {X : Cx} {pins : List (Addr × Obj)} {D : Ends} {Wout : WX}
/-- an exception that has landed at a try of X: B its ground, σ and H what stands -/
structure Landed (X : Cx) (Wout : WX) (pins : List (Addr × Obj)) (B : Heap) (a : Addr) (cls : Value) (d : Option Addr) (σ : L2.St) (H : Hp) (s : Shared) : Prop where
  inv : Inv X pins σ H s
  fly : HandSPX.FlyingZ B (X.env :: X.outer) a (Zc cls d) s.heap
  na : H a = none
  up : ∀ h', s.heap.UpToSlots h' → B.StaysIn h' → Inv X pins σ H { s with heap := h' }
  out : ∀ h', s.heap.UpToSlots h' → HandSPX.HeldZ B (X.env :: X.outer) a (Zc cls d) X.env.locals h' → Wout cls d σ H → XE X Wout (.ref a) { s with heap := h' }
theorem Landed.frame {B : Heap} {a : Addr} {cls : Value} {d : Option Addr} {σ : L2.St} {H : Hp} {s : Shared} (L : Landed X Wout pins B a cls d σ H s) (hf : X.env.frame = some X.env.locals) : a ≠ X.env.locals ∧ a ∉ X.fs := by
  obtain ⟨oe, vs, he, _, hd⟩ := L.fly.there
  have no : ∀ e ∈ X.env :: X.outer, e.frame ≠ some a := fun e hm z => by
    obtain ⟨_, o, ho, nf⟩ := L.fly.2.2.1.mem (List.mem_filterMap.mpr ⟨e, hm, z⟩)
    have := Option.some.inj (he.symm.trans ho)
    exact nf vs (this ▸ hd)
  refine ⟨fun z => no _ (List.mem_cons_self ..) (by rw [hf, z]), fun hm => ?_⟩
  obtain ⟨e, hm, z⟩ := List.mem_filterMap.mp hm
  exact no e (List.mem_cons_of_mem _ hm) z
/-- the clauses, one after the other -/
theorem clauses (hf : X.env.frame = some X.env.locals) (tk : Takes X Wout) {B : Heap} {a : Addr} {cls : Value} {d : Option Addr} {σ : L2.St} {H : Hp} {s : Shared} (L : Landed X Wout pins B a cls d σ H s) :
    ∀ {hds : List ExceptHandler} {l : List Hdl}, HdsA X hds l → wHds X.K Wout D l cls d σ H → wpAny (model X.prog X.w) X.A (handleBy (.ref a) X.env hds) (SP X pins D) X.xe s := by
  intro hds l hk
  obtain ⟨nL, nF⟩ := L.frame hf
  obtain ⟨oe0, vs0, he0, hz0, hd0⟩ := L.fly.there
  have S0 := L.inv.suite he0 hd0 L.na nL nF
  have name : ∀ {x : Str} {c : Value} {np : Pos} {Q E : Value → Shared → Prop}, Names X x c → Q c s → wpAny (model X.prog X.w) (X.A.mark (some (.ref a))) (eval (.Name x np) X.env) Q E s := by
    rintro x c np Q E ⟨hg, db, hm | ⟨hm, hv, hn⟩⟩ q
    · exact ld_glob (X := X.suite a ((a, oe0) :: (X.pn ++ pins))) S0 hg hm q db
    · exact ld_blt (X := X.suite a ((a, oe0) :: (X.pn ++ pins))) S0 hg hm hv q hn db
  have ty : PySem.W.Looks (model X.prog X.w) s.heap (typeOf (.ref a)) cls := fun A Q E t k q => wpAny_typeOf_ref (k _ _ he0) (hz0.1 ▸ q)
  -- within a suite, its flight ended
  have suite : ∀ {Q : Unit → Shared → Prop} {E : Value → Shared → Prop}, (∀ oe h', Zc cls d oe → (∃ vs, oe.data = .fields vs) → Inv (X.suite a ((a, oe) :: (X.pn ++ pins))) [] σ H { s with heap := h' } → Q () { s with heap := h' }) → wpAny (model X.prog X.w) (X.A.mark (some (.ref a))) (setFlight (.ref a) none) Q E s := fun q =>
    HandSPX.lands_againZ L.fly fun h' fl u => by
      obtain ⟨oe, vs, he, hz, hd⟩ := fl.there
      exact q oe h' hz ⟨vs, hd⟩ ((L.up h' u fl.1).suite he hd L.na nL nF)
  induction hk with
  | nil =>
    intro w
    refine wpAny_handleBy_nil ?_
    obtain ⟨_, _, _, oe, vs, T, _, _, he, _, hd, h1, _⟩ := id L.fly
    have fly : wpAny (model X.prog X.w) X.A (setFlight (.ref a) X.env.frame) (fun _ t => wpAny (model X.prog X.w) X.A (throw (.ref a) : Sem Flow) (SP X pins D) X.xe t) X.xe s := by
      rw [hf]
      exact HandSPX.setFlight_upZ L.fly fun h' hh u => wpAny_throw (tk _ _ (L.out h' u hh w))
    unfold PySem.passOn
    refine wpAny_bind (wpAny_field he hd h1 ?_)
    have : (Value.ref T == Value.none) = false := rfl
    simp only [this, Bool.false_eq_true, if_false]
    first | exact wpAny_bind fly | exact wpAny_bind (wpAny_pure (wpAny_bind fly))
  | cons hc hsu r ih =>
    rintro ⟨b, eb, yes, no⟩
    refine wpAny_handleBy_cons (codeAny_handlers_test (name hc ((PySem.W.exm_one (M := model X.prog X.w) L.inv.kIn ty eb).here ?_))) (fun z => nomatch z)
    rcases b with _ | _
    · exact ih (no rfl)
    · refine codeAny_handlers_suite (suite fun oe h' hz hd S => ?_)
      exact wpAny_mono ((hsu a oe cls d (X.pn ++ pins) hz hd).run [] _ σ H D S (yes rfl a L.na)) (fun f t q => sp_map (fun _ _ _ J => J.unsuite L.inv.ok) q) fun _ _ z => z.elim
  | @consA x n i c ts b₀ su np pos' hds2 l2 hN hi hln hc hsu r ih =>
    rintro ⟨b, eb, yes, no⟩
    refine wpAny_handleBy_cons (codeAny_handlers_test (name hc ((PySem.W.exm_one (M := model X.prog X.w) L.inv.kIn ty eb).here ?_))) (fun z => nomatch z)
    rcases b with _ | _
    · exact ih (no rfl)
    · refine codeAny_handlers_suite_as (suite fun oe h' hz hd S => ?_)
      refine store_ok (X := X.suite a ((a, oe) :: (X.pn ++ pins))) (v := .ref a) S hN hi (.inl hln) rfl (fun t S' => ?_) (.inr hln)
      have gone : ∀ {τ : L2.St} {G : Hp} {u : Shared} {Q : Shared → Prop}, Inv (X.suite a ((a, oe) :: (X.pn ++ pins))) [] τ G u → (∀ u', Inv X pins (τ.set i none) G u' → Q u') → wpAny (model X.prog X.w) X.A (do bindName X.env n .none; unbindBehindTheSuite X.env n pos') (fun _ u' => Q u') X.xe u := fun J q =>
        gone_ok (J.unsuite L.inv.ok) hN hi hln q
      refine wpAny_mono ((hsu a oe cls d (X.pn ++ pins) hz hd).run [] t _ H (atEnd i D) S' (yes rfl a L.na)) (fun f u q => ?_) fun _ _ z => z.elim
      rcases f with _ | _ | _ | _
      all_goals first
        | (obtain ⟨τ, G, J, q⟩ := q; exact gone J fun u' J' => ⟨_, G, J', q⟩)
        | (obtain ⟨v, τ, G, J, r, q⟩ := q; exact gone J fun u' J' => ⟨v, _, G, J', r, q⟩)
theorem ps_tryA {body : List Stmt} {h₀ : ExceptHandler} {hds : List ExceptHandler} {l : List Hdl} {pos : Pos} {tb : WX → TS} (hs : X.stack = X.env :: X.outer) (hf : X.env.frame = some X.env.locals) (tk : Takes X Wout)
    (hb : ∀ (W : WX) (pn : List (Addr × Obj)) (xe : Value → Shared → Prop), Takes (X.tr pn xe) W → PassesOwn (model X.prog X.w) X.A X.env xe → PSs (X.tr pn xe) body (tb W))
    (hh : HdsA X (h₀ :: hds) l) : PS X (.Try body (h₀ :: hds) [] [] pos) (tTryA X.K Wout l tb) := by
  refine ⟨fun pins s σ H D I h => wpAny_Try_except ?_⟩
  have fr : X.A.frames = some (X.env :: X.outer) := I.ok.frames.trans (congrArg some hs)
  refine wpAny_mono ((hb (wHds X.K Wout D l) (X.pn ++ pins) _ ?_ PassesOwn.looking).run [] s σ H D (I.toTry _) h) (fun f t q => ?_) (fun _ _ z => z)
  · rintro u t ⟨a, B, sI, _, τ, G, cls, d, rfl, J0, nb, up, sky, na, os, ag, w⟩
    have J : Inv X pins τ G sI := J0.ofTry I.ok
    have sky : Sky B (X.env :: X.outer) a (Zc cls d) X.env.locals t.heap := hs ▸ sky
    show wpAny (model X.prog X.w) X.A (noteFrame (.ref a) X.env) _ _ _
    refine Sky.land Zc.steady fr hf sky fun h' fly u' => ?_
    have upT := up.trans u'
    refine clauses (D := D) (Wout := Wout) hf tk (B := B) (s := { t with heap := h' }) ⟨J.landed nb fly.1 upT os ag, fly, na, fun h2 u2 st => J.landed (s' := { t with heap := h2 }) nb st (upT.trans u2) os ag, fun h2 u2 hh w => ?_⟩ hh w
    exact ⟨a, B, sI, pins, τ, G, cls, d, rfl, J, nb, upT.trans u2, .inr (.inr (by rw [hs]; exact hh)), na, os, ag, w⟩
  · have q' := sp_map (fun τ G u (J : Inv (X.tr (X.pn ++ pins) _) [] τ G u) => J.ofTry I.ok) q
    rcases f with _ | _ | _ | _
    all_goals first
      | exact wpAny_execs_nil q'
      | exact q'
end
theorem w_tryA {K : PySem.W.Frag} {Wout : WX} {l : List Hdl} {tb : WX → TS} {D : Ends} {σ : L2.St} {H : Hp} (h : tb (wHds K Wout D l) D σ H) : tTryA K Wout l tb D σ H := h
/-- the clause takes it -/
theorem hd_takes {K : PySem.W.Frag} {Wout : WX} {D : Ends} {c : Value} {i : Option Nat} {ts : Addr → Value → Option Addr → TS} {r : List Hdl} {cls : Value} {d : Option Addr} {σ : L2.St} {H : Hp} (e : PySem.W.exmOne K cls c = some true) (h : hdGoes i ts D cls d σ H) : WE (wHds K Wout D ((c, i, ts) :: r)) σ cls d H :=
  ⟨true, e, (fun _ => h), (fun z => nomatch z)⟩
/-- the clause lets it pass -/
theorem hd_skips {K : PySem.W.Frag} {Wout : WX} {D : Ends} {c : Value} {i : Option Nat} {ts : Addr → Value → Option Addr → TS} {r : List Hdl} {cls : Value} {d : Option Addr} {σ : L2.St} {H : Hp} (e : PySem.W.exmOne K cls c = some false) (h : WE (wHds K Wout D r) σ cls d H) : WE (wHds K Wout D ((c, i, ts) :: r)) σ cls d H :=
  ⟨false, e, (fun z => nomatch z), fun _ => h⟩
theorem w_xf {a : Addr} {cls : Value} {d : Option Addr} {C : Addr} {f : Str} {te : TE} {σ : L2.St} {H : Hp} {Q : VK} (h : te σ H fun x H1 => x = .ref a ∧ cls = .ref C ∧ ∃ (dd : Addr) (fs : List (Str × V)) (v : V), d = some dd ∧ H1 dd = some (.xd fs) ∧ fs.lookup f = some v ∧ Q v H1) : tXf a cls d C f te σ H Q := h
/-- for a call in a try that no clause is needed for -/
theorem xd_new {H : Hp} {d : Addr} {n : Str} {v : V} : upd H d (.xd [(n, v)]) d = some (.xd [(n, v)]) := upd_same
end J
namespace J
/-! ### turned and mirrored rows -/
/-- a begin that lies before the end of a stretch lies not behind its begin -/
theorem begin_before {N : Int} {rs : List (Int × Int)} (R : Rows N rs) {i : Nat} {b r e k m : Int} {c : Int × Int} (h1 : rs[i]? = some (b, r)) (h2 : (endsL N rs)[i]? = some e) (hc : c ∈ rs) (hlt : c.1 + N * k < e + N * m) : c.1 + N * k ≤ b + N * m := by
  rcases (show c.1 + N * k ≤ b + N * m ∨ b + N * m < c.1 + N * k by omega) with z | z
  · exact z
  · obtain ⟨j1, j2⟩ := jump R (b := c.1) (r := c.2) hc
    have a1 := j1.shift k
    have a2 : IsLift N rs (c.1 + N * k) (b + (r - b) % N + N * m) := ⟨i, b, r, e, m, h1, h2, by omega, hlt, rfl⟩
    have a3 : IsLift N rs (c.1 + N * k - 1) (b + (r - b) % N + N * m) := ⟨i, b, r, e, m, h1, h2, by omega, by omega, rfl⟩
    rw [← IsLift.unique R a1 a2] at a3
    have a4 := a3.shift (-k)
    have d : N * (-k) = -(N * k) := Int.mul_neg ..
    have e1 : c.1 + N * k - 1 + N * (-k) = c.1 - 1 := by omega
    have e2 : c.1 + (c.2 - c.1) % N + N * k + N * (-k) = c.1 + (c.2 - c.1) % N := by omega
    rw [e1, e2] at a4
    exact absurd a4 j2
/-- each rest lies before all later begins, on the integers -/
def Gap (N : Int) (rs : List (Int × Int)) : Prop := ∀ p ∈ rs, ∀ q ∈ rs, ∀ k : Int, p.1 < q.1 + N * k → p.1 + (p.2 - p.1) % N < q.1 + N * k
theorem gap_of {N : Int} {rs : List (Int × Int)} (R : Rows N rs) : Gap N rs := by
  intro p hp q hq k h
  obtain ⟨i, e, h1, h2⟩ := row_ends R hp
  obtain ⟨b, r⟩ := p
  have st := R.st i b r e h1 h2
  show b + (r - b) % N < q.1 + N * k
  have h' : b < q.1 + N * k := h
  rcases (show q.1 + N * k < e ∨ e ≤ q.1 + N * k by omega) with z | z
  · have := begin_before R (k := k) (m := 0) h1 h2 hq (by omega)
    omega
  · omega
theorem rows_gap {N : Int} {rs : List (Int × Int)} (n2 : 2 ≤ N) (n360 : N ≤ 360) (l1 : 1 ≤ rs.length) (l12 : rs.length ≤ 12) (bd : ∀ q ∈ rs, 0 ≤ q.1 ∧ q.1 < N ∧ 0 ≤ q.2 ∧ q.2 < N) (nd : (rs.map Prod.fst).Nodup) (g : Gap N rs) : Rows N (sortP rs) := by
  refine rows_of n2 n360 l1 l12 bd nd fun p hp q hq => ⟨fun h => ?_, ?_⟩
  · have := g p hp q hq 0 (by omega)
    omega
  · have b1 := bd p hp
    have b2 := bd q hq
    have := g p hp q hq 1 (by omega)
    omega
theorem nodup_fst {N : Int} {rs : List (Int × Int)} (R : Rows N rs) : (rs.map Prod.fst).Nodup := by
  unfold List.Nodup
  rw [List.pairwise_map]
  exact R.asc.imp fun h e => by omega
theorem mod_part (N x : Int) : ∃ k : Int, x % N = x + N * k := ⟨-(x / N), by
  have := Int.emod_add_mul_ediv x N
  have e : N * (-(x / N)) = -(N * (x / N)) := Int.mul_neg ..
  omega⟩
theorem rows_turn {N : Int} {rs : List (Int × Int)} (R : Rows N rs) (c : Int) : Rows N (turnR N c rs) := by
  have n2 := R.n2
  have n0 : 0 < N := by omega
  have g := gap_of R
  refine rows_gap n2 R.n360 (by rw [List.length_map]; exact R.l1) (by rw [List.length_map]; exact R.l12) (fun q hq => ?_) ?_ ?_
  · obtain ⟨a, ha, rfl⟩ := List.mem_map.mp hq
    exact ⟨Int.emod_nonneg _ (by omega), Int.emod_lt_of_pos _ n0, Int.emod_nonneg _ (by omega), Int.emod_lt_of_pos _ n0⟩
  · have nd := nodup_fst R
    unfold List.Nodup at nd ⊢
    rw [List.pairwise_map] at nd
    rw [List.map_map, List.pairwise_map]
    refine nd.imp_of_mem fun {p q} hp hq h e => h ?_
    have bp := R.bd p hp
    have bq := R.bd q hq
    have e' : (p.1 + c) % N = (q.1 + c) % N := e
    exact mod_inj n0 (b0 := 0) ⟨bp.1, by omega⟩ ⟨bq.1, by omega⟩ (by
      have := congrArg (fun z => (z - c) % N) e'
      simp only [Int.emod_sub_emod, Int.add_sub_cancel] at this
      exact this)
  · intro p hp q hq k h
    obtain ⟨a, ha, rfl⟩ := List.mem_map.mp hp
    obtain ⟨b, hb, rfl⟩ := List.mem_map.mp hq
    show (a.1 + c) % N + ((a.2 + c) % N - (a.1 + c) % N) % N < (b.1 + c) % N + N * k
    have h' : (a.1 + c) % N < (b.1 + c) % N + N * k := h
    rw [dif_mov]
    obtain ⟨u, hu⟩ := mod_part N (a.1 + c)
    obtain ⟨v, hv⟩ := mod_part N (b.1 + c)
    rw [hu, hv] at h' ⊢
    have d : N * (v + k - u) = N * v + N * k - N * u := by rw [Int.mul_sub, Int.mul_add]
    have := g a ha b hb (v + k - u) (by omega)
    omega
/-- two turnings with one map have the same rows -/
theorem rows_ext {N : Int} {rs rs' : List (Int × Int)} (R : Rows N rs) (R' : Rows N rs') (h : ∀ x y, IsLift N rs x y → IsLift N rs' x y) : rs = rs' := by
  have back : ∀ x y, IsLift N rs' x y → IsLift N rs x y := fun x y hy => by
    obtain ⟨z, hz⟩ := R.lift x
    rw [IsLift.unique R' hy (h _ _ hz)]
    exact hz
  have sub : ∀ {ss tt : List (Int × Int)}, Rows N ss → Rows N tt → (∀ x y, IsLift N ss x y → IsLift N tt x y) → (∀ x y, IsLift N tt x y → IsLift N ss x y) → ∀ q ∈ ss, q ∈ tt := by
    intro ss tt S T f g q hq
    obtain ⟨b, r⟩ := q
    obtain ⟨j1, j2⟩ := jump S hq
    have m := begin_of_jump T (f _ _ j1) fun z => j2 (g _ _ z)
    have bd := S.bd _ hq
    simp at bd
    have e1 : b % N = b := Int.emod_eq_of_lt bd.1 bd.2.1
    have e2 : (b + (r - b) % N) % N = r := by
      rw [Int.add_emod_emod]
      have e : b + (r - b) = r := by omega
      rw [e]
      exact Int.emod_eq_of_lt bd.2.2.1 bd.2.2.2
    rw [e1, e2] at m
    exact m
  have p : rs.Perm rs' := (List.perm_ext_iff_of_nodup R.nodup R'.nodup).mpr fun q => ⟨sub R R' h back q, sub R' R back h q⟩
  have s1 : sortP rs = sortP rs' := sortP_of_perm p
  rwa [sortP_id R.sorted, sortP_id R'.sorted] at s1
theorem turn_back {N c : Int} {rs : List (Int × Int)} (R : Rows N rs) : turnR N (-c) (turnR N c rs) = rs := by
  have R1 := rows_turn R c
  have R2 := rows_turn R1 (-c)
  refine (rows_ext R R2 fun x y h => ?_).symm
  have := turned_lift R1 R2 (turned_lift R R1 h)
  have e1 : x + c + -c = x := by omega
  have e2 : y + c + -c = y := by omega
  rwa [e1, e2] at this
theorem turn_mod {N c : Int} {rs : List (Int × Int)} : turnR N (c % N) rs = turnR N c rs := by
  unfold turnR
  congr 1
  refine List.map_congr_left fun q _ => ?_
  unfold movP
  simp only [Int.add_emod_emod]
/-! mirrored -/
def mirL (N : Int) (rs : List (Int × Int)) : List (Int × Int) := (rs.zip (endsL N rs)).map fun q => ((1 - q.2) % N, (-q.1.2) % N)
def mirR (N : Int) (rs : List (Int × Int)) : List (Int × Int) := sortP (mirL N rs)
theorem mirL_length {N : Int} {rs : List (Int × Int)} (h : 1 ≤ rs.length) : (mirL N rs).length = rs.length := by
  unfold mirL
  rw [List.length_map, List.length_zip, endsL_length h]
  omega
theorem mem_mirL {N : Int} {rs : List (Int × Int)} {q : Int × Int} (h : q ∈ mirL N rs) : ∃ (i : Nat) (b r e : Int), rs[i]? = some (b, r) ∧ (endsL N rs)[i]? = some e ∧ q = ((1 - e) % N, (-r) % N) := by
  obtain ⟨⟨⟨b, r⟩, e⟩, hm, rfl⟩ := List.mem_map.mp h
  obtain ⟨i, hi⟩ := List.getElem?_of_mem hm
  rw [List.getElem?_zip_eq_some] at hi
  exact ⟨i, b, r, e, hi.1, hi.2, rfl⟩
theorem mirL_get {N : Int} {rs : List (Int × Int)} {i : Nat} {b r e : Int} (h1 : rs[i]? = some (b, r)) (h2 : (endsL N rs)[i]? = some e) : (mirL N rs)[i]? = some ((1 - e) % N, (-r) % N) := by
  unfold mirL
  have : (rs.zip (endsL N rs))[i]? = some ((b, r), e) := List.getElem?_zip_eq_some.mpr ⟨h1, h2⟩
  rw [List.getElem?_map, this]
  rfl
theorem mir_dif {N : Int} {rs : List (Int × Int)} (R : Rows N rs) {i : Nat} {b r e : Int} (h1 : rs[i]? = some (b, r)) (h2 : (endsL N rs)[i]? = some e) : ((-r) % N - (1 - e) % N) % N = e - 1 - b - (r - b) % N := by
  have n2 := R.n2
  obtain ⟨b0, r0, h0⟩ := R.first
  have a := R.end_le h0 h1 h2
  have st := R.st i b r e h1 h2
  have m := Int.emod_nonneg (r - b) (show N ≠ 0 by omega)
  rw [← Int.sub_emod]
  have d := Int.emod_add_mul_ediv (r - b) N
  have e1 : -r - (1 - e) = (e - 1 - b - (r - b) % N) + N * (-((r - b) / N)) := by
    rw [Int.mul_neg]; omega
  rw [e1, Int.add_mul_emod_self_left]
  exact Int.emod_eq_of_lt (by omega) (by omega)
/-- an end is a begin, perhaps a lap on -/
theorem end_begin {N : Int} {rs : List (Int × Int)} (R : Rows N rs) {i : Nat} {e : Int} (h : (endsL N rs)[i]? = some e) : ∃ c ∈ rs, ∃ k : Int, e = c.1 + N * k := by
  obtain ⟨⟨b0, r0⟩, h0⟩ : ∃ q, rs[0]? = some q := by
    obtain ⟨b0, r0, h0⟩ := R.first
    exact ⟨_, h0⟩
  have hi := (List.getElem?_eq_some_iff.mp h).1
  rw [endsL_length R.l1] at hi
  by_cases hl : i + 1 < rs.length
  · obtain ⟨⟨b', r'⟩, h'⟩ : ∃ q, rs[i + 1]? = some q := ⟨rs[i + 1], by simp [hl]⟩
    have e1 := ends_get (N := N) h'
    rw [h] at e1; cases e1
    exact ⟨_, List.mem_of_getElem? h', 0, by simp⟩
  · have e1 : i = rs.length - 1 := by omega
    have e2 := ends_last (N := N) h0
    rw [← e1, h] at e2; cases e2
    exact ⟨_, List.mem_of_getElem? h0, 1, by simp⟩
theorem rows_mir {N : Int} {rs : List (Int × Int)} (R : Rows N rs) : Rows N (mirR N rs) := by
  have n2 := R.n2
  have n0 : 0 < N := by omega
  obtain ⟨b0, r0, h0⟩ := R.first
  refine rows_gap n2 R.n360 (by rw [mirL_length R.l1]; exact R.l1) (by rw [mirL_length R.l1]; exact R.l12) (fun q hq => ?_) ?_ ?_
  · obtain ⟨i, b, r, e, h1, h2, rfl⟩ := mem_mirL hq
    exact ⟨Int.emod_nonneg _ (by omega), Int.emod_lt_of_pos _ n0, Int.emod_nonneg _ (by omega), Int.emod_lt_of_pos _ n0⟩
  · unfold List.Nodup
    rw [List.pairwise_map, List.pairwise_iff_getElem]
    intro i j hi hj hij e
    have hi' : i < rs.length := by rw [← mirL_length R.l1 (N := N)]; exact hi
    have hj' : j < rs.length := by rw [← mirL_length R.l1 (N := N)]; exact hj
    have li : i < (endsL N rs).length := by rw [endsL_length R.l1]; exact hi'
    have lj : j < (endsL N rs).length := by rw [endsL_length R.l1]; exact hj'
    obtain ⟨⟨bi, ri⟩, gi⟩ : ∃ q, rs[i]? = some q := ⟨rs[i], by simp [hi']⟩
    obtain ⟨⟨bj, rj⟩, gj⟩ : ∃ q, rs[j]? = some q := ⟨rs[j], by simp [hj']⟩
    obtain ⟨ei, hei⟩ : ∃ e, (endsL N rs)[i]? = some e := ⟨(endsL N rs)[i], by simp [li]⟩
    obtain ⟨ej, hej⟩ : ∃ e, (endsL N rs)[j]? = some e := ⟨(endsL N rs)[j], by simp [lj]⟩
    have mi := mirL_get gi hei
    have mj := mirL_get gj hej
    rw [List.getElem?_eq_getElem hi] at mi
    rw [List.getElem?_eq_getElem hj] at mj
    rw [Option.some.inj mi, Option.some.inj mj] at e
    have e' : (1 - ei) % N = (1 - ej) % N := e
    have ai := R.end_le h0 gi hei
    have aj := R.end_le h0 gj hej
    have lt := ends_le_begin R hij hei gj
    have : 1 - ei = 1 - ej := mod_inj n0 (b0 := 1 - b0 - N) (by omega) (by omega) e'
    omega
  · intro p hp q hq k h
    obtain ⟨i, b, r, e, h1, h2, rfl⟩ := mem_mirL hp
    obtain ⟨j, c, s, f, k1, k2, rfl⟩ := mem_mirL hq
    show (1 - e) % N + ((-r) % N - (1 - e) % N) % N < (1 - f) % N + N * k
    have h' : (1 - e) % N < (1 - f) % N + N * k := h
    rw [mir_dif R h1 h2]
    obtain ⟨u, hu⟩ := mod_part N (1 - e)
    obtain ⟨v, hv⟩ := mod_part N (1 - f)
    rw [hu, hv] at h' ⊢
    obtain ⟨g, hg, m, hf⟩ := end_begin R k2
    have d1 : N * (m + u - v - k) = N * m + N * u - N * v - N * k := by rw [Int.mul_sub, Int.mul_sub, Int.mul_add]
    have := begin_before R (k := m + u - v - k) (m := 0) h1 h2 hg (by omega)
    have m0 := Int.emod_nonneg (r - b) (show N ≠ 0 by omega)
    omega
theorem mir_lift {N x y : Int} {rs : List (Int × Int)} (R : Rows N rs) (h : IsLift N rs x y) : IsLift N (mirR N rs) (-x) (-y) := by
  have n2 := R.n2
  have n0 : 0 < N := by omega
  obtain ⟨b0, r0, h0⟩ := R.first
  obtain ⟨i, b, r, e, q, h1, h2, h3, h4, h5⟩ := h
  have a := R.end_le h0 h1 h2
  have lm : ∀ z c : Int, lowOf N z (c % N) = lowOf N z c := fun z c => by
    have := low_mov (N := N) (x := z) (b := c) (c := 0)
    simpa using this
  have key : lowOf N (-x) ((1 - e) % N) = 1 - e - N * q := by
    rw [lm]
    have l := low_le (N := N) (x := -x) (b := 1 - e) n0
    unfold lowOf at l ⊢
    have z : (-x - (1 - e)) / N = -q := quot_eq (N := N) (b0 := 1 - e) (x := -x) n0 (by omega) (by rw [Int.mul_neg]; omega)
    rw [z, Int.mul_neg]
    omega
  refine Best.lift (rows_mir R) (Best.perm (sortP_perm _).symm ⟨((1 - e) % N, (-r) % N), List.mem_of_getElem? (mirL_get h1 h2), ?_, fun q' hq' => ?_⟩)
  · show -y = lowOf N (-x) ((1 - e) % N) + ((-r) % N - (1 - e) % N) % N
    rw [mir_dif R h1 h2, key]
    omega
  · obtain ⟨j, c, s, f, k1, k2, rfl⟩ := mem_mirL hq'
    show lowOf N (-x) ((1 - f) % N) ≤ lowOf N (-x) ((1 - e) % N)
    rw [key, lm]
    obtain ⟨g, hg, m, hf⟩ := end_begin R k2
    have l := low_le (N := N) (x := -x) (b := 1 - f) n0
    unfold lowOf at l ⊢
    generalize (-x - (1 - f)) / N = t at l ⊢
    rcases (show 1 - f + N * t ≤ 1 - e - N * q ∨ 1 - e - N * q < 1 - f + N * t by omega) with z | z
    · exact z
    · have d : N * (m - t) = N * m - N * t := Int.mul_sub ..
      have := begin_before R (k := m - t) (m := q) h1 h2 hg (by omega)
      omega
theorem mir_mir {N : Int} {rs : List (Int × Int)} (R : Rows N rs) : mirR N (mirR N rs) = rs := by
  have R1 := rows_mir R
  have R2 := rows_mir R1
  refine (rows_ext R R2 fun x y h => ?_).symm
  have := mir_lift R1 (mir_lift R h)
  simpa using this
theorem mir_turn {N c : Int} {rs : List (Int × Int)} (R : Rows N rs) : turnR N (-c) (mirR N rs) = mirR N (turnR N c rs) := by
  have R1 := rows_mir R
  have R2 := rows_turn R1 (-c)
  have R3 := rows_turn R c
  have R4 := rows_mir R3
  refine rows_ext R2 R4 fun x y h => ?_
  obtain ⟨z, hz⟩ := R.lift (-(x + c))
  have a := turned_lift R1 R2 (mir_lift R hz)
  have b := mir_lift R3 (turned_lift R R3 hz)
  have e1 : - -(x + c) + -c = x := by omega
  have e2 : -(-(x + c) + c) = x := by omega
  have e3 : -z + -c = -(z + c) := by omega
  rw [e1, e3] at a
  rw [e2] at b
  rw [IsLift.unique R2 h a]
  exact b
end J
namespace JX
open PySem PySem.W PySem.Calls PyProof.Rows
section
variable {prog : Program} {w : World} {A : Around} {E : Value → Shared → Prop} {s : Shared} {K : Frag} {x C f : Addr} {ox : Obj} {od : Option Obj} {b tb : Value}
/-- object.__ne__ over an own __eq__ -/
theorem objNe {Q : Fin → Shared → Prop} (hu : A.units < cLine) (X : K.In s.heap) (I : InstAt s.heap x ox C od) (he : findIn K (.ref C) "__eq__" = some (some (.ref f))) (hf : isFn K (.ref f) = true)
    (h : wpAny (model prog w) A (call (.ref f) [.ref x, b]) (fun v s' => ∃ c, v = .bool c ∧ Q (.done (.ret (.bool (!c)))) s') E s) :
    wpAny (model prog w) A (Builtin.«object.__ne__» ⟨[.ref x, b], []⟩) Q E s := by
  unfold Builtin.«object.__ne__»
  obtain ⟨hp, g, d, t, os⟩ := s
  repeat (first
    | with_reducible refine wpAny_cRoomFor hu ?_
    | (refine wpAny_bind (m := callSpecialIfBound? (.ref x) (Str.ofString "__eq__") [b])
        (ifBound_K X I he hf (wpAny_mono h (fun r s' hr => by
          obtain ⟨b, rfl, hq⟩ := hr
          repeat (first | exact hq | exact wpAny_pure hq | exact wpAny_truthy_bool hq | (refine wpAny_bind (m := truthy (.bool _)) (wpAny_truthy_bool ?_)) | wp_step)) fun _ _ e => e)))
    | wp_step)
theorem ne_K {Q : Value → Shared → Prop} (hu : A.units + 1 < cLine) (X : K.In s.heap) (I : InstAt s.heap x ox C od) (hb : Looks (model prog w) s.heap (typeOf b) tb) (hn : notFirst K C tb = true)
    (hs : findIn K (.ref C) "__ne__" = some (some (.builtin "object.__ne__"))) (he : findIn K (.ref C) "__eq__" = some (some (.ref f))) (hf : isFn K (.ref f) = true) (hsub : mroIn K C (.type "object") = some true)
    (h : wpAny (model prog w) A.in1 (call (.ref f) [.ref x, b]) (fun v s' => ∃ c, v = .bool c ∧ Q (.bool (!c)) s') E s) : wpAny (model prog w) A (richCompare .NotEq (.ref x) b) Q E s := by
  have sub : Looks (model prog w) s.heap (isInstance (.ref x) (.type "object")) true := I.type.andThen (looks_mroIn X hsub)
  have one : wpAny (model prog w) A (tryCompare (.ref x) "__ne__" b) (fun r s' => ∃ v, r = some v ∧ Q v s') E s := by
    have fin : wpAny (model prog w) A (call (.builtin "object.__ne__") [.ref x, b]) (fun v s' => ∃ c, v = .bool c ∧ Q (.bool c) s') E s := by
      refine wpAny_call (codeAny_call_builtin F.cmp_object.ne.plain F.cmpEntry_ne (check_slot F.cmpKind_ne F.cmpSplit_ne sub (F.cmpArgs_ne _ _) ?_))
      refine objNe (A := A.in1) hu X I he hf (wpAny_mono h (fun v s' hv => ?_) fun _ _ e => e)
      obtain ⟨c, rfl, hq⟩ := hv
      exact ⟨c, rfl, _, rfl, hq⟩
    unfold tryCompare
    refine wpAny_bind ?_
    simp only [callSpecialIfBound?, bindSpecialIfBound?]
    refine wpAny_holding (wpAny_bind (wpAny_bind (wpAny_bind (I.type.here ((looks_findIn X hs).here ?_)))))
    simp only [F.cmp_object.ne.bind]
    refine wpAny_bind (wpAny_askSetting (wpAny_ite ?_))
    have fin2 : wpAny (model prog w) A (call (.builtin "object.__ne__") ([.ref x] ++ [b]) >>= fun v => pure (some v)) (fun r s' => ∃ c, r = some (.bool c) ∧ Q (.bool c) s') E s :=
      wpAny_bind (wpAny_mono fin (fun v s' h' => by
        obtain ⟨c, rfl, hq⟩ := h'
        exact wpAny_pure ⟨c, rfl, hq⟩) fun _ _ h' => h')
    split
    · refine wpAny_bind (wpAny_pure (wpAny_pure ?_))
      exact wpAny_mono fin2 (fun r s' hr => by
        obtain ⟨c, rfl, hq⟩ := hr
        exact wpAny_pure ⟨_, rfl, hq⟩) fun _ _ e => e
    · refine wpAny_tryCatch (wpAny_bind (wpAny_pure (wpAny_pure ?_)))
      exact wpAny_mono fin2 (fun r s' hr => by
        obtain ⟨c, rfl, hq⟩ := hr
        exact wpAny_pure ⟨_, rfl, hq⟩) fun _ _ e => e
  unfold richCompare
  simp only [oneThing_ref]
  refine wpAny_holding (wpAny_bind (wpAny_cRoomFor (Nat.lt_of_succ_lt hu) ?_))
  refine wpAny_bind (I.type.here (wpAny_bind (hb.here ?_)))
  split
  · rename_i q
    have e : subIn K tb (.ref C) = some false := by
      rcases Bool.or_eq_true_iff.mp hn with e | e
      · rw [beq_iff_eq.mp e] at q; simp at q
      · exact beq_iff_eq.mp e
    refine wpAny_bind ((looks_subIn X e).here ?_)
    simp only [Bool.false_eq_true, if_false]
    refine wpAny_bind (wpAny_mono one (fun r s' z => ?_) fun _ _ e => e)
    obtain ⟨v, rfl, hq⟩ := z
    exact wpAny_pure hq
  · refine wpAny_bind (wpAny_pure ?_)
    simp only [Bool.false_eq_true, if_false]
    refine wpAny_bind (wpAny_mono one (fun r s' z => ?_) fun _ _ e => e)
    obtain ⟨v, rfl, hq⟩ := z
    exact wpAny_pure hq
end
end JX
namespace J
open PySem PySem.Spec PyProof.Rows L2
/-! ### == and != by an own __eq__ -/
def rOwnE (C : Addr) (sp : Sp) : R2 := fun x y H Q => ∃ a b dx dy fs gs, x = .ref a ∧ y = .ref b ∧ H a = some (.ins C dx fs) ∧ H b = some (.ins C dy gs) ∧ sp [.ref a, .ref b] H (fun v H' => ∃ c, v = .bl c ∧ Q (.bl c) H') E0
def rOwnN (C : Addr) (sp : Sp) : R2 := fun x y H Q => ∃ a b dx dy fs gs, x = .ref a ∧ y = .ref b ∧ H a = some (.ins C dx fs) ∧ H b = some (.ins C dy gs) ∧ sp [.ref a, .ref b] H (fun v H' => ∃ c, v = .bl c ∧ Q (.bl (!c)) H') E0
section
variable {X : Cx} {C : Addr} {k : Nat} {qual : Str} {st : Stmt} {ps : List Str} {sp : Sp}
theorem op_eqOwn (cm : CalM X.prog X.w X.K X.mg X.base k C "__eq__" qual st ps sp) (hr : Room k X.A) : OpR X (compareOp .Eq) (rOwnE C sp) := by
  obtain ⟨f, fd, hm, hb, F, _⟩ := cm.ex
  intro pins s σ H x y v u Q I rx ry h
  obtain ⟨a, b, dx, dy, fs, gs, rfl, rfl, ha, hb', q⟩ := h
  obtain rfl : v = Value.ref a := rx
  obtain rfl : u = Value.ref b := ry
  obtain ⟨mA, J, _⟩ := ins_get I.hok ha
  obtain ⟨mB, J', _⟩ := ins_get I.hok hb'
  obtain ⟨od, J, _⟩ := J.look
  obtain ⟨od', J', _⟩ := J'.look
  obtain ⟨m, hF⟩ := I.fr
  show wpAny _ _ (compareOp .Eq (.ref a) (.ref b)) _ _ _
  unfold compareOp
  refine PySem.W.cmp_K (op := .Eq) (tb := .ref C) hr.units0 hF I.ok.mod.kin J J'.type (by simp [PySem.W.notFirst]) hm.at_ hm.fn ?_
  have r : Vals [V.ref a, .ref b] [Value.ref a, .ref b] := .cons rfl (.cons rfl .nil)
  refine wpAny_mono (run_fn (dvs := []) (ds := []) F hr hb .nil pass0 I r (by rw [List.append_nil]; exact q)) (fun v s' hv => ?_) fun _ _ e => e
  obtain ⟨z, H', I', rz, c, ez, hq⟩ := hv
  subst ez
  obtain rfl : v = .bool c := rz
  exact ⟨.bl c, H', I', rfl, hq⟩
theorem op_neOwn (cm : CalM X.prog X.w X.K X.mg X.base k C "__eq__" qual st ps sp) (T : EqF X.K C) (hr : Room (k + 1) X.A) : OpR X (compareOp .NotEq) (rOwnN C sp) := by
  obtain ⟨f, fd, hm, hb, F, _⟩ := cm.ex
  intro pins s σ H x y v u Q I rx ry h
  obtain ⟨a, b, dx, dy, fs, gs, rfl, rfl, ha, hb', q⟩ := h
  obtain rfl : v = Value.ref a := rx
  obtain rfl : u = Value.ref b := ry
  obtain ⟨mA, J, _⟩ := ins_get I.hok ha
  obtain ⟨mB, J', _⟩ := ins_get I.hok hb'
  obtain ⟨od, J, _⟩ := J.look
  obtain ⟨od', J', _⟩ := J'.look
  show wpAny _ _ (compareOp .NotEq (.ref a) (.ref b)) _ _ _
  unfold compareOp
  have r : Vals [V.ref a, .ref b] [Value.ref a, .ref b] := .cons rfl (.cons rfl .nil)
  have hl : ([Value.ref a, .ref b] ++ []).length = ps.length := by rw [← F.len _ _ _ _ q]; rfl
  have e0 : Env0 X.prog X.w X.K X.mg X.base X.A.in1 X.stack s H := by
    have e := I.env0
    exact ⟨e.frames, e.mod, e.bs, e.bsz, e.funs, e.frf, e.hok, e.bare⟩
  refine JX.ne_K (tb := .ref C) (by have := hr.units; omega) I.kIn J J'.type (by simp [PySem.W.notFirst]) T.ne hm.at_ hm.fn T.ob ?_
  refine wpAny_call (codeAny_mono (F.run X.A.in1 X.stack s H ⟨[.ref a, .ref b], []⟩ ([.ref a, .ref b] ++ []) [.ref a, .ref b] _ E0 hr.in1 e0 (hb _ [.ref a, .ref b] I.kIn hl) r q) fun r s' hq' => ?_)
  cases r with
  | error er => exact pass0 (X := X) pins σ H s er s' I hq'
  | ok fl =>
    cases fl with
    | ret u' =>
      obtain ⟨z, H', I', rz, c, ez, hq⟩ := I.after hq'
      subst ez
      obtain rfl : u' = .bool c := rz
      exact ⟨_, rfl, .bl (!c), H', I', rfl, hq⟩
    | next => exact False.elim hq'
    | brk => exact False.elim hq'
    | cont => exact False.elim hq'
end
end J
namespace PySem
namespace W
theorem ne_dictsJ {prog : Program} {w : World} {K : Type} [DecidableEq K] {knd : KeyKind prog w K} {A : Around} {s : Shared} {a b : Addr} {ka kb : List (K × Value)} {r : Bool} (ha : (a == sysModules) = false) (hb : (b == sysModules) = false)
    (da : s.heap.DictOf knd a ka) (db : s.heap.DictOf knd b kb) (hu : A.units < cLine) (hits : ka.length = kb.length → KeqHitsP prog w A.in1 s kb ka r) (E Q : Value → Shared → Prop) (h : Q (.bool (!(ka.length == kb.length && r))) s) : wpAny (model prog w) A (richCompare .NotEq (.ref a) (.ref b)) Q E s := by
  refine wpAny_richCompare_same_room (op := .NotEq) da.typeIs db.typeIs PySem.F.slot_dict_ne (wpAny_call_entry PySem.F.slot_dict_ne da.typeIs PySem.F.entry_dict_ne ?_ (PySem.F.args_dict_ne_2 _ _)) hu
  show wpAny _ _ (Builtin.Dict.dictSlotArgs "__ne__" ⟨[.ref a, .ref b], []⟩ >>= _) _ _ s
  refine wpAny_bind ?_
  unfold Builtin.Dict.dictSlotArgs
  refine wpAny_bind (wpAny_notOrdered_dict da.typeIs ?_)
  show wpAny _ _ (pure (Value.ref a, Value.ref b)) _ _ s
  refine wpAny_pure ?_
  refine wpAny_bind (wpAny_isInstance (T := "dict") db.typeIs PySem.F.sub_dict_dict ?_)
  simp only [Bool.not_true, Bool.false_eq_true, if_false]
  refine wpAny_bind (wpAny_pure (wpAny_bind (wpAny_pure ?_)))
  refine wpAny_bind (samePairsP ha hb da db hits ?_)
  refine wpAny_pure ⟨_, rfl, ?_, ?_⟩
  · exact fun x => nomatch x
  · simpa using h
end W
end PySem
namespace J
open PySem PySem.Spec PyProof.Rows L2
/-! ### the same value, compared with itself -/
/-- flat and equal, or one and the same object -/
def Eq0 (x y : V) : Prop := (flatV x = true ∧ flatV y = true ∧ eqV x y = true) ∨ ∃ a, x = .ref a ∧ y = .ref a
theorem eq0_at {A : Around} {s : Shared} {x y : V} {u v : Value} (h : Eq0 x y) (rx : RelV x u) (ry : RelV y v) : SeqAt.EqAt A s u v true := by
  rcases h with ⟨f, g, e⟩ | ⟨a, rfl, rfl⟩
  · have := eqAt_V (A := A) (s := s) rx ry f g
    rwa [e] at this
  · cases (show u = Value.ref a from rx)
    cases (show v = Value.ref a from ry)
    exact SeqAt.EqAt.same _
/-- lists, tuples of such items; dicts of one pair -/
inductive Eq1 (K : PySem.W.Frag) (H : Hp) : V → V → Prop
  | lst {a b xs ys} (ha : SqL K H a xs) (hb : SqL K H b ys) (h : Paired Eq0 xs ys) : Eq1 K H (.ref a) (.ref b)
  | tup {a b xs ys} (ha : SqT K H a xs) (hb : SqT K H b ys) (h : Paired Eq0 xs ys) : Eq1 K H (.ref a) (.ref b)
  | dic {a b ks ls} (ha : H a = some (.dK ks)) (hb : H b = some (.dK ls)) (hl : ks.length = ls.length) (h : ∀ p ∈ ks, ∃ u, valV ls p.1 = some u ∧ Eq0 p.2 u) : Eq1 K H (.ref a) (.ref b)
theorem eq0_items {A : Around} {s : Shared} {xs ys : List V} (hp : Paired Eq0 xs ys) : ∀ {us ws : List Value}, Vals xs us → Vals ys ws → ∀ j (h1 : j < us.length) (h2 : j < ws.length), SeqAt.EqAt A s us[j] ws[j] true := by
  induction hp with
  | nil =>
    intro us ws r1 r2 j h1 h2
    cases r1
    exact absurd h1 (Nat.not_lt_zero j)
  | cons h _ k =>
    intro us ws r1 r2 j h1 h2
    cases r1 with
    | cons a1 b1 =>
      cases r2 with
      | cons a2 b2 =>
        cases j with
        | zero => exact eq0_at h a1 a2
        | succ j => exact k b1 b2 j (Nat.lt_of_succ_lt_succ h1) (Nat.lt_of_succ_lt_succ h2)
section
variable {X : Cx} {pins : List (Addr × Obj)} {σ : L2.St} {H : Hp} {s : Shared}
theorem hits0 {P : Program} {w : World} {A : Around} {s : Shared} {ls : List (Key × V)} {vb : List (Key × Value)} (rb : KV ls vb) {ks : List (Key × V)} {va : List (Key × Value)}
    (ra : KV ks va) (h : ∀ p ∈ ks, ∃ u, valV ls p.1 = some u ∧ Eq0 p.2 u) : PySem.W.KeqHitsP P w A s vb va true :=
  hits_run (F := Eq0) (fun x y v u f rx ry => (eq0_at f rx ry).eqP) rb ra h
theorem eq1_run (I : Inv X pins σ H s) {A : Around} (hu : A.units < cLine) {x y : V} {v u : Value} (h : Eq1 X.K H x y) (rx : RelV x v) (ry : RelV y u) (E Q : Value → Shared → Prop) (q : Q (.bool true) s) : wpAny (model X.prog X.w) A (richCompare .Eq v u) Q E s := by
  cases h with
  | @lst a b xs ys ha hb h =>
    cases (show v = Value.ref a from rx)
    cases (show u = Value.ref b from ry)
    obtain ⟨us, r1, p1, _⟩ := I.list ha
    obtain ⟨ws, r2, p2, _⟩ := I.list hb
    have hsz : us.toArray.size = ws.toArray.size := by rw [List.size_toArray, List.size_toArray, ← r1.length, ← r2.length]; exact Paired.length h
    refine SeqAt.RcAt.lists (e := fun _ => true) p1.isList p2.isList hsz hu (fun j h1 h2 => ?_) _ _ E Q ?_
    · have k := eq0_items (A := A.in1) (s := s) h r1 r2 j (by simpa using h1) (by simpa using h2)
      simpa using k
    · rw [show ((List.range us.toArray.size).all fun _ => true) = true from List.all_eq_true.mpr fun _ _ => rfl]
      exact q
  | @tup a b xs ys ha hb h =>
    cases (show v = Value.ref a from rx)
    cases (show u = Value.ref b from ry)
    obtain ⟨us, r1, p1, _⟩ := I.tuple ha
    obtain ⟨ws, r2, p2, _⟩ := I.tuple hb
    have hsz : us.toArray.size = ws.toArray.size := by rw [List.size_toArray, List.size_toArray, ← r1.length, ← r2.length]; exact Paired.length h
    refine SeqAt.RcAt.tuples (e := fun _ => true) p1 p2 hu (fun j h1 h2 => ?_) _ _ E Q ?_
    · have k := eq0_items (A := A.in1) (s := s) h r1 r2 j (by simpa using h1) (by simpa using h2)
      simpa using k
    · have e : ((List.range (min us.toArray.size ws.toArray.size)).all (fun _ => true) && us.toArray.size == ws.toArray.size) = true := by rw [hsz]; simp
      rw [e]
      exact q
  | @dic a b ks ls ha hb hl h =>
    cases (show v = Value.ref a from rx)
    cases (show u = Value.ref b from ry)
    obtain ⟨_, ya, va, ra, da⟩ := (show ObjOk X.prog X.w H s.heap a (.dK ks) from I.hok a _ ha)
    obtain ⟨_, yb, vb, rb, db⟩ := (show ObjOk X.prog X.w H s.heap b (.dK ls) from I.hok b _ hb)
    refine PySem.W.rcP_dicts (knd := mixKind X.prog X.w) (r := true) ya yb da db hu (fun _ => hits0 rb ra h) E Q ?_
    have e : va.length = vb.length := by rw [← ra.length, ← rb.length]; exact hl
    rw [show (va.length == vb.length && true) = true from by rw [e]; simp]
    exact q
theorem ne1_run (I : Inv X pins σ H s) {A : Around} (hu : A.units < cLine) {x y : V} {v u : Value} (h : Eq1 X.K H x y) (rx : RelV x v) (ry : RelV y u) (E Q : Value → Shared → Prop) (q : Q (.bool false) s) : wpAny (model X.prog X.w) A (richCompare .NotEq v u) Q E s := by
  cases h with
  | @lst a b xs ys ha hb h =>
    cases (show v = Value.ref a from rx)
    cases (show u = Value.ref b from ry)
    obtain ⟨us, r1, p1, _⟩ := I.list ha
    obtain ⟨ws, r2, p2, _⟩ := I.list hb
    have hsz : us.toArray.size = ws.toArray.size := by rw [List.size_toArray, List.size_toArray, ← r1.length, ← r2.length]; exact Paired.length h
    refine SeqAt.RcNeAt.lists (e := fun _ => true) p1.isList p2.isList hsz hu (fun j h1 h2 => ?_) _ _ E Q ?_
    · have k := eq0_items (A := A.in1) (s := s) h r1 r2 j (by simpa using h1) (by simpa using h2)
      simpa using k
    · rw [show ((List.range us.toArray.size).all fun _ => true) = true from List.all_eq_true.mpr fun _ _ => rfl]
      exact q
  | @tup a b xs ys ha hb h =>
    cases (show v = Value.ref a from rx)
    cases (show u = Value.ref b from ry)
    obtain ⟨us, r1, p1, _⟩ := I.tuple ha
    obtain ⟨ws, r2, p2, _⟩ := I.tuple hb
    have hsz : us.toArray.size = ws.toArray.size := by rw [List.size_toArray, List.size_toArray, ← r1.length, ← r2.length]; exact Paired.length h
    refine SeqAt.RcNeAt.tuples (e := fun _ => true) p1 p2 hu (fun j h1 h2 => ?_) _ _ E Q ?_
    · have k := eq0_items (A := A.in1) (s := s) h r1 r2 j (by simpa using h1) (by simpa using h2)
      simpa using k
    · have e : ((List.range (min us.toArray.size ws.toArray.size)).all (fun _ => true) && us.toArray.size == ws.toArray.size) = true := by rw [hsz]; simp
      rw [e]
      exact q
  | @dic a b ks ls ha hb hl h =>
    cases (show v = Value.ref a from rx)
    cases (show u = Value.ref b from ry)
    obtain ⟨_, ya, va, ra, da⟩ := (show ObjOk X.prog X.w H s.heap a (.dK ks) from I.hok a _ ha)
    obtain ⟨_, yb, vb, rb, db⟩ := (show ObjOk X.prog X.w H s.heap b (.dK ls) from I.hok b _ hb)
    refine PySem.W.ne_dictsJ (knd := mixKind X.prog X.w) (r := true) ya yb da db hu (fun _ => hits0 rb ra h) E Q ?_
    have e : va.length = vb.length := by rw [← ra.length, ← rb.length]; exact hl
    rw [show (va.length == vb.length && true) = true from by rw [e]; simp]
    exact q
end
/-- a == b where both are known to be equal, or both are flat -/
def rEqS (K : PySem.W.Frag) : R2 := fun x y H Q => rEq x y H Q ∨ (Eq1 K H x y ∧ Q (.bl true) H)
def rNeS (K : PySem.W.Frag) : R2 := fun x y H Q => rNe x y H Q ∨ (Eq1 K H x y ∧ Q (.bl false) H)
theorem op_eqS {X : Cx} {k : Nat} (hr : Room k X.A) : OpR X (compareOp .Eq) (rEqS X.K) := by
  intro pins s σ H x y v u Q I rx ry h
  rcases h with h | ⟨h, q⟩
  · exact op_eq pins s σ H x y v u Q I rx ry h
  · show wpAny _ _ (compareOp .Eq v u) _ _ _
    unfold compareOp
    exact eq1_run I hr.units0 h rx ry _ _ ⟨.bl true, H, I, rfl, q⟩
theorem op_neS {X : Cx} {k : Nat} (hr : Room k X.A) : OpR X (compareOp .NotEq) (rNeS X.K) := by
  intro pins s σ H x y v u Q I rx ry h
  rcases h with h | ⟨h, q⟩
  · exact op_ne pins s σ H x y v u Q I rx ry h
  · show wpAny _ _ (compareOp .NotEq v u) _ _ _
    unfold compareOp
    exact ne1_run I hr.units0 h rx ry _ _ ⟨.bl false, H, I, rfl, q⟩
section
variable {K : PySem.W.Frag} {H : Hp} {Q : VK} {x y : V}
theorem w_eqS0 (h : rEq x y H Q) : rEqS K x y H Q := .inl h
theorem w_neS0 (h : rNe x y H Q) : rNeS K x y H Q := .inl h
theorem w_eqS1 (h : Eq1 K H x y) (q : Q (.bl true) H) : rEqS K x y H Q := .inr ⟨h, q⟩
theorem w_neS1 (h : Eq1 K H x y) (q : Q (.bl false) H) : rNeS K x y H Q := .inr ⟨h, q⟩
end
/-! ### strange things -/
/-- no integer: None, a flag, a text, a list, a tuple or a dict of at most two items -/
inductive Odd (H : Hp) : V → Prop
  | non : Odd H .non
  | bl (b : Bool) : Odd H (.bl b)
  | str (w : Str) (h : w = "" ∨ w = "push" ∨ w = "12") : Odd H (.str w)
  | lst (a : Addr) (xs : List V) (ha : H a = some (.lst xs)) (h : xs = [] ∨ xs = [.int 0] ∨ ∃ p, xs = [.ref p]) : Odd H (.ref a)
  | tup (a : Addr) (xs : List V) (ha : H a = some (.tup xs)) (h : xs = [] ∨ xs = [.int 0, .int 1] ∨ ∃ p, xs = [.ref p]) : Odd H (.ref a)
  | dic (a : Addr) (ks : List (Key × V)) (ha : H a = some (.dK ks)) (h : ks = [] ∨ ∃ p, ks = [(.inr "start", .ref p)]) : Odd H (.ref a)
theorem Odd.same {H H' : Hp} {v : V} (e : Same H H') (h : Odd H v) : Odd H' v := by
  cases h with
  | non => exact .non
  | bl b => exact .bl b
  | str w h => exact .str w h
  | lst a xs ha h => exact .lst a xs (e _ _ ha) h
  | tup a xs ha h => exact .tup a xs (e _ _ ha) h
  | dic a ks ha h => exact .dic a ks (e _ _ ha) h
theorem eq0_int {i : Int} : Eq0 (.int i) (.int i) := .inl ⟨rfl, rfl, by simp [eqV]⟩
theorem eq0_str {i : Str} : Eq0 (.str i) (.str i) := .inl ⟨rfl, rfl, by simp [eqV]⟩
theorem eq0_bl {i : Bool} : Eq0 (.bl i) (.bl i) := .inl ⟨rfl, rfl, by simp [eqV]⟩
theorem eq0_non : Eq0 .non .non := .inl ⟨rfl, rfl, by simp [eqV]⟩
theorem eq0_ref {a : Addr} : Eq0 (.ref a) (.ref a) := .inr ⟨a, rfl, rfl⟩
theorem Odd.eq0 {H : Hp} {v : V} (h : Odd H v) : Eq0 v v := by
  cases h with
  | non => exact eq0_non
  | bl b => exact eq0_bl
  | str w h => exact eq0_str
  | lst a xs ha h => exact eq0_ref
  | tup a xs ha h => exact eq0_ref
  | dic a ks ha h => exact eq0_ref
theorem paired0 {xs : List V} (h : ∀ v ∈ xs, Eq0 v v) : Paired Eq0 xs xs := by
  induction xs with
  | nil => exact .nil
  | cons a t ih => exact .cons (h a (List.mem_cons_self ..)) (ih fun v hv => h v (List.mem_cons_of_mem _ hv))
/-- a strange thing is equal to itself -/
theorem w_eqOdd {K : PySem.W.Frag} {H : Hp} {Q : VK} {v : V} (h : Odd H v) (q : Q (.bl true) H) : rEqS K v v H Q := by
  have fl : ∀ {z : V}, scal z z = true → Q (.bl true) H → rEqS K z z H Q := fun f q => .inl ⟨f, by simpa using q⟩
  cases h with
  | non => exact fl rfl q
  | bl b => exact fl rfl q
  | str w h => exact fl rfl q
  | lst a xs ha h => exact .inr ⟨.lst (sqL ha) (sqL ha) (paired0 fun v hv => by
      rcases h with rfl | rfl | ⟨p, rfl⟩
      · cases hv
      · simp at hv; subst hv; exact eq0_int
      · simp at hv; subst hv; exact eq0_ref), q⟩
  | tup a xs ha h => exact .inr ⟨.tup (sqT ha) (sqT ha) (paired0 fun v hv => by
      rcases h with rfl | rfl | ⟨p, rfl⟩
      · cases hv
      · simp at hv; rcases hv with rfl | rfl <;> exact eq0_int
      · simp at hv; subst hv; exact eq0_ref), q⟩
  | dic a ks ha h => exact .inr ⟨.dic ha ha rfl fun p hp => by
      rcases h with rfl | ⟨r, rfl⟩
      · cases hp
      · simp at hp; subst hp; exact ⟨_, by simp [valV], eq0_ref⟩, q⟩
theorem w_neOdd {K : PySem.W.Frag} {H : Hp} {Q : VK} {v : V} (h : Odd H v) (q : Q (.bl false) H) : rNeS K v v H Q := by
  have fl : ∀ {z : V}, scal z z = true → Q (.bl false) H → rNeS K z z H Q := fun f q => .inl ⟨f, by simpa using q⟩
  cases h with
  | non => exact fl rfl q
  | bl b => exact fl rfl q
  | str w h => exact fl rfl q
  | lst a xs ha h => exact .inr ⟨.lst (sqL ha) (sqL ha) (paired0 fun v hv => by
      rcases h with rfl | rfl | ⟨p, rfl⟩
      · cases hv
      · simp at hv; subst hv; exact eq0_int
      · simp at hv; subst hv; exact eq0_ref), q⟩
  | tup a xs ha h => exact .inr ⟨.tup (sqT ha) (sqT ha) (paired0 fun v hv => by
      rcases h with rfl | rfl | ⟨p, rfl⟩
      · cases hv
      · simp at hv; rcases hv with rfl | rfl <;> exact eq0_int
      · simp at hv; subst hv; exact eq0_ref), q⟩
  | dic a ks ha h => exact .inr ⟨.dic ha ha rfl fun p hp => by
      rcases h with rfl | ⟨r, rfl⟩
      · cases hp
      · simp at hp; subst hp; exact ⟨_, by simp [valV], eq0_ref⟩, q⟩
/-- isinstance(v, bool) -/
def isBl : V → Bool
  | .bl _ => true
  | _ => false
theorem Odd.ty {K : PySem.W.Frag} {H : Hp} {v : V} (h : Odd H v) : ∃ t : String, TyX K H v (.type t) ∧ kitB t "int" = some (isBl v) ∧ kitB t "bool" = some (isBl v) := by
  have k1 : kitB "NoneType" "int" = some false ∧ kitB "NoneType" "bool" = some false := by decide +kernel
  have k2 : kitB "bool" "int" = some true ∧ kitB "bool" "bool" = some true := by decide +kernel
  have k3 : kitB "str" "int" = some false ∧ kitB "str" "bool" = some false := by decide +kernel
  have k4 : kitB "list" "int" = some false ∧ kitB "list" "bool" = some false := by decide +kernel
  have k5 : kitB "tuple" "int" = some false ∧ kitB "tuple" "bool" = some false := by decide +kernel
  have k6 : kitB "dict" "int" = some false ∧ kitB "dict" "bool" = some false := by decide +kernel
  cases h with
  | non => exact ⟨"NoneType", .base .non, k1.1, k1.2⟩
  | bl b => exact ⟨"bool", .base (.bl b), k2.1, k2.2⟩
  | str w h => exact ⟨"str", .base (.str w), k3.1, k3.2⟩
  | lst a xs ha h => exact ⟨"list", .base (.lst ha), k4.1, k4.2⟩
  | tup a xs ha h => exact ⟨"tuple", .base (.tup ha), k5.1, k5.2⟩
  | dic a ks ha h => exact ⟨"dict", .base (.dK ha), k6.1, k6.2⟩
/-- it is no integer -/
theorem Odd.wh {K : PySem.W.Frag} {H : Hp} {v : V} (h : Odd H v) : Wh K H v false := by
  obtain ⟨t, h1, h2, h3⟩ := h.ty (K := K)
  exact ⟨.type t, _, _, h1, kit_ty h2, kit_ty h3, by simp⟩
theorem Odd.isB {K : PySem.W.Frag} {H : Hp} {Q : VK} {v : V} (h : Odd H v) (q : Q (.bl (isBl v)) H) : rIsi K [v, .ty "bool"] H Q := by
  obtain ⟨t, h1, h2, h3⟩ := h.ty (K := K)
  exact w_isi (b := isBl v) q h1 (.ty _) (kit_ty h3)
/-! ### isinstance against an own class -/
theorem w_isOwn {K : PySem.W.Frag} {H : Hp} {Q : VK} {a C dx : Addr} {fs : List (Str × V)} (T : IsIns K C) (c : Cls K C) (h : H a = some (.ins C dx fs)) (q : Q (.bl true) H) : rIsi K [.ref a, .ref C] H Q :=
  w_isi (b := true) q (.base (.ins h c T.ha T.hn T.htk T.hm)) (.own C) T.kit
end J
namespace J
open PySem PySem.Spec PyProof.Rows L2
theorem w_eqOwn {C : Addr} {sp : Sp} {x y : V} {H : Hp} {Q : VK} (h : ∃ a b dx dy fs gs, x = .ref a ∧ y = .ref b ∧ H a = some (.ins C dx fs) ∧ H b = some (.ins C dy gs) ∧ sp [.ref a, .ref b] H (fun v H' => ∃ c, v = .bl c ∧ Q (.bl c) H') E0) : rOwnE C sp x y H Q := h
theorem w_neOwn {C : Addr} {sp : Sp} {x y : V} {H : Hp} {Q : VK} (h : ∃ a b dx dy fs gs, x = .ref a ∧ y = .ref b ∧ H a = some (.ins C dx fs) ∧ H b = some (.ins C dy gs) ∧ sp [.ref a, .ref b] H (fun v H' => ∃ c, v = .bl c ∧ Q (.bl (!c)) H') E0) : rOwnN C sp x y H Q := h
end J
namespace J
open PySem PySem.Spec PyProof.Rows L2
theorem w_nePL {K : PySem.W.Frag} {H : Hp} {Q : VK} {p p2 : Addr} {vs vs2 : List V} {rs rs2 : List (Int × Int)} (h : SqL K H p vs) (h2 : SqL K H p2 vs2) (a : PairsAt H vs rs) (b : PairsAt H vs2 rs2) (q : Q (.bl (!decide (rs = rs2))) H) : rNeD K (.ref p) (.ref p2) H Q := by
  refine ⟨_, _, .lst h (dp_pairs a), .lst h2 (dp_pairs b), shaped_lst rs, shaped_lst rs2, ?_⟩
  have e : PyData.eqv (.list (rs.map pd)) (.list (rs2.map pd)) = decide (rs = rs2) := by
    rw [← eqv_pairs]
    simp [PyData.eqv]
  rw [e]
  exact q
theorem w_neIL {K : PySem.W.Frag} {H : Hp} {Q : VK} {p p2 : Addr} {is js : List Int} (h : SqL K H p (is.map V.int)) (h2 : SqL K H p2 (js.map V.int)) (q : Q (.bl (!decide (is = js))) H) : rNeD K (.ref p) (.ref p2) H Q := by
  refine ⟨_, _, .lst h (dp_ints is), .lst h2 (dp_ints js), shaped_ints is, shaped_ints js, ?_⟩
  have e : PyData.eqv (.list (is.map PyData.int)) (.list (js.map PyData.int)) = decide (is = js) := by
    rw [← eqv_ints]
    simp [PyData.eqv]
  rw [e]
  exact q
/-- sorted lists of the same numbers are one -/
theorem sorted_same {ns ms : List Int} (p : ns.Perm ms) (h1 : ns.Pairwise (· ≤ ·)) (h2 : ms.Pairwise (· ≤ ·)) : ns = ms := p.eq_of_pairwise (fun _ _ _ _ a b => Int.le_antisymm a b) h1 h2
theorem val_no {R : Key × V → Str × Rws → Prop} (hR : ∀ p q, R p q → p.1 = .inr q.1) {w : Str} : ∀ {kvs : List (Key × V)} {L : List (Str × Rws)}, Paired R kvs L → (∀ rs, (w, rs) ∉ L) → valV kvs (.inr w) = none
  | _, _, .nil, _ => rfl
  | (k, u) :: _, (a, rs) :: _, .cons h t, no => by
    have e : k = .inr a := hR _ _ h
    subst e
    have ne : a ≠ w := fun z => no rs (z ▸ List.mem_cons_self ..)
    have := val_no hR t fun rs hm => no rs (List.mem_cons_of_mem _ hm)
    unfold valV at this ⊢
    simpa [ne] using this
theorem ent_no {C : Addr} {H : Hp} {N : Int} {sq pu : Option Rws} {kvs : List (Key × V)} {w : Str} (h : Paired (Ent C H N) kvs (tabL sq pu)) (no : ∀ rs, (w, rs) ∉ tabL sq pu) : valV kvs (.inr w) = none := val_no (fun _ _ r => r.1) h no
theorem TurnAt.ins {C : Addr} {H : Hp} {x : Addr} {N : Int} {rs : List (Int × Int)} (h : TurnAt C H x N rs) : ∃ dx t l, H x = some (.ins C dx (tfs N t l (perR N rs))) := by
  obtain ⟨dx, t, l, _, _, e, _⟩ := h
  exact ⟨dx, t, l, e⟩
theorem TurnAt.rows {C : Addr} {H : Hp} {x : Addr} {N : Int} {rs : List (Int × Int)} (h : TurnAt C H x N rs) : Rows N rs := by
  obtain ⟨_, _, _, _, _, _, _, _, _, _, R⟩ := h
  exact R
end J
namespace JX
open PySem
/-- the cells that zip(tuple, list) makes, one behind the other -/
def zc1 (a : Addr) : Obj := { cls := .type "tuple_iterator", data := .fields #[.ref a, .int 0 0] }
def zc2 (b : Addr) : Obj := { cls := .type "list_iterator", data := .fields #[.ref b, .int 0 0] }
def zc3 (n : Nat) : Obj := { cls := .type "tuple", data := .seq #[.ref n, .ref (n + 1)] }
def zc4 : Obj := { cls := .type "tuple", data := .seq #[.none, .none] }
def zc5 (n : Nat) : Obj := { cls := .type "zip", data := .fields #[.none, .bool false, .bool false, .ref (n + 2), .ref (n + 3)] }
def zh1 (h : Heap) (a : Addr) : Heap := h.push (zc1 a)
def zh2 (h : Heap) (a b : Addr) : Heap := (zh1 h a).push (zc2 b)
def zh3 (h : Heap) (a b : Addr) : Heap := (zh2 h a b).push (zc3 h.objs.size)
def zh4 (h : Heap) (a b : Addr) : Heap := (zh3 h a b).push zc4
def zh5 (h : Heap) (a b : Addr) : Heap := (zh4 h a b).push (zc5 h.objs.size)
section
variable (h : Heap) (a b : Addr)
theorem zs1 : (zh1 h a).objs.size = h.objs.size + 1 := Heap.size_push ..
theorem zs2 : (zh2 h a b).objs.size = h.objs.size + 2 := (Heap.size_push ..).trans (congrArg (· + 1) (zs1 h a))
theorem zs3 : (zh3 h a b).objs.size = h.objs.size + 3 := (Heap.size_push ..).trans (congrArg (· + 1) (zs2 h a b))
theorem zs4 : (zh4 h a b).objs.size = h.objs.size + 4 := (Heap.size_push ..).trans (congrArg (· + 1) (zs3 h a b))
theorem zs5 : (zh5 h a b).objs.size = h.objs.size + 5 := (Heap.size_push ..).trans (congrArg (· + 1) (zs4 h a b))
/-- what stands after n of the five stands after all -/
theorem zu4 {c : Addr} {o : Obj} (e : (zh4 h a b).get? c = some o) : (zh5 h a b).get? c = some o := Heap.get?_push_of_some _ e
theorem zu3 {c : Addr} {o : Obj} (e : (zh3 h a b).get? c = some o) : (zh5 h a b).get? c = some o := zu4 h a b (Heap.get?_push_of_some _ e)
theorem zu2 {c : Addr} {o : Obj} (e : (zh2 h a b).get? c = some o) : (zh5 h a b).get? c = some o := zu3 h a b (Heap.get?_push_of_some _ e)
theorem zu1 {c : Addr} {o : Obj} (e : (zh1 h a).get? c = some o) : (zh5 h a b).get? c = some o := zu2 h a b (Heap.get?_push_of_some _ e)
theorem zu0 {c : Addr} {o : Obj} (e : h.get? c = some o) : (zh5 h a b).get? c = some o := zu1 h a b (Heap.get?_push_of_some _ e)
theorem zg1 : (zh5 h a b).get? h.objs.size = some (zc1 a) := zu1 h a b (Heap.get?_push_size _ rfl)
theorem zg2 : (zh5 h a b).get? (h.objs.size + 1) = some (zc2 b) := zu2 h a b (zs1 h a ▸ Heap.get?_push_size (zh1 h a) rfl)
theorem zg3 : (zh5 h a b).get? (h.objs.size + 2) = some (zc3 h.objs.size) := zu3 h a b (zs2 h a b ▸ Heap.get?_push_size (zh2 h a b) rfl)
theorem zg4 : (zh5 h a b).get? (h.objs.size + 3) = some zc4 := zu4 h a b (zs3 h a b ▸ Heap.get?_push_size (zh3 h a b) rfl)
theorem zg5 : (zh5 h a b).get? (h.objs.size + 4) = some (zc5 h.objs.size) := zs4 h a b ▸ Heap.get?_push_size (zh4 h a b) rfl
end
theorem zip_new (a b : Addr) (xs ys : Array Value) : Meets (Builtin.«zip.__new__» ⟨[.type "zip", .ref a, .ref b], []⟩) fun _ R s => s.heap.IsTuple a xs ∧ s.heap.IsList b ys ∧ R (.ok (.ret (.ref (s.heap.objs.size + 4)))) { s with heap := zh5 s.heap a b } :=
  .of_wp fun prog w A R s q => by
    obtain ⟨hp, g, d, tk, os⟩ := s
    obtain ⟨ta, lb, q⟩ := q
    have hs := sub_zip
    have pa : Heap.IsTuple (Shared.heap ⟨hp, g, d, tk, os⟩) a xs := ta
    have pb : Heap.IsList (Shared.heap ⟨hp.push (zc1 a), g, d, tk, os⟩) b ys := Heap.IsList.push lb _
    unfold zc1 at pb
    have e1 := zs1 hp a
    have e2 := zs2 hp a b
    have e3 := zs3 hp a b
    have e4 := zs4 hp a b
    unfold zh5 zh4 zh3 zh2 zh1 zc1 zc2 zc3 zc4 zc5 at *
    rw [← e4, ← e3, ← e2, ← e1] at q
    wp_walk using wpAny_pyIter_tuple pa, wpAny_pyIter_list pb
    exact ⟨_, rfl, q⟩
/-- the cells of a zip at n, over a tuple at a and a list at b -/
structure ZipAt (h : Heap) (n a b : Addr) (i : Nat) : Prop where
  zip : IsZip h (n + 4) (n + 2) (n + 3) .none
  ins : IsPair h (n + 2) (.ref n) (.ref (n + 1))
  out : ∃ x y, IsPair h (n + 3) x y
  one : h.IsTupleIter n a i
  two : h.IsListIter (n + 1) b i
theorem call_zipTL {prog : Program} {w : World} {A : Around} {E Q : Value → Shared → Prop} {s : Shared} {a b : Addr} {xs ys : Array Value} (ta : s.heap.IsTuple a xs) (lb : s.heap.IsList b ys)
    (q : ∀ h', ZipAt h' s.heap.objs.size a b 0 → (∀ c o, s.heap.get? c = some o → h'.get? c = some o) → Q (.ref (s.heap.objs.size + 4)) { s with heap := h' }) : wpAny (model prog w) A (call (.type "zip") [.ref a, .ref b]) Q E s := by
  refine callType_new F.called_zip (by decide) (F.typeCall_zip_2 ..) (F.newCall_zip_2 ..) (fun z => F.args_object_init_3 z ..) F.entry_zip_new (zip_new a b xs ys) ⟨ta, lb, ⟨_, zg5 s.heap a b, rfl⟩, ?_⟩
  exact q _ ⟨zg5 .., zg3 .., ⟨_, _, zg4 ..⟩, ⟨_, zg1 .., rfl, rfl⟩, ⟨_, zg2 .., rfl, rfl⟩⟩ fun c o e => zu0 s.heap a b e
end JX
namespace J
open PySem PySem.Spec PyProof.Rows L2
open JX (ZipAt)
/-- the tuple at a and the list at b, as they stand at each turn -/
def Itm (K : PySem.W.Frag) (a b : Addr) : It where
  go i H := ∃ (xs ys : List V) (x y : V), SqT K H a xs ∧ SqL K H b ys ∧ xs[i]? = some x ∧ ys[i]? = some y
  yld i H v H' := ∃ T x y, v = .ref T ∧ H T = none ∧ H' = upd H T (.tup [x, y]) ∧ (∀ xs, SqT K H a xs → xs[i]? = some x) ∧ ∀ ys, SqL K H b ys → ys[i]? = some y
  stop i H := ∃ xs ys : List V, SqT K H a xs ∧ SqL K H b ys ∧ xs.length = ys.length ∧ xs.length = i
def zfp (n : Nat) : List Addr := [n, n + 1, n + 2, n + 3, n + 4]
theorem zfp_mem {n c : Nat} : (c : Addr) ∈ zfp n ↔ n ≤ c ∧ c ≤ n + 4 := by
  unfold zfp
  constructor
  · intro h
    have e : c = n ∨ c = n + 1 ∨ c = n + 2 ∨ c = n + 3 ∨ c = n + 4 := by simpa using h
    exact ⟨by omega, by omega⟩
  · intro h
    have e : c = n ∨ c = n + 1 ∨ c = n + 2 ∨ c = n + 3 ∨ c = n + 4 := by omega
    simpa using e
theorem zsep {n a b : Nat} (ha : a < n) (hb : b < n) : ZipSep2 (n + 4) (n + 2) (n + 3) n (n + 1) [n, a] [n + 1, b] := by
  have t : ∀ {x y z : Nat}, x ≠ y → x ≠ z → x ∉ [y, z] := fun p q m => by
    rcases List.mem_cons.mp m with e | m
    · exact p e
    · exact q (List.mem_singleton.mp m)
  constructor
  all_goals first
    | exact List.mem_cons_self ..
    | exact t (show (_ : Nat) ≠ _ by omega) (show (_ : Nat) ≠ _ by omega)
    | exact (show (_ : Nat) ≠ _ by omega)
theorem zip_live {h : Heap} {n a b : Nat} {i : Nat} (z : ZipAt h n a b i) {c : Nat} (hc : c ∈ zfp n) : ∃ o, h.get? c = some o ∧ ∀ v, o.data ≠ .cell v := by
  obtain ⟨x, y, out⟩ := z.out
  obtain ⟨o1, g1, _, d1⟩ := z.one
  obtain ⟨o2, g2, _, d2⟩ := z.two
  have e : c = n ∨ c = n + 1 ∨ c = n + 2 ∨ c = n + 3 ∨ c = n + 4 := by
    have := zfp_mem.mp hc
    omega
  rcases e with rfl | rfl | rfl | rfl | rfl
  · exact ⟨o1, g1, fun v q => by rw [d1] at q; cases q⟩
  · exact ⟨o2, g2, fun v q => by rw [d2] at q; cases q⟩
  · exact ⟨_, z.ins, fun _ q => nomatch q⟩
  · exact ⟨_, out, fun _ q => nomatch q⟩
  · exact ⟨_, z.zip, fun _ q => nomatch q⟩
theorem zip_keep {h h' : Heap} {n a b : Nat} {i : Nat} (z : ZipAt h n a b i) (k : ∀ c ∈ zfp n, ∀ o, h.get? c = some o → h'.get? c = some o) : ZipAt h' n a b i := by
  obtain ⟨x, y, out⟩ := z.out
  exact ⟨k _ (zfp_mem.mpr ⟨by omega, by omega⟩) _ z.zip, k _ (zfp_mem.mpr ⟨by omega, by omega⟩) _ z.ins, ⟨x, y, k _ (zfp_mem.mpr ⟨by omega, by omega⟩) _ out⟩,
    z.one.at fun o e => k _ (zfp_mem.mpr ⟨by omega, by omega⟩) o e, z.two.at fun o e => k _ (zfp_mem.mpr ⟨by omega, by omega⟩) o e⟩
theorem turnM {P : Program} {w : World} {K : PySem.W.Frag} {es : List Expr} {m : Nat} {tp : Pos} {a b n : Nat} (ha : a < n) (hb : b < n) : Turn P w K (.Tuple es m tp) (Itm K a b) (zfp n) (n + 4) fun i h => ZipAt h n a b i where
  mem := zfp_mem.mpr ⟨by omega, by omega⟩
  obj _ _ z _ hc := zip_live z hc
  keep _ _ _ z k := zip_keep z k
  self _ _ _ _ _ z q := wpAny_pyIter_zip z.zip q
  item := by
    rintro X rfl rfl rfl hc i pins s σ H E I hf z ⟨xs, ys, x, y, qx, qy, hx, hy⟩
    obtain ⟨us, rx, px, _⟩ := I.tuple qx
    obtain ⟨vs, ry, py, _⟩ := I.list qy
    obtain ⟨u, hu, ru⟩ := rx.get hx
    obtain ⟨v, hv, rv⟩ := ry.get hy
    obtain ⟨x0, y0, out⟩ := z.out
    have hh : X.A.in1.handled = none := I.ok.hd hc
    have lu : i < us.toArray.size := by
      rw [List.size_toArray]
      exact (List.getElem?_eq_some_iff.mp hu).1
    have lv : i < vs.toArray.size := by
      rw [List.size_toArray]
      exact (List.getElem?_eq_some_iff.mp hv).1
    have big : n + 4 < s.heap.objs.size := Heap.lt_size z.zip
    refine wpAny_pyNext_zipD2_item (zsep ha hb) (Draws.tuple hh n a (Nat.ne_of_lt ha) us.toArray) (Draws.list hh (n + 1) b (Nat.ne_of_lt (Nat.lt_succ_of_lt hb)) vs.toArray) z.zip z.ins out ⟨z.one, px⟩ ⟨z.two, py.isList⟩ lu lv ?_
    intro u1 v1 h1 tk eu ev z1 out1 one two T1 sz k1
    have eu : us[i]? = some u1 := by simpa using eu
    have ev : vs[i]? = some v1 := by simpa using ev
    obtain rfl := Option.some.inj (hu.symm.trans eu)
    obtain rfl := Option.some.inj (hv.symm.trans ev)
    refine ⟨_, rfl, wpAny_letOwnedTupleGo_zip (s := { s with heap := h1, toks := tk }) z1 fun h2 z2 sb => ?_⟩
    have up : ∀ {c o}, c ≠ n + 4 → h1.get? c = some o → h2.get? c = some o := fun hc e => (sb.2 _ hc).trans e
    have same : ∀ c o, c ∉ zfp n → s.heap.get? c = some o → h2.get? c = some o := fun c o hn e => by
      have far : ∀ d, n ≤ d → d ≤ n + 4 → c ≠ d := fun d l1 l2 q => hn (zfp_mem.mpr ⟨q ▸ l1, q ▸ l2⟩)
      exact up (far _ (by omega) (by omega)) (k1 c o (far _ (by omega) (by omega)) (far _ (by omega) (by omega)) (far _ (by omega) (by omega)) (far _ (by omega) (by omega)) e)
    have neT : s.heap.objs.size ≠ n + 4 := Nat.ne_of_gt big
    have new : ObjOk X.prog X.w (upd H s.heap.objs.size (.tup [x, y])) h2 s.heap.objs.size (.tup [x, y]) := ⟨by show 2 ≤ sizeLine; decide, [u, v], .cons ru (.cons rv .nil), ⟨_, up neT T1, rfl, _, rfl⟩⟩
    have J := I.turnedNew (t' := tk) (ch := zfp n) same hf (Nat.le_refl _) new
    refine ⟨.ref s.heap.objs.size, _, J, rfl, ⟨_, x, y, rfl, I.hok.fresh (Nat.le_refl _), rfl, fun l hl => ?_, fun l hl => ?_⟩, ⟨z2, ?_, ⟨_, _, up (show n + 3 ≠ n + 4 by omega) out1⟩, ?_, ?_⟩, fun c hcm => ?_⟩
    · rw [I.tuple_inj hl qx]
      exact hx
    · rw [I.list_inj hl qy]
      exact hy
    · exact up (show n + 2 ≠ n + 4 by omega) (k1 _ _ (show n + 2 ≠ n + 4 by omega) (show n + 2 ≠ n + 3 by omega) (show n + 2 ≠ n by omega) (show n + 2 ≠ n + 1 by omega) z.ins)
    · exact one.1.at fun o e => up (show n ≠ n + 4 by omega) e
    · exact two.1.at fun o e => up (show n + 1 ≠ n + 4 by omega) e
    · have := zfp_mem.mp hcm
      rw [upd_ne (Nat.ne_of_lt (Nat.lt_of_le_of_lt this.2 big))]
      exact (hf c hcm).1
  done := by
    rintro X rfl rfl rfl hc i pins s σ H E I hf z ⟨xs, ys, qx, qy, e1, e2⟩
    obtain ⟨us, rx, px, _⟩ := I.tuple qx
    obtain ⟨vs, ry, py, _⟩ := I.list qy
    obtain ⟨x0, y0, out⟩ := z.out
    have hh : X.A.in1.handled = none := I.ok.hd hc
    have lx := rx.length
    have ly := ry.length
    refine wpAny_pyNext_zipD2_end (i := i) (zsep ha hb) (Draws.tuple hh n a (Nat.ne_of_lt ha) us.toArray) (Draws.list hh (n + 1) b (Nat.ne_of_lt (Nat.lt_succ_of_lt hb)) vs.toArray) z.zip z.ins out ⟨z.one, px⟩ ⟨z.two, py.isList⟩
      (by rw [List.size_toArray]; omega) (by rw [List.size_toArray]; omega) (.inl (by rw [List.size_toArray]; omega)) fun h1 tk k1 => ⟨rfl, ?_⟩
    refine I.turnedL (t' := tk) (ch := zfp n) (fun c o hn e => ?_) hf
    have far : ∀ d, n ≤ d → d ≤ n + 4 → c ≠ d := fun d l1 l2 q => hn (zfp_mem.mpr ⟨q ▸ l1, q ▸ l2⟩)
    exact k1 c o (far _ (by omega) (by omega)) (far _ (by omega) (by omega)) (far _ (by omega) (by omega)) (far _ (by omega) (by omega)) e
/-- zip of a tuple and a list -/
def iZipM (K : PySem.W.Frag) (ta : TA) : TI := fun σ H R => ta σ H fun vs H1 => ∃ a b xs ys, vs = [.ref a, .ref b] ∧ SqT K H1 a xs ∧ SqL K H1 b ys ∧ R (Itm K a b) H1
theorem pi_zipM {X : Cx} {e e2 : Expr} {ta : TA} {p pos tp : Pos} {es : List Expr} {m : Nat} (hg : Gl X "zip") (hm : X.mg "zip" = none) (ha : PA X [e, e2] ta)
    (hs : starEach [e, e2] X.env = (false, eval e X.env) :: starEach [e2] X.env := by rfl) (hpl : (backTo pos (starEach [e2] X.env)).any (·.1) = false := by rfl) :
    PI X (.Tuple es m tp) (.Call (.Name "zip" p) [e, e2] [] pos) (iZipM X.K ta) := by
  constructor
  intro pins s σ H R I h
  refine Call_ (ld_blt I hg hm boot_zip (callWith_type1 (thn (ha.run pos pins s σ H _ I h) fun us t hh => ?_) hs hpl))
  obtain ⟨vs, H1, J, r, a, b, xs, ys, rfl, qx, qy, q⟩ := hh
  cases r with
  | cons ra rr => cases rr with
    | cons rb rr =>
      cases rr
      cases ra
      cases rb
      obtain ⟨is, _, px, _⟩ := J.tuple qx
      obtain ⟨js, _, py, _⟩ := J.list qy
      obtain ⟨o, ho, _⟩ := id px
      refine JX.call_zipTL px py.isList fun h' z k => ?_
      refine wpAny_pyIter_zip (s := { t with heap := h' }) z.zip ?_
      refine ⟨t.heap.objs.size + 4, zfp t.heap.objs.size, _, _, H1, rfl, J.kept (t' := t.toks) k, turnM (Heap.lt_size ho) py.lt, z, fun c hc => ?_, q⟩
      have le := (zfp_mem.mp hc).1
      exact J.fpOk le (J.hok.fresh le)
theorem w_zipM {K : PySem.W.Frag} {ta : TA} {σ : L2.St} {H : Hp} {R : It → Hp → Prop} (h : ta σ H fun vs H1 => ∃ a b xs ys, vs = [.ref a, .ref b] ∧ SqT K H1 a xs ∧ SqL K H1 b ys ∧ R (Itm K a b) H1) : iZipM K ta σ H R := h
theorem walk_mix {K : PySem.W.Frag} {a b : Addr} {xs ys : List V} (hl : xs.length = ys.length) : Walk (Itm K a b) xs.length (fun H => SqT K H a xs ∧ SqL K H b ys) (YPair (fun i => xs[i]?) fun i => ys[i]?) where
  goes i _ hi q := ⟨xs, ys, xs[i], ys[i]'(hl ▸ hi), q.1, q.2, List.getElem?_eq_getElem hi, List.getElem?_eq_getElem (hl ▸ hi)⟩
  stops _ q := ⟨xs, ys, q.1, q.2, hl, rfl⟩
  yields i H v H' _ q y := by
    obtain ⟨T, x, z, e, n, u, h1, h2⟩ := y
    exact ⟨T, x, z, e, n, u, h1 xs q.1, h2 ys q.2⟩
/-- [.. for .. in zip(a tuple, a list)] -/
theorem lcM {K : PySem.W.Frag} {g : TG} {tt : TT} {te : TE} {vs : List Nat} {σ : L2.St} {H : Hp} {Q : VK} {a b : Addr} {xs ys : List V} (qa : SqT K H a xs) (qb : SqL K H b ys) (hl : xs.length = ys.length) (Pv : Nat → List V → Hp → Prop)
    (h0 : ∀ Dl, H Dl = none → Pv 0 [] (upd H Dl (.lst [])))
    (hs : ∀ Dl i x y T acc H', H Dl = none → xs[i]? = some x → ys[i]? = some y → Same H H' → H' Dl = some (.lst acc) → Pv i acc H' → H' T = none → LcTurn g tt te vs σ H Dl Pv i (.ref T) (upd H' T (.tup [x, y])))
    (hd : ∀ Dl acc H', H Dl = none → Same H H' → H' Dl = some (.lst acc) → Pv xs.length acc H' → Q (.ref Dl) H') :
    ∃ a' b' xs' ys', [V.ref a, .ref b] = [.ref a', .ref b'] ∧ SqT K H a' xs' ∧ SqL K H b' ys' ∧ LcG g tt te vs σ Q (Itm K a' b') H := by
  refine ⟨a, b, xs, ys, rfl, qa, qb, fun Dl hD => ?_⟩
  refine lc_it (walk_mix hl) (fun i H' => LcInv H Dl Pv i H') ⟨[], same_upd2 hD (Same.refl H), upd_same, h0 Dl hD⟩ (fun i H' _ p => ?_) (fun i x H' H'' _ p y => ?_) fun H' p => ?_
  · obtain ⟨_, s, _⟩ := p
    exact ⟨SqT.same s qa, s.seq qb⟩
  · obtain ⟨acc, s, l, pv⟩ := p
    obtain ⟨T, u, v, rfl, nT, rfl, hu, hv⟩ := y
    exact hs Dl i u v T acc H' hD hu hv s l pv nT
  · obtain ⟨acc, s, l, pv⟩ := p
    exact hd Dl acc H' hD s l pv
end J
namespace JX
open PySem PyProof.Rows Srt SrtO
/-- an old heap within a new one -/
def Older (h h' : Heap) : Prop := ∀ b o, h.get? b = some o → h'.get? b = some o
/-- the list that a collecting lays -/
def laidL (h : Heap) (us : Array Value) : Heap := (h.push (seqObj "list" #[] 0)).update h.objs.size (Obj.mapSeq (· ++ us))
theorem laidL_size (h : Heap) (us : Array Value) : (laidL h us).objs.size = h.objs.size + 1 := (Heap.size_update ..).trans (Heap.size_push ..)
theorem laidL_old (h : Heap) (us : Array Value) : Older h (laidL h us) := fun b o e => (Heap.get?_update_other _ _ (Nat.ne_of_gt (Heap.lt_size e))).trans (Heap.get?_push_of_some _ e)
theorem laidL_at (h : Heap) (us : Array Value) : ∃ o n, (laidL h us).get? h.objs.size = some o ∧ o.data = .seq (#[] ++ us) n :=
  ⟨_, _, Heap.get?_update_self (Obj.mapSeq (· ++ us)) (Heap.get?_push_size (o := seqObj "list" #[] 0) h rfl) rfl, rfl⟩
theorem collect_laid {prog : Program} {w : World} {A : Around} {E : Value → Shared → Prop} {Q : List Value → Shared → Prop} {s : Shared} {x : Addr} {ox : Obj} {T : String} {us : Array Value} {n : Nat} (hT : T = "list" ∨ T = "tuple") (hx : s.heap.get? x = some ox)
    (hc : ox.cls = .type T) (hd : ox.data = .seq us n) (hz : us.size ≤ sizeLine) (q : Q us.toList { s with heap := laidL s.heap us }) : wpAny (model prog w) A (collect (.ref x)) Q E s := by
  have back : wpAny (model prog w) A (match Value.ref s.heap.objs.size with
      | Value.ref a => do
        match (← load a).data with
          | Data.seq xs _ => pure xs.toList
          | _ => unsupported "internal:collect"
      | _ => unsupported "internal:collect") Q E { s with heap := laidL s.heap us } := by
    obtain ⟨o, m, ho, hd⟩ := laidL_at s.heap us
    refine wpAny_bind (wpAny_load ho ?_)
    rw [hd]
    refine wpAny_pure ?_
    rw [show (#[] ++ us : Array Value).toList = us.toList by simp]
    exact q
  unfold collect
  refine wpAny_bind (wpAny_runValue (codeAny_builtin F.entry_proto_collect ?_))
  rw [Around.under_plainId F.plain_proto_collect _]
  show wpAny _ A.in1 (newList [] >>= fun l => again (.builtin "list.__iadd__" ⟨[l, .ref x], []⟩)) _ _ s
  refine wpAny_bind (wpAny_newObj_type (wpAny_pure ⟨plainId_quiet F.plain_list_iadd _, codeAny_builtin F.entry_list_iadd ?_⟩))
  rw [Around.under_plainId F.plain_list_iadd _]
  have up : (s.heap.push (seqObj "list" #[] 0)).get? x = some ox := Heap.get?_push_of_some _ hx
  have here : (s.heap.push (seqObj "list" #[] 0)).get? s.heap.objs.size = some (seqObj "list" #[] 0) := Heap.get?_push_size _ rfl
  refine wpAny_mono (wpAny_extend_seq (hsz := hz) (A := A) (s := { s with heap := s.heap.push (seqObj "list" #[] 0) }) s.heap.objs.size x (.ref s.heap.objs.size) 0 hT here up hc hd
    (R := fun r s' => r = .ok (.ret (.ref s.heap.objs.size)) ∧ s' = { s with heap := laidL s.heap us }) ⟨rfl, rfl⟩) ?_ fun e s' z => absurd z.1 (by simp)
  rintro (f | c) s' z
  · obtain ⟨e, rfl⟩ := z
    cases e
    exact back
  · exact ⟨z.1, codeAny_mono z.2 fun r t hr => by
      obtain ⟨rfl, rfl⟩ := hr
      exact back⟩
/-- sorted(x), x a list or a tuple that holds pairs of ints -/
theorem sorted_pairs_of {prog : Program} {w : World} {A : Around} {E Q : Value → Shared → Prop} {s : Shared} {x : Addr} {ox : Obj} {T : String} {vs : List Value} {n : Nat} {k : Value → Int × Int} (hT : T = "list" ∨ T = "tuple") (hx : s.heap.get? x = some ox)
    (hc : ox.cls = .type T) (hd : ox.data = .seq vs.toArray n) (hz : vs.length ≤ sizeLine) (hp : ∀ v ∈ vs, Srt.IsPair s.heap v (k v).1 (k v).2)
    (q : ∀ h' d out, Srtd (fun v u => lexB (k v) (k u)) out → Stb (fun v u => lexB (k v) (k u)) out vs → Older s.heap h' → s.heap.objs.size ≤ d → (∃ m, h'.get? d = some (seqObj "list" out.toArray m)) → Q (.ref d) { s with heap := h' }) :
    wpAny (model prog w) A (call (.builtin "sorted") [.ref x]) Q E s := by
  refine Calls.call_function_entry kind_sorted plain_sorted entry_sorted (args_sorted1 _) ?_
  unfold Builtin.«sorted»
  refine wpAny_bind (m := checkCount "sorted" 1 1 _) (wpAny_pure ?_)
  refine wpAny_bind (collect_laid hT hx hc hd (by rw [List.size_toArray]; exact hz) ?_)
  generalize hg : laidL s.heap vs.toArray = g
  have old : Older s.heap g := by
    rw [← hg]
    exact laidL_old _ _
  have le : s.heap.objs.size ≤ g.objs.size := by
    rw [← hg, laidL_size]
    exact Nat.le_succ _
  have el : vs.toArray.toList = vs := by simp
  rw [el]
  refine wpAny_bind (wpAny_newList ?_ hz)
  have new : (g.push (seqObj "list" vs.toArray 0)).get? g.objs.size = some (seqObj "list" vs.toArray 0) := Heap.get?_push_size _ rfl
  have old2 : Older s.heap (g.push (seqObj "list" vs.toArray 0)) := fun b o e => Heap.get?_push_of_some _ (old b o e)
  show wpAny _ _ _ _ _ { s with heap := g.push (seqObj "list" vs.toArray 0) }
  have sorts : 2 ≤ vs.length → SortableO prog w A.in1.in1 { s with heap := g.push (seqObj "list" vs.toArray 0) } g.objs.size vs fun v u => lexB (k v) (k u) := fun h2 =>
    pairs_sortableO (s := { s with heap := g.push (seqObj "list" vs.toArray 0) }) (by omega) (fun v hm => (hp v hm).keeps fun b o e _ => old2 b o e) fun o e c => by
      cases Option.some.inj (new.symm.trans e)
      exact absurd (Value.type.inj c) (by decide)
  refine wpAny_bind (wpAny_holding (wpAny_call_entry slot_list_sort ⟨_, new, rfl⟩ entry_list_sort (list_sort_ord (swo_lex k) new hz sorts fun out hs hb => ⟨_, rfl, ?_⟩) (args_list_sort _)))
  refine wpAny_pure ⟨_, rfl, q _ g.objs.size out hs hb (fun b o e => ?_) le (sortedHeap_at new)⟩
  have lt : b < g.objs.size := Heap.lt_size (old b o e)
  exact (sortedHeap_old (Nat.ne_of_lt lt) (by rw [Heap.size_push]; exact Nat.lt_succ_of_lt lt)).trans (old2 b o e)
end JX
namespace J
open PySem PySem.Spec PyProof.Rows L2
/-- sorted(x), x a tuple of pairs of ints -/
def rSortedPT (K : PySem.W.Frag) : List V → Hp → VK → Prop := fun vs H Q => ∃ (a : Addr) (xs : List V) (rs : List (Int × Int)), vs = [.ref a] ∧ SqT K H a xs ∧ PairsAt H xs rs ∧ ∀ p ys, H p = none → PairsAt H ys (sortP rs) → Q (.ref p) (upd H p (.lst ys))
theorem pair_conc {X : Cx} {pins : List (Addr × Obj)} {σ : L2.St} {H : Hp} {s : Shared} (I : Inv X pins σ H s) {t : Addr} {b r : Int} (h : H t = some (.tup [.int b, .int r])) : Srt.IsPair s.heap (.ref t) b r := by
  obtain ⟨_, us, rv, o, ho, hc, n, hd⟩ := I.hok _ _ h
  obtain ⟨u1, u2, rfl, r1, r2⟩ := vals2 rv
  obtain ⟨t1, rfl⟩ := r1
  obtain ⟨t2, rfl⟩ := r2
  exact ⟨t, o, t1, t2, n, rfl, ho, hc, hd⟩
theorem sortedPT {X : Cx} : CallR X (.builtin "sorted") (rSortedPT X.K) := by
  intro pins s σ H vs us Q I r h
  obtain ⟨a, xs, rs, rfl, ha, hp, q⟩ := h
  obtain ⟨ws, rv, pl, hz⟩ := I.tuple ha
  obtain ⟨u, rfl, ru⟩ := vals1 r
  obtain rfl : u = Value.ref a := ru
  obtain ⟨o, ho, hc, n, hd⟩ := id pl
  have refs : ∀ x ∈ xs, ∃ t, x = V.ref t := fun x hx => by
    obtain ⟨t, _, _, e, _⟩ := pairs_mem hp x hx
    exact ⟨t, e⟩
  obtain ⟨e1, e2⟩ := refs_back rv refs
  let k : V → Int × Int := kOf H
  have at_ : ∀ x ∈ xs, ∃ t, x = V.ref t ∧ H t = some (.tup [.int (k x).1, .int (k x).2]) := fun x hx => by
    obtain ⟨t, b, c, rfl, ht⟩ := pairs_mem hp x hx
    exact ⟨t, rfl, by rw [show k (.ref t) = (b, c) from kOf_at ht]; exact ht⟩
  refine JX.sorted_pairs_of (k := fun u => k (backV u)) (.inr rfl) ho hc hd (by rw [← rv.length]; exact hz) (fun v hv => ?_) fun h' d out h1 h2 old hd' hn => ?_
  · obtain ⟨t, rfl⟩ := e2 v hv
    have hm : V.ref t ∈ xs := by
      rw [e1]
      exact List.mem_map.mpr ⟨_, hv, rfl⟩
    obtain ⟨t', e, ht⟩ := at_ _ hm
    cases e
    exact pair_conc I ht
  · have h3 : ∀ u ∈ out, ∃ a, u = Value.ref a := fun u hu => e2 u (h2.perm.mem_iff.mp hu)
    have hb : SrtO.Stb (ltP k) (out.map backV) xs := by
      have := SrtO.Stb.map (ltP_swo k) backV h2
      rwa [← e1] at this
    obtain ⟨m, hn⟩ := hn
    have pys : PairsAt H (out.map backV) (sortP rs) := by
      have p0 : PairsAt H (out.map backV) ((out.map backV).map k) := pairs_of fun v hv => pairs_mem hp v (hb.perm.mem_iff.mp hv)
      have e : (out.map backV).map k = sortP rs := by
        rw [← pairs_map hp]
        refine sorted_eq ((hb.perm.map _).trans (sortP_perm _).symm) ?_ (sortP_sorted _)
        have h4 : ((out.map fun u => k (backV u)).Pairwise lexLe) := (SrtO.srtd_map h1).imp fun h => lexB_le h
        rwa [List.map_map]
      rwa [e] at p0
    refine ⟨.ref d, upd H d (.lst (out.map backV)), I.laid (t' := s.toks) old hd' ⟨?_, out, m, vals_back h3, hn⟩, rfl, q d _ (I.hok.fresh hd') pys⟩
    rw [hb.len]
    exact hz
theorem w_sortPT {K : PySem.W.Frag} {H : Hp} {Q : VK} {p : Addr} {vs : List V} {rs : List (Int × Int)} (h : SqT K H p vs) (hp : PairsAt H vs rs) (q : ∀ p' H' vs', H p' = none → Same H H' → H' p' = some (.lst vs') → PairsAt H' vs' (sortP rs) → Q (.ref p') H') : rSortedPT K [.ref p] H Q :=
  ⟨p, vs, rs, rfl, h, hp, fun p' ys np pys => q p' _ ys np (same_new np) upd_same (pys.same (same_new np))⟩
theorem w_nePT {K : PySem.W.Frag} {H : Hp} {Q : VK} {p p2 : Addr} {vs vs2 : List V} {rs rs2 : List (Int × Int)} (h : SqT K H p vs) (h2 : SqT K H p2 vs2) (a : PairsAt H vs rs) (b : PairsAt H vs2 rs2) (q : Q (.bl (!decide (rs = rs2))) H) : rNeD K (.ref p) (.ref p2) H Q := by
  refine ⟨_, _, .tup h (dp_pairs a), .tup h2 (dp_pairs b), shaped_tup rs, shaped_tup rs2, ?_⟩
  have e : PyData.eqv (.tuple (rs.map pd)) (.tuple (rs2.map pd)) = PyData.eqv (.list (rs.map pd)) (.list (rs2.map pd)) := by simp [PyData.eqv]
  have e2 : PyData.eqv (.list (rs.map pd)) (.list (rs2.map pd)) = decide (rs = rs2) := by
    rw [← eqv_pairs]
    simp [PyData.eqv]
  rw [e, e2]
  exact q
end J
namespace J
open PySem PySem.Spec PyProof.Rows L2
/-! ### strange things, one within the other -/
def Deep (H : Hp) (v : V) : Prop := ∃ a, v = .ref a ∧ ((∃ xs, H a = some (.lst xs) ∧ (xs = [] ∨ ∃ p, xs = [.ref p])) ∨ (∃ xs, H a = some (.tup xs) ∧ (xs = [] ∨ ∃ p, xs = [.ref p])) ∨ ∃ ks, H a = some (.dK ks) ∧ (ks = [] ∨ ∃ p, ks = [(.inr "start", .ref p)]))
theorem Deep.same {H H' : Hp} {v : V} (e : Same H H') (h : Deep H v) : Deep H' v := by
  obtain ⟨a, rfl, ⟨xs, h, z⟩ | ⟨xs, h, z⟩ | ⟨xs, h, z⟩⟩ := h
  · exact ⟨a, rfl, .inl ⟨xs, e _ _ h, z⟩⟩
  · exact ⟨a, rfl, .inr (.inl ⟨xs, e _ _ h, z⟩)⟩
  · exact ⟨a, rfl, .inr (.inr ⟨xs, e _ _ h, z⟩)⟩
theorem Deep.odd {H : Hp} {v : V} (h : Deep H v) : Odd H v := by
  obtain ⟨a, rfl, ⟨xs, h, z⟩ | ⟨xs, h, z⟩ | ⟨xs, h, z⟩⟩ := h
  · exact .lst a xs h (z.imp_right .inr)
  · exact .tup a xs h (z.imp_right .inr)
  · exact .dic a xs h z
theorem w_isiO {K : PySem.W.Frag} {H : Hp} {Q : VK} {v : V} {c t : String} {b : Bool} (ty : TyX K H v (.type t)) (e : kitB t c = some b) (q : Q (.bl b) H) : rIsi K [v, .ty c] H Q := w_isi (b := b) q ty (.ty _) (kit_ty e)
/-- the nesting of a strange thing is a list, a tuple or neither -/
inductive DeepIs (K : PySem.W.Frag) (H : Hp) (a : Addr) : Bool → Bool → Prop
  | lst (h : ∀ {Q : VK}, Q (.bl true) H → rIsi K [.ref a, .ty "list"] H Q) : DeepIs K H a true false
  | tup (h : ∀ {Q : VK}, Q (.bl false) H → rIsi K [.ref a, .ty "list"] H Q) (g : ∀ {Q : VK}, Q (.bl true) H → rIsi K [.ref a, .ty "tuple"] H Q) : DeepIs K H a false true
  | dic (h : ∀ {Q : VK}, Q (.bl false) H → rIsi K [.ref a, .ty "list"] H Q) (g : ∀ {Q : VK}, Q (.bl false) H → rIsi K [.ref a, .ty "tuple"] H Q) : DeepIs K H a false false
theorem Deep.is {K : PySem.W.Frag} {H : Hp} {v : V} (h : Deep H v) : ∃ a b c, v = .ref a ∧ DeepIs K H a b c := by
  obtain ⟨a, rfl, ⟨xs, h, z⟩ | ⟨xs, h, z⟩ | ⟨xs, h, z⟩⟩ := h
  · exact ⟨a, _, _, rfl, .lst (w_isiO (.base (.lst h)) (by decide +kernel))⟩
  · exact ⟨a, _, _, rfl, .tup (w_isiO (.base (.tup h)) (by decide +kernel)) (w_isiO (.base (.tup h)) (by decide +kernel))⟩
  · exact ⟨a, _, _, rfl, .dic (w_isiO (.base (.dK h)) (by decide +kernel)) (w_isiO (.base (.dK h)) (by decide +kernel))⟩
end J
namespace J
open PySem PySem.Spec PyProof.Rows L2
theorem tfs_turned (N : Int) (t l : Addr) (p : Int) : (tfs N t l p).lookup ("turned" : Str) = none := by kernel_rfl
theorem tfs_mirrored (N : Int) (t l : Addr) (p : Int) : (tfs N t l p).lookup ("mirrored" : Str) = none := by kernel_rfl
theorem tfs_begins (N : Int) (t l : Addr) (p : Int) : (tfs N t l p).lookup ("begins" : Str) = none := by kernel_rfl
theorem turnR_length {N c : Int} {rs : List (Int × Int)} : (turnR N c rs).length = rs.length := by
  unfold turnR
  rw [(sortP_perm _).length_eq, List.length_map]
theorem mirR_length {N : Int} {rs : List (Int × Int)} (h : 1 ≤ rs.length) : (mirR N rs).length = rs.length := by
  unfold mirR
  rw [(sortP_perm _).length_eq, mirL_length h]
end J
namespace J
open PySem PySem.Spec PyProof.Rows L2
/-! ### len(x) by an own __len__ -/
def rLenOwn (C : Addr) (sp : Sp) : List V → Hp → VK → Prop := fun vs H Q => ∃ a dx fs, vs = [.ref a] ∧ H a = some (.ins C dx fs) ∧ sp [.ref a] H (fun v H' => ∃ n : Int, v = .int n ∧ 0 ≤ n ∧ n < 2 ^ 62 ∧ Q (.int n) H') E0
theorem w_lenOwn {C : Addr} {sp : Sp} {vs : List V} {H : Hp} {Q : VK} (h : ∃ a dx fs, vs = [.ref a] ∧ H a = some (.ins C dx fs) ∧ sp [.ref a] H (fun v H' => ∃ n : Int, v = .int n ∧ 0 ≤ n ∧ n < 2 ^ 62 ∧ Q (.int n) H') E0) : rLenOwn C sp vs H Q := h
theorem call_lenOwn {X : Cx} {C : Addr} {k : Nat} {qual : Str} {st : Stmt} {ps : List Str} {sp : Sp} (cm : CalM X.prog X.w X.K X.mg X.base k C "__len__" qual st ps sp) (hr : Room (k + 1) X.A) : CallR X (.builtin "len") (rLenOwn C sp) := by
  obtain ⟨f, fd, hm, hb, F, _⟩ := cm.ex
  intro pins s σ H vs us Q I r h
  obtain ⟨a, dx, fs, rfl, ha, q⟩ := h
  rw [Vals.ref1 r]
  obtain ⟨_, J, _⟩ := ins_get I.hok ha
  obtain ⟨od, J, _⟩ := J.look
  obtain ⟨m, hF⟩ := I.fr
  have rv : Vals [V.ref a] [Value.ref a] := .cons rfl .nil
  have hl : ([Value.ref a] ++ []).length = ps.length := (by rw [← F.len _ _ _ _ q]; rfl)
  have e0 : Env0 X.prog X.w X.K X.mg X.base X.A.in1 X.stack s H := by
    have e := I.env0
    exact ⟨e.frames, e.mod, e.bs, e.bsz, e.funs, e.frf, e.hok, e.bare⟩
  refine PySem.W.len_K hF I.ok.mod.kin J hm.at_ hm.fn ?_
  refine wpAny_call (codeAny_mono (F.run X.A.in1 X.stack s H ⟨[.ref a], []⟩ ([.ref a] ++ []) [.ref a] _ E0 hr.in1 e0 (hb _ [.ref a] I.kIn hl) rv q) fun r t c => ?_)
  rcases r with e | fl
  · exact pass0 (X := X) pins σ H s e t I c
  cases fl with
  | ret v =>
    obtain ⟨z, H', J', rz, n, ez, n0, n1, hq⟩ := I.after c
    subst ez
    obtain ⟨u, rfl⟩ := rz
    exact ⟨⟨n0, by omega⟩, .int n, H', J'.kept (t' := t.toks + 1) fun _ _ e => e, ⟨_, rfl⟩, hq⟩
  | next => exact False.elim c
  | brk => exact False.elim c
  | cont => exact False.elim c
/-! ### more of lists -/
theorem w_pop {a : Addr} {xs : List V} {y : V} {H : Hp} {Q : VK} (h : H a = some (.lst (xs ++ [y]))) (q : Q y (upd H a (.lst xs))) : rPop (.ref a) [] H Q := ⟨a, xs ++ [y], y, rfl, rfl, h, by simp, by simpa using q⟩
theorem w_rev {a : Addr} {xs : List V} {H : Hp} {Q : VK} (h : H a = some (.lst xs)) (q : Q .non (upd H a (.lst xs.reverse))) : rReverse (.ref a) [] H Q := ⟨a, xs, rfl, rfl, h, q⟩
theorem rows01 {N : Int} (n2 : 2 ≤ N) (n360 : N ≤ 360) : Rows N [(0, 1)] := by
  have g : Gap N [(0, 1)] := by
    intro p hp q hq k h
    rw [List.mem_singleton] at hp hq
    subst hp hq
    have e : (1 : Int) % N = 1 := Int.emod_eq_of_lt (by decide) (by omega)
    have k1 : 1 ≤ k := by
      refine Int.not_lt.mp fun hk => ?_
      have : N * k ≤ N * 0 := Int.mul_le_mul_of_nonneg_left (by omega) (by omega)
      simp at h
      omega
    have : N * 1 ≤ N * k := Int.mul_le_mul_of_nonneg_left k1 (by omega)
    show 0 + (1 - 0) % N < 0 + N * k
    rw [Int.sub_zero, e]
    omega
  have := rows_gap (rs := [(0, 1)]) n2 n360 (by decide) (by decide) (fun q hq => by
    rw [List.mem_singleton] at hq
    subst hq
    exact ⟨by decide, by show (0 : Int) < N; omega, by decide, by show (1 : Int) < N; omega⟩) (by simp) g
  exact this
end J
namespace JX
open PySem PySem.Spec PyProof.Rows L2
/-! ### set(a list of ints) -/
abbrev nset (w : World) : Obj := { cls := .type "set", dict := none, data := .set #[] 0 (.fresh 0 0 (!w.params.followText "set-order")) }
section
variable {P : Program} {w : World} {A : Around} {E : Value → Shared → Prop} {s : Shared}
/-- how the new set stands behind the filling -/
def Filled (w : World) (h h' : Heap) (ns : List Int) : Prop := ∃ c, SetR w h' h.objs.size (fun j => decide (j ∈ ns)) c ∧ c ≤ ns.length ∧ ∀ b o, h.get? b = some o → h'.get? b = some o
theorem fill_list {l : Addr} {items : Array Value} (ns : List Int) (hh : A.handled = none) (hl : s.heap.IsList l items) (hz : items.size = ns.length) (hit : IntsAre items.toList ns) (hb : ns.length + 1 < scanBound) :
    codeAny (model P w) A (.call (.builtin "set.__init__") ⟨[.ref s.heap.objs.size, .ref l], []⟩) (wants (fun r t => r = .none ∧ ∃ h' tk, t = { s with heap := h', toks := tk } ∧ Filled w s.heap h' ns) E) { s with heap := s.heap.push (nset w) } := by
  have hS : (s.heap.push (nset w)).get? s.heap.objs.size = some (nset w) := Heap.get?_push_size _ rfl
  have hT : Shared.TypeIs { s with heap := s.heap.push (nset w) } (.ref s.heap.objs.size) "set" := ⟨_, hS, rfl⟩
  refine codeAny_call_builtin F.called_set.init.plain F.entry_set_init (check_set_init_1 hT ?_)
  obtain ⟨⟨c0, d0, dat0, sl0⟩, hol, hcl, n0, hdl⟩ := id hl
  cases hcl
  cases hdl
  have lt : l < s.heap.objs.size := Heap.lt_size hol
  have hol' := Heap.get?_push_of_some (nset w) hol
  have hl1 : (s.heap.push (nset w)).IsList l items := ⟨_, hol', rfl, n0, rfl⟩
  have f1 := F.sub_list_set
  have f2 := F.sub_list_frozenset
  have f3 : (Value.type "list" == Value.type "dict") = false := by decide
  have val : ∀ (i : Nat) (v : Value), items[i]? = some v → ∃ k t, ns[i]? = some k ∧ v = .int k t := fun i v hv => by
    have hi : i < ns.length := hz ▸ (Array.getElem?_eq_some_iff.mp hv).1
    obtain ⟨t, e⟩ := IntsAre.int_at hit i v (by rw [Array.getElem?_toList]; exact hv)
    rw [List.getD_eq_getElem?_getD, List.getElem?_eq_getElem hi] at e
    exact ⟨ns[i], t, List.getElem?_eq_getElem hi, e⟩
  have z1 : (s.heap.push (nset w)).objs.size = s.heap.objs.size + 1 := Heap.size_push ..
  have nI : l ≠ (s.heap.push (nset w)).objs.size := by
    rw [z1]
    exact Nat.ne_of_lt (Nat.lt_succ_of_lt lt)
  have nS : s.heap.objs.size ∉ [(s.heap.push (nset w)).objs.size, l] := by
    rw [z1]
    intro h
    rcases List.mem_cons.mp h with e | h
    · exact absurd e (Nat.ne_of_lt (Nat.lt_succ_self _))
    · exact absurd (List.mem_singleton.mp h) (Nat.ne_of_gt lt)
  unfold Builtin.«set.__init__» noKeywords Builtin.Frozenset.updateFrom
  generalize hP : pyIter = PI
  wp_walk
  subst hP
  refine wpAny_pyIter_list hl1 (wpAny_bind (wpAny_runValue ?_))
  have hh3 : A.in1.in1.handled = none := by simp [hh]
  refine set_update_ints ((Walks.list hh3 _ l nI items).toS) s.heap.objs.size nS ns hz hb val (items.size - 0) 0 _ (by omega) (Nat.zero_le _) ?zSt ?zOld ?zFin
  case zSt => exact ⟨⟨_, Heap.get?_push_size _ rfl, rfl, rfl⟩, hl1.push _⟩
  case zOld => exact ⟨0, Nat.le_refl 0, setR_new_at (w := w) (Heap.get?_push_of_some _ hS)⟩
  case zFin =>
  intro s' c mv hc hS'
  obtain ⟨h', g2, d', tk', os'⟩ := s'
  obtain rfl : g2 = s.gens := mv.gens
  obtain rfl : d' = s.drawn := mv.drawn
  obtain rfl : os' = s.os := mv.os
  show wpAny _ _ _ _ _ _
  refine wpAny_pure ?_
  show wpAny _ _ (ret Value.none) _ _ _
  refine wpAny_pure ⟨rfl, h', tk', rfl, c, hS', hz ▸ hc, fun b o e => ?_⟩
  have b0 : b < s.heap.objs.size := Heap.lt_size e
  refine mv.heap b o (fun hm => ?_) (Heap.get?_push_of_some _ (Heap.get?_push_of_some _ e))
  rcases List.mem_cons.mp hm with q | hm
  · exact absurd q (Nat.ne_of_lt b0)
  · have := List.mem_singleton.mp hm
    rw [z1] at this
    exact absurd this (Nat.ne_of_lt (Nat.lt_succ_of_lt b0))
theorem call_set_ints {l : Addr} {items : Array Value} (ns : List Int) {Q : Value → Shared → Prop} (hh : A.handled = none) (hl : s.heap.IsList l items) (hz : items.size = ns.length) (hit : IntsAre items.toList ns) (hb : ns.length + 1 < scanBound)
    (q : ∀ h' tk, Filled w s.heap h' ns → Q (.ref s.heap.objs.size) { s with heap := h', toks := tk }) : wpAny (model P w) A (call (.type "set") [.ref l]) Q E s := by
  obtain ⟨c, tl, hmro⟩ := F.called_set.mro
  have hmade := F.called_set.made
  have hsub := F.called_set.sub
  refine wpAny_call (codeAny_of_tree ?_)
  show wpAny _ _ (callAny (.type "set") _) _ _ _
  refine wpAny_pure ⟨Code.quiet_builtin _ (by decide +kernel), codeAny_builtin F.entry_type_call ?_⟩
  rw [Around.under_plain (weight_type_call_type "set" [.ref l] []) rfl]
  have h1 := F.called_set.notType
  have h2 := F.called_set.canCreate
  have hct := F.typeCall_set_1 (.ref l)
  repeat (any_goals (first | assumption | wp_step))
  refine codeAny_mono (code_set_led1 (.ref l) (E := E) (Q₁ := fun obj t => obj = .ref s.heap.objs.size ∧ t = { s with heap := s.heap.push (nset w) }) ⟨rfl, rfl⟩) fun r t hr => ?_
  rcases r with e | fl
  · exact hr
  cases fl with
  | ret obj =>
    obtain ⟨rfl, rfl⟩ := hr
    have hT : Shared.TypeIs { s with heap := s.heap.push (nset w) } (.ref s.heap.objs.size) "set" := ⟨_, Heap.get?_push_size _ rfl, rfl⟩
    have hli := F.called_set.init.lookup
    have hbi := F.called_set.init.bind (.ref s.heap.objs.size)
    repeat (any_goals (first | assumption | wp_step))
    refine codeAny_mono (fill_list (E := E) ns (by simp [hh]) hl hz hit hb) fun r2 t2 h2' => ?_
    rcases r2 with e | fl2
    · exact h2'
    cases fl2 with
    | ret r =>
      obtain ⟨rfl, h', tk, rfl, fil⟩ := h2'
      repeat (any_goals (first | assumption | wp_step))
      exact q _ _ fil
    | next => exact h2'.elim
    | brk => exact h2'.elim
    | cont => exact h2'.elim
  | next => exact hr.elim
  | brk => exact hr.elim
  | cont => exact hr.elim
end
end JX
namespace JX
open PySem PySem.Spec PyProof.Rows L2 Srt SrtO
section
variable {P : Program} {w : World} {A : Around} {E : Value → Shared → Prop} {s : Shared} {a : Addr}
/-- sorted(a set of ints), any number of them -/
theorem sorted_set_any {S : Int → Bool} {n : Nat} {Q : Value → Shared → Prop} (R : SetR w s.heap a S n) (hh : A.handled = none) (hn : n ≤ 100000)
    (q : ∀ s' p (out : List Value) (c : Nat) (ns : List Int), (∀ b o, s.heap.get? b = some o → s'.heap.get? b = some o) → s'.gens = s.gens → s'.os = s.os → s.heap.objs.size ≤ p → s'.heap.get? p = some (seqObj "list" out.toArray c) → IntsAre out ns → ns.Pairwise (· < ·) → (∀ k, k ∈ ns ↔ S k = true) → ns.length = n → Q (.ref p) s') :
    wpAny (model P w) A (call (.builtin "sorted") [.ref a]) Q E s := by
  obtain ⟨o, es, ep, t, ho, hex, hd, g, nd, hm, hb, hf, hsz, hr, hl⟩ := R
  refine Calls.call_function_entry kind_sorted plain_sorted entry_sorted (args_sorted1 _) ?_
  unfold Builtin.«sorted»
  refine wpAny_bind (m := checkCount "sorted" 1 1 _) (wpAny_pure (wpAny_bind ?_))
  refine collect_set (A := A.in1) hh ⟨o, ho, hex.1, hd⟩ hf hb hr hl fun s1 vs k1 le g1 o1 pm => ?_
  have vl : vs.length = n := by
    rw [pm.length_eq, List.length_map, Array.length_toList]
    exact hsz
  have small : vs.length ≤ sizeLine := by
    rw [vl, sizeLine_eq]
    omega
  have hI : IntsAre vs (vs.map iv) := ints_iv fun v hv => by
    obtain ⟨e, he, q⟩ := List.mem_map.mp (pm.mem_iff.mp hv)
    obtain ⟨k, tk, h1, _⟩ := g e he
    exact ⟨k, tk, by rw [← q]; exact h1⟩
  have pk : (vs.map iv).Perm (es.toList.map keyOf) := by
    have z := pm.map iv
    rw [List.map_map] at z
    have e : es.toList.map (iv ∘ fun e => e.2) = es.toList.map keyOf := List.map_congr_left fun e he => by
      obtain ⟨k, tk, h1, _⟩ := g e he
      show iv e.2 = keyOf e
      unfold keyOf
      rw [h1]
      rfl
    rwa [← e]
  refine wpAny_bind (wpAny_newList ?_ small)
  have new : (s1.heap.push (seqObj "list" vs.toArray 0)).get? s1.heap.objs.size = some (seqObj "list" vs.toArray 0) := Heap.get?_push_size _ rfl
  refine wpAny_bind (wpAny_holding (wpAny_call_entry slot_list_sort ⟨_, new, rfl⟩ entry_list_sort (list_sort_ord swo_int new small (fun h2 => ints_sortable hI h2) fun out h1 h2 => ⟨_, rfl, ?_⟩) (args_list_sort _)))
  obtain ⟨a1, a2, a3⟩ := ints_out hI h1 h2
  obtain ⟨c, hc⟩ := sortedHeap_at (vs := vs) (out := out.toArray) new
  have pn : (out.map iv).Perm (es.toList.map keyOf) := a2.trans pk
  have nd' : (out.map iv).Nodup := pn.nodup_iff.mpr nd
  have lt : (out.map iv).Pairwise (· < ·) := by
    have nn : (out.map iv).Pairwise (· ≠ ·) := nd'
    exact (a3.and nn).imp fun h => by omega
  refine wpAny_pure ⟨_, rfl, q _ s1.heap.objs.size out c _ (fun b u e => ?_) g1 o1 le hc a1 lt (fun k => by rw [pn.mem_iff, ← hm k]) ?_⟩
  · have k0 := k1 b u e
    have l0 := Heap.lt_size k0
    exact (sortedHeap_old (Nat.ne_of_lt l0) (by rw [Heap.size_push]; exact Nat.lt_succ_of_lt l0)).trans (Heap.get?_push_of_some _ k0)
  · rw [pn.length_eq, List.length_map, Array.length_toList]
    exact hsz
end
end JX
namespace J
open PySem PySem.Spec PyProof.Rows L2
/-! ### sorted(set(a list of ints)) -/
def jSrtSet (K : PySem.W.Frag) (ta : TE) : TE := fun σ H Q => ta σ H fun x H1 => ∃ (l : Addr) (ns : List Int), x = .ref l ∧ SqL K H1 l (ns.map V.int) ∧ ns.length ≤ 4000 ∧ ∀ (ms : List Int) (p : Addr), ms.Pairwise (· < ·) → (∀ k, k ∈ ms ↔ k ∈ ns) → H1 p = none → Q (.ref p) (upd H1 p (.lst (ms.map V.int)))
theorem w_srtSet {K : PySem.W.Frag} {ta : TE} {σ : L2.St} {H : Hp} {Q : VK} (h : ta σ H fun x H1 => ∃ (l : Addr) (ns : List Int), x = .ref l ∧ SqL K H1 l (ns.map V.int) ∧ ns.length ≤ 4000 ∧ ∀ (ms : List Int) (p : Addr), ms.Pairwise (· < ·) → (∀ k, k ∈ ms ↔ k ∈ ns) → H1 p = none → Q (.ref p) (upd H1 p (.lst (ms.map V.int)))) : jSrtSet K ta σ H Q := h
theorem pe_srtSet {X : Cx} {a : Expr} {ta : TE} {p p2 q pos : Pos} (hg : Gl X "sorted") (hm : X.mg "sorted" = none) (hg2 : Gl X "set") (hm2 : X.mg "set" = none) (ha : PE X a ta) (hc : X.calm = true := by rfl)
    (na : starEach [a] X.env = (false, eval a X.env) :: starEach [] X.env := by rfl) : PE X (.Call (.Name "sorted" p) [.Call (.Name "set" p2) [a] [] q] [] pos) (jSrtSet X.K ta) := by
  refine ⟨fun ps z σ H Q iv h => ?_⟩
  refine Call_ (ld_blt iv hg hm boot_sorted (callWith_builtin1 (args_cons (Call_ (ld_blt iv hg2 hm2 boot_set ?_)) rfl) rfl rfl))
  refine callWith_type1 (args_cons (thn (ha.run ps z σ H _ iv h) fun v z1 h1 => args_nil ?_) na) na rfl
  obtain ⟨x, G, iv1, r1, l, ns, rfl, hq, few, q1⟩ := h1
  cases (show v = Value.ref l from r1)
  obtain ⟨us, r, pl, hz⟩ := iv1.list hq
  have len : us.toArray.size = ns.length := by rw [List.size_toArray, ← r.length, List.length_map]
  refine JX.call_set_ints ns (iv1.ok.hd hc) pl.isList len (by simpa using RZ.intsAre_vals r) (by unfold scanBound; omega) fun hp tk fil => args_nil ?_
  obtain ⟨c, R, hcn, old⟩ := fil
  have iv2 : Inv X ps σ G { z1 with heap := hp, toks := tk } := iv1.kept (t' := tk) old
  refine JX.sorted_set_any (s := { z1 with heap := hp, toks := tk }) R (iv2.ok.hd hc) (by omega) fun s' pp out cc ms k g o le hg' hi hs hmem hln => ?_
  have hn : G pp = none := iv2.hok.fresh le
  have small : (ms.map V.int).length ≤ sizeLine := by
    rw [List.length_map, hln, sizeLine_eq]
    omega
  have J : Inv X ps σ (upd G pp (.lst (ms.map V.int))) { z1 with heap := s'.heap, gens := s'.gens, drawn := s'.drawn, toks := s'.toks } :=
    Inv.call (s := { z1 with heap := hp, toks := tk }) iv2 (ch := []) (Un.laid k le hn) (iv2.hok.laid k le ⟨small, out, cc, vals_of_ints hi, hg'⟩) (by rw [g]; exact iv2.bare) (fun _ z => nomatch z)
  have e : s' = { z1 with heap := s'.heap, gens := s'.gens, drawn := s'.drawn, toks := s'.toks } := by
    cases s'
    cases z1
    cases o
    rfl
  rw [e]
  exact ⟨.ref pp, _, J, rfl, q1 ms pp hs (fun k => by rw [hmem]; simp) hn⟩
end J
namespace J
open PySem PySem.Spec PyProof.Rows L2
/-! ### a def with defaults, called by values -/
structure CalDK (P : Program) (w : World) (K : PySem.W.Frag) (mg : Str → Option Value) (base : Heap) (k : Nat) (x : Str) (st : Stmt) (ps : List Str) (dvs : List V) (sp : Sp) : Prop where
  ex : ∃ f fd, mg x = some (.ref f) ∧ FunD K x x (defArgs st) (defBody st) (defScope st) dvs [] f fd ∧ FnOk P w K mg base CX0 k f fd ps sp
structure CalD (P : Program) (w : World) (K : PySem.W.Frag) (mg : Str → Option Value) (base : Heap) (k : Nat) (x : Str) (ps : List Str) (dvs : List V) (sp : Sp) : Prop where
  ex : ∃ f fd ds, mg x = some (.ref f) ∧ PySem.W.keepIn K (.ref f) = true ∧ Vals dvs ds ∧ Binds K fd ps ds ∧ FnOk P w K mg base CX0 k f fd ps sp
section
variable {P : Program} {w : World} {K : PySem.W.Frag} {mg : Str → Option Value} {base : Heap} {x : Str} {st : Stmt} {dvs : List V} {f : Addr} {N ps : List Str} {k : Nat} {sp : Sp}
theorem caldk_mk (F : SrcD K x x st dvs f) (hm : mg x = some (.ref f)) (S : FnScope N ps (defScope st)) (len : ∀ vs H Q E, sp vs H Q E → vs.length = ps.length) (hbody : BodyOk P w K mg base N x st f k sp) : CalDK P w K mg base (k + 1) x st ps dvs sp := by
  obtain ⟨fd, F⟩ := F
  refine ⟨f, fd, hm, F, F.ok S len fun cdv A outer s H vs Q E hr hsp => ?_⟩
  obtain ⟨t, h, q⟩ := hbody cdv A outer s H vs Q E hr hsp
  exact ⟨t, h.nox, q⟩
theorem CalDK.pos (c : CalDK P w K mg base k x st ps dvs sp) (n j : Nat) (hd : dvs ≠ []) (hn : n + (dvs.length - j) = ps.length) (hb : BindD x x st ps n j dvs.length) : CalD P w K mg base k x ps (dvs.drop j) sp := by
  obtain ⟨f, fd, hm, F, R⟩ := c.ex
  obtain ⟨ds, rd, b⟩ := F.binds1 n j hd hn hb
  exact ⟨f, fd, ds, hm, F.kp, rd, b, R⟩
end
def jCalD (sp : Sp) (dvs : List V) (t : TA) : TE := tCall sp dvs E0 t
theorem pe_calD {X : Cx} {k : Nat} {x : Str} {ps : List Str} {dvs : List V} {sp : Sp} {e : Expr} {es : List Expr} {t : TA} {p pos : Pos} (c : CalD X.prog X.w X.K X.mg X.base k x ps dvs sp) (hr : Room k X.A) (ha : PA X (e :: es) t) (hg : Gl X x := by rfl) (hdb : (x == ("__debug__" : Str)) = false := by decide)
    (he : starEach (e :: es) X.env = (false, eval e X.env) :: starEach es X.env := by rfl) (hpl : (backTo pos (starEach es X.env)).any (·.1) = false := by rfl) : PE X (.Call (.Name x p) (e :: es) [] pos) (jCalD sp dvs t) := by
  obtain ⟨f, fd, ds, hm, hk, hd, hb, F⟩ := c.ex
  exact pe_call F hr hg hm hk hb hd pass0 ha hdb he hpl
theorem w_calD {sp : Sp} {dvs : List V} {t : TA} {σ : L2.St} {H : Hp} {Q : VK} (h : t σ H fun vs H1 => sp (vs ++ dvs) H1 Q E0) : jCalD sp dvs t σ H Q := h
end J
namespace JX
open PySem
section
variable {A : Around} {s : Shared} {d : Addr} {es : Array DictEntry} {ep : Nat}
/-- a dict without more -/
abbrev dO (es : Array DictEntry) (ep : Nat) : Obj := { cls := .type "dict", dict := none, data := .dict es ep, slots := #[] }
theorem dict_no_text (b : Str) (u : Tok) (d : Addr) (es : Array DictEntry) (ep : Nat) : Meets (Builtin.«dict.__eq__» ⟨[.ref d, .str b u], []⟩) fun _ R s => s.heap.get? d = some (dO es ep) ∧ R (.ok (.ret .notImplemented)) s :=
  .of_wp fun prog w A R s q => by
    have ty : s.TypeIs (.ref d) "dict" := ⟨_, q.1, rfl⟩
    have f1 := F.sub_str_dict
    show wpAny _ _ (Builtin.Dict.dictSlotArgs "__eq__" ⟨[.ref d, .str b u], []⟩ >>= _) _ _ s
    refine wpAny_bind ?_
    unfold Builtin.Dict.dictSlotArgs
    refine wpAny_bind (wpAny_notOrdered_dict ty ?_)
    show wpAny _ _ (pure (Value.ref d, Value.str b u)) _ _ s
    refine wpAny_pure (wpAny_bind (wpAny_isInstance (T := "str") (typeIs_str s b u) f1 ?_))
    simp only [Bool.not_false, if_true]
    exact wpAny_bind (wpAny_rule (wpAny_pure ⟨_, rfl, q.2⟩))
theorem text_no_dict (b : Str) (u : Tok) (d : Addr) (es : Array DictEntry) (ep : Nat) : Meets (Builtin.«str.__eq__» ⟨[.str b u, .ref d], []⟩) fun _ R s => s.heap.get? d = some (dO es ep) ∧ R (.ok (.ret .notImplemented)) s :=
  .of_wp fun prog w A R s q => by
    obtain ⟨hp, g, dr, tk, os⟩ := s
    obtain ⟨hl, q⟩ := q
    wp_walk using wpAny_loadPart' hl, wpAny_load hl
    exact ⟨_, rfl, q⟩
theorem text_dict (b : Str) (u : Tok) (h : s.heap.get? d = some (dO es ep)) (hu : A.units < cLine) : SeqAt.EqAt A s (.str b u) (.ref d) false := fun prog w E Q q => by
  have ty : s.TypeIs (.ref d) "dict" := ⟨_, h, rfl⟩
  unfold eqBool
  refine wpAny_holding (wpAny_ite_split (fun e => absurd (eq_of_beq e) nofun) fun _ => wpAny_bind ?_)
  exact SeqAt.rc_eq_decline_or (k := false) (typeIs_str s b u) ty (by decide) F.sub_dict_str F.slot_str_eq F.slot_dict_eq_refl (fun _ hq => call_meets F.slot_str_eq (typeIs_str s b u) F.entry_str_eq (F.args_str_eq_2 ..) (text_no_dict b u d es ep) ⟨h, hq⟩)
    (fun _ hq => call_meets F.slot_dict_eq_refl ty F.entry_dict_eq (F.args_dict_eq_2 ..) (dict_no_text b u d es ep) ⟨h, hq⟩) (fun _ hq => wpAny_of_eq (rfl : isSame (.str b u) (.ref d) = pure false) hq) (.inr hu) (wpAny_truthy_bool q)
end
end JX
namespace J
open PySem PySem.Spec PyProof.Rows L2
/-! ### a strange thing among texts -/
/-- a list, a tuple or a dict -/
def Box (H : Hp) (x : V) : Prop := ∃ a, x = .ref a ∧ ((∃ xs, H a = some (.lst xs)) ∨ (∃ xs, H a = some (.tup xs)) ∨ ∃ ks, H a = some (.dK ks))
theorem box_text {X : Cx} {pins : List (Addr × Obj)} {σ : L2.St} {H : Hp} {s : Shared} (I : Inv X pins σ H s) {A : Around} (hu : A.units < cLine) {x : V} {v : Value} (h : Box H x) (r : RelV x v) (b : Str) (u : Tok) : SeqAt.EqAt A s (.str b u) v false := by
  obtain ⟨a, rfl, h⟩ := h
  cases (show v = Value.ref a from r)
  rcases h with ⟨xs, h⟩ | ⟨xs, h⟩ | ⟨ks, h⟩
  · obtain ⟨us, _, p, _⟩ := I.list (sqL h)
    exact SeqAt.EqAt.str_list b u p.isList hu
  · obtain ⟨us, _, p, _⟩ := I.tuple (sqT h)
    exact SeqAt.EqAt.str_tuple b u p hu
  · obtain ⟨_, y, va, ra, o, es, ep, ho, ⟨e1, e2, e3⟩, e4, _⟩ := (show ObjOk X.prog X.w H s.heap a (.dK ks) from I.hok a _ h)
    obtain ⟨c, dd, dat, sl⟩ := o
    cases e1
    cases e2
    cases e3
    cases e4
    exact JX.text_dict b u ho hu
def rInS (K : PySem.W.Frag) (neg : Bool) : R2 := fun x y H Q => rIn K neg x y H Q ∨ ∃ (p : Addr) (ws : List Str), y = .ref p ∧ (SqL K H p (ws.map V.str) ∨ SqT K H p (ws.map V.str)) ∧ Box H x ∧ Q (.bl neg) H
theorem all_texts {P : Str → Tok → Prop} {R : Value → Prop} (h : ∀ w t, R (.str w t)) : ∀ {ws : List Str} {us : List Value}, Vals (ws.map V.str) us → ∀ u ∈ us, R u
  | [], _, .nil => fun _ hu => nomatch hu
  | _ :: _, _, .cons r t => fun u hu => by
    rcases List.mem_cons.mp hu with rfl | hu
    · obtain ⟨t, rfl⟩ := r
      exact h _ _
    · exact all_texts (P := P) h t u hu
section
variable {X : Cx} {k : Nat}
theorem op_inS (hr : Room k X.A) : OpR X (compareOp .In) (rInS X.K false) := by
  intro pins s σ H x y v u Q I rx ry h
  rcases h with h | ⟨p, ws, rfl, h, b, q⟩
  · exact op_in_seq pins s σ H x y v u Q I rx ry h
  cases (show u = Value.ref p from ry)
  have hu : X.A.in1.units < cLine := by have := hr.un; show X.A.units + 1 < cLine; omega
  have no : ∀ us : Array Value, us.any (fun _ => false) = false := fun us => by simp
  rcases h with h | h
  · obtain ⟨us, r, pl, _⟩ := I.list h
    refine SeqAt.in_listAt (fun _ => false) pl.isList (fun w hw => all_texts (P := fun _ _ => True) (R := fun w => SeqAt.EqAt X.A.in1 s w v false) (fun a t => box_text I hu b rx a t) r w (by simpa using hw)) ⟨.bl _, H, I, rfl, ?_⟩
    rw [no]
    exact q
  · obtain ⟨us, r, pl, _⟩ := I.tuple h
    refine SeqAt.in_tupleAt (fun _ => false) pl (fun w hw => all_texts (P := fun _ _ => True) (R := fun w => SeqAt.EqAt X.A.in1 s w v false) (fun a t => box_text I hu b rx a t) r w (by simpa using hw)) ⟨.bl _, H, I, rfl, ?_⟩
    rw [no]
    exact q
theorem op_ninS (hr : Room k X.A) : OpR X (compareOp .NotIn) (rInS X.K true) := by
  intro pins s σ H x y v u Q I rx ry h
  rcases h with h | ⟨p, ws, rfl, h, b, q⟩
  · exact op_notIn_seq pins s σ H x y v u Q I rx ry h
  cases (show u = Value.ref p from ry)
  have hu : X.A.in1.units < cLine := by have := hr.un; show X.A.units + 1 < cLine; omega
  have no : ∀ us : Array Value, us.any (fun _ => false) = false := fun us => by simp
  rcases h with h | h
  · obtain ⟨us, r, pl, _⟩ := I.list h
    refine SeqAt.notIn_listAt (fun _ => false) pl.isList (fun w hw => all_texts (P := fun _ _ => True) (R := fun w => SeqAt.EqAt X.A.in1 s w v false) (fun a t => box_text I hu b rx a t) r w (by simpa using hw)) ⟨.bl _, H, I, rfl, ?_⟩
    rw [no]
    exact q
  · obtain ⟨us, r, pl, _⟩ := I.tuple h
    refine SeqAt.notIn_tupleAt (fun _ => false) pl (fun w hw => all_texts (P := fun _ _ => True) (R := fun w => SeqAt.EqAt X.A.in1 s w v false) (fun a t => box_text I hu b rx a t) r w (by simpa using hw)) ⟨.bl _, H, I, rfl, ?_⟩
    rw [no]
    exact q
end
section
variable {K : PySem.W.Frag} {H : Hp} {Q : VK} {x : V} {p : Addr} {ws : List Str}
theorem w_inBox (b : Box H x) (h : SqL K H p (ws.map V.str) ∨ SqT K H p (ws.map V.str)) {neg : Bool} (q : Q (.bl neg) H) : rInS K neg x (.ref p) H Q := .inr ⟨p, ws, rfl, h, b, q⟩
theorem w_inFlat {xs : List V} (h : SqL K H p xs ∨ SqT K H p xs) (f : flatV x = true) (g : xs.all flatV = true) {neg : Bool} (q : Q (.bl (if neg then !inV x xs else inV x xs)) H) : rInS K neg x (.ref p) H Q := .inl ⟨p, xs, rfl, h, f, g, q⟩
/-- a strange thing is flat or a box -/
theorem Odd.box (h : Odd H x) : flatV x = true ∨ Box H x := by
  cases h with
  | non => exact .inl rfl
  | bl b => exact .inl rfl
  | str w h => exact .inl rfl
  | lst a xs ha h => exact .inr ⟨a, rfl, .inl ⟨_, ha⟩⟩
  | tup a xs ha h => exact .inr ⟨a, rfl, .inr (.inl ⟨_, ha⟩)⟩
  | dic a ks ha h => exact .inr ⟨a, rfl, .inr (.inr ⟨_, ha⟩)⟩
end
end J
namespace J
open PySem PySem.Spec PyProof.Rows L2
/-! ### o[i] by an own __getitem__ that may raise -/
def jGetXS (C : Addr) (sp : Sp) (W : WX) (ta tb : TE) : TE := fun σ H Q => ta σ H fun x H1 => tb σ H1 fun y H2 => ∃ a dx fs, x = .ref a ∧ H2 a = some (.ins C dx fs) ∧ sp [.ref a, y] H2 Q (WE W σ)
section
variable {X : Cx} {k : Nat} {C : Addr} {ps : List Str} {sp : Sp}
theorem pe_calGX {qual : Str} {st : Stmt} {o i : Expr} {pos : Pos} {ta tb : TE} {W : WX} (ho : PE X o ta) (hi : PE X i tb) (cm : CalMX X.prog X.w X.K X.mg X.base k C "__getitem__" qual st ps sp) (tkx : Takes X W) (hq : SubF X.K C) (hr : Room (k + 1) X.A)
    (hsl : ∀ a j, subscripted i true (.ref a) j = runValue (.builtin "lifetime.subscript" ⟨[.ref a, j], []⟩) := by intro _ _; rfl) : PE X (.Subscript o i pos) (jGetXS C sp W ta tb) := by
  obtain ⟨f, fd, hm, hb, F, _⟩ := cm.ex
  refine ⟨fun pins s σ H Q I h => Subscript_ (binT ho hi I h fun v u s2 x y H2 I2 rx ry q => ?_)⟩
  obtain ⟨a, dx, fs, rfl, ea, q⟩ := q
  cases (show v = Value.ref a from rx)
  obtain ⟨_, O, _⟩ := ins_get I2.hok ea
  obtain ⟨od, J, _⟩ := O.look
  have rv : Vals [.ref a, y] [.ref a, u] := .cons rfl (.cons ry .nil)
  have hl : ([Value.ref a, u] ++ []).length = ps.length := by
    rw [← F.len _ _ _ _ q]
    rfl
  have key : wpAny (model X.prog X.w) X.A.in1 (call (.ref f) [.ref a, u]) (EP X pins σ Q) X.xe s2 :=
    wpAny_call (codeAny_mono (F.run X.A.in1 X.stack s2 H2 ⟨[.ref a, u], []⟩ ([.ref a, u] ++ []) [.ref a, y] Q _ hr.in1 I2.env0.in1 (hb _ [.ref a, u] I2.kIn hl) rv q) fun r t c => by
      have := cr_end I2 (passAt tkx σ) r t c
      rcases r with z | (u | _ | _ | _) <;> exact this)
  have fi := hq f hm.at_
  unfold PySem.W.fnIn at fi
  split at fi
  case h_2 => cases fi
  rename_i e
  unfold subscriptTail getitemInPython
  refine wpAny_bind (wpAny_bind (wpAny_bind (J.type.here ((PySem.W.looks_findIn I2.kIn hm.at_).here ?_))))
  dsimp only
  refine wpAny_bind (wpAny_load (I2.kIn _ _ e) (wpAny_pure ?_))
  dsimp only
  rw [hsl]
  refine wpAny_bind (wpAny_runValue (codeAny_builtin PySem.W.entry_sub ?_))
  unfold Builtin.«lifetime.subscript»
  refine wpAny_bind (PySem.W.special_fn I2.kIn J hm.at_ (beq_iff_eq.mp hm.fn) (wpAny_mono key (fun w t z => wpAny_pure ?_) fun _ _ z => z))
  show wpAny (model X.prog X.w) X.A (letTemporaryGo o (.ref a) w >>= fun _ => pure w) (EP X pins σ Q) X.xe t
  exact wpAny_bind (wpAny_letTemporaryGo (wpAny_pure z))
end
theorem w_getX {C : Addr} {sp : Sp} {W : WX} {ta tb : TE} {σ : L2.St} {H : Hp} {Q : VK} (h : ta σ H fun x H1 => tb σ H1 fun y H2 => ∃ a dx fs, x = .ref a ∧ H2 a = some (.ins C dx fs) ∧ sp [.ref a, y] H2 Q (WE W σ)) : jGetXS C sp W ta tb σ H Q := h
end J
namespace J
open PySem PySem.Spec PyProof.Rows L2
/-! ### no word of a table -/
def NoWord (H : Hp) (v : V) (sq pu : Option Rws) : Prop := (flatV v = true ∨ Box H v) ∧ ∀ w rs, v = .str w → (w, rs) ∉ tabL sq pu
theorem Box.same {H H' : Hp} {v : V} (e : Same H H') (h : Box H v) : Box H' v := by
  obtain ⟨a, rfl, ⟨xs, h⟩ | ⟨xs, h⟩ | ⟨xs, h⟩⟩ := h
  · exact ⟨a, rfl, .inl ⟨xs, e _ _ h⟩⟩
  · exact ⟨a, rfl, .inr (.inl ⟨xs, e _ _ h⟩)⟩
  · exact ⟨a, rfl, .inr (.inr ⟨xs, e _ _ h⟩)⟩
theorem NoWord.same {H H' : Hp} {v : V} {sq pu : Option Rws} (e : Same H H') (h : NoWord H v sq pu) : NoWord H' v sq pu := ⟨h.1.imp_right (Box.same e), h.2⟩
theorem inV_two {a b : Str} {v : V} (f : flatV v = true) : inV v [.str a, .str b] = true ↔ v = .str a ∨ v = .str b := by
  have no : ∀ {u : V}, inV u [.str a, .str b] = false → (∀ w, u ≠ .str w) → (inV u [.str a, .str b] = true ↔ u = .str a ∨ u = .str b) := fun e n => by
    rw [e]
    exact ⟨fun z => (nomatch z), fun z => z.elim (fun z => absurd z (n _)) fun z => absurd z (n _)⟩
  cases v with
  | str w =>
    have e : inV (.str w) [.str a, .str b] = ((a == w) || (b == w)) := by simp [inV, eqV]
    rw [e, Bool.or_eq_true, beq_iff_eq, beq_iff_eq]
    constructor
    · rintro (rfl | rfl)
      · exact .inl rfl
      · exact .inr rfl
    · rintro (h | h)
      · cases h
        exact .inl rfl
      · cases h
        exact .inr rfl
  | non => exact no rfl fun _ z => nomatch z
  | bl b => exact no rfl fun _ z => nomatch z
  | int i => exact no rfl fun _ z => nomatch z
  | _ => cases f
theorem inV_texts {v : V} (f : flatV v = true) : inV v [.str "push", .str "squeeze"] = true ↔ v = .str "push" ∨ v = .str "squeeze" := inV_two f
end J
namespace J
open PySem PySem.Spec PyProof.Rows L2
/-! ### what settling comes to -/
inductive SetDue (H : Hp) (N : Int) (sq pu : Option Rws) : V → V → V → Str → V → Prop
  | word {v u z : V} (h : NoWord H v sq pu) : SetDue H N sq pu v u z "word" v
  | turn {w : Str} {rs : Rws} {u z : V} (m : (w, rs) ∈ tabL sq pu) (o : Odd H u) : SetDue H N sq pu (.str w) u z "turn" u
  | stand {w : Str} {rs : Rws} {c : Int} {z : V} (m : (w, rs) ∈ tabL sq pu) (o : Odd H z) : SetDue H N sq pu (.str w) (.int c) z "refused" z
  | ok {w : Str} {rs : Rws} {c z y : Int} (m : (w, rs) ∈ tabL sq pu) (l : IsLift N rs (z - c) y) : SetDue H N sq pu (.str w) (.int c) (.int z) "standing" (.int ((y + c) % N))
theorem SetDue.same {H H' : Hp} {N : Int} {sq pu : Option Rws} {v u z o : V} {g : Str} (e : Same H H') (h : SetDue H N sq pu v u z g o) : SetDue H' N sq pu v u z g o := by
  cases h with
  | word h => exact .word (h.same e)
  | turn m o => exact .turn m (o.same e)
  | stand m o => exact .stand m (o.same e)
  | ok m l => exact .ok m l
def isSt : V → Bool
  | .str _ => true
  | _ => false
/-- its builtin type tells flags and texts apart -/
def Kd (K : PySem.W.Frag) (H : Hp) (v : V) : Prop := ∃ t : String, TyX K H v (.type t) ∧ kitB t "str" = some (isSt v) ∧ kitB t "bool" = some (isBl v)
theorem Odd.kd {K : PySem.W.Frag} {H : Hp} {v : V} (h : Odd H v) : Kd K H v := by
  have k1 : kitB "NoneType" "str" = some false ∧ kitB "NoneType" "bool" = some false := by decide +kernel
  have k2 : kitB "bool" "str" = some false ∧ kitB "bool" "bool" = some true := by decide +kernel
  have k3 : kitB "str" "str" = some true ∧ kitB "str" "bool" = some false := by decide +kernel
  have k4 : kitB "list" "str" = some false ∧ kitB "list" "bool" = some false := by decide +kernel
  have k5 : kitB "tuple" "str" = some false ∧ kitB "tuple" "bool" = some false := by decide +kernel
  have k6 : kitB "dict" "str" = some false ∧ kitB "dict" "bool" = some false := by decide +kernel
  cases h with
  | non => exact ⟨_, .base .non, k1.1, k1.2⟩
  | bl b => exact ⟨_, .base (.bl b), k2.1, k2.2⟩
  | str w h => exact ⟨_, .base (.str w), k3.1, k3.2⟩
  | lst a xs ha h => exact ⟨_, .base (.lst ha), k4.1, k4.2⟩
  | tup a xs ha h => exact ⟨_, .base (.tup ha), k5.1, k5.2⟩
  | dic a ks ha h => exact ⟨_, .base (.dK ha), k6.1, k6.2⟩
theorem kd_int {K : PySem.W.Frag} {H : Hp} {i : Int} : Kd K H (.int i) := ⟨"int", .base (.int i), show kitB "int" "str" = some false from by decide +kernel, show kitB "int" "bool" = some false from by decide +kernel⟩
theorem kd_str {K : PySem.W.Frag} {H : Hp} {w : Str} : Kd K H (.str w) := ⟨"str", .base (.str w), show kitB "str" "str" = some true from by decide +kernel, show kitB "str" "bool" = some false from by decide +kernel⟩
theorem kd_tup {K : PySem.W.Frag} {H : Hp} {a : Addr} {xs : List V} (h : H a = some (.tup xs)) : Kd K H (.ref a) := ⟨"tuple", .base (.tup h), show kitB "tuple" "str" = some false from by decide +kernel, show kitB "tuple" "bool" = some false from by decide +kernel⟩
theorem Kd.same {K : PySem.W.Frag} {H H' : Hp} {v : V} (e : Same H H') (h : Kd K H v) : Kd K H' v := by
  obtain ⟨t, h1, h2⟩ := h
  exact ⟨t, tyX_same e h1, h2⟩
theorem Kd.isS {K : PySem.W.Frag} {H : Hp} {Q : VK} {v : V} (h : Kd K H v) (q : Q (.bl (isSt v)) H) : rIsi K [v, .ty "str"] H Q := by
  obtain ⟨t, h1, h2, h3⟩ := h
  exact w_isiO h1 h2 q
theorem Kd.isB {K : PySem.W.Frag} {H : Hp} {Q : VK} {v : V} (h : Kd K H v) (q : Q (.bl (isBl v)) H) : rIsi K [v, .ty "bool"] H Q := by
  obtain ⟨t, h1, h2, h3⟩ := h
  exact w_isiO h1 h3 q
theorem SetDue.kd {K : PySem.W.Frag} {H : Hp} {N : Int} {sq pu : Option Rws} {v u z o : V} {g : Str} (h : SetDue H N sq pu v u z g o) (kv : Kd K H v) : Kd K H o := by
  cases h with
  | word h => exact kv
  | turn m o => exact o.kd
  | stand m o => exact o.kd
  | ok m l => exact kd_int
theorem eq0_flat {v : V} (f : flatV v = true) : Eq0 v v := by
  cases v with
  | non => exact eq0_non
  | bl b => exact eq0_bl
  | int i => exact eq0_int
  | str w => exact eq0_str
  | _ => cases f
theorem Box.eq0 {H : Hp} {v : V} (h : Box H v) : Eq0 v v := by
  obtain ⟨a, rfl, _⟩ := h
  exact eq0_ref
theorem SetDue.eq0 {H : Hp} {N : Int} {sq pu : Option Rws} {v u z o : V} {g : Str} (h : SetDue H N sq pu v u z g o) : Eq0 o o := by
  cases h with
  | word h => exact h.1.elim eq0_flat Box.eq0
  | turn m o => exact o.eq0
  | stand m o => exact o.eq0
  | ok m l => exact eq0_int
/-- a rest stays -/
theorem IsLift.again {N x y : Int} {rs : Rws} (R : Rows N rs) (h : IsLift N rs x y) : IsLift N rs y y := by
  obtain ⟨i, b, r, e, q, h1, h2, h3, h4, h5⟩ := h
  have n2 := R.n2
  have m0 := Int.emod_nonneg (r - b) (show N ≠ 0 by omega)
  have st := R.st i b r e h1 h2
  exact ⟨i, b, r, e, q, h1, h2, by omega, by omega, h5⟩
/-- settled once more it is the same -/
theorem settled_again {N z c y : Int} {rs : Rws} (R : Rows N rs) (h : IsLift N rs (z - c) y) : ∃ y', IsLift N rs ((y + c) % N - c) y' ∧ (y' + c) % N = (y + c) % N := by
  have n2 := R.n2
  have l := (h.again R).shift (-((y + c) / N))
  have d := Int.emod_add_mul_ediv (y + c) N
  have e : y + N * (-((y + c) / N)) = (y + c) % N - c := by
    rw [Int.mul_neg]
    omega
  rw [e] at l
  refine ⟨_, l, ?_⟩
  rw [Int.sub_add_cancel, Int.emod_emod]
end J
namespace J
open PySem PySem.Spec PyProof.Rows L2
theorem tab_S {sq pu : Option Rws} {w : Str} {rs : Rws} (h : (w, rs) ∈ tabS sq pu) : (w, rs) ∈ tabL sq pu := by
  unfold tabS at h
  unfold tabL
  rcases List.mem_append.mp h with h | h
  · exact List.mem_append_right _ h
  · exact List.mem_append_left _ h
end J
namespace J
open PySem PySem.Spec PyProof.Rows L2
/-- an integer or a strange thing -/
def IO (H : Hp) (u : V) : Prop := (∃ c : Int, u = .int c) ∨ Odd H u
theorem IO.same {H H' : Hp} {u : V} (e : Same H H') (h : IO H u) : IO H' u := h.imp_right (Odd.same e)
theorem set_due {H : Hp} {N : Int} {sq pu : Option Rws} {v u z : V} (R : ∀ w rs, (w, rs) ∈ tabL sq pu → Rows N rs) (hv : flatV v = true ∨ Box H v) (hu : IO H u) (hz : IO H z) : ∃ g o, SetDue H N sq pu v u z g o := by
  by_cases h : ∃ w rs, v = .str w ∧ (w, rs) ∈ tabL sq pu
  · obtain ⟨w, rs, rfl, m⟩ := h
    rcases hu with ⟨c, rfl⟩ | od
    · rcases hz with ⟨i, rfl⟩ | od
      · obtain ⟨y, l⟩ := (R w rs m).lift (i - c)
        exact ⟨_, _, .ok m l⟩
      · exact ⟨_, _, .stand m od⟩
    · exact ⟨_, _, .turn m od⟩
  · exact ⟨_, _, .word ⟨hv, fun w rs e m => h ⟨w, rs, e, m⟩⟩⟩
end J
namespace J
open PySem PySem.Spec PyProof.Rows L2
/-! ### the standings behind a plan -/
/-- ns: the places at which the plan leaves the places of the round, ascending -/
def AftT (N : Int) (T : Tbl) (ds : List (Str × Int)) (ns : List Int) : Prop := ns.Pairwise (· < ·) ∧ ∀ k, k ∈ ns ↔ ∃ x y, 0 ≤ x ∧ x < N ∧ CarT N T ds x y ∧ k = y % N
theorem mem_upto {n k : Int} : k ∈ upto n ↔ 0 ≤ k ∧ k < n := by
  unfold upto
  rw [List.mem_map]
  constructor
  · rintro ⟨i, hi, rfl⟩
    have := List.mem_range.mp hi
    omega
  · rintro ⟨h0, h1⟩
    exact ⟨k.toNat, List.mem_range.mpr (by omega), by omega⟩
theorem upto_asc {n : Int} : (upto n).Pairwise (· < ·) := by
  unfold upto
  rw [List.pairwise_map]
  exact List.pairwise_lt_range.imp fun h => by omega
theorem aft_none {N : Int} {T : Tbl} (n0 : 0 < N) : AftT N T [] (upto N) := by
  refine ⟨upto_asc, fun k => ?_⟩
  rw [mem_upto]
  constructor
  · rintro ⟨h0, h1⟩
    exact ⟨k, k, h0, h1, rfl, (Int.emod_eq_of_lt h0 h1).symm⟩
  · rintro ⟨x, y, h0, h1, e, rfl⟩
    have e : x = y := e
    subst e
    exact ⟨Int.emod_nonneg _ (by omega), Int.emod_lt_of_pos _ n0⟩
variable {N : Int} {T : Tbl} {ds : List (Str × Int)} {d : Str × Int}
theorem aft_step {ns : List Int} (k : TblOk N T) (h : AftT N T ds ns) (v : Int) : (∃ a ∈ ns, ∃ z, StpT N T d a z ∧ v = z % N) ↔ ∃ x y, 0 ≤ x ∧ x < N ∧ CarT N T (ds ++ [d]) x y ∧ v = y % N := by
  have dv : ∀ c : Int, perP N T ∣ N * c := fun c => Int.dvd_mul_of_dvd_left k.dvdN
  constructor
  · rintro ⟨a, ha, z, hs, rfl⟩
    obtain ⟨x, y, h0, h1, hc, rfl⟩ := (h.2 a).mp ha
    have d1 := Int.emod_add_mul_ediv y N
    have s1 := hs.shift k (dv (y / N))
    rw [d1] at s1
    exact ⟨x, _, h0, h1, CarT.snoc.mpr ⟨y, hc, s1⟩, by rw [Int.add_mul_emod_self_left]⟩
  · rintro ⟨x, y, h0, h1, hc, rfl⟩
    obtain ⟨m, hm, hs⟩ := CarT.snoc.mp hc
    have d1 := Int.emod_add_mul_ediv m N
    have s1 := hs.shift k (dv (-(m / N)))
    have e : m + N * -(m / N) = m % N := by
      rw [Int.mul_neg]
      omega
    rw [e] at s1
    exact ⟨m % N, (h.2 _).mpr ⟨x, m, h0, h1, hm, rfl⟩, _, s1, by rw [Int.add_mul_emod_self_left]⟩
theorem aft_few (k : TblOk N T) {rs : Rws} (hr : (d.1, rs) ∈ T) {x y : Int} (h : StpT N T d x y) : y % N ∈ rs.map fun q => (q.2 + d.2) % N := by
  obtain ⟨rs', z, h1, h2, rfl⟩ := h
  have e := k.one _ _ _ hr h1
  subst e
  obtain ⟨i, b, r, e, q, g1, g2, g3, g4, g5⟩ := h2
  refine List.mem_map.mpr ⟨(b, r), List.mem_of_getElem? g1, ?_⟩
  have d1 := Int.emod_add_mul_ediv (r - b) N
  have e : z + d.2 = r + d.2 + N * (q - (r - b) / N) := by
    rw [Int.mul_sub]
    omega
  show (r + d.2) % N = (z + d.2) % N
  rw [e, Int.add_mul_emod_self_left]
theorem aft_rng {ns : List Int} (n0 : 0 < N) (h : AftT N T ds ns) {k : Int} (hk : k ∈ ns) : 0 ≤ k ∧ k < N := by
  obtain ⟨x, y, _, _, _, rfl⟩ := (h.2 k).mp hk
  exact ⟨Int.emod_nonneg _ (by omega), Int.emod_lt_of_pos _ n0⟩
theorem aft_len {ns : List Int} (n0 : 0 < N) (n360 : N ≤ 360) (h : AftT N T ds ns) : ns.length ≤ 360 := by
  have nd : ns.Nodup := h.1.imp fun h => by omega
  have sub : ns ⊆ upto N := fun k hk => mem_upto.mpr (aft_rng n0 h hk)
  have := nodup_len nd fun v hv => sub hv
  have e : (upto N).length = N.toNat := by
    unfold upto
    rw [List.length_map, List.length_range]
  omega
/-- what one lap comes to, modulo the period -/
theorem res_iff {ns : List Int} (k : TblOk N T) (h : LeftIs N T ds ns) (v : Int) : v ∈ ns ↔ ∃ x y, 0 ≤ x ∧ x < N ∧ CarT N T ds x y ∧ v = y % perP N T := by
  rw [h.2 v]
  have p0 := k.pos
  have pN := k.le
  constructor
  · rintro ⟨x, y, h0, h1, hc, e⟩
    exact ⟨x, y, h0, by omega, hc, e⟩
  · rintro ⟨x, y, h0, h1, hc, rfl⟩
    have d1 := Int.emod_add_mul_ediv x (perP N T)
    have s1 := hc.shift k (c := perP N T * -(x / perP N T)) ⟨_, rfl⟩
    have e : x + perP N T * -(x / perP N T) = x % perP N T := by
      rw [Int.mul_neg]
      omega
    rw [e] at s1
    exact ⟨x % perP N T, _, Int.emod_nonneg _ (by omega), Int.emod_lt_of_pos _ p0, s1, by rw [Int.add_mul_emod_self_left]⟩
theorem JointIs.unique {v v' : V} (h : JointIs N T ds v) (h' : JointIs N T ds v') : v = v' := by
  rcases h with ⟨x, rfl, a0, a1, aj, am⟩ | ⟨rfl, am⟩
  · rcases h' with ⟨x', rfl, b0, b1, bj, bm⟩ | ⟨rfl, bm⟩
    · have e : x = x' := by
        rcases Int.lt_trichotomy x x' with z | z | z
        · exact absurd aj (bm x a0 z)
        · exact z
        · exact absurd bj (am x' b0 z)
      rw [e]
    · exact absurd aj (bm x a0 a1)
  · rcases h' with ⟨x', rfl, b0, b1, bj, bm⟩ | ⟨rfl, bm⟩
    · exact absurd bj (am x' b0 b1)
    · rfl
/-- if one standing is left, a cut closes the round -/
theorem join_of_one {n : Int} (k : TblOk N T) (hw : ∀ q ∈ ds, ∃ rs, (q.1, rs) ∈ T) (h : LeftIs N T ds [n]) : ∃ x, 0 ≤ x ∧ x < perP N T ∧ Joins N T ds x := by
  have p0 := k.pos
  have pN := k.le
  have all : ∀ x y, CarT N T ds x y → y % perP N T = n := fun x y hc => by
    have d1 := Int.emod_add_mul_ediv x (perP N T)
    have s1 := hc.shift k (c := perP N T * -(x / perP N T)) ⟨_, rfl⟩
    have e : x + perP N T * -(x / perP N T) = x % perP N T := by
      rw [Int.mul_neg]
      omega
    rw [e] at s1
    have m := (h.2 ((y + perP N T * -(x / perP N T)) % perP N T)).mpr ⟨_, _, Int.emod_nonneg x (by omega), Int.emod_lt_of_pos x p0, s1, rfl⟩
    rw [Int.add_mul_emod_self_left] at m
    exact List.mem_singleton.mp m
  obtain ⟨y0, h0⟩ := CarT.ex k hw 0
  have hs : CarT N T ds (0 + perP N T) (y0 + perP N T) := h0.shift k (Int.dvd_refl _)
  rw [Int.zero_add] at hs
  have go : ∀ i : Nat, (i : Int) < perP N T → (∃ x, 0 ≤ x ∧ x < perP N T ∧ Joins N T ds x) ∨ CarT N T ds i y0 := by
    intro i
    induction i with
    | zero => exact fun _ => .inr h0
    | succ i ih =>
      intro hi
      rcases ih (by omega) with j | hc
      · exact .inl j
      · obtain ⟨y, hy⟩ := CarT.ex k hw ((i + 1 : Nat) : Int)
        have l1 := h0.mono k hy (by omega)
        have l2 := hy.mono k hs (by omega)
        have e1 := all _ _ h0
        have e2 := all _ _ hy
        by_cases e : y = y0
        · exact .inr (e ▸ hy)
        · have dv : perP N T ∣ y - y0 := Int.dvd_of_emod_eq_zero (by rw [Int.sub_emod, e2, e1, Int.sub_self, Int.zero_emod])
          have le := Int.le_of_dvd (by omega) dv
          have ey : y = y0 + perP N T := by omega
          have hc' := hc.shift k (c := perP N T) (Int.dvd_refl _)
          refine .inl ⟨((i + 1 : Nat) : Int), by omega, hi, y, hy, ?_⟩
          have ei : ((i + 1 : Nat) : Int) + perP N T - 1 = i + perP N T := by omega
          rw [ei, ey]
          exact hc'
  obtain ⟨m, hm⟩ : ∃ m : Nat, (m : Int) = perP N T - 1 := ⟨(perP N T - 1).toNat, by omega⟩
  rcases go m (by omega) with j | hc
  · exact j
  · refine ⟨0, by omega, p0, y0, h0, ?_⟩
    rw [hm] at hc
    rw [Int.zero_add]
    exact hc
end J
namespace J
open PySem PySem.Spec PyProof.Rows L2
/-! ### {k: v for k in a dict}, the dict locked -/
abbrev DcG (g : TG) (tt : TT) (tk tv : TE) (vs : List Nat) (σ : L2.St) (Q : VK) : It → Hp → Prop := fun J H1 => ∀ D, H1 D = none → ∃ W : Nat → Nat → Hp → Prop, (∃ m, W 0 m (upd H1 D (.dK []))) ∧ ∀ i m H, W i m H →
  (J.stop i H ∧ Q (.ref D) H) ∨ (J.go i H ∧ ∃ Nx : Hp → Prop, (∀ H', Nx H' → ∃ m', m' < m ∧ W (i + 1) m' H') ∧ ∀ x H', J.yld i H x H' → g x (wipe σ vs) H' fun σ2 H2 => wipe σ2 vs = wipe σ vs ∧ tt σ2 H2 fun b H3 =>
    if b = true then tk σ2 H3 fun y H4 => tv σ2 H4 fun z H5 => ∃ kvs k, y = kV k ∧ H5 D = some (.dK kvs) ∧ kvs.length < sizeLine ∧ Nx (upd H5 D (.dK (putK kvs k z))) else Nx H3)
theorem w_dc {wi : TI} {g : TG} {tt : TT} {tk tv : TE} {vs : List Nat} {σ : L2.St} {H : Hp} {Q : VK} (h : wi σ H (DcG g tt tk tv vs σ Q)) : tDc wi g tt tk tv vs σ H Q := h
theorem w_iKeys {td : TE} {σ : L2.St} {H : Hp} {R : It → Hp → Prop} (h : td σ H fun x H1 => ∃ d o, x = .ref d ∧ ((∃ kvs, H1 d = some (.frz o (.dK kvs)) ∧ R (Itk d o kvs) H1) ∨ ∃ kvs, H1 d = some (.frz o (.dT kvs)) ∧ R (Itkt d o kvs) H1)) : iKeys td σ H R := h
theorem w_dget1 {td ty : TE} {σ : L2.St} {H : Hp} {Q : VK} (h : td σ H fun x H1 => ∃ a, x = .ref a ∧ IsD H1 a ∧ ty σ H1 fun y H2 => ∃ o, DGet H2 a y o ∧ Q (o.getD .non) H2) : tDGet1 td ty σ H Q := h
/-- between two turns: what the new dict at D holds, and what else is so -/
abbrev DcInv (H : Hp) (D : Addr) (Pv : Nat → List (Key × V) → Hp → Prop) (i : Nat) (H' : Hp) : Prop := ∃ acc, Same H H' ∧ H' D = some (.dK acc) ∧ Pv i acc H'
theorem dcK {g : TG} {tt : TT} {tk tv : TE} {vs : List Nat} {σ : L2.St} {H : Hp} {Q : VK} {d : Addr} {o : Obj} {kvs : List (Key × V)} (hz : H d = some (.frz o (.dK kvs))) (Pv : Nat → List (Key × V) → Hp → Prop)
    (h0 : ∀ D, H D = none → Pv 0 [] (upd H D (.dK [])))
    (hs : ∀ D i k v acc H', H D = none → kvs[i]? = some (k, v) → Same H H' → H' D = some (.dK acc) → Pv i acc H' → g (kV k) (wipe σ vs) H' fun σ2 H2 => wipe σ2 vs = wipe σ vs ∧ tt σ2 H2 fun b H3 =>
      if b = true then tk σ2 H3 fun y H4 => tv σ2 H4 fun z H5 => ∃ ks k, y = kV k ∧ H5 D = some (.dK ks) ∧ ks.length < sizeLine ∧ DcInv H D Pv (i + 1) (upd H5 D (.dK (putK ks k z))) else DcInv H D Pv (i + 1) H3)
    (hd : ∀ D acc H', H D = none → Same H H' → H' D = some (.dK acc) → Pv kvs.length acc H' → Q (.ref D) H') : DcG g tt tk tv vs σ Q (Itk d o kvs) H := by
  intro D hD
  refine ⟨fun i m H' => m = kvs.length - i ∧ i ≤ kvs.length ∧ DcInv H D Pv i H', ⟨kvs.length, rfl, Nat.zero_le _, [], same_upd2 hD (Same.refl H), upd_same, h0 D hD⟩, ?_⟩
  rintro i m H' ⟨rfl, hi, acc, s, hl, pv⟩
  have fz := s _ _ hz
  by_cases lt : i < kvs.length
  · refine .inr ⟨⟨fz, lt⟩, DcInv H D Pv (i + 1), fun H'' p => ⟨kvs.length - (i + 1), by omega, rfl, lt, p⟩, fun x H'' y => ?_⟩
    obtain ⟨rfl, k, v, e, rfl⟩ := y
    exact hs D i k v acc H'' hD e s hl pv
  · have e : i = kvs.length := by omega
    subst e
    exact .inl ⟨⟨fz, Nat.le_refl _⟩, hd D acc H' hD s hl pv⟩
/-! ### rows turned: what that does to lifts, keeping, the period -/
theorem turn_lift_iff {N c x y : Int} {rs : Rws} (R : Rows N rs) : IsLift N (turnR N c rs) x y ↔ IsLift N rs (x - c) (y - c) := by
  constructor
  · intro h
    have := turned_lift (c := -c) (rows_turn R c) (rows_turn (rows_turn R c) (-c)) h
    rw [turn_back R] at this
    exact this
  · intro h
    have := turned_lift (c := c) R (rows_turn R c) h
    rwa [Int.sub_add_cancel, Int.sub_add_cancel] at this
theorem mir_lift_iff {N x y : Int} {rs : Rws} (R : Rows N rs) : IsLift N (mirR N rs) x y ↔ IsLift N rs (-x) (-y) := by
  constructor
  · intro h
    have := mir_lift (rows_mir R) h
    rwa [mir_mir R] at this
  · intro h
    have := mir_lift R h
    rwa [Int.neg_neg, Int.neg_neg] at this
theorem keeps_turn {N c k : Int} {rs : Rws} (R : Rows N rs) : Keeps N (turnR N c rs) k ↔ Keeps N rs k := by
  constructor
  · intro h x y hx
    have h1 : IsLift N (turnR N c rs) (x + c) (y + c) := (turn_lift_iff R).mpr (by rw [Int.add_sub_cancel, Int.add_sub_cancel]; exact hx)
    have h2 := (turn_lift_iff R).mp (h _ _ h1)
    rwa [show x + c + k - c = x + k by omega, show y + c + k - c = y + k by omega] at h2
  · intro h x y hx
    have h1 := h _ _ ((turn_lift_iff R).mp hx)
    refine (turn_lift_iff R).mpr ?_
    rwa [show x + k - c = x - c + k by omega, show y + k - c = y - c + k by omega]
theorem keeps_mir {N k : Int} {rs : Rws} (R : Rows N rs) : Keeps N (mirR N rs) k ↔ Keeps N rs k := by
  have go : ∀ {rs : Rws}, Rows N rs → Keeps N rs k → Keeps N (mirR N rs) k := fun R h x y hx => by
    have h1 := (h.neg R) _ _ ((mir_lift_iff R).mp hx)
    refine (mir_lift_iff R).mpr ?_
    rwa [show -(x + k) = -x + -k by omega, show -(y + k) = -y + -k by omega]
  constructor
  · intro h
    have := go (rows_mir R) h
    rwa [mir_mir R] at this
  · exact go R
/-! ### a table whose rows are changed alike -/
def mapT (f : Rws → Rws) (T : Tbl) : Tbl := T.map fun q => (q.1, f q.2)
theorem tabL_map (f : Rws → Rws) (sq pu : Option Rws) : tabL (sq.map f) (pu.map f) = mapT f (tabL sq pu) := by
  cases sq <;> cases pu <;> rfl
theorem mem_mapT {f : Rws → Rws} {T : Tbl} {w : Str} {rs : Rws} : (w, rs) ∈ mapT f T ↔ ∃ rs', (w, rs') ∈ T ∧ rs = f rs' := by
  unfold mapT
  rw [List.mem_map]
  constructor
  · rintro ⟨⟨u, r⟩, h, e⟩
    cases e
    exact ⟨r, h, rfl⟩
  · rintro ⟨r, h, rfl⟩
    exact ⟨(w, r), h, rfl⟩
theorem per_map {N : Int} {f : Rws → Rws} {T : Tbl} (k : TblOk N T) (k' : TblOk N (mapT f T)) (hf : ∀ w rs, (w, rs) ∈ T → ∀ c, Keeps N (f rs) c ↔ Keeps N rs c) : perP N (mapT f T) = perP N T := by
  have iff : ∀ c, perP N (mapT f T) ∣ c ↔ perP N T ∣ c := fun c => by
    rw [k.dvd, k'.dvd]
    constructor
    · rintro h ⟨w, rs⟩ hq
      exact (hf w rs hq c).mp (h (w, f rs) (mem_mapT.mpr ⟨rs, hq, rfl⟩))
    · rintro h ⟨w, rs⟩ hq
      obtain ⟨rs', hm, rfl⟩ := mem_mapT.mp hq
      exact (hf w rs' hm c).mpr (h (w, rs') hm)
  have a := Int.le_of_dvd k.pos ((iff _).mpr (Int.dvd_refl _))
  have b := Int.le_of_dvd k'.pos ((iff _).mp (Int.dvd_refl _))
  omega
end J
namespace J
open PySem PySem.Spec PyProof.Rows L2
theorem ent_key {C : Addr} {H : Hp} {N : Int} : ∀ {kvs : List (Key × V)} {T : List (Str × Rws)}, Paired (Ent C H N) kvs T → ∀ {i : Nat} {k : Key} {x : V}, kvs[i]? = some (k, x) → ∃ w rs t, T[i]? = some (w, rs) ∧ k = .inr w ∧ x = .ref t ∧ TurnAt C H t N rs
  | _, _, .nil, i, k, x, e => by simp at e
  | (k0, v0) :: _, (w, rs) :: _, .cons h t, 0, k, x, e => by
    obtain ⟨h1, u, h2, h3⟩ := h
    cases e
    exact ⟨w, rs, u, rfl, h1, h2, h3⟩
  | _ :: _, _ :: _, .cons h t, i + 1, k, x, e => ent_key t (i := i) (by simpa using e)
theorem tab_nodup (sq pu : Option Rws) : ((tabL sq pu).map Prod.fst).Nodup := by
  have ne : ¬ (("push" : Str) = "squeeze") := by decide +kernel
  cases sq <;> cases pu <;> simp [tabL, ne]
theorem tab_before {f : Rws → Rws} {sq pu : Option Rws} {i : Nat} {w : Str} {rs : Rws} (e : (tabL sq pu)[i]? = some (w, rs)) : ∀ rs', (w, rs') ∉ (mapT f (tabL sq pu)).take i := by
  intro rs' h
  unfold mapT at h
  rw [← List.map_take, List.mem_map] at h
  obtain ⟨⟨u, r⟩, hm, he⟩ := h
  cases he
  obtain ⟨j, hj, ej⟩ := List.mem_take_iff_getElem.mp hm
  have nd := tab_nodup sq pu
  have hi := (List.getElem?_eq_some_iff.mp e).1
  have ei := (List.getElem?_eq_some_iff.mp e).2
  have lt : j < i := by omega
  have := List.pairwise_iff_getElem.mp nd j i (by rw [List.length_map]; omega) (by rw [List.length_map]; exact hi) lt
  rw [List.getElem_map, List.getElem_map, ej, ei] at this
  exact this rfl
/-- a dict that was locked is as it was -/
theorem same_unlock {H H' : Hp} {d : Addr} {o : Obj} {u : HO} (h : H d = some u) (s : Same (upd H d (.frz o u)) H') : Same H (upd H' d u) := fun b v e => by
  by_cases hb : b = d
  · subst hb
    rw [h] at e
    rw [upd_same]
    exact e
  · rw [upd_ne hb]
    refine s b v ?_
    rw [upd_ne hb]
    exact e
theorem ents_put {C : Addr} {H : Hp} {N : Int} {kvs acc : List (Key × V)} {T : List (Str × Rws)} {D : Addr} {o : HO} (hd : H D = some (.dK acc)) (h : Paired (Ent C H N) kvs T) : Paired (Ent C (upd H D o) N) kvs T :=
  Paired.mapP h fun p q ⟨e1, t, e2, h⟩ => ⟨e1, t, e2, h.lock hd⟩
theorem targ_of {C : Addr} {H : Hp} {N : Int} {sq pu : Option Rws} {kvs : List (Key × V)} (h : Paired (Ent C H N) kvs (tabL sq pu)) : TArg C H N ((valV kvs (.inr "squeeze")).getD .non) sq ∧ TArg C H N ((valV kvs (.inr "push")).getD .non) pu := by
  have ne : ¬ (("push" : Str) = "squeeze") := by decide +kernel
  constructor
  · cases sq with
    | none =>
      rw [ent_no h fun rs hm => by
        rcases tab_word hm with ⟨e, _⟩ | ⟨_, e⟩
        · exact ne e.symm
        · cases e]
      rfl
    | some rs =>
      obtain ⟨t, e, ht⟩ := ent_get (w := "squeeze") (rs := rs) h (by cases pu <;> simp [tabL])
      rw [e]
      exact ⟨t, rfl, ht⟩
  · cases pu with
    | none =>
      rw [ent_no h fun rs hm => by
        rcases tab_word hm with ⟨_, e⟩ | ⟨e, _⟩
        · cases e
        · exact ne e]
      rfl
    | some rs =>
      obtain ⟨t, e, ht⟩ := ent_get (w := "push") (rs := rs) h (by simp [tabL])
      rw [e]
      exact ⟨t, rfl, ht⟩
end J
namespace J
open PySem PySem.Spec PyProof.Rows L2
theorem turn_unlock {C : Addr} {H : Hp} {t d : Addr} {N : Int} {rs : Rws} {o : Obj} {kvs : List (Key × V)} (hd : H d = some (.frz o (.dK kvs))) (h : TurnAt C H t N rs) : TurnAt C (upd H d (.dK kvs)) t N rs := by
  obtain ⟨dx, u, l, vs, ls, h1, h2, h3, h4, h5⟩ := h
  have n : ∀ {a : Addr} {v : HO}, H a = some v → (∀ o' u', v ≠ .frz o' u') → a ≠ d := fun e z q => by
    rw [q, hd] at e
    cases e
    exact z _ _ rfl
  refine ⟨dx, u, l, vs, ls, by rw [upd_ne (n h1 fun _ _ z => nomatch z)]; exact h1, by rw [upd_ne (n h2 fun _ _ z => nomatch z)]; exact h2, ?_, by rw [upd_ne (n h4 fun _ _ z => nomatch z)]; exact h4, h5⟩
  exact Paired.mapP h3 fun v q ⟨t', e, g⟩ => ⟨t', e, by rw [upd_ne (n g fun _ _ z => nomatch z)]; exact g⟩
end J
namespace J
open PySem PySem.Spec PyProof.Rows L2
/-! ### name = {k: v for ..} on one line -/
section
variable {X : Cx}
theorem ps_setDc {i : Nat} {y : Str} {py : Pos} {kx vx tg iter : Expr} {ifs : List Expr} {scope : Scope} {own : List (Str × Nat)} {pos spos : Pos} {wi : TI} {g : TG} {tt : TT} {tk tv : TE} (hc : X.calm = true) (hN : X.N.Nodup) (hy : X.N[i]? = some y) (hyl : X.env.scope.names.lookup y = some .local)
    (hsw : swapsWith (.DictComp kx vx [⟨tg, iter, ifs, 0⟩] scope pos) (some (.Name y py)) spos.line X.env = pure true) (hi : PI X tg iter wi) (ok : BlkOk X.N X.env.scope scope own)
    (hg : ∀ (s : Shared) (H : Hp) (C : Addr) (cl : List (Str × Addr)) (fp : List Addr), PG (X.blk s H scope (compEnvC scope cl C X.env) fp) tg g) (ht : ∀ (s : Shared) (H : Hp) (C : Addr) (cl : List (Str × Addr)) (fp : List Addr), PTs (X.blk s H scope (compEnvC scope cl C X.env) fp) ifs tt)
    (hk : ∀ (s : Shared) (H : Hp) (C : Addr) (cl : List (Str × Addr)) (fp : List Addr), PE (X.blk s H scope (compEnvC scope cl C X.env) fp) kx tk)
    (he : ∀ (s : Shared) (H : Hp) (C : Addr) (cl : List (Str × Addr)) (fp : List Addr), PE (X.blk s H scope (compEnvC scope cl C X.env) fp) vx tv) (hs : ∀ x, foldedSetIterable iter X.env x = pure x := by intro _; rfl) :
    PS X (.Assign [.Name y py] (.DictComp kx vx [⟨tg, iter, ifs, 0⟩] scope pos) spos) (tAsg (tDc wi g tt tk tv (own.map (·.2))) (gName i)) := by
  constructor
  intro pins s σ H D I q0
  rw [exec_Assign_Name_used _ _ _ _ hsw]
  refine wpAny_bind (wpAny_standAt (wpAny_bind ?_))
  show wpAny _ X.A (do let _ ← comprehension (.DictComp kx vx [⟨tg, iter, ifs, 0⟩] scope pos) scope X.env (firstIterPos [⟨tg, iter, ifs, 0⟩] pos) newDict false (eval iter X.env) (some (assign (.Name y py) X.env))) _ _ s
  have q1 : tDc wi g tt tk tv (own.map (·.2)) σ H (fun x H1 => gName i x σ H1 D.nx) := q0
  refine wpAny_bind (thn (dc_core (Qf := fun _ t => SP X pins D .next t) hc hN I hi ok hg ht hk he hs q1 fun L C t m H' J q hn f => ?_) fun _ t z => wpAny_pure (wpAny_pure z))
  show wpAny _ _ (assign (.Name y py) X.env (.ref L)) _ _ _
  obtain ⟨f0, f1, f2, f3, f4, f5⟩ := f
  refine wpAny_assign_Name (store_ok2 (v := V.ref L) J hN hy (.inl hyl) rfl (fun t2 J2 ⟨a, sb, ha⟩ => ?_) (.inr hyl))
  have apart : C ≠ a := fun e => by
    rcases ha with z | z
    · exact f1 (e.trans z)
    · exact f4 y a z e.symm
  refine ⟨m, hn.sameBut sb apart, fun h3 sb3 => ⟨_, H', ?_, q⟩⟩
  exact J2.turned (t' := t2.toks) (fun b o hb e => (sb3.2 b hb).trans e) f0 f1 f3 f4 f5
theorem sw_trueD {kx vx : Expr} {gs : List Comprehension} {scope : Scope} {pos py : Pos} {y : Str} {l : Nat} {env : Env} (hk : env.scope.kind = .function) (hy : env.scope.names.lookup y = some .local) (hl : (py.line == pos.line) = true)
    (ha : (scope.names.any fun (n, k) => n == y && (k == .local || k == .cell)) = false) : swapsWith (.DictComp kx vx gs scope pos) (some (.Name y py)) l env = pure true := by
  have ky : env.kindOf y = some .local := hy
  have kb : env.blockKind = .function := by
    unfold Env.blockKind
    rw [hk]
    rfl
  unfold swapsWith
  simp only [kb, ky, ha, Expr.pos, hl]
  rfl
end
end J
namespace J
open PySem PySem.Spec PyProof.Rows L2
/-! ### a mirrored part under a negated plan -/
def negD (N : Int) (ds : List (Str × Int)) : List (Str × Int) := ds.map fun q => (q.1, (-q.2) % N)
abbrev mirT (N : Int) (T : Tbl) : Tbl := mapT (mirR N) T
section
variable {N : Int} {T : Tbl} {ds : List (Str × Int)} {d : Str × Int} {x y : Int}
theorem neg_mod {k : Int} : -(k % N) % N = -k % N := by
  have d1 := Int.emod_add_mul_ediv k N
  have e : -(k % N) = -k + N * (k / N) := by omega
  rw [e, Int.add_mul_emod_self_left]
theorem stp_mir (k : TblOk N T) (h : StpT N T d x y) : StpT N (mirT N T) (d.1, (-d.2) % N) (-x) (-y) := by
  obtain ⟨rs, z, h1, h2, rfl⟩ := h
  have R : Rows N rs := k.rows _ h1
  have d1 := Int.emod_add_mul_ediv (-d.2) N
  have l := ((mir_lift R h2).shift (-d.2 / N))
  refine ⟨mirR N rs, -z + N * (-d.2 / N), mem_mapT.mpr ⟨rs, h1, rfl⟩, ?_, by show _ = _ + (-d.2) % N; omega⟩
  have e : -(x - d.2) + N * (-d.2 / N) = -x - (-d.2) % N := by omega
  rwa [e] at l
theorem car_mir (k : TblOk N T) : ∀ {ds : List (Str × Int)} {x y : Int}, CarT N T ds x y → CarT N (mirT N T) (negD N ds) (-x) (-y)
  | [], x, y, h => by
    have e : x = y := h
    rw [e]
    exact (rfl : -y = -y)
  | d :: ds, x, y, h => by
    obtain ⟨m, hs, hc⟩ := h
    exact ⟨-m, stp_mir k hs, car_mir k hc⟩
theorem left_any {ns : List Int} (k : TblOk N T) (h : LeftIs N T ds ns) (hc : CarT N T ds x y) : y % perP N T ∈ ns := by
  have p0 := k.pos
  have d1 := Int.emod_add_mul_ediv x (perP N T)
  have s1 := hc.shift k (c := perP N T * -(x / perP N T)) ⟨_, rfl⟩
  have e : x + perP N T * -(x / perP N T) = x % perP N T := by
    rw [Int.mul_neg]
    omega
  rw [e] at s1
  have m := (h.2 ((y + perP N T * -(x / perP N T)) % perP N T)).mpr ⟨_, _, Int.emod_nonneg x (by omega), Int.emod_lt_of_pos x p0, s1, rfl⟩
  rwa [Int.add_mul_emod_self_left] at m
theorem mem_mir {ns ms : List Int} (k : TblOk N T) (k' : TblOk N (mirT N T)) (hw : ∀ q ∈ ds, ∃ rs, (q.1, rs) ∈ T) (ep : perP N (mirT N T) = perP N T) (h : LeftIs N T ds ns) (h' : LeftIs N (mirT N T) (negD N ds) ms) (v : Int) : v ∈ ms ↔ v ∈ ns.map fun u => (-u) % perP N T := by
  rw [List.mem_map]
  constructor
  · intro hv
    obtain ⟨x, y, _, _, hc, rfl⟩ := (h'.2 v).mp hv
    obtain ⟨z, hz⟩ := CarT.ex k hw (-x)
    have c1 := car_mir k hz
    rw [Int.neg_neg] at c1
    have e := CarT.unique k' hc c1
    refine ⟨z % perP N T, left_any k h hz, ?_⟩
    show -(z % perP N T) % perP N T = _
    rw [neg_mod, ep, e]
  · rintro ⟨u, hu, rfl⟩
    obtain ⟨x, y, _, _, hc, rfl⟩ := (h.2 u).mp hu
    have := left_any k' h' (car_mir k hc)
    rw [ep] at this
    show -(y % perP N T) % perP N T ∈ ms
    rwa [neg_mod]
theorem len_mir {ns ms : List Int} (k : TblOk N T) (k' : TblOk N (mirT N T)) (hw : ∀ q ∈ ds, ∃ rs, (q.1, rs) ∈ T) (ep : perP N (mirT N T) = perP N T) (h : LeftIs N T ds ns) (h' : LeftIs N (mirT N T) (negD N ds) ms) : ms.length = ns.length := by
  have p0 := k.pos
  have nd : (ns.map fun u => (-u) % perP N T).Nodup := by
    unfold List.Nodup
    rw [List.pairwise_map]
    refine List.Pairwise.imp_of_mem (fun {a b} ha hb (lt : a < b) e => ?_) h.1
    have ra := h.rng k ha
    have rb := h.rng k hb
    have e2 : (-(-a % perP N T)) % perP N T = (-(-b % perP N T)) % perP N T := by rw [e]
    rw [neg_mod, neg_mod, Int.neg_neg, Int.neg_neg, Int.emod_eq_of_lt ra.1 ra.2, Int.emod_eq_of_lt rb.1 rb.2] at e2
    omega
  have := same_len (h'.1.imp fun h => by omega) nd (mem_mir k k' hw ep h h')
  rwa [List.length_map] at this
theorem neg_take {n : Nat} : negD N (ds.take n) = (negD N ds).take n := by
  unfold negD
  rw [List.map_take]
/-- the counts are alike -/
theorem counts_mir {nss mss : List (List Int)} (k : TblOk N T) (k' : TblOk N (mirT N T)) (hw : ∀ q ∈ ds, ∃ rs, (q.1, rs) ∈ T) (ep : perP N (mirT N T) = perP N T) (h : LeftsAre N T ds ds.length nss) (h' : LeftsAre N (mirT N T) (negD N ds) (negD N ds).length mss) : (mss.map fun ns => (ns.length : Int)) = nss.map fun ns => (ns.length : Int) := by
  have el : (negD N ds).length = ds.length := by
    unfold negD
    rw [List.length_map]
  refine List.ext_getElem (by rw [List.length_map, List.length_map, h.1, h'.1, el]) fun i h1 h2 => ?_
  rw [List.length_map] at h1 h2
  rw [List.getElem_map, List.getElem_map]
  have a := h.2 i _ (List.getElem?_eq_getElem h2)
  have b := h'.2 i _ (List.getElem?_eq_getElem h1)
  rw [← neg_take] at b
  rw [len_mir k k' (fun q hq => hw q (List.mem_of_mem_take hq)) ep a b]
theorem neg_words (hw : ∀ q ∈ ds, ∃ rs, (q.1, rs) ∈ T) : ∀ q ∈ negD N ds, ∃ rs, (q.1, rs) ∈ mirT N T := by
  intro q hq
  obtain ⟨u, hu, rfl⟩ := List.mem_map.mp hq
  obtain ⟨rs, hm⟩ := hw u hu
  exact ⟨mirR N rs, mem_mapT.mpr ⟨rs, hm, rfl⟩⟩
theorem joins_shift (k : TblOk N T) (h : Joins N T ds x) (c : Int) : Joins N T ds (x + perP N T * c) := by
  obtain ⟨y, h1, h2⟩ := h
  refine ⟨_, h1.shift k (c := perP N T * c) ⟨_, rfl⟩, ?_⟩
  have := h2.shift k (c := perP N T * c) ⟨_, rfl⟩
  rwa [show x + perP N T - 1 + perP N T * c = x + perP N T * c + perP N T - 1 by omega] at this
end
theorem words_map {f : Rws → Rws} {sq pu : Option Rws} : wordsL (sq.map f) (pu.map f) = wordsL sq pu := by
  cases sq <;> cases pu <;> rfl
end J
namespace J
open PySem PySem.Spec PyProof.Rows L2
theorem pfs_mirrored (N : Int) (d : Addr) : (pfs N d).lookup ("mirrored" : Str) = none := by kernel_rfl
theorem pfs_turned (N : Int) (d : Addr) : (pfs N d).lookup ("turned" : Str) = none := by kernel_rfl
theorem PartAt.ins {K : PySem.W.Frag} {H : Hp} {x : Addr} {N : Int} {sq pu : Option Rws} (h : PartAt K H x N sq pu) : ∃ dx d, H x = some (.ins (CP K) dx (pfs N d)) := by
  obtain ⟨dx, d, _, h, _⟩ := h
  exact ⟨dx, d, h⟩
end J
namespace J
open PySem PySem.Spec PyProof.Rows L2
/-! ### own op int, x[k] = v by an own __setitem__ -/
def rOwnI (C : Addr) (sp : Sp) : R2 := fun x y H Q => ∃ (a dx : Addr) (fs : List (Str × V)) (i : Int), x = .ref a ∧ y = .int i ∧ H a = some (.ins C dx fs) ∧ sp [.ref a, .int i] H (fun v H' => (∃ r, v = .ref r) ∧ Q v H') E0
theorem w_ownI {C : Addr} {sp : Sp} {x y : V} {H : Hp} {Q : VK} (h : ∃ (a dx : Addr) (fs : List (Str × V)) (i : Int), x = .ref a ∧ y = .int i ∧ H a = some (.ins C dx fs) ∧ sp [.ref a, .int i] H (fun v H' => (∃ r, v = .ref r) ∧ Q v H') E0) : rOwnI C sp x y H Q := h
theorem op_ownI {X : Cx} {op : Operator} {C : Addr} {k : Nat} {qual : Str} {st : Stmt} {ps : List Str} {sp : Sp} (cm : CalM X.prog X.w X.K X.mg X.base k C (PySem.dunder op.info.2) qual st ps sp) (B : BinI X.K C op.info.2) (hr : Room k X.A) : OpR X (binaryOp op) (rOwnI C sp) := by
  obtain ⟨f, fd, hm, hb, F, _⟩ := cm.ex
  obtain ⟨fo, hfo⟩ := B.fo
  obtain ⟨ro, hro⟩ := B.ro
  intro pins s σ H x y v u Q I rx ry h
  obtain ⟨a, dx, fs, i, rfl, rfl, ha, q⟩ := h
  cases (show v = Value.ref a from rx)
  obtain ⟨t, rfl⟩ : ∃ t, u = Value.int i t := ry
  obtain ⟨_, J, _⟩ := ins_get I.hok ha
  obtain ⟨od, J, _⟩ := J.look
  obtain ⟨m, hF⟩ := I.fr
  have rv : Vals [V.ref a, .int i] [Value.ref a, .int i t] := .cons rfl (.cons ⟨t, rfl⟩ .nil)
  have len : ([Value.ref a, .int i t] ++ []).length = ps.length := by
    rw [← F.len _ _ _ _ q]
    rfl
  refine PySem.W.ksp_binT (T := "int") hF I.ok.mod.kin J (by first | rfl | simp [typeOf]) B.first hm.at_ hm.fn B.refl (.inl rfl) hfo hro B.sub ?_
  refine wpAny_call (codeAny_mono (F.run X.A X.stack s H ⟨[.ref a, .int i t], []⟩ ([.ref a, .int i t] ++ []) [.ref a, .int i] _ E0 hr I.env0 (hb _ [.ref a, .int i t] I.kIn len) rv q) fun r s' c => ?_)
  rcases r with e | fl
  · exact pass0 (X := X) pins σ H s e s' I c
  cases fl with
  | ret u =>
    obtain ⟨z, H', I', rz, ⟨r0, rfl⟩, q'⟩ := I.after c
    cases (show u = Value.ref r0 from rz)
    exact ⟨.ref r0, H', I', rfl, q'⟩
  | next => exact False.elim c
  | brk => exact False.elim c
  | cont => exact False.elim c
end J
namespace J
open PySem PySem.Spec PyProof.Rows L2
/-! ### a plan moved, a part turned, turns changed by the period -/
def movD (N b : Int) (ds : List (Str × Int)) : List (Str × Int) := ds.map fun q => (q.1, (q.2 + b) % N)
abbrev turT (N b : Int) (T : Tbl) : Tbl := mapT (turnR N b) T
/-- the one carries b further what the other carries -/
def Shf (N b : Int) (T T' : Tbl) (ds ds' : List (Str × Int)) : Prop := ∀ x y, CarT N T ds x y → CarT N T' ds' (x + b) (y + b)
section
variable {N b : Int} {T T' : Tbl} {ds ds' : List (Str × Int)} {d : Str × Int} {x y : Int}
theorem stp_mov (h : StpT N T d x y) : StpT N T (d.1, (d.2 + b) % N) (x + b) (y + b) := by
  obtain ⟨rs, z, h1, h2, rfl⟩ := h
  have d1 := Int.emod_add_mul_ediv (d.2 + b) N
  have l := h2.shift ((d.2 + b) / N)
  refine ⟨rs, z + N * ((d.2 + b) / N), h1, ?_, by show _ = _ + (d.2 + b) % N; omega⟩
  rwa [show x - d.2 + N * ((d.2 + b) / N) = x + b - (d.2 + b) % N by omega] at l
theorem car_mov : ∀ {ds : List (Str × Int)}, Shf N b T T ds (movD N b ds)
  | [], x, y, h => congrArg (· + b) (show x = y from h)
  | d :: ds, x, y, h => by
    obtain ⟨m, hs, hc⟩ := h
    exact ⟨m + b, stp_mov hs, car_mov m y hc⟩
theorem stp_turned (k : TblOk N T) (h : StpT N T d x y) : StpT N (turT N b T) d (x + b) (y + b) := by
  obtain ⟨rs, z, h1, h2, rfl⟩ := h
  refine ⟨turnR N b rs, z + b, mem_mapT.mpr ⟨rs, h1, rfl⟩, (turn_lift_iff (k.rows _ h1)).mpr ?_, by omega⟩
  rwa [show x + b - d.2 - b = x - d.2 by omega, show z + b - b = z by omega]
theorem car_turned (k : TblOk N T) : ∀ {ds : List (Str × Int)}, Shf N b T (turT N b T) ds ds
  | [], x, y, h => congrArg (· + b) (show x = y from h)
  | d :: ds, x, y, h => by
    obtain ⟨m, hs, hc⟩ := h
    exact ⟨m + b, stp_turned k hs, car_turned k m y hc⟩
/-- es has the words of ds, its turns differ by multiples of the period -/
def Loose (s : Int) : List (Str × Int) → List (Str × Int) → Prop := Paired fun p q => p.1 = q.1 ∧ s ∣ q.2 - p.2
theorem stp_loose (k : TblOk N T) {e : Str × Int} (hw : d.1 = e.1) (hc : perP N T ∣ e.2 - d.2) (h : StpT N T d x y) : StpT N T e x y := by
  obtain ⟨rs, z, h1, h2, rfl⟩ := h
  have kp := (k.dvd.mp hc) _ h1
  have R := k.rows _ h1
  have l := kp.neg R _ _ h2
  refine ⟨rs, z - (e.2 - d.2), hw ▸ h1, ?_, by omega⟩
  rwa [show x - d.2 + -(e.2 - d.2) = x - e.2 by omega, show z + -(e.2 - d.2) = z - (e.2 - d.2) by omega] at l
theorem car_loose (k : TblOk N T) : ∀ {ds es : List (Str × Int)}, Loose (perP N T) ds es → ∀ {x y : Int}, CarT N T ds x y → CarT N T es x y
  | _, _, .nil, x, y, h => h
  | _, _, .cons hd tl, x, y, h => by
    obtain ⟨m, hs, hc⟩ := h
    exact ⟨m, stp_loose k hd.1 hd.2 hs, car_loose k tl hc⟩
theorem loose_shf (k : TblOk N T) {es : List (Str × Int)} (h : Loose (perP N T) ds es) : Shf N 0 T T ds es := fun x y hc => by
  rw [Int.add_zero, Int.add_zero]
  exact car_loose k h hc
theorem mem_shf {ns ms : List Int} (k : TblOk N T) (k' : TblOk N T') (sh : Shf N b T T' ds ds') (hw : ∀ q ∈ ds, ∃ rs, (q.1, rs) ∈ T) (ep : perP N T' = perP N T) (h : LeftIs N T ds ns) (h' : LeftIs N T' ds' ms) (v : Int) : v ∈ ms ↔ v ∈ ns.map fun u => (u + b) % perP N T := by
  rw [List.mem_map]
  constructor
  · intro hv
    obtain ⟨x, y, _, _, hc, rfl⟩ := (h'.2 v).mp hv
    obtain ⟨z, hz⟩ := CarT.ex k hw (x - b)
    have c1 := sh _ _ hz
    rw [Int.sub_add_cancel] at c1
    have e := CarT.unique k' hc c1
    refine ⟨z % perP N T, left_any k h hz, ?_⟩
    show (z % perP N T + b) % perP N T = _
    rw [Int.emod_add_emod, ep, e]
  · rintro ⟨u, hu, rfl⟩
    obtain ⟨x, y, _, _, hc, rfl⟩ := (h.2 u).mp hu
    have := left_any k' h' (sh _ _ hc)
    rw [ep] at this
    show (y % perP N T + b) % perP N T ∈ ms
    rwa [Int.emod_add_emod]
theorem len_shf {ns ms : List Int} (k : TblOk N T) (k' : TblOk N T') (sh : Shf N b T T' ds ds') (hw : ∀ q ∈ ds, ∃ rs, (q.1, rs) ∈ T) (ep : perP N T' = perP N T) (h : LeftIs N T ds ns) (h' : LeftIs N T' ds' ms) : ms.length = ns.length := by
  have nd : (ns.map fun u => (u + b) % perP N T).Nodup := by
    unfold List.Nodup
    rw [List.pairwise_map]
    refine List.Pairwise.imp_of_mem (fun {u v} hu hv (lt : u < v) e => ?_) h.1
    have ru := h.rng k hu
    have rv := h.rng k hv
    have e2 : ((u + b) % perP N T - b) % perP N T = ((v + b) % perP N T - b) % perP N T := by rw [e]
    rw [Int.emod_sub_emod, Int.emod_sub_emod, Int.add_sub_cancel, Int.add_sub_cancel, Int.emod_eq_of_lt ru.1 ru.2, Int.emod_eq_of_lt rv.1 rv.2] at e2
    omega
  have := same_len (h'.1.imp fun h => by omega) nd (mem_shf k k' sh hw ep h h')
  rwa [List.length_map] at this
/-- the counts are alike where every beginning is -/
theorem counts_shf {nss mss : List (List Int)} (k : TblOk N T) (k' : TblOk N T') (hl : ds'.length = ds.length) (sh : ∀ n, Shf N b T T' (ds.take n) (ds'.take n)) (hw : ∀ q ∈ ds, ∃ rs, (q.1, rs) ∈ T) (ep : perP N T' = perP N T) (h : LeftsAre N T ds ds.length nss) (h' : LeftsAre N T' ds' ds'.length mss) :
    (mss.map fun ns => (ns.length : Int)) = nss.map fun ns => (ns.length : Int) := by
  refine List.ext_getElem (by rw [List.length_map, List.length_map, h.1, h'.1, hl]) fun i h1 h2 => ?_
  rw [List.length_map] at h1 h2
  rw [List.getElem_map, List.getElem_map]
  have a := h.2 i _ (List.getElem?_eq_getElem h2)
  have b := h'.2 i _ (List.getElem?_eq_getElem h1)
  rw [len_shf k k' (sh i) (fun q hq => hw q (List.mem_of_mem_take hq)) ep a b]
theorem mov_take {n : Nat} : (movD N b ds).take n = movD N b (ds.take n) := by
  unfold movD
  rw [List.map_take]
theorem mov_len : (movD N b ds).length = ds.length := by
  unfold movD
  rw [List.length_map]
theorem mov_words (hw : ∀ q ∈ ds, ∃ rs, (q.1, rs) ∈ T) : ∀ q ∈ movD N b ds, ∃ rs, (q.1, rs) ∈ T := by
  intro q hq
  obtain ⟨u, hu, rfl⟩ := List.mem_map.mp hq
  exact hw u hu
theorem tur_words (hw : ∀ q ∈ ds, ∃ rs, (q.1, rs) ∈ T) : ∀ q ∈ ds, ∃ rs, (q.1, rs) ∈ turT N b T := by
  intro q hq
  obtain ⟨rs, hm⟩ := hw q hq
  exact ⟨turnR N b rs, mem_mapT.mpr ⟨rs, hm, rfl⟩⟩
theorem loose_words {P : Str → Prop} {s : Int} : ∀ {ds es : List (Str × Int)}, Loose s ds es → (∀ q ∈ ds, P q.1) → ∀ q ∈ es, P q.1
  | _, _, .nil, _, q, hq => by simp at hq
  | _, _, .cons hd tl, hw, q, hq => by
    rcases List.mem_cons.mp hq with rfl | hq
    · exact hd.1 ▸ hw _ (List.mem_cons_self ..)
    · exact loose_words tl (fun u hu => hw u (List.mem_cons_of_mem _ hu)) q hq
theorem loose_mod {s N : Int} (hN : s ∣ N) : ∀ {ds es : List (Str × Int)}, Loose s ds es → Loose s ds (es.map fun q => (q.1, q.2 % N))
  | _, _, .nil => .nil
  | d :: _, e :: _, .cons hd tl => by
    refine .cons ⟨hd.1, ?_⟩ (loose_mod hN tl)
    show s ∣ e.2 % N - d.2
    have h1 : s ∣ e.2 - e.2 % N := Int.dvd_trans hN ⟨e.2 / N, by have := Int.emod_add_mul_ediv e.2 N; omega⟩
    have := Int.dvd_sub hd.2 h1
    rwa [show e.2 - d.2 - (e.2 - e.2 % N) = e.2 % N - d.2 by omega] at this
theorem loose_take {s : Int} {ds es : List (Str × Int)} (n : Nat) (h : Loose s ds es) : Loose s (ds.take n) (es.take n) := paired_take n h
end
end J
namespace J
open PySem PySem.Spec PyProof.Rows L2
/-! ### the rests of a turning, lap by lap of its period -/
theorem rest_fix {N r : Int} {rs : Rws} (R : Rows N rs) (h : r ∈ rs.map Prod.snd) : IsLift N rs r r := by
  obtain ⟨⟨b, r'⟩, hq, rfl⟩ := List.mem_map.mp h
  show IsLift N rs r' r'
  have j := ((jump R hq).1.fix R)
  have d := Int.emod_add_mul_ediv (r' - b) N
  have s := j.shift ((r' - b) / N)
  rwa [show b + (r' - b) % N + N * ((r' - b) / N) = r' by omega] at s
theorem rest_rng {N r : Int} {rs : Rws} (R : Rows N rs) (h : r ∈ rs.map Prod.snd) : 0 ≤ r ∧ r < N := by
  obtain ⟨q, hq, rfl⟩ := List.mem_map.mp h
  have := R.bd q hq
  exact ⟨this.2.2.1, this.2.2.2⟩
theorem rests_nodup {N : Int} {rs : Rws} (R : Rows N rs) : (rs.map Prod.snd).Nodup := by
  have n2 := R.n2
  have key : ∀ (i : Nat) (b r : Int), rs[i]? = some (b, r) → ∃ e y : Int, (endsL N rs)[i]? = some e ∧ b ≤ y ∧ y < e ∧ y % N = r := by
    intro i b r h1
    obtain ⟨j, e, g1, g2⟩ := row_ends R (List.mem_of_getElem? h1)
    have hl : i < (endsL N rs).length := by
      rw [endsL_length R.l1]
      exact (List.getElem?_eq_some_iff.mp h1).1
    have h2 : (endsL N rs)[i]? = some (endsL N rs)[i] := by simp [hl]
    have st := R.st i b r _ h1 h2
    have m := Int.emod_nonneg (r - b) (show N ≠ 0 by omega)
    have bd := R.bd _ (List.mem_of_getElem? h1)
    refine ⟨_, b + (r - b) % N, h2, by omega, by omega, ?_⟩
    rw [Int.add_emod_emod, show b + (r - b) = r by omega]
    exact Int.emod_eq_of_lt bd.2.2.1 bd.2.2.2
  rw [List.nodup_iff_pairwise_ne] 
  rw [List.pairwise_iff_getElem]
  intro i j hi hj lt e
  rw [List.length_map] at hi hj
  obtain ⟨⟨b1, r1⟩, h1⟩ : ∃ q, rs[i]? = some q := ⟨_, List.getElem?_eq_getElem hi⟩
  obtain ⟨⟨b2, r2⟩, h2⟩ : ∃ q, rs[j]? = some q := ⟨_, List.getElem?_eq_getElem hj⟩
  have g1 := (List.getElem?_eq_some_iff.mp h1).2
  have g2 := (List.getElem?_eq_some_iff.mp h2).2
  rw [List.getElem_map, List.getElem_map, g1, g2] at e
  have e : r1 = r2 := e
  subst e
  obtain ⟨e1, y1, k1, k2, k3, k4⟩ := key i b1 r1 h1
  obtain ⟨e2, y2, m1, m2, m3, m4⟩ := key j b2 r1 h2
  obtain ⟨b0, r0, h0⟩ := R.first
  have a1 := R.end_le h0 h1 k1
  have a2 := R.end_le h0 h2 m1
  have le := ends_le_begin R lt k1 h2
  exact mod_ne (N := N) (a := y1) (b := y2) (by omega) (by omega) (k4.trans m4.symm)
/-- the rests below s, then the same a period on, and so on -/
def lapsR (s : Int) (zs : List Int) (m : Nat) : List Int := (List.range m).flatMap fun (i : Nat) => zs.map (· + (i : Int) * s)
theorem lapsR_succ {s : Int} {zs : List Int} {m : Nat} : lapsR s zs (m + 1) = lapsR s zs m ++ zs.map (· + (m : Int) * s) := by
  unfold lapsR
  rw [List.range_succ, List.flatMap_append]
  simp
theorem lapsR_mem {s v : Int} {zs : List Int} {m : Nat} : v ∈ lapsR s zs m ↔ ∃ i : Nat, i < m ∧ ∃ z ∈ zs, v = z + (i : Int) * s := by
  unfold lapsR
  rw [List.mem_flatMap]
  constructor
  · rintro ⟨i, hi, hv⟩
    obtain ⟨z, hz, rfl⟩ := List.mem_map.mp hv
    exact ⟨i, List.mem_range.mp hi, z, hz, rfl⟩
  · rintro ⟨i, hi, z, hz, rfl⟩
    exact ⟨i, List.mem_range.mpr hi, List.mem_map.mpr ⟨z, hz, rfl⟩⟩
theorem lapsR_len {s : Int} {zs : List Int} : ∀ {m : Nat}, (lapsR s zs m).length = zs.length * m
  | 0 => by simp [lapsR]
  | m + 1 => by rw [lapsR_succ, List.length_append, List.length_map, lapsR_len, Nat.mul_succ]
theorem lapsR_asc {s : Int} {zs : List Int} (s0 : 0 < s) (h : zs.Pairwise (· < ·)) (hz : ∀ z ∈ zs, 0 ≤ z ∧ z < s) : ∀ {m : Nat}, (lapsR s zs m).Pairwise (· < ·)
  | 0 => by simp [lapsR]
  | m + 1 => by
    rw [lapsR_succ, List.pairwise_append]
    refine ⟨lapsR_asc s0 h hz, ?_, ?_⟩
    · rw [List.pairwise_map]
      exact h.imp fun q => by omega
    · intro a ha b hb
      obtain ⟨i, hi, z, hz', rfl⟩ := lapsR_mem.mp ha
      obtain ⟨y, hy, rfl⟩ := List.mem_map.mp hb
      have r1 := hz z hz'
      have r2 := hz y hy
      have : ((i : Int) + 1) * s ≤ (m : Int) * s := Int.mul_le_mul_of_nonneg_right (by omega) (by omega)
      rw [Int.add_mul] at this
      omega
/-- the sorted rests -/
def RestsSorted (rs : Rws) (ys : List Int) : Prop := ys.Perm (rs.map Prod.snd) ∧ ys.Pairwise (· ≤ ·)
theorem RestsSorted.asc {N : Int} {rs : Rws} {ys : List Int} (R : Rows N rs) (h : RestsSorted rs ys) : ys.Pairwise (· < ·) := by
  have nd : ys.Nodup := h.1.nodup_iff.mpr (rests_nodup R)
  exact (h.2.and nd).imp fun ⟨a, b⟩ => by omega
theorem laps_all {N s : Int} {rs : Rws} {ys : List Int} {m : Nat} (R : Rows N rs) (s0 : 0 < s) (hN : N = m * s) (k : Keeps N rs s) (h : RestsSorted rs ys) : lapsR s (ys.filter fun z => decide (z < s)) m = ys := by
  have as := h.asc R
  have rng : ∀ z ∈ ys, 0 ≤ z ∧ z < N := fun z hz => rest_rng R (h.1.mem_iff.mp hz)
  have n2 := R.n2
  refine asc_eq (lapsR_asc s0 (as.filter _) fun z hz => ?_) as fun v => ?_
  · have := List.mem_filter.mp hz
    exact ⟨(rng z this.1).1, by simpa using this.2⟩
  · rw [lapsR_mem]
    constructor
    · rintro ⟨i, hi, z, hz, rfl⟩
      have hz := List.mem_filter.mp hz
      have zs : z < s := by simpa using hz.2
      have r := rng z hz.1
      have l := (k.mul R (i : Int)) _ _ (rest_fix R (h.1.mem_iff.mp hz.1))
      have q := IsLift.rest R l
      have le : ((i : Int) + 1) * s ≤ (m : Int) * s := Int.mul_le_mul_of_nonneg_right (by omega) (by omega)
      rw [Int.add_mul] at le
      have p0 : 0 ≤ (i : Int) * s := Int.mul_nonneg (by omega) (by omega)
      rw [Int.emod_eq_of_lt (by omega) (by omega)] at q
      exact h.1.mem_iff.mpr q
    · intro hv
      have r := rng v hv
      have d := Int.emod_add_mul_ediv v s
      have m0 := Int.emod_nonneg v (show s ≠ 0 by omega)
      have m1 := Int.emod_lt_of_pos v s0
      have q0 : 0 ≤ v / s := Int.ediv_nonneg r.1 (by omega)
      have q1 : v / s < m := by
        refine Int.ediv_lt_of_lt_mul s0 ?_
        omega
      have l := (k.mul R (-(v / s))) _ _ (rest_fix R (h.1.mem_iff.mp hv))
      rw [show v + -(v / s) * s = v % s by rw [Int.neg_mul, Int.mul_comm (v / s) s]; omega] at l
      have q := IsLift.rest R l
      have sq := Int.mul_nonneg (Int.le_of_lt s0) q0
      rw [Int.emod_eq_of_lt m0 (by omega)] at q
      refine ⟨(v / s).toNat, by omega, v % s, List.mem_filter.mpr ⟨h.1.mem_iff.mpr q, by simpa using m1⟩, ?_⟩
      rw [Int.toNat_of_nonneg q0, Int.mul_comm (v / s) s]
      omega
/-- how many rests lie below the period -/
theorem rests_many {N s : Int} {rs : Rws} {ys : List Int} {m : Nat} (R : Rows N rs) (s0 : 0 < s) (hN : N = m * s) (k : Keeps N rs s) (h : RestsSorted rs ys) : ((ys.filter fun z => decide (z < s)).length : Int) = (rs.length : Int) * s / N := by
  have n2 := R.n2
  have e := congrArg List.length (laps_all R s0 hN k h)
  rw [lapsR_len, h.1.length_eq, List.length_map] at e
  have e2 : (rs.length : Int) = ((ys.filter fun z => decide (z < s)).length : Int) * m := by rw [← e]; simp
  rw [e2, Int.mul_assoc, ← hN]
  exact (Int.mul_ediv_cancel _ (by omega)).symm
/-- settled by a turn that differs by a multiple of the period -/
theorem settle_turn {N s x c t y y2 : Int} {rs : Rws} (R : Rows N rs) (k : Keeps N rs s) (h : IsLift N rs (x - c) y) (h2 : IsLift N rs (x - (c + t * s)) y2) : y2 + (c + t * s) = y + c := by
  have l := (k.mul R (-t)) _ _ h
  rw [show x - c + -t * s = x - (c + t * s) by rw [Int.neg_mul]; omega] at l
  have := IsLift.unique R h2 l
  rw [Int.neg_mul] at this
  omega
theorem settle_move {N s x c t y y2 : Int} {rs : Rws} (R : Rows N rs) (k : Keeps N rs s) (h : IsLift N rs (x - c) y) (h2 : IsLift N rs (x + t * s - c) y2) : y2 + c = y + c + t * s := by
  have l := (k.mul R t) _ _ h
  rw [show x - c + t * s = x + t * s - c by omega] at l
  have := IsLift.unique R h2 l
  omega
end J
namespace JX
open PySem
theorem rc_dict_text {A : Around} {s : Shared} {d : Addr} {es : Array DictEntry} {ep : Nat} (b : Str) (u : Tok) (h : s.heap.get? d = some (dO es ep)) (hu : A.units < cLine) : SeqAt.RcAt A s (.ref d) (.str b u) false := fun prog w E Q q => by
  have ty : s.TypeIs (.ref d) "dict" := ⟨_, h, rfl⟩
  exact SeqAt.rc_eq_decline_or (k := false) ty (typeIs_str s b u) (by decide) F.sub_str_dict F.slot_dict_eq F.slot_str_eq_refl (fun _ hq => call_meets F.slot_dict_eq ty F.entry_dict_eq (F.args_dict_eq_2 ..) (dict_no_text b u d es ep) ⟨h, hq⟩)
    (fun _ hq => call_meets F.slot_str_eq_refl (typeIs_str s b u) F.entry_str_eq (F.args_str_eq_2 ..) (text_no_dict b u d es ep) ⟨h, hq⟩) (fun _ hq => wpAny_of_eq (rfl : isSame (.ref d) (.str b u) = pure false) hq) (.inr hu) q
end JX
namespace J
open PySem PySem.Spec PyProof.Rows L2
/-! ### a strange thing against a text -/
def rEqT (K : PySem.W.Frag) : R2 := fun x y H Q => rEq x y H Q ∨ (Box H x ∧ (∃ w, y = .str w) ∧ Q (.bl false) H)
theorem op_eqT {X : Cx} {k : Nat} (hr : Room k X.A) : OpR X (compareOp .Eq) (rEqT X.K) := by
  intro pins s σ H x y v u Q I rx ry h
  rcases h with h | ⟨⟨a, rfl, h⟩, ⟨w, rfl⟩, q⟩
  · exact op_eq pins s σ H x y v u Q I rx ry h
  cases (show v = Value.ref a from rx)
  obtain ⟨t, rfl⟩ : ∃ t, u = Value.str w t := ry
  have hu := hr.units0
  show wpAny _ _ (compareOp .Eq _ _) _ _ _
  unfold compareOp
  rcases h with ⟨xs, h⟩ | ⟨xs, h⟩ | ⟨ks, h⟩
  · obtain ⟨us, _, p, _⟩ := I.list (sqL h)
    exact SeqAt.RcAt.list_str w t p.isList hu _ _ _ _ ⟨.bl false, H, I, rfl, q⟩
  · obtain ⟨us, _, p, _⟩ := I.tuple (sqT h)
    exact SeqAt.RcAt.tuple_str w t p hu _ _ _ _ ⟨.bl false, H, I, rfl, q⟩
  · obtain ⟨_, y, va, ra, o, es, ep, ho, ⟨e1, e2, e3⟩, e4, _⟩ := (show ObjOk X.prog X.w H s.heap a (.dK ks) from I.hok a _ h)
    obtain ⟨c, dd, dat, sl⟩ := o
    cases e1
    cases e2
    cases e3
    cases e4
    exact JX.rc_dict_text w t ho hu _ _ _ _ ⟨.bl false, H, I, rfl, q⟩
/-- a strange thing is this text or not -/
theorem w_eqT {K : PySem.W.Frag} {H : Hp} {Q : VK} {v : V} {w : Str} (h : Odd H v) (q : Q (.bl (decide (v = .str w))) H) : rEqT K v (.str w) H Q := by
  have bx : ∀ a, v = .ref a → Box H v → rEqT K v (.str w) H Q := fun a e b => .inr ⟨b, ⟨w, rfl⟩, by
    rw [decide_eq_false (by rw [e]; exact fun z => nomatch z)] at q
    exact q⟩
  cases h with
  | non => exact .inl ⟨rfl, q⟩
  | bl b => exact .inl ⟨rfl, q⟩
  | str u h => exact .inl ⟨rfl, q⟩
  | lst a xs ha h => exact bx a rfl ⟨a, rfl, .inl ⟨_, ha⟩⟩
  | tup a xs ha h => exact bx a rfl ⟨a, rfl, .inr (.inl ⟨_, ha⟩)⟩
  | dic a ks ha h => exact bx a rfl ⟨a, rfl, .inr (.inr ⟨_, ha⟩)⟩
end J
namespace J
open PySem PySem.Spec PyProof.Rows L2
/-! ### o[i] = v by an own __setitem__ -/
def rSetO (C : Addr) (sp : Sp) : TSet := fun o i v H A => ∃ a dx fs, o = .ref a ∧ H a = some (.ins C dx fs) ∧ sp [.ref a, i, v] H (fun _ H' => A H') E0
theorem set_own {X : Cx} {C : Addr} {k : Nat} {qual : Str} {st : Stmt} {ps : List Str} {sp : Sp} (cm : CalM X.prog X.w X.K X.mg X.base k C "__setitem__" qual st ps sp) (hq : PySem.W.noSeq X.K C = true) (hr : Room k X.A) : PSet X (rSetO C sp) := by
  obtain ⟨f, fd, hm, hb, F, _⟩ := cm.ex
  intro pins s σ H o i v ov iv u Q I ro ri rv h
  obtain ⟨a, dx, fs, rfl, ha, q⟩ := h
  cases (show ov = Value.ref a from ro)
  obtain ⟨_, J, _⟩ := ins_get I.hok ha
  obtain ⟨od, J, _⟩ := J.look
  obtain ⟨m, hF⟩ := I.fr
  have rr : Vals [V.ref a, i, v] [Value.ref a, iv, u] := .cons rfl (.cons ri (.cons rv .nil))
  have len : ([Value.ref a, iv, u] ++ []).length = ps.length := by
    rw [← F.len _ _ _ _ q]
    rfl
  refine PySem.W.ksp_setItem hF I.ok.mod.kin J hq hm.at_ hm.fn ?_
  refine wpAny_call (codeAny_mono (F.run X.A X.stack s H ⟨[.ref a, iv, u], []⟩ ([.ref a, iv, u] ++ []) [.ref a, i, v] _ E0 hr I.env0 (hb _ [.ref a, iv, u] I.kIn len) rr q) fun r s' c => ?_)
  rcases r with e | fl
  · exact pass0 (X := X) pins σ H s e s' I c
  cases fl with
  | ret w =>
    obtain ⟨z, H', I', rz, q'⟩ := I.after c
    exact ⟨H', I', q'⟩
  | next => exact False.elim c
  | brk => exact False.elim c
  | cont => exact False.elim c
theorem w_setO {C : Addr} {sp : Sp} {o i v : V} {H : Hp} {A : Hp → Prop} (h : ∃ a dx fs, o = .ref a ∧ H a = some (.ins C dx fs) ∧ sp [.ref a, i, v] H (fun _ H' => A H') E0) : rSetO C sp o i v H A := h
/-- the same for one that may raise -/
def gSetX (C : Addr) (sp : Sp) (W : WX) (to ti : TE) : TG := fun v σ H N => to σ H fun o H1 => ti σ H1 fun i H2 => ∃ a dx fs, o = .ref a ∧ H2 a = some (.ins C dx fs) ∧ sp [.ref a, i, v] H2 (fun _ H' => N σ H') (WE W σ)
theorem w_gSetX {C : Addr} {sp : Sp} {W : WX} {to ti : TE} {v : V} {σ : L2.St} {H : Hp} {N : L2.St → Hp → Prop} (h : to σ H fun o H1 => ti σ H1 fun i H2 => ∃ a dx fs, o = .ref a ∧ H2 a = some (.ins C dx fs) ∧ sp [.ref a, i, v] H2 (fun _ H' => N σ H') (WE W σ)) : gSetX C sp W to ti v σ H N := h
theorem pg_setX {X : Cx} {C : Addr} {k : Nat} {qual : Str} {st : Stmt} {ps : List Str} {sp : Sp} {W : WX} {o i : Expr} {to ti : TE} {pos : Pos} (ho : PE X o to) (hi : PE X i ti) (cm : CalMX X.prog X.w X.K X.mg X.base k C "__setitem__" qual st ps sp) (tkx : Takes X W) (hq : PySem.W.noSeq X.K C = true) (hr : Room k X.A)
    (ha : ∀ v, assign (.Subscript o i pos) X.env v = (do
      let ov ← holding [v] (eval o X.env)
      let iv ← holding [v, ov] (eval i X.env)
      standAt pos
      holding [v, ov, iv] (setItem ov iv v)
      release [v, ov, iv] []) := by intro _; rfl) : PG X (.Subscript o i pos) (gSetX C sp W to ti) := by
  obtain ⟨f, fd, hm, hb, F, _⟩ := cm.ex
  refine ⟨fun pins s σ H v u Q I r h => ?_⟩
  rw [ha]
  refine wpAny_bind (wpAny_holding (thn (ho.run pins s σ H _ I h) fun ov s1 ⟨x, H1, I1, r1, q1⟩ => ?_))
  refine wpAny_bind (wpAny_holding (thn (hi.run pins s1 σ H1 _ I1 q1) fun iv s2 ⟨y, H2, I2, r2, q2⟩ => ?_))
  obtain ⟨a, dx, fs, rfl, ea, q⟩ := q2
  cases (show ov = Value.ref a from r1)
  obtain ⟨_, J, _⟩ := ins_get I2.hok ea
  obtain ⟨od, J, _⟩ := J.look
  obtain ⟨m, hF⟩ := I2.fr
  have rr : Vals [V.ref a, y, v] [Value.ref a, iv, u] := .cons rfl (.cons r2 (.cons r .nil))
  have len : ([Value.ref a, iv, u] ++ []).length = ps.length := by
    rw [← F.len _ _ _ _ q]
    rfl
  have key : wpAny (model X.prog X.w) X.A (call (.ref f) [.ref a, iv, u]) (EP X pins σ (fun _ H' => Q σ H')) X.xe s2 :=
    wpAny_call (codeAny_mono (F.run X.A X.stack s2 H2 ⟨[.ref a, iv, u], []⟩ ([.ref a, iv, u] ++ []) [.ref a, y, v] (fun _ H' => Q σ H') _ hr I2.env0 (hb _ [.ref a, iv, u] I2.kIn len) rr q) fun r t c => by
      have := cr_end I2 (passAt tkx σ) r t c
      rcases r with z | (u | _ | _ | _) <;> exact this)
  refine wpAny_bind (wpAny_standAt (wpAny_bind (wpAny_holding ?_)))
  refine PySem.W.ksp_setItem hF I2.ok.mod.kin J hq hm.at_ hm.fn (wpAny_mono key (fun w t z => ?_) fun _ _ z => z)
  obtain ⟨z, H', I', _, q'⟩ := z
  exact wpAny_release ⟨σ, H', I', q'⟩
end J
namespace J
open PySem PySem.Spec PyProof.Rows L2
/-! ### a part given a new turning, a table given new rows -/
abbrev nSq (w : Str) (rs : Rws) (sq : Option Rws) : Option Rws := if w = "squeeze" then some rs else sq
abbrev nPu (w : Str) (rs : Rws) (pu : Option Rws) : Option Rws := if w = "push" then some rs else pu
theorem put_map {R R' : Key × V → Str × Rws → Prop} {w : Str} {v : V} {rs : Rws} (hk : ∀ p q, R p q → p.1 = .inr q.1) (hR : ∀ p q, R p q → R' p q) (hn : R' (.inr w, v) (w, rs)) :
    ∀ {kvs : List (Key × V)} {L : List (Str × Rws)}, Paired R kvs L → Paired R' (kvs.map fun kv => if kv.1 = .inr w then (kv.1, v) else kv) (L.map fun q => if q.1 = w then (q.1, rs) else q)
  | _, _, .nil => .nil
  | (k, u) :: _, (a, r) :: _, .cons h t => by
    have e : k = .inr a := hk _ _ h
    subst e
    rw [List.map_cons, List.map_cons]
    refine .cons ?_ (put_map hk hR hn t)
    by_cases ea : a = w
    · subst ea
      simpa using hn
    · have : ¬ ((.inr a : Key) = .inr w) := fun z => ea (by cases z; rfl)
      simp only [this, ea, if_false]
      exact hR _ _ h
theorem tabL_put {w : Str} {rs : Rws} {sq pu : Option Rws} (h : ∃ r, (w, r) ∈ tabL sq pu) : tabL (nSq w rs sq) (nPu w rs pu) = (tabL sq pu).map fun q => if q.1 = w then (q.1, rs) else q := by
  obtain ⟨r, h⟩ := h
  rcases tab_word h with ⟨rfl, rfl⟩ | ⟨rfl, rfl⟩
  · unfold tabL nSq nPu
    cases sq <;> simp [ps_ne, sp_ne]
  · unfold tabL nSq nPu
    cases pu <;> simp [ps_ne, sp_ne]
theorem tabS_put {w : Str} {rs : Rws} {sq pu : Option Rws} (h : ∃ r, (w, r) ∈ tabL sq pu) : tabS (nSq w rs sq) (nPu w rs pu) = (tabS sq pu).map fun q => if q.1 = w then (q.1, rs) else q := by
  obtain ⟨r, h⟩ := h
  rcases tab_word h with ⟨rfl, rfl⟩ | ⟨rfl, rfl⟩
  · unfold tabS nSq nPu
    cases sq <;> simp [ps_ne, sp_ne]
  · unfold tabS nSq nPu
    cases pu <;> simp [ps_ne, sp_ne]
theorem any_of {R : Key × V → Str × Rws → Prop} (hk : ∀ p q, R p q → p.1 = .inr q.1) {w : Str} {r : Rws} : ∀ {kvs : List (Key × V)} {L : List (Str × Rws)}, Paired R kvs L → (w, r) ∈ L → (kvs.any fun kv => decide (kv.1 = .inr w)) = true
  | _, _, .nil, h => by cases h
  | (k, u) :: _, (a, r') :: _, .cons h t, hm => by
    have e : k = .inr a := hk _ _ h
    rw [List.any_cons, Bool.or_eq_true]
    rcases List.mem_cons.mp hm with z | z
    · cases z
      exact .inl (by simp [e])
    · exact .inr (any_of hk t z)
theorem putK_map {kvs : List (Key × V)} {k : Key} {v : V} (h : (kvs.any fun kv => decide (kv.1 = k)) = true) : putK kvs k v = kvs.map fun kv => if kv.1 = k then (kv.1, v) else kv := by
  unfold putK
  rw [if_pos h]
/-- a part whose dict of turnings stands at dd -/
def PartD (K : PySem.W.Frag) (H : Hp) (x dd : Addr) (N : Int) (sq pu : Option Rws) : Prop :=
  ∃ dx kvs, H x = some (.ins (CP K) dx (pfs N dd)) ∧ H dd = some (.dK kvs) ∧ Paired (Ent (CT K) H N) kvs (tabL sq pu)
section
variable {K : PySem.W.Frag} {H H' : Hp} {x dd d : Addr} {N : Int} {sq pu : Option Rws} {w : Str} {rs : Rws}
theorem PartD.at_ (h : PartD K H x dd N sq pu) : PartAt K H x N sq pu := by
  obtain ⟨dx, kvs, h1, h2, h3⟩ := h
  exact ⟨dx, dd, kvs, h1, h2, h3⟩
theorem PartAt.dict (h : PartAt K H x N sq pu) : ∃ dd, PartD K H x dd N sq pu := by
  obtain ⟨dx, d, kvs, h1, h2, h3⟩ := h
  exact ⟨d, dx, kvs, h1, h2, h3⟩
theorem PartD.same (e : Same H H') (h : PartD K H x dd N sq pu) : PartD K H' x dd N sq pu := by
  obtain ⟨dx, kvs, h1, h2, h3⟩ := h
  exact ⟨dx, kvs, e _ _ h1, e _ _ h2, Paired.mapP h3 fun p q ⟨e1, t, e2, h⟩ => ⟨e1, t, e2, h.same e⟩⟩
theorem tab_two (h : Paired (Ent (CT K) H N) kvs (tabL sq pu)) : kvs.length ≤ 2 := by
  rw [Paired.length h]
  unfold tabL
  cases sq <;> cases pu <;> exact leb rfl
theorem PartD.put {t : Addr} (h : PartD K H x dd N sq pu) (tA : TurnAt (CT K) H t N rs) (hm : ∃ r, (w, r) ∈ tabL sq pu) :
    ∃ kvs, H dd = some (.dK kvs) ∧ kvs.length ≤ 2 ∧ PartD K (upd H dd (.dK (putK kvs (.inr w) (.ref t)))) x dd N (nSq w rs sq) (nPu w rs pu) := by
  obtain ⟨dx, kvs, h1, h2, h3⟩ := h
  refine ⟨kvs, h2, tab_two h3, dx, _, ?_, upd_same, ?_⟩
  · rw [upd_ne (ne_of h1 h2 (by intro z; cases z))]
    exact h1
  · rw [tabL_put hm]
    obtain ⟨r, hm⟩ := hm
    rw [putK_map (any_of (fun _ _ r => r.1) h3 hm)]
    exact put_map (fun _ _ r => r.1) (fun p q ⟨e1, u, e2, hu⟩ => ⟨e1, u, e2, hu.lock h2⟩) ⟨rfl, t, rfl, tA.lock h2⟩ h3
/-- another dict may change -/
theorem PartD.but {kk : List (Key × V)} {o : HO} (h : PartD K H x dd N sq pu) (hd : H d = some (.dK kk)) (ne : dd ≠ d) : PartD K (upd H d o) x dd N sq pu := by
  obtain ⟨dx, kvs, h1, h2, h3⟩ := h
  refine ⟨dx, kvs, ?_, ?_, Paired.mapP h3 fun p q ⟨e1, u, e2, hu⟩ => ⟨e1, u, e2, hu.lock hd⟩⟩
  · rw [upd_ne (ne_of h1 hd (by intro z; cases z))]
    exact h1
  · rw [upd_ne ne]
    exact h2
theorem PlanAt.but {y : Addr} {M : Int} {ds : List (Str × Int)} {kk : List (Key × V)} {o : HO} (h : PlanAt K H y M ds) (hd : H d = some (.dK kk)) : PlanAt K (upd H d o) y M ds := by
  obtain ⟨dy, t, vs, h1, h2, h3, h4⟩ := h
  refine ⟨dy, t, vs, ?_, ?_, Paired.mapP h3 fun p q ⟨u, e2, hu⟩ => ⟨u, e2, ?_⟩, h4⟩
  · rw [upd_ne (ne_of h1 hd (by intro z; cases z))]
    exact h1
  · rw [upd_ne (ne_of h2 hd (by intro z; cases z))]
    exact h2
  · rw [upd_ne (ne_of hu hd (by intro z; cases z))]
    exact hu
theorem deeds_but {vs : List V} {ds : List (Str × Int)} {kk : List (Key × V)} {o : HO} (h : DeedsAt H vs ds) (hd : H d = some (.dK kk)) : DeedsAt (upd H d o) vs ds :=
  Paired.mapP h fun p q ⟨u, e2, hu⟩ => ⟨u, e2, by
    rw [upd_ne (ne_of hu hd (by intro z; cases z))]
    exact hu⟩
theorem pairs_but {vs : List V} {kk : List (Key × V)} {o : HO} (h : PairsAt H vs rs) (hd : H d = some (.dK kk)) : PairsAt (upd H d o) vs rs :=
  Paired.mapP h fun p q ⟨u, e2, hu⟩ => ⟨u, e2, by
    rw [upd_ne (ne_of hu hd (by intro z; cases z))]
    exact hu⟩
theorem TabAt.but {kk : List (Key × V)} {o : HO} (h : TabAt H d N sq pu) (hd : H dd = some (.dK kk)) (ne : d ≠ dd) : TabAt (upd H dd o) d N sq pu := by
  obtain ⟨kvs, h1, h2⟩ := h
  refine ⟨kvs, by rw [upd_ne ne]; exact h1, Paired.mapP h2 fun p q ⟨e1, t, xs, e2, e3, e4, e5⟩ => ⟨e1, t, xs, e2, ?_, pairs_but e4 hd, e5⟩⟩
  rw [upd_ne (ne_of e3 hd (by intro z; cases z))]
  exact e3
theorem TabAt.put {p : Addr} {xs : List V} (h : TabAt H d N sq pu) (hp : H p = some (.lst xs)) (hx : PairsAt H xs rs) (R : Rows N rs) (hm : ∃ r, (w, r) ∈ tabL sq pu) :
    ∃ kvs, H d = some (.dK kvs) ∧ kvs.length ≤ 2 ∧ TabAt (upd H d (.dK (putK kvs (.inr w) (.ref p)))) d N (nSq w rs sq) (nPu w rs pu) := by
  obtain ⟨kvs, h1, h2⟩ := h
  have l2 : kvs.length ≤ 2 := by
    rw [Paired.length h2]
    unfold tabS
    cases sq <;> cases pu <;> exact leb rfl
  refine ⟨kvs, h1, l2, _, upd_same, ?_⟩
  rw [tabS_put hm]
  obtain ⟨r, hm⟩ := hm
  have kp : ∀ b u, H b = some (.lst u) → upd H d (.dK (putK kvs (.inr w) (.ref p))) b = some (.lst u) := fun b u e => by
    rw [upd_ne (ne_of e h1 (by intro z; cases z))]
    exact e
  have e := putK_map (v := .ref p) (any_of (fun _ _ r => r.1) h2 (tab_mem.mpr hm))
  rw [e] at kp ⊢
  exact put_map (fun _ _ r => r.1) (fun a q ⟨e1, t, ys, e2, e3, e4, e5⟩ => ⟨e1, t, ys, e2, kp _ _ e3, pairs_but e4 h1, e5⟩) ⟨rfl, p, xs, rfl, kp _ _ hp, pairs_but hx h1, R⟩ h2
/-- the two dicts are not one -/
theorem tab_ne (h : TabAt H d N sq pu) (hP : PartD K H x dd N sq pu) (hne : sq ≠ none ∨ pu ≠ none) : d ≠ dd := by
  intro e
  subst e
  obtain ⟨kvs, h1, h2⟩ := h
  obtain ⟨dx, kvs2, g1, g2, g3⟩ := hP
  rw [h1] at g2
  cases g2
  have ex : ∃ w r, (w, r) ∈ tabL sq pu := by
    rcases hne with z | z
    · cases sq with
      | none => exact absurd rfl z
      | some r => exact ⟨"squeeze", r, by unfold tabL; simp⟩
    · cases pu with
      | none => exact absurd rfl z
      | some r => exact ⟨"push", r, by unfold tabL; simp⟩
  obtain ⟨w, r, hm⟩ := ex
  obtain ⟨p, xs, e1, e2, _⟩ := tab_get h2 hm
  obtain ⟨t, f1, f2⟩ := ent_get g3 hm
  rw [e1] at f1
  cases f1
  obtain ⟨dx', _, _, _, _, q, _⟩ := f2
  rw [e2] at q
  cases q
/-- what holds of a word's new rows -/
theorem even_put (hev : ∀ r, sq = some r → N % 2 = 0 ∧ Keeps N r (N / 2)) (h : w = "squeeze" → N % 2 = 0 ∧ Keeps N rs (N / 2)) : ∀ r, nSq w rs sq = some r → N % 2 = 0 ∧ Keeps N r (N / 2) := fun r e => by
  unfold nSq at e
  by_cases hw : w = "squeeze"
  · rw [if_pos hw] at e
    cases e
    exact h hw
  · rw [if_neg hw] at e
    exact hev r e
theorem ne_put (hne : sq ≠ none ∨ pu ≠ none) : nSq w rs sq ≠ none ∨ nPu w rs pu ≠ none := by
  unfold nSq nPu
  rcases hne with z | z
  · refine .inl ?_
    split
    · intro e; cases e
    · exact z
  · refine .inr ?_
    split
    · intro e; cases e
    · exact z
end
end J
namespace J
open PySem PySem.Spec PyProof.Rows L2
theorem pfs_put_in (N : Int) (d : Addr) : (pfs N d).lookup ("_put_in" : Str) = none := by kernel_rfl
end J
namespace J
open PySem PySem.Spec PyProof.Rows L2
theorem LawSt.but {H : Hp} {S d : Addr} {kk : List (Key × V)} {o : HO} (h : LawSt H S) (hd : H d = some (.dK kk)) : LawSt (upd H d o) S := by
  obtain ⟨L, ns, a, b⟩ := h
  refine ⟨L, ns, ?_, ?_⟩
  · rw [upd_ne (ne_of a hd (by intro z; cases z))]
    exact a
  · rw [upd_ne (ne_of b hd (by intro z; cases z))]
    exact b
theorem Odd.lists {H : Hp} (d : Addr) {kk : List (Key × V)} {o : HO} {v : V} (h : Odd H v) (hd : H d = some (.dK kk)) (nd : ∀ a, v = .ref a → a ≠ d) : Odd (upd H d o) v := by
  cases h with
  | non => exact .non
  | bl b => exact .bl b
  | str w h => exact .str w h
  | lst a xs ha h => exact .lst a xs (by rw [upd_ne (nd a rfl)]; exact ha) h
  | tup a xs ha h => exact .tup a xs (by rw [upd_ne (nd a rfl)]; exact ha) h
  | dic a ks ha h => exact .dic a ks (by rw [upd_ne (nd a rfl)]; exact ha) h
end J
namespace J
open PySem PySem.Spec PyProof.Rows L2
theorem put_mem {w : Str} {rs : Rws} {sq pu : Option Rws} (h : ∃ r, (w, r) ∈ tabL sq pu) : (w, rs) ∈ tabL (nSq w rs sq) (nPu w rs pu) := by
  rw [tabL_put h]
  obtain ⟨r, h⟩ := h
  exact List.mem_map.mpr ⟨_, h, by simp⟩
theorem odd_ne {R : Key × V → Str × Rws → Prop} (hk : ∀ p q, R p q → p.1 = .inr q.1) {H : Hp} {v : V} {d : Addr} {kvs : List (Key × V)} {sq pu : Option Rws} {L : List (Str × Rws)} (od : Odd H v) (hd : H d = some (.dK kvs)) (hp : Paired R kvs L) (hL : ∀ q, q ∈ L ↔ q ∈ tabL sq pu) (hne : sq ≠ none ∨ pu ≠ none) : ∀ a, v = .ref a → a ≠ d := by
  intro a e z
  subst e z
  cases od with
  | lst _ xs ha h => rw [hd] at ha; cases ha
  | tup _ xs ha h => rw [hd] at ha; cases ha
  | dic _ ks ha h =>
    rw [hd] at ha
    cases ha
    rcases h with rfl | ⟨p, rfl⟩
    · cases hp
      rcases hne with z | z
      · cases sq with
        | none => exact z rfl
        | some r => exact absurd ((hL ("squeeze", r)).mpr (by unfold tabL; simp)) (by simp)
      · cases pu with
        | none => exact z rfl
        | some r => exact absurd ((hL ("push", r)).mpr (by unfold tabL; simp)) (by simp)
    · cases hp with
      | @cons _ q _ qs h1 t1 =>
        have e := hk _ _ h1
        obtain ⟨w, r⟩ := q
        have ew : ("start" : Str) = w := by cases e; rfl
        have hm := (hL (w, r)).mp (List.mem_cons_self ..)
        rcases tab_word hm with ⟨z, _⟩ | ⟨z, _⟩
        · exact absurd (ew.trans z) (by decide +kernel)
        · exact absurd (ew.trans z) (by decide +kernel)
theorem IO.tab {H : Hp} {v : V} {d : Addr} {N : Int} {sq pu : Option Rws} {o : HO} (h : IO H v) (hT : TabAt H d N sq pu) (hne : sq ≠ none ∨ pu ≠ none) : IO (upd H d o) v := by
  rcases h with h | od
  · exact .inl h
  · obtain ⟨kvs, h1, h2⟩ := hT
    exact .inr (od.lists d h1 (odd_ne (fun _ _ r => r.1) od h1 h2 (fun q => tab_mem) hne))
theorem IO.part {K : PySem.W.Frag} {H : Hp} {v : V} {x d : Addr} {N : Int} {sq pu : Option Rws} {o : HO} (h : IO H v) (hP : PartD K H x d N sq pu) (hne : sq ≠ none ∨ pu ≠ none) : IO (upd H d o) v := by
  rcases h with h | od
  · exact .inl h
  · obtain ⟨dx, kvs, _, h1, h2⟩ := hP
    exact .inr (od.lists d h1 (odd_ne (fun _ _ r => r.1) od h1 h2 (fun q => Iff.rfl) hne))
theorem PartD.ins {K : PySem.W.Frag} {H : Hp} {x dd : Addr} {N : Int} {sq pu : Option Rws} (h : PartD K H x dd N sq pu) : ∃ dx, H x = some (.ins (CP K) dx (pfs N dd)) := by
  obtain ⟨dx, _, h, _⟩ := h
  exact ⟨dx, h⟩
end J
namespace J
open PySem PySem.Spec PyProof.Rows L2
/-! ### a def with defaults that may raise -/
structure CalDKX (P : Program) (w : World) (K : PySem.W.Frag) (mg : Str → Option Value) (base : Heap) (k : Nat) (x : Str) (st : Stmt) (ps : List Str) (dvs : List V) (sp : Sp) : Prop where
  ex : ∃ f fd, mg x = some (.ref f) ∧ FunD K x x (defArgs st) (defBody st) (defScope st) dvs [] f fd ∧ FnOk P w K mg base (L2.CX P w) k f fd ps sp
structure CalDX (P : Program) (w : World) (K : PySem.W.Frag) (mg : Str → Option Value) (base : Heap) (k : Nat) (x : Str) (ps : List Str) (dvs : List V) (sp : Sp) : Prop where
  ex : ∃ f fd ds, mg x = some (.ref f) ∧ PySem.W.keepIn K (.ref f) = true ∧ Vals dvs ds ∧ Binds K fd ps ds ∧ FnOk P w K mg base (L2.CX P w) k f fd ps sp
section
variable {P : Program} {w : World} {K : PySem.W.Frag} {mg : Str → Option Value} {base : Heap} {x : Str} {st : Stmt} {dvs : List V} {f : Addr} {N ps : List Str} {k j : Nat} {sp sp' : Sp}
theorem caldkx_mk (F : SrcD K x x st dvs f) (hm : mg x = some (.ref f)) (S : FnScope N ps (defScope st)) (len : ∀ vs H Q E, sp vs H Q E → vs.length = ps.length) (hbody : BodyX P w K mg base N x st f k sp) : CalDKX P w K mg base (k + 1) x st ps dvs sp := by
  obtain ⟨fd, F⟩ := F
  exact ⟨f, fd, hm, F, F.ok S len hbody⟩
theorem CalDK.toX (c : CalDK P w K mg base k x st ps dvs sp) : CalDKX P w K mg base k x st ps dvs sp := by
  obtain ⟨f, fd, hm, F, R⟩ := c.ex
  exact ⟨f, fd, hm, F, fnLift R⟩
theorem funD_eqD {x qual : Str} {ar : Arguments} {bd : List Stmt} {sc : Scope} {f : Addr} {fd fd' : FuncData} {dvs : List V} (F : FunD K x qual ar bd sc dvs [] f fd) (G : FunD K x qual ar bd sc dvs [] f fd') : fd = fd' := by
  obtain ⟨oc, od, dV, kV, doc, pm, an, cdv, ct, osl, e1, lk, _⟩ := F.ex
  obtain ⟨oc', od', dV', kV', doc', pm', an', cdv', ct', osl', e2, lk', _⟩ := G.ex
  have h := Option.some.inj (lk.symm.trans lk')
  have h2 : Obj.data _ = Obj.data _ := congrArg Obj.data h
  exact Data.func.inj h2
theorem CalDKX.or (c : CalDKX P w K mg base k x st ps dvs sp) (d : CalDKX P w K mg base j x st ps dvs sp') : CalDKX P w K mg base (max k j) x st ps dvs (spOr sp sp') := by
  obtain ⟨f, fd, a1, a5, a4⟩ := c.ex
  obtain ⟨f', fd', b1, b5, b4⟩ := d.ex
  rw [a1] at b1
  cases b1
  obtain rfl := funD_eqD a5 b5
  exact ⟨f, fd, a1, a5, fnOr (a4.mono (Nat.le_max_left ..)) (b4.mono (Nat.le_max_right ..))⟩
theorem CalDKX.pos (c : CalDKX P w K mg base k x st ps dvs sp) (n j : Nat) (hd : dvs ≠ []) (hn : n + (dvs.length - j) = ps.length) (hb : BindD x x st ps n j dvs.length) : CalDX P w K mg base k x ps (dvs.drop j) sp := by
  obtain ⟨f, fd, hm, F, R⟩ := c.ex
  obtain ⟨ds, rd, b⟩ := F.binds1 n j hd hn hb
  exact ⟨f, fd, ds, hm, F.kp, rd, b, R⟩
abbrev BindKF (x : Str) (st : Stmt) (ps ks : List Str) (n dn : Nat) (g : {α : Type} → List α → List α → List α → List α) : Prop := ∀ (T : Addr) (kV doc pm : Value) (an : Option Addr) (cdv ct : Value) (us its ws : List Value), us.length = n → its.length = dn → ws.length = ks.length →
  ∃ k, bindArgs (PySem.W.fnOf x x (defArgs st) (defBody st) (defScope st) (.ref T) kV doc pm an cdv ct) ⟨us, ks.zip ws⟩ = seqItems? (.ref T) >>= k ∧ k (some its.toArray) = pure (ps.zip (g us its ws))
end
def jCalDXS (sp : Sp) (W : WX) (dvs : List V) (t : TA) : TE := fun σ H Q => t σ H fun vs H1 => sp (vs ++ dvs) H1 Q (WE W σ)
section
variable {X : Cx} {k : Nat} {x : Str} {st : Stmt} {ps : List Str} {dvs : List V} {sp : Sp} {W : WX} {p pos : Pos} {e : Expr} {es : List Expr} {kws : List Keyword} {t tk : TA}
theorem pe_calDX (c : CalDX X.prog X.w X.K X.mg X.base k x ps dvs sp) (tkx : Takes X W) (hr : Room k X.A) (ha : PA X (e :: es) t) (hg : Gl X x := by rfl) (hdb : (x == ("__debug__" : Str)) = false := by decide)
    (he : starEach (e :: es) X.env = (false, eval e X.env) :: starEach es X.env := by rfl) (hpl : (backTo pos (starEach es X.env)).any (·.1) = false := by rfl) :
    PE X (.Call (.Name x p) (e :: es) [] pos) (jCalDXS sp W dvs t) := by
  obtain ⟨f, fd, ds, hm, hk, hd, hb, F⟩ := c.ex
  exact pe_callSD F hr hg hm hk hb hd (fun σ => passAt tkx σ) ha hdb he hpl
theorem pe_calDKX (c : CalDKX X.prog X.w X.K X.mg X.base k x st ps dvs sp) (tkx : Takes X W) (ks : List Str) (g : {α : Type} → List α → List α → List α → List α) (hd : dvs ≠ []) (hg : GOk3 g) (hb : BindKF x st ps ks 0 dvs.length g) (hr : Room k X.A) (hkw : PK X kws tk) (hgl : Gl X x := by rfl)
    (hall : (backToKw pos (keywordEach kws X.env)).all (·.1.isSome) = true := by rfl) (hks : (backToKw pos (keywordEach kws X.env)).filterMap (·.1) = ks := by rfl) (hdb : (x == ("__debug__" : Str)) = false := by decide)
    (hpl : ((backTo pos (starEach [] X.env)).any (·.1) || (backToKw pos (keywordEach kws X.env)).any (·.1.isNone)) = false := by rfl) :
    PE X (.Call (.Name x p) [] kws pos) (jCalKXS ks.length sp W (fun a => g [] dvs a) tk) := by
  obtain ⟨f, fd, hm, FD, F⟩ := c.ex
  obtain ⟨its, kb⟩ := FD.kbindsD (ps := ps) 0 ks g hd hg hb
  refine ⟨fun pins s σ H Q I h => ?_⟩
  refine wpAny_Call_Name_kw (ld_glob I hgl hm ?_ hdb)
  refine PySem.W.callWith_KW0 (h₀ := X.base) I.ok.mod.kin FD.kp hall ?_ hpl
  refine thn (hkw.run pos pins s σ H _ I h) fun ws s2 hh => ?_
  obtain ⟨zs, H2, I2, rz, l2, q2⟩ := hh
  refine ⟨I2.kIn, ?_⟩
  rw [hks]
  exact go_fnK (us := []) (vs := []) F hr kb (passAt tkx σ) I2 .nil rz ⟨rfl, l2⟩ q2
end
theorem w_calDX {sp : Sp} {W : WX} {dvs : List V} {t : TA} {σ : L2.St} {H : Hp} {Q : VK} (h : t σ H fun vs H1 => sp (vs ++ dvs) H1 Q (WE W σ)) : jCalDXS sp W dvs t σ H Q := h
end J
namespace J
open PySem PySem.Spec PyProof.Rows L2
/-! ### rows of standings, good or not -/
/-- no integer: None, a flag, a text, a tuple -/
inductive Bad (H : Hp) : V → Prop
  | non : Bad H .non
  | bl (b : Bool) : Bad H (.bl b)
  | str (w : Str) : Bad H (.str w)
  | tup (a : Addr) (xs : List V) (ha : H a = some (.tup xs)) : Bad H (.ref a)
theorem Bad.same {H H' : Hp} {v : V} (e : Same H H') (h : Bad H v) : Bad H' v := by
  cases h with
  | non => exact .non
  | bl b => exact .bl b
  | str w => exact .str w
  | tup a xs ha => exact .tup a xs (e _ _ ha)
theorem Bad.eq0 {H : Hp} {v : V} (h : Bad H v) : Eq0 v v := by
  cases h with
  | non => exact eq0_non
  | bl b => exact eq0_bl
  | str w => exact eq0_str
  | tup a xs ha => exact eq0_ref
theorem Bad.ty {K : PySem.W.Frag} {H : Hp} {v : V} (h : Bad H v) : ∃ t : String, TyX K H v (.type t) ∧ kitB t "int" = some (isBl v) ∧ kitB t "bool" = some (isBl v) := by
  have k1 : kitB "NoneType" "int" = some false ∧ kitB "NoneType" "bool" = some false := by decide +kernel
  have k2 : kitB "bool" "int" = some true ∧ kitB "bool" "bool" = some true := by decide +kernel
  have k3 : kitB "str" "int" = some false ∧ kitB "str" "bool" = some false := by decide +kernel
  have k5 : kitB "tuple" "int" = some false ∧ kitB "tuple" "bool" = some false := by decide +kernel
  cases h with
  | non => exact ⟨"NoneType", .base .non, k1.1, k1.2⟩
  | bl b => exact ⟨"bool", .base (.bl b), k2.1, k2.2⟩
  | str w => exact ⟨"str", .base (.str w), k3.1, k3.2⟩
  | tup a xs ha => exact ⟨"tuple", .base (.tup ha), k5.1, k5.2⟩
theorem Bad.wh {K : PySem.W.Frag} {H : Hp} {v : V} (h : Bad H v) : Wh K H v false := by
  obtain ⟨t, h1, h2, h3⟩ := h.ty (K := K)
  exact ⟨.type t, _, _, h1, kit_ty h2, kit_ty h3, by simp⟩
theorem Bad.isB {K : PySem.W.Frag} {H : Hp} {Q : VK} {v : V} (h : Bad H v) (q : Q (.bl (isBl v)) H) : rIsi K [v, .ty "bool"] H Q := by
  obtain ⟨t, h1, h2, h3⟩ := h.ty (K := K)
  exact w_isi (b := isBl v) q h1 (.ty _) (kit_ty h3)
/-- an item of a row -/
def ItS (H : Hp) (v : V) : Prop := (∃ i : Int, v = .int i) ∨ Bad H v
theorem ItS.same {H H' : Hp} {v : V} (e : Same H H') (h : ItS H v) : ItS H' v := h.imp_right (Bad.same e)
theorem ItS.eq0 {H : Hp} {v : V} (h : ItS H v) : Eq0 v v := by
  rcases h with ⟨i, rfl⟩ | h
  · exact eq0_int
  · exact h.eq0
theorem ItS.isB {K : PySem.W.Frag} {H : Hp} {Q : VK} {v : V} (h : ItS H v) (q : Q (.bl (isBl v)) H) : rIsi K [v, .ty "bool"] H Q := by
  rcases h with ⟨i, rfl⟩ | h
  · exact kd_int.isB q
  · exact h.isB q
/-- no row and not None: a flag, a text, an integer, a dict -/
inductive NoRow (H : Hp) : V → Prop
  | bl (b : Bool) : NoRow H (.bl b)
  | str (w : Str) : NoRow H (.str w)
  | int (i : Int) : NoRow H (.int i)
  | dic (a : Addr) (ha : H a = some (.dK [])) : NoRow H (.ref a)
theorem NoRow.same {H H' : Hp} {v : V} (e : Same H H') (h : NoRow H v) : NoRow H' v := by
  cases h with
  | bl b => exact .bl b
  | str w => exact .str w
  | int i => exact .int i
  | dic a ha => exact .dic a (e _ _ ha)
theorem NoRow.rw {K : PySem.W.Frag} {H : Hp} {v : V} (h : NoRow H v) : Rw K H v false := by
  have k1 : kitB "int" "list" = some false ∧ kitB "int" "tuple" = some false := by decide +kernel
  have k2 : kitB "bool" "list" = some false ∧ kitB "bool" "tuple" = some false := by decide +kernel
  have k3 : kitB "str" "list" = some false ∧ kitB "str" "tuple" = some false := by decide +kernel
  have k4 : kitB "dict" "list" = some false ∧ kitB "dict" "tuple" = some false := by decide +kernel
  have go : ∀ {t : String}, kitB t "list" = some false ∧ kitB t "tuple" = some false → PySem.W.kitAny K (.type t) [.type "list", .type "tuple"] = some false := fun h =>
    kitAny_cons (kit_ty h.1) (fun _ => kitAny_cons (kit_ty h.2) (fun _ => kitAny_nil) (fun z => nomatch z)) (fun z => nomatch z)
  cases h with
  | bl b => exact ⟨.type "bool", .base (.bl b), go k2⟩
  | str w => exact ⟨.type "str", .base (.str w), go k3⟩
  | int i => exact ⟨.type "int", .base (.int i), go k1⟩
  | dic a ha => exact ⟨.type "dict", .base (.dK ha), go k4⟩
theorem NoRow.nn {H : Hp} {v : V} (h : NoRow H v) : v ≠ .non := by
  cases h <;> exact fun z => nomatch z
/-! ### the standings behind a plan, from a row of them -/
def AftN (N : Int) (T : Tbl) (ds : List (Str × Int)) (ns ms : List Int) : Prop := ∀ v, v ∈ ms ↔ ∃ x ∈ ns, ∃ y, CarT N T ds x y ∧ v = y % N
section
variable {N : Int} {T : Tbl} {ds : List (Str × Int)} {d : Str × Int} {ns ms ls : List Int}
theorem aftn_none (h : ∀ x ∈ ns, 0 ≤ x ∧ x < N) : AftN N T [] ns ns := fun v => by
  constructor
  · intro hv
    have := h v hv
    exact ⟨v, hv, v, rfl, (Int.emod_eq_of_lt this.1 this.2).symm⟩
  · rintro ⟨x, hx, y, e, rfl⟩
    have e : x = y := e
    subst e
    have := h x hx
    rwa [Int.emod_eq_of_lt this.1 this.2]
theorem aftn_step (k : TblOk N T) (h : AftN N T ds ns ls) (v : Int) : (∃ a ∈ ls, ∃ z, StpT N T d a z ∧ v = z % N) ↔ ∃ x ∈ ns, ∃ y, CarT N T (ds ++ [d]) x y ∧ v = y % N := by
  have dv : ∀ c : Int, perP N T ∣ N * c := fun c => Int.dvd_mul_of_dvd_left k.dvdN
  constructor
  · rintro ⟨a, ha, z, hs, rfl⟩
    obtain ⟨x, hx, y, hc, rfl⟩ := (h a).mp ha
    have d1 := Int.emod_add_mul_ediv y N
    have s1 := hs.shift k (dv (y / N))
    rw [d1] at s1
    exact ⟨x, hx, _, CarT.snoc.mpr ⟨y, hc, s1⟩, by rw [Int.add_mul_emod_self_left]⟩
  · rintro ⟨x, hx, y, hc, rfl⟩
    obtain ⟨m, hm, hs⟩ := CarT.snoc.mp hc
    have d1 := Int.emod_add_mul_ediv m N
    have s1 := hs.shift k (dv (-(m / N)))
    have e : m + N * -(m / N) = m % N := by
      rw [Int.mul_neg]
      omega
    rw [e] at s1
    exact ⟨m % N, (h _).mpr ⟨x, hx, m, hm, rfl⟩, _, s1, by rw [Int.add_mul_emod_self_left]⟩
theorem aftn_len (n0 : 0 < N) (n360 : N ≤ 360) (h : AftN N T ds ns ms) (pw : ms.Nodup) : ms.length ≤ 360 := by
  have sub : ∀ k ∈ ms, k ∈ upto N := fun k hk => by
    obtain ⟨x, _, y, _, rfl⟩ := (h k).mp hk
    exact mem_upto.mpr ⟨Int.emod_nonneg _ (by omega), Int.emod_lt_of_pos _ n0⟩
  have := nodup_len pw sub
  rw [upto_length] at this
  omega
theorem aftn_ex (k : TblOk N T) (hw : ∀ q ∈ ds, ∃ rs, (q.1, rs) ∈ T) (ns : List Int) : ∃ ms : List Int, ms.Pairwise (· < ·) ∧ AftN N T ds ns ms := by
  have n2 := k.n2
  have hf : ∀ x : Int, ∃ y, CarT N T ds x y := fun x => CarT.ex k hw x
  obtain ⟨f, hf⟩ : ∃ f : Int → Int, ∀ x, CarT N T ds x (f x) := ⟨fun x => (hf x).choose, fun x => (hf x).choose_spec⟩
  refine ⟨(upto N).filter fun v => decide (v ∈ ns.map fun x => f x % N), upto_asc.filter _, fun v => ?_⟩
  rw [List.mem_filter, mem_upto, decide_eq_true_iff, List.mem_map]
  constructor
  · rintro ⟨_, x, hx, rfl⟩
    exact ⟨x, hx, f x, hf x, rfl⟩
  · rintro ⟨x, hx, y, hc, rfl⟩
    have e := CarT.unique k hc (hf x)
    subst e
    exact ⟨⟨Int.emod_nonneg _ (by omega), Int.emod_lt_of_pos _ (by omega)⟩, x, hx, rfl⟩
theorem aftn_one (h1 : ms.Pairwise (· < ·)) (h : AftN N T ds ns ms) (h2 : ls.Pairwise (· < ·)) (h' : AftN N T ds ns ls) : ms = ls := asc_eq h1 h2 fun v => (h v).trans (h' v).symm
end
/-! ### tuples compared, also by what a list in them holds -/
def rNeX (K : PySem.W.Frag) : R2 := fun x y H Q => rNeS K x y H Q ∨ rNeD K x y H Q
theorem op_neX {X : Cx} {k : Nat} (hr : Room k X.A) (hu : X.A.units + 64 < cLine) : OpR X (compareOp .NotEq) (rNeX X.K) := by
  intro pins s σ H x y v u Q I rx ry h
  rcases h with h | h
  · exact op_neS hr pins s σ H x y v u Q I rx ry h
  · exact op_neD hu pins s σ H x y v u Q I rx ry h
theorem w_neX1 {K : PySem.W.Frag} {H : Hp} {Q : VK} {x y : V} (h : Eq1 K H x y) (q : Q (.bl false) H) : rNeX K x y H Q := .inl (w_neS1 h q)
theorem w_neXL {K : PySem.W.Frag} {H : Hp} {Q : VK} {p p2 a b : Addr} {g : Str} {ms : List Int} (h : H p = some (.tup [.str g, .ref a])) (h2 : H p2 = some (.tup [.str g, .ref b])) (ha : H a = some (.lst (ms.map V.int))) (hb : H b = some (.lst (ms.map V.int))) (hg : PyData.strOk g = true) (q : Q (.bl false) H) : rNeX K (.ref p) (.ref p2) H Q := by
  have sh : SeqAt.shaped (.tuple [.str g, .list (ms.map PyData.int)]) = true := by
    unfold SeqAt.shaped
    have h1 := can_ints ms
    have h2 := depth_ints ms
    have e1 : PyData.canLay0 (.tuple [.str g, .list (ms.map PyData.int)]) = true := by simp [PyData.canLay0, PyData.canLayAll0, h1, hg]
    have e2 : PyData.depth (.tuple [.str g, .list (ms.map PyData.int)]) ≤ 64 := by simp [PyData.depth, PyData.depthAll]; omega
    rw [e1, decide_eq_true e2]; rfl
  refine .inr ⟨_, _, .tup (sqT h) (.cons (.str g) (.cons (.lst (sqL ha) (dp_ints ms)) .nil)), .tup (sqT h2) (.cons (.str g) (.cons (.lst (sqL hb) (dp_ints ms)) .nil)), sh, sh, ?_⟩
  have e : PyData.eqv (.tuple [.str g, .list (ms.map PyData.int)]) (.tuple [.str g, .list (ms.map PyData.int)]) = true := by
    have := eqv_ints ms ms
    rw [decide_eq_true rfl] at this
    simp [PyData.eqv, PyData.eqvAll, this]
  rw [e]
  exact q
end J
namespace J
open PySem PySem.Spec PyProof.Rows L2
/-! ### what may be handed as deeds -/
/-- an item, and whether it is a deed -/
inductive DI (H : Hp) : V → Bool → Prop
  | good (t : Addr) (w : Str) (i : Int) (ht : H t = some (.tup [.str w, .int i])) (hw : w = "push" ∨ w = "squeeze") : DI H (.ref t) true
  | non : DI H .non false
  | bl (b : Bool) : DI H (.bl b) false
  | str (w : Str) : DI H (.str w) false
  | int (i : Int) : DI H (.int i) false
  | lst (a : Addr) (xs : List V) (ha : H a = some (.lst xs)) : DI H (.ref a) false
  | dic (a : Addr) (ks : List (Key × V)) (ha : H a = some (.dK ks)) : DI H (.ref a) false
  | len (t : Addr) (xs : List V) (ht : H t = some (.tup xs)) (hl : xs.length ≠ 2) : DI H (.ref t) false
  | fstN (t : Addr) (y : V) (ht : H t = some (.tup [.non, y])) : DI H (.ref t) false
  | fstL (t a : Addr) (y : V) (xs : List V) (ht : H t = some (.tup [.ref a, y])) (ha : H a = some (.lst xs)) : DI H (.ref t) false
  | word (t : Addr) (w : Str) (y : V) (ht : H t = some (.tup [.str w, y])) (hw : ¬ (w = "push" ∨ w = "squeeze")) : DI H (.ref t) false
  | turn (t : Addr) (w : Str) (y : V) (ht : H t = some (.tup [.str w, y])) (hw : w = "push" ∨ w = "squeeze") (hy : y = .non ∨ (∃ b, y = .bl b) ∨ ∃ s, y = .str s) : DI H (.ref t) false
theorem DI.same {H H' : Hp} {v : V} {b : Bool} (e : Same H H') (h : DI H v b) : DI H' v b := by
  cases h with
  | good t w i ht hw => exact .good t w i (e _ _ ht) hw
  | non => exact .non
  | bl b => exact .bl b
  | str w => exact .str w
  | int i => exact .int i
  | lst a xs ha => exact .lst a xs (e _ _ ha)
  | dic a ks ha => exact .dic a ks (e _ _ ha)
  | len t xs ht hl => exact .len t xs (e _ _ ht) hl
  | fstN t y ht => exact .fstN t y (e _ _ ht)
  | fstL t a y xs ht ha => exact .fstL t a y xs (e _ _ ht) (e _ _ ha)
  | word t w y ht hw => exact .word t w y (e _ _ ht) hw
  | turn t w y ht hw hy => exact .turn t w y (e _ _ ht) hw hy
/-- a list that takes a new item is no tuple -/
theorem DI.butL {H : Hp} {v : V} {b : Bool} {q : Addr} {us xs' : List V} (h : DI H v b) (hq : H q = some (.lst us)) : DI (upd H q (.lst xs')) v b := by
  have kp : ∀ {t : Addr} {xs : List V}, H t = some (.tup xs) → upd H q (.lst xs') t = some (.tup xs) := fun ht => by
    rw [upd_ne (ne_of ht hq (by intro z; cases z))]; exact ht
  have kd : ∀ {t : Addr} {ks : List (Key × V)}, H t = some (.dK ks) → upd H q (.lst xs') t = some (.dK ks) := fun ht => by
    rw [upd_ne (ne_of ht hq (by intro z; cases z))]; exact ht
  have kl : ∀ {t : Addr} {xs : List V}, H t = some (.lst xs) → ∃ ys, upd H q (.lst xs') t = some (.lst ys) := fun {t xs} ht => by
    by_cases e : t = q
    · subst e; exact ⟨_, upd_same⟩
    · exact ⟨xs, by rw [upd_ne e]; exact ht⟩
  cases h with
  | good t w i ht hw => exact .good t w i (kp ht) hw
  | non => exact .non
  | bl b => exact .bl b
  | str w => exact .str w
  | int i => exact .int i
  | lst a xs ha => obtain ⟨ys, e⟩ := kl ha; exact .lst a ys e
  | dic a ks ha => exact .dic a ks (kd ha)
  | len t xs ht hl => exact .len t xs (kp ht) hl
  | fstN t y ht => exact .fstN t y (kp ht)
  | fstL t a y xs ht ha => obtain ⟨ys, e⟩ := kl ha; exact .fstL t a y ys (kp ht) e
  | word t w y ht hw => exact .word t w y (kp ht) hw
  | turn t w y ht hw hy => exact .turn t w y (kp ht) hw hy
theorem DI.eq0 {H : Hp} {v : V} {b : Bool} (h : DI H v b) : Eq0 v v := by
  cases h with
  | non => exact eq0_non
  | bl b => exact eq0_bl
  | str w => exact eq0_str
  | int i => exact eq0_int
  | _ => exact eq0_ref
/-- what is handed: no row, or a row of items -/
inductive HZ (H : Hp) : V → Prop
  | non : HZ H .non
  | bl (b : Bool) : HZ H (.bl b)
  | str (w : Str) : HZ H (.str w)
  | dic (a : Addr) (ks : List (Key × V)) (ha : H a = some (.dK ks)) (h : ks = [] ∨ ∃ p, ks = [(.inr "start", .ref p)]) : HZ H (.ref a)
  | row (p : Addr) (vs : List V) (h : Sq H p vs) (l : vs.length ≤ 402) (it : ∀ v ∈ vs, ∃ b, DI H v b) : HZ H (.ref p)
theorem HZ.same {H H' : Hp} {v : V} (e : Same H H') (h : HZ H v) : HZ H' v := by
  cases h with
  | non => exact .non
  | bl b => exact .bl b
  | str w => exact .str w
  | dic a ks ha h => exact .dic a ks (e _ _ ha) h
  | row p vs h l it => exact .row p vs (h.same e) l fun v hv => (it v hv).imp fun b k => k.same e
/-- no row -/
inductive NoR (H : Hp) : V → Prop
  | non : NoR H .non
  | bl (b : Bool) : NoR H (.bl b)
  | str (w : Str) : NoR H (.str w)
  | dic (a : Addr) (ks : List (Key × V)) (ha : H a = some (.dK ks)) : NoR H (.ref a)
theorem NoR.same {H H' : Hp} {v : V} (e : Same H H') (h : NoR H v) : NoR H' v := by
  cases h with
  | non => exact .non
  | bl b => exact .bl b
  | str w => exact .str w
  | dic a ks ha => exact .dic a ks (e _ _ ha)
theorem NoR.rw {K : PySem.W.Frag} {H : Hp} {v : V} (h : NoR H v) : Rw K H v false := by
  have k1 : kitB "NoneType" "list" = some false ∧ kitB "NoneType" "tuple" = some false := by decide +kernel
  have k2 : kitB "bool" "list" = some false ∧ kitB "bool" "tuple" = some false := by decide +kernel
  have k3 : kitB "str" "list" = some false ∧ kitB "str" "tuple" = some false := by decide +kernel
  have k4 : kitB "dict" "list" = some false ∧ kitB "dict" "tuple" = some false := by decide +kernel
  have go : ∀ {t : String}, kitB t "list" = some false ∧ kitB t "tuple" = some false → PySem.W.kitAny K (.type t) [.type "list", .type "tuple"] = some false := fun h =>
    kitAny_cons (kit_ty h.1) (fun _ => kitAny_cons (kit_ty h.2) (fun _ => kitAny_nil) (fun z => nomatch z)) (fun z => nomatch z)
  cases h with
  | non => exact ⟨.type "NoneType", .base .non, go k1⟩
  | bl b => exact ⟨.type "bool", .base (.bl b), go k2⟩
  | str w => exact ⟨.type "str", .base (.str w), go k3⟩
  | dic a ks ha => exact ⟨.type "dict", .base (.dK ha), go k4⟩
/-- a round that is none -/
def BadE (H : Hp) (v : V) : Prop := Bad H v ∧ ∀ a xs, v = .ref a → H a = some (.tup xs) → ∀ x ∈ xs, Eq0 x x
theorem BadE.same {H H' : Hp} {v : V} (e : Same H H') (h : BadE H v) : BadE H' v := by
  refine ⟨h.1.same e, fun a xs ev ha => ?_⟩
  obtain ⟨h1, h2⟩ := h
  cases h1 with
  | tup b ys hb =>
    cases ev
    have := e _ _ hb
    rw [ha] at this
    cases this
    exact h2 _ _ rfl hb
  | _ => cases ev
def BadN (H : Hp) (v : V) : Prop := BadE H v ∨ ∃ i, v = .int i ∧ ¬ (2 ≤ i ∧ i ≤ 360)
theorem BadN.same {H H' : Hp} {v : V} (e : Same H H') (h : BadN H v) : BadN H' v := h.imp_left (BadE.same e)
theorem BadN.its {H : Hp} {v : V} (h : BadN H v) : ItS H v := by
  rcases h with h | ⟨i, rfl, _⟩
  · exact .inr h.1
  · exact .inl ⟨i, rfl⟩
theorem eq_int {K : PySem.W.Frag} {H : Hp} {Q : VK} {i : Int} (q : Q (.bl true) H) : rEqS K (.int i) (.int i) H Q := w_eqS0 ⟨rfl, by rw [decide_eq_true rfl]; exact q⟩
theorem BadE.eq {K : PySem.W.Frag} {H : Hp} {Q : VK} {v : V} (h : BadE H v) (q : Q (.bl true) H) : rEqS K v v H Q := by
  obtain ⟨h1, h2⟩ := h
  cases h1 with
  | non => exact w_eqS0 ⟨rfl, by rw [decide_eq_true rfl]; exact q⟩
  | bl b => exact w_eqS0 ⟨rfl, by rw [decide_eq_true rfl]; exact q⟩
  | str w => exact w_eqS0 ⟨rfl, by rw [decide_eq_true rfl]; exact q⟩
  | tup b ys hb => exact w_eqS1 (.tup (sqT hb) (sqT hb) (paired0 (h2 b ys rfl hb))) q
theorem BadN.eq {K : PySem.W.Frag} {H : Hp} {Q : VK} {v : V} (h : BadN H v) (q : Q (.bl true) H) : rEqS K v v H Q := by
  rcases h with h | ⟨i, rfl, _⟩
  · exact h.eq q
  · exact eq_int q
/-- what making a plan comes to -/
inductive PlDue (H : Hp) (wd z : V) : Str → V ⊕ (Int × List (Str × Int)) → Prop
  | round (h : BadN H wd) : PlDue H wd z "round" (.inl wd)
  | nor {N : Int} (e : wd = .int N) (n2 : 2 ≤ N) (nx : N ≤ 360) (h : NoR H z) : PlDue H wd z "plan" (.inl (.int (-1)))
  | long {N : Int} {p : Addr} {vs : List V} (e : wd = .int N) (n2 : 2 ≤ N) (nx : N ≤ 360) (ez : z = .ref p) (h : Sq H p vs) (l : 400 < vs.length) : PlDue H wd z "plan" (.inl (.int (-1)))
  | at_ {N : Int} {p : Addr} {vs : List V} {n : Nat} {v : V} (e : wd = .int N) (n2 : 2 ≤ N) (nx : N ≤ 360) (ez : z = .ref p) (h : Sq H p vs) (l : vs.length ≤ 400) (hn : vs[n]? = some v) (bad : DI H v false) (good : ∀ j u, j < n → vs[j]? = some u → DI H u true) : PlDue H wd z "plan" (.inl (.int n))
  | good {N : Int} {p : Addr} {vs : List V} {ds : List (Str × Int)} (e : wd = .int N) (n2 : 2 ≤ N) (nx : N ≤ 360) (ez : z = .ref p) (h : Sq H p vs) (l : ds.length ≤ 400) (hd : DeedsAt H vs ds) (hw : ∀ q ∈ ds, q.1 = "push" ∨ q.1 = "squeeze") : PlDue H wd z "good" (.inr (N, ds))
theorem PlDue.same {H H' : Hp} {wd z : V} {g : Str} {r : V ⊕ (Int × List (Str × Int))} (s : Same H H') (h : PlDue H wd z g r) : PlDue H' wd z g r := by
  cases h with
  | round h => exact .round (h.same s)
  | nor e n2 nx h => exact .nor e n2 nx (h.same s)
  | long e n2 nx ez h l => exact .long e n2 nx ez (h.same s) l
  | at_ e n2 nx ez h l hn bad good => exact .at_ e n2 nx ez (h.same s) l hn (bad.same s) fun j u a b => (good j u a b).same s
  | good e n2 nx ez h l hd hw => exact .good e n2 nx ez (h.same s) l (deeds_same s hd) hw
theorem DI.deed {H : Hp} {v : V} (h : DI H v true) : ∃ t w i, v = .ref t ∧ H t = some (.tup [.str w, .int i]) ∧ (w = "push" ∨ w = "squeeze") := by
  cases h with
  | good t w i ht hw => exact ⟨t, w, i, rfl, ht, hw⟩
theorem first_di {H : Hp} : ∀ {vs : List V}, (∀ v ∈ vs, ∃ b, DI H v b) → (∃ ds : List (Str × Int), DeedsAt H vs ds ∧ ∀ q ∈ ds, q.1 = "push" ∨ q.1 = "squeeze") ∨ ∃ (n : Nat) (v : V), vs[n]? = some v ∧ DI H v false ∧ ∀ j u, j < n → vs[j]? = some u → DI H u true
  | [], _ => .inl ⟨[], .nil, fun x h => nomatch h⟩
  | v :: vs, h => by
    obtain ⟨b, hb⟩ := h v (List.mem_cons_self ..)
    cases b with
    | false => exact .inr ⟨0, v, rfl, hb, fun j u hj => absurd hj (Nat.not_lt_zero j)⟩
    | true =>
      rcases first_di (vs := vs) (fun u hu => h u (List.mem_cons_of_mem _ hu)) with ⟨ds, h1, h2⟩ | ⟨n, u, h1, h2, h3⟩
      · obtain ⟨t, w, i, rfl, ht, hw⟩ := hb.deed
        refine .inl ⟨(w, i) :: ds, .cons ⟨t, rfl, ht⟩ h1, fun q hq => ?_⟩
        rcases List.mem_cons.mp hq with rfl | hq
        · exact hw
        · exact h2 q hq
      · refine .inr ⟨n + 1, u, by simpa using h1, h2, fun j u' hj hq => ?_⟩
        cases j with
        | zero =>
          have : v = u' := by simpa using hq
          subst this
          exact hb
        | succ j => exact h3 j u' (by omega) (by simpa using hq)
theorem pl_due {H : Hp} {wd z : V} (hw : (∃ i, wd = .int i) ∨ BadE H wd) (hz : HZ H z) : ∃ g r, PlDue H wd z g r := by
  rcases hw with ⟨N, rfl⟩ | hb
  · by_cases hN : 2 ≤ N ∧ N ≤ 360
    · obtain ⟨n2, nx⟩ := hN
      cases hz with
      | non => exact ⟨_, _, .nor rfl n2 nx .non⟩
      | bl b => exact ⟨_, _, .nor rfl n2 nx (.bl b)⟩
      | str w => exact ⟨_, _, .nor rfl n2 nx (.str w)⟩
      | dic a ks ha h => exact ⟨_, _, .nor rfl n2 nx (.dic a ks ha)⟩
      | row p vs h l it =>
        by_cases hl : vs.length ≤ 400
        · rcases first_di it with ⟨ds, h1, h2⟩ | ⟨n, v, h1, h2, h3⟩
          · exact ⟨_, _, .good rfl n2 nx rfl h (by rw [← Paired.length h1]; exact hl) h1 h2⟩
          · exact ⟨_, _, .at_ rfl n2 nx rfl h hl h1 h2 h3⟩
        · exact ⟨_, _, .long rfl n2 nx rfl h (by omega)⟩
    · exact ⟨_, _, .round (.inr ⟨N, rfl, hN⟩)⟩
  · exact ⟨_, _, .round (.inl hb)⟩
theorem PlDue.eq {K : PySem.W.Frag} {H : Hp} {Q : VK} {wd z v : V} {g : Str} (h : PlDue H wd z g (.inl v)) (q : Q (.bl true) H) : rEqS K v v H Q := by
  cases h with
  | round h => exact h.eq q
  | nor _ _ _ _ => exact eq_int q
  | long _ _ _ _ _ _ => exact eq_int q
  | at_ _ _ _ _ _ _ _ _ _ => exact eq_int q
theorem PlDue.it {H : Hp} {wd z v : V} {g : Str} (h : PlDue H wd z g (.inl v)) : ItS H v ∧ g ≠ "good" := by
  cases h with
  | round h => exact ⟨h.its, by decide +kernel⟩
  | nor _ _ _ _ => exact ⟨.inl ⟨_, rfl⟩, by decide +kernel⟩
  | long _ _ _ _ _ _ => exact ⟨.inl ⟨_, rfl⟩, by decide +kernel⟩
  | at_ _ _ _ _ _ _ _ _ _ => exact ⟨.inl ⟨_, rfl⟩, by decide +kernel⟩
/-! ### strange things, deep ones, told a step further -/
inductive Deep2 (H : Hp) : V → Prop
  | lst (a : Addr) (xs : List V) (ha : H a = some (.lst xs)) (h : xs = [] ∨ ∃ b ys, xs = [.ref b] ∧ H b = some (.lst ys)) : Deep2 H (.ref a)
  | tup (a : Addr) (xs : List V) (ha : H a = some (.tup xs)) (h : xs = [] ∨ ∃ b ys, xs = [.ref b] ∧ H b = some (.tup ys) ∧ ys.length ≤ 1) : Deep2 H (.ref a)
  | dic (a : Addr) (ks : List (Key × V)) (ha : H a = some (.dK ks)) (h : ks = [] ∨ ∃ p, ks = [(.inr "start", .ref p)]) : Deep2 H (.ref a)
theorem Deep2.same {H H' : Hp} {v : V} (e : Same H H') (h : Deep2 H v) : Deep2 H' v := by
  cases h with
  | lst a xs ha h => exact .lst a xs (e _ _ ha) (h.imp_right fun ⟨b, ys, h1, h2⟩ => ⟨b, ys, h1, e _ _ h2⟩)
  | tup a xs ha h => exact .tup a xs (e _ _ ha) (h.imp_right fun ⟨b, ys, h1, h2, h3⟩ => ⟨b, ys, h1, e _ _ h2, h3⟩)
  | dic a ks ha h => exact .dic a ks (e _ _ ha) h
theorem Deep2.hz {H : Hp} {v : V} (h : Deep2 H v) : HZ H v := by
  cases h with
  | lst a xs ha h =>
    refine .row a xs (.inl ha) ?_ fun v hv => ?_
    · rcases h with rfl | ⟨b, ys, rfl, _⟩ <;> exact leb rfl
    · rcases h with rfl | ⟨b, ys, rfl, hb⟩
      · cases hv
      · rw [List.mem_singleton.mp hv]
        exact ⟨_, .lst b ys hb⟩
  | tup a xs ha h =>
    refine .row a xs (.inr ha) ?_ fun v hv => ?_
    · rcases h with rfl | ⟨b, ys, rfl, _⟩ <;> exact leb rfl
    · rcases h with rfl | ⟨b, ys, rfl, hb, hl⟩
      · cases hv
      · rw [List.mem_singleton.mp hv]
        exact ⟨_, .len b ys hb (by omega)⟩
  | dic a ks ha h => exact .dic a ks ha h
/-- what is handed and what is kept of it are equal -/
theorem HZ.ne {K : PySem.W.Frag} {H : Hp} {Q : VK} {z : V} (h : HZ H z) (q : Q (.bl false) H) : rNeS K z z H Q := by
  cases h with
  | non => exact w_neS0 ⟨rfl, by rw [decide_eq_true rfl]; exact q⟩
  | bl b => exact w_neS0 ⟨rfl, by rw [decide_eq_true rfl]; exact q⟩
  | str w => exact w_neS0 ⟨rfl, by rw [decide_eq_true rfl]; exact q⟩
  | dic a ks ha h => exact w_neS1 (.dic ha ha rfl fun p hp => by
      rcases h with rfl | ⟨r, rfl⟩
      · cases hp
      · simp at hp; subst hp; exact ⟨_, by simp [valV], eq0_ref⟩) q
  | row p vs h l it =>
    have e0 : Paired Eq0 vs vs := paired0 fun v hv => (it v hv).elim fun _ k => k.eq0
    rcases h with h | h
    · exact w_neS1 (.lst (sqL h) (sqL h) e0) q
    · exact w_neS1 (.tup (sqT h) (sqT h) e0) q
/-! ### tuples of deeds compared -/
def dd (q : Str × Int) : PyData := .tuple [.str q.1, .int q.2]
theorem dp_deeds {K : PySem.W.Frag} {H : Hp} : ∀ {vs : List V} {ds : List (Str × Int)}, DeedsAt H vs ds → DpAll K H vs (ds.map dd)
  | _, _, .nil => .nil
  | _, _, .cons ⟨t, e, h⟩ r => by
    subst e
    exact .cons (.tup (sqT h) (.cons (.str _) (.cons (.int _) .nil))) (dp_deeds r)
theorem eqv_deeds : ∀ (ds : List (Str × Int)), PyData.eqvAll (ds.map dd) (ds.map dd) = true
  | [] => by simp [PyData.eqvAll]
  | q :: ds => by
    show (PyData.eqv (dd q) (dd q) && PyData.eqvAll (ds.map dd) (ds.map dd)) = true
    rw [eqv_deeds ds]
    simp [dd, PyData.eqv, PyData.eqvAll]
theorem can_deeds : ∀ (ds : List (Str × Int)), (∀ q ∈ ds, q.1 = "push" ∨ q.1 = "squeeze") → PyData.canLayAll0 (ds.map dd) = true
  | [], _ => by simp [PyData.canLayAll0]
  | q :: ds, h => by
    show (PyData.canLay0 (dd q) && PyData.canLayAll0 (ds.map dd)) = true
    rw [can_deeds ds fun u hu => h u (List.mem_cons_of_mem _ hu)]
    have e : PyData.strOk q.1 = true := by
      rcases h q (List.mem_cons_self ..) with e | e <;> rw [e] <;> decide +kernel
    simp [dd, PyData.canLay0, PyData.canLayAll0, e]
theorem depth_deeds : ∀ (ds : List (Str × Int)), PyData.depthAll (ds.map dd) ≤ 4
  | [] => by simp [PyData.depthAll]
  | q :: ds => by
    show max (PyData.depth (dd q)) (PyData.depthAll (ds.map dd)) ≤ 4
    have := depth_deeds ds
    have e : PyData.depth (dd q) ≤ 4 := by simp [dd, PyData.depth, PyData.depthAll]
    omega
theorem w_eqDeeds {K : PySem.W.Frag} {H : Hp} {Q : VK} {p p2 : Addr} {us vs : List V} {ds : List (Str × Int)} (h : H p = some (.tup us)) (h2 : H p2 = some (.tup vs)) (d1 : DeedsAt H us ds) (d2 : DeedsAt H vs ds) (hw : ∀ q ∈ ds, q.1 = "push" ∨ q.1 = "squeeze") (q : Q (.bl true) H) : rEqD K (.ref p) (.ref p2) H Q := by
  have sh : SeqAt.shaped (.tuple (ds.map dd)) = true := by
    unfold SeqAt.shaped
    have h1 := can_deeds ds hw
    have h2 := depth_deeds ds
    have e1 : PyData.canLay0 (.tuple (ds.map dd)) = true := by simp [PyData.canLay0, h1]
    have e2 : PyData.depth (.tuple (ds.map dd)) ≤ 64 := by simp [PyData.depth]; omega
    rw [e1, decide_eq_true e2]; rfl
  refine ⟨_, _, .tup (sqT h) (dp_deeds d1), .tup (sqT h2) (dp_deeds d2), sh, sh, ?_⟩
  have e : PyData.eqv (.tuple (ds.map dd)) (.tuple (ds.map dd)) = true := by
    have := eqv_deeds ds
    simp [PyData.eqv, this]
  rw [e]
  exact q
/-! ### a list that changes is no part of a plan -/
theorem keepT {H : Hp} {a b : Addr} {xs us : List V} {o : HO} (h : H a = some (.tup xs)) (hb : H b = some (.lst us)) : upd H b o a = some (.tup xs) := by
  rw [upd_ne (ne_of h hb (by intro z; cases z))]
  exact h
theorem deedsL {H : Hp} {b : Addr} {us vs : List V} {ds : List (Str × Int)} {o : HO} (h : DeedsAt H vs ds) (hb : H b = some (.lst us)) : DeedsAt (upd H b o) vs ds :=
  Paired.mapP h fun p q ⟨u, e2, hu⟩ => ⟨u, e2, keepT hu hb⟩
theorem PlanAt.keepL {K : PySem.W.Frag} {H : Hp} {y b : Addr} {M : Int} {ds : List (Str × Int)} {us : List V} {o : HO} (h : PlanAt K H y M ds) (hb : H b = some (.lst us)) : PlanAt K (upd H b o) y M ds := by
  obtain ⟨dy, t, vs, h1, h2, h3, h4⟩ := h
  refine ⟨dy, t, vs, ?_, keepT h2 hb, deedsL h3 hb, h4⟩
  rw [upd_ne (ne_of h1 hb (by intro z; cases z))]
  exact h1
theorem same_ins {H : Hp} {x dx : Addr} {o1 o2 : HO} (nx : H x = none) (nd : H dx = none) : Same H (upd (upd H dx o1) x o2) := fun b o e => by
  rw [upd_ne (ne_of_none e nx), upd_ne (ne_of_none e nd)]
  exact e
end J
namespace J
open PySem PySem.Spec PyProof.Rows L2
/-! ### what may be handed as rows of a turning -/
/-- what a place of a pair may be -/
inductive PK (H : Hp) : V → Prop
  | int (i : Int) : PK H (.int i)
  | non : PK H .non
  | bl (b : Bool) : PK H (.bl b)
  | str (w : Str) : PK H (.str w)
  | lst (a : Addr) (xs : List V) (ha : H a = some (.lst xs)) : PK H (.ref a)
  | tup (a : Addr) (xs : List V) (ha : H a = some (.tup xs)) : PK H (.ref a)
  | dic (a : Addr) (ks : List (Key × V)) (ha : H a = some (.dK ks)) : PK H (.ref a)
theorem PK.same {H H' : Hp} {v : V} (e : Same H H') (h : PK H v) : PK H' v := by
  cases h with
  | int i => exact .int i
  | non => exact .non
  | bl b => exact .bl b
  | str w => exact .str w
  | lst a xs ha => exact .lst a xs (e _ _ ha)
  | tup a xs ha => exact .tup a xs (e _ _ ha)
  | dic a ks ha => exact .dic a ks (e _ _ ha)
/-- an integer, or none -/
theorem PK.wh {K : PySem.W.Frag} {H : Hp} {v : V} (h : PK H v) : (∃ i, v = .int i) ∨ (Wh K H v false ∧ ∀ i, v ≠ .int i) := by
  cases h with
  | int i => exact .inl ⟨i, rfl⟩
  | non => exact .inr ⟨Bad.non.wh, fun i z => nomatch z⟩
  | bl b => exact .inr ⟨(Bad.bl b).wh, fun i z => nomatch z⟩
  | str w => exact .inr ⟨(Bad.str w).wh, fun i z => nomatch z⟩
  | lst a xs ha =>
    have k : kitB "list" "int" = some false ∧ kitB "list" "bool" = some false := by decide +kernel
    exact .inr ⟨⟨.type "list", _, _, .base (.lst ha), kit_ty k.1, kit_ty k.2, by simp⟩, fun i z => nomatch z⟩
  | tup a xs ha => exact .inr ⟨(Bad.tup a xs ha).wh, fun i z => nomatch z⟩
  | dic a ks ha =>
    have k : kitB "dict" "int" = some false ∧ kitB "dict" "bool" = some false := by decide +kernel
    exact .inr ⟨⟨.type "dict", _, _, .base (.dK ha), kit_ty k.1, kit_ty k.2, by simp⟩, fun i z => nomatch z⟩
/-- an item of rows -/
inductive PI (H : Hp) : V → Prop
  | non : PI H .non
  | bl (b : Bool) : PI H (.bl b)
  | str (w : Str) : PI H (.str w)
  | int (i : Int) : PI H (.int i)
  | lst (a : Addr) (xs : List V) (ha : H a = some (.lst xs)) : PI H (.ref a)
  | dic (a : Addr) (ks : List (Key × V)) (ha : H a = some (.dK ks)) : PI H (.ref a)
  | tup (t : Addr) (xs : List V) (ht : H t = some (.tup xs)) (hx : ∀ x ∈ xs, PK H x) : PI H (.ref t)
theorem PI.same {H H' : Hp} {v : V} (e : Same H H') (h : PI H v) : PI H' v := by
  cases h with
  | non => exact .non
  | bl b => exact .bl b
  | str w => exact .str w
  | int i => exact .int i
  | lst a xs ha => exact .lst a xs (e _ _ ha)
  | dic a ks ha => exact .dic a ks (e _ _ ha)
  | tup t xs ht hx => exact .tup t xs (e _ _ ht) fun x m => (hx x m).same e
/-- a pair of places of the round N -/
def IsP (H : Hp) (N : Int) (v : V) (b r : Int) : Prop := ∃ t, v = .ref t ∧ H t = some (.tup [.int b, .int r]) ∧ 0 ≤ b ∧ b < N ∧ 0 ≤ r ∧ r < N
theorem IsP.same {H H' : Hp} {N : Int} {v : V} {b r : Int} (e : Same H H') (h : IsP H N v b r) : IsP H' N v b r := by
  obtain ⟨t, h1, h2, h3⟩ := h
  exact ⟨t, h1, e _ _ h2, h3⟩
/-- an item that is no pair, as the code finds it out -/
inductive NoP (H : Hp) (N : Int) : V → Prop
  | ty {v : V} {t : String} (h : ∀ K : PySem.W.Frag, TyX K H v (.type t)) (k : kitB t "tuple" = some false) : NoP H N v
  | len (t : Addr) (xs : List V) (ht : H t = some (.tup xs)) (hl : xs.length ≠ 2) : NoP H N (.ref t)
  | fst (t : Addr) (x y : V) (ht : H t = some (.tup [x, y])) (hx : PK H x) (no : ∀ i, x = .int i → ¬ (0 ≤ i ∧ i < N)) : NoP H N (.ref t)
  | snd (t : Addr) (b : Int) (y : V) (ht : H t = some (.tup [.int b, y])) (hb : 0 ≤ b ∧ b < N) (hy : PK H y) (no : ∀ i, y = .int i → ¬ (0 ≤ i ∧ i < N)) : NoP H N (.ref t)
theorem NoP.same {H H' : Hp} {N : Int} {v : V} (e : Same H H') (h : NoP H N v) : NoP H' N v := by
  cases h with
  | ty h k => exact .ty (fun K => tyX_same e (h K)) k
  | len t xs ht hl => exact .len t xs (e _ _ ht) hl
  | fst t x y ht hx no => exact .fst t x y (e _ _ ht) (hx.same e) no
  | snd t b y ht hb hy no => exact .snd t b y (e _ _ ht) hb (hy.same e) no
theorem PI.is {H : Hp} {v : V} (h : PI H v) (N : Int) : (∃ b r, IsP H N v b r) ∨ NoP H N v := by
  have k1 : kitB "NoneType" "tuple" = some false ∧ kitB "bool" "tuple" = some false ∧ kitB "str" "tuple" = some false ∧ kitB "int" "tuple" = some false ∧ kitB "list" "tuple" = some false ∧ kitB "dict" "tuple" = some false := by decide +kernel
  cases h with
  | non => exact .inr (.ty (fun K => .base .non) k1.1)
  | bl b => exact .inr (.ty (fun K => .base (.bl b)) k1.2.1)
  | str w => exact .inr (.ty (fun K => .base (.str w)) k1.2.2.1)
  | int i => exact .inr (.ty (fun K => .base (.int i)) k1.2.2.2.1)
  | lst a xs ha => exact .inr (.ty (fun K => .base (.lst ha)) k1.2.2.2.2.1)
  | dic a ks ha => exact .inr (.ty (fun K => .base (.dK ha)) k1.2.2.2.2.2)
  | tup t xs ht hx =>
    by_cases hl : xs.length = 2
    · match xs, hl with
      | [x, y], _ =>
        have px := hx x (by simp)
        have py := hx y (by simp)
        by_cases h1 : ∃ b, x = .int b ∧ 0 ≤ b ∧ b < N
        · obtain ⟨b, rfl, b0, b1⟩ := h1
          by_cases h2 : ∃ r, y = .int r ∧ 0 ≤ r ∧ r < N
          · obtain ⟨r, rfl, r0, r1⟩ := h2
            exact .inl ⟨b, r, t, rfl, ht, b0, b1, r0, r1⟩
          · exact .inr (.snd t b y ht ⟨b0, b1⟩ py fun i e h => h2 ⟨i, e, h⟩)
        · exact .inr (.fst t x y ht px fun i e h => h1 ⟨i, e, h⟩)
    · exact .inr (.len t xs ht hl)
/-- the begin before the i-th -/
def bef (bs : List (Int × Int)) : Nat → Int
  | 0 => -1
  | i + 1 => match bs[i]? with
    | some q => q.1
    | none => -1
theorem bef_app {bs : List (Int × Int)} {q : Int × Int} {i : Nat} (h : i ≤ bs.length) : bef (bs ++ [q]) i = bef bs i := by
  cases i with
  | zero => rfl
  | succ i =>
    have e : (bs ++ [q])[i]? = bs[i]? := List.getElem?_append_left (by omega)
    show (match (bs ++ [q])[i]? with | some q => q.1 | none => -1) = (match bs[i]? with | some q => q.1 | none => -1)
    rw [e]
theorem bef_last {bs : List (Int × Int)} {q : Int × Int} : bef (bs ++ [q]) (bs.length + 1) = q.1 := by
  unfold bef
  simp
/-- the first items are pairs that rise -/
def RowsPre (H : Hp) (N : Int) (us : List V) (bs : List (Int × Int)) (n : Nat) : Prop := bs.length = n ∧ ∀ j b r, bs[j]? = some (b, r) → ∃ u, us[j]? = some u ∧ IsP H N u b r ∧ bef bs j < b
/-- and the next one is none, or does not rise -/
def RowsBad (H : Hp) (N : Int) (bs : List (Int × Int)) (n : Nat) (v : V) : Prop := NoP H N v ∨ ∃ b r, IsP H N v b r ∧ b ≤ bef bs n
theorem RowsPre.same {H H' : Hp} {N : Int} {us : List V} {bs : List (Int × Int)} {n : Nat} (e : Same H H') (h : RowsPre H N us bs n) : RowsPre H' N us bs n :=
  ⟨h.1, fun j b r hj => by
    obtain ⟨u, h1, h2, h3⟩ := h.2 j b r hj
    exact ⟨u, h1, h2.same e, h3⟩⟩
theorem RowsBad.same {H H' : Hp} {N : Int} {bs : List (Int × Int)} {n : Nat} {v : V} (e : Same H H') (h : RowsBad H N bs n v) : RowsBad H' N bs n v :=
  h.imp (NoP.same e) fun ⟨b, r, h1, h2⟩ => ⟨b, r, h1.same e, h2⟩
theorem rows_scan {H : Hp} {N : Int} {us : List V} (h : ∀ v ∈ us, PI H v) : ∀ k, k ≤ us.length → (∃ bs, RowsPre H N us bs k) ∨ ∃ n bs v, n < k ∧ us[n]? = some v ∧ RowsPre H N us bs n ∧ RowsBad H N bs n v
  | 0, _ => .inl ⟨[], rfl, fun j b r hj => by simp at hj⟩
  | k + 1, hk => by
    rcases rows_scan h k (by omega) with ⟨bs, hb⟩ | ⟨n, bs, v, h1, h2, h3, h4⟩
    · have hu : us[k]? = some us[k] := List.getElem?_eq_getElem (by omega)
      rcases (h _ (List.mem_of_getElem? hu)).is N with ⟨b, r, hp⟩ | hn
      · by_cases hlt : bef bs k < b
        · refine .inl ⟨bs ++ [(b, r)], by rw [List.length_append, hb.1]; rfl, fun j b' r' hj => ?_⟩
          rcases Nat.lt_or_ge j bs.length with lt | ge
          · rw [List.getElem?_append_left lt] at hj
            obtain ⟨u, g1, g2, g3⟩ := hb.2 j b' r' hj
            exact ⟨u, g1, g2, by rw [bef_app (by omega)]; exact g3⟩
          · have lj := (List.getElem?_eq_some_iff.mp hj).1
            rw [List.length_append] at lj
            simp at lj
            have ej : j = bs.length := by omega
            subst ej
            simp at hj
            obtain ⟨rfl, rfl⟩ := hj
            rw [bef_app (Nat.le_refl _), hb.1]
            exact ⟨_, hu, hp, hlt⟩
        · exact .inr ⟨k, bs, _, by omega, hu, hb, .inr ⟨b, r, hp, by omega⟩⟩
      · exact .inr ⟨k, bs, _, by omega, hu, hb, .inl hn⟩
    · exact .inr ⟨n, bs, v, by omega, h2, h3, h4⟩
end J
namespace J
open PySem PySem.Spec PyProof.Rows L2
/-! ### a thing of any kind against an integer -/
def rEqI (K : PySem.W.Frag) : R2 := fun x y H Q => rEq x y H Q ∨ (∃ b i, x = .bl b ∧ y = .int i ∧ Q (.bl ((if b then 1 else 0) == i)) H) ∨ (∃ a xs i, x = .ref a ∧ (H a = some (.lst xs) ∨ H a = some (.tup xs)) ∧ y = .int i ∧ Q (.bl false) H)
theorem op_eqI {X : Cx} {k : Nat} (hr : Room k X.A) : OpR X (compareOp .Eq) (rEqI X.K) := by
  intro pins s σ H x y v u Q I rx ry h
  rcases h with h | ⟨b, i, rfl, rfl, q⟩ | ⟨a, xs, i, rfl, h, rfl, q⟩
  · exact op_eq pins s σ H x y v u Q I rx ry h
  · cases (show v = Value.bool b from rx)
    obtain ⟨t, rfl⟩ : ∃ t, u = Value.int i t := ry
    show wpAny _ _ (compareOp .Eq _ _) _ _ _
    unfold compareOp
    exact SeqAt.RcAt.bool_int b i t _ _ _ _ ⟨.bl _, H, I, rfl, q⟩
  · cases (show v = Value.ref a from rx)
    obtain ⟨t, rfl⟩ : ∃ t, u = Value.int i t := ry
    have hu := hr.units0
    show wpAny _ _ (compareOp .Eq _ _) _ _ _
    unfold compareOp
    rcases h with h | h
    · obtain ⟨us, _, p, _⟩ := I.list (sqL h)
      exact SeqAt.RcAt.list_int i t p.isList hu _ _ _ _ ⟨.bl false, H, I, rfl, q⟩
    · obtain ⟨us, _, p, _⟩ := I.tuple (sqT h)
      exact SeqAt.RcAt.tuple_int i t p hu _ _ _ _ ⟨.bl false, H, I, rfl, q⟩
/-! ### xs.insert(i, y) -/
def rInsert : V → List V → Hp → VK → Prop := fun x vs H Q => ∃ (l : Addr) (xs : List V) (i : Int) (y : V), x = .ref l ∧ vs = [.int i, y] ∧ H l = some (.lst xs) ∧ xs.length < sizeLine ∧ 0 ≤ i ∧ i < 2 ^ 63 ∧ Q .non (upd H l (.lst (xs.take i.toNat ++ [y] ++ xs.drop i.toNat)))
theorem mt_ins {X : Cx} : MtR X "list.insert" rInsert := mt_insert
theorem w_ins {l : Addr} {xs : List V} {i : Int} {y : V} {H : Hp} {Q : VK} (h : H l = some (.lst xs)) (hz : xs.length < sizeLine) (h0 : 0 ≤ i) (h1 : i < 2 ^ 63) (q : Q .non (upd H l (.lst (xs.take i.toNat ++ [y] ++ xs.drop i.toNat)))) : rInsert (.ref l) [.int i, y] H Q := ⟨l, xs, i, y, rfl, rfl, h, hz, h0, h1, q⟩
/-! ### rounds that are none -/
def BadR (H : Hp) (v : V) : Prop := BadN H v ∨ ∃ a, v = .ref a ∧ H a = some (.lst [.int 12])
theorem BadR.same {H H' : Hp} {v : V} (e : Same H H') (h : BadR H v) : BadR H' v := h.imp (BadN.same e) fun ⟨a, h1, h2⟩ => ⟨a, h1, e _ _ h2⟩
theorem wh_lst {K : PySem.W.Frag} {H : Hp} {a : Addr} {xs : List V} (h : H a = some (.lst xs)) : Wh K H (.ref a) false := by
  have k : kitB "list" "int" = some false ∧ kitB "list" "bool" = some false := by decide +kernel
  exact ⟨.type "list", _, _, .base (.lst h), kit_ty k.1, kit_ty k.2, by simp⟩
theorem BadR.ne {K : PySem.W.Frag} {H : Hp} {Q : VK} {v : V} (h : BadR H v) (q : Q (.bl false) H) : rNeS K v v H Q := by
  rcases h with (⟨h1, h2⟩ | ⟨i, rfl, _⟩) | ⟨a, rfl, ha⟩
  · cases h1 with
    | non => exact w_neS0 ⟨rfl, by rw [decide_eq_true rfl]; exact q⟩
    | bl b => exact w_neS0 ⟨rfl, by rw [decide_eq_true rfl]; exact q⟩
    | str w => exact w_neS0 ⟨rfl, by rw [decide_eq_true rfl]; exact q⟩
    | tup b ys hb => exact w_neS1 (.tup (sqT hb) (sqT hb) (paired0 (h2 b ys rfl hb))) q
  · exact w_neS0 ⟨rfl, by rw [decide_eq_true rfl]; exact q⟩
  · exact w_neS1 (.lst (sqL ha) (sqL ha) (paired0 fun x hx => by rw [List.mem_singleton.mp hx]; exact eq0_int)) q
theorem BadR.isB {K : PySem.W.Frag} {H : Hp} {Q : VK} {v : V} (h : BadR H v) (q : Q (.bl (isBl v)) H) : rIsi K [v, .ty "bool"] H Q := by
  rcases h with h | ⟨a, rfl, ha⟩
  · exact h.its.isB q
  · have k : kitB "list" "bool" = some false := by decide +kernel
    exact w_isi (b := false) q (.base (.lst ha)) (.ty _) (kit_ty k)
/-- it is no integer of a round -/
theorem BadR.wh {K : PySem.W.Frag} {H : Hp} {v : V} (h : BadR H v) : (Wh K H v false ∧ ∀ i, v ≠ .int i) ∨ ∃ i, v = .int i ∧ ¬ (2 ≤ i ∧ i ≤ 360) := by
  rcases h with (⟨h1, h2⟩ | h) | ⟨a, rfl, ha⟩
  · exact .inl ⟨h1.wh, fun i e => by subst e; cases h1⟩
  · exact .inr h
  · exact .inl ⟨wh_lst ha, fun i e => nomatch e⟩
/-- it is this integer, or not -/
theorem BadR.eqI {K : PySem.W.Frag} {H : Hp} {Q : VK} {v : V} {N : Int} (h : BadR H v) (n2 : 2 ≤ N) (nx : N ≤ 360) (q : Q (.bl false) H) : rEqI K v (.int N) H Q := by
  rcases h with (⟨h1, h2⟩ | ⟨i, rfl, hi⟩) | ⟨a, rfl, ha⟩
  · cases h1 with
    | non => exact .inl ⟨rfl, by rw [decide_eq_false (fun z => nomatch z)]; exact q⟩
    | bl b =>
      refine .inr (.inl ⟨b, N, rfl, rfl, ?_⟩)
      have e : (((if b then 1 else 0) : Int) == N) = false := by
        cases b <;> simp <;> omega
      rw [e]
      exact q
    | str w => exact .inl ⟨rfl, by rw [decide_eq_false (fun z => nomatch z)]; exact q⟩
    | tup b ys hb => exact .inr (.inr ⟨b, ys, N, rfl, .inr hb, rfl, q⟩)
  · exact .inl ⟨rfl, by rw [decide_eq_false (fun z => by cases z; exact hi ⟨n2, nx⟩)]; exact q⟩
  · exact .inr (.inr ⟨a, _, N, rfl, .inl ha, rfl, q⟩)
end J
namespace J
open PySem PySem.Spec PyProof.Rows L2
theorem pairs_pre {H : Hp} : ∀ {us : List V} {bs : List (Int × Int)}, us.length = bs.length → (∀ (j : Nat) (b r : Int), bs[j]? = some (b, r) → ∃ u : V, us[j]? = some u ∧ ∃ t : Addr, u = V.ref t ∧ H t = some (.tup [.int b, .int r])) → PairsAt H us bs
  | [], [], _, _ => .nil
  | u :: us, (b, r) :: bs, hl, h => by
    obtain ⟨u', h1, t, h2, h3⟩ := h 0 b r rfl
    have e : u = u' := by simpa using h1
    subst e
    refine .cons ⟨t, h2, h3⟩ (pairs_pre (by simpa using hl) fun j b r hj => ?_)
    obtain ⟨u2, g1, g2⟩ := h (j + 1) b r (by simpa using hj)
    exact ⟨u2, by simpa using g1, g2⟩
theorem RowsPre.pairs {H : Hp} {N : Int} {us : List V} {bs : List (Int × Int)} (h : RowsPre H N us bs us.length) : PairsAt H us bs ∧ (∀ q ∈ bs, 0 ≤ q.1 ∧ q.1 < N ∧ 0 ≤ q.2 ∧ q.2 < N) ∧ bs.Pairwise fun p q => p.1 < q.1 := by
  refine ⟨pairs_pre h.1.symm fun j b r hj => ?_, fun q hq => ?_, ?_⟩
  · obtain ⟨u, h1, ⟨t, h2, h3, _⟩, _⟩ := h.2 j b r hj
    exact ⟨u, h1, t, h2, h3⟩
  · obtain ⟨j, hj⟩ := List.getElem?_of_mem hq
    obtain ⟨u, _, ⟨t, _, _, h4⟩, _⟩ := h.2 j q.1 q.2 hj
    exact h4
  · have step : ∀ (d i : Nat) (q q' : Int × Int), bs[i]? = some q → bs[i + d + 1]? = some q' → q.1 < q'.1 := by
      intro d
      induction d with
      | zero =>
        intro i q q' h1 h2
        obtain ⟨u, _, _, h3⟩ := h.2 (i + 0 + 1) q'.1 q'.2 h2
        have e : bef bs (i + 0 + 1) = q.1 := by
          show (match bs[i + 0]? with | some q => q.1 | none => -1) = q.1
          rw [show i + 0 = i from rfl, h1]
        omega
      | succ d ih =>
        intro i q q' h1 h2
        have lt := (List.getElem?_eq_some_iff.mp h2).1
        have hm : bs[i + d + 1]? = some bs[i + d + 1] := List.getElem?_eq_getElem (by omega)
        have a := ih i q _ h1 hm
        obtain ⟨u, _, _, h3⟩ := h.2 (i + (d + 1) + 1) q'.1 q'.2 h2
        have e : bef bs (i + (d + 1) + 1) = (bs[i + d + 1]).1 := by
          show (match bs[i + (d + 1)]? with | some q => q.1 | none => -1) = _
          rw [show i + (d + 1) = i + d + 1 by omega, hm]
        omega
    rw [List.pairwise_iff_getElem]
    intro i j hi hj hij
    obtain ⟨d, rfl⟩ : ∃ d, j = i + d + 1 := ⟨j - i - 1, by omega⟩
    exact step d i _ _ (List.getElem?_eq_getElem hi) (List.getElem?_eq_getElem hj)
theorem st_scan {N : Int} {rs : List (Int × Int)} : ∀ k : Nat, (∀ (i : Nat) b r e, i < k → rs[i]? = some (b, r) → (endsL N rs)[i]? = some e → (r - b) % N < e - b) ∨ ∃ n b r e, n < k ∧ rs[n]? = some (b, r) ∧ (endsL N rs)[n]? = some e ∧ ¬ ((r - b) % N < e - b) ∧ ∀ (i : Nat) b r e, i < n → rs[i]? = some (b, r) → (endsL N rs)[i]? = some e → (r - b) % N < e - b
  | 0 => .inl fun i b r e h => absurd h (Nat.not_lt_zero i)
  | k + 1 => by
    rcases st_scan (N := N) (rs := rs) k with h | ⟨n, b, r, e, h1, h2⟩
    · by_cases hb : ∃ b r e, rs[k]? = some (b, r) ∧ (endsL N rs)[k]? = some e ∧ ¬ ((r - b) % N < e - b)
      · obtain ⟨b, r, e, h1, h2, h3⟩ := hb
        exact .inr ⟨k, b, r, e, Nat.lt_succ_self k, h1, h2, h3, h⟩
      · refine .inl fun i b r e hi h1 h2 => ?_
        rcases Nat.lt_or_ge i k with lt | ge
        · exact h i b r e lt h1 h2
        · have ei : i = k := by omega
          subst ei
          exact Classical.byContradiction fun h3 => hb ⟨b, r, e, h1, h2, h3⟩
    · exact .inr ⟨n, b, r, e, by omega, h2⟩
/-- what is handed as rows: no row, or a row of items -/
inductive RZ (H : Hp) : V → Prop
  | non : RZ H .non
  | bl (b : Bool) : RZ H (.bl b)
  | str (w : Str) : RZ H (.str w)
  | dic (a : Addr) (ks : List (Key × V)) (ha : H a = some (.dK ks)) (h : ks = [] ∨ ∃ p, ks = [(.inr "start", .ref p)]) : RZ H (.ref a)
  | row (p : Addr) (us : List V) (h : Sq H p us) (l : us.length ≤ 13) (it : ∀ v ∈ us, PI H v) : RZ H (.ref p)
theorem RZ.same {H H' : Hp} {v : V} (e : Same H H') (h : RZ H v) : RZ H' v := by
  cases h with
  | non => exact .non
  | bl b => exact .bl b
  | str w => exact .str w
  | dic a ks ha h => exact .dic a ks (e _ _ ha) h
  | row p us h l it => exact .row p us (h.same e) l fun v hv => (it v hv).same e
/-- what making a turning comes to -/
inductive RdDue (H : Hp) (wd z : V) : Str → V ⊕ (Int × List (Int × Int)) → Prop
  | round (h : BadR H wd) : RdDue H wd z "round" (.inl wd)
  | nor {N : Int} (e : wd = .int N) (n2 : 2 ≤ N) (nx : N ≤ 360) (h : NoR H z) : RdDue H wd z "rows" (.inl (.int (-1)))
  | len {N : Int} {p : Addr} {us : List V} (e : wd = .int N) (n2 : 2 ≤ N) (nx : N ≤ 360) (ez : z = .ref p) (h : Sq H p us) (l : ¬ (1 ≤ us.length ∧ us.length ≤ 12)) : RdDue H wd z "rows" (.inl (.int (-1)))
  | at_ {N : Int} {p : Addr} {us : List V} {n : Nat} {bs : List (Int × Int)} {v : V} (e : wd = .int N) (n2 : 2 ≤ N) (nx : N ≤ 360) (ez : z = .ref p) (h : Sq H p us) (l1 : 1 ≤ us.length) (l12 : us.length ≤ 12) (hn : us[n]? = some v) (pre : RowsPre H N us bs n) (bad : RowsBad H N bs n v) : RdDue H wd z "rows" (.inl (.int n))
  | st {N : Int} {p : Addr} {us : List V} {n : Nat} {rs : List (Int × Int)} {b r e0 : Int} (e : wd = .int N) (n2 : 2 ≤ N) (nx : N ≤ 360) (ez : z = .ref p) (h : Sq H p us) (hp : PairsAt H us rs) (l1 : 1 ≤ rs.length) (l12 : rs.length ≤ 12) (bd : ∀ q ∈ rs, 0 ≤ q.1 ∧ q.1 < N ∧ 0 ≤ q.2 ∧ q.2 < N) (asc : rs.Pairwise fun p q => p.1 < q.1)
      (hn : rs[n]? = some (b, r)) (he : (endsL N rs)[n]? = some e0) (bad : ¬ ((r - b) % N < e0 - b)) (good : ∀ (i : Nat) b r e, i < n → rs[i]? = some (b, r) → (endsL N rs)[i]? = some e → (r - b) % N < e - b) : RdDue H wd z "rows" (.inl (.int n))
  | good {N : Int} {p : Addr} {us : List V} {rs : List (Int × Int)} (e : wd = .int N) (ez : z = .ref p) (h : Sq H p us) (hp : PairsAt H us rs) (R : Rows N rs) : RdDue H wd z "good" (.inr (N, rs))
theorem pairs_same0 {H H' : Hp} {us : List V} {rs : List (Int × Int)} (s : Same H H') (h : PairsAt H us rs) : PairsAt H' us rs := h.same s
theorem RdDue.same {H H' : Hp} {wd z : V} {g : Str} {r : V ⊕ (Int × List (Int × Int))} (s : Same H H') (h : RdDue H wd z g r) : RdDue H' wd z g r := by
  cases h with
  | round h => exact .round (h.same s)
  | nor e n2 nx h => exact .nor e n2 nx (h.same s)
  | len e n2 nx ez h l => exact .len e n2 nx ez (h.same s) l
  | at_ e n2 nx ez h l1 l12 hn pre bad => exact .at_ e n2 nx ez (h.same s) l1 l12 hn (pre.same s) (bad.same s)
  | st e n2 nx ez h hp l1 l12 bd asc hn he bad good => exact .st e n2 nx ez (h.same s) (hp.same s) l1 l12 bd asc hn he bad good
  | good e ez h hp R => exact .good e ez (h.same s) (hp.same s) R
theorem rd_due {H : Hp} {wd z : V} (hw : (∃ N, wd = .int N ∧ 2 ≤ N ∧ N ≤ 360) ∨ BadR H wd) (hz : RZ H z) : ∃ g r, RdDue H wd z g r := by
  rcases hw with ⟨N, rfl, n2, nx⟩ | hb
  · cases hz with
    | non => exact ⟨_, _, .nor rfl n2 nx .non⟩
    | bl b => exact ⟨_, _, .nor rfl n2 nx (.bl b)⟩
    | str w => exact ⟨_, _, .nor rfl n2 nx (.str w)⟩
    | dic a ks ha h => exact ⟨_, _, .nor rfl n2 nx (.dic a ks ha)⟩
    | row p us h l it =>
      by_cases hl : 1 ≤ us.length ∧ us.length ≤ 12
      · rcases rows_scan (N := N) it us.length (Nat.le_refl _) with ⟨bs, hb⟩ | ⟨n, bs, v, h1, h2, h3, h4⟩
        · obtain ⟨hp, bd, asc⟩ := hb.pairs
          have hlb := hb.1
          rcases st_scan (N := N) (rs := bs) bs.length with hs | ⟨n, b, r, e0, g1, g2, g3, g4, g5⟩
          · exact ⟨_, _, .good rfl rfl h hp ⟨n2, nx, by omega, by omega, bd, asc, fun i b r e h1 h2 => hs i b r e (List.getElem?_eq_some_iff.mp h1).1 h1 h2⟩⟩
          · exact ⟨_, _, .st rfl n2 nx rfl h hp (by omega) (by omega) bd asc g2 g3 g4 g5⟩
        · exact ⟨_, _, .at_ rfl n2 nx rfl h hl.1 hl.2 h2 h3 h4⟩
      · exact ⟨_, _, .len rfl n2 nx rfl h hl⟩
  · exact ⟨_, _, .round hb⟩
theorem RZ.ne {K : PySem.W.Frag} {H : Hp} {Q : VK} {z : V} (h : RZ H z) (q : Q (.bl false) H) : rNeS K z z H Q := by
  cases h with
  | non => exact w_neS0 ⟨rfl, by rw [decide_eq_true rfl]; exact q⟩
  | bl b => exact w_neS0 ⟨rfl, by rw [decide_eq_true rfl]; exact q⟩
  | str w => exact w_neS0 ⟨rfl, by rw [decide_eq_true rfl]; exact q⟩
  | dic a ks ha h => exact w_neS1 (.dic ha ha rfl fun p hp => by
      rcases h with rfl | ⟨r, rfl⟩
      · cases hp
      · simp at hp; subst hp; exact ⟨_, by simp [valV], eq0_ref⟩) q
  | row p us h l it =>
    have e0 : Paired Eq0 us us := paired0 fun v hv => by
      cases it v hv with
      | non => exact eq0_non
      | bl b => exact eq0_bl
      | str w => exact eq0_str
      | int i => exact eq0_int
      | _ => exact eq0_ref
    rcases h with h | h
    · exact w_neS1 (.lst (sqL h) (sqL h) e0) q
    · exact w_neS1 (.tup (sqT h) (sqT h) e0) q
/-! ### deep things told two steps further -/
inductive Deep3 (H : Hp) : V → Prop
  | lst (a : Addr) (xs : List V) (ha : H a = some (.lst xs)) (h : xs = [] ∨ ∃ b ys, xs = [.ref b] ∧ H b = some (.lst ys)) : Deep3 H (.ref a)
  | tup (a : Addr) (xs : List V) (ha : H a = some (.tup xs)) (h : xs = [] ∨ ∃ b ys, xs = [.ref b] ∧ H b = some (.tup ys) ∧ (ys = [] ∨ ∃ c zs, ys = [.ref c] ∧ H c = some (.tup zs))) : Deep3 H (.ref a)
  | dic (a : Addr) (ks : List (Key × V)) (ha : H a = some (.dK ks)) (h : ks = [] ∨ ∃ p, ks = [(.inr "start", .ref p)]) : Deep3 H (.ref a)
theorem Deep3.same {H H' : Hp} {v : V} (e : Same H H') (h : Deep3 H v) : Deep3 H' v := by
  cases h with
  | lst a xs ha h => exact .lst a xs (e _ _ ha) (h.imp_right fun ⟨b, ys, h1, h2⟩ => ⟨b, ys, h1, e _ _ h2⟩)
  | tup a xs ha h => exact .tup a xs (e _ _ ha) (h.imp_right fun ⟨b, ys, h1, h2, h3⟩ => ⟨b, ys, h1, e _ _ h2, h3.imp_right fun ⟨c, zs, g1, g2⟩ => ⟨c, zs, g1, e _ _ g2⟩⟩)
  | dic a ks ha h => exact .dic a ks (e _ _ ha) h
theorem Deep3.rz {H : Hp} {v : V} (h : Deep3 H v) : RZ H v := by
  cases h with
  | lst a xs ha h =>
    refine .row a xs (.inl ha) ?_ fun v hv => ?_
    · rcases h with rfl | ⟨b, ys, rfl, _⟩ <;> exact leb rfl
    · rcases h with rfl | ⟨b, ys, rfl, hb⟩
      · cases hv
      · rw [List.mem_singleton.mp hv]
        exact .lst b ys hb
  | tup a xs ha h =>
    refine .row a xs (.inr ha) ?_ fun v hv => ?_
    · rcases h with rfl | ⟨b, ys, rfl, _⟩ <;> exact leb rfl
    · rcases h with rfl | ⟨b, ys, rfl, hb, hy⟩
      · cases hv
      · rw [List.mem_singleton.mp hv]
        refine .tup b ys hb fun x hx => ?_
        rcases hy with rfl | ⟨c, zs, rfl, hc⟩
        · cases hx
        · rw [List.mem_singleton.mp hx]
          exact .tup c zs hc
  | dic a ks ha h => exact .dic a ks ha h
theorem keepD {H : Hp} {a b : Addr} {ks : List (Key × V)} {us : List V} {o : HO} (h : H a = some (.dK ks)) (hb : H b = some (.lst us)) : upd H b o a = some (.dK ks) := by
  rw [upd_ne (ne_of h hb (by intro z; cases z))]
  exact h
theorem keepL {H : Hp} {a b : Addr} {xs us us' : List V} (h : H a = some (.lst xs)) (hb : H b = some (.lst us)) : ∃ ys, upd H b (.lst us') a = some (.lst ys) := by
  by_cases e : a = b
  · subst e
    exact ⟨_, upd_same⟩
  · exact ⟨xs, by rw [upd_ne e]; exact h⟩
theorem PK.butL {H : Hp} {v : V} {q : Addr} {us us' : List V} (h : PK H v) (hq : H q = some (.lst us)) : PK (upd H q (.lst us')) v := by
  cases h with
  | int i => exact .int i
  | non => exact .non
  | bl b => exact .bl b
  | str w => exact .str w
  | lst a xs ha => obtain ⟨ys, e⟩ := keepL ha hq; exact .lst a ys e
  | tup a xs ha => exact .tup a xs (keepT ha hq)
  | dic a ks ha => exact .dic a ks (keepD ha hq)
theorem PI.butL {H : Hp} {v : V} {q : Addr} {us us' : List V} (h : PI H v) (hq : H q = some (.lst us)) : PI (upd H q (.lst us')) v := by
  cases h with
  | non => exact .non
  | bl b => exact .bl b
  | str w => exact .str w
  | int i => exact .int i
  | lst a xs ha => obtain ⟨ys, e⟩ := keepL ha hq; exact .lst a ys e
  | dic a ks ha => exact .dic a ks (keepD ha hq)
  | tup t xs ht hx => exact .tup t xs (keepT ht hq) fun x m => (hx x m).butL hq
/-- isinstance(v, tuple) -/
theorem PI.isT {K : PySem.W.Frag} {H : Hp} {v : V} (h : PI H v) : (∀ Q : VK, Q (.bl false) H → rIsi K [v, .ty "tuple"] H Q) ∨ ∃ t xs, v = .ref t ∧ H t = some (.tup xs) ∧ ∀ x ∈ xs, PK H x := by
  have k1 : kitB "NoneType" "tuple" = some false ∧ kitB "bool" "tuple" = some false ∧ kitB "str" "tuple" = some false ∧ kitB "int" "tuple" = some false ∧ kitB "list" "tuple" = some false ∧ kitB "dict" "tuple" = some false := by decide +kernel
  cases h with
  | non => exact .inl fun Q q => w_isi q (.base .non) (.ty _) (kit_ty k1.1)
  | bl b => exact .inl fun Q q => w_isi q (.base (.bl b)) (.ty _) (kit_ty k1.2.1)
  | str w => exact .inl fun Q q => w_isi q (.base (.str w)) (.ty _) (kit_ty k1.2.2.1)
  | int i => exact .inl fun Q q => w_isi q (.base (.int i)) (.ty _) (kit_ty k1.2.2.2.1)
  | lst a xs ha => exact .inl fun Q q => w_isi q (.base (.lst ha)) (.ty _) (kit_ty k1.2.2.2.2.1)
  | dic a ks ha => exact .inl fun Q q => w_isi q (.base (.dK ha)) (.ty _) (kit_ty k1.2.2.2.2.2)
  | tup t xs ht hx => exact .inr ⟨t, xs, rfl, ht, hx⟩
theorem pis_set {H : Hp} {q : Addr} {us vs : List V} {n : Nat} {z : V} (hq : H q = some (.lst us)) (hv : ∀ v ∈ vs, PI H v) (hz : PI H z) : ∀ v ∈ vs.set n z, PI (upd H q (.lst (vs.set n z))) v := fun v h => by
  rcases List.mem_or_eq_of_mem_set h with h | rfl
  · exact (hv v h).butL hq
  · exact hz.butL hq
end J
namespace J
open PySem PySem.Spec PyProof.Rows L2
/-! ### an __init__ with defaults that may raise -/
structure CalIDX (P : Program) (w : World) (K : PySem.W.Frag) (mg : Str → Option Value) (base : Heap) (k : Nat) (C : Addr) (x qual : Str) (st : Stmt) (ps : List Str) (dvs : List V) (sp : Sp) : Prop where
  ex : ∃ f fd, Mk K C f ∧ mg x = some (.ref C) ∧ FunD K "__init__" qual (defArgs st) (defBody st) (defScope st) dvs [] f fd ∧ FnOk P w K mg base (L2.CX P w) k f fd ps sp
section
variable {P : Program} {w : World} {K : PySem.W.Frag} {mg : Str → Option Value} {base : Heap} {C : Addr} {x qual : Str} {st : Stmt} {dvs : List V} {f : Addr} {N ps : List Str} {k j : Nat} {sp sp' : Sp}
theorem calidx_mk (F : SrcD K "__init__" qual st dvs f) (M : Mk K C f) (hm : mg x = some (.ref C)) (S : FnScope N ps (defScope st)) (len : ∀ vs H Q E, sp vs H Q E → vs.length = ps.length) (hbody : BodyX P w K mg base N qual st f k sp) :
    CalIDX P w K mg base (k + 1) C x qual st ps dvs sp := by
  obtain ⟨fd, F⟩ := F
  exact ⟨f, fd, M, hm, F, F.ok S len hbody⟩
theorem CalIDK.toIX (c : CalIDK P w K mg base k C x qual st ps dvs sp) : CalIDX P w K mg base k C x qual st ps dvs sp := by
  obtain ⟨f, fd, M, hm, F, R⟩ := c.ex
  exact ⟨f, fd, M, hm, F, fnLift R⟩
theorem CalIDX.or (c : CalIDX P w K mg base k C x qual st ps dvs sp) (d : CalIDX P w K mg base j C x qual st ps dvs sp') : CalIDX P w K mg base (max k j) C x qual st ps dvs (spOr sp sp') := by
  obtain ⟨f, fd, a1, a2, a5, a4⟩ := c.ex
  obtain ⟨f', fd', b1, b2, b5, b4⟩ := d.ex
  have e := a1.init.symm.trans b1.init
  cases e
  have e2 : fd = fd' := by
    obtain ⟨oc, od, dV, kV, doc, pm, an, cdv, ct, osl, e1, lk, _⟩ := a5.ex
    obtain ⟨oc', od', dV', kV', doc', pm', an', cdv', ct', osl', e2, lk', _⟩ := b5.ex
    have h := Option.some.inj (lk.symm.trans lk')
    have h2 : Obj.data _ = Obj.data _ := congrArg Obj.data h
    exact Data.func.inj h2
  subst e2
  exact ⟨f, fd, a1, a2, a5, fnOr (a4.mono (Nat.le_max_left ..)) (b4.mono (Nat.le_max_right ..))⟩
end
section
variable {X : Cx} {k : Nat} {C : Addr} {x qual : Str} {st : Stmt} {ps : List Str} {dvs : List V} {sp : Sp} {W : WX} {p pos : Pos} {kws : List Keyword} {tk : TA}
theorem pe_calIDKX (c : CalIDX X.prog X.w X.K X.mg X.base k C x qual st ps dvs sp) (tkx : Takes X W) (ks : List Str) (g : {α : Type} → List α → List α → List α → List α) (hd : dvs ≠ []) (hg : GOk3 g) (hb : BindK qual st ps ks 1 dvs.length g) (hr : Room (k + 1) X.A) (hkw : L2.PK X kws tk) (hgl : Gl X x := by rfl)
    (hall : (backToKw pos (keywordEach kws X.env)).all (·.1.isSome) = true := by rfl) (hks : (backToKw pos (keywordEach kws X.env)).filterMap (·.1) = ks := by rfl) (hdb : (x == ("__debug__" : Str)) = false := by decide)
    (hpl : ((backTo pos (starEach [] X.env)).any (·.1) || (backToKw pos (keywordEach kws X.env)).any (·.1.isNone)) = false := by rfl) :
    PE X (.Call (.Name x p) [] kws pos) (jMakeKXS C ks.length sp W (fun a b => g a dvs b) tk) := by
  obtain ⟨f, fd, M, hm, FD, F⟩ := c.ex
  obtain ⟨its, hkb⟩ := FD.kbindsD (ps := ps) 1 ks g hd hg hb
  refine ⟨fun pins s σ H Q I h => ?_⟩
  refine wpAny_Call_Name_kw (ld_glob I hgl hm ?_ hdb)
  refine PySem.W.callWith_KW0 (h₀ := X.base) I.ok.mod.kin M.kp hall ?_ hpl
  refine thn (hkw.run pos pins s σ H _ I h) fun ws s2 hh => ?_
  obtain ⟨zs, H2, I2, rz, l2, q2⟩ := hh
  refine ⟨I2.kIn, ?_⟩
  rw [hks]
  exact go_mkK M F hr hkb (passAt tkx σ) I2 rz l2 q2
end
end J
namespace J
open PySem PySem.Spec PyProof.Rows L2
/-! ### rows of widths, good or not -/
abbrev topW : Int := 1000000000000
theorem PI.pk {H : Hp} {v : V} (h : PI H v) : PK H v := by
  cases h with
  | non => exact .non
  | bl b => exact .bl b
  | str w => exact .str w
  | int i => exact .int i
  | lst a xs ha => exact .lst a xs ha
  | dic a ks ha => exact .dic a ks ha
  | tup t xs ht hx => exact .tup t xs ht
theorem PI.eq0 {H : Hp} {v : V} (h : PI H v) : Eq0 v v := by
  cases h with
  | non => exact eq0_non
  | bl b => exact eq0_bl
  | str w => exact eq0_str
  | int i => exact eq0_int
  | _ => exact eq0_ref
/-- what is handed as widths -/
inductive WZ (H : Hp) : V → Prop
  | odd {v : V} (h : Odd H v) : WZ H v
  | row (p : Addr) (us : List V) (h : Sq H p us) (l : us.length ≤ 361) (it : ∀ v ∈ us, PI H v) : WZ H (.ref p)
theorem WZ.same {H H' : Hp} {v : V} (e : Same H H') (h : WZ H v) : WZ H' v := by
  cases h with
  | odd h => exact .odd (h.same e)
  | row p us h l it => exact .row p us (h.same e) l fun v hv => (it v hv).same e
theorem WZ.ne {K : PySem.W.Frag} {H : Hp} {Q : VK} {z : V} (h : WZ H z) (q : Q (.bl false) H) : rNeS K z z H Q := by
  cases h with
  | odd h => exact w_neOdd h q
  | row p us h l it =>
    rcases h with h | h
    · exact w_neS1 (.lst (sqL h) (sqL h) (paired0 fun v hv => (it v hv).eq0)) q
    · exact w_neS1 (.tup (sqT h) (sqT h) (paired0 fun v hv => (it v hv).eq0)) q
/-- no width -/
def WNo (H : Hp) (v : V) : Prop := PK H v ∧ ∀ i, v = .int i → ¬ (0 ≤ i ∧ i ≤ topW)
theorem WNo.same {H H' : Hp} {v : V} (e : Same H H') (h : WNo H v) : WNo H' v := ⟨h.1.same e, h.2⟩
/-- place and opposite place -/
def opp (N : Int) (i : Nat) : Nat := (((i : Int) + N / 2) % N).toNat
structure WOk (N : Int) (ws : List Int) : Prop where
  len : (ws.length : Int) = N
  bd : ∀ w ∈ ws, 0 ≤ w ∧ w ≤ topW
  sym : ∀ (i : Nat) (a b : Int), ws[i]? = some a → ws[opp N i]? = some b → a = b
/-- what the widths handed to a part come to: none for good ones -/
inductive ShDue (H : Hp) (N : Int) (z : V) : Option Int → Prop
  | nor (h : NoR H z) : ShDue H N z (some (-1))
  | len {p : Addr} {us : List V} (ez : z = .ref p) (h : Sq H p us) (l : (us.length : Int) ≠ N) : ShDue H N z (some (-1))
  | at_ {p : Addr} {us : List V} {n : Nat} {v : V} (ez : z = .ref p) (h : Sq H p us) (l : (us.length : Int) = N) (hn : us[n]? = some v) (bad : WNo H v) (good : ∀ j u, j < n → us[j]? = some u → ∃ i, u = .int i ∧ 0 ≤ i ∧ i ≤ topW) : ShDue H N z (some n)
  | un {p : Addr} {ws : List Int} {n : Nat} {a b : Int} (ez : z = .ref p) (h : Sq H p (ws.map V.int)) (l : (ws.length : Int) = N) (bd : ∀ w ∈ ws, 0 ≤ w ∧ w ≤ topW) (ha : ws[n]? = some a) (hb : ws[opp N n]? = some b) (ne : a ≠ b) (good : ∀ (j : Nat) (a b : Int), j < n → ws[j]? = some a → ws[opp N j]? = some b → a = b) : ShDue H N z (some n)
  | good {p : Addr} {ws : List Int} (ez : z = .ref p) (h : Sq H p (ws.map V.int)) (ok : WOk N ws) : ShDue H N z none
theorem ShDue.same {H H' : Hp} {N : Int} {z : V} {o : Option Int} (s : Same H H') (h : ShDue H N z o) : ShDue H' N z o := by
  cases h with
  | nor h => exact .nor (h.same s)
  | len ez h l => exact .len ez (h.same s) l
  | at_ ez h l hn bad good => exact .at_ ez (h.same s) l hn (bad.same s) good
  | un ez h l bd ha hb ne good => exact .un ez (h.same s) l bd ha hb ne good
  | good ez h ok => exact .good ez (h.same s) ok
theorem w_scan {H : Hp} : ∀ {us : List V}, (∀ v ∈ us, PI H v) → (∃ ws : List Int, us = ws.map V.int ∧ ∀ w ∈ ws, 0 ≤ w ∧ w ≤ topW) ∨ ∃ (n : Nat) (v : V), us[n]? = some v ∧ WNo H v ∧ ∀ j u, j < n → us[j]? = some u → ∃ i, u = .int i ∧ 0 ≤ i ∧ i ≤ topW
  | [], _ => .inl ⟨[], rfl, fun _ h => nomatch h⟩
  | v :: us, it => by
    have pv := it v (List.mem_cons_self ..)
    by_cases hv : ∃ i, v = .int i ∧ 0 ≤ i ∧ i ≤ topW
    · rcases w_scan (us := us) (fun u hu => it u (List.mem_cons_of_mem _ hu)) with ⟨ws, rfl, hb⟩ | ⟨n, u, h1, h2, h3⟩
      · obtain ⟨i, rfl, hi⟩ := hv
        refine .inl ⟨i :: ws, rfl, fun w hw => ?_⟩
        rcases List.mem_cons.mp hw with rfl | hw
        · exact hi
        · exact hb w hw
      · refine .inr ⟨n + 1, u, by simpa using h1, h2, fun j u' hj hq => ?_⟩
        cases j with
        | zero =>
          have : v = u' := by simpa using hq
          subst this
          exact hv
        | succ j => exact h3 j u' (by omega) (by simpa using hq)
    · exact .inr ⟨0, v, rfl, ⟨pv.pk, fun i e hi => hv ⟨i, e, hi⟩⟩, fun j u hj => absurd hj (Nat.not_lt_zero j)⟩
theorem opp_lt {N : Int} (i : Nat) (h : 0 < N) : ((opp N i : Nat) : Int) = ((i : Int) + N / 2) % N ∧ ((opp N i : Nat) : Int) < N := by
  have h1 := Int.emod_nonneg ((i : Int) + N / 2) (show N ≠ 0 by omega)
  have h2 := Int.emod_lt_of_pos ((i : Int) + N / 2) h
  unfold opp
  omega
theorem s_scan {N : Int} {ws : List Int} : ∀ k : Nat, (∀ (i : Nat) (a b : Int), i < k → ws[i]? = some a → ws[opp N i]? = some b → a = b) ∨ ∃ n a b, n < k ∧ ws[n]? = some a ∧ ws[opp N n]? = some b ∧ a ≠ b ∧ ∀ (i : Nat) (a b : Int), i < n → ws[i]? = some a → ws[opp N i]? = some b → a = b
  | 0 => .inl fun i a b h => absurd h (Nat.not_lt_zero i)
  | k + 1 => by
    rcases s_scan (N := N) (ws := ws) k with h | ⟨n, a, b, h1, h2⟩
    · by_cases hb : ∃ a b, ws[k]? = some a ∧ ws[opp N k]? = some b ∧ a ≠ b
      · obtain ⟨a, b, h1, h2, h3⟩ := hb
        exact .inr ⟨k, a, b, Nat.lt_succ_self k, h1, h2, h3, h⟩
      · refine .inl fun i a b hi h1 h2 => ?_
        rcases Nat.lt_or_ge i k with lt | ge
        · exact h i a b lt h1 h2
        · have ei : i = k := by omega
          subst ei
          exact Classical.byContradiction fun h3 => hb ⟨a, b, h1, h2, h3⟩
    · exact .inr ⟨n, a, b, by omega, h2⟩
theorem sh_row {H : Hp} {N : Int} {p : Addr} {us : List V} (h : Sq H p us) (it : ∀ v ∈ us, PI H v) : ∃ o, ShDue H N (.ref p) o := by
  by_cases hl : (us.length : Int) = N
  · rcases w_scan it with ⟨ws, rfl, bd⟩ | ⟨n, v, h1, h2, h3⟩
    · rw [List.length_map] at hl
      rcases s_scan (N := N) (ws := ws) ws.length with hs | ⟨n, a, b, g1, g2, g3, g4, g5⟩
      · exact ⟨_, .good rfl h ⟨hl, bd, fun i a b h1 h2 => hs i a b (List.getElem?_eq_some_iff.mp h1).1 h1 h2⟩⟩
      · exact ⟨_, .un rfl h hl bd g2 g3 g4 g5⟩
    · exact ⟨_, .at_ rfl h hl h1 h2 h3⟩
  · exact ⟨_, .len rfl h hl⟩
theorem sh_due {H : Hp} {N : Int} {z : V} (hz : WZ H z) (nn : z ≠ .non) (n2 : 2 ≤ N) : ∃ o, ShDue H N z o := by
  cases hz with
  | odd h =>
    cases h with
    | non => exact absurd rfl nn
    | bl b => exact ⟨_, .nor (.bl b)⟩
    | str w h => exact ⟨_, .nor (.str w)⟩
    | lst a xs ha h =>
      refine ⟨_, .len rfl (.inl ha) ?_⟩
      rcases h with rfl | rfl | ⟨p, rfl⟩
      · intro e; simp at e; omega
      · intro e; simp at e; omega
      · intro e; simp at e; omega
    | tup a xs ha h =>
      rcases h with rfl | rfl | ⟨p, rfl⟩
      · exact ⟨_, .len rfl (.inr ha) (by intro e; simp at e; omega)⟩
      · exact sh_row (.inr ha) fun v hv => by
          rcases List.mem_cons.mp hv with rfl | hv
          · exact .int _
          · rw [List.mem_singleton.mp hv]; exact .int _
      · exact ⟨_, .len rfl (.inr ha) (by intro e; simp at e; omega)⟩
    | dic a ks ha h => exact ⟨_, .nor (.dic a ks ha)⟩
  | row p us h l it => exact sh_row h it
/-! ### a part with widths -/
def pfw (N : Int) (d : Addr) (w : V) : List (Str × V) := [("around", .int N), ("_turnings", .ref d), ("_widths", w)]
theorem pfw3 (N : Int) (d : Addr) (w : V) : putF "_widths" w (pfs2 N d) = pfw N d w := by kernel_rfl
theorem pfw_around (N : Int) (d : Addr) (w : V) : (pfw N d w).lookup ("around" : Str) = some (.int N) := by kernel_rfl
theorem pfw_turnings (N : Int) (d : Addr) (w : V) : (pfw N d w).lookup ("_turnings" : Str) = some (.ref d) := by kernel_rfl
theorem pfw_widths (N : Int) (d : Addr) (w : V) : (pfw N d w).lookup ("_widths" : Str) = some w := by kernel_rfl
def WAt (H : Hp) (N : Int) (v : V) : Option (List Int) → Prop
  | none => v = .non
  | some ws => ∃ t, v = .ref t ∧ H t = some (.tup (ws.map V.int)) ∧ WOk N ws
theorem WAt.same {H H' : Hp} {N : Int} {v : V} {o : Option (List Int)} (e : Same H H') (h : WAt H N v o) : WAt H' N v o := by
  cases o with
  | none => exact h
  | some ws => obtain ⟨t, h1, h2, h3⟩ := h; exact ⟨t, h1, e _ _ h2, h3⟩
/-- what is handed as widths, and good -/
def WArg (H : Hp) (N : Int) (v : V) : Option (List Int) → Prop
  | none => v = .non
  | some ws => ∃ p, v = .ref p ∧ Sq H p (ws.map V.int) ∧ WOk N ws
theorem WArg.same {H H' : Hp} {N : Int} {v : V} {o : Option (List Int)} (e : Same H H') (h : WArg H N v o) : WArg H' N v o := by
  cases o with
  | none => exact h
  | some ws => obtain ⟨t, h1, h2, h3⟩ := h; exact ⟨t, h1, h2.same e, h3⟩
def PartW (K : PySem.W.Frag) (H : Hp) (x : Addr) (N : Int) (sq pu : Option Rws) (wo : Option (List Int)) : Prop :=
  ∃ dx d kvs wv, H x = some (.ins (CP K) dx (pfw N d wv)) ∧ H d = some (.dK kvs) ∧ Paired (Ent (CT K) H N) kvs (tabL sq pu) ∧ WAt H N wv wo
theorem PartW.same {K : PySem.W.Frag} {H H' : Hp} {x : Addr} {N : Int} {sq pu : Option Rws} {wo : Option (List Int)} (e : Same H H') (h : PartW K H x N sq pu wo) : PartW K H' x N sq pu wo := by
  obtain ⟨dx, d, kvs, wv, h1, h2, h3, h4⟩ := h
  exact ⟨dx, d, kvs, wv, e _ _ h1, e _ _ h2, Paired.mapP h3 fun p q ⟨e1, t, e2, h⟩ => ⟨e1, t, e2, h.same e⟩, h4.same e⟩
theorem PartW.at_ {K : PySem.W.Frag} {H : Hp} {x : Addr} {N : Int} {sq pu : Option Rws} (h : PartW K H x N sq pu none) : PartAt K H x N sq pu := by
  obtain ⟨dx, d, kvs, wv, h1, h2, h3, h4⟩ := h
  have e : wv = .non := h4
  subst e
  exact ⟨dx, d, kvs, h1, h2, h3⟩
theorem w_noN {H : Hp} {Q : VK} {v : V} (n : v ≠ .non) (q : Q (.bl true) H) : rNotNo v .non H Q := ⟨rfl, by rw [decide_eq_false n]; exact q⟩
theorem w_isN {H : Hp} {Q : VK} {v : V} (n : v ≠ .non) (q : Q (.bl false) H) : rIsNo v .non H Q := ⟨rfl, by rw [decide_eq_false n]; exact q⟩
theorem len_sq {K : PySem.W.Frag} {H : Hp} {Q : VK} {p : Addr} {us : List V} (h : Sq H p us) (q : Q (.int us.length) H) : rLenS K [.ref p] H Q := by
  rcases h with h | h
  · exact w_lenL q (sqL h)
  · exact w_lenT q (sqT h)
theorem ix_sq {K : PySem.W.Frag} {H : Hp} {Q : VK} {p : Addr} {us : List V} {i : Int} {v : V} (h : Sq H p us) (a : atI us i = some v) (q : Q v H) : rIx K (.ref p) (.int i) H Q := by
  rcases h with h | h
  · exact .inl (w_ixL q (sqL h) a)
  · exact .inr (.inl (w_ixT q (sqT h) a))
/-- what of a part with widths the law looks at behind its making -/
def PartV (K : PySem.W.Frag) (H : Hp) (x : Addr) (N : Int) (wo : Option (List Int)) : Prop := ∃ dx d wv, H x = some (.ins (CP K) dx (pfw N d wv)) ∧ WAt H N wv wo
theorem PartV.same {K : PySem.W.Frag} {H H' : Hp} {x : Addr} {N : Int} {wo : Option (List Int)} (e : Same H H') (h : PartV K H x N wo) : PartV K H' x N wo := by
  obtain ⟨dx, d, wv, h1, h2⟩ := h
  exact ⟨dx, d, wv, e _ _ h1, h2.same e⟩
theorem PartW.v {K : PySem.W.Frag} {H : Hp} {x : Addr} {N : Int} {sq pu : Option Rws} {wo : Option (List Int)} (h : PartW K H x N sq pu wo) : PartV K H x N wo := by
  obtain ⟨dx, d, kvs, wv, h1, h2, h3, h4⟩ := h
  exact ⟨dx, d, wv, h1, h4⟩
theorem PartV.butL {K : PySem.W.Frag} {H : Hp} {x p : Addr} {N : Int} {wo : Option (List Int)} {us : List V} {o : HO} (h : PartV K H x N wo) (hp : H p = some (.lst us)) : PartV K (upd H p o) x N wo := by
  obtain ⟨dx, d, wv, h1, h2⟩ := h
  refine ⟨dx, d, wv, ?_, ?_⟩
  · rw [upd_ne (ne_of h1 hp (by intro z; cases z))]
    exact h1
  · cases wo with
    | none => exact h2
    | some ws =>
      obtain ⟨t, e, ht, ok⟩ := h2
      exact ⟨t, e, keepT ht hp, ok⟩
theorem PartV.ins {K : PySem.W.Frag} {H : Hp} {x : Addr} {N : Int} {wo : Option (List Int)} (h : PartV K H x N wo) : ∃ dx d wv, H x = some (.ins (CP K) dx (pfw N d wv)) := by
  obtain ⟨dx, d, wv, h1, _⟩ := h
  exact ⟨dx, d, wv, h1⟩
theorem pfw_width (N : Int) (d : Addr) (w : V) : (pfw N d w).lookup ("width" : Str) = none := by kernel_rfl
end J
namespace J
open PySem PySem.Spec PyProof.Rows L2
/-! ### tables whose words stand in either order -/
def Form (T : Tbl) (sq pu : Option Rws) : Prop := T = tabL sq pu ∨ T = tabS sq pu
theorem Form.mem {T : Tbl} {sq pu : Option Rws} (h : Form T sq pu) {q : Str × Rws} : q ∈ T ↔ q ∈ tabL sq pu := by
  rcases h with rfl | rfl
  · exact Iff.rfl
  · exact tab_mem
theorem Form.nodup {T : Tbl} {sq pu : Option Rws} (h : Form T sq pu) : (T.map Prod.fst).Nodup := by
  rcases h with rfl | rfl
  · exact tab_nodup sq pu
  · unfold tabS
    cases sq <;> cases pu <;> simp [sp_ne]
theorem Form.perm {T : Tbl} {sq pu : Option Rws} (h : Form T sq pu) : (T.map Prod.fst).Perm (wordsL sq pu) := by
  rcases h with rfl | rfl
  · exact .refl _
  · unfold wordsL tabS tabL
    cases sq <;> cases pu <;> simp
    exact List.Perm.swap ..
theorem Form.two {T : Tbl} {sq pu : Option Rws} (h : Form T sq pu) : T.length ≤ 2 := by
  have := h.perm.length_eq
  rw [List.length_map] at this
  rw [this]
  unfold wordsL tabL
  cases sq <;> cases pu <;> exact leb rfl
theorem Form.ok {N : Int} {T : Tbl} {sq pu : Option Rws} (h : Form T sq pu) (n2 : 2 ≤ N) (n360 : N ≤ 360) (R : ∀ q ∈ T, Rows N q.2) : TblOk N T ∧ TblOk N (tabL sq pu) :=
  ⟨⟨n2, n360, R, fun w rs rs' a b => tab_one (h.mem.mp a) (h.mem.mp b)⟩, ⟨n2, n360, fun q hq => R q (h.mem.mpr hq), fun w rs rs' => tab_one⟩⟩
theorem per_same {N : Int} {T T' : Tbl} (k : TblOk N T) (k' : TblOk N T') (h : ∀ q, q ∈ T ↔ q ∈ T') : perP N T = perP N T' := by
  have a : perP N T ∣ perP N T' := k.dvd.mpr fun q hq => k'.dvd.mp (Int.dvd_refl _) q ((h q).mp hq)
  have b : perP N T' ∣ perP N T := k'.dvd.mpr fun q hq => k.dvd.mp (Int.dvd_refl _) q ((h q).mpr hq)
  have c := Int.le_of_dvd k'.pos a
  have d := Int.le_of_dvd k.pos b
  omega
theorem val_at {R : Key × V → Str × Rws → Prop} (hk : ∀ p q, R p q → p.1 = .inr q.1) {w : Str} {rs : Rws} : ∀ {kvs : List (Key × V)} {T : Tbl}, Paired R kvs T → (w, rs) ∈ T → (T.map Prod.fst).Nodup → ∃ v, valV kvs (.inr w) = some v ∧ R (.inr w, v) (w, rs)
  | _, _, .nil, hm, _ => by cases hm
  | (k, u) :: _, (a, r) :: _, .cons h t, hm, nd => by
    have e : k = .inr a := hk _ _ h
    subst e
    rw [List.map_cons, List.nodup_cons] at nd
    rcases List.mem_cons.mp hm with z | z
    · cases z
      exact ⟨u, by simp [valV], h⟩
    · obtain ⟨v, h1, h2⟩ := val_at hk t z nd.2
      have ne : a ≠ w := fun e => nd.1 (List.mem_map.mpr ⟨(w, rs), z, e.symm⟩)
      refine ⟨v, ?_, h2⟩
      rw [← h1]
      unfold valV
      rw [List.find?_cons]
      have : (decide ((Sum.inr a : Key) = .inr w)) = false := decide_eq_false fun e => ne (by cases e; rfl)
      simp only [this]
/-- d[w] = rows, in the table -/
def putT (T : Tbl) (w : Str) (rs : Rws) : Tbl := if T.any (fun q => decide (q.1 = w)) then T.map (fun q => if q.1 = w then (q.1, rs) else q) else T ++ [(w, rs)]
theorem putK_pair {R R' : Key × V → Str × Rws → Prop} {w : Str} {v : V} {rs : Rws} (hk : ∀ p q, R p q → p.1 = .inr q.1) (hR : ∀ p q, R p q → R' p q) (hn : R' (.inr w, v) (w, rs)) {kvs : List (Key × V)} {T : Tbl} (h : Paired R kvs T) : Paired R' (putK kvs (.inr w) v) (putT T w rs) := by
  have e : (kvs.any fun kv => decide (kv.1 = .inr w)) = T.any fun q => decide (q.1 = w) := by
    clear hn
    induction h with
    | nil => rfl
    | @cons p q ps qs h1 t ih =>
      rw [List.any_cons, List.any_cons, ih, hk _ _ h1]
      congr 1
      by_cases e : q.1 = w
      · simp [e]
      · have : ¬ ((.inr q.1 : Key) = .inr w) := fun z => e (by cases z; rfl)
        simp [e, this]
  unfold putK putT
  rw [e]
  split
  · exact put_map hk hR hn h
  · exact paired_append (Paired.mapP h hR) (.cons hn .nil)
theorem Form.put {T : Tbl} {sq pu : Option Rws} {w : Str} {rs : Rws} (h : Form T sq pu) (hw : w = "push" ∨ w = "squeeze") : Form (putT T w rs) (nSq w rs sq) (nPu w rs pu) := by
  unfold Form
  rcases hw with rfl | rfl <;> rcases h with rfl | rfl <;> cases sq <;> cases pu <;> simp [putT, tabL, tabS, nSq, nPu, ps_ne, sp_ne]
/-- the table without a word -/
def cutT (T : Tbl) (w : Str) : Tbl := T.filter fun q => decide (q.1 ≠ w)
abbrev cSq (w : Str) (sq : Option Rws) : Option Rws := if w = "squeeze" then none else sq
abbrev cPu (w : Str) (pu : Option Rws) : Option Rws := if w = "push" then none else pu
theorem Form.cut {T : Tbl} {sq pu : Option Rws} {w : Str} (h : Form T sq pu) (hw : w = "push" ∨ w = "squeeze") : Form (cutT T w) (cSq w sq) (cPu w pu) := by
  unfold Form
  rcases hw with rfl | rfl <;> rcases h with rfl | rfl <;> cases sq <;> cases pu <;> simp [cutT, tabL, tabS, cSq, cPu, ps_ne, sp_ne]
/-- a part whose dict stands at dd, its words in either order -/
def PartO (K : PySem.W.Frag) (H : Hp) (x dd : Addr) (N : Int) (sq pu : Option Rws) (wo : Option (List Int)) : Prop :=
  ∃ dx kvs wv T, H x = some (.ins (CP K) dx (pfw N dd wv)) ∧ H dd = some (.dK kvs) ∧ Form T sq pu ∧ Paired (Ent (CT K) H N) kvs T ∧ WAt H N wv wo
theorem PartO.same {K : PySem.W.Frag} {H H' : Hp} {x dd : Addr} {N : Int} {sq pu : Option Rws} {wo : Option (List Int)} (e : Same H H') (h : PartO K H x dd N sq pu wo) : PartO K H' x dd N sq pu wo := by
  obtain ⟨dx, kvs, wv, T, h1, h2, h3, h4, h5⟩ := h
  exact ⟨dx, kvs, wv, T, e _ _ h1, e _ _ h2, h3, Paired.mapP h4 fun p q ⟨e1, t, e2, h⟩ => ⟨e1, t, e2, h.same e⟩, h5.same e⟩
theorem PartW.o {K : PySem.W.Frag} {H : Hp} {x : Addr} {N : Int} {sq pu : Option Rws} {wo : Option (List Int)} (h : PartW K H x N sq pu wo) : ∃ dd, PartO K H x dd N sq pu wo := by
  obtain ⟨dx, d, kvs, wv, h1, h2, h3, h4⟩ := h
  exact ⟨d, dx, kvs, wv, _, h1, h2, .inl rfl, h3, h4⟩
theorem PartO.v {K : PySem.W.Frag} {H : Hp} {x dd : Addr} {N : Int} {sq pu : Option Rws} {wo : Option (List Int)} (h : PartO K H x dd N sq pu wo) : PartV K H x N wo := by
  obtain ⟨dx, kvs, wv, T, h1, h2, h3, h4, h5⟩ := h
  exact ⟨dx, dd, wv, h1, h5⟩
theorem ents_rows {C : Addr} {H : Hp} {N : Int} {kvs : List (Key × V)} {T : Tbl} (h : Paired (Ent C H N) kvs T) : ∀ q ∈ T, Rows N q.2 := fun q hq => by
  obtain ⟨i, hi⟩ := List.getElem?_of_mem hq
  obtain ⟨p, _, _, t, _, ht⟩ := paired_get' h hi
  exact ht.rows
theorem PartO.tbl {K : PySem.W.Frag} {H : Hp} {x dd : Addr} {N : Int} {sq pu : Option Rws} {wo : Option (List Int)} (h : PartO K H x dd N sq pu wo) (n2 : 2 ≤ N) (n360 : N ≤ 360) : TblOk N (tabL sq pu) := by
  obtain ⟨dx, kvs, wv, T, h1, h2, h3, h4, h5⟩ := h
  exact (h3.ok n2 n360 (ents_rows h4)).2
def TabO (H : Hp) (d : Addr) (N : Int) (sq pu : Option Rws) : Prop := ∃ kvs T, H d = some (.dK kvs) ∧ Form T sq pu ∧ Paired (LE H N) kvs T
theorem TabO.same {H H' : Hp} {d : Addr} {N : Int} {sq pu : Option Rws} (e : Same H H') (h : TabO H d N sq pu) : TabO H' d N sq pu := by
  obtain ⟨kvs, T, h1, h2, h3⟩ := h
  exact ⟨kvs, T, e _ _ h1, h2, Paired.mapP h3 fun p q ⟨e1, t, xs, e2, e3, e4, e5⟩ => ⟨e1, t, xs, e2, e _ _ e3, e4.same e, e5⟩⟩
theorem TabAt.o {H : Hp} {d : Addr} {N : Int} {sq pu : Option Rws} (h : TabAt H d N sq pu) : TabO H d N sq pu := by
  obtain ⟨kvs, h1, h2⟩ := h
  exact ⟨kvs, _, h1, .inr rfl, h2⟩
theorem les_rows {H : Hp} {N : Int} {kvs : List (Key × V)} {T : Tbl} (h : Paired (LE H N) kvs T) : ∀ q ∈ T, Rows N q.2 := fun q hq => by
  obtain ⟨i, hi⟩ := List.getElem?_of_mem hq
  obtain ⟨p, _, _, t, xs, _, _, _, R⟩ := paired_get' h hi
  exact R
/-- what the law's table has at a word -/
theorem TabO.val {H : Hp} {N : Int} {kvs : List (Key × V)} {T : Tbl} {sq pu : Option Rws} (f : Form T sq pu) (h : Paired (LE H N) kvs T) : LEnt H N (valV kvs (.inr "squeeze")) sq ∧ LEnt H N (valV kvs (.inr "push")) pu := by
  have go : ∀ (w : Str) (o : Option Rws), (∀ rs, o = some rs ↔ (w, rs) ∈ tabL sq pu) → LEnt H N (valV kvs (.inr w)) o := fun w o ho => by
    cases o with
    | none =>
      refine val_no (fun _ _ r => r.1) h fun rs hm => ?_
      have := (ho rs).mpr (f.mem.mp hm)
      cases this
    | some rs =>
      obtain ⟨v, h1, _, t, xs, e2, e3, e4, e5⟩ := val_at (fun _ _ r => r.1) h (f.mem.mpr ((ho rs).mp rfl)) f.nodup
      dsimp only at e2
      subst e2
      exact ⟨t, xs, h1, e3, e4, e5⟩
  refine ⟨go _ _ fun rs => ?_, go _ _ fun rs => ?_⟩
  · constructor
    · rintro rfl; unfold tabL; simp
    · intro hm
      rcases tab_word hm with ⟨e, _⟩ | ⟨_, e⟩
      · exact absurd e sp_ne
      · exact e
  · constructor
    · rintro rfl; unfold tabL; simp
    · intro hm
      rcases tab_word hm with ⟨_, e⟩ | ⟨e, _⟩
      · exact e
      · exact absurd e ps_ne
/-- what a part's dict has at a word -/
theorem PartO.val {C : Addr} {H : Hp} {N : Int} {kvs : List (Key × V)} {T : Tbl} {sq pu : Option Rws} {w : Str} {rs : Rws} (f : Form T sq pu) (h : Paired (Ent C H N) kvs T) (hm : (w, rs) ∈ tabL sq pu) : ∃ t, valV kvs (.inr w) = some (.ref t) ∧ TurnAt C H t N rs := by
  obtain ⟨v, h1, _, t, e2, ht⟩ := val_at (fun _ _ r => r.1) h (f.mem.mpr hm) f.nodup
  dsimp only at e2
  subst e2
  exact ⟨t, h1, ht⟩
theorem PartO.no {C : Addr} {H : Hp} {N : Int} {kvs : List (Key × V)} {T : Tbl} {sq pu : Option Rws} {w : Str} (f : Form T sq pu) (h : Paired (Ent C H N) kvs T) (no : ∀ rs, (w, rs) ∉ tabL sq pu) : valV kvs (.inr w) = none :=
  val_no (fun _ _ r => r.1) h fun rs hm => no rs (f.mem.mp hm)
theorem pfw_settings (N : Int) (d : Addr) (w : V) : (pfw N d w).lookup ("_put_in" : Str) = none ∧ (pfw N d w).lookup ("_take_out" : Str) = none ∧ (pfw N d w).lookup ("rests" : Str) = none := ⟨by kernel_rfl, by kernel_rfl, by kernel_rfl⟩
theorem PartO.ins {K : PySem.W.Frag} {H : Hp} {x dd : Addr} {N : Int} {sq pu : Option Rws} {wo : Option (List Int)} (h : PartO K H x dd N sq pu wo) : ∃ dx wv, H x = some (.ins (CP K) dx (pfw N dd wv)) := by
  obtain ⟨dx, kvs, wv, T, h1, _⟩ := h
  exact ⟨dx, wv, h1⟩
section
variable {K : PySem.W.Frag} {H H' : Hp} {x dd d : Addr} {N : Int} {sq pu : Option Rws} {wo : Option (List Int)} {w : Str} {rs : Rws}
theorem wat_dict {wv : V} {kk : List (Key × V)} {o : HO} (h : WAt H N wv wo) (hd : H d = some (.dK kk)) : WAt (upd H d o) N wv wo := by
  cases wo with
  | none => exact h
  | some ws =>
    obtain ⟨t, e, ht, ok⟩ := h
    exact ⟨t, e, by rw [upd_ne (ne_of ht hd (by intro z; cases z))]; exact ht, ok⟩
theorem PartO.put {t : Addr} (h : PartO K H x dd N sq pu wo) (tA : TurnAt (CT K) H t N rs) (hw : w = "push" ∨ w = "squeeze") :
    ∃ kvs, H dd = some (.dK kvs) ∧ kvs.length ≤ 2 ∧ PartO K (upd H dd (.dK (putK kvs (.inr w) (.ref t)))) x dd N (nSq w rs sq) (nPu w rs pu) wo := by
  obtain ⟨dx, kvs, wv, T, h1, h2, h3, h4, h5⟩ := h
  refine ⟨kvs, h2, by rw [Paired.length h4]; exact h3.two, dx, _, wv, putT T w rs, ?_, upd_same, h3.put hw, ?_, wat_dict h5 h2⟩
  · rw [upd_ne (ne_of h1 h2 (by intro z; cases z))]
    exact h1
  · exact putK_pair (fun _ _ r => r.1) (fun p q ⟨e1, u, e2, hu⟩ => ⟨e1, u, e2, hu.lock h2⟩) ⟨rfl, t, rfl, tA.lock h2⟩ h4
theorem PartO.but {kk : List (Key × V)} {o : HO} (h : PartO K H x dd N sq pu wo) (hd : H d = some (.dK kk)) (ne : dd ≠ d) : PartO K (upd H d o) x dd N sq pu wo := by
  obtain ⟨dx, kvs, wv, T, h1, h2, h3, h4, h5⟩ := h
  refine ⟨dx, kvs, wv, T, ?_, ?_, h3, Paired.mapP h4 fun p q ⟨e1, u, e2, hu⟩ => ⟨e1, u, e2, hu.lock hd⟩, wat_dict h5 hd⟩
  · rw [upd_ne (ne_of h1 hd (by intro z; cases z))]
    exact h1
  · rw [upd_ne ne]
    exact h2
theorem les_but {kvs kk : List (Key × V)} {T : Tbl} {o : HO} (h : Paired (LE H N) kvs T) (hd : H d = some (.dK kk)) : Paired (LE (upd H d o) N) kvs T :=
  Paired.mapP h fun p q ⟨e1, t, xs, e2, e3, e4, e5⟩ => ⟨e1, t, xs, e2, by rw [upd_ne (ne_of e3 hd (by intro z; cases z))]; exact e3, pairs_but e4 hd, e5⟩
theorem TabO.but {kk : List (Key × V)} {o : HO} (h : TabO H d N sq pu) (hd : H dd = some (.dK kk)) (ne : d ≠ dd) : TabO (upd H dd o) d N sq pu := by
  obtain ⟨kvs, T, h1, h2, h3⟩ := h
  exact ⟨kvs, T, by rw [upd_ne ne]; exact h1, h2, les_but h3 hd⟩
theorem TabO.put {p : Addr} {xs : List V} (h : TabO H d N sq pu) (hp : H p = some (.lst xs)) (hx : PairsAt H xs rs) (R : Rows N rs) (hw : w = "push" ∨ w = "squeeze") :
    ∃ kvs, H d = some (.dK kvs) ∧ kvs.length ≤ 2 ∧ TabO (upd H d (.dK (putK kvs (.inr w) (.ref p)))) d N (nSq w rs sq) (nPu w rs pu) := by
  obtain ⟨kvs, T, h1, h2, h3⟩ := h
  refine ⟨kvs, h1, by rw [Paired.length h3]; exact h2.two, _, putT T w rs, upd_same, h2.put hw, ?_⟩
  have kp : ∀ (o : HO) b u, H b = some (.lst u) → upd H d o b = some (.lst u) := fun o b u e => by
    rw [upd_ne (ne_of e h1 (by intro z; cases z))]
    exact e
  exact putK_pair (fun _ _ r => r.1) (fun a q ⟨e1, t, ys, e2, e3, e4, e5⟩ => ⟨e1, t, ys, e2, kp _ _ _ e3, pairs_but e4 h1, e5⟩) ⟨rfl, p, xs, rfl, kp _ _ _ hp, pairs_but hx h1, R⟩ h3
/-- the two dicts are not one -/
theorem tabO_ne (h : TabO H d N sq pu) (hP : PartO K H x dd N sq pu wo) (hne : sq ≠ none ∨ pu ≠ none) : d ≠ dd := by
  intro e
  subst e
  obtain ⟨kvs, T, h1, h2, h3⟩ := h
  obtain ⟨dx, kvs2, wv, T2, g1, g2, g3, g4, g5⟩ := hP
  rw [h1] at g2
  cases g2
  have ex : ∃ w r, (w, r) ∈ tabL sq pu := by
    rcases hne with z | z
    · cases sq with
      | none => exact absurd rfl z
      | some r => exact ⟨"squeeze", r, by unfold tabL; simp⟩
    · cases pu with
      | none => exact absurd rfl z
      | some r => exact ⟨"push", r, by unfold tabL; simp⟩
  obtain ⟨w, r, hm⟩ := ex
  obtain ⟨v, f1, _, p, xs, e2, e3, _⟩ := val_at (fun _ _ r => r.1) h3 (h2.mem.mpr hm) h2.nodup
  obtain ⟨t, f2, f3⟩ := PartO.val g3 g4 hm
  rw [f1] at f2
  cases f2
  dsimp only at e2
  cases e2
  obtain ⟨dx', _, _, _, _, q, _⟩ := f3
  rw [e3] at q
  cases q
/-- all stays but one instance -/
abbrev Keep1 (H H' : Hp) (x : Addr) : Prop := ∀ b o, b ≠ x → H b = some o → H' b = some o
variable {C dx : Addr} {fs : List (Str × V)}
theorem TabO.keep1 (h : TabO H d N sq pu) (kp : Keep1 H H' x) (hx : H x = some (.ins C dx fs)) : TabO H' d N sq pu := by
  obtain ⟨kvs, T, h1, h2, h3⟩ := h
  refine ⟨kvs, T, kp _ _ (ne_of h1 hx (by intro z; cases z)) h1, h2, Paired.mapP h3 fun p q ⟨e1, t, xs, e2, e3, e4, e5⟩ => ⟨e1, t, xs, e2, kp _ _ (ne_of e3 hx (by intro z; cases z)) e3, ?_, e5⟩⟩
  exact Paired.mapP e4 fun v q ⟨t, e, ht⟩ => ⟨t, e, kp _ _ (ne_of ht hx (by intro z; cases z)) ht⟩
theorem LawSt.keep1 {S : Addr} (h : LawSt H S) (kp : Keep1 H H' x) (hx : H x = some (.ins C dx fs)) : LawSt H' S := by
  obtain ⟨L, ns, a, b⟩ := h
  exact ⟨L, ns, kp _ _ (ne_of a hx (by intro z; cases z)) a, kp _ _ (ne_of b hx (by intro z; cases z)) b⟩
end
/-! ### lists of words compared -/
theorem w_eqWords {K : PySem.W.Frag} {H : Hp} {Q : VK} {p p2 : Addr} {sq pu : Option Rws} {w : Str} (h : H p = some (.lst ((wordsL sq pu).map V.str))) (h2 : H p2 = some (.lst [.str w])) (hw : w = "push" ∨ w = "squeeze") (q : Q (.bl (decide (wordsL sq pu = [w]))) H) : rEqD K (.ref p) (.ref p2) H Q := by
  have dps : ∀ ws : List Str, DpAll K H (ws.map V.str) (ws.map PyData.str) := fun ws => by
    induction ws with
    | nil => exact .nil
    | cons a t ih => exact .cons (.str a) ih
  have hl : wordsL sq pu ∈ ([[], ["push"], ["squeeze"], ["push", "squeeze"]] : List (List Str)) := by
    unfold wordsL tabL
    cases sq <;> cases pu <;> simp
  have go : ∀ a b : List Str, a ∈ ([[], ["push"], ["squeeze"], ["push", "squeeze"]] : List (List Str)) → b ∈ ([["push"], ["squeeze"]] : List (List Str)) → SeqAt.shaped (.list (a.map PyData.str)) = true ∧ SeqAt.shaped (.list (b.map PyData.str)) = true ∧ PyData.eqv (.list (a.map PyData.str)) (.list (b.map PyData.str)) = decide (a = b) := by
    intro a b ha hb
    simp only [List.mem_cons, List.not_mem_nil, or_false] at ha hb
    rcases ha with rfl | rfl | rfl | rfl <;> rcases hb with rfl | rfl <;> exact ⟨by decide +kernel, by decide +kernel, by decide +kernel⟩
  have hb : [w] ∈ ([["push"], ["squeeze"]] : List (List Str)) := by rcases hw with rfl | rfl <;> simp
  obtain ⟨s1, s2, e⟩ := go _ _ hl hb
  refine ⟨_, _, .lst (sqL h) (dps _), .lst (sqL (xs := [w].map V.str) h2) (dps [w]), s1, s2, ?_⟩
  rw [e]
  exact q
/-- a pair of rows and ints, compared -/
theorem w_neRows {K : PySem.W.Frag} {H : Hp} {Q : VK} {p p2 a b c d : Addr} {vs vs2 : List V} {rs : List (Int × Int)} {ms : List Int} (h : H p = some (.tup [.ref a, .ref b])) (h2 : H p2 = some (.tup [.ref c, .ref d])) (ha : H a = some (.tup vs)) (hc : H c = some (.tup vs2)) (pa : PairsAt H vs rs) (pc : PairsAt H vs2 rs) (hb : H b = some (.lst (ms.map V.int))) (hd : H d = some (.lst (ms.map V.int))) (q : Q (.bl false) H) : rNeX K (.ref p) (.ref p2) H Q := by
  have sh : SeqAt.shaped (.tuple [.tuple (rs.map pd), .list (ms.map PyData.int)]) = true := by
    have h1 := can_ints ms
    have h2 := depth_ints ms
    have h3 := can_pairs rs
    have h5 := depth_pairs rs
    unfold SeqAt.shaped
    have e1 : PyData.canLay0 (.tuple [.tuple (rs.map pd), .list (ms.map PyData.int)]) = true := by simp [PyData.canLay0, PyData.canLayAll0, h1, h3]
    have e2 : PyData.depth (.tuple [.tuple (rs.map pd), .list (ms.map PyData.int)]) ≤ 64 := by simp [PyData.depth, PyData.depthAll]; omega
    rw [e1, decide_eq_true e2]; rfl
  refine .inr ⟨_, _, .tup (sqT h) (.cons (.tup (sqT ha) (dp_pairs pa)) (.cons (.lst (sqL hb) (dp_ints ms)) .nil)), .tup (sqT h2) (.cons (.tup (sqT hc) (dp_pairs pc)) (.cons (.lst (sqL hd) (dp_ints ms)) .nil)), sh, sh, ?_⟩
  have e : PyData.eqv (.tuple [.tuple (rs.map pd), .list (ms.map PyData.int)]) (.tuple [.tuple (rs.map pd), .list (ms.map PyData.int)]) = true := by
    have i1 := eqv_ints ms ms
    rw [decide_eq_true rfl] at i1
    have i2 : PyData.eqv (.list (rs.map pd)) (.list (rs.map pd)) = true := by
      rw [show PyData.eqv (.list (rs.map pd)) (.list (rs.map pd)) = PyData.eqvAll (rs.map pd) (rs.map pd) by simp [PyData.eqv]]
      have := eqv_pairs rs rs
      rw [decide_eq_true rfl] at this
      exact this
    simp [PyData.eqv, PyData.eqvAll] at i1 i2 ⊢
    exact ⟨i2, i1⟩
  rw [e]
  exact q
theorem pfw_setT (N : Int) (d D : Addr) (w : V) : putF "_turnings" (.ref D) (pfw N d w) = pfw N D w := by kernel_rfl
theorem pfw_setW (N : Int) (d : Addr) (w v : V) : putF "_widths" v (pfw N d w) = pfw N d v := by kernel_rfl
theorem TurnAt.keep1 {C : Addr} {H H' : Hp} {t x C' dx d : Addr} {N M : Int} {rs : Rws} {wv : V} (h : TurnAt C H t N rs) (kp : Keep1 H H' x) (hx : H x = some (.ins C' dx (pfw M d wv))) : TurnAt C H' t N rs := by
  obtain ⟨dx', t', l', vs', ls', g1, g2, g3, g4, g5, g6⟩ := h
  have nt : t ≠ x := fun z => by
    subst z
    rw [hx] at g1
    have e := congrArg (fun o => match o with | some (HO.ins _ _ f) => f | _ => []) g1
    cases e
  exact ⟨dx', t', l', vs', ls', kp _ _ nt g1, kp _ _ (ne_of g2 hx (by intro z; cases z)) g2, pairs_keep kp g3 (fun v hv q e => by
    obtain ⟨t2, a, b, e2, ht⟩ := pairs_mem g3 _ hv
    rw [e] at e2; cases e2
    exact ne_of ht hx (by intro z; cases z)), kp _ _ (ne_of g4 hx (by intro z; cases z)) g4, g5, g6⟩
theorem nodup_before : ∀ {T : Tbl} {i : Nat} {w : Str} {rs : Rws}, (T.map Prod.fst).Nodup → T[i]? = some (w, rs) → ∀ rs', (w, rs') ∉ T.take i
  | [], _, _, _, _, e, _, _ => by simp at e
  | _ :: _, 0, _, _, _, _, _, hm => by simp at hm
  | (a, r) :: T, i + 1, w, rs, nd, e, rs', hm => by
    rw [List.map_cons, List.nodup_cons] at nd
    have e' : T[i]? = some (w, rs) := by simpa using e
    rw [List.take_succ_cons] at hm
    rcases List.mem_cons.mp hm with z | z
    · cases z
      exact nd.1 (List.mem_map.mpr ⟨_, List.mem_of_getElem? e', rfl⟩)
    · exact nodup_before nd.2 e' rs' z
theorem cut_take {T : Tbl} {i : Nat} {w w0 : Str} {rs : Rws} (e : T[i]? = some (w0, rs)) : cutT (T.take (i + 1)) w = if w0 = w then cutT (T.take i) w else cutT (T.take i) w ++ [(w0, rs)] := by
  unfold cutT
  rw [List.take_add_one, e, List.filter_append]
  by_cases h : w0 = w <;> simp [h]
end J
namespace JX
open PySem PySem.W PySem.Calls PyProof.Rows
/-! ### == of two dicts whose values are compared by a call: both dicts' objects stand still -/
section
variable {prog : Program} {w : World} {K : Type} [DecidableEq K] {knd : KeyKind prog w K} {A : Around} {E : Value → Shared → Prop}
/-- a comparison that keeps J -/
def EqJ (prog : Program) (w : World) (A : Around) (E : Value → Shared → Prop) (J : Shared → Prop) (x y : Value) (e : Bool) : Prop :=
  ∀ s, J s → ∀ Q : Bool → Shared → Prop, (∀ s', J s' → Q e s') → wpAny (model prog w) A (eqBool x y) Q E s
inductive HitJ (prog : Program) (w : World) (A : Around) (E : Value → Shared → Prop) (J : Shared → Prop) (kb : List (K × Value)) : List (K × Value) → Bool → Prop
  | nil : HitJ prog w A E J kb [] true
  | miss {k : K} {v : Value} {t : List (K × Value)} : valueAt kb k = none → HitJ prog w A E J kb ((k, v) :: t) false
  | hit {k : K} {v y : Value} {t : List (K × Value)} {e b : Bool} : valueAt kb k = some y → EqJ prog w A E J v y e → HitJ prog w A E J kb t b → HitJ prog w A E J kb ((k, v) :: t) (e && b)
theorem HitJ.inv {J : Shared → Prop} {kb : List (K × Value)} {k : K} {v : Value} {t : List (K × Value)} {b : Bool} (h : HitJ prog w A E J kb ((k, v) :: t) b) :
    (valueAt kb k = none ∧ b = false) ∨ ∃ y e b', valueAt kb k = some y ∧ EqJ prog w A E J v y e ∧ HitJ prog w A E J kb t b' ∧ b = (e && b') := by
  cases h with
  | miss hn => exact .inl ⟨hn, rfl⟩
  | hit hy he hr => exact .inr ⟨_, _, _, hy, he, hr, rfl⟩
theorem same_pairs {J : Shared → Prop} {nm : String} {a b : Addr} {oa ob : Obj} {ka kb : List (K × Value)} {r : Bool} {s : Shared} {Q : Bool → Shared → Prop} (ha : (a == sysModules) = false) (hb : (b == sysModules) = false)
    (ga : ∀ s, J s → s.heap.get? a = some oa) (gb : ∀ s, J s → s.heap.get? b = some ob) (js : J s) (da : s.heap.DictOf knd a ka) (db : s.heap.DictOf knd b kb)
    (hits : HitJ prog w A E J kb ka r) (h : ∀ s', J s' → Q (ka.length == kb.length && r) s') :
    wpAny (model prog w) A (Builtin.Dict.samePairs nm a b) Q E s := by
  obtain ⟨o1, es, ep, g1, _, da1, ka1, pa, _⟩ := da
  obtain ⟨o2, fs, fp, g2, _, db1, kb1, pb, _⟩ := db
  rw [ga s js] at g1
  rw [gb s js] at g2
  cases g1
  cases g2
  have la : ka.length = es.size := by rw [← pa.length]; exact Array.length_toList
  have lb : kb.length = fs.size := by rw [← pb.length]; exact Array.length_toList
  have look : ∀ k, findBy knd.is fs k = valueAt kb k := fun k => by
    rw [← pb.find k]
    clear lb pb kb1 db1 gb
    obtain ⟨l⟩ := fs
    simp [findBy]
  rw [la, lb] at h
  unfold Builtin.Dict.samePairs Builtin.Dict.showsAll
  rw [if_neg (show ¬ (a == sysModules) = true by rw [ha]; exact Bool.false_ne_true), if_neg (show ¬ (b == sysModules) = true by rw [hb]; exact Bool.false_ne_true)]
  refine wpAny_bind (wpAny_pure (wpAny_bind (wpAny_pure ?_)))
  refine wpAny_bind (wpAny_dictEntries (ga s js) da1 ?_)
  dsimp only
  refine wpAny_bind (wpAny_dictEntries (gb s js) db1 ?_)
  by_cases sz : es.size = fs.size
  case neg =>
    rw [if_pos (by simpa using sz)]
    have e : (es.size == fs.size) = false := by simpa using sz
    rw [e] at h
    exact wpAny_bind (wpAny_rule (wpAny_pure (h s js)))
  case pos =>
    have h' : ∀ s', J s' → Q r s' := fun s' j => by simpa [sz] using h s' j
    rw [if_neg (by rw [sz]; simp)]
    refine wpAny_bind (wpAny_dictEpoch (ga s js) da1 ?_)
    refine wpAny_bind ?_
    rw [Std.Legacy.Range.forIn_eq_forIn_range']
    simp only [Std.Legacy.Range.size, Nat.sub_zero, Nat.add_sub_cancel, Nat.div_one]
    refine wpAny_forIn_list _
      (fun rest q s' => J s' ∧ q = (none, ()) ∧ ∃ i, rest = List.range' i (es.size - i) ∧ i ≤ es.size ∧ HitJ prog w A E J kb (ka.drop i) r)
      _ ?_ ?_ _ _ ⟨js, rfl, 0, by simp, Nat.zero_le _, hits⟩
    · rintro x rest q s' ⟨j1, rfl, i, hr, hi, pre⟩
      have lt : i < es.size := by
        rcases Nat.lt_or_ge i es.size with z | z
        · exact z
        · rw [Nat.sub_eq_zero_of_le z] at hr; simp at hr
      obtain ⟨rfl, hrest⟩ : x = i ∧ rest = List.range' (i + 1) (es.size - (i + 1)) := by
        have e : es.size - i = (es.size - (i + 1)) + 1 := by omega
        rw [e, List.range'_succ] at hr
        injection hr with h1 h2
        exact ⟨h1, h2⟩
      refine wpAny_bind (wpAny_dictEntries (ga s' j1) da1 ?_)
      rw [Array.getElem?_eq_getElem lt]
      have lt' : x < ka.length := by rw [la]; exact lt
      obtain ⟨k, v, ekv⟩ : ∃ k v, ka[x] = (k, v) := ⟨_, _, rfl⟩
      rw [show ka.drop x = (k, v) :: ka.drop (x + 1) by rw [← ekv]; exact List.drop_eq_getElem_cons lt'] at pre
      obtain ⟨key, val⟩ := pa.get? (i := x) (e := es[x]) (k := k) (v := v) (by rw [Array.getElem?_toList]; exact Array.getElem?_eq_getElem lt) (by rw [List.getElem?_eq_getElem lt', ekv])
      obtain ⟨k', hk', hh⟩ := ka1 es[x] (Array.getElem_mem lt)
      rw [knd.inj _ _ _ hk' key] at hh
      show wpAny _ _ (holding [es[x].key, es[x].val] _ >>= _) _ _ _
      rw [hh]
      refine wpAny_bind (wpAny_holding (wpAny_bind (wpAny_dictFind_of key (gb s' j1) db1 kb1 ?_)))
      cases fj : fs.findIdx? fun e => knd.is k e.key with
      | none =>
        have no : valueAt kb k = none := by rw [← look k, findBy_of_findIdx?, fj]
        rcases pre.inv with ⟨_, er⟩ | ⟨y, _, _, hy, _⟩
        · rw [er] at h'
          refine wpAny_pure ?_
          show wpAny _ _ (if (!false) = true then _ else _) _ _ _
          rw [if_pos (by decide)]
          exact wpAny_pure (wpAny_pure (h' s' j1))
        · rw [no] at hy; exact nomatch hy
      | some j =>
        obtain ⟨jlt, _, _⟩ := Array.findIdx?_eq_some_iff_getElem.mp fj
        have yes : valueAt kb k = some fs[j].val := by
          rw [← look k, findBy_of_findIdx?, fj]
          simp [Array.getElem?_eq_getElem jlt]
        refine wpAny_bind (wpAny_dictEntries (gb s' j1) db1 ?_)
        rw [Array.getElem?_eq_getElem jlt]
        rcases pre.inv with ⟨no, _⟩ | ⟨y, e, b', hy, he, hrr, er⟩
        · rw [yes] at no; exact nomatch no
        · have ey : fs[j].val = y := Option.some.inj (yes.symm.trans hy)
          rw [← ey, ← val] at he
          refine wpAny_holding (he s' j1 _ fun s2 j2 => ?_)
          cases e with
          | false =>
            rw [er, Bool.false_and] at h'
            show wpAny _ _ (if (!false) = true then _ else _) _ _ _
            rw [if_pos (by decide)]
            exact wpAny_pure (wpAny_pure (h' s2 j2))
          | true =>
            rw [Bool.true_and] at er
            rw [← er] at hrr
            show wpAny _ _ (if (!true) = true then _ else _) _ _ _
            rw [if_neg (by decide)]
            refine wpAny_bind (wpAny_dictEpoch (ga s2 j2) da1 ?_)
            rw [if_neg (by simp)]
            exact wpAny_pure ⟨j2, rfl, x + 1, hrest, lt, hrr⟩
    · rintro q s' ⟨j1, rfl, i, hr, hi, pre⟩
      have ei : i = es.size := by
        rcases Nat.lt_or_ge i es.size with z | z
        · have e : es.size - i = (es.size - (i + 1)) + 1 := by omega
          rw [e, List.range'_succ] at hr; exact nomatch hr
        · exact Nat.le_antisymm hi z
      refine wpAny_pure ?_
      rw [ei, ← la, List.drop_length] at pre
      cases pre
      exact h' s' j1
theorem eq_dicts {J : Shared → Prop} {a b : Addr} {oa ob : Obj} {ka kb : List (K × Value)} {r : Bool} {s : Shared} {Q : Value → Shared → Prop} (ha : (a == sysModules) = false) (hb : (b == sysModules) = false)
    (ga : ∀ s, J s → s.heap.get? a = some oa) (gb : ∀ s, J s → s.heap.get? b = some ob) (js : J s) (da : s.heap.DictOf knd a ka) (db : s.heap.DictOf knd b kb) (hu : A.units < cLine)
    (hits : HitJ prog w A.in1 E J kb ka r) (h : ∀ s', J s' → Q (.bool (ka.length == kb.length && r)) s') : wpAny (model prog w) A (richCompare .Eq (.ref a) (.ref b)) Q E s := by
  refine wpAny_richCompare_same_room (op := .Eq) da.typeIs db.typeIs F.slot_dict_eq (wpAny_call_entry F.slot_dict_eq da.typeIs F.entry_dict_eq ?_ (F.args_dict_eq_2 _ _)) hu
  show wpAny _ _ (Builtin.Dict.dictSlotArgs "__eq__" ⟨[.ref a, .ref b], []⟩ >>= _) _ _ s
  refine wpAny_bind ?_
  unfold Builtin.Dict.dictSlotArgs
  refine wpAny_bind (wpAny_notOrdered_dict da.typeIs ?_)
  show wpAny _ _ (pure (Value.ref a, Value.ref b)) _ _ s
  refine wpAny_pure ?_
  refine wpAny_bind (wpAny_isInstance (T := "dict") db.typeIs F.sub_dict_dict ?_)
  simp only [Bool.not_true, Bool.false_eq_true, if_false]
  refine wpAny_bind (wpAny_pure (wpAny_bind (wpAny_pure ?_)))
  refine wpAny_bind (same_pairs ha hb ga gb js da db hits fun s' j => ?_)
  refine wpAny_pure ⟨_, rfl, ?_, ?_⟩
  · exact fun x => nomatch x
  · simpa using h s' j
end
end JX
namespace J
open PySem PySem.Spec PyProof.Rows L2
/-! ### dict == dict, the values instances of a class with an own __eq__ -/
section
variable {X : Cx} {C : Addr} {k : Nat} {qual : Str} {st : Stmt} {ps : List Str} {sp : Sp} {pins : List (Addr × Obj)} {σ : L2.St} {H : Hp} {s : Shared}
/-- two instances compared, somewhere within -/
theorem eqOwn_run (cm : CalM X.prog X.w X.K X.mg X.base k C "__eq__" qual st ps sp) (hr : Room (k + 1) X.A) {a b dx dy : Addr} {fs gs : List (Str × V)} {e : Bool} (I : Inv X pins σ H s) (ha : H a = some (.ins C dx fs)) (hb' : H b = some (.ins C dy gs)) (ne : a = b → e = true)
    (q : sp [.ref a, .ref b] H (fun v H' => v = .bl e ∧ H' = H) E0) {Q : Bool → Shared → Prop} (h : ∀ s', Inv X pins σ H s' → Q e s') : wpAny (model X.prog X.w) X.A.in1 (eqBool (.ref a) (.ref b)) Q X.xe s := by
  obtain ⟨f, fd, hm, hb, F, _⟩ := cm.ex
  obtain ⟨mA, J, _⟩ := ins_get I.hok ha
  obtain ⟨mB, J', _⟩ := ins_get I.hok hb'
  obtain ⟨od, J, _⟩ := J.look
  obtain ⟨od', J', _⟩ := J'.look
  unfold eqBool
  refine wpAny_holding ?_
  refine wpAny_ite_split (fun hab => ?_) (fun _ => ?_)
  · have e1 : a = b := by have := eq_of_beq hab; injection this
    have e2 := ne e1
    subst e2
    show wpAny (model X.prog X.w) X.A.in1 (pure true) Q X.xe s
    exact wpAny_pure (h s I)
  have r : Vals [V.ref a, .ref b] [Value.ref a, .ref b] := .cons rfl (.cons rfl .nil)
  have hl : ([Value.ref a, .ref b] ++ []).length = ps.length := by rw [← F.len _ _ _ _ q]; rfl
  have e0 : Env0 X.prog X.w X.K X.mg X.base X.A.in1 X.stack s H := by
    have e := I.env0
    exact ⟨e.frames, e.mod, e.bs, e.bsz, e.funs, e.frf, e.hok, e.bare⟩
  obtain ⟨m, hF⟩ := I.fr
  refine wpAny_bind (PySem.W.cmp_K (op := .Eq) (tb := .ref C) hr.in1.units0 hF I.ok.mod.kin J J'.type (by simp [PySem.W.notFirst]) hm.at_ hm.fn ?_)
  refine wpAny_call (codeAny_mono (F.run X.A.in1 X.stack s H ⟨[.ref a, .ref b], []⟩ ([.ref a, .ref b] ++ []) [.ref a, .ref b] _ E0 hr.in1 e0 (hb _ [.ref a, .ref b] I.kIn hl) r q) fun r s' hq' => ?_)
  cases r with
  | error er => exact pass0 (X := X) pins σ H s er s' I hq'
  | ok fl =>
    cases fl with
    | ret u' =>
      obtain ⟨z, H', I', rz, ez, eH⟩ := I.after hq'
      subst ez eH
      obtain rfl : u' = .bool e := rz
      exact wpAny_truthy_bool (h s' I')
    | next => exact False.elim hq'
    | brk => exact False.elim hq'
    | cont => exact False.elim hq'
/-- what a dict's values come to, compared with another's by the class's own == -/
inductive HitO (C : Addr) (sp : Sp) (H : Hp) (kb : List (Key × V)) : List (Key × V) → Bool → Prop
  | nil : HitO C sp H kb [] true
  | miss {k : Key} {v : V} {t : List (Key × V)} (no : valV kb k = none) : HitO C sp H kb ((k, v) :: t) false
  | hit {k : Key} {x y dx dy : Addr} {fs gs : List (Str × V)} {t : List (Key × V)} {e b : Bool} (at_ : valV kb k = some (.ref y)) (hx : H x = some (.ins C dx fs)) (hy : H y = some (.ins C dy gs)) (same : x = y → e = true)
      (q : sp [.ref x, .ref y] H (fun v H' => v = .bl e ∧ H' = H) E0) (tl : HitO C sp H kb t b) : HitO C sp H kb ((k, .ref x) :: t) (e && b)
def rEqDO (C : Addr) (sp : Sp) : R2 := fun x y H Q => ∃ a b ka kb r, x = .ref a ∧ y = .ref b ∧ a ≠ b ∧ H a = some (.dK ka) ∧ H b = some (.dK kb) ∧ (∀ oa ob, HitO C sp (upd (upd H a (.frz oa (.dK ka))) b (.frz ob (.dK kb))) kb ka r) ∧ Q (.bl (ka.length == kb.length && r)) H
theorem hitO_run (cm : CalM X.prog X.w X.K X.mg X.base k C "__eq__" qual st ps sp) (hr : Room (k + 1) X.A) {kb : List (Key × V)} {vb : List (Key × Value)} (rb : KV kb vb) {ka : List (Key × V)} {va : List (Key × Value)} (ra : KV ka va) :
    ∀ {r : Bool}, HitO C sp H kb ka r → JX.HitJ X.prog X.w X.A.in1 X.xe (fun s => Inv X pins σ H s) vb va r := by
  unfold KV at ra
  induction ra with
  | nil => intro r h; cases h; exact .nil
  | @cons p q ps qs h t ih =>
    intro r hh
    obtain ⟨h1, h2⟩ := h
    obtain ⟨key, v⟩ := q
    cases hh with
    | @miss k0 v0 _ no =>
      have h1 : k0 = key := h1
      subst h1
      refine .miss ?_
      have rr := rb.val k0
      rw [no] at rr
      cases hv : valueAt vb k0 with
      | none => rfl
      | some y => rw [hv] at rr; cases rr
    | @hit k0 x y dx dy fs gs _ e b at_ hx hy same q tl =>
      have h1 : k0 = key := h1
      subst h1
      have rr : RelO (some (V.ref y)) (valueAt vb k0) := by rw [← at_]; exact rb.val k0
      obtain ⟨y', hy', ry⟩ := rr.some_of
      cases (show v = Value.ref x from h2)
      cases (show y' = Value.ref y from ry)
      exact .hit hy' (fun s I Q hq => eqOwn_run cm hr I hx hy same q hq) (ih tl)
theorem op_eqDO (cm : CalM X.prog X.w X.K X.mg X.base k C "__eq__" qual st ps sp) (hr : Room (k + 1) X.A) : OpR X (compareOp .Eq) (rEqDO C sp) := by
  intro pins s σ H x y v u Q I rx ry h
  obtain ⟨a, b, ka, kb, r, rfl, rfl, ne, ha, hb, hit, q⟩ := h
  obtain rfl : v = Value.ref a := rx
  obtain rfl : u = Value.ref b := ry
  have fa := I.nofrz ha trivial
  have fb := I.nofrz hb trivial
  obtain ⟨oa, I1⟩ := I.lock ha trivial
  have hb1 : upd H a (.frz oa (.dK ka)) b = some (.dK kb) := by rw [upd_ne (Ne.symm ne)]; exact hb
  obtain ⟨ob, I2⟩ := I1.lock hb1 trivial
  have ha2 : upd (upd H a (.frz oa (.dK ka))) b (.frz ob (.dK kb)) a = some (.frz oa (.dK ka)) := by rw [upd_ne ne]; exact upd_same
  have hb2 : upd (upd H a (.frz oa (.dK ka))) b (.frz ob (.dK kb)) b = some (.frz ob (.dK kb)) := upd_same
  have back : upd (upd (upd (upd H a (.frz oa (.dK ka))) b (.frz ob (.dK kb))) a (.dK ka)) b (.dK kb) = H := by
    funext c
    by_cases cb : c = b
    · subst cb; rw [upd_same, hb]
    · rw [upd_ne cb]
      by_cases ca : c = a
      · subst ca; rw [upd_same, ha]
      · rw [upd_ne ca, upd_ne cb, upd_ne ca]
  obtain ⟨_, ya, va, ra, da⟩ := (show ObjOk X.prog X.w H s.heap a (.dK ka) from I.hok a _ ha)
  obtain ⟨_, yb, vb, rb, db⟩ := (show ObjOk X.prog X.w H s.heap b (.dK kb) from I.hok b _ hb)
  show wpAny _ _ (compareOp .Eq (.ref a) (.ref b)) _ _ _
  unfold compareOp
  refine JX.eq_dicts (knd := mixKind X.prog X.w) (J := fun s => Inv X pins σ (upd (upd H a (.frz oa (.dK ka))) b (.frz ob (.dK kb))) s) ya yb (fun s I => (I.frzK ha2).2.1) (fun s I => (I.frzK hb2).2.1) I2 da db (by have := hr.units; omega) (hitO_run cm hr rb ra (hit oa ob)) fun s' I' => ?_
  have I3 := I'.unlock ha2 fa
  have I4 := I3.unlock (d := b) (od := ob) (u := .dK kb) (by rw [upd_ne (Ne.symm ne)]; exact hb2) fb
  rw [back] at I4
  refine ⟨_, H, I4, ?_, q⟩
  have l1 : ka.length = va.length := Paired.length ra
  have l2 : kb.length = vb.length := Paired.length rb
  rw [l1, l2]
  rfl
/-! ### dict == dict, the values lists and tuples told as data -/
inductive HitD (K : PySem.W.Frag) (H : Hp) (kb : List (Key × V)) : List (Key × V) → Bool → Prop
  | nil : HitD K H kb [] true
  | miss {k : Key} {v : V} {t : List (Key × V)} (no : valV kb k = none) : HitD K H kb ((k, v) :: t) false
  | hit {k : Key} {x y : V} {d e : PyData} {t : List (Key × V)} {b : Bool} (at_ : valV kb k = some y) (hx : Dp K H x d) (hy : Dp K H y e) (sx : SeqAt.shaped d = true) (sy : SeqAt.shaped e = true) (same : x = y → PyData.eqv d e = true) (ix : ∃ a, x = .ref a) (iy : ∃ a, y = .ref a) (tl : HitD K H kb t b) : HitD K H kb ((k, x) :: t) (PyData.eqv d e && b)
def rEqDD (K : PySem.W.Frag) : R2 := fun x y H Q => ∃ a b ka kb r, x = .ref a ∧ y = .ref b ∧ H a = some (.dK ka) ∧ H b = some (.dK kb) ∧ HitD K H kb ka r ∧ Q (.bl (ka.length == kb.length && r)) H
theorem hitD_run (hr : Room (k + 1) X.A) (I : Inv X pins σ H s) {kb : List (Key × V)} {vb : List (Key × Value)} (rb : KV kb vb) {ka : List (Key × V)} {va : List (Key × Value)} (ra : KV ka va) :
    ∀ {r : Bool}, HitD X.K H kb ka r → PySem.W.KeqHitsP X.prog X.w X.A.in1 s vb va r := by
  unfold KV at ra
  induction ra with
  | nil => intro r h; cases h; exact .nil
  | @cons p q ps qs h t ih =>
    intro r hh
    obtain ⟨h1, h2⟩ := h
    obtain ⟨key, v⟩ := q
    cases hh with
    | @miss k0 v0 _ no =>
      have h1 : k0 = key := h1
      subst h1
      refine .miss ?_
      have rr := rb.val k0
      rw [no] at rr
      cases hv : valueAt vb k0 with
      | none => rfl
      | some y => rw [hv] at rr; cases rr
    | @hit k0 x y d e _ b at_ hx hy sx sy same ix iy tl =>
      have h1 : k0 = key := h1
      subst h1
      have rr : RelO (some y) (valueAt vb k0) := by rw [← at_]; exact rb.val k0
      obtain ⟨y', hy', ry⟩ := rr.some_of
      have rx : RelV x v := h2
      obtain ⟨as, r1⟩ := Dp.reads I d x v hx rx
      obtain ⟨bs, r2⟩ := Dp.reads I e y y' hy ry
      refine .hit hy' (fun E Q hq => ?_) (ih tl)
      obtain ⟨a, rfl⟩ := ix
      obtain ⟨b2, rfl⟩ := iy
      cases (show v = Value.ref a from rx)
      cases (show y' = Value.ref b2 from ry)
      unfold eqBool
      refine wpAny_holding ?_
      refine wpAny_ite_split (fun hab => ?_) (fun _ => ?_)
      · have e1 : a = b2 := by have := eq_of_beq hab; injection this
        rw [same (by rw [e1])] at hq
        show wpAny (model X.prog X.w) X.A.in1 (pure true) Q E s
        exact wpAny_pure hq
      · refine wpAny_bind ?_
        have hc := SeqAt.compareEq_shaped (prog := X.prog) (E := E) (Q := fun v s' => wpAny (model X.prog X.w) X.A.in1 (truthOfDropped v) Q E s') r1 r2 sx sy (w := X.w) (A := X.A.in1) hr.in1.units (wpAny_truthy_bool hq)
        unfold compareOp at hc
        exact hc
theorem op_eqDD (hr : Room (k + 1) X.A) : OpR X (compareOp .Eq) (rEqDD X.K) := by
  intro pins s σ H x y v u Q I rx ry h
  obtain ⟨a, b, ka, kb, r, rfl, rfl, ha, hb, hit, q⟩ := h
  obtain rfl : v = Value.ref a := rx
  obtain rfl : u = Value.ref b := ry
  obtain ⟨_, ya, va, ra, da⟩ := (show ObjOk X.prog X.w H s.heap a (.dK ka) from I.hok a _ ha)
  obtain ⟨_, yb, vb, rb, db⟩ := (show ObjOk X.prog X.w H s.heap b (.dK kb) from I.hok b _ hb)
  show wpAny _ _ (compareOp .Eq (.ref a) (.ref b)) _ _ _
  unfold compareOp
  refine PySem.W.rcP_dicts (knd := mixKind X.prog X.w) ya yb da db (by have := hr.units; omega) (fun _ => hitD_run hr I rb ra hit) _ _ ?_
  refine ⟨_, H, I, ?_, q⟩
  have l1 : ka.length = va.length := Paired.length ra
  have l2 : kb.length = vb.length := Paired.length rb
  rw [l1, l2]
  rfl
/-! ### None or a row, compared -/
def rEqW (K : PySem.W.Frag) : R2 := fun x y H Q => rEqS K x y H Q ∨ rEqD K x y H Q ∨ (∃ a xs, (H a = some (.lst xs) ∨ H a = some (.tup xs)) ∧ ((x = .non ∧ y = .ref a) ∨ (x = .ref a ∧ y = .non)) ∧ Q (.bl false) H)
theorem op_eqW (hr : Room k X.A) (hu : X.A.units + 64 < cLine) : OpR X (compareOp .Eq) (rEqW X.K) := by
  intro pins s σ H x y v u Q I rx ry h
  rcases h with h | h | ⟨a, xs, ha, h, q⟩
  · exact op_eqS hr pins s σ H x y v u Q I rx ry h
  · exact op_eqD hu pins s σ H x y v u Q I rx ry h
  · have hu0 : X.A.units < cLine := by omega
    show wpAny _ _ (compareOp .Eq v u) _ _ _
    unfold compareOp
    rcases h with ⟨rfl, rfl⟩ | ⟨rfl, rfl⟩
    · cases (show v = Value.none from rx)
      cases (show u = Value.ref a from ry)
      rcases ha with ha | ha
      · obtain ⟨us, r1, p1, _⟩ := I.list (sqL ha)
        exact SeqAt.RcAt.none_list p1.isList hu0 _ _ _ _ ⟨.bl false, H, I, rfl, q⟩
      · obtain ⟨us, r1, p1, _⟩ := I.tuple (sqT ha)
        exact SeqAt.RcAt.none_tuple p1 hu0 _ _ _ _ ⟨.bl false, H, I, rfl, q⟩
    · cases (show v = Value.ref a from rx)
      cases (show u = Value.none from ry)
      rcases ha with ha | ha
      · obtain ⟨us, r1, p1, _⟩ := I.list (sqL ha)
        exact SeqAt.RcAt.list_none p1.isList hu0 _ _ _ _ ⟨.bl false, H, I, rfl, q⟩
      · obtain ⟨us, r1, p1, _⟩ := I.tuple (sqT ha)
        exact SeqAt.RcAt.tuple_none p1 hu0 _ _ _ _ ⟨.bl false, H, I, rfl, q⟩
end
end J
namespace J
open PySem PySem.Spec PyProof.Rows L2
/-! ### {k: v for ..} whose value may raise -/
abbrev blkX (X : Cx) (s : Shared) (H : Hp) (scope : Scope) (cenv : Env) (fp : List Addr) (xe : Value → Shared → Prop) : Cx := { X.blk s H scope cenv fp with xe := xe }
section
variable {M : Model} {A : Around} {E : Value → Shared → Prop} {s : Shared} {Z : Obj → Prop} {base : Heap} {env : Env} {outer l : List Env} {L e : Addr}
/-- noted elsewhere, then by this frame -/
theorem looks_atZ {fl : Value} {Q : Unit → Shared → Prop} (hZ : HandSPX.Steady Z) (hfr : A.frames = some (env :: outer)) (hf : env.frame = some L) (hfl : (fl == rawInt L) = false)
    (hkb : base.StaysIn s.heap) (hen : base.get? e = none) (hl : s.heap.FunFrames base (env :: outer)) (ht : HandSPX.TracedZ s.heap base e Z fl)
    (hQ : ∀ h', HandSPX.HeldZ base (env :: outer) e Z L h' → s.heap.UpToSlots h' → Q () { s with heap := h' }) : wpAny M A (noteFrame (.ref e) env) Q E s := by
  obtain ⟨oe, vs, T, oT, ts, he, hz, hd, h1, hnT, hTe, hT, hdT, h3⟩ := ht
  unfold noteFrame
  simp only [hf]
  refine wpAny_bind (wpAny_field he hd h1 ?_)
  rw [if_pos (show (Value.ref T != Value.none) = true from by simp)]
  refine wpAny_bind (wpAny_field hT hdT h3 ?_)
  rw [if_neg (show ¬ ((fl == rawInt L) = true) from by rw [hfl]; exact Bool.false_ne_true)]
  refine wpAny_bind (wpAny_setField hT hdT (Array.getElem?_eq_some_iff.mp h3).1 ?_)
  have other : ∀ b, b ≠ T → (s.heap.update T (Obj.mapFields (·.setIfInBounds 3 Value.none))).get? b = s.heap.get? b := fun b hb => Heap.get?_update_other _ _ (Ne.symm hb)
  have noRecord : ∀ b o, s.heap.get? b = some o → (∀ vs, o.data ≠ .fields vs) → b ≠ T := fun b o hb hnf q => by
    rw [q, hT] at hb; injection hb with hb; subst hb; exact hnf ts hdT
  refine HandSPX.wpAny_entryZ hZ hfr (hl.of_keeps fun b o hb hnf => ⟨o, (other b (noRecord b o hb hnf)).trans hb, rfl⟩) hf ((other e (Ne.symm hTe)).trans he)
    (fun b o hbo => (other b fun q => by rw [q, hnT] at hbo; cases hbo).trans (hkb b o hbo)) hen hd (Array.getElem?_eq_some_iff.mp h1).1 hz fun h' hN => ?_
  obtain ⟨x1, x2, x3, x4⟩ := hN
  exact hQ h' ⟨x1, hen, x2, x3⟩ fun b o hb hnf => x4 b o ((other b (noRecord b o hb hnf)).trans hb) hnf
end
section
variable {X : Cx}
/-- an exception of the block is one of the def's -/
theorem blk_err {W0 : WX} {pins : List (Addr × Obj)} {σ : L2.St} {H3 : Hp} {s3 : Shared} {scope : Scope} {ce : Env} {fp : List Addr} {xe : Value → Shared → Prop} (I3 : Inv X pins σ H3 s3) (tk : Takes X W0) (hst : X.stack = X.env :: X.outer) (hfr : X.env.frame = some X.env.locals)
    (hfp : ∀ b ∈ fp, FpOk X pins H3 b) (hcl : ce.locals = s3.heap.objs.size) (hcf : ce.frame = X.env.frame) {u : Value} {s' : Shared} (x : XE (blkX X s3 H3 scope ce fp xe) (fun c d _ H => W0 c d σ H) u s') :
    notedBy (model X.prog X.w) X.A ce (CompFails (model X.prog X.w) X.A X.xe ce) u s' := by
  obtain ⟨a, B, sI, pins', σ', H, cls, d, rfl, I, nb, up, sky, na, os, ag, w⟩ := x
  have hA : X.A.frames = some (X.env :: X.outer) := by rw [I3.ok.frames, hst]
  have sky' : Sky B (X.env :: X.outer) a (Zc cls d) ce.locals s'.heap := by rw [← hst]; exact sky
  have nC : H ce.locals = none := I.free
  obtain ⟨m0, hm0, _⟩ := I.loc
  have hm0 : sI.heap.Ns ce.locals m0 := hm0
  have hm1 : s'.heap.Ns ce.locals m0 := hm0.upToSlots up
  have neL : ce.locals ≠ X.env.locals := by
    rw [hcl]
    exact Nat.ne_of_gt I3.lt
  have go : ∀ h1, HandSPX.HeldZ B (X.env :: X.outer) a (Zc cls d) X.env.locals h1 → s'.heap.UpToSlots h1 → CompFails (model X.prog X.w) X.A X.xe ce (.ref a) { s' with heap := h1 } := fun h1 hh up1 => by
    have hm2 : h1.Ns ce.locals m0 := hm1.upToSlots up1
    refine ⟨m0, hm2, fun h2 m2 hn2 sb => ?_⟩
    obtain ⟨st, hen, fr, oe, vs, T, oT, ts, he, hz, hd, e1, hnT, hTe, hT, hdT, e3⟩ := hh
    obtain ⟨oC, es, ep, hoC, hdC, _⟩ := id hm2
    have nf : ∀ b o vs, h1.get? b = some o → o.data = .fields vs → b ≠ ce.locals := fun b o vs q r z => by
      rw [z, hoC] at q
      cases q
      rw [hdC] at r
      cases r
    have same : ∀ b, b ≠ ce.locals → h2.get? b = h1.get? b := fun b hb => sb.2 b hb
    have bh : ∀ b o, (PySem.W.hideAll B [ce.locals]).get? b = some o → b ≠ ce.locals ∧ B.get? b = some o := fun b o q => by
      refine ⟨fun z => ?_, PySem.W.of_hideAll _ q⟩
      rw [z, PySem.W.hideAll_none _ (by simp)] at q
      cases q
    have hid : ∀ (G : Heap) b, G.get? b = none → (PySem.W.hideAll G [ce.locals]).get? b = none := fun G b q => by
      cases z : (PySem.W.hideAll G [ce.locals]).get? b with
      | none => rfl
      | some o =>
        have := PySem.W.of_hideAll _ z
        rw [q] at this
        cases this
    have f2 : h2.FunFrames (PySem.W.hideAll B [ce.locals]) (X.env :: X.outer) := Heap.FunFrames.sameBut sb hn2 (funFrames_none fr fun b hb => hid B b (fr.mem hb).1)
    have hh2 : HandSPX.HeldZ (PySem.W.hideAll B [ce.locals]) (X.env :: X.outer) a (Zc cls d) X.env.locals h2 := by
      refine ⟨fun b o q => ?_, hid B a hen, f2, oe, vs, T, oT, ts, by rw [same a (nf _ _ _ he hd)]; exact he, hz, hd, e1, hid B T hnT, hTe, by rw [same T (nf _ _ _ hT hdT)]; exact hT, hdT, e3⟩
      obtain ⟨q1, q2⟩ := bh b o q
      rw [same b q1]
      exact st b o q2
    have he2 : h2.get? a = some oe := by rw [same a (nf _ _ _ he hd)]; exact he
    unfold PySem.passOn
    refine wpAny_bind (wpAny_field (s := { s' with heap := h2 }) he2 hd e1 ?_)
    rw [if_neg (show ¬ ((Value.ref T == Value.none) = true) from by simp)]
    rw [hcf, hfr]
    refine wpAny_bind (HandSPX.setFlight_onZ (s := { s' with heap := h2 }) hh2 fun h3 hh3 up3 => ?_)
    refine wpAny_throw ?_
    have J : Inv X pins σ H sI := I3.call' (ch := fp) I.os I.base I.hok I.bare fun b hb => ⟨(hfp b hb).2.2.2.1, (hfp b hb).2.1, (hfp b hb).2.2.2.2.1, (hfp b hb).2.2.2.2.2⟩
    have ff := I3.fpOk (H' := H) (Nat.le_of_eq hcl.symm) nC
    obtain ⟨f0, f1, f2', f3, f4, f5⟩ := ff
    have J2 := J.turned (it := ce.locals) (h' := PySem.W.hideAll sI.heap [ce.locals]) (t' := sI.toks) (fun b o hb q => PySem.W.hideAll_get _ q (by simpa using hb)) f0 f1 f3 f4 f5
    refine tk _ _ ⟨a, PySem.W.hideAll B [ce.locals], _, pins, σ, H, cls, d, rfl, J2, fun b o q hb => ?_, fun b o q hnf => ?_, ?_, na, os, ag, w⟩
    · have q' := PySem.W.of_hideAll _ q
      have hb' : b ≠ ce.locals := fun z => by
        rw [z, PySem.W.hideAll_none _ (by simp)] at q
        cases q
      exact PySem.W.hideAll_get _ (nb b o q' hb) (by simpa using hb')
    · have q' := PySem.W.of_hideAll _ q
      have hb' : b ≠ ce.locals := fun z => by
        rw [z, PySem.W.hideAll_none _ (by simp)] at q
        cases q
      obtain ⟨sl1, g1⟩ := up b o q' hnf
      obtain ⟨sl2, g2⟩ := up1 b _ g1 hnf
      have g3 : h2.get? b = some { o with slots := sl2 } := (same b hb').trans g2
      obtain ⟨sl3, g4⟩ := up3 b _ g3 hnf
      exact ⟨sl3, g4⟩
    · rw [hst]
      exact .inr (.inr hh3)
  show wpAny _ _ (noteFrame (.ref a) ce) _ _ s'
  rw [noteFrame_env _ hcf]
  rcases sky' with ⟨hB, hn, hl, oe, vs, he, hz, hd, h1⟩ | fl | hh
  · exact HandSPX.look_newZ Zc.steady hA hl hfr he hB hn hd h1 hz go
  · exact HandSPX.looks_onZ Zc.steady hA hfr fl go
  · exact looks_atZ Zc.steady hA hfr (by simp only [rawInt]; simpa using (fun z => neL (Int.ofNat.inj z) : ¬ ((ce.locals : Int) = (X.env.locals : Int)))) hh.1 hh.2.1 hh.2.2.1 hh.2.2.2 go
theorem dc_coreX {pins : List (Addr × Obj)} {s : Shared} {σ : L2.St} {H : Hp} {Q : VK} {kx vx tg iter : Expr} {ifs : List Expr} {scope : Scope} {own : List (Str × Nat)} {pos pos' : Pos} {wi : TI} {g : TG} {tt : TT} {tk : TE} {tv : WX → TE} {W0 : WX} {use : Option (Value → Sem Unit)} {Qf : Value → Shared → Prop}
    (hc : X.calm = true) (hN : X.N.Nodup) (I : Inv X pins σ H s) (tkx : Takes X W0) (hst : X.stack = X.env :: X.outer) (hfr : X.env.frame = some X.env.locals) (hi : L2.PI X tg iter wi) (ok : BlkOk X.N X.env.scope scope own)
    (hg : ∀ (s : Shared) (H : Hp) (C : Addr) (cl : List (Str × Addr)) (fp : List Addr) (xe : Value → Shared → Prop), PG (blkX X s H scope (compEnvC scope cl C X.env) fp xe) tg g)
    (ht : ∀ (s : Shared) (H : Hp) (C : Addr) (cl : List (Str × Addr)) (fp : List Addr) (xe : Value → Shared → Prop), PTs (blkX X s H scope (compEnvC scope cl C X.env) fp xe) ifs tt)
    (hk : ∀ (s : Shared) (H : Hp) (C : Addr) (cl : List (Str × Addr)) (fp : List Addr) (xe : Value → Shared → Prop), PE (blkX X s H scope (compEnvC scope cl C X.env) fp xe) kx tk)
    (he : ∀ (s : Shared) (H : Hp) (C : Addr) (cl : List (Str × Addr)) (fp : List Addr) (xe : Value → Shared → Prop) (W : WX), Takes (blkX X s H scope (compEnvC scope cl C X.env) fp xe) W → PE (blkX X s H scope (compEnvC scope cl C X.env) fp xe) vx (tv W)) (hs : ∀ x, foldedSetIterable iter X.env x = pure x)
    (h : tDc wi g tt tk (tv fun c d _ H => W0 c d σ H) (own.map (·.2)) σ H Q)
    (hRR : ∀ D (ce : Env) s' m H', Inv X pins σ H' s' → Q (.ref D) H' → s'.heap.Ns ce.locals m → FpOk X pins H' ce.locals → compEnds (model X.prog X.w) X.A X.xe use Qf (.ref D) ce (.ok .next) s') :
    wpAny (model X.prog X.w) X.A (comprehension (.DictComp kx vx [⟨tg, iter, ifs, 0⟩] scope pos) scope X.env pos' newDict false (eval iter X.env) use) Qf X.xe s := by
  have hfree : ∀ y ∈ scope.names, y.2 = .free → ∃ c, X.env.cells.lookup y.1 = some c := fun y hy e => by
    rcases ok.free y hy e with k | k
    · exact I.ok.has _ (.inl k)
    · exact I.ok.has _ (.inr k)
  refine comprehension_at (use := use) rfl hs (closure_ok hfree) ok.kind (fun y hy e => by rw [ok.uniq y hy, e])
    (thn (hi.run pins s σ H _ I h) fun xv s1 hx => thn hx fun itv s2 h2 => ?_)
  obtain ⟨it, fp, tn, J, H2, e, I2, T, st2, f2, q⟩ := h2
  subst e
  refine wpAny_newObj_type (newEnv_comp ?_)
  generalize hD : s2.heap.objs.size = D
  have hDn : H2 D = none := I2.hok.fresh (Nat.le_of_eq hD)
  obtain ⟨W, ⟨m0, w0⟩, turn⟩ := q D hDn
  generalize hs3 : ({ s2 with heap := s2.heap.push { cls := .type "dict", data := .dict #[] } } : Shared) = s3
  have I3 : Inv X pins σ (upd H2 D (.dK [])) s3 := by
    rw [← hs3]
    refine I2.laid (t' := s2.toks) (fun b o e => Heap.get?_push_of_some _ e) (Nat.le_of_eq hD) ?_
    rw [← hD]
    exact dk_empty s2.heap I2.big
  have h3 : s3.heap = s2.heap.push { cls := .type "dict", data := .dict #[] } := by rw [← hs3]
  have sz : ∀ b ∈ fp, b < s2.heap.objs.size := fun b hb => by
    obtain ⟨o, e, _⟩ := T.obj _ _ st2 b hb
    exact Heap.lt_size e
  have f3 : ∀ b ∈ fp, FpOk X pins (upd H2 D (.dK [])) b ∧ b < s3.heap.objs.size := fun b hb => by
    have hlt := sz b hb
    refine ⟨⟨?_, (f2 b hb).2⟩, by rw [h3, Heap.size_push]; exact Nat.lt_succ_of_lt hlt⟩
    rw [upd_ne (by rw [← hD]; exact Nat.ne_of_lt hlt)]
    exact (f2 b hb).1
  have st3 : tn 0 s3.heap := T.keep _ _ _ st2 fun b _ o e => by rw [h3]; exact Heap.get?_push_of_some _ e
  have I4 := block_start I3 ok hN f3
  show codeAny _ _ (.compStart (.DictComp kx vx [⟨tg, iter, ifs, 0⟩] scope pos) 0 (.ref it) (.ref D) (compEnvC scope (cellsFrom (s3.heap.objs.size + 1) scope.names (cloFrom X.env.cells scope.names [])) s3.heap.objs.size X.env)) (compEnds (model X.prog X.w) X.A X.xe use Qf (.ref D) (compEnvC scope (cellsFrom (s3.heap.objs.size + 1) scope.names (cloFrom X.env.cells scope.names [])) s3.heap.objs.size X.env)) { s3 with heap := pushCells (s3.heap.push { cls := .type "dict", data := .dict #[] }) scope.names }
  have nfp : ∀ b ∈ fp, (upd H2 D (.dK [])) b = none := fun b hb => (f3 b hb).1.1
  have pg := hg s3 (upd H2 D (.dK [])) s3.heap.objs.size (cellsFrom (s3.heap.objs.size + 1) scope.names (cloFrom X.env.cells scope.names [])) fp
  have pt := ht s3 (upd H2 D (.dK [])) s3.heap.objs.size (cellsFrom (s3.heap.objs.size + 1) scope.names (cloFrom X.env.cells scope.names [])) fp
  have pk := hk s3 (upd H2 D (.dK [])) s3.heap.objs.size (cellsFrom (s3.heap.objs.size + 1) scope.names (cloFrom X.env.cells scope.names [])) fp
  have pe := he s3 (upd H2 D (.dK [])) s3.heap.objs.size (cellsFrom (s3.heap.objs.size + 1) scope.names (cloFrom X.env.cells scope.names [])) fp
  generalize hce : compEnvC scope (cellsFrom (s3.heap.objs.size + 1) scope.names (cloFrom X.env.cells scope.names [])) s3.heap.objs.size X.env = ce at I4 pg pt pk pe ⊢
  have cL : ce.locals = s3.heap.objs.size := by subst hce; rfl
  have cF : ce.frame = X.env.frame := by subst hce; rfl
  generalize hxe : (fun u s' => notedBy (model X.prog X.w) X.A ce (CompFails (model X.prog X.w) X.A X.xe ce) u s' : Value → Shared → Prop) = xe
  have tkb : Takes (blkX X s3 (upd H2 D (.dK [])) scope ce fp xe) (fun c d _ H => W0 c d σ H) := fun u s' x => by
    subst hxe
    exact blk_err I3 tkx hst hfr (fun b hb => (f3 b hb).1) cL cF x
  have pg := pg xe
  have pt := pt xe
  have pk := pk xe
  have pe := pe xe _ tkb
  have I4 : Inv (blkX X s3 (upd H2 D (.dK [])) scope ce fp xe) [] (wipe σ (own.map (·.2))) (upd H2 D (.dK [])) { s3 with heap := pushCells (s3.heap.push { cls := .type "dict", data := .dict #[] }) scope.names } := I4.wish xe
  generalize hH3 : upd H2 D (.dK []) = H3 at I3 I4 pg pt pk pe w0 nfp f3
  generalize hs4 : ({ s3 with heap := pushCells (s3.heap.push { cls := .type "dict", data := .dict #[] }) scope.names } : Shared) = s4 at I4 ⊢
  have st4 : tn 0 s4.heap := T.keep _ _ _ st3 fun b _ o e => by rw [← hs4]; exact pushCells_keeps _ _ _ _ (Heap.get?_push_of_some _ e)
  have stat : ∀ {σ' : L2.St} {H' : Hp} {s' : Shared}, Inv (blkX X s3 H3 scope ce fp xe) [] σ' H' s' → (∀ b ∈ fp, H' b = none) → ∀ b ∈ fp, FpOk (blkX X s3 H3 scope ce fp xe) [] H' b := fun {σ' H' s'} I' hn b hb =>
    ⟨hn b hb, (I'.ok.exf b hb).1, I'.ok.exfs b hb, .inl hb, fun x c e => (I'.ok.exf b hb).2 x c e, fun p hp => absurd (show p ∈ ([] : List (Addr × Obj)) ++ [] from hp) (by simp)⟩
  have err : ∀ e s', xe e s' → notedBy (model X.prog X.w) X.A ce (fun e s' => compEnds (model X.prog X.w) X.A X.xe use Qf (.ref D) ce (.error e) s') e s' := fun e s' z => by
    subst hxe
    cases use <;> exact z
  have thnX : ∀ {α : Type} {t : Sem α} {Q Q' : α → Shared → Prop} {s : Shared}, wpAny (model X.prog X.w) X.A t Q xe s → (∀ a s, Q a s → Q' a s) → wpAny (model X.prog X.w) X.A t Q' (notedBy (model X.prog X.w) X.A ce fun e s' => compEnds (model X.prog X.w) X.A X.xe use Qf (.ref D) ce (.error e) s') s := fun h hQ => wpAny_mono h hQ err
  have loop : codeAny (model X.prog X.w) X.A (.compLoop (.DictComp kx vx [⟨tg, iter, ifs, 0⟩] scope pos) 0 (.ref it) (.ref D) ce) (compEnds (model X.prog X.w) X.A X.xe use Qf (.ref D) ce) s4 := by
    refine compLoop_anyD (fun n s' => ∃ i H', Inv (blkX X s3 H3 scope ce fp xe) [] (wipe σ (own.map (·.2))) H' s' ∧ tn i s'.heap ∧ (∀ b ∈ fp, H' b = none) ∧ W i n H') ?_ m0 ⟨0, H3, I4, st4, nfp, w0⟩
    rintro n s5 ⟨i, H5, I5, st5, n5, w5⟩
    rcases turn i n H5 w5 with ⟨stop, qq⟩ | ⟨go, Nx, hNx, step⟩
    · have td := T.done (blkX X s3 H3 scope ce fp xe) rfl rfl rfl hc i [] s5 _ H5 (fun _ _ => False) I5 (stat I5 n5) st5 stop
      refine thnF td fun r s6 ⟨hr, I6⟩ => ?_
      subst hr
      have I7 : Inv X pins σ H5 s6 := I3.call' (ch := fp) I6.os I6.base I6.hok I6.bare fun b hb => ⟨(f3 b hb).1.2.2.2.1, (f3 b hb).1.2.1, (f3 b hb).1.2.2.2.2.1, (f3 b hb).1.2.2.2.2.2⟩
      have nC : H5 ce.locals = none := I6.free
      obtain ⟨m, hn, _⟩ := I6.loc
      have hn : s6.heap.Ns ce.locals m := hn
      exact hRR D ce s6 m H5 I7 qq hn (I3.fpOk (Nat.le_of_eq cL.symm) nC)
    · have ti := T.item (blkX X s3 H3 scope ce fp xe) rfl rfl rfl hc i [] s5 _ H5 (fun _ _ => False) I5 (stat I5 n5) st5 go
      refine thnF ti fun r s6 ⟨u, hr, h6⟩ => ?_
      subst hr
      refine thnF h6 fun _ s7 ⟨x, H7, I7, r7, y7, st7, n7⟩ => ?_
      have I7' := I7.pinned (stat I7 n7) (T.obj _ _ st7)
      refine thnX (pg.run _ s7 _ H7 x u _ I7' r7 (step x H7 y7)) fun _ s8 ⟨σ8, H8, I8, hw8, q8⟩ => ?_
      refine thnX (pt.run _ s8 σ8 H8 _ I8 q8) fun b s9 ⟨H9, I9, q9⟩ => ?_
      have fin : ∀ {s' : Shared} {H' : Hp}, Inv (blkX X s3 H3 scope ce fp xe) ([] ++ pinsAt fp s7.heap) σ8 H' s' → Nx H' → ∃ m, m < n ∧ ∃ i H', Inv (blkX X s3 H3 scope ce fp xe) [] (wipe σ (own.map (·.2))) H' s' ∧ tn i s'.heap ∧ (∀ b ∈ fp, H' b = none) ∧ W i m H' := fun {s' H'} I' nx => by
        obtain ⟨m', hm, w'⟩ := hNx H' nx
        have pin' : ∀ b ∈ fp, ∀ o, s7.heap.get? b = some o → s'.heap.get? b = some o ∧ H' b = none := fun b hb o e =>
          let z := I'.pin (b, o) (List.mem_append_right _ (List.mem_append_right _ (mem_pinsAt hb e)))
          ⟨z.1, z.2.1⟩
        have hl : (wipe σ (own.map (·.2))).length = σ8.length := by rw [← hw8, wipe_length]
        refine ⟨m', hm, i + 1, H', (I'.unpinned (pins := [])).weak hl (fun j v e => ?_), T.keep _ _ _ st7 fun b hb o e => (pin' b hb o e).1, fun b hb => ?_, w'⟩
        · rw [← hw8] at e
          exact (wipe_some e).1
        · obtain ⟨o, e, _⟩ := T.obj _ _ st7 b hb
          exact (pin' b hb o e).2
      cases b with
      | false =>
        simp only [Bool.false_eq_true, if_false] at q9 ⊢
        exact fin I9 q9
      | true =>
        simp only [if_true] at q9 ⊢
        refine thnX (pk.run _ s9 σ8 H9 _ I9 q9) fun z s10 ⟨yk, H10, I10, r10, q10⟩ => ?_
        refine thnX (pe.run _ s10 σ8 H10 _ I10 q10) fun z2 s11 ⟨yv, H11, I11, r11, kvs, k, ek, hD11, hz11, nx⟩ => ?_
        subst ek
        exact d_dictSet (X := blkX X s3 H3 scope ce fp xe) I11 hD11 hz11 r10 r11 fun s12 I12 => fin I12 nx
  exact codeAny_compStart_dict loop (T.self X.A 0 _ _ _ st4 loop)
/-- {k: v for ..}, v wished for as W has it at the def's slots -/
def tDcX (wi : TI) (g : TG) (tt : TT) (tk : TE) (tv : WX → TE) (vs : List Nat) (W0 : WX) : TE := fun σ H Q => tDc wi g tt tk (tv fun c d _ H => W0 c d σ H) vs σ H Q
theorem w_dcX {wi : TI} {g : TG} {tt : TT} {tk : TE} {tv : WX → TE} {vs : List Nat} {W0 : WX} {σ : L2.St} {H : Hp} {Q : VK} (h : wi σ H (DcG g tt tk (tv fun c d _ H => W0 c d σ H) vs σ Q)) : tDcX wi g tt tk tv vs W0 σ H Q := h
/-- name = {k: v for ..} on one line -/
theorem ps_setDcX {i : Nat} {y : Str} {py : Pos} {kx vx tg iter : Expr} {ifs : List Expr} {scope : Scope} {own : List (Str × Nat)} {pos spos : Pos} {wi : TI} {g : TG} {tt : TT} {tk : TE} {tv : WX → TE} {W0 : WX} (hc : X.calm = true) (hN : X.N.Nodup) (hy : X.N[i]? = some y) (hyl : X.env.scope.names.lookup y = some .local)
    (hsw : swapsWith (.DictComp kx vx [⟨tg, iter, ifs, 0⟩] scope pos) (some (.Name y py)) spos.line X.env = pure true) (tkx : Takes X W0) (hst : X.stack = X.env :: X.outer) (hfr : X.env.frame = some X.env.locals) (hi : L2.PI X tg iter wi) (ok : BlkOk X.N X.env.scope scope own)
    (hg : ∀ (s : Shared) (H : Hp) (C : Addr) (cl : List (Str × Addr)) (fp : List Addr) (xe : Value → Shared → Prop), PG (blkX X s H scope (compEnvC scope cl C X.env) fp xe) tg g)
    (ht : ∀ (s : Shared) (H : Hp) (C : Addr) (cl : List (Str × Addr)) (fp : List Addr) (xe : Value → Shared → Prop), PTs (blkX X s H scope (compEnvC scope cl C X.env) fp xe) ifs tt)
    (hk : ∀ (s : Shared) (H : Hp) (C : Addr) (cl : List (Str × Addr)) (fp : List Addr) (xe : Value → Shared → Prop), PE (blkX X s H scope (compEnvC scope cl C X.env) fp xe) kx tk)
    (he : ∀ (s : Shared) (H : Hp) (C : Addr) (cl : List (Str × Addr)) (fp : List Addr) (xe : Value → Shared → Prop) (W : WX), Takes (blkX X s H scope (compEnvC scope cl C X.env) fp xe) W → PE (blkX X s H scope (compEnvC scope cl C X.env) fp xe) vx (tv W)) (hs : ∀ x, foldedSetIterable iter X.env x = pure x := by intro _; rfl) :
    PS X (.Assign [.Name y py] (.DictComp kx vx [⟨tg, iter, ifs, 0⟩] scope pos) spos) (tAsg (tDcX wi g tt tk tv (own.map (·.2)) W0) (gName i)) := by
  constructor
  intro pins s σ H D I q0
  rw [exec_Assign_Name_used _ _ _ _ hsw]
  refine wpAny_bind (wpAny_standAt (wpAny_bind ?_))
  show wpAny _ X.A (do let _ ← comprehension (.DictComp kx vx [⟨tg, iter, ifs, 0⟩] scope pos) scope X.env (firstIterPos [⟨tg, iter, ifs, 0⟩] pos) newDict false (eval iter X.env) (some (assign (.Name y py) X.env))) _ _ s
  have q1 : tDcX wi g tt tk tv (own.map (·.2)) W0 σ H (fun x H1 => gName i x σ H1 D.nx) := q0
  refine wpAny_bind (thn (dc_coreX (Qf := fun _ t => SP X pins D .next t) hc hN I tkx hst hfr hi ok hg ht hk he hs q1 fun L ce t m H' J q hn f => ?_) fun _ t z => wpAny_pure (wpAny_pure z))
  show wpAny _ _ (assign (.Name y py) X.env (.ref L)) _ _ _
  obtain ⟨f0, f1, f2, f3, f4, f5⟩ := f
  refine wpAny_assign_Name (store_ok2 (v := V.ref L) J hN hy (.inl hyl) rfl (fun t2 J2 ⟨a, sb, ha⟩ => ?_) (.inr hyl))
  have apart : ce.locals ≠ a := fun e => by
    rcases ha with z | z
    · exact f1 (e.trans z)
    · exact f4 y a z e.symm
  refine ⟨m, hn.sameBut sb apart, fun h3 sb3 => ⟨_, H', ?_, q⟩⟩
  exact J2.turned (t' := t2.toks) (fun b o hb e => (sb3.2 b hb).trans e) f0 f1 f3 f4 f5
end
end J
namespace J
open PySem PySem.Spec PyProof.Rows L2
/-! ### rolling downhill between the tops and the valleys of a round -/
def TopP (W : Int → Int) (i : Int) : Prop := W (i - 1) < W i ∧ W (i + 1) < W i
def ValP (W : Int → Int) (i : Int) : Prop := W i < W (i - 1) ∧ W i < W (i + 1)
instance (W : Int → Int) (i : Int) : Decidable (TopP W i) := inferInstanceAs (Decidable (_ ∧ _))
instance (W : Int → Int) (i : Int) : Decidable (ValP W i) := inferInstanceAs (Decidable (_ ∧ _))
structure Hills (N : Int) (W : Int → Int) : Prop where
  n2 : 2 ≤ N
  per : ∀ i k, W (i + N * k) = W i
  ne : ∀ i, W i ≠ W (i + 1)
section
variable {N : Int} {W : Int → Int}
theorem Hills.lt (h : Hills N W) {i : Int} (g : ¬ W i < W (i + 1)) : W (i + 1) < W i := by
  have := h.ne i
  omega
theorem Hills.gt (h : Hills N W) {i : Int} (g : ¬ W (i + 1) < W i) : W i < W (i + 1) := by
  have := h.ne i
  omega
theorem Hills.desc (h : Hills N W) {t : Int} (hf : W (t + 1) < W t) {m : Nat} (no : ∀ j : Nat, 1 ≤ j → j < m → ¬ ValP W (t + j)) : ∀ j : Nat, j < m → W (t + j + 1) < W (t + j)
  | 0, _ => by simpa using hf
  | j + 1, hj => by
    have ih := h.desc hf no j (by omega)
    have nv := no (j + 1) (by omega) hj
    refine h.lt fun z => nv ⟨?_, z⟩
    rw [show t + ((j + 1 : Nat) : Int) - 1 = t + j by omega, show t + ((j + 1 : Nat) : Int) = t + j + 1 by omega]
    exact ih
theorem Hills.asc (h : Hills N W) {v : Int} (hf : W v < W (v + 1)) {m : Nat} (no : ∀ j : Nat, 1 ≤ j → j < m → ¬ TopP W (v + j)) : ∀ j : Nat, j < m → W (v + j) < W (v + j + 1)
  | 0, _ => by simpa using hf
  | j + 1, hj => by
    have ih := h.asc hf no j (by omega)
    have nv := no (j + 1) (by omega) hj
    refine h.gt fun z => nv ⟨?_, z⟩
    rw [show v + ((j + 1 : Nat) : Int) - 1 = v + j by omega, show v + ((j + 1 : Nat) : Int) = v + j + 1 by omega]
    exact ih
theorem Hills.top (h : Hills N W) {i k : Int} : TopP W (i + N * k) ↔ TopP W i := by
  unfold TopP
  rw [show i + N * k - 1 = i - 1 + N * k by omega, show i + N * k + 1 = i + 1 + N * k by omega, h.per, h.per, h.per]
theorem Hills.val (h : Hills N W) {i k : Int} : ValP W (i + N * k) ↔ ValP W i := by
  unfold ValP
  rw [show i + N * k - 1 = i - 1 + N * k by omega, show i + N * k + 1 = i + 1 + N * k by omega, h.per, h.per, h.per]
theorem Hills.topM (h : Hills N W) {i : Int} : TopP W (i % N) ↔ TopP W i := by
  have e := Int.mul_ediv_add_emod i N
  rw [← h.top (i := i % N) (k := i / N), show i % N + N * (i / N) = i by omega]
theorem Hills.valM (h : Hills N W) {i : Int} : ValP W (i % N) ↔ ValP W i := by
  have e := Int.mul_ediv_add_emod i N
  rw [← h.val (i := i % N) (k := i / N), show i % N + N * (i / N) = i by omega]
def topsT (W : Int → Int) (n : Nat) : List Int := ((List.range n).map fun i : Nat => (i : Int)).filter fun i => decide (TopP W i)
def valsT (W : Int → Int) (n : Nat) : List Int := ((List.range n).map fun i : Nat => (i : Int)).filter fun i => decide (ValP W i)
theorem topsT_succ {n : Nat} : topsT W (n + 1) = topsT W n ++ (if TopP W n then [(n : Int)] else []) := by
  unfold topsT
  rw [List.range_succ, List.map_append, List.filter_append]
  by_cases h : TopP W n <;> simp [h]
theorem valsT_succ {n : Nat} : valsT W (n + 1) = valsT W n ++ (if ValP W n then [(n : Int)] else []) := by
  unfold valsT
  rw [List.range_succ, List.map_append, List.filter_append]
  by_cases h : ValP W n <;> simp [h]
theorem mem_topsT {n : Nat} {i : Int} : i ∈ topsT W n ↔ 0 ≤ i ∧ i < n ∧ TopP W i := by
  unfold topsT
  rw [List.mem_filter, List.mem_map, decide_eq_true_iff]
  constructor
  · rintro ⟨⟨j, hj, rfl⟩, h⟩
    exact ⟨by omega, by have := List.mem_range.mp hj; omega, h⟩
  · rintro ⟨h0, h1, h⟩
    exact ⟨⟨i.toNat, List.mem_range.mpr (by omega), by omega⟩, h⟩
theorem mem_valsT {n : Nat} {i : Int} : i ∈ valsT W n ↔ 0 ≤ i ∧ i < n ∧ ValP W i := by
  unfold valsT
  rw [List.mem_filter, List.mem_map, decide_eq_true_iff]
  constructor
  · rintro ⟨⟨j, hj, rfl⟩, h⟩
    exact ⟨by omega, by have := List.mem_range.mp hj; omega, h⟩
  · rintro ⟨h0, h1, h⟩
    exact ⟨⟨i.toNat, List.mem_range.mpr (by omega), by omega⟩, h⟩
theorem topsT_asc {n : Nat} : (topsT W n).Pairwise (· < ·) := by
  unfold topsT
  refine List.Pairwise.filter _ ?_
  rw [List.pairwise_map]
  exact List.pairwise_lt_range.imp fun h => by omega
/-- as many tops as valleys -/
theorem Hills.count (h : Hills N W) : (topsT W N.toNat).length = (valsT W N.toNat).length := by
  have n2 := h.n2
  have r : ∀ i : Int, W (i - 1) < W i ∨ W i < W (i - 1) := fun i => by
    have := h.ne (i - 1)
    rw [show i - 1 + 1 = i by omega] at this
    omega
  have key : ∀ n : Nat, (topsT W n).length + (if W ((n : Int) - 1) < W n then 1 else 0) = (valsT W n).length + (if W (-1) < W 0 then 1 else 0) := by
    intro n
    induction n with
    | zero => simp [topsT, valsT]
    | succ n ih =>
      rw [topsT_succ, valsT_succ, List.length_append, List.length_append]
      have a := r n
      have b := r ((n : Int) + 1)
      rw [show (n : Int) + 1 - 1 = n by omega] at b
      have e1 : ((n + 1 : Nat) : Int) - 1 = n := by omega
      have e2 : ((n + 1 : Nat) : Int) = (n : Int) + 1 := by omega
      rw [e1, e2]
      unfold TopP ValP
      rcases a with a | a <;> rcases b with b | b
      · have : ¬ W ((n : Int) + 1) < W n := by omega
        have : ¬ W (n : Int) < W ((n : Int) - 1) := by omega
        simp [*] at *
        omega
      · have : ¬ W (n : Int) < W ((n : Int) + 1) := by omega
        have : ¬ W (n : Int) < W ((n : Int) - 1) := by omega
        simp [*] at *
        omega
      · have : ¬ W ((n : Int) + 1) < W n := by omega
        have : ¬ W ((n : Int) - 1) < W n := by omega
        simp [*] at *
        omega
      · have : ¬ W (n : Int) < W ((n : Int) + 1) := by omega
        have : ¬ W ((n : Int) - 1) < W n := by omega
        simp [*] at *
        omega
  have k := key N.toNat
  have eN : ((N.toNat : Nat) : Int) = N := by omega
  rw [eN] at k
  have p1 := h.per (-1) 1
  have p2 := h.per 0 1
  rw [show -1 + N * 1 = N - 1 by omega] at p1
  rw [show 0 + N * 1 = N by omega] at p2
  rw [p1, p2] at k
  omega
/-- there is a top -/
theorem Hills.some_top (h : Hills N W) : 1 ≤ (topsT W N.toNat).length := by
  have n2 := h.n2
  refine Nat.pos_of_ne_zero fun z => ?_
  have zv : (valsT W N.toNat).length = 0 := by rw [← h.count]; exact z
  have nt : ∀ i, ¬ TopP W i := fun i g => by
    have m : i % N ∈ topsT W N.toNat := mem_topsT.mpr ⟨Int.emod_nonneg _ (by omega), by have := Int.emod_lt_of_pos i (show 0 < N by omega); omega, h.topM.mpr g⟩
    rw [List.length_eq_zero_iff.mp z] at m
    cases m
  have nv : ∀ i, ¬ ValP W i := fun i g => by
    have m : i % N ∈ valsT W N.toNat := mem_valsT.mpr ⟨Int.emod_nonneg _ (by omega), by have := Int.emod_lt_of_pos i (show 0 < N by omega); omega, h.valM.mpr g⟩
    rw [List.length_eq_zero_iff.mp zv] at m
    cases m
  have pN := h.per 0 1
  rw [show (0 : Int) + N * 1 = N by omega] at pN
  by_cases c : W 0 < W 1
  · have up := h.asc (v := 0) (m := N.toNat) (by simpa using c) fun j _ _ => nt _
    have : ∀ j : Nat, 1 ≤ j → j ≤ N.toNat → W 0 < W j := fun j h1 h2 => by
      induction j with
      | zero => omega
      | succ j ih =>
        have u := up j (by omega)
        rw [show (0 : Int) + (j : Int) = j by omega] at u
        rw [show ((j + 1 : Nat) : Int) = (j : Int) + 1 by omega]
        by_cases hj : j = 0
        · subst hj; exact u
        · have := ih (by omega) (by omega)
          omega
    have q := this N.toNat (by omega) (Nat.le_refl _)
    rw [show ((N.toNat : Nat) : Int) = N by omega, pN] at q
    omega
  · have c' : W (0 + 1) < W 0 := h.lt (by simpa using c)
    have dn := h.desc (t := 0) (m := N.toNat) c' fun j _ _ => nv _
    have : ∀ j : Nat, 1 ≤ j → j ≤ N.toNat → W j < W 0 := fun j h1 h2 => by
      induction j with
      | zero => omega
      | succ j ih =>
        have u := dn j (by omega)
        rw [show (0 : Int) + (j : Int) = j by omega] at u
        rw [show ((j + 1 : Nat) : Int) = (j : Int) + 1 by omega]
        by_cases hj : j = 0
        · subst hj; exact u
        · have := ih (by omega) (by omega)
          omega
    have q := this N.toNat (by omega) (Nat.le_refl _)
    rw [show ((N.toNat : Nat) : Int) = N by omega, pN] at q
    omega
/-- the rows: each top with the next valley -/
structure DownR (N : Int) (W : Int → Int) (rs : List (Int × Int)) : Prop where
  fst : rs.map Prod.fst = topsT W N.toNat
  row : ∀ t r, (t, r) ∈ rs → ∃ m : Int, 0 ≤ m ∧ m < N ∧ r = (m + t) % N ∧ ValP W (t + m) ∧ ∀ j, 0 ≤ j → j < m → ¬ ValP W (t + j)
theorem DownR.begins {rs : List (Int × Int)} (d : DownR N W rs) {t r : Int} (h : (t, r) ∈ rs) : 0 ≤ t ∧ t < N ∧ TopP W t := by
  have m : t ∈ topsT W N.toNat := by rw [← d.fst]; exact List.mem_map.mpr ⟨_, h, rfl⟩
  obtain ⟨h0, h1, h2⟩ := mem_topsT.mp m
  exact ⟨h0, by omega, h2⟩
theorem DownR.dist {rs : List (Int × Int)} (h : Hills N W) (d : DownR N W rs) {t r : Int} (hm : (t, r) ∈ rs) : ∃ m : Nat, (m : Int) < N ∧ (r - t) % N = m ∧ ValP W (t + m) ∧ ∀ j : Nat, j < m → W (t + j + 1) < W (t + j) := by
  obtain ⟨m, m0, m1, e, v, no⟩ := d.row t r hm
  refine ⟨m.toNat, by omega, ?_, by rw [show ((m.toNat : Nat) : Int) = m by omega]; exact v, fun j hj => ?_⟩
  · rw [e, Int.emod_sub_emod, show m + t - t = m by omega, Int.emod_eq_of_lt m0 m1]
    omega
  · exact h.desc (d.begins hm).2.2.2 (m := m.toNat) (fun k _ hk => no k (by omega) (by omega)) j hj
theorem ends_at {rs : List (Int × Int)} {i : Nat} {b r e : Int} (h : rs[i]? = some (b, r)) (he : (endsL N rs)[i]? = some e) : (∃ r', rs[i + 1]? = some (e, r')) ∨ ∃ b0 r0, rs[0]? = some (b0, r0) ∧ e = b0 + N := by
  have li := (List.getElem?_eq_some_iff.mp h).1
  unfold endsL at he
  by_cases c : i + 1 < rs.length
  · rw [List.getElem?_append_left (by simp; omega), List.getElem?_drop, List.getElem?_map, Nat.add_comm] at he
    obtain ⟨q, hq, rfl⟩ := Option.map_eq_some_iff.mp he
    exact .inl ⟨q.2, hq⟩
  · rw [List.getElem?_append_right (by simp; omega)] at he
    have e0 : i - ((rs.map Prod.fst).drop 1).length = 0 := by simp; omega
    rw [e0] at he
    refine .inr ?_
    cases rs with
    | nil => simp at li
    | cons q t => exact ⟨q.1, q.2, rfl, by simpa using he.symm⟩
theorem DownR.rows {rs : List (Int × Int)} (h : Hills N W) (d : DownR N W rs) (n360 : N ≤ 360) (l12 : rs.length ≤ 12) : Rows N rs := by
  have n2 := h.n2
  have len : rs.length = (topsT W N.toNat).length := by rw [← d.fst, List.length_map]
  have asc : rs.Pairwise fun p q => p.1 < q.1 := by
    have := topsT_asc (W := W) (n := N.toNat)
    rw [← d.fst, List.pairwise_map] at this
    exact this
  refine ⟨n2, n360, by rw [len]; exact h.some_top, l12, fun q hq => ?_, asc, fun i b r e hb he => ?_⟩
  · obtain ⟨h0, h1, _⟩ := d.begins (t := q.1) (r := q.2) hq
    obtain ⟨m, _, _, e, _⟩ := d.row q.1 q.2 hq
    exact ⟨h0, h1, by rw [e]; exact Int.emod_nonneg _ (by omega), by rw [e]; exact Int.emod_lt_of_pos _ (by omega)⟩
  · obtain ⟨m, m1, em, v, ds⟩ := d.dist h (List.mem_of_getElem? hb)
    rw [em]
    have te : TopP W e ∧ b < e := by
      rcases ends_at hb he with ⟨r', h'⟩ | ⟨b0, r0, h', rfl⟩
      · refine ⟨(d.begins (List.mem_of_getElem? h')).2.2, ?_⟩
        obtain ⟨l1, e1⟩ := List.getElem?_eq_some_iff.mp hb
        obtain ⟨l2, e2⟩ := List.getElem?_eq_some_iff.mp h'
        have := List.pairwise_iff_getElem.mp asc i (i + 1) l1 l2 (by omega)
        rw [e1, e2] at this
        exact this
      · have z := d.begins (List.mem_of_getElem? h')
        have y := d.begins (List.mem_of_getElem? hb)
        refine ⟨?_, by omega⟩
        have := (h.top (i := b0) (k := 1)).mpr z.2.2
        rwa [Int.mul_one] at this
    by_cases c : (m : Int) < e - b
    · exact c
    · have g := ds (e - b - 1).toNat (by omega)
      rw [show b + (((e - b - 1).toNat : Nat) : Int) = e - 1 by omega, show e - 1 + 1 = e by omega] at g
      have := te.1.1
      omega
/-- what a part does at x, whose rest is y -/
theorem DownR.roll {rs : List (Int × Int)} (h : Hills N W) (d : DownR N W rs) (R : Rows N rs) {x y : Int} (l : IsLift N rs x y) :
    ValP W y ∧ (x < y → W (x + 1) < W x ∧ IsLift N rs (x + 1) y) ∧ (y < x → W (x - 1) < W x ∧ W x < W (x + 1) ∧ IsLift N rs (x - 1) y) := by
  have n2 := h.n2
  obtain ⟨i, b, r, e, q, h1, h2, h3, h4, h5⟩ := id l
  have hm := List.mem_of_getElem? h1
  obtain ⟨m, m1, em, v, ds⟩ := d.dist h hm
  rw [em] at h5
  have me := R.st i b r e h1 h2
  rw [em] at me
  have inn : ∀ z, b + N * q ≤ z → z < e + N * q → IsLift N rs z y := fun z a c => ⟨i, b, r, e, q, h1, h2, a, c, by rw [em]; exact h5⟩
  have vy : ValP W y := by
    rw [h5]
    exact h.val.mpr v
  refine ⟨vy, fun lt => ⟨?_, inn _ (by omega) (by omega)⟩, fun lt => ?_⟩
  · have g := ds (x - (b + N * q)).toNat (by omega)
    rw [show b + (((x - (b + N * q)).toNat : Nat) : Int) = x + N * (-q) by rw [Int.mul_neg]; omega, show x + N * (-q) + 1 = x + 1 + N * (-q) by omega, h.per, h.per] at g
    exact g
  · have no : ∀ z, b + N * q < z → z < e + N * q → ¬ TopP W z := fun z a c tp => by
      have mz : z % N ∈ rs.map Prod.fst := by
        rw [d.fst]
        exact mem_topsT.mpr ⟨Int.emod_nonneg _ (by omega), by have := Int.emod_lt_of_pos z (show 0 < N by omega); omega, h.topM.mpr tp⟩
      obtain ⟨⟨b', r'⟩, hb', eb⟩ := List.mem_map.mp mz
      dsimp only at eb
      obtain ⟨j1, j2⟩ := jump R hb'
      have s1 := j1.shift (z / N)
      have ez : b' + N * (z / N) = z := by
        have := Int.mul_ediv_add_emod z N
        omega
      rw [ez] at s1
      have u := IsLift.unique R s1 (inn z (by omega) c)
      have s2 := (inn (z - 1) (by omega) (by omega)).shift (-(z / N))
      rw [← u, show z - 1 + N * -(z / N) = b' - 1 by rw [Int.mul_neg]; omega, show b' + (r' - b') % N + N * (z / N) + N * -(z / N) = b' + (r' - b') % N by rw [Int.mul_neg]; omega] at s2
      exact j2 s2
    have up := h.asc (v := y) (m := (e + N * q - y).toNat) vy.2 fun j j0 jm => no _ (by omega) (by omega)
    have g1 := up (x - 1 - y).toNat (by omega)
    have g2 := up (x - y).toNat (by omega)
    rw [show y + (((x - 1 - y).toNat : Nat) : Int) = x - 1 by omega, show x - 1 + 1 = x by omega] at g1
    rw [show y + (((x - y).toNat : Nat) : Int) = x by omega] at g2
    exact ⟨g1, g2, inn _ (by omega) (by omega)⟩
end
/-! ### a row of widths -/
abbrev wAt (N : Int) (ws : List Int) (i : Int) : Int := ws.getD (i % N).toNat 0
theorem wAt_get {N i : Int} {ws : List Int} (h : 0 < N) (l : (ws.length : Int) = N) : ws[(i % N).toNat]? = some (wAt N ws i) := by
  have m0 := Int.emod_nonneg i (show N ≠ 0 by omega)
  have m1 := Int.emod_lt_of_pos i h
  have lt : (i % N).toNat < ws.length := by omega
  rw [List.getElem?_eq_getElem lt]
  simp [wAt, List.getD, List.getElem?_eq_getElem lt]
theorem hills_of {N : Int} {ws : List Int} (n2 : 2 ≤ N) (l : (ws.length : Int) = N) (ne : ∀ i : Nat, (i : Int) < N → wAt N ws i ≠ wAt N ws ((i : Int) + 1)) : Hills N (wAt N ws) := by
  refine ⟨n2, fun i k => ?_, fun i => ?_⟩
  · unfold wAt
    rw [Int.add_mul_emod_self_left]
  · have m0 := Int.emod_nonneg i (show N ≠ 0 by omega)
    have m1 := Int.emod_lt_of_pos i (show 0 < N by omega)
    have h := ne (i % N).toNat (by omega)
    rw [Int.toNat_of_nonneg m0] at h
    unfold wAt at h ⊢
    rw [Int.emod_emod_of_dvd i (Int.dvd_refl N), show (i % N + 1) % N = (i + 1) % N by rw [Int.emod_add_emod]] at h
    exact h
theorem at_w {N j : Int} {ws : List Int} (h : 0 < N) (l : (ws.length : Int) = N) (j0 : -1 ≤ j) (j1 : j < N) : atI (ws.map V.int) j = some (.int (wAt N ws j)) := by
  have g := wAt_get (i := j) h l
  by_cases c : 0 ≤ j
  · refine atI_of c ?_
    rw [Int.emod_eq_of_lt c j1] at g
    rw [List.getElem?_map, g]
    rfl
  · have e : j = -1 := by omega
    subst e
    refine atI_last2 ?_
    have e1 : (-1) % N = N - 1 := by
      rw [show (-1 : Int) = (N - 1) + N * (-1) by omega, Int.add_mul_emod_self_left, Int.emod_eq_of_lt (by omega) (by omega)]
    rw [e1, show (N - 1).toNat = ws.length - 1 by omega] at g
    rw [List.getLast?_eq_getElem?, List.length_map, List.getElem?_map, g]
    rfl
theorem wAt_mod {N j : Int} {ws : List Int} : wAt N ws (j % N) = wAt N ws j := by
  unfold wAt
  rw [Int.emod_emod_of_dvd j (Int.dvd_refl N)]
end J
namespace J
open PySem PySem.Spec PyProof.Rows L2
/-! ### a classmethod called by keyword; a class that stands in a name, called -/
structure CalCX (P : Program) (w : World) (K : PySem.W.Frag) (mg : Str → Option Value) (base : Heap) (k : Nat) (C : Addr) (m qual : Str) (st : Stmt) (ps : List Str) (sp : Sp) : Prop where
  ex : ∃ p g fd, ClX.CRead K C (.type "type") ∧ ClX.CMet K C (.type "type") m p g ∧ Binds K fd ps [] ∧ FnOk P w K mg base (L2.CX P w) k g fd ps sp ∧ FunD K m qual (defArgs st) (defBody st) (defScope st) [] [] g fd
section
variable {P : Program} {w : World} {K : PySem.W.Frag} {mg : Str → Option Value} {base : Heap}
theorem calcx_mk {C : Addr} {m qual : Str} {st : Stmt} {N ps : List Str} {k : Nat} {sp : Sp} (F : Src K m qual st (cmFn K C m)) (hm : CmF K C m) (S : FnScope N ps (defScope st)) (hb : BindOk m qual st ps)
    (len : ∀ vs H Q E, sp vs H Q E → vs.length = ps.length) (hbody : BodyX P w K mg base N qual st (cmFn K C m) k sp) : CalCX P w K mg base (k + 1) C m qual st ps sp := by
  obtain ⟨fd, F⟩ := F
  exact ⟨_, _, fd, hm.rd, hm.mt, F.bindsN hb, F.ok S len hbody, F⟩
theorem CalCX.or {k j : Nat} {C : Addr} {m qual : Str} {st : Stmt} {ps : List Str} {sp sp' : Sp} (c : CalCX P w K mg base k C m qual st ps sp) (d : CalCX P w K mg base j C m qual st ps sp') : CalCX P w K mg base (max k j) C m qual st ps (spOr sp sp') := by
  obtain ⟨p, g, fd, a0, a1, a3, a4, a5⟩ := c.ex
  obtain ⟨p', g', fd', b0, b1, b3, b4, b5⟩ := d.ex
  have e := a1.at_.symm.trans b1.at_
  cases e
  obtain ⟨r1, e1⟩ := a1.rc
  obtain ⟨r2, e2⟩ := b1.rc
  have e := e1.symm.trans e2
  cases e
  obtain rfl := funD_eq a5 b5
  exact ⟨p, g, fd, a0, a1, a3, fnOr (a4.mono (Nat.le_max_left ..)) (b4.mono (Nat.le_max_right ..)), a5⟩
end
def jCMethKXS (C : Addr) (n : Nat) (sp : Sp) (W : WX) (gV : List V → List V → List V) (ta : TE) (tk : TA) : TE := fun σ H Q => ta σ H fun x H1 => x = .ref C ∧ tk σ H1 fun zs H2 => zs.length = n ∧ sp (gV [.ref C] zs) H2 Q (WE W σ)
/-- n(..), n a name of the def that has the class at C -/
def jMakeV (C : Addr) (sp : Sp) (tf : TE) (t : TA) : TE := fun σ H Q => tf σ H fun y H1 => y = .ref C ∧ t σ H1 fun vs H2 => ∀ x dx, H2 x = none → H2 dx = none → dx ≠ x →
  sp (.ref x :: vs) (upd (upd H2 dx (.own x)) x (.ins C dx [])) (fun v H3 => v = .non ∧ Q (.ref x) H3) E0
def jMakeVXS (C : Addr) (sp : Sp) (W : WX) (tf : TE) (t : TA) : TE := fun σ H Q => tf σ H fun y H1 => y = .ref C ∧ t σ H1 fun vs H2 => ∀ x dx, H2 x = none → H2 dx = none → dx ≠ x →
  sp (.ref x :: vs) (upd (upd H2 dx (.own x)) x (.ins C dx [])) (fun v H3 => v = .non ∧ Q (.ref x) H3) (WE W σ)
theorem w_cmeth {C : Addr} {n : Nat} {sp : Sp} {W : WX} {gV : List V → List V → List V} {ta : TE} {tk : TA} {σ : L2.St} {H : Hp} {Q : VK} (h : ta σ H fun x H1 => x = .ref C ∧ tk σ H1 fun zs H2 => zs.length = n ∧ sp (gV [.ref C] zs) H2 Q (WE W σ)) : jCMethKXS C n sp W gV ta tk σ H Q := h
theorem w_makeV {C : Addr} {sp : Sp} {tf : TE} {t : TA} {σ : L2.St} {H : Hp} {Q : VK} (h : tf σ H fun y H1 => y = .ref C ∧ t σ H1 fun vs H2 => ∀ x dx, H2 x = none → H2 dx = none → dx ≠ x →
  sp (.ref x :: vs) (upd (upd H2 dx (.own x)) x (.ins C dx [])) (fun v H3 => v = .non ∧ Q (.ref x) H3) E0) : jMakeV C sp tf t σ H Q := h
theorem w_makeVX {C : Addr} {sp : Sp} {W : WX} {tf : TE} {t : TA} {σ : L2.St} {H : Hp} {Q : VK} (h : tf σ H fun y H1 => y = .ref C ∧ t σ H1 fun vs H2 => ∀ x dx, H2 x = none → H2 dx = none → dx ≠ x →
  sp (.ref x :: vs) (upd (upd H2 dx (.own x)) x (.ins C dx [])) (fun v H3 => v = .non ∧ Q (.ref x) H3) (WE W σ)) : jMakeVXS C sp W tf t σ H Q := h
section
variable {X : Cx} {k : Nat} {C : Addr} {x qual m : Str} {st : Stmt} {ps : List Str} {sp : Sp} {W : WX} {p pos apos : Pos} {o e : Expr} {es : List Expr} {kws : List Keyword} {ta tf : TE} {t tk : TA}
theorem pe_calcKX {pl : Sem Bool} (he : PE X o ta) (cm : CalCX X.prog X.w X.K X.mg X.base k C m qual st ps sp) (tkx : Takes X W) (ks : List Str) (g : {α : Type} → List α → List α → List α) (hw : KwOk m qual st ps 1 ks g) (hg : GOk g) (hr : Room k X.A) (hkw : L2.PK X kws tk)
    (hall : (backToKw pos (keywordEach kws X.env)).all (·.1.isSome) = true := by rfl) (hks : (backToKw pos (keywordEach kws X.env)).filterMap (·.1) = ks := by rfl)
    (hpl : ((backTo pos (starEach [] X.env)).any (·.1) || (backToKw pos (keywordEach kws X.env)).any (·.1.isNone)) = false := by rfl)
    (ht : eval (.Call (.Attribute o m apos) [] kws pos) X.env = (do
      let ov ← eval o X.env
      standAt apos.atName
      let (f, first) ← holding [ov] (getMethod ov m pl)
      callWith pos f first (backTo pos (starEach [] X.env)) (backToKw pos (keywordEach kws X.env))) := by rfl) :
    PE X (.Call (.Attribute o m apos) [] kws pos) (jCMethKXS C ks.length sp W (fun a b => g a b) ta tk) := by
  obtain ⟨p, gA, fd, rd, mt, _, F, S⟩ := cm.ex
  have hb := kbn_mk S g hw hg
  refine ⟨fun pins s σ H Q I h => ?_⟩
  refine PySem.W.methodCall_KW (pl := pl) (thn (he.run pins s σ H _ I h) fun u s1 hh => ?_) ht
  obtain ⟨x, H1, I1, rx, ex, q⟩ := hh
  subst ex
  obtain rfl : u = Value.ref C := rx
  refine ClX.getmethcm_ok I1 rd mt fun s2 I2 => ?_
  refine PySem.W.callWith_of (P := PySem.W.MethP X.K s1.heap.objs.size gA (.ref C)) hpl (PySem.W.keeps_M mt.fi) (evalArgs_kw2_nil hall ?_)
  refine thn (hkw.run pos _ s2 σ H1 _ I2 q) fun ws s3 hh2 => ?_
  obtain ⟨zs, H2, I3, rz, l2, q2⟩ := hh2
  refine ⟨⟨ClX.pin_at I3, I3.kIn⟩, ?_⟩
  rw [hks]
  have to := hb.to s3 [.ref C] ws I3.kIn rfl (by rw [← rz.length]; exact l2)
  have z : wpAny (model X.prog X.w) X.A (call (.ref s1.heap.objs.size) ([] ++ []) (ks.zip ws)) (EP X ((s1.heap.objs.size, PySem.W.methodObj (.ref gA) (.ref C)) :: pins) σ Q) X.xe s3 :=
    wpAny_call (PySem.W.method_call (ClX.pin_at I3) (codeAny_mono (F.run X.A X.stack s3 H2 ⟨[.ref C], ks.zip ws⟩ _ _ Q (WE W σ) hr I3.env0 to (hb.rel (Paired.cons (show L2.RelV (V.ref C) (Value.ref C) from rfl) .nil) rz) q2) fun r t c => by
      have := cr_end I3 (passAt tkx σ) r t c
      rcases r with e | (u | _ | _ | _) <;> exact this))
  exact thn z fun _ _ y => ClX.unpinE y
theorem pe_calV {fe : Expr} (hf : PE X fe tf) (c : CalI X.prog X.w X.K X.mg X.base k C x qual st ps sp) (hr : Room (k + 1) X.A) (ha : PA X (e :: es) t)
    (ht : eval (.Call fe (e :: es) [] pos) X.env = (do callWith pos (← eval fe X.env) [] (backTo pos (starEach (e :: es) X.env)) (backToKw pos (keywordEach [] X.env))) := by rfl)
    (he : starEach (e :: es) X.env = (false, eval e X.env) :: starEach es X.env := by rfl) (hpl : (backTo pos (starEach es X.env)).any (·.1) = false := by rfl) :
    PE X (.Call fe (e :: es) [] pos) (jMakeV C sp tf t) := by
  obtain ⟨f, fd, M, hm, hb, F, S⟩ := c.ex
  refine ⟨fun pins s σ H Q I h => ?_⟩
  refine Call_ (thn (hf.run pins s σ H _ I h) fun u s1 hh => ?_) ht
  obtain ⟨y, H1, I1, ry, ey, q⟩ := hh
  subst ey
  obtain rfl : u = Value.ref C := ry
  refine PySem.W.callWith_K (h₀ := X.base) I1.ok.mod.kin M.kp (thn (ha.run pos pins s1 σ H1 _ I1 q) fun us s2 hh2 => ?_) he hpl
  obtain ⟨vs, H2, I2, r, q2⟩ := hh2
  refine ⟨I2.kIn, ?_⟩
  refine run_make (ds := []) (dvs := []) M F hr hb .nil pass0 I2 r ?_
  rw [List.append_nil]
  exact q2
theorem pe_calVX {fe : Expr} (hf : PE X fe tf) (c : CalIX X.prog X.w X.K X.mg X.base k C x qual st ps sp) (tkx : Takes X W) (hr : Room (k + 1) X.A) (ha : PA X (e :: es) t)
    (ht : eval (.Call fe (e :: es) [] pos) X.env = (do callWith pos (← eval fe X.env) [] (backTo pos (starEach (e :: es) X.env)) (backToKw pos (keywordEach [] X.env))) := by rfl)
    (he : starEach (e :: es) X.env = (false, eval e X.env) :: starEach es X.env := by rfl) (hpl : (backTo pos (starEach es X.env)).any (·.1) = false := by rfl) :
    PE X (.Call fe (e :: es) [] pos) (jMakeVXS C sp W tf t) := by
  obtain ⟨f, fd, M, hm, hb, F, S⟩ := c.ex
  refine ⟨fun pins s σ H Q I h => ?_⟩
  refine Call_ (thn (hf.run pins s σ H _ I h) fun u s1 hh => ?_) ht
  obtain ⟨y, H1, I1, ry, ey, q⟩ := hh
  subst ey
  obtain rfl : u = Value.ref C := ry
  refine PySem.W.callWith_K (h₀ := X.base) I1.ok.mod.kin M.kp (thn (ha.run pos pins s1 σ H1 _ I1 q) fun us s2 hh2 => ?_) he hpl
  obtain ⟨vs, H2, I2, r, q2⟩ := hh2
  exact ⟨I2.kIn, go_mk M F hr hb (passAt tkx σ) I2 r q2⟩
end
/-- the block within a block -/
theorem blk2_by {N : List Str} {sc scope1 scope : Scope} {own : List (Str × Nat)} {cl : List (Str × Addr)} {C : Addr} {env : Env} (h : blkC N (relS scope1 sc) scope own = true) (e : env.scope = sc) : BlkOk N (compEnvC scope1 cl C env).scope scope own := by
  subst e
  exact blkOk_by h
/-! ### zip of two lists -/
theorem w_iZip {K : PySem.W.Frag} {ta : TA} {σ : L2.St} {H : Hp} {R : It → Hp → Prop} (h : ta σ H fun vs H1 => ∃ a b xs ys, vs = [.ref a, .ref b] ∧ SqL K H1 a xs ∧ SqL K H1 b ys ∧ R (Itz K a b) H1) : iZip K ta σ H R := h
/-- [.. for .. in zip(a list, a list)] -/
theorem lcZ {K : PySem.W.Frag} {g : TG} {tt : TT} {te : TE} {vs : List Nat} {σ : L2.St} {H : Hp} {Q : VK} {a b : Addr} {xs ys : List V} (qa : SqL K H a xs) (qb : SqL K H b ys) (hl : xs.length = ys.length) (Pv : Nat → List V → Hp → Prop)
    (h0 : ∀ Dl, H Dl = none → Pv 0 [] (upd H Dl (.lst [])))
    (hs : ∀ Dl i x y T acc H', H Dl = none → xs[i]? = some x → ys[i]? = some y → Same H H' → H' Dl = some (.lst acc) → Pv i acc H' → H' T = none → LcTurn g tt te vs σ H Dl Pv i (.ref T) (upd H' T (.tup [x, y])))
    (hd : ∀ Dl acc H', H Dl = none → Same H H' → H' Dl = some (.lst acc) → Pv xs.length acc H' → Q (.ref Dl) H') :
    ∃ a' b' xs' ys', [V.ref a, .ref b] = [.ref a', .ref b'] ∧ SqL K H a' xs' ∧ SqL K H b' ys' ∧ LcG g tt te vs σ Q (Itz K a' b') H := by
  refine ⟨a, b, xs, ys, rfl, qa, qb, fun Dl hD => ?_⟩
  refine lc_it (walk_zip (xs := xs) (ys := ys) (n := xs.length) (by omega)) (fun i H' => LcInv H Dl Pv i H') ⟨[], same_upd2 hD (Same.refl H), upd_same, h0 Dl hD⟩ (fun i H' _ p => ?_) (fun i x H' H'' _ p y => ?_) fun H' p => ?_
  · obtain ⟨_, s, _⟩ := p
    exact ⟨s.seq qa, s.seq qb⟩
  · obtain ⟨acc, s, l, pv⟩ := p
    obtain ⟨T, u, v, rfl, nT, rfl, hu, hv⟩ := y
    exact hs Dl i u v T acc H' hD hu hv s l pv nT
  · obtain ⟨acc, s, l, pv⟩ := p
    exact hd Dl acc H' hD s l pv
/-! ### what is handed as widths of a turning -/
inductive WY (H : Hp) : V → Prop
  | odd {v : V} (h : Odd H v) : WY H v
  | row (p : Addr) (us : List V) (h : Sq H p us) (l : us.length ≤ 400) (it : ∀ v ∈ us, PI H v) : WY H (.ref p)
theorem WY.same {H H' : Hp} {v : V} (e : Same H H') (h : WY H v) : WY H' v := by
  cases h with
  | odd h => exact .odd (h.same e)
  | row p us h l it => exact .row p us (h.same e) l fun v hv => (it v hv).same e
inductive WDue (H : Hp) (v : V) : Str → Int → Prop
  | nor (h : NoR H v) : WDue H v "rows" (-1)
  | len {p : Addr} {us : List V} (ez : v = .ref p) (h : Sq H p us) (l : ¬ (2 ≤ (us.length : Int) ∧ (us.length : Int) ≤ 360)) : WDue H v "round" us.length
  | at_ {p : Addr} {us : List V} {n : Nat} {u : V} (ez : v = .ref p) (h : Sq H p us) (l2 : 2 ≤ (us.length : Int)) (l360 : (us.length : Int) ≤ 360) (hn : us[n]? = some u) (bad : WNo H u) (good : ∀ j u, j < n → us[j]? = some u → ∃ i, u = .int i ∧ 0 ≤ i ∧ i ≤ topW) : WDue H v "rows" n
  | eq {p : Addr} {ws : List Int} {n : Nat} (ez : v = .ref p) (h : Sq H p (ws.map V.int)) (l2 : 2 ≤ (ws.length : Int)) (l360 : (ws.length : Int) ≤ 360) (bd : ∀ w ∈ ws, 0 ≤ w ∧ w ≤ topW) (hn : n < ws.length) (e : wAt ws.length ws n = wAt ws.length ws ((n : Int) + 1)) (good : ∀ j : Nat, j < n → wAt ws.length ws j ≠ wAt ws.length ws ((j : Int) + 1)) : WDue H v "rows" n
  | many {p : Addr} {ws : List Int} (ez : v = .ref p) (h : Sq H p (ws.map V.int)) (l2 : 2 ≤ (ws.length : Int)) (l360 : (ws.length : Int) ≤ 360) (bd : ∀ w ∈ ws, 0 ≤ w ∧ w ≤ topW) (hl : Hills ws.length (wAt ws.length ws)) (m : 12 < (topsT (wAt ws.length ws) (ws.length : Int).toNat).length) : WDue H v "rows" (-1)
  | good {p : Addr} {ws : List Int} (ez : v = .ref p) (h : Sq H p (ws.map V.int)) (l2 : 2 ≤ (ws.length : Int)) (l360 : (ws.length : Int) ≤ 360) (bd : ∀ w ∈ ws, 0 ≤ w ∧ w ≤ topW) (hl : Hills ws.length (wAt ws.length ws)) (m : (topsT (wAt ws.length ws) (ws.length : Int).toNat).length ≤ 12) : WDue H v "good" 0
theorem WDue.same {H H' : Hp} {v : V} {g : Str} {i : Int} (s : Same H H') (h : WDue H v g i) : WDue H' v g i := by
  cases h with
  | nor h => exact .nor (h.same s)
  | len ez h l => exact .len ez (h.same s) l
  | at_ ez h l2 l360 hn bad good => exact .at_ ez (h.same s) l2 l360 hn (bad.same s) good
  | eq ez h l2 l360 bd hn e good => exact .eq ez (h.same s) l2 l360 bd hn e good
  | many ez h l2 l360 bd hl m => exact .many ez (h.same s) l2 l360 bd hl m
  | good ez h l2 l360 bd hl m => exact .good ez (h.same s) l2 l360 bd hl m
theorem nb_scan {N : Int} {ws : List Int} : ∀ k : Nat, (∀ j : Nat, j < k → wAt N ws j ≠ wAt N ws ((j : Int) + 1)) ∨ ∃ n : Nat, n < k ∧ wAt N ws n = wAt N ws ((n : Int) + 1) ∧ ∀ j : Nat, j < n → wAt N ws j ≠ wAt N ws ((j : Int) + 1)
  | 0 => .inl fun j h => absurd h (Nat.not_lt_zero j)
  | k + 1 => by
    rcases nb_scan (N := N) (ws := ws) k with h | ⟨n, h1, h2, h3⟩
    · by_cases hb : wAt N ws k = wAt N ws ((k : Int) + 1)
      · exact .inr ⟨k, Nat.lt_succ_self k, hb, h⟩
      · refine .inl fun j hj => ?_
        by_cases e : j = k
        · subst e; exact hb
        · exact h j (by omega)
    · exact .inr ⟨n, by omega, h2, h3⟩
theorem wd_row {H : Hp} {p : Addr} {us : List V} (h : Sq H p us) (it : ∀ v ∈ us, PI H v) : ∃ g i, WDue H (.ref p) g i := by
  by_cases hl : 2 ≤ (us.length : Int) ∧ (us.length : Int) ≤ 360
  · rcases w_scan it with ⟨ws, rfl, bd⟩ | ⟨n, v, h1, h2, h3⟩
    · rw [List.length_map] at hl
      rcases nb_scan (N := ws.length) (ws := ws) ws.length with hs | ⟨n, g1, g2, g3⟩
      · have hh := hills_of (N := ws.length) (ws := ws) hl.1 rfl fun i hi => hs i (by omega)
        by_cases m : (topsT (wAt ws.length ws) (ws.length : Int).toNat).length ≤ 12
        · exact ⟨_, _, .good rfl h hl.1 hl.2 bd hh m⟩
        · exact ⟨_, _, .many rfl h hl.1 hl.2 bd hh (by omega)⟩
      · exact ⟨_, _, .eq rfl h hl.1 hl.2 bd g1 g2 g3⟩
    · exact ⟨_, _, .at_ rfl h hl.1 hl.2 h1 h2 h3⟩
  · exact ⟨_, _, .len rfl h hl⟩
theorem wd_due {H : Hp} {z : V} (hz : WY H z) : ∃ g i, WDue H z g i := by
  cases hz with
  | odd h =>
    cases h with
    | non => exact ⟨_, _, .nor .non⟩
    | bl b => exact ⟨_, _, .nor (.bl b)⟩
    | str w h => exact ⟨_, _, .nor (.str w)⟩
    | lst a xs ha h =>
      refine ⟨_, _, .len rfl (.inl ha) ?_⟩
      rcases h with rfl | rfl | ⟨p, rfl⟩ <;> simp
    | tup a xs ha h =>
      rcases h with rfl | rfl | ⟨p, rfl⟩
      · exact ⟨_, _, .len rfl (.inr ha) (by simp)⟩
      · exact wd_row (.inr ha) fun v hv => by
          rcases List.mem_cons.mp hv with rfl | hv
          · exact .int _
          · rw [List.mem_singleton.mp hv]; exact .int _
      · exact ⟨_, _, .len rfl (.inr ha) (by simp)⟩
    | dic a ks ha h => exact ⟨_, _, .nor (.dic a ks ha)⟩
  | row p us h l it => exact wd_row h it
theorem cut_to {xs : List V} {n : Nat} : cutV xs none (some (n : Int)) = xs.take n := by
  unfold cutV
  have e1 : HT.sIx xs.length 0 none = 0 := by
    unfold HT.sIx
    simp
  have e2 : HT.sIx xs.length xs.length (some (n : Int)) = min n xs.length := by
    unfold HT.sIx
    simp
    try omega
  rw [e1, e2, List.drop_zero, Nat.sub_zero]
  by_cases h : n ≤ xs.length
  · rw [Nat.min_eq_left h]
  · rw [Nat.min_eq_right (by omega), List.take_of_length_le (by omega), List.take_of_length_le (by omega)]
end J
namespace J
open PySem PySem.Spec PyProof.Rows L2
section
variable {N : Int} {W : Int → Int}
/-- a valley stays -/
theorem DownR.stays {rs : List (Int × Int)} (h : Hills N W) (d : DownR N W rs) (R : Rows N rs) {z : Int} (v : ValP W z) : IsLift N rs z z := by
  obtain ⟨y, hy⟩ := Rows.lift R z
  obtain ⟨_, r, l⟩ := d.roll h R hy
  rcases Int.lt_trichotomy z y with lt | rfl | gt
  · have := (r lt).1
    have := v.2
    omega
  · exact hy
  · have := (l gt).1
    have := v.1
    omega
theorem DownR.keeps {rs : List (Int × Int)} (h : Hills N W) (d : DownR N W rs) (R : Rows N rs) {c : Int} (hc : ∀ i, W (i + c) = W i) : Keeps N rs c := by
  have go : ∀ (n : Nat) (x y : Int), IsLift N rs x y → (x - y).natAbs = n → IsLift N rs (x + c) (y + c) := by
    intro n
    induction n with
    | zero =>
      intro x y hy e
      have exy : x = y := by omega
      subst exy
      have v := (d.roll h R hy).1
      refine d.stays h R ⟨?_, ?_⟩
      · rw [show x + c - 1 = x - 1 + c by omega, hc, hc]; exact v.1
      · rw [show x + c + 1 = x + 1 + c by omega, hc, hc]; exact v.2
    | succ n ih =>
      intro x y hy e
      obtain ⟨_, r, l⟩ := d.roll h R hy
      obtain ⟨y', hy'⟩ := Rows.lift R (x + c)
      obtain ⟨v', r', l'⟩ := d.roll h R hy'
      rcases Int.lt_trichotomy x y with lt | eq | gt
      · obtain ⟨w1, h1⟩ := r lt
        have i1 := ih (x + 1) y h1 (by omega)
        rcases Int.lt_trichotomy (x + c) y' with lt' | eq' | gt'
        · have h2 := (r' lt').2
          rw [show x + c + 1 = x + 1 + c by omega] at h2
          rw [IsLift.unique R i1 h2]
          exact hy'
        · rw [← eq'] at v'
          have q := v'.2
          rw [show x + c + 1 = x + 1 + c by omega, hc, hc] at q
          omega
        · have q := (l' gt').2.1
          rw [show x + c + 1 = x + 1 + c by omega, hc, hc] at q
          omega
      · omega
      · obtain ⟨w1, w2, h1⟩ := l gt
        have i1 := ih (x - 1) y h1 (by omega)
        rcases Int.lt_trichotomy (x + c) y' with lt' | eq' | gt'
        · have q := (r' lt').1
          rw [show x + c + 1 = x + 1 + c by omega, hc, hc] at q
          omega
        · rw [← eq'] at v'
          have q := v'.1
          rw [show x + c - 1 = x - 1 + c by omega, hc, hc] at q
          omega
        · have h2 := (l' gt').2.2
          rw [show x + c - 1 = x - 1 + c by omega] at h2
          rw [IsLift.unique R i1 h2]
          exact hy'
  exact fun x y hy => go _ x y hy rfl
theorem DownR.low {rs : List (Int × Int)} (h : Hills N W) (d : DownR N W rs) (R : Rows N rs) {x y : Int} (hy : IsLift N rs x y) : W y ≤ W x := by
  have go : ∀ (n : Nat) (x : Int), IsLift N rs x y → (x - y).natAbs = n → W y ≤ W x := by
    intro n
    induction n with
    | zero =>
      intro x _ e
      have exy : x = y := by omega
      rw [exy]
      exact Int.le_refl _
    | succ n ih =>
      intro x hy e
      obtain ⟨_, r, l⟩ := d.roll h R hy
      rcases Int.lt_trichotomy x y with lt | eq | gt
      · obtain ⟨w1, h1⟩ := r lt
        have := ih (x + 1) h1 (by omega)
        omega
      · omega
      · obtain ⟨w1, _, h1⟩ := l gt
        have := ih (x - 1) h1 (by omega)
        omega
  exact go _ x hy rfl
end
/-! ### a row made of slopes -/
structure Zig (L : List Int) (ss : List Nat) : Prop where
  adj : ∀ (i : Nat) (a b : Int), L[i]? = some a → L[i + 1]? = some b → a ≠ b
  tops : ∀ (i : Nat) (a b : Int), L[i]? = some a → L[i + 1]? = some b → b < a → i ∈ ss ∨ ∃ c, 0 < i ∧ L[i - 1]? = some c ∧ a < c
theorem Zig.more {L : List Int} {ss ss' : List Nat} (h : Zig L ss) (k : ∀ i ∈ ss, i ∈ ss') : Zig L ss' :=
  ⟨h.adj, fun i a b h1 h2 h3 => (h.tops i a b h1 h2 h3).imp_left (k i)⟩
theorem Zig.one {t : Int} : Zig [t] [] := ⟨fun i a b _ h => by simp at h, fun i a b _ h => by simp at h⟩
theorem Zig.snoc {L : List Int} {a b : Int} {ss : List Nat} (h : Zig (L ++ [a]) ss) (ne : a ≠ b) (k : b < a → L.length ∈ ss ∨ ∃ c, 0 < L.length ∧ (L ++ [a])[L.length - 1]? = some c ∧ a < c) : Zig (L ++ [a] ++ [b]) ss := by
  have lla : (L ++ [a]).length = L.length + 1 := by simp
  have low : ∀ i, i < L.length + 1 → (L ++ [a] ++ [b])[i]? = (L ++ [a])[i]? := fun i hi => List.getElem?_append_left (by omega)
  have at_a : (L ++ [a])[L.length]? = some a := by simp
  have at_b : (L ++ [a] ++ [b])[L.length + 1]? = some b := by
    rw [List.getElem?_append_right (by omega), lla]
    simp
  have over : ∀ i x, (L ++ [a] ++ [b])[i + 1]? = some x → i ≤ L.length := fun i x e => by
    have := (List.getElem?_eq_some_iff.mp e).1
    rw [List.length_append, lla] at this
    simp at this
    omega
  refine ⟨fun i u v h1 h2 => ?_, fun i u v h1 h2 lt => ?_⟩
  · have li := over i v h2
    by_cases e : i = L.length
    · subst e
      rw [low _ (by omega), at_a] at h1
      rw [at_b] at h2
      cases h1
      cases h2
      exact ne
    · rw [low _ (by omega)] at h1 h2
      exact h.adj i u v h1 h2
  · have li := over i v h2
    by_cases e : i = L.length
    · subst e
      rw [low _ (by omega), at_a] at h1
      rw [at_b] at h2
      cases h1
      cases h2
      rcases k lt with z | ⟨c, c0, c1, c2⟩
      · exact .inl z
      · exact .inr ⟨c, c0, by rw [low _ (by omega)]; exact c1, c2⟩
    · rw [low _ (by omega)] at h1 h2
      rcases h.tops i u v h1 h2 lt with z | ⟨c, c0, c1, c2⟩
      · exact .inl z
      · exact .inr ⟨c, c0, by rw [low _ (by omega)]; exact c1, c2⟩
theorem Zig.up {ss : List Nat} : ∀ {U L : List Int} {a : Int}, Zig (L ++ [a]) ss → (a :: U).Pairwise (· < ·) → Zig (L ++ [a] ++ U) ss
  | [], L, a, h, _ => by rw [List.append_nil]; exact h
  | u :: U, L, a, h, p => by
    rw [List.pairwise_cons] at p
    have lt := p.1 u (List.mem_cons_self ..)
    have := Zig.up (L := L ++ [a]) (a := u) (U := U) (h.snoc (by omega) fun z => absurd z (by omega)) p.2
    simpa using this
theorem Zig.downs {ss : List Nat} : ∀ {D L : List Int} {a : Int}, Zig (L ++ [a]) ss → (L.length ∈ ss ∨ ∃ c, 0 < L.length ∧ (L ++ [a])[L.length - 1]? = some c ∧ a < c) → (a :: D).Pairwise (fun x y => y < x) → Zig (L ++ [a] ++ D) ss
  | [], L, a, h, _, _ => by rw [List.append_nil]; exact h
  | u :: D, L, a, h, k, p => by
    rw [List.pairwise_cons] at p
    have lt := p.1 u (List.mem_cons_self ..)
    have := Zig.downs (L := L ++ [a]) (a := u) (D := D) (h.snoc (by omega) fun _ => k) (.inr ⟨a, by simp, by simp, lt⟩) p.2
    simpa using this
/-- a further top, down to the low, up to the next top -/
theorem Zig.seg {ms : List Int} {ss : List Nat} {t t' low : Int} {dn up : List Int} (h : Zig (ms ++ [t]) ss) (hd : (low :: dn ++ [t]).Pairwise (· < ·)) (hu : (low :: up ++ [t']).Pairwise (· < ·)) :
    Zig (ms ++ [t] ++ dn.reverse ++ [low] ++ up ++ [t']) (ss ++ [ms.length]) := by
  have h1 := h.more (ss' := ss ++ [ms.length]) fun i hi => List.mem_append_left _ hi
  have pd : (t :: (dn.reverse ++ [low])).Pairwise (fun x y => y < x) := by
    have := List.pairwise_reverse.mpr hd
    simpa using this
  have h2 := Zig.downs h1 (.inl (by simp)) pd
  have h3 := Zig.up (L := ms ++ [t] ++ dn.reverse) (a := low) (U := up ++ [t']) (by simpa using h2) (by simpa using hu)
  simpa using h3
/-- a row closed to a round -/
theorem zig_round {ms : List Int} {ss : List Nat} (l2 : 2 ≤ (ms.length : Int)) (z : Zig (ms ++ [wAt ms.length ms 0]) ss) :
    Hills ms.length (wAt ms.length ms) ∧ ∀ i : Int, TopP (wAt ms.length ms) i → (i % ms.length).toNat ∈ ss := by
  have n0 : 0 < (ms.length : Int) := by omega
  have val : ∀ i : Nat, i < ms.length → (ms ++ [wAt ms.length ms 0])[i]? = some (wAt ms.length ms i) := fun i hi => by
    rw [List.getElem?_append_left hi]
    have := wAt_get (i := (i : Int)) n0 (rfl : (ms.length : Int) = ms.length)
    rwa [Int.emod_eq_of_lt (by omega) (by omega), Int.toNat_natCast] at this
  have per0 : ∀ i k : Int, wAt ms.length ms (i + ms.length * k) = wAt ms.length ms i := fun i k => by
    unfold wAt
    rw [Int.add_mul_emod_self_left]
  have nxt : ∀ i : Nat, i < ms.length → (ms ++ [wAt ms.length ms 0])[i + 1]? = some (wAt ms.length ms ((i : Int) + 1)) := fun i hi => by
    by_cases c : i + 1 < ms.length
    · have := val (i + 1) c
      rwa [show ((i + 1 : Nat) : Int) = (i : Int) + 1 by omega] at this
    · rw [List.getElem?_append_right (by omega), show i + 1 - ms.length = 0 by omega]
      have e := per0 0 1
      rw [show (0 : Int) + ms.length * 1 = (i : Int) + 1 by omega] at e
      rw [e]
      rfl
  have hh : Hills ms.length (wAt ms.length ms) := hills_of l2 rfl fun i hi => z.adj i _ _ (val i (by omega)) (nxt i (by omega))
  refine ⟨hh, fun i tp => ?_⟩
  have tp' := hh.topM.mpr tp
  have m0 := Int.emod_nonneg i (show (ms.length : Int) ≠ 0 by omega)
  have m1 := Int.emod_lt_of_pos i n0
  have ei : (((i % ms.length).toNat : Nat) : Int) = i % ms.length := by omega
  have lt : (i % ms.length).toNat < ms.length := by omega
  rw [← ei] at tp'
  rcases z.tops _ _ _ (val _ lt) (nxt _ lt) tp'.2 with q | ⟨c, c0, c1, c2⟩
  · exact q
  · exfalso
    rw [val _ (by omega)] at c1
    have e2 : (((i % ms.length).toNat - 1 : Nat) : Int) = (((i % ms.length).toNat : Nat) : Int) - 1 := by omega
    rw [e2] at c1
    have := Option.some.inj c1
    have := tp'.1
    omega
/-- turned and laid twice -/
theorem half_round {ms : List Int} {ss : List Nat} {j : Nat} (l2 : 2 ≤ (ms.length : Int)) (hj : j < ms.length) (z : Zig (ms ++ [wAt ms.length ms 0]) ss) (hs : ss.length ≤ 6) :
    let ws := ms.drop j ++ ms.take j
    (ws.length : Int) = ms.length ∧ Hills (ws ++ ws).length (wAt (ws ++ ws).length (ws ++ ws)) ∧ (topsT (wAt (ws ++ ws).length (ws ++ ws)) ((ws ++ ws).length : Int).toNat).length ≤ 12 ∧ ∀ i, wAt (ws ++ ws).length (ws ++ ws) (i + ms.length) = wAt (ws ++ ws).length (ws ++ ws) i := by
  intro ws
  have lw : ws.length = ms.length := by
    show (ms.drop j ++ ms.take j).length = _
    rw [List.length_append, List.length_drop, List.length_take]
    omega
  obtain ⟨hh, tops⟩ := zig_round l2 z
  have n0 : 0 < (ms.length : Int) := by omega
  have lww : ((ws ++ ws).length : Int) = ms.length + ms.length := by rw [List.length_append, lw]; omega
  generalize hN : ((ws ++ ws).length : Int) = N at *
  have valW : ∀ i : Int, wAt N (ws ++ ws) i = wAt ms.length ms (i + j) := fun i => by
    have N0 : 0 < N := by omega
    have g1 := wAt_get (i := i) (N := N) N0 hN
    have m0 := Int.emod_nonneg i (show N ≠ 0 by omega)
    have m1 := Int.emod_lt_of_pos i N0
    have q0 := Int.emod_nonneg (i + j) (show (ms.length : Int) ≠ 0 by omega)
    have q1 := Int.emod_lt_of_pos (i + j) n0
    have g2 := wAt_get (i := i + j) n0 (rfl : (ms.length : Int) = ms.length)
    have e : (ws ++ ws)[(i % N).toNat]? = ms[((i + j) % ms.length).toNat]? := by
      have eN : i = i % N + ms.length * (2 * (i / N)) := by
        have e1 := Int.mul_ediv_add_emod i N
        have e2 : ∀ q : Int, (ms.length : Int) * (2 * q) = N * q := fun q => by rw [lww, Int.add_mul, Int.two_mul, Int.mul_add]
        rw [e2]
        omega
      have em : (i + j) % ms.length = (i % N + j) % ms.length := by
        conv => lhs; rw [eN]
        rw [show i % N + ms.length * (2 * (i / N)) + j = i % N + j + ms.length * (2 * (i / N)) by omega, Int.add_mul_emod_self_left]
      rw [em]
      generalize i % N = r at *
      have inW : ∀ k : Nat, k < ms.length → ws[k]? = ms[(((k : Int) + j) % ms.length).toNat]? := fun k hk => by
        show (ms.drop j ++ ms.take j)[k]? = _
        by_cases c : k < ms.length - j
        · rw [List.getElem?_append_left (by rw [List.length_drop]; exact c), List.getElem?_drop, Int.emod_eq_of_lt (by omega) (by omega)]
          congr 1
          omega
        · rw [List.getElem?_append_right (by rw [List.length_drop]; omega), List.length_drop, List.getElem?_take_of_lt (by omega)]
          have : ((k : Int) + j) % ms.length = (k : Int) + j - ms.length := by
            rw [show (k : Int) + j = ((k : Int) + j - ms.length) + ms.length by omega, Int.add_emod_right, Int.emod_eq_of_lt (by omega) (by omega)]
            omega
          rw [this]
          congr 1
          omega
      by_cases c : r.toNat < ms.length
      · rw [List.getElem?_append_left (by omega), inW _ c]
        congr 3
        omega
      · rw [List.getElem?_append_right (by omega), lw, inW _ (by omega)]
        rw [show ((r.toNat - ms.length : Nat) : Int) + j = r + j + ms.length * (-1) by omega, Int.add_mul_emod_self_left]
    rw [g1, g2] at e
    exact Option.some.inj e
  have top : ∀ i, TopP (wAt N (ws ++ ws)) i ↔ TopP (wAt ms.length ms) (i + j) := fun i => by
    unfold TopP
    rw [valW, valW, valW, show i - 1 + j = i + j - 1 by omega, show i + 1 + j = i + j + 1 by omega]
  refine ⟨by omega, ⟨by omega, fun i k => ?_, fun i => ?_⟩, ?_, fun i => ?_⟩
  · rw [valW, valW, show i + N * k + j = i + j + ms.length * (2 * k) by rw [lww, Int.add_mul, show (ms.length : Int) * (2 * k) = ms.length * k + ms.length * k by rw [Int.two_mul, Int.mul_add]]; omega, hh.per]
  · rw [valW, valW, show i + 1 + j = i + j + 1 by omega]
    exact hh.ne _
  · have nd : (topsT (wAt N (ws ++ ws)) N.toNat).Nodup := topsT_asc.imp fun h => by omega
    have sub : ∀ i ∈ topsT (wAt N (ws ++ ws)) N.toNat, i ∈ (ss.map fun s : Nat => ((s : Int) - j) % ms.length) ++ (ss.map fun s : Nat => ((s : Int) - j) % ms.length + ms.length) := fun i hi => by
      obtain ⟨i0, i1, tp⟩ := mem_topsT.mp hi
      have q := tops _ ((top i).mp tp)
      have q0 := Int.emod_nonneg (i + j) (show (ms.length : Int) ≠ 0 by omega)
      have es : (((((i + j) % ms.length).toNat : Nat) : Int) - j) % ms.length = i % ms.length := by
        rw [Int.toNat_of_nonneg q0, Int.emod_sub_emod, show i + j - j = i by omega]
      rw [List.mem_append]
      by_cases c : i < ms.length
      · refine .inl (List.mem_map.mpr ⟨_, q, ?_⟩)
        rw [es, Int.emod_eq_of_lt i0 c]
      · refine .inr (List.mem_map.mpr ⟨_, q, ?_⟩)
        rw [es]
        have : i % ms.length = i - ms.length := by
          rw [show i = (i - ms.length) + ms.length by omega, Int.add_emod_right, Int.emod_eq_of_lt (by omega) (by omega)]
          omega
        omega
    have := nodup_len nd sub
    rw [List.length_append, List.length_map, List.length_map] at this
    omega
  · rw [valW, valW, show i + ms.length + j = i + j + ms.length * 1 by omega, hh.per]
end J
namespace J
open PySem PySem.Spec PyProof.Rows L2
/-! ### C.m(e, ..), m a classmethod that does not raise -/
structure CalC (P : Program) (w : World) (K : PySem.W.Frag) (mg : Str → Option Value) (base : Heap) (k : Nat) (C : Addr) (m qual : Str) (st : Stmt) (ps : List Str) (sp : Sp) : Prop where
  ex : ∃ p g fd, ClX.CRead K C (.type "type") ∧ ClX.CMet K C (.type "type") m p g ∧ Binds K fd ps [] ∧ FnOk P w K mg base CX0 k g fd ps sp ∧ FunD K m qual (defArgs st) (defBody st) (defScope st) [] [] g fd
theorem calc_mk {P : Program} {w : World} {K : PySem.W.Frag} {mg : Str → Option Value} {base : Heap} {C : Addr} {m qual : Str} {st : Stmt} {N ps : List Str} {k : Nat} {sp : Sp} (F : Src K m qual st (cmFn K C m)) (hm : CmF K C m) (S : FnScope N ps (defScope st)) (hb : BindOk m qual st ps)
    (len : ∀ vs H Q E, sp vs H Q E → vs.length = ps.length) (hbody : BodyOk P w K mg base N qual st (cmFn K C m) k sp) : CalC P w K mg base (k + 1) C m qual st ps sp := by
  obtain ⟨fd, F⟩ := F
  exact ⟨_, _, fd, hm.rd, hm.mt, F.bindsN hb, fn_mk F S len hbody, F⟩
def jCMeth (C : Addr) (sp : Sp) (ta : TE) (t : TA) : TE := fun σ H Q => ta σ H fun x H1 => x = .ref C ∧ t σ H1 fun vs H2 => sp (.ref C :: vs) H2 Q E0
theorem w_cmethP {C : Addr} {sp : Sp} {ta : TE} {t : TA} {σ : L2.St} {H : Hp} {Q : VK} (h : ta σ H fun x H1 => x = .ref C ∧ t σ H1 fun vs H2 => sp (.ref C :: vs) H2 Q E0) : jCMeth C sp ta t σ H Q := h
theorem pe_calc {X : Cx} {k : Nat} {C : Addr} {qual m : Str} {st : Stmt} {ps : List Str} {sp : Sp} {pos apos : Pos} {o e : Expr} {es : List Expr} {ta : TE} {t : TA} {pl : Sem Bool} (he : PE X o ta) (cm : CalC X.prog X.w X.K X.mg X.base k C m qual st ps sp) (hr : Room k X.A) (ha : PA X (e :: es) t)
    (hst : starEach (e :: es) X.env = (false, eval e X.env) :: starEach es X.env := by rfl) (hpl : (backTo pos (starEach es X.env)).any (·.1) = false := by rfl)
    (ht : eval (.Call (.Attribute o m apos) (e :: es) [] pos) X.env = (do
      let ov ← eval o X.env
      standAt apos.atName
      let (f, first) ← holding [ov] (getMethod ov m pl)
      callWith pos f first (backTo pos (starEach (e :: es) X.env)) (backToKw pos (keywordEach [] X.env))) := by rfl) :
    PE X (.Call (.Attribute o m apos) (e :: es) [] pos) (jCMeth C sp ta t) := by
  obtain ⟨p, g, fd, rd, mt, hb, F, _⟩ := cm.ex
  have R := (F.raw hb .nil).imp (sp' := sp) fun vs H Q E h => by rw [List.append_nil]; exact h
  exact ClX.pe_cmeth he rd mt R hr pass0 ha hst hpl ht
/-! ### a part, whatever it shows -/
def pfU (N : Int) (d : Addr × V) : List (Str × V) := pfw N d.1 d.2
theorem pfU_around (N : Int) (d : Addr × V) : (pfU N d).lookup ("around" : Str) = some (.int N) := pfw_around N d.1 d.2
theorem pfU_turnings (N : Int) (d : Addr × V) : (pfU N d).lookup ("_turnings" : Str) = some (.ref d.1) := pfw_turnings N d.1 d.2
theorem pfU_settled (N : Int) (d : Addr × V) : (pfU N d).lookup ("settled" : Str) = none := by obtain ⟨a, v⟩ := d; kernel_rfl
def PartU (K : PySem.W.Frag) (H : Hp) (x : Addr) (N : Int) (sq pu : Option Rws) : Prop := ∃ (dx : Addr) (d : Addr × V) (kvs : List (Key × V)), H x = some (.ins (CP K) dx (pfU N d)) ∧ H d.1 = some (.dK kvs) ∧ Paired (Ent (CT K) H N) kvs (tabL sq pu)
theorem PartU.same {K : PySem.W.Frag} {H H' : Hp} {x : Addr} {N : Int} {sq pu : Option Rws} (e : Same H H') (h : PartU K H x N sq pu) : PartU K H' x N sq pu := by
  obtain ⟨dx, d, kvs, h1, h2, h3⟩ := h
  exact ⟨dx, d, kvs, e _ _ h1, e _ _ h2, Paired.mapP h3 fun p q ⟨e1, t, e2, h⟩ => ⟨e1, t, e2, h.same e⟩⟩
theorem PartU.tbl {K : PySem.W.Frag} {H : Hp} {x : Addr} {N : Int} {sq pu : Option Rws} (h : PartU K H x N sq pu) (n2 : 2 ≤ N) (n360 : N ≤ 360) : TblOk N (tabL sq pu) := by
  obtain ⟨dx, d, kvs, g1, g2, g3⟩ := h
  refine ⟨n2, n360, fun q hq => ?_, fun w rs rs' => tab_one⟩
  obtain ⟨i, hi⟩ := List.getElem?_of_mem hq
  obtain ⟨p, _, _, t, _, ht⟩ := paired_get' g3 hi
  exact ht.rows
end J

namespace Qk38
open PySem PySem.Spec PyProof.Rows L2 J
-- steps
local macro_rules | `(tactic| walk_at "lk") => `(tactic| first
  | assumption
  | exact upd_same
  | (refine (‹Same _ _› : Same _ _) _ _ ?_; assumption)
  | (refine Same.get1 (by assumption) ?_; walk_at "lk"))
local macro_rules | `(tactic| walk_at "w") => `(tactic| first
  | ((with_reducible refine' w_var ?hh ?_); (case hh => rfl))
  | with_reducible first
    | refine w_c ?_ | refine w_op ?_ | refine w_un ?_ | refine w_seq ?_ | refine w_asg ?_ | refine w_ret ?_ | refine w_retN ?_ | refine w_drop ?_ | refine w_ifS ?_ | refine w_next ?_ | refine w_name ?_
    | refine w_tst ?_ | refine w_tB ?_ | refine w_exb ?_ | refine w_and ?_ | refine w_or ?_ | refine w_not ?_ | refine w_andV ?_ | refine w_orV ?_ | refine w_notV ?_ | refine w_exc ?_ | refine w_ifE ?_ | refine w_chain ?_
    | refine w_nil ?_ | refine w_cons ?_ | refine w_call ?_ | refine w_cb ?_ | refine w_tup ?_ | refine w_lst ?_ | refine w_bm ?_ | refine w_bm0 ?_ | refine w_sl ?_ | refine w_noPart ?_ | refine w_part ?_ | refine w_exi ?_
    | refine w_add ?_ | refine w_sub ?_ | refine w_neg ?_ | refine w_eqI ?_ | refine w_neI ?_ | refine w_eqB ?_ | refine w_neB ?_ | refine w_rI0 ?_
    | refine w_mod ?_ (by first | assumption | omega | decide) | refine w_fdiv ?_ (by first | assumption | omega) (by first | assumption | omega) | refine w_mulL ?_ (by omega) | refine w_mulR ?_ (by omega)
    | refine w_pow ?_ (by decide)
    | refine w_ifT ?_ | refine w_ifF ?_ | refine w_ifnT ?_ | refine w_ifnF ?_
    | refine w_int ?_ | refine w_abs ?_ | refine w_max2 ?_ | refine w_min2 ?_ | refine w_gCons ?_ | refine w_gNil ?_ | refine w_gSub ?_ | refine w_for ?_
    | refine w_fld ?_ | refine w_sFld ?_ | refine w_meth ?_ | refine w_methK ?_ | refine w_isN0 ?_ | refine w_isN1 ?_ | refine w_isN2 ?_ | refine w_noN0 ?_ | refine w_noN1 ?_ | refine w_noN2 ?_ | refine w_makeK ?_ | refine w_make ?_ | refine w_callO ?_ | refine w_lc ?_ | refine w_yes ?_ | refine w_iEnumS ?_ | refine w_iSeq ?_ | refine w_iRng1 ?_ | refine w_iRng2 ?_ | refine w_prop ?_ | refine w_listVals ?_ | refine w_disp ?_ | refine w_dnewK ?_ | refine w_dput ?_ | refine w_dget ?_ | refine w_din ?_ | refine w_dnin ?_ | refine w_get ?_ | refine w_makeD ?_ | refine w_pairs ?_ | refine w_pairs0 ?_ | refine w_sc ?_ | refine w_iVals ?_ | refine w_lstRg1 ?_ | refine w_lstRg2 ?_ | refine w_clsName ?_ | refine w_cutG ?_ | refine w_cutT ?_ | refine w_calK ?_ | refine w_lenSet ?_ | refine w_brk ?_ | refine w_cont ?_ | refine w_raiseJ ?_ | refine w_calX ?_ | refine w_calKX ?_ | refine w_methX ?_ | refine w_methKX ?_ | refine w_makeX ?_ | refine w_makeKX ?_ | refine w_callOX ?_ | refine w_tryA ?_ | refine w_xf ?_ | refine w_eqOwn ?_ | refine w_neOwn ?_ | refine w_zipM ?_ | refine w_lenOwn ?_ | refine w_makeN ?_ | refine w_makeN0 ?_ | refine w_getX ?_ | refine w_calD ?_ | refine w_srtSet ?_ | refine w_dc ?_ | refine w_dcX ?_ | refine w_cmeth ?_ | refine w_cmethP ?_ | refine w_iZip ?_ | refine w_makeV ?_ | refine w_makeVX ?_ | refine w_iKeys ?_ | refine w_dget1 ?_ | refine w_ownI ?_ | refine w_setO ?_ | refine w_gSetX ?_ | refine w_calDX ?_)
local macro_rules | `(tactic| walk_at "ws") => `(tactic| repeat walk_at "w")
section
variable {P : Program} {w : World} {K : PySem.W.Frag} {mg : Str → Option Value} {base : Heap}
def sp_is_whole (K : PySem.W.Frag) : Sp := fun vs H Q _ => ∃ x b, vs = [x] ∧ Wh K H x b ∧ Q (.bl b) H
theorem c2_is_whole (T : Env P K mg) : Cal2 P w K mg base 1 "is_whole" s_is_whole p_is_whole (sp_is_whole K) := by
  refine cal2_mk (k := 0) T.s_is_whole T.g_is_whole sc_is_whole (fun _ _ _ _ _ _ us hl => match us, hl with | [_], _ => rfl) (fun vs H Q E h => ?_) (fun cdv A outer s H vs Q E hr h => ?_)
  · obtain ⟨x, b, rfl, _⟩ := h; rfl
  · obtain ⟨x, b, rfl, ⟨t, c, d, ht, h1, h2, rfl⟩, k⟩ := h
    refine ⟨_, (pss_one (ps_ret (pe_and (pe_callB call_isi (by rfl) T.b_isinstance (by decide +kernel) (pa_cons (pv 0) (pa_cons (pe_bltn (v := .ty "int") (u := .type "int") (by rfl) T.b_int (by decide +kernel) rfl) pa_nil))) (pe_one (pe_not (pe_callB call_isi (by rfl) T.b_isinstance (by decide +kernel) (pa_cons (pv 0) (pa_cons (pe_bltn (v := .ty "bool") (u := .type "bool") (by rfl) T.b_bool (by decide +kernel) rfl) pa_nil)))))))), ?_⟩
    dsimp only [cxOf, Cx.nox]
    walk_at "ws"
    refine w_isi ?_ ht (.ty _) h1
    walk_at "ws"
    cases c with
    | true =>
      walk_at "ws"
      refine w_isi ?_ ht (.ty _) h2
      walk_at "ws"
      exact k
    | false => walk_at "ws"; exact k
theorem c_is_whole (T : Env P K mg) : Cal P w K mg base 1 "is_whole" p_is_whole (sp_is_whole K) := (c2_is_whole T).cal
def sp_is_whole_from (K : PySem.W.Frag) : Sp := fun vs H Q _ => ∃ x b, ∃ lo hi : Int, vs = [x, .int lo, .int hi] ∧ Wh K H x b ∧ (b = true → ∃ i, x = .int i) ∧ ((b = false → Q (.bl false) H) ∧ ∀ i, b = true → x = .int i → Q (.bl (decide (lo ≤ i ∧ i ≤ hi))) H)
theorem cl_is_whole_from {i lo hi : Int} {H : Hp} {Q : VK} {E : XK} (h : Q (.bl (decide (lo ≤ i ∧ i ≤ hi))) H) : sp_is_whole_from K [.int i, .int lo, .int hi] H Q E :=
  ⟨.int i, true, lo, hi, rfl, wh_int, fun _ => ⟨i, rfl⟩, (fun e => nomatch e), fun j _ e => by cases e; exact h⟩
theorem c2_is_whole_from (T : Env P K mg) : Cal2 P w K mg base 2 "is_whole_from" s_is_whole_from p_is_whole_from (sp_is_whole_from K) := by
  refine cal2_mk (k := 1) T.s_is_whole_from T.g_is_whole_from sc_is_whole_from (fun _ _ _ _ _ _ us hl => match us, hl with | [_, _, _], _ => rfl) (fun vs H Q E h => ?_) (fun cdv A outer s H vs Q E hr h => ?_)
  · obtain ⟨x, b, _, _, rfl, _⟩ := h; rfl
  · obtain ⟨x, b, lo, hi, rfl, hx, hi', k1, k2⟩ := h
    refine ⟨_, (pss_one (ps_ret (pe_and (pe_cal (c_is_whole T) (hr.mono (by decide)) (pa_cons (pv 0) pa_nil)) (pe_one (pe_chain op_le op_le (pv 1) (pv 0) (pv 2)))))), ?_⟩
    dsimp only [cxOf, Cx.nox]
    walk_at "ws"
    refine ⟨x, b, rfl, hx, ?_⟩
    walk_at "ws"
    cases b with
    | false => walk_at "ws"; exact k1 rfl
    | true =>
      obtain ⟨i, rfl⟩ := hi' rfl
      walk_at "ws"
      refine w_ifd (fun h1 => ?_) (fun h1 => ?_)
      · walk_at "ws"
        have := k2 i rfl rfl
        simpa [h1] using this
      · have := k2 i rfl rfl
        simpa [h1] using this
theorem c_is_whole_from (T : Env P K mg) : Cal P w K mg base 2 "is_whole_from" p_is_whole_from (sp_is_whole_from K) := (c2_is_whole_from T).cal
def sp_is_row (K : PySem.W.Frag) : Sp := fun vs H Q _ => ∃ x b, vs = [x] ∧ Rw K H x b ∧ ∀ H', Same H H' → Q (.bl b) H'
theorem c2_is_row (T : Env P K mg) : Cal2 P w K mg base 1 "is_row" s_is_row p_is_row (sp_is_row K) := by
  refine cal2_mk (k := 0) T.s_is_row T.g_is_row sc_is_row (fun _ _ _ _ _ _ us hl => match us, hl with | [_], _ => rfl) (fun vs H Q E h => ?_) (fun cdv A outer s H vs Q E hr h => ?_)
  · obtain ⟨x, b, rfl, _⟩ := h; rfl
  · obtain ⟨x, b, rfl, ⟨t, ht, h1⟩, k⟩ := h
    refine ⟨_, (pss_one (ps_ret (pe_callB call_isiT (by rfl) T.b_isinstance (by decide +kernel) (pa_cons (pv 0) (pa_cons (pj_tup (pa_cons (pe_bltn (v := .ty "list") (u := .type "list") (by rfl) T.b_list (by decide +kernel) rfl) (pa_cons (pe_bltn (v := .ty "tuple") (u := .type "tuple") (by rfl) T.b_tuple (by decide +kernel) rfl) pa_nil))) pa_nil))))), ?_⟩
    dsimp only [cxOf, Cx.nox]
    walk_at "ws"
    refine ⟨leb rfl, fun p H' np e hp => ?_⟩
    walk_at "ws"
    refine w_isiT ?_ (tyX_same e ht) hp (.cons (.ty _) (.cons (.ty _) .nil)) h1
    exact k _ e
theorem c_is_row (T : Env P K mg) : Cal P w K mg base 1 "is_row" p_is_row (sp_is_row K) := (c2_is_row T).cal
def sp_is_row_of (K : PySem.W.Frag) : Sp := fun vs H Q _ => ∃ x, ∃ lo hi : Int, vs = [x, .int lo, .int hi] ∧ ((Rw K H x false ∧ ∀ H', Same H H' → Q (.bl false) H') ∨ ∃ p xs, x = .ref p ∧ Sq H p xs ∧ ∀ H', Same H H' → Q (.bl (decide (lo ≤ xs.length ∧ (xs.length : Int) ≤ hi))) H')
theorem c2_is_row_of (T : Env P K mg) : Cal2 P w K mg base 2 "is_row_of" s_is_row_of p_is_row_of (sp_is_row_of K) := by
  refine cal2_mk (k := 1) T.s_is_row_of T.g_is_row_of sc_is_row_of (fun _ _ _ _ _ _ us hl => match us, hl with | [_, _, _], _ => rfl) (fun vs H Q E h => ?_) (fun cdv A outer s H vs Q E hr h => ?_)
  · obtain ⟨x, _, _, rfl, _⟩ := h; rfl
  · obtain ⟨x, lo, hi, rfl, h⟩ := h
    refine ⟨_, (pss_one (ps_ret (pe_and (pe_cal (c_is_row T) (hr.mono (by decide)) (pa_cons (pv 0) pa_nil)) (pe_one (pe_chain op_le op_le (pv 1) (pe_callB jc_len (by rfl) T.b_len (by decide +kernel) (pa_cons (pv 0) pa_nil)) (pv 2)))))), ?_⟩
    dsimp only [cxOf, Cx.nox]
    walk_at "ws"
    rcases h with ⟨hx, k⟩ | ⟨p, xs, rfl, hx, k⟩
    · refine ⟨x, false, rfl, hx, fun H' e => ?_⟩
      walk_at "ws"
      exact k _ e
    · refine ⟨.ref p, true, rfl, hx.rw, fun H' e => ?_⟩
      walk_at "ws"
      have len : ∀ {Q' : VK}, Q' (.int (xs.length : Int)) H' → rLenS K [.ref p] H' Q' := fun q => by
        rcases hx with hx | hx
        · exact w_lenL q (sqL (e _ _ hx))
        · exact w_lenT q (sqT (e _ _ hx))
      refine len ?_
      walk_at "ws"
      refine w_ifd (fun h1 => ?_) (fun h1 => ?_)
      · walk_at "ws"
        have := k H' e
        simpa [h1] using this
      · have := k H' e
        simpa [h1] using this
theorem c_is_row_of (T : Env P K mg) : Cal P w K mg base 2 "is_row_of" p_is_row_of (sp_is_row_of K) := (c2_is_row_of T).cal
def sp_is_word (K : PySem.W.Frag) : Sp := fun vs H Q _ => ∃ w : Str, vs = [.str w] ∧ (w = "push" ∨ w = "squeeze") ∧ Q (.bl true) H
theorem c2_is_word (T : Env P K mg) : Cal2 P w K mg base 1 "is_word" s_is_word p_is_word (sp_is_word K) := by
  refine cal2_mk (k := 0) T.s_is_word T.g_is_word sc_is_word (fun _ _ _ _ _ _ us hl => match us, hl with | [_], _ => rfl) (fun vs H Q E h => ?_) (fun cdv A outer s H vs Q E hr h => ?_)
  · obtain ⟨_, rfl, _⟩ := h; rfl
  · obtain ⟨w, rfl, hw, k⟩ := h
    refine ⟨_, (pss_one (ps_ret (pe_cmpR op_in_seq (pv 0) (pe_glob (v := .ref (He.ga K "WORDS")) rfl T.g_WORDS rfl) (by rfl)))), ?_⟩
    dsimp only [cxOf, Cx.nox]
    walk_at "ws"
    have e : inV (.str w) [.str "push", .str "squeeze"] = true := by rcases hw with rfl | rfl <;> kernel_rfl
    refine ⟨_, _, rfl, .inr (T.t_WORDS H), rfl, rfl, ?_⟩
    rw [e]
    exact k
theorem c_is_word (T : Env P K mg) : Cal P w K mg base 1 "is_word" p_is_word (sp_is_word K) := (c2_is_word T).cal
def sp_PartD_getitemD (K : PySem.W.Frag) : Sp := fun vs H Q _ => ∃ (x : Addr) (N : Int) (sq pu : Option Rws) (w : Str) (rs : Rws), vs = [.ref x, .str w] ∧ PartU K H x N sq pu ∧ (w, rs) ∈ tabL sq pu ∧ ∀ t, TurnAt (CT K) H t N rs → Q (.ref t) H
theorem c_PartD_getitemD (T : Env P K mg) : CalM P w K mg base 2 (He.ga K "Part") "__getitem__" "Part.__getitem__" s_PartD_getitemD p_PartD_getitemD (sp_PartD_getitemD K) := by
  refine calm_mk (k := 1) T.s_PartD_getitemD T.m_PartD_getitemD sc_PartD_getitemD (fun _ _ _ _ _ _ us hl => match us, hl with | [_, _], _ => rfl) (fun vs H Q E h => ?_) (fun cdv A outer s H vs Q E hr h => ?_)
  · obtain ⟨_, _, _, _, _, _, rfl, _⟩ := h; rfl
  · obtain ⟨x, N, sq, pu, w, rs, rfl, ⟨dx, ⟨d, wv⟩, kvs, h1, h2, h3⟩, hm, k⟩ := h
    have hu := Nat.lt_of_le_of_lt (Nat.add_le_add_left (show 1 ≤ 64 by decide) _) hr.units
    obtain ⟨t, hv, ht⟩ := ent_get h3 hm
    have hg := DGet.k (k := .inr w) h2
    rw [hv] at hg
    refine ⟨_, (pss_cons (ps_if (PW.pt (pw_or (pt_not (pt_val (pe_cal (c_is_word T) (hr.mono (by decide)) (pa_cons (pv 1) pa_nil)))) (pw_or1 (pt_cmp (pc_dnotin hu (pv 1) (pe_fld (pv 0) rfl)))))) (pss_one ps_never) pss_nil)
    (pss_one (ps_ret (pe_dget hu (pe_fld (pv 0) rfl) (pv 1) (fun _ _ => rfl))))), ?_⟩
    dsimp only [cxOf, Cx.nox]
    walk_at "ws"
    refine ⟨w, rfl, (tab_word hm).imp (fun z => z.1) (fun z => z.1), ?_⟩
    walk_at "ws"
    refine ⟨x, _, dx, _, _, rfl, h1, T.k_Part, T.n_Part__turnings, pfU_turnings N (d, wv), ?_⟩
    walk_at "ws"
    refine ⟨d, _, rfl, hg, _, rfl, ?_⟩
    refine w_ifF ?_
    walk_at "ws"
    refine ⟨x, _, dx, _, _, rfl, h1, T.k_Part, T.n_Part__turnings, pfU_turnings N (d, wv), ?_⟩
    walk_at "ws"
    refine ⟨d, _, rfl, hg, ?_⟩
    exact k t ht
def sp_is_deed (K : PySem.W.Frag) : Sp := fun vs H Q _ => ∃ (t : Addr) (w : Str) (i : Int), vs = [.ref t] ∧ H t = some (.tup [.str w, .int i]) ∧ (w = "push" ∨ w = "squeeze") ∧ Q (.bl true) H
theorem c2_is_deed (T : Env P K mg) : Cal2 P w K mg base 2 "is_deed" s_is_deed p_is_deed (sp_is_deed K) := by
  refine cal2_mk (k := 1) T.s_is_deed T.g_is_deed sc_is_deed (fun _ _ _ _ _ _ us hl => match us, hl with | [_], _ => rfl) (fun vs H Q E h => ?_) (fun cdv A outer s H vs Q E hr h => ?_)
  · obtain ⟨_, _, _, rfl, _⟩ := h; rfl
  · obtain ⟨t, w, i, rfl, ht, hw, k⟩ := h
    refine ⟨_, (pss_one (ps_ret (pe_and (pe_callB call_isi (by rfl) T.b_isinstance (by decide +kernel) (pa_cons (pv 0) (pa_cons (pe_bltn (v := .ty "tuple") (u := .type "tuple") (by rfl) T.b_tuple (by decide +kernel) rfl) pa_nil))) (pe_and (pe_cmpR op_eq (pe_callB jc_len (by rfl) T.b_len (by decide +kernel) (pa_cons (pv 0) pa_nil)) pe_int (nomark _)) (pe_and (pe_cal (c_is_word T) (hr.mono (by decide)) (pa_cons (pe_ix ix_tup (pv 0) pe_int (fun _ _ => rfl)) pa_nil)) (pe_one (pe_cal (c_is_whole T) (hr.mono (by decide)) (pa_cons (pe_ix ix_tup (pv 0) pe_int (fun _ _ => rfl)) pa_nil)))))))), ?_⟩
    dsimp only [cxOf, Cx.nox]
    walk_at "ws"
    refine w_isi (b := true) ?_ (.base (.tup ht)) (.ty _) (kit_ty (by decide +kernel))
    walk_at "ws"
    refine w_lenT ?_ (sqT ht)
    walk_at "ws"
    refine w_ifd (fun _ => ?_) (fun h => absurd rfl h)
    walk_at "ws"
    refine w_ixT (v := .str w) ?_ (sqT ht) rfl
    walk_at "ws"
    refine ⟨w, rfl, hw, ?_⟩
    walk_at "ws"
    refine w_ixT (v := .int i) ?_ (sqT ht) rfl
    walk_at "ws"
    refine ⟨_, _, rfl, wh_int, ?_⟩
    exact k
theorem c_is_deed (T : Env P K mg) : Cal P w K mg base 2 "is_deed" p_is_deed (sp_is_deed K) := (c2_is_deed T).cal
def sp_check_round (K : PySem.W.Frag) : Sp := fun vs H Q _ => ∃ N : Int, vs = [.int N] ∧ 2 ≤ N ∧ N ≤ 360 ∧ Q .non H
theorem c2_check_round (T : Env P K mg) : Cal2 P w K mg base 3 "check_round" s_check_round p_check_round (sp_check_round K) := by
  refine cal2_mk (k := 2) T.s_check_round T.g_check_round sc_check_round (fun _ _ _ _ _ _ us hl => match us, hl with | [_], _ => rfl) (fun vs H Q E h => ?_) (fun cdv A outer s H vs Q E hr h => ?_)
  · obtain ⟨_, rfl, _⟩ := h; rfl
  · obtain ⟨N, rfl, h2, h3, k⟩ := h
    refine ⟨_, (pss_one (ps_if (pt_not (pt_val (pe_cal (c_is_whole_from T) (hr.mono (by decide)) (pa_cons (pv 0) (pa_cons (pe_const T.c_LEAST_ROUND) (pa_cons (pe_const T.c_GREATEST_ROUND) pa_nil)))))) (pss_one ps_never) pss_nil)), ?_⟩
    dsimp only [cxOf, Cx.nox]
    walk_at "ws"
    refine cl_is_whole_from ?_
    walk_at "ws"
    refine w_ifnd (fun h1 => absurd ⟨h2, h3⟩ h1) (fun h1 => ?_)
    walk_at "ws"
    exact k
theorem c_check_round (T : Env P K mg) : Cal P w K mg base 3 "check_round" p_check_round (sp_check_round K) := (c2_check_round T).cal
def sp_check_widths (K : PySem.W.Frag) : Sp := fun vs H Q _ => ∃ (p : Addr) (ws : List Int), vs = [.ref p] ∧ Sq H p (ws.map V.int) ∧ (∀ w ∈ ws, 0 ≤ w ∧ w ≤ topW) ∧ ∀ H', Same H H' → Q .non H'
theorem c2_check_widths (T : Env P K mg) : Cal2 P w K mg base 3 "check_widths" s_check_widths p_check_widths (sp_check_widths K) := by
  refine cal2_mk (k := 2) T.s_check_widths T.g_check_widths sc_check_widths (fun _ _ _ _ _ _ us hl => match us, hl with | [_], _ => rfl) (fun vs H Q E h => ?_) (fun cdv A outer s H vs Q E hr h => ?_)
  · obtain ⟨_, _, rfl, _⟩ := h; rfl
  · obtain ⟨p, ws, rfl, hp, bd, k⟩ := h
    refine ⟨_, (pss_one (ps_for PassesOwn.never (by rfl) (pi_enumS (by rfl) T.b_enumerate (pa_cons (pv 0) pa_nil)) (pg_tup (by rfl) (pgs_cons (pg_name (i := 1) sc_check_widths.nd rfl (Or.inl rfl)) (pgs_cons (pg_name (i := 2) sc_check_widths.nd rfl (Or.inl rfl)) pgs_nil))) (pss_one (ps_if (pt_not (pt_val (pe_cal (c_is_whole_from T) (hr.mono (by decide)) (pa_cons (pv 2) (pa_cons pe_int (pa_cons (pe_const T.c_GREATEST_WIDTH) pa_nil)))))) (pss_one ps_never) pss_nil)))), ?_⟩
    dsimp only [cxOf, Cx.nox]
    walk_at "ws"
    refine forE H hp.sqa (fun i σ H' => Same H H' ∧ ∃ o1 o2, σ = [some (.ref p), o1, o2]) ⟨Same.refl _, _, _, rfl⟩ (fun i σ H' _ h => h.1) ?_ ?_
    · rintro i x σ H' t hx ⟨s, o1, o2, rfl⟩ ht
      rw [List.getElem?_map] at hx
      obtain ⟨w, hw, rfl⟩ := Option.map_eq_some_iff.mp hx
      have b := bd w (List.mem_of_getElem? hw)
      refine w_gTup ?_ (sqT upd_same) rfl
      walk_at "ws"
      refine cl_is_whole_from ?_
      rw [decide_eq_true (show 0 ≤ w ∧ w ≤ 1000000000000 from b)]
      walk_at "ws"
      exact ⟨s.trans (same_new ht), _, _, rfl⟩
    · rintro σ H' ⟨s, o1, o2, rfl⟩
      exact k H' s
theorem c_check_widths (T : Env P K mg) : Cal P w K mg base 3 "check_widths" p_check_widths (sp_check_widths K) := (c2_check_widths T).cal
def spx_check_widths_o (K : PySem.W.Frag) : Sp := fun vs H _ E => ∃ (p : Addr) (us : List V) (n : Nat) (v : V), vs = [.ref p] ∧ Sq H p us ∧ us[n]? = some v ∧ WNo H v ∧ (∀ j u, j < n → us[j]? = some u → ∃ i, u = .int i ∧ 0 ≤ i ∧ i ≤ topW) ∧ ∀ H' d, Same H H' → H' d = none → E (.ref (He.ga K "BadRows")) (some d) (upd H' d (.xd [("at", .int n)]))
theorem x_check_widths_o (T : Env P K mg) : CalX P w K mg base 3 "check_widths" s_check_widths p_check_widths (spx_check_widths_o K) := by
  refine calx_mk (k := 2) T.s_check_widths T.g_check_widths sc_check_widths (fun _ _ _ _ _ _ us hl => match us, hl with | [_], _ => rfl) (fun vs H Q E h => ?_) (fun cdv A outer s H vs Q E hr h => ?_)
  · obtain ⟨_, _, _, _, rfl, _⟩ := h; rfl
  · obtain ⟨p, us, n, v, rfl, hp, hn, bad, good, k⟩ := h
    refine ⟨_, (pss_one (ps_for (passes_of rfl) (by rfl) (pi_enumS (by rfl) T.b_enumerate (pa_cons (pv 0) pa_nil)) (pg_tup (by rfl) (pgs_cons (pg_name (i := 1) sc_check_widths.nd rfl (Or.inl rfl)) (pgs_cons (pg_name (i := 2) sc_check_widths.nd rfl (Or.inl rfl)) pgs_nil))) (pss_one (ps_if (pt_not (pt_val (pe_cal (c_is_whole_from T) (hr.mono (by decide)) (pa_cons (pv 2) (pa_cons pe_int (pa_cons (pe_const T.c_GREATEST_WIDTH) pa_nil)))))) (pss_one (ps_raiseJ rfl T.e_BadRows hr (takes_of rfl rfl rfl rfl) (pa_cons (pv 1) pa_nil))) pss_nil)))), ?_⟩
    dsimp only [cxOf]
    walk_at "ws"
    refine forE H hp.sqa (fun i σ H' => Same H H' ∧ i ≤ n ∧ ∃ o1 o2, σ = [some (.ref p), o1, o2]) ⟨Same.refl _, Nat.zero_le _, _, _, rfl⟩ (fun i σ H' _ h => h.1) ?_ ?_
    · rintro i x σ H' t hx ⟨s, hin, o1, o2, rfl⟩ ht
      have s' := s.trans (same_new (o := .tup [.int (i : Nat), x]) ht)
      refine w_gTup ?_ (sqT upd_same) rfl
      walk_at "ws"
      rcases Nat.lt_or_ge i n with lt | ge
      · obtain ⟨w, rfl, b⟩ := good i x lt hx
        refine cl_is_whole_from ?_
        rw [decide_eq_true (show 0 ≤ w ∧ w ≤ 1000000000000 from b)]
        walk_at "ws"
        exact ⟨s', lt, _, _, rfl⟩
      · have ei : i = n := Nat.le_antisymm hin ge
        subst ei
        rw [hx] at hn
        cases hn
        rcases (bad.same s').1.wh (K := K) with ⟨w, rfl⟩ | ⟨wf, _⟩
        · refine cl_is_whole_from ?_
          rw [decide_eq_false (show ¬ (0 ≤ w ∧ w ≤ 1000000000000) from bad.2 w rfl)]
          walk_at "ws"
          exact ⟨_, rfl, fun d hd => k _ d s' hd⟩
        · refine ⟨_, false, 0, 1000000000000, rfl, wf, (fun z => nomatch z), fun _ => ?_, fun i z => nomatch z⟩
          walk_at "ws"
          exact ⟨_, rfl, fun d hd => k _ d s' hd⟩
    · rintro σ H' ⟨s, hin, o1, o2, rfl⟩
      have := (List.getElem?_eq_some_iff.mp hn).1
      omega
def spx_check_widths (K : PySem.W.Frag) : Sp := (spOr (spx_check_widths_o K) (sp_check_widths K))
theorem x_check_widths (T : Env P K mg) : CalX P w K mg base 3 "check_widths" s_check_widths p_check_widths (spx_check_widths K) := ((x_check_widths_o T).or (c2_check_widths T).x)
def sp_checked_standings (K : PySem.W.Frag) : Sp := fun vs H Q _ => ∃ N : Int, vs = [.int N, .non] ∧ 0 ≤ N ∧ N ≤ 1000 ∧ ∀ H' q, Same H H' → H q = none → H' q = some (.lst ((upto N).map V.int)) → Q (.ref q) H'
theorem c2_checked_standings (T : Env P K mg) : Cal2 P w K mg base 1 "checked_standings" s_checked_standings p_checked_standings (sp_checked_standings K) := by
  refine cal2_mk (k := 0) T.s_checked_standings T.g_checked_standings sc_checked_standings (fun _ _ _ _ _ _ us hl => match us, hl with | [_, _], _ => rfl) (fun vs H Q E h => ?_) (fun cdv A outer s H vs Q E hr h => ?_)
  · obtain ⟨_, rfl, _⟩ := h; rfl
  · obtain ⟨N, rfl, n0, n1, k⟩ := h
    refine ⟨_, (pss_cons (ps_if (pt_cmpR jop_isN (pv 1) pe_non (nomark _)) (pss_one (ps_ret (pe_listRg (by rfl) (by rfl) T.b_list (prg_1 (by rfl) T.b_range (pv 0))))) pss_nil)
    (pss_cons ps_never
    (pss_cons ps_never
    (pss_one ps_never)))), ?_⟩
    walk_at "ws"
    refine ⟨rgOk_small (by omega) (by omega), fun pl npl => ?_⟩
    rw [rgV_upto]
    exact k _ pl (same_new npl) npl upd_same
theorem c_checked_standings (T : Env P K mg) : Cal P w K mg base 1 "checked_standings" p_checked_standings (sp_checked_standings K) := (c2_checked_standings T).cal
end
end Qk38
namespace Qk38
open PySem PySem.Spec PyProof.Rows L2 J
-- steps
local macro_rules | `(tactic| walk_at "lk") => `(tactic| first
  | assumption
  | exact upd_same
  | (refine (‹Same _ _› : Same _ _) _ _ ?_; assumption)
  | (refine Same.get1 (by assumption) ?_; walk_at "lk"))
local macro_rules | `(tactic| walk_at "w") => `(tactic| first
  | ((with_reducible refine' w_var ?hh ?_); (case hh => rfl))
  | with_reducible first
    | refine w_c ?_ | refine w_op ?_ | refine w_un ?_ | refine w_seq ?_ | refine w_asg ?_ | refine w_ret ?_ | refine w_retN ?_ | refine w_drop ?_ | refine w_ifS ?_ | refine w_next ?_ | refine w_name ?_
    | refine w_tst ?_ | refine w_tB ?_ | refine w_exb ?_ | refine w_and ?_ | refine w_or ?_ | refine w_not ?_ | refine w_andV ?_ | refine w_orV ?_ | refine w_notV ?_ | refine w_exc ?_ | refine w_ifE ?_ | refine w_chain ?_
    | refine w_nil ?_ | refine w_cons ?_ | refine w_call ?_ | refine w_cb ?_ | refine w_tup ?_ | refine w_lst ?_ | refine w_bm ?_ | refine w_bm0 ?_ | refine w_sl ?_ | refine w_noPart ?_ | refine w_part ?_ | refine w_exi ?_
    | refine w_add ?_ | refine w_sub ?_ | refine w_neg ?_ | refine w_eqI ?_ | refine w_neI ?_ | refine w_eqB ?_ | refine w_neB ?_ | refine w_rI0 ?_
    | refine w_mod ?_ (by first | assumption | omega | decide) | refine w_fdiv ?_ (by first | assumption | omega) (by first | assumption | omega) | refine w_mulL ?_ (by omega) | refine w_mulR ?_ (by omega)
    | refine w_pow ?_ (by decide)
    | refine w_ifT ?_ | refine w_ifF ?_ | refine w_ifnT ?_ | refine w_ifnF ?_
    | refine w_int ?_ | refine w_abs ?_ | refine w_max2 ?_ | refine w_min2 ?_ | refine w_gCons ?_ | refine w_gNil ?_ | refine w_gSub ?_ | refine w_for ?_
    | refine w_fld ?_ | refine w_sFld ?_ | refine w_meth ?_ | refine w_methK ?_ | refine w_isN0 ?_ | refine w_isN1 ?_ | refine w_isN2 ?_ | refine w_noN0 ?_ | refine w_noN1 ?_ | refine w_noN2 ?_ | refine w_makeK ?_ | refine w_make ?_ | refine w_callO ?_ | refine w_lc ?_ | refine w_yes ?_ | refine w_iEnumS ?_ | refine w_iSeq ?_ | refine w_iRng1 ?_ | refine w_iRng2 ?_ | refine w_prop ?_ | refine w_listVals ?_ | refine w_disp ?_ | refine w_dnewK ?_ | refine w_dput ?_ | refine w_dget ?_ | refine w_din ?_ | refine w_dnin ?_ | refine w_get ?_ | refine w_makeD ?_ | refine w_pairs ?_ | refine w_pairs0 ?_ | refine w_sc ?_ | refine w_iVals ?_ | refine w_lstRg1 ?_ | refine w_lstRg2 ?_ | refine w_clsName ?_ | refine w_cutG ?_ | refine w_cutT ?_ | refine w_calK ?_ | refine w_lenSet ?_ | refine w_brk ?_ | refine w_cont ?_ | refine w_raiseJ ?_ | refine w_calX ?_ | refine w_calKX ?_ | refine w_methX ?_ | refine w_methKX ?_ | refine w_makeX ?_ | refine w_makeKX ?_ | refine w_callOX ?_ | refine w_tryA ?_ | refine w_xf ?_ | refine w_eqOwn ?_ | refine w_neOwn ?_ | refine w_zipM ?_ | refine w_lenOwn ?_ | refine w_makeN ?_ | refine w_makeN0 ?_ | refine w_getX ?_ | refine w_calD ?_ | refine w_srtSet ?_ | refine w_dc ?_ | refine w_dcX ?_ | refine w_cmeth ?_ | refine w_cmethP ?_ | refine w_iZip ?_ | refine w_makeV ?_ | refine w_makeVX ?_ | refine w_iKeys ?_ | refine w_dget1 ?_ | refine w_ownI ?_ | refine w_setO ?_ | refine w_gSetX ?_ | refine w_calDX ?_)
local macro_rules | `(tactic| walk_at "ws") => `(tactic| repeat walk_at "w")
section
variable {P : Program} {w : World} {K : PySem.W.Frag} {mg : Str → Option Value} {base : Heap}
def sp_PlanD_initD (K : PySem.W.Frag) : Sp := fun vs H Q _ => ∃ (x dx : Addr) (N : Int) (p : Addr) (xs : List V) (ds : List (Str × Int)), vs = [.ref x, .int N, .ref p] ∧ H x = some (.ins (CL K) dx []) ∧ 2 ≤ N ∧ N ≤ 360 ∧ Sq H p xs ∧ DeedsAt H xs ds ∧ ds.length ≤ 400 ∧
  (∀ q ∈ ds, q.1 = "push" ∨ q.1 = "squeeze") ∧ ∀ H', (∀ b o, b ≠ x → H b = some o → H' b = some o) → PlanAt K H' x N (ds.map fun q => (q.1, q.2 % N)) → Q .non H'
theorem c_PlanD_initD (T : Env P K mg) : CalI P w K mg base 4 (He.ga K "Plan") "Plan" "Plan.__init__" s_PlanD_initD p_PlanD_initD (sp_PlanD_initD K) := by
  refine cali_mk (k := 3) T.s_PlanD_initD T.mk_Plan T.g_Plan sc_PlanD_initD (fun _ _ _ _ _ _ us hl => match us, hl with | [_, _, _], _ => rfl) (fun vs H Q E h => ?_) (fun cdv A outer s H vs Q E hr h => ?_)
  · obtain ⟨_, _, _, _, _, _, rfl, _⟩ := h; rfl
  · obtain ⟨x, dx, N, p, xs, ds, rfl, hx, n2, n360, hp, hd, hl4, hw, k⟩ := h
    refine ⟨_, (pss_cons (ps_expr (pe_cal (c_check_round T) (hr.mono (by decide)) (pa_cons (pv 1) pa_nil)))
    (pss_cons (ps_if (pt_not (pt_val (pe_cal (c_is_row_of T) (hr.mono (by decide)) (pa_cons (pv 2) (pa_cons pe_int (pa_cons (pe_const T.c_MOST_DEEDS) pa_nil)))))) (pss_one ps_never) pss_nil)
    (pss_cons (ps_for PassesOwn.never (by rfl) (pi_enumS (by rfl) T.b_enumerate (pa_cons (pv 2) pa_nil)) (pg_tup (by rfl) (pgs_cons (pg_name (i := 3) sc_PlanD_initD.nd rfl (Or.inl rfl)) (pgs_cons (pg_name (i := 4) sc_PlanD_initD.nd rfl (Or.inl rfl)) pgs_nil))) (pss_one (ps_if (pt_not (pt_val (pe_cal (c_is_deed T) (hr.mono (by decide)) (pa_cons (pv 4) pa_nil)))) (pss_one ps_never) pss_nil)))
    (pss_cons (ps_fld (pv 0) (pv 1) rfl)
    (pss_one (ps_fld (pv 0) (pe_callTy jc_tuple (by rfl) T.b_tuple (by decide +kernel) (pa_cons (pe_lc (own := [("word", 5), ("turn", 6)]) (g := (gTup K 2 (gCons (gName 5) (gCons (gName 6) gNil)))) (tt := tYes) (te := (jTup (tCons (tVar 5) (tCons (tOp rModI (tVar 6) (tVar 1)) tNil)))) (by rfl) sc_PlanD_initD.nd (pi_seq (pv 2)) (blkOk_by (own := [("word", 5), ("turn", 6)]) (N := N_PlanD_initD) (sc := defScope s_PlanD_initD) (by decide +kernel)) (fun _ _ _ _ _ => (pg_tup (by rfl) (pgs_cons (pg_name (i := 5) sc_PlanD_initD.nd rfl (Or.inl rfl)) (pgs_cons (pg_name (i := 6) sc_PlanD_initD.nd rfl (Or.inl rfl)) pgs_nil)))) (fun _ _ _ _ _ => pts_nil) (fun _ _ _ _ _ => (pj_tup (pa_cons (pv 5) (pa_cons (pe_op op_mod (pv 6) (pv 1)) pa_nil))))) pa_nil)) rfl)))))), ?_⟩
    dsimp only [cxOf, Cx.nox]
    have hl : xs.length = ds.length := Paired.length hd
    walk_at "ws"
    refine ⟨N, rfl, n2, n360, ?_⟩
    walk_at "ws"
    refine ⟨.ref p, 0, 400, rfl, .inr ⟨p, xs, rfl, hp, fun H1 s1 => ?_⟩⟩
    walk_at "ws"
    refine w_ifnd (fun h => absurd ⟨by omega, by omega⟩ h) (fun _ => ?_)
    walk_at "ws"
    refine forE H hp.sqa (fun i σ H' => Same H H' ∧ ∃ o3 o4 o5 o6, σ = [some (.ref x), some (.int N), some (.ref p), o3, o4, o5, o6]) ⟨s1, _, _, _, _, rfl⟩ (fun i σ H' _ h => h.1) ?_ ?_
    · rintro i v σ H' t hx' ⟨s, o3, o4, o5, o6, rfl⟩ ht
      obtain ⟨w, c, td, e1, rfl, e2⟩ := deeds_get hd hx'
      have s' := s.trans (same_new (o := .tup [.int (i : Nat), .ref td]) ht)
      refine w_gTup ?_ (sqT upd_same) rfl
      walk_at "ws"
      refine ⟨td, w, c, rfl, s' _ _ e2, hw _ (List.mem_of_getElem? e1), ?_⟩
      walk_at "ws"
      exact ⟨s', _, _, _, _, rfl⟩
    · rintro σ H' ⟨s, o3, o4, o5, o6, rfl⟩
      walk_at "ws"
      have hxH := s _ _ hx
      refine ⟨x, _, dx, _, rfl, hxH, T.k_Plan, T.n_Plan_around, by decide, ?_⟩
      rw [pf1]
      walk_at "ws"
      have kp : ∀ b o, b ≠ x → H b = some o → upd H' x (.ins (CL K) dx (pfs1 N)) b = some o := fun b o hb e => by rw [upd_ne hb]; exact s _ _ e
      have npx : p ≠ x := by
        rcases hp with hp | hp
        · exact ne_of hp hx (by intro z; cases z)
        · exact ne_of hp hx (by intro z; cases z)
      have hpx : Sq (upd H' x (.ins (CL K) dx (pfs1 N))) p xs := hp.elim (fun h => .inl (kp _ _ npx h)) fun h => .inr (kp _ _ npx h)
      have hdx : DeedsAt (upd H' x (.ins (CL K) dx (pfs1 N))) xs ds := Paired.mapP hd fun v q ⟨t, e, ht⟩ => ⟨t, e, kp _ _ (ne_of ht hx (by intro z; cases z)) ht⟩
      refine lcS hpx.sqa (fun i acc H2 => DeedsAt H2 acc ((ds.take i).map fun q => (q.1, q.2 % N))) (fun _ _ => .nil) (fun Dl i v acc H2 hD hx' s2 hl' pv => ?_) (fun Dl acc H2 hD s2 hl' pv => ?_)
      · obtain ⟨w, c, t, e1, rfl, e2⟩ := deeds_get hdx hx'
        refine w_gTup ?_ (sqT (s2 _ _ e2)) rfl
        walk_at "ws"
        refine ⟨rfl, ?_⟩
        walk_at "ws"
        refine ⟨leb rfl, fun p1 H3 n1 s3 h1 => ?_⟩
        have la : acc.length = _ := Paired.length pv
        refine lc_step hD (s2.trans s3) (s3 _ _ hl') (by rw [la]; simp; omega) ?_
        show DeedsAt _ _ _
        rw [take_map_succ e1]
        refine paired_append (Paired.mapP (deeds_same s3 pv) fun v q ⟨t, e, ht⟩ => ⟨t, e, by rw [upd_ne (ne_of ht (s3 _ _ hl') (by intro z; cases z))]; exact ht⟩) (.cons ⟨p1, rfl, ?_⟩ .nil)
        rw [upd_ne (ne_of h1 (s3 _ _ hl') (by intro z; cases z)), h1]
      · rw [hl, List.take_length] at pv
        walk_at "ws"
        refine w_tupOf (.inl hl') fun t H3 s3 h3 => ?_
        walk_at "ws"
        have hx3 : H3 x = some (.ins (CL K) dx (pfs1 N)) := s3 _ _ (s2 _ _ upd_same)
        refine ⟨x, _, dx, _, rfl, hx3, T.k_Plan, T.n_Plan_deeds, leb rfl, ?_⟩
        rw [lf2]
        have kx : ∀ b o, b ≠ x → H3 b = some o → upd H3 x (.ins (CL K) dx (lfs N t)) b = some o := fun b o hb e => by rw [upd_ne hb]; exact e
        refine k _ (fun b o hb e => kx b o hb (s3 _ _ (s2 _ _ (kp b o hb e)))) ⟨dx, t, acc, upd_same, kx _ _ (ne_of h3 hx3 (by intro z; cases z)) h3, Paired.mapP (deeds_same s3 pv) fun v q ⟨t, e, ht⟩ => ⟨t, e, kx _ _ (ne_of ht hx3 (by intro z; cases z)) ht⟩, by simpa using hl4, fun q hq => ?_⟩
        obtain ⟨a, ha, rfl⟩ := List.mem_map.mp hq
        exact hw a ha
theorem make_Plan {H : Hp} {x dx p : Addr} {xs : List V} {ds : List (Str × Int)} {N : Int} {Q : VK} (nx : H x = none) (nd : H dx = none) (n2 : 2 ≤ N) (n360 : N ≤ 360) (hp : Sq H p xs) (hd : DeedsAt H xs ds) (hl : ds.length ≤ 400) (hw : ∀ q ∈ ds, q.1 = "push" ∨ q.1 = "squeeze") (q : ∀ H3, Same H H3 → PlanAt K H3 x N (ds.map fun q => (q.1, q.2 % N)) → Q .non H3) :
    sp_PlanD_initD K [.ref x, .int N, .ref p] (upd (upd H dx (.own x)) x (.ins (CL K) dx [])) Q E0 := by
  have s0 : Same H (upd (upd H dx (.own x)) x (.ins (CL K) dx [])) := fun b o e => by
    rw [upd_ne (ne_of_none e nx), upd_ne (ne_of_none e nd)]; exact e
  exact ⟨x, dx, N, p, xs, ds, rfl, upd_same, n2, n360, hp.same s0, deeds_same s0 hd, hl, hw, fun H3 hk pA => q H3 (Same.made nx nd fun b o e hb => hk b o hb e) pA⟩
def sp_Part_words (K : PySem.W.Frag) : Sp := fun vs H Q _ => ∃ (x : Addr) (N : Int) (sq pu : Option Rws), vs = [.ref x] ∧ PartU K H x N sq pu ∧ ∀ H' p, Same H H' → H p = none → H' p = some (.lst ((wordsL sq pu).map V.str)) → Q (.ref p) H'
theorem c_Part_words (T : Env P K mg) : CalP P w K mg base 1 (He.ga K "Part") "words" p_Part_words (sp_Part_words K) := by
  refine calp_mk (k := 0) T.s_Part_words T.m_Part_words sc_Part_words (fun _ _ _ _ _ _ us hl => match us, hl with | [_], _ => rfl) (fun vs H Q E h => ?_) (fun cdv A outer s H vs Q E hr h => ?_)
  · obtain ⟨_, _, _, _, rfl, _⟩ := h; rfl
  · obtain ⟨x, N, sq, pu, rfl, ⟨dx, ⟨d, wv⟩, kvs, h1, h2, h3⟩, k⟩ := h
    refine ⟨_, (pss_one (ps_ret (pe_callB (jc_sortD (by rfl)) (by rfl) T.b_sorted (by decide +kernel) (pa_cons (pe_fld (pv 0) rfl) pa_nil)))), ?_⟩
    dsimp only [cxOf, Cx.nox]
    walk_at "ws"
    refine ⟨x, _, dx, _, _, rfl, h1, T.k_Part, T.n_Part__turnings, pfU_turnings N (d, wv), ?_⟩
    walk_at "ws"
    refine w_sortD (ks := wordsL sq pu) h2 (ent_keys h3) (by unfold wordsL tabL; cases sq <;> cases pu <;> exact leb rfl) fun ys p H' pm so np s hp => ?_
    have e := words_sorted pm so
    subst e
    exact k H' p s np hp
def sp_check_plan (K : PySem.W.Frag) : Sp := fun vs H Q _ => ∃ (x y : Addr) (N : Int) (sq pu : Option Rws) (ds : List (Str × Int)), vs = [.ref x, .ref y] ∧ PartU K H x N sq pu ∧ PlanAt K H y N ds ∧ (∀ q ∈ ds, ∃ rs, (q.1, rs) ∈ tabL sq pu) ∧ ∀ H', Same H H' → Q .non H'
theorem c2_check_plan (T : Env P K mg) : Cal2 P w K mg base 3 "check_plan" s_check_plan p_check_plan (sp_check_plan K) := by
  refine cal2_mk (k := 2) T.s_check_plan T.g_check_plan sc_check_plan (fun _ _ _ _ _ _ us hl => match us, hl with | [_, _], _ => rfl) (fun vs H Q E h => ?_) (fun cdv A outer s H vs Q E hr h => ?_)
  · obtain ⟨_, _, _, _, _, _, rfl, _⟩ := h; rfl
  · obtain ⟨x, y, N, sq, pu, ds, rfl, hP, hL, htab, k⟩ := h
    obtain ⟨dy, ty, vs, y1, y2, y3, y4, y5⟩ := id hL
    obtain ⟨dx, ⟨d, wv⟩, kvs, g1, g2, g3⟩ := id hP
    refine ⟨_, (pss_cons (ps_if (pt_cmpR op_ne (pe_fld (pv 1) rfl) (pe_fld (pv 0) rfl) (nomark _)) (pss_one ps_never) pss_nil)
    (pss_cons (ps_set (i := 2) sc_check_plan.nd rfl (Or.inl rfl) (pe_calp (pv 0) T.k_Part (c_Part_words T) (hr.mono (by decide))))
    (pss_one (ps_for PassesOwn.never (by rfl) (pi_seq (pe_fld (pv 1) rfl)) (pg_tup (by rfl) (pgs_cons (pg_name (i := 3) sc_check_plan.nd rfl (Or.inl rfl)) (pgs_cons (pg_name (i := 4) sc_check_plan.nd rfl (Or.inl rfl)) pgs_nil))) (pss_one (ps_if (pt_cmpR op_notIn_seq (pv 3) (pv 2) (by rfl)) (pss_one ps_never) pss_nil)))))), ?_⟩
    dsimp only [cxOf, Cx.nox]
    walk_at "ws"
    refine ⟨y, _, dy, _, _, rfl, y1, T.k_Plan, T.n_Plan_around, lfs_around N ty, ?_⟩
    walk_at "ws"
    refine ⟨x, _, dx, _, _, rfl, g1, T.k_Part, T.n_Part_around, pfU_around N (d, wv), ?_⟩
    walk_at "ws"
    refine w_ifnd (fun h => absurd rfl h) (fun _ => ?_)
    walk_at "ws"
    refine ⟨x, dx, _, rfl, g1, x, N, sq, pu, rfl, hP, fun H1 p s1 np hp => ?_⟩
    walk_at "ws"
    refine ⟨y, _, dy, _, _, rfl, s1 _ _ y1, T.k_Plan, T.n_Plan_deeds, lfs_deeds N ty, ?_⟩
    refine forS H1 (sqa_t (s1 _ _ y2)) (fun i σ H' => Same H1 H' ∧ ∃ o3 o4, σ = [some (.ref x), some (.ref y), some (.ref p), o3, o4]) ⟨Same.refl _, _, _, rfl⟩ (fun i σ H' _ h => h.1) ?_ ?_
    · rintro i v σ H' hx' ⟨s, o3, o4, rfl⟩
      obtain ⟨w0, c, td, e1, rfl, e2⟩ := deeds_get y3 hx'
      obtain ⟨rs, hm⟩ := htab _ (List.mem_of_getElem? e1)
      refine w_gTup ?_ (sqT (s _ _ (s1 _ _ e2))) rfl
      walk_at "ws"
      refine w_niS (ys := wordsL sq pu) (sqL (s _ _ hp)) ?_
      walk_at "ws"
      refine w_ifnd (fun h => absurd (List.mem_map.mpr ⟨_, hm, rfl⟩) h) (fun _ => ?_)
      walk_at "ws"
      exact ⟨s, _, _, rfl⟩
    · rintro σ H' ⟨s, o3, o4, rfl⟩
      exact k H' (s1.trans s)
theorem c_check_plan (T : Env P K mg) : Cal P w K mg base 3 "check_plan" p_check_plan (sp_check_plan K) := (c2_check_plan T).cal
def sp_Turning_lifted (K : PySem.W.Frag) : Sp := fun vs H Q _ => ∃ x N rs, ∃ i : Int, vs = [.ref x, .int i] ∧ TurnAt (CT K) H x N rs ∧ ∀ y, IsLift N rs i y → Q (.int y) H
theorem c_Turning_lifted (T : Env P K mg) : CalM P w K mg base 2 (He.ga K "Turning") "lifted" "Turning.lifted" s_Turning_lifted p_Turning_lifted (sp_Turning_lifted K) := by
  refine calm_mk (k := 1) T.s_Turning_lifted T.m_Turning_lifted sc_Turning_lifted (fun _ _ _ _ _ _ us hl => match us, hl with | [_, _], _ => rfl) (fun vs H Q E h => ?_) (fun cdv A outer s H vs Q E hr h => ?_)
  · obtain ⟨_, _, _, _, rfl, _⟩ := h; rfl
  · obtain ⟨x, N, rs, i, rfl, ⟨dx, t, l, vs, ls, h1, h2, h3, h4, tab, R⟩, k⟩ := h
    refine ⟨_, (pss_cons (ps_if (pt_not (pt_val (pe_cal (c_is_whole T) (hr.mono (by decide)) (pa_cons (pv 1) pa_nil)))) (pss_one ps_never) pss_nil)
    (pss_cons (ps_set (i := 2) sc_Turning_lifted.nd rfl (Or.inl rfl) (pe_op op_mod (pv 1) (pe_fld (pv 0) rfl)))
    (pss_one (ps_ret (pe_op op_sub (pe_op op_add (pe_ix ix_list (pe_fld (pv 0) rfl) (pv 2) (fun _ _ => rfl)) (pv 1)) (pv 2)))))), ?_⟩
    dsimp only [cxOf, Cx.nox]
    have n2 := R.n2
    walk_at "ws"
    refine ⟨_, _, rfl, wh_int, ?_⟩
    walk_at "ws"
    refine ⟨x, _, dx, _, _, rfl, h1, T.k_Turning, T.n_Turning_around, tfs_around N t l _, ?_⟩
    walk_at "ws"
    refine ⟨x, _, dx, _, _, rfl, h1, T.k_Turning, T.n_Turning__lifts, tfs_lifts N t l _, ?_⟩
    walk_at "ws"
    have m1 := Int.emod_nonneg i (show N ≠ 0 by omega)
    have m2 := Int.emod_lt_of_pos i (show 0 < N by omega)
    obtain ⟨y, hy, ly⟩ := tab.2 (i % N) m1 m2
    refine w_ixL (v := .int y) ?_ (sqL h4) (atI_of m1 (by rw [List.getElem?_map, hy]; rfl))
    walk_at "ws"
    refine k _ ?_
    have := ly.shift (i / N)
    have d := Int.emod_add_mul_ediv i N
    have e1 : i % N + N * (i / N) = i := d
    have e2 : y + N * (i / N) = y + i - i % N := by omega
    rw [e1, e2] at this
    exact this
def sp__carried_all (K : PySem.W.Frag) : Sp := fun vs H Q _ => ∃ (x y p : Addr) (N : Int) (sq pu : Option Rws) (ds : List (Str × Int)) (zs : List Int), vs = [.ref x, .ref y, .ref p] ∧ PartU K H x N sq pu ∧ PlanAt K H y N ds ∧ (∀ q ∈ ds, ∃ rs, (q.1, rs) ∈ tabL sq pu) ∧ H p = some (.lst (zs.map V.int)) ∧ zs.length ≤ 1000 ∧
  ∀ H' p' ys, Same H H' → H' p' = some (.lst (ys.map V.int)) → Cars N sq pu ds zs ys → Q (.ref p') H'
theorem c2__carried_all (T : Env P K mg) : Cal2 P w K mg base 4 "_carried_all" s__carried_all p__carried_all (sp__carried_all K) := by
  refine cal2_mk (k := 3) T.s__carried_all T.g__carried_all sc__carried_all (fun _ _ _ _ _ _ us hl => match us, hl with | [_, _, _], _ => rfl) (fun vs H Q E h => ?_) (fun cdv A outer s H vs Q E hr h => ?_)
  · obtain ⟨_, _, _, _, _, _, _, _, rfl, _⟩ := h; rfl
  · obtain ⟨x, y, p, N, sq, pu, ds, zs, rfl, hP, ⟨dy, ty, vs, y1, y2, y3, y4, y5⟩, htab, hp, hz, k⟩ := h
    refine ⟨_, (pss_cons (ps_for PassesOwn.never (by rfl) (pi_seq (pe_fld (pv 1) rfl)) (pg_tup (by rfl) (pgs_cons (pg_name (i := 3) sc__carried_all.nd rfl (Or.inl rfl)) (pgs_cons (pg_name (i := 4) sc__carried_all.nd rfl (Or.inr rfl)) pgs_nil))) (pss_cons (ps_set (i := 5) sc__carried_all.nd rfl (Or.inr rfl) (pe_calG (pv 0) (pv 3) (c_PartD_getitemD T) T.q_Part (hr.mono (by decide))))
    (pss_one (ps_setLc (i := 2) (own := [("x", 6)]) (g := (gName 6)) (tt := tYes) (te := (tOp rAddI (tMeth (He.ga K "Turning") "lifted" (sp_Turning_lifted K) [] E0 (tVar 5) (tCons (tOp rSubI (tVar 6) (tVar 4)) tNil)) (tVar 4))) (by rfl) sc__carried_all.nd rfl rfl (sw_true rfl rfl rfl (by decide +kernel)) (pi_seq (pv 2)) (blkOk_by (own := [("x", 6)]) (N := N__carried_all) (sc := defScope s__carried_all) (by decide +kernel)) (fun _ _ _ _ _ => (pg_name (i := 6) sc__carried_all.nd rfl (Or.inl rfl))) (fun _ _ _ _ _ => pts_nil) (fun _ _ _ _ _ => (pe_op op_add (pe_calm (pv 5) T.k_Turning (c_Turning_lifted T) (hr.mono (by decide)) (pa_cons (pe_op op_sub (pv 6) (pv 4)) pa_nil)) (pv 4)))))))
    (pss_one (ps_ret (pv 2)))), ?_⟩
    dsimp only [cxOf, Cx.nox]
    have hl : vs.length = ds.length := Paired.length y3
    walk_at "ws"
    refine ⟨y, _, dy, _, _, rfl, y1, T.k_Plan, T.n_Plan_deeds, lfs_deeds N ty, ?_⟩
    refine forS H (sqa_t y2) (fun i σ H' => Same H H' ∧ ∃ p' ys o3 o4 o5 o6, σ = [some (.ref x), some (.ref y), some (.ref p'), o3, o4, o5, o6] ∧ H' p' = some (.lst (ys.map V.int)) ∧ Cars N sq pu (ds.take i) zs ys)
      ⟨Same.refl _, p, zs, _, _, _, _, rfl, hp, rfl, fun i a b h1 h2 => by rw [h1] at h2; cases h2; rfl⟩ (fun i σ H' _ h => h.1) ?_ ?_
    · rintro i v σ H' hx' ⟨s, p', ys, o3, o4, o5, o6, rfl, hp', hc⟩
      obtain ⟨w, c, td, e1, rfl, e2⟩ := deeds_get y3 hx'
      obtain ⟨rs, hm⟩ := htab _ (List.mem_of_getElem? e1)
      refine w_gTup ?_ (sqT (s _ _ e2)) rfl
      have hP' := hP.same s
      obtain ⟨dx, ⟨d, wv⟩, kvs, g1, g2, g3⟩ := id hP'
      walk_at "ws"
      refine ⟨x, dx, _, rfl, g1, x, N, sq, pu, w, rs, rfl, hP', hm, fun t tA => ?_⟩
      walk_at "ws"
      obtain ⟨dt, t', l', vs', ls', t1, t2, t3, t4, t5, R⟩ := id tA
      refine lcS (sqa_l hp') (fun i acc H2 => ∃ us : List Int, acc = us.map V.int ∧ us.length = i ∧ ∀ (j : Nat) (a b : Int), ys[j]? = some a → us[j]? = some b → Stp N sq pu (w, c) a b) (fun _ _ => ⟨[], rfl, rfl, fun j a b h1 h2 => by simp at h2⟩) (fun Dl j v acc H2 hD hx2 s2 hl' pv => ?_) (fun Dl acc H2 hD s2 hl' pv => ?_)
      · obtain ⟨us, rfl, hu, hst⟩ := pv
        rw [List.getElem?_map] at hx2
        obtain ⟨a, ha, rfl⟩ := Option.map_eq_some_iff.mp hx2
        walk_at "ws"
        refine ⟨rfl, ?_⟩
        walk_at "ws"
        refine ⟨t, dt, _, rfl, s2 _ _ t1, tfs_lifted _ _ _ _, ?_⟩
        walk_at "ws"
        refine ⟨t, N, rs, _, rfl, tA.same s2, fun z hz' => ?_⟩
        walk_at "ws"
        have hy : ys.length ≤ 1000 := by rw [hc.1]; exact hz
        have hj : j < ys.length := (List.getElem?_eq_some_iff.mp ha).1
        refine lc_step hD s2 hl' (by simp; omega) ?_
        refine ⟨us ++ [z + c], by simp, by simp [hu], fun j' a' b' h1 h2 => ?_⟩
        rcases Nat.lt_or_ge j' us.length with q | q
        · rw [List.getElem?_append_left q] at h2
          exact hst j' a' b' h1 h2
        · rw [List.getElem?_append_right q] at h2
          have e0 : j' - us.length = 0 := by
            rcases Nat.eq_zero_or_pos (j' - us.length) with e | e
            · exact e
            · rw [List.getElem?_eq_none (by simp; omega)] at h2; cases h2
          rw [e0] at h2
          have e2 : z + c = b' := by simpa using h2
          have e3 : j' = j := by omega
          subst e3
          rw [ha] at h1; cases h1
          exact ⟨rs, z, hm, hz', e2.symm⟩
      · obtain ⟨us, rfl, hu, hst⟩ := pv
        refine ⟨s.trans s2, Dl, us, _, _, _, _, rfl, hl', ?_, fun j a b h1 h2 => ?_⟩
        · rw [hu, List.length_map]; exact hc.1
        · have hj : j < ys.length := by
            have := (List.getElem?_eq_some_iff.mp h1).1
            rw [hc.1]; exact this
          obtain ⟨m, em⟩ : ∃ m, ys[j]? = some m := ⟨ys[j], by simp [hj]⟩
          rw [List.take_add_one, e1]
          exact car_snoc (hst j m b em h2) (hc.2 j a m h1 em)
    · rintro σ H' ⟨s, p', ys, o3, o4, o5, o6, rfl, hp', hc⟩
      walk_at "ws"
      rw [hl, List.take_length] at hc
      exact k H' p' ys s hp' hc
theorem c__carried_all (T : Env P K mg) : Cal P w K mg base 4 "_carried_all" p__carried_all (sp__carried_all K) := (c2__carried_all T).cal
end
end Qk38
namespace Qk38
open PySem PySem.Spec PyProof.Rows L2 J
-- steps
local macro_rules | `(tactic| walk_at "lk") => `(tactic| first
  | assumption
  | exact upd_same
  | (refine (‹Same _ _› : Same _ _) _ _ ?_; assumption)
  | (refine Same.get1 (by assumption) ?_; walk_at "lk"))
local macro_rules | `(tactic| walk_at "w") => `(tactic| first
  | ((with_reducible refine' w_var ?hh ?_); (case hh => rfl))
  | with_reducible first
    | refine w_c ?_ | refine w_op ?_ | refine w_un ?_ | refine w_seq ?_ | refine w_asg ?_ | refine w_ret ?_ | refine w_retN ?_ | refine w_drop ?_ | refine w_ifS ?_ | refine w_next ?_ | refine w_name ?_
    | refine w_tst ?_ | refine w_tB ?_ | refine w_exb ?_ | refine w_and ?_ | refine w_or ?_ | refine w_not ?_ | refine w_andV ?_ | refine w_orV ?_ | refine w_notV ?_ | refine w_exc ?_ | refine w_ifE ?_ | refine w_chain ?_
    | refine w_nil ?_ | refine w_cons ?_ | refine w_call ?_ | refine w_cb ?_ | refine w_tup ?_ | refine w_lst ?_ | refine w_bm ?_ | refine w_bm0 ?_ | refine w_sl ?_ | refine w_noPart ?_ | refine w_part ?_ | refine w_exi ?_
    | refine w_add ?_ | refine w_sub ?_ | refine w_neg ?_ | refine w_eqI ?_ | refine w_neI ?_ | refine w_eqB ?_ | refine w_neB ?_ | refine w_rI0 ?_
    | refine w_mod ?_ (by first | assumption | omega | decide) | refine w_fdiv ?_ (by first | assumption | omega) (by first | assumption | omega) | refine w_mulL ?_ (by omega) | refine w_mulR ?_ (by omega)
    | refine w_pow ?_ (by decide)
    | refine w_ifT ?_ | refine w_ifF ?_ | refine w_ifnT ?_ | refine w_ifnF ?_
    | refine w_int ?_ | refine w_abs ?_ | refine w_max2 ?_ | refine w_min2 ?_ | refine w_gCons ?_ | refine w_gNil ?_ | refine w_gSub ?_ | refine w_for ?_
    | refine w_fld ?_ | refine w_sFld ?_ | refine w_meth ?_ | refine w_methK ?_ | refine w_isN0 ?_ | refine w_isN1 ?_ | refine w_isN2 ?_ | refine w_noN0 ?_ | refine w_noN1 ?_ | refine w_noN2 ?_ | refine w_makeK ?_ | refine w_make ?_ | refine w_callO ?_ | refine w_lc ?_ | refine w_yes ?_ | refine w_iEnumS ?_ | refine w_iSeq ?_ | refine w_iRng1 ?_ | refine w_iRng2 ?_ | refine w_prop ?_ | refine w_listVals ?_ | refine w_disp ?_ | refine w_dnewK ?_ | refine w_dput ?_ | refine w_dget ?_ | refine w_din ?_ | refine w_dnin ?_ | refine w_get ?_ | refine w_makeD ?_ | refine w_pairs ?_ | refine w_pairs0 ?_ | refine w_sc ?_ | refine w_iVals ?_ | refine w_lstRg1 ?_ | refine w_lstRg2 ?_ | refine w_clsName ?_ | refine w_cutG ?_ | refine w_cutT ?_ | refine w_calK ?_ | refine w_lenSet ?_ | refine w_brk ?_ | refine w_cont ?_ | refine w_raiseJ ?_ | refine w_calX ?_ | refine w_calKX ?_ | refine w_methX ?_ | refine w_methKX ?_ | refine w_makeX ?_ | refine w_makeKX ?_ | refine w_callOX ?_ | refine w_tryA ?_ | refine w_xf ?_ | refine w_eqOwn ?_ | refine w_neOwn ?_ | refine w_zipM ?_ | refine w_lenOwn ?_ | refine w_makeN ?_ | refine w_makeN0 ?_ | refine w_getX ?_ | refine w_calD ?_ | refine w_srtSet ?_ | refine w_dc ?_ | refine w_dcX ?_ | refine w_cmeth ?_ | refine w_cmethP ?_ | refine w_iZip ?_ | refine w_makeV ?_ | refine w_makeVX ?_ | refine w_iKeys ?_ | refine w_dget1 ?_ | refine w_ownI ?_ | refine w_setO ?_ | refine w_gSetX ?_ | refine w_calDX ?_)
local macro_rules | `(tactic| walk_at "ws") => `(tactic| repeat walk_at "w")
section
variable {P : Program} {w : World} {K : PySem.W.Frag} {mg : Str → Option Value} {base : Heap}
def sp_carried (K : PySem.W.Frag) : Sp := fun vs H Q _ => ∃ (x y : Addr) (z N : Int) (sq pu : Option Rws) (ds : List (Str × Int)), vs = [.ref x, .ref y, .int z] ∧ PartU K H x N sq pu ∧ PlanAt K H y N ds ∧ (∀ q ∈ ds, ∃ rs, (q.1, rs) ∈ tabL sq pu) ∧ ∀ H' v, Same H H' → Car N sq pu ds z v → Q (.int v) H'
theorem c2_carried (T : Env P K mg) : Cal2 P w K mg base 5 "carried" s_carried p_carried (sp_carried K) := by
  refine cal2_mk (k := 4) T.s_carried T.g_carried sc_carried (fun _ _ _ _ _ _ us hl => match us, hl with | [_, _, _], _ => rfl) (fun vs H Q E h => ?_) (fun cdv A outer s H vs Q E hr h => ?_)
  · obtain ⟨_, _, _, _, _, _, _, rfl, _⟩ := h; rfl
  · obtain ⟨x, y, z, N, sq, pu, ds, rfl, hP, hL, htab, k⟩ := h
    refine ⟨_, (pss_cons (ps_expr (pe_cal (c_check_plan T) (hr.mono (by decide)) (pa_cons (pv 0) (pa_cons (pv 1) pa_nil))))
    (pss_cons (ps_if (pt_not (pt_val (pe_cal (c_is_whole T) (hr.mono (by decide)) (pa_cons (pv 2) pa_nil)))) (pss_one ps_never) pss_nil)
    (pss_one (ps_ret (pe_ix ix_list (pe_cal (c__carried_all T) (hr.mono (by decide)) (pa_cons (pv 0) (pa_cons (pv 1) (pa_cons (pj_lst (pa_cons (pv 2) pa_nil)) pa_nil)))) pe_int (fun _ _ => rfl)))))), ?_⟩
    dsimp only [cxOf, Cx.nox]
    walk_at "ws"
    refine ⟨x, y, N, sq, pu, ds, rfl, hP, hL, htab, fun H1 s1 => ?_⟩
    walk_at "ws"
    refine ⟨_, _, rfl, wh_int, ?_⟩
    walk_at "ws"
    refine ⟨leb rfl, fun p H2 np s2 hp => ?_⟩
    walk_at "ws"
    refine ⟨x, y, p, N, sq, pu, ds, [z], rfl, hP.same (s1.trans s2), hL.same (s1.trans s2), htab, hp, leb rfl, fun H3 p' ys s3 hp' hc => ?_⟩
    walk_at "ws"
    obtain ⟨hlen, hcar⟩ := hc
    match ys, hlen, hp', hcar with
    | [v], _, hp', hcar =>
      refine w_ixL (v := .int v) ?_ (sqL hp') rfl
      exact k H3 v ((s1.trans s2).trans s3) (hcar 0 z v rfl rfl)
theorem c_carried (T : Env P K mg) : Cal P w K mg base 5 "carried" p_carried (sp_carried K) := (c2_carried T).cal
def sp_Part_settled (K : PySem.W.Frag) : Sp := fun vs H Q _ => ∃ (x td : Addr) (z N : Int) (sq pu : Option Rws) (w : Str) (c : Int) (rs : Rws), vs = [.ref x, .int z, .ref td] ∧ PartU K H x N sq pu ∧ 0 < N ∧ H td = some (.tup [.str w, .int c]) ∧ (w, rs) ∈ tabL sq pu ∧ ∀ y, IsLift N rs (z - c) y → Q (.int ((y + c) % N)) H
theorem c_Part_settled (T : Env P K mg) : CalM P w K mg base 4 (He.ga K "Part") "settled" "Part.settled" s_Part_settled p_Part_settled (sp_Part_settled K) := by
  refine calm_mk (k := 3) T.s_Part_settled T.m_Part_settled sc_Part_settled (fun _ _ _ _ _ _ us hl => match us, hl with | [_, _, _], _ => rfl) (fun vs H Q E h => ?_) (fun cdv A outer s H vs Q E hr h => ?_)
  · obtain ⟨_, _, _, _, _, _, _, _, _, rfl, _⟩ := h; rfl
  · obtain ⟨x, td, z, N, sq, pu, w0, c, rs, rfl, hP, n0, ht, hm, k⟩ := h
    obtain ⟨dx, ⟨d, wv⟩, kvs, g1, g2, g3⟩ := id hP
    refine ⟨_, (pss_cons (ps_asg (pv 2) (pg_tup (by rfl) (pgs_cons (pg_name (i := 3) sc_Part_settled.nd rfl (Or.inl rfl)) (pgs_cons (pg_name (i := 4) sc_Part_settled.nd rfl (Or.inl rfl)) pgs_nil))))
    (pss_cons (ps_set (i := 5) sc_Part_settled.nd rfl (Or.inl rfl) (pe_calG (pv 0) (pv 3) (c_PartD_getitemD T) T.q_Part (hr.mono (by decide))))
    (pss_cons (ps_if (pt_not (pt_val (pe_cal (c_is_whole T) (hr.mono (by decide)) (pa_cons (pv 4) pa_nil)))) (pss_one ps_never) pss_nil)
    (pss_cons (ps_if (pt_not (pt_val (pe_cal (c_is_whole T) (hr.mono (by decide)) (pa_cons (pv 1) pa_nil)))) (pss_one ps_never) pss_nil)
    (pss_one (ps_ret (pe_op op_mod (pe_op op_add (pe_calm (pv 5) T.k_Turning (c_Turning_lifted T) (hr.mono (by decide)) (pa_cons (pe_op op_sub (pv 1) (pv 4)) pa_nil)) (pv 4)) (pe_fld (pv 0) rfl)))))))), ?_⟩
    dsimp only [cxOf, Cx.nox]
    walk_at "ws"
    refine w_gTup ?_ (sqT ht) rfl
    walk_at "ws"
    refine ⟨x, dx, _, rfl, g1, x, N, sq, pu, w0, rs, rfl, hP, hm, fun t tA => ?_⟩
    walk_at "ws"
    refine ⟨_, _, rfl, wh_int, ?_⟩
    walk_at "ws"
    refine ⟨_, _, rfl, wh_int, ?_⟩
    walk_at "ws"
    obtain ⟨dt, t', l', vs', ls', t1, _⟩ := id tA
    refine ⟨t, dt, _, rfl, t1, tfs_lifted _ _ _ _, ?_⟩
    walk_at "ws"
    refine ⟨t, N, rs, _, rfl, tA, fun y hy => ?_⟩
    walk_at "ws"
    refine ⟨x, _, dx, _, _, rfl, g1, T.k_Part, T.n_Part_around, pfU_around N (d, wv), ?_⟩
    walk_at "ws"
    exact k y hy
def sp_after (K : PySem.W.Frag) : Sp := fun vs H Q _ => ∃ (x y : Addr) (N : Int) (sq pu : Option Rws) (ds : List (Str × Int)), vs = [.ref x, .ref y, .non] ∧ PartU K H x N sq pu ∧ 2 ≤ N ∧ N ≤ 360 ∧ PlanAt K H y N ds ∧ (∀ q ∈ ds, ∃ rs, (q.1, rs) ∈ tabL sq pu) ∧
  ∀ H' p ns, Same H H' → H p = none → H' p = some (.lst (ns.map V.int)) → AftT N (tabL sq pu) ds ns → Q (.ref p) H'
theorem ck_after (T : Env P K mg) : CalDK P w K mg base 5 "after" s_after p_after ([.non] : List V) (sp_after K) := by
  refine caldk_mk (k := 4) T.s_after T.g_after sc_after (fun vs H Q E h => ?_) (fun cdv A outer s H vs Q E hr h => ?_)
  · obtain ⟨_, _, _, _, _, _, rfl, _⟩ := h; rfl
  · obtain ⟨x, y, N, sq, pu, ds, rfl, hP, n2, n360, hL, htab, k⟩ := h
    have ok := hP.tbl n2 n360
    obtain ⟨dy, ty, vs, y1, y2, y3, y4, y5⟩ := id hL
    obtain ⟨dx, ⟨d, wv⟩, kvs, g1, g2, g3⟩ := id hP
    have hl : vs.length = ds.length := Paired.length y3
    refine ⟨_, (pss_cons (ps_expr (pe_cal (c_check_plan T) (hr.mono (by decide)) (pa_cons (pv 0) (pa_cons (pv 1) pa_nil))))
    (pss_cons (ps_set (i := 3) sc_after.nd rfl (Or.inl rfl) (pe_cal (c_checked_standings T) (hr.mono (by decide)) (pa_cons (pe_fld (pv 0) rfl) (pa_cons (pv 2) pa_nil))))
    (pss_cons (ps_for PassesOwn.never (by rfl) (pi_seq (pe_fld (pv 1) rfl)) (pg_name (i := 4) sc_after.nd rfl (Or.inr rfl)) (pss_one (ps_set (i := 3) sc_after.nd rfl (Or.inl rfl) (pe_callB (cr_sortedSet (by rfl)) (by rfl) T.b_sorted (by decide +kernel) (pa_cons (pe_sci (own := [("x", 5)]) (g := (gName 5)) (tt := tYes) (te := (tMeth (He.ga K "Part") "settled" (sp_Part_settled K) [] E0 (tVar 0) (tCons (tVar 5) (tCons (tVar 4) tNil)))) (by rfl) sc_after.nd (pi_seq (pv 3)) (blkOk_by (own := [("x", 5)]) (N := N_after) (sc := defScope s_after) (by decide +kernel)) (fun _ _ _ _ _ => (pg_name (i := 5) sc_after.nd rfl (Or.inl rfl))) (fun _ _ _ _ _ => pts_nil) (fun _ _ _ _ _ => (pe_calm (pv 0) T.k_Part (c_Part_settled T) (hr.mono (by decide)) (pa_cons (pv 5) (pa_cons (pv 4) pa_nil))))) pa_nil)))))
    (pss_one (ps_ret (pe_srtSet (by rfl) T.b_sorted (by rfl) T.b_set (pv 3))))))), ?_⟩
    dsimp only [cxOf, Cx.nox]
    walk_at "ws"
    refine ⟨x, y, N, sq, pu, ds, rfl, hP, hL, htab, fun H1 s1 => ?_⟩
    walk_at "ws"
    refine ⟨x, _, dx, _, _, rfl, s1 _ _ g1, T.k_Part, T.n_Part_around, pfU_around N (d, wv), ?_⟩
    walk_at "ws"
    refine ⟨N, rfl, by omega, by omega, fun H2 pl s2 npl hpl => ?_⟩
    walk_at "ws"
    have s02 := s1.trans s2
    refine ⟨y, _, dy, _, _, rfl, s02 _ _ y1, T.k_Plan, T.n_Plan_deeds, lfs_deeds N ty, ?_⟩
    refine forS H (sqa_t y2) (fun i σ H' => Same H H' ∧ H' ty = some (.tup vs) ∧ ∃ pl ns o4 o5, σ = [some (.ref x), some (.ref y), some .non, some (.ref pl), o4, o5] ∧ H' pl = some (.lst (ns.map V.int)) ∧ AftT N (tabL sq pu) (ds.take i) ns)
      ⟨s02, s02 _ _ y2, pl, upto N, _, _, rfl, hpl, by rw [List.take_zero]; exact aft_none (by omega)⟩ (fun i σ H' _ h => h.1) ?_ ?_
    · rintro i v σ H' hx' ⟨s, hty, pl, ns, o4, o5, rfl, hpl, hleft⟩
      obtain ⟨w0, c, td, e1, rfl, e2⟩ := deeds_get y3 hx'
      obtain ⟨rs, hm⟩ := htab _ (List.mem_of_getElem? e1)
      have R : Rows N rs := ok.rows _ hm
      have l12 : rs.length ≤ 12 := R.l12
      walk_at "ws"
      refine scS (sqa_l hpl) (fun j ms => (∀ v, v ∈ ms ↔ ∃ a ∈ ns.take j, ∃ z, StpT N (tabL sq pu) (w0, c) a z ∧ v = z % N) ∧ ∀ v ∈ ms, v ∈ rs.map fun q => (q.2 + c) % N) ⟨fun v => by simp, fun v h => by cases h⟩ (fun D j x ms S n H3 hD hx3 s3 hat si pv => ?_) (fun D ms S n H3 hD s3 hat si pv => ?_)
      · rw [List.getElem?_map] at hx3
        obtain ⟨a, ha, rfl⟩ := Option.map_eq_some_iff.mp hx3
        have few : ms.length ≤ 12 := by
          have := nodup_len si.1 pv.2
          rw [List.length_map] at this
          omega
        walk_at "ws"
        refine ⟨rfl, ?_⟩
        walk_at "ws"
        refine ⟨x, dx, _, rfl, s3 _ _ (s _ _ g1), pfU_settled N (d, wv), ?_⟩
        walk_at "ws"
        refine ⟨x, td, a, N, sq, pu, w0, c, rs, rfl, (hP.same s).same s3, by omega, s3 _ _ (s _ _ e2), hm, fun z hz => ?_⟩
        refine sc_step hD s3 hat si (by omega) fun ms' nd mem => ⟨fun v => ?_, fun v hv => ?_⟩
        · rw [mem, pv.1, List.take_add_one, ha]
          constructor
          · rintro (rfl | ⟨b, hb, z', hs, rfl⟩)
            · exact ⟨a, by simp, z + c, ⟨rs, z, hm, hz, rfl⟩, rfl⟩
            · exact ⟨b, List.mem_append_left _ hb, z', hs, rfl⟩
          · rintro ⟨b, hb, z', hs, rfl⟩
            rcases List.mem_append.mp hb with hb | hb
            · exact .inr ⟨b, hb, z', hs, rfl⟩
            · have e : b = a := by simpa using hb
              subst e
              obtain ⟨rs', z2, h1, h2, rfl⟩ := hs
              have e := ok.one _ _ _ hm h1
              subst e
              rw [IsLift.unique R h2 hz]
              exact .inl rfl
        · rcases (mem v).mp hv with rfl | hv
          · exact aft_few ok (d := (w0, c)) hm (x := a) ⟨rs, z, hm, hz, rfl⟩
          · exact pv.2 v hv
      · have few : ms.length ≤ 12 := by
          have := nodup_len si.1 pv.2
          rw [List.length_map] at this
          omega
        walk_at "ws"
        refine w_sortSet hat si (by omega) fun q H4 ns' nq s4 hq pw mem len => ?_
        have s34 := s3.trans s4
        refine ⟨s.trans s34, s34 _ _ hty, q, ns', _, _, rfl, hq, pw, fun v => ?_⟩
        have e3 : ns.take (ns.map V.int).length = ns := by rw [List.length_map, List.take_length]
        rw [mem, pv.1, e3, List.take_add_one, e1]
        exact aft_step ok hleft v
    · rintro σ H' ⟨s, hty, pl, ns, o4, o5, rfl, hpl, hleft⟩
      walk_at "ws"
      rw [hl, List.take_length] at hleft
      refine ⟨pl, ns, rfl, sqL hpl, by have := aft_len (by omega) n360 hleft; omega, fun ms p pw mem np => ?_⟩
      exact k _ p ms (s.trans (same_new np)) (s.free np) upd_same ⟨pw, fun v => by rw [mem]; exact hleft.2 v⟩
theorem c_after (T : Env P K mg) : CalD P w K mg base 5 "after" p_after (List.drop 0 ([.non] : List V)) (sp_after K) := (ck_after T).pos 2 0 (fun z => nomatch z) rfl (fun _ _ _ _ _ _ _ us its h1 h2 => match us, its, h1, h2 with | [_, _], [_], _, _ => ⟨_, rfl, rfl⟩)
def sp_TurningD_callD (K : PySem.W.Frag) : Sp := fun vs H Q _ => ∃ x N rs, ∃ i : Int, vs = [.ref x, .int i] ∧ TurnAt (CT K) H x N rs ∧ ∀ y, IsLift N rs i y → Q (.int (y % N)) H
theorem c_TurningD_callD (T : Env P K mg) : CalM P w K mg base 3 (He.ga K "Turning") "__call__" "Turning.__call__" s_TurningD_callD p_TurningD_callD (sp_TurningD_callD K) := by
  refine calm_mk (k := 2) T.s_TurningD_callD T.m_TurningD_callD sc_TurningD_callD (fun _ _ _ _ _ _ us hl => match us, hl with | [_, _], _ => rfl) (fun vs H Q E h => ?_) (fun cdv A outer s H vs Q E hr h => ?_)
  · obtain ⟨_, _, _, _, rfl, _⟩ := h; rfl
  · obtain ⟨x, N, rs, i, rfl, TA, k⟩ := h
    obtain ⟨dx, t, l, vs, ls, h1, h2, h3, h4, tab, R⟩ := id TA
    refine ⟨_, (pss_one (ps_ret (pe_op op_mod (pe_calm (pv 0) T.k_Turning (c_Turning_lifted T) (hr.mono (by decide)) (pa_cons (pv 1) pa_nil)) (pe_fld (pv 0) rfl)))), ?_⟩
    dsimp only [cxOf, Cx.nox]
    have n2 := R.n2
    walk_at "ws"
    refine ⟨x, dx, _, rfl, h1, tfs_lifted N t l _, ?_⟩
    walk_at "ws"
    refine ⟨x, N, rs, i, rfl, TA, fun y ly => ?_⟩
    walk_at "ws"
    refine ⟨x, _, dx, _, _, rfl, h1, T.k_Turning, T.n_Turning_around, tfs_around N t l _, ?_⟩
    walk_at "ws"
    exact k y ly
def sp_Turning_period (K : PySem.W.Frag) : Sp := fun vs H Q _ => ∃ x N rs, vs = [.ref x] ∧ TurnAt (CT K) H x N rs ∧ Q (.int (perR N rs)) H
theorem c_Turning_period (T : Env P K mg) : CalP P w K mg base 1 (He.ga K "Turning") "period" p_Turning_period (sp_Turning_period K) := by
  refine calp_mk (k := 0) T.s_Turning_period T.m_Turning_period sc_Turning_period (fun _ _ _ _ _ _ us hl => match us, hl with | [_], _ => rfl) (fun vs H Q E h => ?_) (fun cdv A outer s H vs Q E hr h => ?_)
  · obtain ⟨_, _, _, rfl, _⟩ := h; rfl
  · obtain ⟨x, N, rs, rfl, ⟨dx, t, l, vs, ls, h1, h2, h3, h4, tab, R⟩, k⟩ := h
    refine ⟨_, (pss_one (ps_ret (pe_fld (pv 0) rfl))), ?_⟩
    dsimp only [cxOf, Cx.nox]
    walk_at "ws"
    refine ⟨x, _, dx, _, _, rfl, h1, T.k_Turning, T.n_Turning__period, tfs_period N t l _, ?_⟩
    walk_at "ws"
    exact k
def sp_Part_period (K : PySem.W.Frag) : Sp := fun vs H Q _ => ∃ (x : Addr) (N : Int) (sq pu : Option Rws), vs = [.ref x] ∧ PartU K H x N sq pu ∧ 2 ≤ N ∧ N ≤ 360 ∧ Q (.int (perP N (tabL sq pu))) H
theorem c_Part_period (T : Env P K mg) : CalP P w K mg base 3 (He.ga K "Part") "period" p_Part_period (sp_Part_period K) := by
  refine calp_mk (k := 2) T.s_Part_period T.m_Part_period sc_Part_period (fun _ _ _ _ _ _ us hl => match us, hl with | [_], _ => rfl) (fun vs H Q E h => ?_) (fun cdv A outer s H vs Q E hr h => ?_)
  · obtain ⟨_, _, _, _, rfl, _⟩ := h; rfl
  · obtain ⟨x, N, sq, pu, rfl, hP, n2, n360, k⟩ := h
    have ok := hP.tbl n2 n360
    obtain ⟨dx, ⟨d, wv⟩, kvs, h1, h2, h3⟩ := hP
    refine ⟨_, (pss_cons (ps_set (i := 1) sc_Part_period.nd rfl (Or.inl rfl) pe_int)
    (pss_cons (ps_lock (ps_for PassesOwn.never (by rfl) (pi_values (pe_fld (pv 0) rfl)) (pg_name (i := 2) sc_Part_period.nd rfl (Or.inl rfl)) (pss_one (ps_set (i := 1) sc_Part_period.nd rfl (Or.inl rfl) (pe_callBfun cr_lcm (by rfl) T.g_lcm (pa_cons (pv 1) (pa_cons (pe_calp (pv 2) T.k_Turning (c_Turning_period T) (hr.mono (by decide))) pa_nil)))))))
    (pss_one (ps_ret (pv 1))))), ?_⟩
    dsimp only [cxOf, Cx.nox]
    walk_at "ws"
    refine w_lock ⟨d, _, h2, trivial, fun od => ?_⟩
    walk_at "ws"
    have hl : (tabL sq pu).length = kvs.length := (Paired.length h3).symm
    refine ⟨x, _, dx, _, _, rfl, by rw [upd_ne (ne_of h1 h2 (by intro z; cases z))]; exact h1, T.k_Part, T.n_Part__turnings, pfU_turnings N (d, wv), d, od, kvs, rfl, upd_same, ?_⟩
    refine forV (fun i σ H' => H' = upd H d (.frz od (.dK kvs)) ∧ ∃ o2, σ = [some (.ref x), some (.int (perTo N (tabL sq pu) i)), o2]) ⟨rfl, _, rfl⟩ (fun i σ H' h => by rw [h.1]; exact upd_same) ?_ ?_
    · rintro i kk v σ H' hx ⟨rfl, o2, rfl⟩
      obtain ⟨w0, rs, t, e1, rfl, tA⟩ := ent_at h3 hx
      have R := ok.rows _ (List.mem_of_getElem? e1)
      walk_at "ws"
      have tA' := tA.lock (o := .frz od (.dK kvs)) h2
      obtain ⟨dt, t', l', vs', ls', t1, t2⟩ := id tA'
      refine ⟨t, dt, _, rfl, t1, t, N, rs, rfl, tA', ?_⟩
      walk_at "ws"
      refine w_lcm (lcm_small ok) (perR_small R) ?_
      walk_at "ws"
      rw [perTo_succ e1]
      exact ⟨rfl, _, rfl⟩
    · rintro σ H' ⟨rfl, o2, rfl⟩
      refine ⟨upd_same, ?_⟩
      rw [upd_upd, upd_id h2]
      walk_at "ws"
      rw [perTo_last hl]
      exact k
end
end Qk38
namespace Qk38
open PySem PySem.Spec PyProof.Rows L2 J
-- steps
local macro_rules | `(tactic| walk_at "lk") => `(tactic| first
  | assumption
  | exact upd_same
  | (refine (‹Same _ _› : Same _ _) _ _ ?_; assumption)
  | (refine Same.get1 (by assumption) ?_; walk_at "lk"))
local macro_rules | `(tactic| walk_at "w") => `(tactic| first
  | ((with_reducible refine' w_var ?hh ?_); (case hh => rfl))
  | with_reducible first
    | refine w_c ?_ | refine w_op ?_ | refine w_un ?_ | refine w_seq ?_ | refine w_asg ?_ | refine w_ret ?_ | refine w_retN ?_ | refine w_drop ?_ | refine w_ifS ?_ | refine w_next ?_ | refine w_name ?_
    | refine w_tst ?_ | refine w_tB ?_ | refine w_exb ?_ | refine w_and ?_ | refine w_or ?_ | refine w_not ?_ | refine w_andV ?_ | refine w_orV ?_ | refine w_notV ?_ | refine w_exc ?_ | refine w_ifE ?_ | refine w_chain ?_
    | refine w_nil ?_ | refine w_cons ?_ | refine w_call ?_ | refine w_cb ?_ | refine w_tup ?_ | refine w_lst ?_ | refine w_bm ?_ | refine w_bm0 ?_ | refine w_sl ?_ | refine w_noPart ?_ | refine w_part ?_ | refine w_exi ?_
    | refine w_add ?_ | refine w_sub ?_ | refine w_neg ?_ | refine w_eqI ?_ | refine w_neI ?_ | refine w_eqB ?_ | refine w_neB ?_ | refine w_rI0 ?_
    | refine w_mod ?_ (by first | assumption | omega | decide) | refine w_fdiv ?_ (by first | assumption | omega) (by first | assumption | omega) | refine w_mulL ?_ (by omega) | refine w_mulR ?_ (by omega)
    | refine w_pow ?_ (by decide)
    | refine w_ifT ?_ | refine w_ifF ?_ | refine w_ifnT ?_ | refine w_ifnF ?_
    | refine w_int ?_ | refine w_abs ?_ | refine w_max2 ?_ | refine w_min2 ?_ | refine w_gCons ?_ | refine w_gNil ?_ | refine w_gSub ?_ | refine w_for ?_
    | refine w_fld ?_ | refine w_sFld ?_ | refine w_meth ?_ | refine w_methK ?_ | refine w_isN0 ?_ | refine w_isN1 ?_ | refine w_isN2 ?_ | refine w_noN0 ?_ | refine w_noN1 ?_ | refine w_noN2 ?_ | refine w_makeK ?_ | refine w_make ?_ | refine w_callO ?_ | refine w_lc ?_ | refine w_yes ?_ | refine w_iEnumS ?_ | refine w_iSeq ?_ | refine w_iRng1 ?_ | refine w_iRng2 ?_ | refine w_prop ?_ | refine w_listVals ?_ | refine w_disp ?_ | refine w_dnewK ?_ | refine w_dput ?_ | refine w_dget ?_ | refine w_din ?_ | refine w_dnin ?_ | refine w_get ?_ | refine w_makeD ?_ | refine w_pairs ?_ | refine w_pairs0 ?_ | refine w_sc ?_ | refine w_iVals ?_ | refine w_lstRg1 ?_ | refine w_lstRg2 ?_ | refine w_clsName ?_ | refine w_cutG ?_ | refine w_cutT ?_ | refine w_calK ?_ | refine w_lenSet ?_ | refine w_brk ?_ | refine w_cont ?_ | refine w_raiseJ ?_ | refine w_calX ?_ | refine w_calKX ?_ | refine w_methX ?_ | refine w_methKX ?_ | refine w_makeX ?_ | refine w_makeKX ?_ | refine w_callOX ?_ | refine w_tryA ?_ | refine w_xf ?_ | refine w_eqOwn ?_ | refine w_neOwn ?_ | refine w_zipM ?_ | refine w_lenOwn ?_ | refine w_makeN ?_ | refine w_makeN0 ?_ | refine w_getX ?_ | refine w_calD ?_ | refine w_srtSet ?_ | refine w_dc ?_ | refine w_dcX ?_ | refine w_cmeth ?_ | refine w_cmethP ?_ | refine w_iZip ?_ | refine w_makeV ?_ | refine w_makeVX ?_ | refine w_iKeys ?_ | refine w_dget1 ?_ | refine w_ownI ?_ | refine w_setO ?_ | refine w_gSetX ?_ | refine w_calDX ?_)
local macro_rules | `(tactic| walk_at "ws") => `(tactic| repeat walk_at "w")
section
variable {P : Program} {w : World} {K : PySem.W.Frag} {mg : Str → Option Value} {base : Heap}
def sp__unlike (K : PySem.W.Frag) : Sp := fun vs H Q _ => ∃ (x y : Addr) (N : Int) (sq pu : Option Rws) (ds : List (Str × Int)), vs = [.ref x, .ref y] ∧ PartU K H x N sq pu ∧ 2 ≤ N ∧ N ≤ 360 ∧ PlanAt K H y N ds ∧ (∀ q ∈ ds, ∃ rs, (q.1, rs) ∈ tabL sq pu) ∧
  ∀ H' p ps nss, Same H H' → H p = none → H' p = some (.lst ps) → ListsAt H' p ps nss → LeftsAre N (tabL sq pu) ds ds.length nss → Q (.ref p) H'
theorem c2__unlike (T : Env P K mg) : Cal2 P w K mg base 5 "_unlike" s__unlike p__unlike (sp__unlike K) := by
  refine cal2_mk (k := 4) T.s__unlike T.g__unlike sc__unlike (fun _ _ _ _ _ _ us hl => match us, hl with | [_, _], _ => rfl) (fun vs H Q E h => ?_) (fun cdv A outer s H vs Q E hr h => ?_)
  · obtain ⟨_, _, _, _, _, _, rfl, _⟩ := h; rfl
  · obtain ⟨x, y, N, sq, pu, ds, rfl, hP, n2, n360, hL, htab, k⟩ := h
    have ok := hP.tbl n2 n360
    have s0 := ok.pos
    have sN := ok.le
    obtain ⟨dy, ty, vs, y1, y2, y3, y4, y5⟩ := id hL
    obtain ⟨dx, ⟨d, wv⟩, kvs, g1, g2, g3⟩ := id hP
    have hl : vs.length = ds.length := Paired.length y3
    refine ⟨_, (pss_cons (ps_expr (pe_cal (c_check_plan T) (hr.mono (by decide)) (pa_cons (pv 0) (pa_cons (pv 1) pa_nil))))
    (pss_cons (ps_set (i := 2) sc__unlike.nd rfl (Or.inr rfl) (pe_calp (pv 0) T.k_Part (c_Part_period T) (hr.mono (by decide))))
    (pss_cons (ps_set (i := 3) sc__unlike.nd rfl (Or.inl rfl) (pe_listRg (by rfl) (by rfl) T.b_list (prg_1 (by rfl) T.b_range (pv 2))))
    (pss_cons (ps_set (i := 4) sc__unlike.nd rfl (Or.inl rfl) (pj_lst (pa_cons (pv 3) pa_nil)))
    (pss_cons (ps_for PassesOwn.never (by rfl) (pi_seq (pe_fld (pv 1) rfl)) (pg_name (i := 5) sc__unlike.nd rfl (Or.inr rfl)) (pss_cons (ps_set (i := 3) sc__unlike.nd rfl (Or.inl rfl) (pe_callB (cr_sortedSet (by rfl)) (by rfl) T.b_sorted (by decide +kernel) (pa_cons (pe_sci (own := [("x", 6)]) (g := (gName 6)) (tt := tYes) (te := (tOp rModI (tMeth (He.ga K "Part") "settled" (sp_Part_settled K) [] E0 (tVar 0) (tCons (tVar 6) (tCons (tVar 5) tNil))) (tVar 2))) (by rfl) sc__unlike.nd (pi_seq (pv 3)) (blkOk_by (own := [("x", 6)]) (N := N__unlike) (sc := defScope s__unlike) (by decide +kernel)) (fun _ _ _ _ _ => (pg_name (i := 6) sc__unlike.nd rfl (Or.inl rfl))) (fun _ _ _ _ _ => pts_nil) (fun _ _ _ _ _ => (pe_op op_mod (pe_calm (pv 0) T.k_Part (c_Part_settled T) (hr.mono (by decide)) (pa_cons (pv 6) (pa_cons (pv 5) pa_nil))) (pv 2)))) pa_nil)))
    (pss_one (ps_expr (pe_bm PySem.F.plainAttrs_list PySem.F.slot_list_append PySem.F.type_list_append mt_append (pv 4) (pa_cons (pv 3) pa_nil))))))
    (pss_one (ps_ret (pv 4)))))))), ?_⟩
    dsimp only [cxOf, Cx.nox]
    walk_at "ws"
    refine ⟨x, y, N, sq, pu, ds, rfl, hP, hL, htab, fun H1 s1 => ?_⟩
    walk_at "ws"
    refine ⟨x, dx, _, rfl, s1 _ _ g1, x, N, sq, pu, rfl, hP.same s1, n2, n360, ?_⟩
    walk_at "ws"
    refine ⟨rgOk_small (by omega) (by omega), fun pl npl => ?_⟩
    rw [rgV_upto]
    have sl := same_new (o := .lst ((upto (perP N (tabL sq pu))).map V.int)) npl
    walk_at "ws"
    refine ⟨leb rfl, fun p H2 np s2 hp => ?_⟩
    walk_at "ws"
    have s02 := (s1.trans sl).trans s2
    have np0 : H p = none := (s1.trans sl).free np
    refine ⟨y, _, dy, _, _, rfl, s02 _ _ y1, T.k_Plan, T.n_Plan_deeds, lfs_deeds N ty, ?_⟩
    refine forS H (sqa_t y2) (fun i σ H' => Same H H' ∧ H' ty = some (.tup vs) ∧ ∃ pl ns ps nss o5 o6, σ = [some (.ref x), some (.ref y), some (.int (perP N (tabL sq pu))), some (.ref pl), some (.ref p), o5, o6] ∧ H' pl = some (.lst (ns.map V.int)) ∧
        LeftIs N (tabL sq pu) (ds.take i) ns ∧ H' p = some (.lst ps) ∧ ListsAt H' p ps nss ∧ LeftsAre N (tabL sq pu) ds i nss)
      ⟨s02, s02 _ _ y2, pl, _, _, [_], _, _, rfl, s2 _ _ upd_same, left_none ok, hp, .cons ⟨pl, rfl, ne_of_none upd_same np, s2 _ _ upd_same⟩ .nil, rfl, fun i ns e => ?_⟩ (fun i σ H' _ h => ?_) ?_ ?_
    · have : i = 0 := by
        rcases Nat.eq_zero_or_pos i with z | z
        · exact z
        · rw [List.getElem?_eq_none (by simp; omega)] at e; cases e
      subst this
      cases e
      exact left_none ok
    · exact h.1
    · rintro i v σ H' hx' ⟨s, hty, pl, ns, ps, nss, o5, o6, rfl, hpl, hleft, hps, hlists, hlefts⟩
      obtain ⟨w0, c, td, e1, rfl, e2⟩ := deeds_get y3 hx'
      obtain ⟨rs, hm⟩ := htab _ (List.mem_of_getElem? e1)
      have R : Rows N rs := ok.rows _ hm
      have l12 : rs.length ≤ 12 := R.l12
      walk_at "ws"
      refine scS (sqa_l hpl) (fun j ms => (∀ v, v ∈ ms ↔ ∃ a ∈ ns.take j, ∃ z, StpT N (tabL sq pu) (w0, c) a z ∧ v = z % perP N (tabL sq pu)) ∧ ∀ v ∈ ms, v ∈ rs.map fun q => (q.2 + c) % perP N (tabL sq pu)) ⟨fun v => by simp, fun v h => by cases h⟩ (fun D j x ms S n H3 hD hx3 s3 hat si pv => ?_) (fun D ms S n H3 hD s3 hat si pv => ?_)
      · rw [List.getElem?_map] at hx3
        obtain ⟨a, ha, rfl⟩ := Option.map_eq_some_iff.mp hx3
        have few : ms.length ≤ 12 := by
          have := nodup_len si.1 pv.2
          rw [List.length_map] at this
          omega
        walk_at "ws"
        refine ⟨rfl, ?_⟩
        walk_at "ws"
        refine ⟨x, dx, _, rfl, s3 _ _ (s _ _ g1), pfU_settled N (d, wv), ?_⟩
        walk_at "ws"
        refine ⟨x, td, a, N, sq, pu, w0, c, rs, rfl, (hP.same s).same s3, by omega, s3 _ _ (s _ _ e2), hm, fun z hz => ?_⟩
        walk_at "ws"
        rw [ok.modN]
        refine sc_step hD s3 hat si (by omega) fun ms' nd mem => ⟨fun v => ?_, fun v hv => ?_⟩
        · rw [mem, pv.1, List.take_add_one, ha]
          constructor
          · rintro (rfl | ⟨b, hb, z', hs, rfl⟩)
            · exact ⟨a, by simp, z + c, ⟨rs, z, hm, hz, rfl⟩, rfl⟩
            · exact ⟨b, List.mem_append_left _ hb, z', hs, rfl⟩
          · rintro ⟨b, hb, z', hs, rfl⟩
            rcases List.mem_append.mp hb with hb | hb
            · exact .inr ⟨b, hb, z', hs, rfl⟩
            · have e : b = a := by simpa using hb
              subst e
              obtain ⟨rs', z2, h1, h2, rfl⟩ := hs
              have e := ok.one _ _ _ hm h1
              subst e
              rw [IsLift.unique R h2 hz]
              exact .inl rfl
        · rcases (mem v).mp hv with rfl | hv
          · exact left_few ok (d := (w0, c)) hm (x := a) ⟨rs, z, hm, hz, rfl⟩
          · exact pv.2 v hv
      · have few : ms.length ≤ 12 := by
          have := nodup_len si.1 pv.2
          rw [List.length_map] at this
          omega
        walk_at "ws"
        refine w_sortSet hat si (by omega) fun q H4 ns' nq s4 hq pw mem len => ?_
        walk_at "ws"
        have s34 := s3.trans s4
        refine ⟨.inl ⟨rfl, _, sqL (s34 _ _ hps)⟩, ?_⟩
        walk_at "ws"
        have lps : ps.length = i + 1 := by rw [Paired.length hlists]; exact hlefts.1
        have lvs := (List.getElem?_eq_some_iff.mp hx').1
        refine w_append ?_ (s34 _ _ hps) (szlt (by omega))
        walk_at "ws"
        have nqp : q ≠ p := fun z => by rw [z, s3 _ _ hps] at nq; cases nq
        have left' : LeftIs N (tabL sq pu) (ds.take (i + 1)) ns' := by
          refine ⟨pw, fun v => ?_⟩
          have e3 : ns.take (ns.map V.int).length = ns := by rw [List.length_map, List.take_length]
          rw [mem, pv.1, e3, List.take_add_one, e1]
          exact left_step ok hleft v
        refine ⟨same_mut (s.trans s34) np0, by rw [upd_ne (ne_of (s34 _ _ hty) (s34 _ _ hps) (by intro z; cases z))]; exact s34 _ _ hty, q, ns', _, nss ++ [ns'], _, _, rfl, by rw [upd_ne nqp]; exact hq, left', upd_same, ?_, hlefts.snoc left'⟩
        exact paired_append (hlists.same s34).put (.cons ⟨q, rfl, nqp, by rw [upd_ne nqp]; exact hq⟩ .nil)
    · rintro σ H' ⟨s, hty, pl, ns, ps, nss, o5, o6, rfl, hpl, hleft, hps, hlists, hlefts⟩
      walk_at "ws"
      rw [hl] at hlefts
      exact k H' p ps nss s np0 hps hlists hlefts
theorem c__unlike (T : Env P K mg) : Cal P w K mg base 5 "_unlike" p__unlike (sp__unlike K) := (c2__unlike T).cal
def sp_counts (K : PySem.W.Frag) : Sp := fun vs H Q _ => ∃ (x y : Addr) (N : Int) (sq pu : Option Rws) (ds : List (Str × Int)), vs = [.ref x, .ref y] ∧ PartU K H x N sq pu ∧ 2 ≤ N ∧ N ≤ 360 ∧ PlanAt K H y N ds ∧ (∀ q ∈ ds, ∃ rs, (q.1, rs) ∈ tabL sq pu) ∧
  ∀ H' p (nss : List (List Int)), Same H H' → H p = none → H' p = some (.lst ((nss.map fun ns => (ns.length : Int)).map V.int)) → LeftsAre N (tabL sq pu) ds ds.length nss → Q (.ref p) H'
theorem c2_counts (T : Env P K mg) : Cal2 P w K mg base 6 "counts" s_counts p_counts (sp_counts K) := by
  refine cal2_mk (k := 5) T.s_counts T.g_counts sc_counts (fun _ _ _ _ _ _ us hl => match us, hl with | [_, _], _ => rfl) (fun vs H Q E h => ?_) (fun cdv A outer s H vs Q E hr h => ?_)
  · obtain ⟨_, _, _, _, _, _, rfl, _⟩ := h; rfl
  · obtain ⟨x, y, N, sq, pu, ds, rfl, hP, n2, n360, hL, htab, k⟩ := h
    obtain ⟨dy, ty, vs, y1, y2, y3, y4, y5⟩ := id hL
    refine ⟨_, (pss_one (ps_ret (pe_lc (own := [("standings", 2)]) (g := (gName 2)) (tt := tYes) (te := (tCB (rLenS K) (tCons (tVar 2) tNil))) (by rfl) sc_counts.nd (pi_seq (pe_cal (c__unlike T) (hr.mono (by decide)) (pa_cons (pv 0) (pa_cons (pv 1) pa_nil)))) (blkOk_by (own := [("standings", 2)]) (N := N_counts) (sc := defScope s_counts) (by decide +kernel)) (fun _ _ _ _ _ => (pg_name (i := 2) sc_counts.nd rfl (Or.inl rfl))) (fun _ _ _ _ _ => pts_nil) (fun _ _ _ _ _ => (pe_callB jc_len (by rfl) T.b_len (by decide +kernel) (pa_cons (pv 2) pa_nil)))))), ?_⟩
    dsimp only [cxOf, Cx.nox]
    walk_at "ws"
    refine ⟨x, y, N, sq, pu, ds, rfl, hP, n2, n360, hL, htab, fun H1 p ps nss s1 np hp hli hle => ?_⟩
    have lps : ps.length = ds.length + 1 := by rw [Paired.length hli]; exact hle.1
    refine lcS (sqa_l hp) (fun i acc H' => acc = ((nss.take i).map fun ns => (ns.length : Int)).map V.int) (fun _ _ => rfl) (fun Dl i v acc H' hD hx s hl' pv => ?_) (fun Dl acc H' hD s hl' pv => ?_)
    · obtain ⟨ns, e1, t, rfl, _, ht⟩ := J.paired_get hli hx
      have li := (List.getElem?_eq_some_iff.mp hx).1
      walk_at "ws"
      refine ⟨rfl, ?_⟩
      walk_at "ws"
      refine w_lenL ?_ (sqL (s _ _ ht))
      rw [List.length_map]
      walk_at "ws"
      refine lc_step hD s hl' (by rw [pv]; simp; omega) ?_
      show _ = _
      rw [pv, take_map_succ e1, List.map_append]
      rfl
    · walk_at "ws"
      rw [Paired.length hli, List.take_length] at pv
      exact k H' Dl nss (s1.trans s) (s1.free hD) (by rw [hl', pv]) hle
theorem c_counts (T : Env P K mg) : Cal P w K mg base 6 "counts" p_counts (sp_counts K) := (c2_counts T).cal
def sp_Turning_is_even (K : PySem.W.Frag) : Sp := fun vs H Q _ => ∃ x N rs, vs = [.ref x] ∧ TurnAt (CT K) H x N rs ∧ ∀ b : Bool, (b = true ↔ N % 2 = 0 ∧ Keeps N rs (N / 2)) → Q (.bl b) H
theorem c_Turning_is_even (T : Env P K mg) : CalM P w K mg base 1 (He.ga K "Turning") "is_even" "Turning.is_even" s_Turning_is_even p_Turning_is_even (sp_Turning_is_even K) := by
  refine calm_mk (k := 0) T.s_Turning_is_even T.m_Turning_is_even sc_Turning_is_even (fun _ _ _ _ _ _ us hl => match us, hl with | [_], _ => rfl) (fun vs H Q E h => ?_) (fun cdv A outer s H vs Q E hr h => ?_)
  · obtain ⟨_, _, _, rfl, _⟩ := h; rfl
  · obtain ⟨x, N, rs, rfl, ⟨dx, t, l, vs, ls, h1, h2, h3, h4, tab, R⟩, k⟩ := h
    refine ⟨_, (pss_one (ps_ret (pe_and (pe_cmpR op_eq (pe_op op_mod (pe_fld (pv 0) rfl) pe_int) pe_int (nomark _)) (pe_one (pe_cmpR op_eq (pe_op op_mod (pe_op op_fdivW (pe_fld (pv 0) rfl) pe_int) (pe_fld (pv 0) rfl)) pe_int (nomark _)))))), ?_⟩
    dsimp only [cxOf, Cx.nox]
    have n2 := R.n2
    have n360 := R.n360
    obtain ⟨p0, p1, p2, p3, p4⟩ := period_ok R
    walk_at "ws"
    refine ⟨x, _, dx, _, _, rfl, h1, T.k_Turning, T.n_Turning_around, tfs_around N t l _, ?_⟩
    walk_at "ws"
    refine w_ifd (fun e => ?_) (fun e => ?_)
    · walk_at "ws"
      refine ⟨x, _, dx, _, _, rfl, h1, T.k_Turning, T.n_Turning_around, tfs_around N t l _, ?_⟩
      walk_at "ws"
      refine ⟨x, _, dx, _, _, rfl, h1, T.k_Turning, T.n_Turning__period, tfs_period N t l _, ?_⟩
      walk_at "ws"
      refine k _ ?_
      rw [period_dvd R]
      simp [e]
    · exact k false (by simp [e])
def sp__check_even (K : PySem.W.Frag) : Sp := fun vs H Q _ => ∃ x N rs, vs = [.ref x] ∧ TurnAt (CT K) H x N rs ∧ N % 2 = 0 ∧ Keeps N rs (N / 2) ∧ Q .non H
theorem c2__check_even (T : Env P K mg) : Cal2 P w K mg base 2 "_check_even" s__check_even p__check_even (sp__check_even K) := by
  refine cal2_mk (k := 1) T.s__check_even T.g__check_even sc__check_even (fun _ _ _ _ _ _ us hl => match us, hl with | [_], _ => rfl) (fun vs H Q E h => ?_) (fun cdv A outer s H vs Q E hr h => ?_)
  · obtain ⟨_, _, _, rfl, _⟩ := h; rfl
  · obtain ⟨x, N, rs, rfl, tA, h2, hk, k⟩ := h
    obtain ⟨dx, t, l, vs, ls, g1, g2, g3, g4, tab, R⟩ := id tA
    refine ⟨_, (pss_one (ps_if (pt_not (pt_val (pe_calm0 (pv 0) T.k_Turning (c_Turning_is_even T) (hr.mono (by decide))))) (pss_one ps_never) pss_nil)), ?_⟩
    dsimp only [cxOf, Cx.nox]
    walk_at "ws"
    refine ⟨x, dx, _, rfl, g1, tfs_is_even _ _ _ _, x, N, rs, rfl, tA, fun b hb => ?_⟩
    have eb : b = true := hb.mpr ⟨h2, hk⟩
    subst eb
    walk_at "ws"
    exact k
theorem c__check_even (T : Env P K mg) : Cal P w K mg base 2 "_check_even" p__check_even (sp__check_even K) := (c2__check_even T).cal
def spx__check_even_o (K : PySem.W.Frag) : Sp := fun vs H _ E => ∃ x N rs, vs = [.ref x] ∧ TurnAt (CT K) H x N rs ∧ ¬ (N % 2 = 0 ∧ Keeps N rs (N / 2)) ∧ ∀ d, H d = none → E (.ref (He.ga K "BadRows")) (some d) (upd H d (.xd [("at", .int (-1))]))
theorem x__check_even_o (T : Env P K mg) : CalX P w K mg base 2 "_check_even" s__check_even p__check_even (spx__check_even_o K) := by
  refine calx_mk (k := 1) T.s__check_even T.g__check_even sc__check_even (fun _ _ _ _ _ _ us hl => match us, hl with | [_], _ => rfl) (fun vs H Q E h => ?_) (fun cdv A outer s H vs Q E hr h => ?_)
  · obtain ⟨_, _, _, rfl, _⟩ := h; rfl
  · obtain ⟨x, N, rs, rfl, tA, no, k⟩ := h
    obtain ⟨dx, t, l, vs, ls, g1, g2, g3, g4, tab, R⟩ := id tA
    refine ⟨_, (pss_one (ps_if (pt_not (pt_val (pe_calm0 (pv 0) T.k_Turning (c_Turning_is_even T) (hr.mono (by decide))))) (pss_one (ps_raiseJ rfl T.e_BadRows hr (takes_of rfl rfl rfl rfl) (pa_cons (pe_un un_neg pe_int) pa_nil))) pss_nil)), ?_⟩
    dsimp only [cxOf]
    walk_at "ws"
    refine ⟨x, dx, _, rfl, g1, tfs_is_even _ _ _ _, x, N, rs, rfl, tA, fun b hb => ?_⟩
    have eb : b = false := by
      rw [Bool.eq_false_iff]
      exact fun z => no (hb.mp z)
    subst eb
    walk_at "ws"
    exact ⟨_, rfl, fun d hd => k d hd⟩
def spx__check_even (K : PySem.W.Frag) : Sp := (spOr (spx__check_even_o K) (sp__check_even K))
theorem x__check_even (T : Env P K mg) : CalX P w K mg base 2 "_check_even" s__check_even p__check_even (spx__check_even K) := ((x__check_even_o T).or (c2__check_even T).x)
end
end Qk38
namespace Qk38
open PySem PySem.Spec PyProof.Rows L2 J
-- steps
local macro_rules | `(tactic| walk_at "lk") => `(tactic| first
  | assumption
  | exact upd_same
  | (refine (‹Same _ _› : Same _ _) _ _ ?_; assumption)
  | (refine Same.get1 (by assumption) ?_; walk_at "lk"))
local macro_rules | `(tactic| walk_at "w") => `(tactic| first
  | ((with_reducible refine' w_var ?hh ?_); (case hh => rfl))
  | with_reducible first
    | refine w_c ?_ | refine w_op ?_ | refine w_un ?_ | refine w_seq ?_ | refine w_asg ?_ | refine w_ret ?_ | refine w_retN ?_ | refine w_drop ?_ | refine w_ifS ?_ | refine w_next ?_ | refine w_name ?_
    | refine w_tst ?_ | refine w_tB ?_ | refine w_exb ?_ | refine w_and ?_ | refine w_or ?_ | refine w_not ?_ | refine w_andV ?_ | refine w_orV ?_ | refine w_notV ?_ | refine w_exc ?_ | refine w_ifE ?_ | refine w_chain ?_
    | refine w_nil ?_ | refine w_cons ?_ | refine w_call ?_ | refine w_cb ?_ | refine w_tup ?_ | refine w_lst ?_ | refine w_bm ?_ | refine w_bm0 ?_ | refine w_sl ?_ | refine w_noPart ?_ | refine w_part ?_ | refine w_exi ?_
    | refine w_add ?_ | refine w_sub ?_ | refine w_neg ?_ | refine w_eqI ?_ | refine w_neI ?_ | refine w_eqB ?_ | refine w_neB ?_ | refine w_rI0 ?_
    | refine w_mod ?_ (by first | assumption | omega | decide) | refine w_fdiv ?_ (by first | assumption | omega) (by first | assumption | omega) | refine w_mulL ?_ (by omega) | refine w_mulR ?_ (by omega)
    | refine w_pow ?_ (by decide)
    | refine w_ifT ?_ | refine w_ifF ?_ | refine w_ifnT ?_ | refine w_ifnF ?_
    | refine w_int ?_ | refine w_abs ?_ | refine w_max2 ?_ | refine w_min2 ?_ | refine w_gCons ?_ | refine w_gNil ?_ | refine w_gSub ?_ | refine w_for ?_
    | refine w_fld ?_ | refine w_sFld ?_ | refine w_meth ?_ | refine w_methK ?_ | refine w_isN0 ?_ | refine w_isN1 ?_ | refine w_isN2 ?_ | refine w_noN0 ?_ | refine w_noN1 ?_ | refine w_noN2 ?_ | refine w_makeK ?_ | refine w_make ?_ | refine w_callO ?_ | refine w_lc ?_ | refine w_yes ?_ | refine w_iEnumS ?_ | refine w_iSeq ?_ | refine w_iRng1 ?_ | refine w_iRng2 ?_ | refine w_prop ?_ | refine w_listVals ?_ | refine w_disp ?_ | refine w_dnewK ?_ | refine w_dput ?_ | refine w_dget ?_ | refine w_din ?_ | refine w_dnin ?_ | refine w_get ?_ | refine w_makeD ?_ | refine w_pairs ?_ | refine w_pairs0 ?_ | refine w_sc ?_ | refine w_iVals ?_ | refine w_lstRg1 ?_ | refine w_lstRg2 ?_ | refine w_clsName ?_ | refine w_cutG ?_ | refine w_cutT ?_ | refine w_calK ?_ | refine w_lenSet ?_ | refine w_brk ?_ | refine w_cont ?_ | refine w_raiseJ ?_ | refine w_calX ?_ | refine w_calKX ?_ | refine w_methX ?_ | refine w_methKX ?_ | refine w_makeX ?_ | refine w_makeKX ?_ | refine w_callOX ?_ | refine w_tryA ?_ | refine w_xf ?_ | refine w_eqOwn ?_ | refine w_neOwn ?_ | refine w_zipM ?_ | refine w_lenOwn ?_ | refine w_makeN ?_ | refine w_makeN0 ?_ | refine w_getX ?_ | refine w_calD ?_ | refine w_srtSet ?_ | refine w_dc ?_ | refine w_dcX ?_ | refine w_cmeth ?_ | refine w_cmethP ?_ | refine w_iZip ?_ | refine w_makeV ?_ | refine w_makeVX ?_ | refine w_iKeys ?_ | refine w_dget1 ?_ | refine w_ownI ?_ | refine w_setO ?_ | refine w_gSetX ?_ | refine w_calDX ?_)
local macro_rules | `(tactic| walk_at "ws") => `(tactic| repeat walk_at "w")
section
variable {P : Program} {w : World} {K : PySem.W.Frag} {mg : Str → Option Value} {base : Heap}
def sp__check_shown (K : PySem.W.Frag) : Sp := fun vs H Q _ => ∃ (t : Addr) (N : Int) (p : Addr) (ws : List Int), vs = [.ref t, .int N, .ref p] ∧ 2 ≤ N ∧ N ≤ 360 ∧ Sq H p (ws.map V.int) ∧ WOk N ws ∧ ∀ H', Same H H' → Q .non H'
theorem c2__check_shown (T : Env P K mg) : Cal2 P w K mg base 4 "_check_shown" s__check_shown p__check_shown (sp__check_shown K) := by
  refine cal2_mk (k := 3) T.s__check_shown T.g__check_shown sc__check_shown (fun _ _ _ _ _ _ us hl => match us, hl with | [_, _, _], _ => rfl) (fun vs H Q E h => ?_) (fun cdv A outer s H vs Q E hr h => ?_)
  · obtain ⟨_, _, _, _, rfl, _⟩ := h; rfl
  · obtain ⟨t, N, p, ws, rfl, n2, n360, hp, ok, k⟩ := h
    refine ⟨_, (pss_cons (ps_if (pt_cmpR jop_isN (pv 0) pe_non (nomark _)) (pss_one ps_never) pss_nil)
    (pss_cons (ps_if (pt_not (pt_val (pe_cal (c_is_row_of T) (hr.mono (by decide)) (pa_cons (pv 2) (pa_cons (pv 1) (pa_cons (pv 1) pa_nil)))))) (pss_one ps_never) pss_nil)
    (pss_cons (ps_expr (pe_cal (c_check_widths T) (hr.mono (by decide)) (pa_cons (pv 2) pa_nil)))
    (pss_one (ps_for PassesOwn.never (by rfl) (pi_range1 (by rfl) T.b_range (pa_cons (pv 1) pa_nil)) (pg_name (i := 3) sc__check_shown.nd rfl (Or.inl rfl)) (pss_one (ps_if (pt_cmpR op_ne (pe_ix ix_seq (pv 2) (pv 3) (fun _ _ => rfl)) (pe_ix ix_seq (pv 2) (pe_op op_mod (pe_op op_add (pv 3) (pe_op op_fdivW (pv 1) pe_int)) (pv 1)) (fun _ _ => rfl)) (nomark _)) (pss_one ps_never) pss_nil))))))), ?_⟩
    dsimp only [cxOf, Cx.nox]
    have hl := ok.len
    walk_at "ws"
    refine ⟨.ref p, N, N, rfl, .inr ⟨p, _, rfl, hp, fun H1 s1 => ?_⟩⟩
    walk_at "ws"
    refine w_ifnd (fun h => absurd (by rw [List.length_map]; omega) h) (fun _ => ?_)
    walk_at "ws"
    refine ⟨p, ws, rfl, hp.same s1, ok.bd, fun H2 s2 => ?_⟩
    have s12 := s1.trans s2
    walk_at "ws"
    refine forR1 (by omega) (fun i σ H' => Same H H' ∧ ∃ o3, σ = [some (.ref t), some (.int N), some (.ref p), o3]) ⟨s12, _, rfl⟩ ?_ ?_
    · rintro i σ H' hi ⟨s, o3, rfl⟩
      walk_at "ws"
      have hp' := hp.same s
      obtain ⟨e1, e2⟩ := opp_lt (N := N) i (by omega)
      obtain ⟨a, ha⟩ : ∃ a, ws[i]? = some a := ⟨_, List.getElem?_eq_getElem (by omega)⟩
      obtain ⟨b, hb⟩ : ∃ b, ws[opp N i]? = some b := ⟨_, List.getElem?_eq_getElem (by omega)⟩
      refine ix_sq (v := .int a) hp' (atI_nat (by rw [List.getElem?_map, ha]; rfl)) ?_
      walk_at "ws"
      refine ix_sq (v := .int b) hp' ?_ ?_
      · rw [← e1]
        exact atI_nat (by rw [List.getElem?_map, hb]; rfl)
      have e := ok.sym i a b ha hb
      subst e
      walk_at "ws"
      refine w_ifnd (fun h => absurd rfl h) (fun _ => ?_)
      refine w_next ?_
      exact ⟨s, _, rfl⟩
    · rintro σ H' ⟨s, o3, rfl⟩
      exact k H' s
theorem c__check_shown (T : Env P K mg) : Cal P w K mg base 4 "_check_shown" p__check_shown (sp__check_shown K) := (c2__check_shown T).cal
def spx__check_shown (K : PySem.W.Frag) : Sp := fun vs H _ E => ∃ (vq : V) (N : Int) (z : V), vs = [vq, .int N, z] ∧ ((vq = .non ∧ ∀ H' d, Same H H' → H' d = none → E (.ref (He.ga K "BadWord")) (some d) (upd H' d (.xd [("value", .str "squeeze")]))) ∨
  ∃ t n, vq = .ref t ∧ 2 ≤ N ∧ N ≤ 360 ∧ ShDue H N z (some n) ∧ ∀ H' d, Same H H' → H' d = none → E (.ref (He.ga K "BadRows")) (some d) (upd H' d (.xd [("at", .int n)])))
theorem x__check_shown (T : Env P K mg) : CalX P w K mg base 4 "_check_shown" s__check_shown p__check_shown (spx__check_shown K) := by
  refine calx_mk (k := 3) T.s__check_shown T.g__check_shown sc__check_shown (fun _ _ _ _ _ _ us hl => match us, hl with | [_, _, _], _ => rfl) (fun vs H Q E h => ?_) (fun cdv A outer s H vs Q E hr h => ?_)
  · obtain ⟨_, _, _, rfl, _⟩ := h; rfl
  · obtain ⟨vq, N, z, rfl, h⟩ := h
    refine ⟨_, (pss_cons (ps_if (pt_cmpR jop_isN (pv 0) pe_non (nomark _)) (pss_one (ps_raiseJ rfl T.e_BadWord hr (takes_of rfl rfl rfl rfl) (pa_cons pe_str pa_nil))) pss_nil)
    (pss_cons (ps_if (pt_not (pt_val (pe_cal (c_is_row_of T) (hr.mono (by decide)) (pa_cons (pv 2) (pa_cons (pv 1) (pa_cons (pv 1) pa_nil)))))) (pss_one (ps_raiseJ rfl T.e_BadRows hr (takes_of rfl rfl rfl rfl) (pa_cons (pe_un un_neg pe_int) pa_nil))) pss_nil)
    (pss_cons (ps_expr (pe_calX (x_check_widths T) (takes_of rfl rfl rfl rfl) (hr.mono (by decide)) (pa_cons (pv 2) pa_nil)))
    (pss_one (ps_for (passes_of rfl) (by rfl) (pi_range1 (by rfl) T.b_range (pa_cons (pv 1) pa_nil)) (pg_name (i := 3) sc__check_shown.nd rfl (Or.inl rfl)) (pss_one (ps_if (pt_cmpR op_ne (pe_ix ix_seq (pv 2) (pv 3) (fun _ _ => rfl)) (pe_ix ix_seq (pv 2) (pe_op op_mod (pe_op op_add (pv 3) (pe_op op_fdivW (pv 1) pe_int)) (pv 1)) (fun _ _ => rfl)) (nomark _)) (pss_one (ps_raiseJ rfl T.e_BadRows hr (takes_of rfl rfl rfl rfl) (pa_cons (pv 3) pa_nil))) pss_nil))))))), ?_⟩
    dsimp only [cxOf]
    rcases h with ⟨rfl, k⟩ | ⟨t, n, rfl, n2, n360, due, k⟩
    · walk_at "ws"
      exact ⟨_, rfl, fun d hd => k H d (Same.refl _) hd⟩
    · walk_at "ws"
      generalize en : (some n : Option Int) = on at due
      cases due with
      | nor hz =>
        cases en
        refine ⟨z, N, N, rfl, .inl ⟨hz.rw, fun H1 s1 => ?_⟩⟩
        walk_at "ws"
        exact ⟨_, rfl, fun d hd => k H1 d s1 hd⟩
      | @len p us ez hp l =>
        cases en
        subst ez
        refine ⟨.ref p, N, N, rfl, .inr ⟨p, us, rfl, hp, fun H1 s1 => ?_⟩⟩
        walk_at "ws"
        refine w_ifnd (fun _ => ?_) (fun h => absurd (by omega) l)
        walk_at "ws"
        exact ⟨_, rfl, fun d hd => k H1 d s1 hd⟩
      | @at_ p us m v ez hp l hn bad good =>
        cases en
        subst ez
        refine ⟨.ref p, N, N, rfl, .inr ⟨p, us, rfl, hp, fun H1 s1 => ?_⟩⟩
        walk_at "ws"
        refine w_ifnd (fun h => absurd (by omega) h) (fun _ => ?_)
        walk_at "ws"
        exact .inl ⟨p, us, m, v, rfl, hp.same s1, hn, bad.same s1, good, fun H' d s hd => k H' d (s1.trans s) hd⟩
      | @un p ws m a b ez hp l bd ha hb ne good =>
        cases en
        subst ez
        refine ⟨.ref p, N, N, rfl, .inr ⟨p, _, rfl, hp, fun H1 s1 => ?_⟩⟩
        walk_at "ws"
        refine w_ifnd (fun h => absurd (by rw [List.length_map]; omega) h) (fun _ => ?_)
        walk_at "ws"
        refine .inr ⟨p, ws, rfl, hp.same s1, bd, fun H2 s2 => ?_⟩
        have s12 := s1.trans s2
        walk_at "ws"
        have hm := (List.getElem?_eq_some_iff.mp ha).1
        refine forR1 (by omega) (fun i σ H' => Same H H' ∧ i ≤ m ∧ ∃ o3, σ = [some (.ref t), some (.int N), some (.ref p), o3]) ⟨s12, Nat.zero_le _, _, rfl⟩ ?_ ?_
        · rintro i σ H' hi ⟨s, him, o3, rfl⟩
          walk_at "ws"
          have hp' := hp.same s
          obtain ⟨e1, e2⟩ := opp_lt (N := N) i (by omega)
          obtain ⟨a', ha'⟩ : ∃ a, ws[i]? = some a := ⟨_, List.getElem?_eq_getElem (by omega)⟩
          obtain ⟨b', hb'⟩ : ∃ b, ws[opp N i]? = some b := ⟨_, List.getElem?_eq_getElem (by omega)⟩
          refine ix_sq (v := .int a') hp' (atI_nat (by rw [List.getElem?_map, ha']; rfl)) ?_
          walk_at "ws"
          refine ix_sq (v := .int b') hp' ?_ ?_
          · rw [← e1]
            exact atI_nat (by rw [List.getElem?_map, hb']; rfl)
          rcases Nat.lt_or_ge i m with lt | ge
          · have e := good i a' b' lt ha' hb'
            subst e
            walk_at "ws"
            refine w_ifnd (fun h => absurd rfl h) (fun _ => ?_)
            refine w_next ?_
            exact ⟨s, lt, _, rfl⟩
          · have ei : i = m := Nat.le_antisymm him ge
            subst ei
            rw [ha] at ha'
            rw [hb] at hb'
            cases ha'
            cases hb'
            walk_at "ws"
            refine w_ifnd (fun _ => ?_) (fun h => absurd h ne)
            walk_at "ws"
            exact ⟨_, rfl, fun d hd => k H' d s hd⟩
        · rintro σ H' ⟨s, him, o3, rfl⟩
          omega
      | good => cases en
def PartF (K : PySem.W.Frag) (H : Hp) (x d : Addr) (N : Int) (sq pu : Option Rws) (wo : Option (List Int)) : Prop :=
  ∃ dx kvs wv, H x = some (.ins (CP K) dx (pfw N d wv)) ∧ H d = some (.dK kvs) ∧ Paired (Ent (CT K) H N) kvs (tabL sq pu) ∧ WAt H N wv wo
theorem PartF.tw {K : PySem.W.Frag} {H : Hp} {x d : Addr} {N : Int} {sq pu : Option Rws} {wo : Option (List Int)} (h : PartF K H x d N sq pu wo) : PartW K H x N sq pu wo := by
  obtain ⟨dx, kvs, wv, h⟩ := h
  exact ⟨dx, d, kvs, wv, h⟩
theorem PartF.to {K : PySem.W.Frag} {H : Hp} {x d : Addr} {N : Int} {sq pu : Option Rws} {wo : Option (List Int)} (h : PartF K H x d N sq pu wo) : PartO K H x d N sq pu wo := by
  obtain ⟨dx, kvs, wv, h1, h2, h3, h4⟩ := h
  exact ⟨dx, kvs, wv, _, h1, h2, .inl rfl, h3, h4⟩
def sp_PartD_initD (K : PySem.W.Frag) : Sp := fun vs H Q _ => ∃ (x dx : Addr) (N : Int) (vq vp vw : V) (sq pu : Option Rws) (wo : Option (List Int)), vs = [.ref x, vq, vp, vw] ∧ H x = some (.ins (CP K) dx []) ∧ 2 ≤ N ∧ N ≤ 360 ∧ TArg (CT K) H N vq sq ∧ TArg (CT K) H N vp pu ∧ WArg H N vw wo ∧ (wo ≠ none → sq ≠ none) ∧ (sq ≠ none ∨ pu ≠ none) ∧
  (∀ rs, sq = some rs → N % 2 = 0 ∧ Keeps N rs (N / 2)) ∧ ∀ H' d, (∀ b o, b ≠ x → H b = some o → H' b = some o) → H d = none → PartF K H' x d N sq pu wo → Q .non H'
theorem ck_PartD_initD (T : Env P K mg) : CalIDK P w K mg base 5 (He.ga K "Part") "Part" "Part.__init__" s_PartD_initD p_PartD_initD ([.non, .non, .non] : List V) (sp_PartD_initD K) := by
  refine calidk_mk (k := 4) T.s_PartD_initD T.mk_Part T.g_Part sc_PartD_initD (fun vs H Q E h => ?_) (fun cdv A outer s H vs Q E hr h => ?_)
  · obtain ⟨_, _, _, _, _, _, _, _, _, rfl, _⟩ := h; rfl
  · obtain ⟨x, dx, N, vq, vp, vw, sq, pu, wo, rfl, hx, n2, n360, hq, hp, hw, hwq, hne, hev, k⟩ := h
    have hu := Nat.lt_of_le_of_lt (Nat.add_le_add_left (show 1 ≤ 64 by decide) _) hr.units
    refine ⟨_, (pss_cons (ps_set (i := 4) sc_PartD_initD.nd rfl (Or.inl rfl) pe_dnewK)
    (pss_cons (ps_if (pt_cmpR jop_notN (pv 2) pe_non (nomark _)) (pss_cons (ps_dput hu (pv 4) pe_str (pv 2) rfl)
    (pss_one (ps_set (i := 5) sc_PartD_initD.nd rfl (Or.inl rfl) (pe_fld (pv 2) rfl)))) pss_nil)
    (pss_cons (ps_if (pt_cmpR jop_notN (pv 1) pe_non (nomark _)) (pss_cons (ps_dput hu (pv 4) pe_str (pv 1) rfl)
    (pss_one (ps_set (i := 5) sc_PartD_initD.nd rfl (Or.inl rfl) (pe_fld (pv 1) rfl)))) pss_nil)
    (pss_cons (ps_if (pt_not (pt_truth (pv 4) (by intro _; rfl))) (pss_one ps_never) pss_nil)
    (pss_cons (ps_if (PW.pt (pw_and (pt_cmpR jop_notN (pv 2) pe_non (nomark _)) (pw_and1 (pt_cmpR op_ne (pe_fld (pv 2) rfl) (pv 5) (nomark _))))) (pss_one ps_never) pss_nil)
    (pss_cons (ps_if (pt_cmpR jop_notN (pv 1) pe_non (nomark _)) (pss_one (ps_expr (pe_cal (c__check_even T) (hr.mono (by decide)) (pa_cons (pv 1) pa_nil)))) pss_nil)
    (pss_cons (ps_if (pt_cmpR jop_notN (pv 3) pe_non (nomark _)) (pss_cons (ps_expr (pe_cal (c__check_shown T) (hr.mono (by decide)) (pa_cons (pv 1) (pa_cons (pv 5) (pa_cons (pv 3) pa_nil)))))
    (pss_one (ps_set (i := 3) sc_PartD_initD.nd rfl (Or.inl rfl) (pe_callTy jc_tuple (by rfl) T.b_tuple (by decide +kernel) (pa_cons (pv 3) pa_nil))))) pss_nil)
    (pss_cons (ps_fld (pv 0) (pv 5) rfl)
    (pss_cons (ps_fld (pv 0) (pv 4) rfl)
    (pss_one (ps_fld (pv 0) (pv 3) rfl))))))))))), ?_⟩
    dsimp only [cxOf, Cx.nox]
    have fin : ∀ (H1 : Hp) (d : Addr) (kvs : List (Key × V)) (wv : V), H d = none → Same H H1 → H1 d = some (.dK kvs) → Paired (Ent (CT K) H1 N) kvs (tabL sq pu) → WAt H1 N wv wo →
        (tSeq (sFld K (tVar 0) (tVar 5) "around") (tSeq (sFld K (tVar 0) (tVar 4) "_turnings") (sFld K (tVar 0) (tVar 3) "_widths"))) { nx := fun _ H' => Q .non H', rt := Q } [some (.ref x), some vq, some vp, some wv, some (.ref d), some (.int N)] H1 := by
      intro H1 d kvs wv nd0 s1 hd he hwv
      have hx1 := s1 _ _ hx
      have ndx : d ≠ x := ne_of hd hx1 (by intro z; cases z)
      walk_at "ws"
      refine ⟨x, _, dx, _, rfl, hx1, T.k_Part, T.n_Part_around, by decide, ?_⟩
      rw [pf1]
      walk_at "ws"
      refine ⟨x, _, dx, _, rfl, upd_same, T.k_Part, T.n_Part__turnings, leb rfl, ?_⟩
      rw [pf2, upd_upd]
      walk_at "ws"
      refine ⟨x, _, dx, _, rfl, upd_same, T.k_Part, T.n_Part__widths, leb rfl, ?_⟩
      rw [pfw3, upd_upd]
      have kp : ∀ b o, b ≠ x → H1 b = some o → upd H1 x (.ins (CP K) dx (pfw N d wv)) b = some o := fun b o hb e => by rw [upd_ne hb]; exact e
      refine k _ d (fun b o hb e => kp b o hb (s1 _ _ e)) nd0 ⟨dx, kvs, wv, upd_same, kp _ _ ndx hd, Paired.mapP he fun p q ⟨e1, t, e2, h⟩ => ⟨e1, t, e2, ?_⟩, ?_⟩
      · obtain ⟨dx', t', l', vs', ls', g1, g2, g3, g4, g5, g6⟩ := h
        have nt : t ≠ x := fun z => by
          subst z
          rw [hx1] at g1
          have e := congrArg (fun o => match o with | some (HO.ins _ _ f) => f | _ => []) g1
          cases e
        exact ⟨dx', t', l', vs', ls', kp _ _ nt g1, kp _ _ (ne_of g2 hx1 (by intro z; cases z)) g2, pairs_keep kp g3 (fun v hv q e => by
          obtain ⟨t2, a, b, e2, ht⟩ := pairs_mem g3 _ hv
          rw [e] at e2; cases e2
          exact ne_of ht hx1 (by intro z; cases z)), kp _ _ (ne_of g4 hx1 (by intro z; cases z)) g4, g5, g6⟩
      · cases wo with
        | none => exact hwv
        | some ws =>
          obtain ⟨t, e, ht, ok⟩ := hwv
          exact ⟨t, e, kp _ _ (ne_of ht hx1 (by intro z; cases z)) ht, ok⟩
    have mid : ∀ (H1 : Hp) (d : Addr) (kvs : List (Key × V)), H d = none → Same H H1 → H1 d = some (.dK kvs) → Paired (Ent (CT K) H1 N) kvs (tabL sq pu) →
        (tSeq (tIfS (tTest (tOp rNotNo (tVar 3) (tC .non))) (tSeq (tDrop (tCall (sp__check_shown K) [] E0 (tCons (tVar 1) (tCons (tVar 5) (tCons (tVar 3) tNil))))) (tAsg (tCB (rTupOf K) (tCons (tVar 3) tNil)) (gName 3))) tNext) (tSeq (sFld K (tVar 0) (tVar 5) "around") (tSeq (sFld K (tVar 0) (tVar 4) "_turnings") (sFld K (tVar 0) (tVar 3) "_widths")))) { nx := fun _ H' => Q .non H', rt := Q } [some (.ref x), some vq, some vp, some vw, some (.ref d), some (.int N)] H1 := by
      intro H1 d kvs nd0 s1 hd he
      cases wo with
      | none =>
        have e : vw = .non := hw
        subst e
        refine w_seq ?_
        refine w_ifS ?_
        refine w_tst ?_
        refine w_op ?_
        refine w_var rfl ?_
        refine w_c ?_
        refine w_noN0 ?_
        refine ⟨_, rfl, ?_⟩
        refine w_ifF ?_
        refine w_next ?_
        exact fin H1 d kvs .non nd0 s1 hd he rfl
      | some ws =>
        obtain ⟨p, e, hp', ok⟩ := hw
        subst e
        rcases tv_turn (K := K) hq with ⟨z, _⟩ | ⟨tq, rq, z, e, tQ⟩
        · exact absurd z (hwq (fun z => nomatch z))
        subst e
        walk_at "ws"
        refine ⟨tq, N, p, ws, rfl, n2, n360, hp'.same s1, ok, fun H2 s2 => ?_⟩
        walk_at "ws"
        have s12 := s1.trans s2
        refine w_tupOf (hp'.same s12) fun t H3 s3 h3 => ?_
        exact fin H3 d kvs (.ref t) nd0 (s12.trans s3) (s3 _ _ (s2 _ _ hd)) (Paired.mapP he fun p q ⟨e1, t, e2, h⟩ => ⟨e1, t, e2, h.same (s2.trans s3)⟩) ⟨t, rfl, h3, ok⟩
    rcases tv_turn (K := K) hp with ⟨rfl, rfl⟩ | ⟨tp, rp, rfl, rfl, tP⟩ <;> rcases tv_turn (K := K) hq with ⟨rfl, rfl⟩ | ⟨tq, rq, rfl, rfl, tQ⟩
    · rcases hne with z | z <;> exact absurd rfl z
    · obtain ⟨dq, t2, l2, vs2, ls2, q1, _⟩ := id tQ
      walk_at "ws"
      intro d nd
      walk_at "ws"
      refine ⟨d, _, rfl, DPut.k (k := .inr "squeeze") upd_same (szlt (leb rfl)), ?_⟩
      rw [upd_upd]
      have s1 := same_new (o := .dK (putK [] (.inr "squeeze") (.ref tq))) nd
      walk_at "ws"
      refine ⟨tq, _, dq, _, _, rfl, s1 _ _ q1, T.k_Turning, T.n_Turning_around, tfs_around N _ _ _, ?_⟩
      walk_at "ws"
      refine ⟨true, .inr (.inr ⟨_, upd_same, rfl⟩), ?_⟩
      walk_at "ws"
      refine ⟨tq, N, rq, rfl, tQ.same s1, (hev _ rfl).1, (hev _ rfl).2, ?_⟩
      exact mid _ d _ nd s1 upd_same (.cons ⟨rfl, tq, rfl, tQ.same s1⟩ .nil)
    · obtain ⟨dp, t1, l1, vs1, ls1, p1, _⟩ := id tP
      walk_at "ws"
      intro d nd
      walk_at "ws"
      refine ⟨d, _, rfl, DPut.k (k := .inr "push") upd_same (szlt (by decide)), ?_⟩
      rw [upd_upd]
      have s1 := same_new (o := .dK (putK [] (.inr "push") (.ref tp))) nd
      walk_at "ws"
      refine ⟨tp, _, dp, _, _, rfl, s1 _ _ p1, T.k_Turning, T.n_Turning_around, tfs_around N _ _ _, ?_⟩
      walk_at "ws"
      refine ⟨true, .inr (.inr ⟨_, upd_same, rfl⟩), ?_⟩
      walk_at "ws"
      refine ⟨tp, _, dp, _, _, rfl, s1 _ _ p1, T.k_Turning, T.n_Turning_around, tfs_around N _ _ _, ?_⟩
      walk_at "ws"
      refine w_ifnd (fun h => absurd rfl h) (fun _ => ?_)
      with_reducible refine w_next ?_
      dsimp only
      with_reducible refine w_seq ?_
      with_reducible refine w_ifS ?_
      refine w_tst ?_
      refine w_op ?_
      refine w_var rfl ?_
      refine w_c ?_
      refine w_noN0 ?_
      refine ⟨_, rfl, ?_⟩
      refine w_ifF ?_
      refine w_next ?_
      exact mid _ d _ nd s1 upd_same (.cons ⟨rfl, tp, rfl, tP.same s1⟩ .nil)
    · obtain ⟨dp, t1, l1, vs1, ls1, p1, _⟩ := id tP
      obtain ⟨dq, t2, l2, vs2, ls2, q1, _⟩ := id tQ
      walk_at "ws"
      intro d nd
      walk_at "ws"
      refine ⟨d, _, rfl, DPut.k (k := .inr "push") upd_same (szlt (by decide)), ?_⟩
      rw [upd_upd]
      have s1 := same_new (o := .dK (putK [] (.inr "push") (.ref tp))) nd
      walk_at "ws"
      refine ⟨tp, _, dp, _, _, rfl, s1 _ _ p1, T.k_Turning, T.n_Turning_around, tfs_around N _ _ _, ?_⟩
      walk_at "ws"
      refine ⟨d, _, rfl, DPut.k (k := .inr "squeeze") upd_same (szlt (leb rfl)), ?_⟩
      rw [upd_upd]
      have s2 := same_new (o := .dK (putK (putK [] (.inr "push") (.ref tp)) (.inr "squeeze") (.ref tq))) nd
      walk_at "ws"
      refine ⟨tq, _, dq, _, _, rfl, s2 _ _ q1, T.k_Turning, T.n_Turning_around, tfs_around N _ _ _, ?_⟩
      walk_at "ws"
      refine ⟨true, .inr (.inr ⟨_, upd_same, rfl⟩), ?_⟩
      walk_at "ws"
      refine ⟨tp, _, dp, _, _, rfl, s2 _ _ p1, T.k_Turning, T.n_Turning_around, tfs_around N _ _ _, ?_⟩
      walk_at "ws"
      refine w_ifnd (fun h => absurd rfl h) (fun _ => ?_)
      walk_at "ws"
      refine ⟨tq, N, rq, rfl, tQ.same s2, (hev _ rfl).1, (hev _ rfl).2, ?_⟩
      exact mid _ d _ nd s2 upd_same (.cons ⟨rfl, tp, rfl, tP.same s2⟩ (.cons ⟨rfl, tq, rfl, tQ.same s2⟩ .nil))
theorem c_PartD_initD (T : Env P K mg) : CalID P w K mg base 5 (He.ga K "Part") "Part" p_PartD_initD (List.drop 2 ([.non, .non, .non] : List V)) (sp_PartD_initD K) := (ck_PartD_initD T).pos 3 2 (fun z => nomatch z) rfl (fun _ _ _ _ _ _ _ us its h1 h2 => match us, its, h1, h2 with | [_, _, _], [_, _, _], _, _ => ⟨_, rfl, rfl⟩)
theorem make_PartW {H : Hp} {x dx : Addr} {vq vp vw : V} {sq pu : Option Rws} {wo : Option (List Int)} {N : Int} {Q : VK} (nx : H x = none) (nd : H dx = none) (n2 : 2 ≤ N) (n360 : N ≤ 360) (hq : TArg (CT K) H N vq sq) (hp : TArg (CT K) H N vp pu) (hw : WArg H N vw wo) (hwq : wo ≠ none → sq ≠ none) (hne : sq ≠ none ∨ pu ≠ none) (hev : ∀ rs, sq = some rs → N % 2 = 0 ∧ Keeps N rs (N / 2)) (q : ∀ H3, Same H H3 → PartW K H3 x N sq pu wo → Q .non H3) :
    sp_PartD_initD K [.ref x, vq, vp, vw] (upd (upd H dx (.own x)) x (.ins (CP K) dx [])) Q E0 := by
  have s0 : Same H (upd (upd H dx (.own x)) x (.ins (CP K) dx [])) := fun b o e => by
    rw [upd_ne (ne_of_none e nx), upd_ne (ne_of_none e nd)]; exact e
  exact ⟨x, dx, N, vq, vp, vw, sq, pu, wo, rfl, upd_same, n2, n360, hq.same s0, hp.same s0, hw.same s0, hwq, hne, hev, fun H3 d hk nd0 pA => q H3 (Same.made nx nd fun b o e hb => hk b o hb e) pA.tw⟩
theorem make_PartF {H : Hp} {x dx : Addr} {vq vp vw : V} {sq pu : Option Rws} {wo : Option (List Int)} {N : Int} {Q : VK} (nx : H x = none) (nd : H dx = none) (n2 : 2 ≤ N) (n360 : N ≤ 360) (hq : TArg (CT K) H N vq sq) (hp : TArg (CT K) H N vp pu) (hw : WArg H N vw wo) (hwq : wo ≠ none → sq ≠ none) (hne : sq ≠ none ∨ pu ≠ none) (hev : ∀ rs, sq = some rs → N % 2 = 0 ∧ Keeps N rs (N / 2)) (q : ∀ H3 d, Same H H3 → H d = none → PartF K H3 x d N sq pu wo → Q .non H3) :
    sp_PartD_initD K [.ref x, vq, vp, vw] (upd (upd H dx (.own x)) x (.ins (CP K) dx [])) Q E0 := by
  have s0 : Same H (upd (upd H dx (.own x)) x (.ins (CP K) dx [])) := fun b o e => by
    rw [upd_ne (ne_of_none e nx), upd_ne (ne_of_none e nd)]; exact e
  exact ⟨x, dx, N, vq, vp, vw, sq, pu, wo, rfl, upd_same, n2, n360, hq.same s0, hp.same s0, hw.same s0, hwq, hne, hev, fun H3 d hk nd0 pA => q H3 d (Same.made nx nd fun b o e hb => hk b o hb e) (by
    by_cases e1 : d = x
    · subst e1; exact nx
    · rw [upd_ne e1] at nd0
      by_cases e2 : d = dx
      · subst e2; exact nd
      · rwa [upd_ne e2] at nd0) pA⟩
theorem part_E {vs : List V} {H : Hp} {Q : VK} {E : XK} (h : sp_PartD_initD K vs H Q E0) : sp_PartD_initD K vs H Q E := h
def spx_PartD_initD_x (K : PySem.W.Frag) : Sp := fun vs H _ E => ∃ (x : Addr) (vq vp z : V), vs = [.ref x, vq, vp, z] ∧ (
  (vq = .non ∧ vp = .non ∧ ∀ H' d, Same H H' → H' d = none → E (.ref (He.ga K "BadWord")) (some d) (upd H' d (.xd [("value", .str "")]))) ∨
  (∃ (tq tp : Addr) (N M : Int) (rq rp : Rws), vq = .ref tq ∧ vp = .ref tp ∧ TurnAt (CT K) H tq N rq ∧ TurnAt (CT K) H tp M rp ∧ M ≠ N ∧ ∀ H' d, Same H H' → H' d = none → E (.ref (He.ga K "BadRound")) (some d) (upd H' d (.xd [("value", .int M)]))) ∨
  (∃ (N : Int) (sq pu : Option Rws), TArg (CT K) H N vq sq ∧ TArg (CT K) H N vp pu ∧ (sq ≠ none ∨ pu ≠ none) ∧
    ((∃ rs, sq = some rs ∧ ¬ (N % 2 = 0 ∧ Keeps N rs (N / 2)) ∧ ∀ H' d, Same H H' → H' d = none → E (.ref (He.ga K "BadRows")) (some d) (upd H' d (.xd [("at", .int (-1))]))) ∨
     ((∀ rs, sq = some rs → N % 2 = 0 ∧ Keeps N rs (N / 2)) ∧ z ≠ .non ∧ ∀ H', Same H H' → spx__check_shown K [vq, .int N, z] H' (fun _ _ => False) E))))
theorem x_PartD_initD_x (T : Env P K mg) : CalIDX P w K mg base 5 (He.ga K "Part") "Part" "Part.__init__" s_PartD_initD p_PartD_initD ([.non, .non, .non] : List V) (spx_PartD_initD_x K) := by
  refine calidx_mk (k := 4) T.s_PartD_initD T.mk_Part T.g_Part sc_PartD_initD (fun vs H Q E h => ?_) (fun cdv A outer s H vs Q E hr h => ?_)
  · obtain ⟨_, _, _, _, rfl, _⟩ := h; rfl
  · obtain ⟨x, vq, vp, z, rfl, h⟩ := h
    have hu := Nat.lt_of_le_of_lt (Nat.add_le_add_left (show 1 ≤ 64 by decide) _) hr.units
    refine ⟨_, (pss_cons (ps_set (i := 4) sc_PartD_initD.nd rfl (Or.inl rfl) pe_dnewK)
    (pss_cons (ps_if (pt_cmpR jop_notN (pv 2) pe_non (nomark _)) (pss_cons (ps_dput hu (pv 4) pe_str (pv 2) rfl)
    (pss_one (ps_set (i := 5) sc_PartD_initD.nd rfl (Or.inl rfl) (pe_fld (pv 2) rfl)))) pss_nil)
    (pss_cons (ps_if (pt_cmpR jop_notN (pv 1) pe_non (nomark _)) (pss_cons (ps_dput hu (pv 4) pe_str (pv 1) rfl)
    (pss_one (ps_set (i := 5) sc_PartD_initD.nd rfl (Or.inl rfl) (pe_fld (pv 1) rfl)))) pss_nil)
    (pss_cons (ps_if (pt_not (pt_truth (pv 4) (by intro _; rfl))) (pss_one (ps_raiseJ rfl T.e_BadWord hr (takes_of rfl rfl rfl rfl) (pa_cons pe_str pa_nil))) pss_nil)
    (pss_cons (ps_if (PW.pt (pw_and (pt_cmpR jop_notN (pv 2) pe_non (nomark _)) (pw_and1 (pt_cmpR op_ne (pe_fld (pv 2) rfl) (pv 5) (nomark _))))) (pss_one (ps_raiseJ rfl T.e_BadRound hr (takes_of rfl rfl rfl rfl) (pa_cons (pe_fld (pv 2) rfl) pa_nil))) pss_nil)
    (pss_cons (ps_if (pt_cmpR jop_notN (pv 1) pe_non (nomark _)) (pss_one (ps_expr (pe_calX (x__check_even T) (takes_of rfl rfl rfl rfl) (hr.mono (by decide)) (pa_cons (pv 1) pa_nil)))) pss_nil)
    (pss_cons (ps_if (pt_cmpR jop_notN (pv 3) pe_non (nomark _)) (pss_cons (ps_expr (pe_calX (x__check_shown T) (takes_of rfl rfl rfl rfl) (hr.mono (by decide)) (pa_cons (pv 1) (pa_cons (pv 5) (pa_cons (pv 3) pa_nil)))))
    (pss_one (ps_set (i := 3) sc_PartD_initD.nd rfl (Or.inl rfl) (pe_callTy jc_tuple (by rfl) T.b_tuple (by decide +kernel) (pa_cons (pv 3) pa_nil))))) pss_nil)
    (pss_cons ps_never
    (pss_cons ps_never
    (pss_one ps_never)))))))))), ?_⟩
    dsimp only [cxOf]
    rcases h with ⟨rfl, rfl, k⟩ | ⟨tq, tp, N, M, rq, rp, rfl, rfl, tQ, tP, ne, k⟩ | ⟨N, sq, pu, hq, hp, hne, h⟩
    · walk_at "ws"
      intro d nd
      walk_at "ws"
      refine ⟨false, .inr (.inr ⟨_, upd_same, rfl⟩), ?_⟩
      walk_at "ws"
      exact ⟨_, rfl, fun e he => k _ e (same_new nd) he⟩
    · obtain ⟨dp, t1, l1, vs1, ls1, p1, _⟩ := id tP
      obtain ⟨dq, t2, l2, vs2, ls2, q1, _⟩ := id tQ
      walk_at "ws"
      intro d nd
      walk_at "ws"
      refine ⟨d, _, rfl, DPut.k (k := .inr "push") upd_same (szlt (by decide)), ?_⟩
      rw [upd_upd]
      have s1 := same_new (o := .dK (putK [] (.inr "push") (.ref tp))) nd
      walk_at "ws"
      refine ⟨tp, _, dp, _, _, rfl, s1 _ _ p1, T.k_Turning, T.n_Turning_around, tfs_around M _ _ _, ?_⟩
      walk_at "ws"
      refine ⟨d, _, rfl, DPut.k (k := .inr "squeeze") upd_same (szlt (leb rfl)), ?_⟩
      rw [upd_upd]
      have s2 := same_new (o := .dK (putK (putK [] (.inr "push") (.ref tp)) (.inr "squeeze") (.ref tq))) nd
      walk_at "ws"
      refine ⟨tq, _, dq, _, _, rfl, s2 _ _ q1, T.k_Turning, T.n_Turning_around, tfs_around N _ _ _, ?_⟩
      walk_at "ws"
      refine ⟨true, .inr (.inr ⟨_, upd_same, rfl⟩), ?_⟩
      walk_at "ws"
      refine ⟨tp, _, dp, _, _, rfl, s2 _ _ p1, T.k_Turning, T.n_Turning_around, tfs_around M _ _ _, ?_⟩
      walk_at "ws"
      refine w_ifnd (fun _ => ?_) (fun h => absurd h ne)
      walk_at "ws"
      refine ⟨tp, _, dp, _, _, rfl, s2 _ _ p1, T.k_Turning, T.n_Turning_around, tfs_around M _ _ _, ?_⟩
      walk_at "ws"
      exact ⟨_, rfl, fun e he => k _ e s2 he⟩
    · have mid : (∀ rs, sq = some rs → N % 2 = 0 ∧ Keeps N rs (N / 2)) → ∀ (H1 : Hp) (d : Addr), Same H H1 →
          (tSeq (tIfS (tTest (tOp rNotNo (tVar 3) (tC .non))) (tSeq (tDrop (jCalXS (spx__check_shown K) (fun cls d _ H => E cls d H) (tCons (tVar 1) (tCons (tVar 5) (tCons (tVar 3) tNil))))) (tAsg (tCB (rTupOf K) (tCons (tVar 3) tNil)) (gName 3))) tNext) (tSeq tNever (tSeq tNever tNever))) { nx := fun _ H' => Q .non H', rt := Q } [some (.ref x), some vq, some vp, some z, some (.ref d), some (.int N)] H1 := by
        intro ev H1 d s1
        rcases h with ⟨rs, e, no, _⟩ | ⟨_, nn, sh⟩
        · exact absurd (ev rs e) no
        refine w_ifS ?_
        refine w_tst ?_
        refine w_op ?_
        refine w_var rfl ?_
        refine w_c ?_
        refine w_noN nn ?_
        refine ⟨_, rfl, ?_⟩
        refine w_ifT ?_
        walk_at "ws"
        exact sh H1 s1
      have chk : ∀ (Q' : VK) (H1 : Hp) (tq : Addr) (rq : Rws), sq = some rq → TurnAt (CT K) H1 tq N rq → Same H H1 → ((∀ rs, sq = some rs → N % 2 = 0 ∧ Keeps N rs (N / 2)) → Q' .non H1) → spx__check_even K [.ref tq] H1 Q' E := by
        intro Q' H1 tq rq e tQ s1 kk
        by_cases ev : N % 2 = 0 ∧ Keeps N rq (N / 2)
        · exact .inr ⟨tq, N, rq, rfl, tQ, ev.1, ev.2, kk fun rs e2 => by rw [e] at e2; cases e2; exact ev⟩
        · rcases h with ⟨rs, e2, no, kb⟩ | ⟨ev2, _⟩
          · exact .inl ⟨tq, N, rq, rfl, tQ, ev, fun d hd => kb H1 d s1 hd⟩
          · exact absurd (ev2 rq e) ev
      rcases tv_turn (K := K) hp with ⟨rfl, rfl⟩ | ⟨tp, rp, rfl, rfl, tP⟩ <;> rcases tv_turn (K := K) hq with ⟨rfl, rfl⟩ | ⟨tq, rq, rfl, rfl, tQ⟩
      · rcases hne with z | z <;> exact absurd rfl z
      · obtain ⟨dq, t2, l2, vs2, ls2, q1, _⟩ := id tQ
        walk_at "ws"
        intro d nd
        walk_at "ws"
        refine ⟨d, _, rfl, DPut.k (k := .inr "squeeze") upd_same (szlt (leb rfl)), ?_⟩
        rw [upd_upd]
        have s1 := same_new (o := .dK (putK [] (.inr "squeeze") (.ref tq))) nd
        walk_at "ws"
        refine ⟨tq, _, dq, _, _, rfl, s1 _ _ q1, T.k_Turning, T.n_Turning_around, tfs_around N _ _ _, ?_⟩
        walk_at "ws"
        refine ⟨true, .inr (.inr ⟨_, upd_same, rfl⟩), ?_⟩
        walk_at "ws"
        exact chk _ _ tq rq rfl (tQ.same s1) s1 fun ev => mid ev _ d s1
      · obtain ⟨dp, t1, l1, vs1, ls1, p1, _⟩ := id tP
        walk_at "ws"
        intro d nd
        walk_at "ws"
        refine ⟨d, _, rfl, DPut.k (k := .inr "push") upd_same (szlt (by decide)), ?_⟩
        rw [upd_upd]
        have s1 := same_new (o := .dK (putK [] (.inr "push") (.ref tp))) nd
        walk_at "ws"
        refine ⟨tp, _, dp, _, _, rfl, s1 _ _ p1, T.k_Turning, T.n_Turning_around, tfs_around N _ _ _, ?_⟩
        walk_at "ws"
        refine ⟨true, .inr (.inr ⟨_, upd_same, rfl⟩), ?_⟩
        walk_at "ws"
        refine ⟨tp, _, dp, _, _, rfl, s1 _ _ p1, T.k_Turning, T.n_Turning_around, tfs_around N _ _ _, ?_⟩
        walk_at "ws"
        refine w_ifnd (fun h => absurd rfl h) (fun _ => ?_)
        with_reducible refine w_next ?_
        dsimp only
        with_reducible refine w_seq ?_
        with_reducible refine w_ifS ?_
        refine w_tst ?_
        refine w_op ?_
        refine w_var rfl ?_
        refine w_c ?_
        refine w_noN0 ?_
        refine ⟨_, rfl, ?_⟩
        refine w_ifF ?_
        refine w_next ?_
        exact mid (fun rs e => nomatch e) _ d s1
      · obtain ⟨dp, t1, l1, vs1, ls1, p1, _⟩ := id tP
        obtain ⟨dq, t2, l2, vs2, ls2, q1, _⟩ := id tQ
        walk_at "ws"
        intro d nd
        walk_at "ws"
        refine ⟨d, _, rfl, DPut.k (k := .inr "push") upd_same (szlt (by decide)), ?_⟩
        rw [upd_upd]
        have s1 := same_new (o := .dK (putK [] (.inr "push") (.ref tp))) nd
        walk_at "ws"
        refine ⟨tp, _, dp, _, _, rfl, s1 _ _ p1, T.k_Turning, T.n_Turning_around, tfs_around N _ _ _, ?_⟩
        walk_at "ws"
        refine ⟨d, _, rfl, DPut.k (k := .inr "squeeze") upd_same (szlt (leb rfl)), ?_⟩
        rw [upd_upd]
        have s2 := same_new (o := .dK (putK (putK [] (.inr "push") (.ref tp)) (.inr "squeeze") (.ref tq))) nd
        walk_at "ws"
        refine ⟨tq, _, dq, _, _, rfl, s2 _ _ q1, T.k_Turning, T.n_Turning_around, tfs_around N _ _ _, ?_⟩
        walk_at "ws"
        refine ⟨true, .inr (.inr ⟨_, upd_same, rfl⟩), ?_⟩
        walk_at "ws"
        refine ⟨tp, _, dp, _, _, rfl, s2 _ _ p1, T.k_Turning, T.n_Turning_around, tfs_around N _ _ _, ?_⟩
        walk_at "ws"
        refine w_ifnd (fun h => absurd rfl h) (fun _ => ?_)
        walk_at "ws"
        exact chk _ _ tq rq rfl (tQ.same s2) s2 fun ev => mid ev _ d s2
def spx_PartD_initD (K : PySem.W.Frag) : Sp := (spOr (spx_PartD_initD_x K) (sp_PartD_initD K))
theorem x_PartD_initD (T : Env P K mg) : CalIDX P w K mg base 5 (He.ga K "Part") "Part" "Part.__init__" s_PartD_initD p_PartD_initD ([.non, .non, .non] : List V) (spx_PartD_initD K) := ((x_PartD_initD_x T).or (ck_PartD_initD T).toIX)
end
end Qk38
namespace Qk38
open PySem PySem.Spec PyProof.Rows L2 J
-- steps
local macro_rules | `(tactic| walk_at "lk") => `(tactic| first
  | assumption
  | exact upd_same
  | (refine (‹Same _ _› : Same _ _) _ _ ?_; assumption)
  | (refine Same.get1 (by assumption) ?_; walk_at "lk"))
local macro_rules | `(tactic| walk_at "w") => `(tactic| first
  | ((with_reducible refine' w_var ?hh ?_); (case hh => rfl))
  | with_reducible first
    | refine w_c ?_ | refine w_op ?_ | refine w_un ?_ | refine w_seq ?_ | refine w_asg ?_ | refine w_ret ?_ | refine w_retN ?_ | refine w_drop ?_ | refine w_ifS ?_ | refine w_next ?_ | refine w_name ?_
    | refine w_tst ?_ | refine w_tB ?_ | refine w_exb ?_ | refine w_and ?_ | refine w_or ?_ | refine w_not ?_ | refine w_andV ?_ | refine w_orV ?_ | refine w_notV ?_ | refine w_exc ?_ | refine w_ifE ?_ | refine w_chain ?_
    | refine w_nil ?_ | refine w_cons ?_ | refine w_call ?_ | refine w_cb ?_ | refine w_tup ?_ | refine w_lst ?_ | refine w_bm ?_ | refine w_bm0 ?_ | refine w_sl ?_ | refine w_noPart ?_ | refine w_part ?_ | refine w_exi ?_
    | refine w_add ?_ | refine w_sub ?_ | refine w_neg ?_ | refine w_eqI ?_ | refine w_neI ?_ | refine w_eqB ?_ | refine w_neB ?_ | refine w_rI0 ?_
    | refine w_mod ?_ (by first | assumption | omega | decide) | refine w_fdiv ?_ (by first | assumption | omega) (by first | assumption | omega) | refine w_mulL ?_ (by omega) | refine w_mulR ?_ (by omega)
    | refine w_pow ?_ (by decide)
    | refine w_ifT ?_ | refine w_ifF ?_ | refine w_ifnT ?_ | refine w_ifnF ?_
    | refine w_int ?_ | refine w_abs ?_ | refine w_max2 ?_ | refine w_min2 ?_ | refine w_gCons ?_ | refine w_gNil ?_ | refine w_gSub ?_ | refine w_for ?_
    | refine w_fld ?_ | refine w_sFld ?_ | refine w_meth ?_ | refine w_methK ?_ | refine w_isN0 ?_ | refine w_isN1 ?_ | refine w_isN2 ?_ | refine w_noN0 ?_ | refine w_noN1 ?_ | refine w_noN2 ?_ | refine w_makeK ?_ | refine w_make ?_ | refine w_callO ?_ | refine w_lc ?_ | refine w_yes ?_ | refine w_iEnumS ?_ | refine w_iSeq ?_ | refine w_iRng1 ?_ | refine w_iRng2 ?_ | refine w_prop ?_ | refine w_listVals ?_ | refine w_disp ?_ | refine w_dnewK ?_ | refine w_dput ?_ | refine w_dget ?_ | refine w_din ?_ | refine w_dnin ?_ | refine w_get ?_ | refine w_makeD ?_ | refine w_pairs ?_ | refine w_pairs0 ?_ | refine w_sc ?_ | refine w_iVals ?_ | refine w_lstRg1 ?_ | refine w_lstRg2 ?_ | refine w_clsName ?_ | refine w_cutG ?_ | refine w_cutT ?_ | refine w_calK ?_ | refine w_lenSet ?_ | refine w_brk ?_ | refine w_cont ?_ | refine w_raiseJ ?_ | refine w_calX ?_ | refine w_calKX ?_ | refine w_methX ?_ | refine w_methKX ?_ | refine w_makeX ?_ | refine w_makeKX ?_ | refine w_callOX ?_ | refine w_tryA ?_ | refine w_xf ?_ | refine w_eqOwn ?_ | refine w_neOwn ?_ | refine w_zipM ?_ | refine w_lenOwn ?_ | refine w_makeN ?_ | refine w_makeN0 ?_ | refine w_getX ?_ | refine w_calD ?_ | refine w_srtSet ?_ | refine w_dc ?_ | refine w_dcX ?_ | refine w_cmeth ?_ | refine w_cmethP ?_ | refine w_iZip ?_ | refine w_makeV ?_ | refine w_makeVX ?_ | refine w_iKeys ?_ | refine w_dget1 ?_ | refine w_ownI ?_ | refine w_setO ?_ | refine w_gSetX ?_ | refine w_calDX ?_)
local macro_rules | `(tactic| walk_at "ws") => `(tactic| repeat walk_at "w")
section
variable {P : Program} {w : World} {K : PySem.W.Frag} {mg : Str → Option Value} {base : Heap}
def sp_Part_width (K : PySem.W.Frag) : Sp := fun vs H Q _ => ∃ (x : Addr) (N i : Int) (ws : List Int), vs = [.ref x, .int i] ∧ PartV K H x N (some ws) ∧ 2 ≤ N ∧ ∀ w, ws[(i % N).toNat]? = some w → Q (.int w) H
theorem c_Part_width (T : Env P K mg) : CalM P w K mg base 2 (He.ga K "Part") "width" "Part.width" s_Part_width p_Part_width (sp_Part_width K) := by
  refine calm_mk (k := 1) T.s_Part_width T.m_Part_width sc_Part_width (fun _ _ _ _ _ _ us hl => match us, hl with | [_, _], _ => rfl) (fun vs H Q E h => ?_) (fun cdv A outer s H vs Q E hr h => ?_)
  · obtain ⟨_, _, _, _, rfl, _⟩ := h; rfl
  · obtain ⟨x, N, i, ws, rfl, ⟨dx, d, wv, h1, t, e, ht, ok⟩, n2, k⟩ := h
    subst e
    refine ⟨_, (pss_cons (ps_if (pt_cmpR jop_isN (pe_fld (pv 0) rfl) pe_non (nomark _)) (pss_one ps_never) pss_nil)
    (pss_cons (ps_if (pt_not (pt_val (pe_cal (c_is_whole T) (hr.mono (by decide)) (pa_cons (pv 1) pa_nil)))) (pss_one ps_never) pss_nil)
    (pss_one (ps_ret (pe_ix ix_tup (pe_fld (pv 0) rfl) (pe_op op_mod (pv 1) (pe_fld (pv 0) rfl)) (fun _ _ => rfl)))))), ?_⟩
    dsimp only [cxOf, Cx.nox]
    walk_at "ws"
    refine ⟨x, _, dx, _, _, rfl, h1, T.k_Part, T.n_Part__widths, pfw_widths N d _, ?_⟩
    walk_at "ws"
    refine ⟨_, _, rfl, wh_int, ?_⟩
    walk_at "ws"
    refine ⟨x, _, dx, _, _, rfl, h1, T.k_Part, T.n_Part__widths, pfw_widths N d _, ?_⟩
    walk_at "ws"
    refine ⟨x, _, dx, _, _, rfl, h1, T.k_Part, T.n_Part_around, pfw_around N d _, ?_⟩
    walk_at "ws"
    have h0 := Int.emod_nonneg i (show N ≠ 0 by omega)
    have h1 := Int.emod_lt_of_pos i (show 0 < N by omega)
    have hl := ok.len
    obtain ⟨w, hw⟩ : ∃ w, ws[(i % N).toNat]? = some w := ⟨_, List.getElem?_eq_getElem (by omega)⟩
    refine w_ixT (v := .int w) ?_ (sqT ht) (atI_of h0 (by rw [List.getElem?_map, hw]; rfl))
    exact k w hw
def spx_Part_width_n (K : PySem.W.Frag) : Sp := fun vs H _ E => ∃ (x : Addr) (N : Int) (v : V), vs = [.ref x, v] ∧ PartV K H x N none ∧ ∀ d, H d = none → E (.ref (He.ga K "BadWord")) (some d) (upd H d (.xd [("value", .str "squeeze")]))
theorem x_Part_width_n (T : Env P K mg) : CalMX P w K mg base 1 (He.ga K "Part") "width" "Part.width" s_Part_width p_Part_width (spx_Part_width_n K) := by
  refine calmx_mk (k := 0) T.s_Part_width T.m_Part_width sc_Part_width (fun _ _ _ _ _ _ us hl => match us, hl with | [_, _], _ => rfl) (fun vs H Q E h => ?_) (fun cdv A outer s H vs Q E hr h => ?_)
  · obtain ⟨_, _, _, rfl, _⟩ := h; rfl
  · obtain ⟨x, N, v, rfl, ⟨dx, d, wv, h1, e⟩, k⟩ := h
    have e : wv = .non := e
    subst e
    refine ⟨_, (pss_cons (ps_if (pt_cmpR jop_isN (pe_fld (pv 0) rfl) pe_non (nomark _)) (pss_one (ps_raiseJ rfl T.e_BadWord hr (takes_of rfl rfl rfl rfl) (pa_cons pe_str pa_nil))) pss_nil)
    (pss_cons ps_never
    (pss_one ps_never))), ?_⟩
    dsimp only [cxOf]
    walk_at "ws"
    refine ⟨x, _, dx, _, _, rfl, h1, T.k_Part, T.n_Part__widths, pfw_widths N d _, ?_⟩
    walk_at "ws"
    exact ⟨_, rfl, fun d hd => k d hd⟩
def spx_Part_width_s (K : PySem.W.Frag) : Sp := fun vs H _ E => ∃ (x : Addr) (N : Int) (ws : List Int) (v : V), vs = [.ref x, v] ∧ PartV K H x N (some ws) ∧ Odd H v ∧ ∀ d, H d = none → E (.ref (He.ga K "BadStanding")) (some d) (upd H d (.xd [("value", v)]))
theorem x_Part_width_s (T : Env P K mg) : CalMX P w K mg base 2 (He.ga K "Part") "width" "Part.width" s_Part_width p_Part_width (spx_Part_width_s K) := by
  refine calmx_mk (k := 1) T.s_Part_width T.m_Part_width sc_Part_width (fun _ _ _ _ _ _ us hl => match us, hl with | [_, _], _ => rfl) (fun vs H Q E h => ?_) (fun cdv A outer s H vs Q E hr h => ?_)
  · obtain ⟨_, _, _, _, rfl, _⟩ := h; rfl
  · obtain ⟨x, N, ws, v, rfl, ⟨dx, d, wv, h1, t, e, ht, ok⟩, od, k⟩ := h
    subst e
    refine ⟨_, (pss_cons (ps_if (pt_cmpR jop_isN (pe_fld (pv 0) rfl) pe_non (nomark _)) (pss_one (ps_raiseJ rfl T.e_BadWord hr (takes_of rfl rfl rfl rfl) (pa_cons pe_str pa_nil))) pss_nil)
    (pss_cons (ps_if (pt_not (pt_val (pe_cal (c_is_whole T) (hr.mono (by decide)) (pa_cons (pv 1) pa_nil)))) (pss_one (ps_raiseJ rfl T.e_BadStanding hr (takes_of rfl rfl rfl rfl) (pa_cons (pv 1) pa_nil))) pss_nil)
    (pss_one ps_never))), ?_⟩
    dsimp only [cxOf]
    walk_at "ws"
    refine ⟨x, _, dx, _, _, rfl, h1, T.k_Part, T.n_Part__widths, pfw_widths N d _, ?_⟩
    walk_at "ws"
    refine ⟨_, _, rfl, od.wh, ?_⟩
    walk_at "ws"
    exact ⟨_, rfl, fun d hd => k d hd⟩
def spx_Part_width (K : PySem.W.Frag) : Sp := (spOr (spOr (spx_Part_width_n K) (spx_Part_width_s K)) (sp_Part_width K))
theorem x_Part_width (T : Env P K mg) : CalMX P w K mg base 2 (He.ga K "Part") "width" "Part.width" s_Part_width p_Part_width (spx_Part_width K) := (((x_Part_width_n T).or (x_Part_width_s T)).or (c_Part_width T).x)
def sp__ends (K : PySem.W.Frag) : Sp := fun vs H Q _ => ∃ N : Int, ∃ p xs rs, vs = [.int N, .ref p] ∧ Sq H p xs ∧ PairsAt H xs rs ∧ 1 ≤ rs.length ∧ rs.length ≤ 12 ∧ ∀ H' q, Same H H' → H q = none → H' q = some (.lst ((endsL N rs).map V.int)) → Q (.ref q) H'
theorem c2__ends (T : Env P K mg) : Cal2 P w K mg base 1 "_ends" s__ends p__ends (sp__ends K) := by
  refine cal2_mk (k := 0) T.s__ends T.g__ends sc__ends (fun _ _ _ _ _ _ us hl => match us, hl with | [_, _], _ => rfl) (fun vs H Q E h => ?_) (fun cdv A outer s H vs Q E hr h => ?_)
  · obtain ⟨_, _, _, _, rfl, _⟩ := h; rfl
  · obtain ⟨N, p, xs, rs, rfl, hp, hr', l1, l2, k⟩ := h
    refine ⟨_, (pss_cons (ps_setLc (i := 2) (own := [("begin", 3), ("rest", 4)]) (g := (gTup K 2 (gCons (gName 3) (gCons (gName 4) gNil)))) (tt := tYes) (te := (tVar 3)) (by rfl) sc__ends.nd rfl rfl (sw_true rfl rfl rfl (by decide +kernel)) (pi_seq (pv 1)) (blkOk_by (own := [("begin", 3), ("rest", 4)]) (N := N__ends) (sc := defScope s__ends) (by decide +kernel)) (fun _ _ _ _ _ => (pg_tup (by rfl) (pgs_cons (pg_name (i := 3) sc__ends.nd rfl (Or.inl rfl)) (pgs_cons (pg_name (i := 4) sc__ends.nd rfl (Or.inl rfl)) pgs_nil)))) (fun _ _ _ _ _ => pts_nil) (fun _ _ _ _ _ => (pv 3)))
    (pss_one (ps_ret (pe_op op_cat (pe_slice sl_list (pv 2) (po_some pe_int) po_none) (pj_lst (pa_cons (pe_op op_add (pe_ix ix_list (pv 2) pe_int (fun _ _ => rfl)) (pv 0)) pa_nil)))))), ?_⟩
    dsimp only [cxOf, Cx.nox]
    walk_at "ws"
    have hl := hr'.length
    refine lcS hp.sqa (fun i acc H' => acc = ((rs.take i).map Prod.fst).map V.int) (fun _ _ => rfl) (fun Dl i x acc H' hD hx s hl' pv => ?_) (fun Dl acc H' hD s hl' pv => ?_)
    · obtain ⟨b, r, t, e1, rfl, e2⟩ := hr'.get hx
      refine w_gTup ?_ (sqT (s _ _ e2)) rfl
      walk_at "ws"
      refine ⟨rfl, ?_⟩
      walk_at "ws"
      refine lc_step hD s hl' (by rw [pv]; simp; omega) ?_
      show _ = _
      rw [pv, take_map_succ e1, List.map_append]
      rfl
    · walk_at "ws"
      have ea : acc = (rs.map Prod.fst).map V.int := by rw [pv, hl, List.take_length]
      refine w_slL (sqL hl') fun p1 H1 n1 s1 h1 => ?_
      walk_at "ws"
      obtain ⟨q0, rs', rfl⟩ : ∃ q0 rs', rs = q0 :: rs' := by
        cases rs with
        | nil => simp at l1
        | cons a b => exact ⟨a, b, rfl⟩
      refine w_ixL (v := .int q0.1) ?_ (sqL (s1 _ _ hl')) (by rw [ea]; exact atI_nat (j := 0) rfl)
      walk_at "ws"
      refine ⟨leb rfl, fun p2 H2 n2 s2 h2 => ?_⟩
      refine w_cat (s2 _ _ h1) h2 (by rw [ea]; have := cutV_length ((List.map Prod.fst (q0 :: rs')).map V.int) (some 1) none; simp at this l2 ⊢; omega) fun p3 H3 n3 s3 h3 => ?_
      refine k H3 p3 (((s.trans s1).trans s2).trans s3) (s.free (s1.free (s2.free n3))) ?_
      rw [h3, ea]
      have e : cutV ((List.map Prod.fst (q0 :: rs')).map V.int) (some 1) none = ((List.map Prod.fst (q0 :: rs')).map V.int).drop 1 := cut_from (n := 1)
      rw [e]
      simp [endsL]
theorem c__ends (T : Env P K mg) : Cal P w K mg base 1 "_ends" p__ends (sp__ends K) := (c2__ends T).cal
def sp__is_pair (K : PySem.W.Frag) : Sp := fun vs H Q _ => ∃ N b r : Int, ∃ t, vs = [.int N, .ref t] ∧ H t = some (.tup [.int b, .int r]) ∧ 0 ≤ b ∧ b < N ∧ 0 ≤ r ∧ r < N ∧ Q (.bl true) H
theorem c2__is_pair (T : Env P K mg) : Cal2 P w K mg base 3 "_is_pair" s__is_pair p__is_pair (sp__is_pair K) := by
  refine cal2_mk (k := 2) T.s__is_pair T.g__is_pair sc__is_pair (fun _ _ _ _ _ _ us hl => match us, hl with | [_, _], _ => rfl) (fun vs H Q E h => ?_) (fun cdv A outer s H vs Q E hr h => ?_)
  · obtain ⟨_, _, _, _, rfl, _⟩ := h; rfl
  · obtain ⟨N, b, r, t, rfl, ht, h1, h2, h3, h4, k⟩ := h
    refine ⟨_, (pss_one (ps_ret (pe_and (pe_callB call_isi (by rfl) T.b_isinstance (by decide +kernel) (pa_cons (pv 1) (pa_cons (pe_bltn (v := .ty "tuple") (u := .type "tuple") (by rfl) T.b_tuple (by decide +kernel) rfl) pa_nil))) (pe_and (pe_cmpR op_eq (pe_callB jc_len (by rfl) T.b_len (by decide +kernel) (pa_cons (pv 1) pa_nil)) pe_int (nomark _)) (pe_and (pe_cal (c_is_whole_from T) (hr.mono (by decide)) (pa_cons (pe_ix ix_tup (pv 1) pe_int (fun _ _ => rfl)) (pa_cons pe_int (pa_cons (pe_op op_sub (pv 0) pe_int) pa_nil)))) (pe_one (pe_cal (c_is_whole_from T) (hr.mono (by decide)) (pa_cons (pe_ix ix_tup (pv 1) pe_int (fun _ _ => rfl)) (pa_cons pe_int (pa_cons (pe_op op_sub (pv 0) pe_int) pa_nil)))))))))), ?_⟩
    dsimp only [cxOf, Cx.nox]
    walk_at "ws"
    refine w_isi (b := true) ?_ (.base (.tup ht)) (.ty _) (kit_ty (by decide +kernel))
    walk_at "ws"
    refine w_lenT ?_ (sqT ht)
    walk_at "ws"
    refine w_ifd (fun _ => ?_) (fun h => absurd rfl h)
    walk_at "ws"
    refine w_ixT (v := .int b) ?_ (sqT ht) rfl
    walk_at "ws"
    refine cl_is_whole_from ?_
    walk_at "ws"
    refine w_ifd (fun _ => ?_) (fun h => absurd ⟨h1, by omega⟩ h)
    walk_at "ws"
    refine w_ixT (v := .int r) ?_ (sqT ht) rfl
    walk_at "ws"
    refine cl_is_whole_from ?_
    have e : decide (0 ≤ r ∧ r ≤ N - 1) = true := decide_eq_true ⟨h3, by omega⟩
    rw [e]
    exact k
theorem c__is_pair (T : Env P K mg) : Cal P w K mg base 3 "_is_pair" p__is_pair (sp__is_pair K) := (c2__is_pair T).cal
def sp__check_rows (K : PySem.W.Frag) : Sp := fun vs H Q _ => ∃ N : Int, ∃ p xs rs, vs = [.int N, .ref p] ∧ Sq H p xs ∧ PairsAt H xs rs ∧ Rows N rs ∧ ∀ H', Same H H' → Q .non H'
theorem c2__check_rows (T : Env P K mg) : Cal2 P w K mg base 4 "_check_rows" s__check_rows p__check_rows (sp__check_rows K) := by
  refine cal2_mk (k := 3) T.s__check_rows T.g__check_rows sc__check_rows (fun _ _ _ _ _ _ us hl => match us, hl with | [_, _], _ => rfl) (fun vs H Q E h => ?_) (fun cdv A outer s H vs Q E hr h => ?_)
  · obtain ⟨_, _, _, _, rfl, _⟩ := h; rfl
  · obtain ⟨N, p, xs, rs, rfl, hp, hr', R, k⟩ := h
    refine ⟨_, (pss_cons (ps_if (pt_not (pt_val (pe_cal (c_is_row_of T) (hr.mono (by decide)) (pa_cons (pv 1) (pa_cons pe_int (pa_cons (pe_const T.c_MOST_PAIRS) pa_nil)))))) (pss_one ps_never) pss_nil)
    (pss_cons (ps_set (i := 2) sc__check_rows.nd rfl (Or.inl rfl) (pe_un un_neg pe_int))
    (pss_cons (ps_for PassesOwn.never (by rfl) (pi_enumS (by rfl) T.b_enumerate (pa_cons (pv 1) pa_nil)) (pg_tup (by rfl) (pgs_cons (pg_name (i := 3) sc__check_rows.nd rfl (Or.inl rfl)) (pgs_cons (pg_name (i := 4) sc__check_rows.nd rfl (Or.inl rfl)) pgs_nil))) (pss_cons (ps_if (PW.pt (pw_or (pt_not (pt_val (pe_cal (c__is_pair T) (hr.mono (by decide)) (pa_cons (pv 0) (pa_cons (pv 4) pa_nil))))) (pw_or1 (pt_cmpR op_le (pe_ix ix_tup (pv 4) pe_int (fun _ _ => rfl)) (pv 2) (nomark _))))) (pss_one ps_never) pss_nil)
    (pss_one (ps_set (i := 2) sc__check_rows.nd rfl (Or.inl rfl) (pe_ix ix_tup (pv 4) pe_int (fun _ _ => rfl))))))
    (pss_cons (ps_set (i := 5) sc__check_rows.nd rfl (Or.inl rfl) (pe_cal (c__ends T) (hr.mono (by decide)) (pa_cons (pv 0) (pa_cons (pv 1) pa_nil))))
    (pss_one (ps_for PassesOwn.never (by rfl) (pi_enumS (by rfl) T.b_enumerate (pa_cons (pv 1) pa_nil)) (pg_tup (by rfl) (pgs_cons (pg_name (i := 3) sc__check_rows.nd rfl (Or.inl rfl)) (pgs_cons (pg_tup (by rfl) (pgs_cons (pg_name (i := 6) sc__check_rows.nd rfl (Or.inl rfl)) (pgs_cons (pg_name (i := 7) sc__check_rows.nd rfl (Or.inl rfl)) pgs_nil))) pgs_nil))) (pss_one (ps_if (pt_cmpR op_ge (pe_op op_mod (pe_op op_sub (pv 7) (pv 6)) (pv 0)) (pe_op op_sub (pe_ix ix_list (pv 5) (pv 3) (fun _ _ => rfl)) (pv 6)) (nomark _)) (pss_one ps_never) pss_nil)))))))), ?_⟩
    dsimp only [cxOf, Cx.nox]
    walk_at "ws"
    have hl := hr'.length
    have l1 := R.l1
    have l2 := R.l12
    refine ⟨.ref p, 1, 12, rfl, .inr ⟨p, xs, rfl, hp, fun H1 s1 => ?_⟩⟩
    walk_at "ws"
    refine w_ifnd (fun h => absurd ⟨by omega, by omega⟩ h) (fun _ => ?_)
    walk_at "ws"
    refine forE H hp.sqa (fun i σ H' => Same H H' ∧ ∃ bf oa op, σ = [some (.int N), some (.ref p), some (.int bf), oa, op, none, none, none] ∧ ∀ b r, rs[i]? = some (b, r) → bf < b)
      ⟨s1, -1, _, _, rfl, fun b r e => by have := R.bd _ (List.mem_of_getElem? e); simp at this; omega⟩ (fun i σ H' _ h => h.1) ?_ ?_
    · rintro i x σ H' t hx ⟨s, bf, oa, op, rfl, hb⟩ ht
      obtain ⟨b, r, tp, e1, rfl, e2⟩ := hr'.get hx
      have bd := R.bd _ (List.mem_of_getElem? e1)
      refine w_gTup ?_ (sqT upd_same) rfl
      have s' := s.trans (same_new (o := .tup [.int (i : Nat), .ref tp]) ht)
      walk_at "ws"
      refine ⟨N, b, r, tp, rfl, s' _ _ e2, bd.1, bd.2.1, bd.2.2.1, bd.2.2.2, ?_⟩
      walk_at "ws"
      refine w_ixT (v := .int b) ?_ (sqT (s' _ _ e2)) rfl
      walk_at "ws"
      refine w_ifd (fun h => absurd (hb b r e1) (by omega)) (fun _ => ?_)
      walk_at "ws"
      refine w_ixT (v := .int b) ?_ (sqT (s' _ _ e2)) rfl
      walk_at "ws"
      refine ⟨s', b, _, _, rfl, fun b' r' e' => ?_⟩
      have := R.asc
      exact pw_next this e1 e'
    · rintro σ H' ⟨s, bf, oa, op, rfl, hb⟩
      walk_at "ws"
      refine ⟨N, p, xs, rs, rfl, hp.same s, hr'.same s, l1, l2, fun H2 q s2 nq hq => ?_⟩
      walk_at "ws"
      have s02 := s.trans s2
      refine forE H hp.sqa (fun i σ H' => Same H2 H' ∧ ∃ o2 o3 o4 o6 o7, σ = [some (.int N), some (.ref p), o2, o3, o4, some (.ref q), o6, o7])
        ⟨Same.refl _, _, _, _, _, _, rfl⟩ (fun i σ H' _ h => s02.trans h.1) ?_ ?_
      · rintro i x σ H' t hx ⟨s3, o2, o3, o4, o6, o7, rfl⟩ ht
        obtain ⟨b, r, tp, e1, rfl, e2⟩ := hr'.get hx
        have hN : 0 < N := by have := R.n2; omega
        have s' := s3.trans (same_new (o := .tup [.int (i : Nat), .ref tp]) ht)
        refine w_gTup ?_ (sqT upd_same) rfl
        walk_at "ws"
        refine w_gTup ?_ (sqT (s' _ _ (s02 _ _ e2))) rfl
        walk_at "ws"
        have hi : i < (endsL N rs).length := by rw [endsL_length l1, ← hl]; exact (List.getElem?_eq_some_iff.mp hx).1
        have he : (endsL N rs)[i]? = some (endsL N rs)[i] := by simp [hi]
        refine w_ixL (v := .int (endsL N rs)[i]) ?_ (sqL (s' _ _ hq)) (atI_nat (by rw [List.getElem?_map, he]; rfl))
        walk_at "ws"
        refine w_ifd (fun h => absurd (R.st i b r _ e1 he) (by omega)) (fun _ => ?_)
        walk_at "ws"
        exact ⟨s', _, _, _, _, _, rfl⟩
      · rintro σ H' ⟨s3, o2, o3, o4, o6, o7, rfl⟩
        exact k _ (s02.trans s3)
theorem c__check_rows (T : Env P K mg) : Cal P w K mg base 4 "_check_rows" p__check_rows (sp__check_rows K) := (c2__check_rows T).cal
def sp__lifts_of_places (K : PySem.W.Frag) : Sp := fun vs H Q _ => ∃ N : Int, ∃ p xs rs, vs = [.int N, .ref p] ∧ Sq H p xs ∧ PairsAt H xs rs ∧ Rows N rs ∧ ∀ H' q ls, Same H H' → H q = none → H' q = some (.lst (ls.map V.int)) → LiftTab N rs ls → Q (.ref q) H'
theorem c2__lifts_of_places (T : Env P K mg) : Cal2 P w K mg base 2 "_lifts_of_places" s__lifts_of_places p__lifts_of_places (sp__lifts_of_places K) := by
  refine cal2_mk (k := 1) T.s__lifts_of_places T.g__lifts_of_places sc__lifts_of_places (fun _ _ _ _ _ _ us hl => match us, hl with | [_, _], _ => rfl) (fun vs H Q E h => ?_) (fun cdv A outer s H vs Q E hr h => ?_)
  · obtain ⟨_, _, _, _, rfl, _⟩ := h; rfl
  · obtain ⟨N, p, xs, rs, rfl, hp, hr', R, k⟩ := h
    refine ⟨_, (pss_cons (ps_set (i := 2) sc__lifts_of_places.nd rfl (Or.inl rfl) (pe_op op_rep (pj_lst (pa_cons pe_int pa_nil)) (pv 0)))
    (pss_cons (ps_set (i := 3) sc__lifts_of_places.nd rfl (Or.inl rfl) (pe_cal (c__ends T) (hr.mono (by decide)) (pa_cons (pv 0) (pa_cons (pv 1) pa_nil))))
    (pss_cons (ps_for PassesOwn.never (by rfl) (pi_enumS (by rfl) T.b_enumerate (pa_cons (pv 1) pa_nil)) (pg_tup (by rfl) (pgs_cons (pg_name (i := 4) sc__lifts_of_places.nd rfl (Or.inl rfl)) (pgs_cons (pg_tup (by rfl) (pgs_cons (pg_name (i := 5) sc__lifts_of_places.nd rfl (Or.inl rfl)) (pgs_cons (pg_name (i := 6) sc__lifts_of_places.nd rfl (Or.inl rfl)) pgs_nil))) pgs_nil))) (pss_cons (ps_set (i := 7) sc__lifts_of_places.nd rfl (Or.inl rfl) (pe_op op_add (pv 5) (pe_op op_mod (pe_op op_sub (pv 6) (pv 5)) (pv 0))))
    (pss_one (ps_for PassesOwn.never (by rfl) (pi_range2 (by rfl) T.b_range (pa_cons (pv 5) (pa_cons (pe_ix ix_list (pv 3) (pv 4) (fun _ _ => rfl)) pa_nil))) (pg_name (i := 8) sc__lifts_of_places.nd rfl (Or.inl rfl)) (pss_cons (ps_set (i := 9) sc__lifts_of_places.nd rfl (Or.inl rfl) (pe_op op_mod (pv 8) (pv 0)))
    (pss_one (ps_asg (pe_op op_add (pe_op op_sub (pv 7) (pv 8)) (pv 9)) (pg_sub (pv 2) (pv 9) set_list))))))))
    (pss_one (ps_ret (pv 2)))))), ?_⟩
    dsimp only [cxOf, Cx.nox]
    have n2 := R.n2
    have n360 := R.n360
    have hl := hr'.length
    obtain ⟨b0, r0, h0⟩ := R.first
    have bd0 := R.bd _ (List.mem_of_getElem? h0)
    simp at bd0
    walk_at "ws"
    refine ⟨leb rfl, fun p1 H1 n1 s1 h1 => ?_⟩
    walk_at "ws"
    refine w_rep1 h1 (by omega) (by omega) fun q1 H2 n2' s2 h2 => ?_
    walk_at "ws"
    have s02 := s1.trans s2
    have nq1 : H q1 = none := s1.free n2'
    refine ⟨N, p, xs, rs, rfl, hp.same s02, hr'.same s02, R.l1, R.l12, fun H3 q2 s3 nq2 hq2 => ?_⟩
    walk_at "ws"
    have ne12 : q2 ≠ q1 := fun z => by rw [z, h2] at nq2; cases nq2
    have s03 := s02.trans s3
    have nq2' : H q2 = none := s02.free nq2
    refine forE H hp.sqa (fun i σ H' => Same H H' ∧ H' q2 = some (.lst ((endsL N rs).map V.int)) ∧ ∃ ls o4 o5 o6 o7 o8 o9, σ = [some (.int N), some (.ref p), some (.ref q1), some (.ref q2), o4, o5, o6, o7, o8, o9] ∧ H' q1 = some (.lst (ls.map V.int)) ∧ TabTo N rs b0 (atRow N rs b0 i) ls)
      ⟨s03, hq2, List.replicate N.toNat 0, _, _, _, _, _, _, rfl, by rw [s3 _ _ h2, List.map_replicate], by simp, fun u h1 h2 => ?_⟩ (fun i σ H' _ h => h.1) ?_ ?_
    · simp [atRow] at h2; omega
    · rintro i x σ H' t hx ⟨s, hq2, ls, o4, o5, o6, o7, o8, o9, rfl, hls, tab⟩ ht
      obtain ⟨b, r, tp, e1, rfl, e2⟩ := hr'.get hx
      have st := same_new (o := .tup [.int (i : Nat), .ref tp]) ht
      have s' := s.trans st
      refine w_gTup ?_ (sqT upd_same) rfl
      walk_at "ws"
      refine w_gTup ?_ (sqT (s' _ _ e2)) rfl
      walk_at "ws"
      have hi : i < (endsL N rs).length := by rw [endsL_length R.l1, ← hl]; exact (List.getElem?_eq_some_iff.mp hx).1
      obtain ⟨e, he⟩ : ∃ e, (endsL N rs)[i]? = some e := ⟨(endsL N rs)[i], by simp [hi]⟩
      have bb := R.end_le h0 e1 he
      refine w_ixL (v := .int e) ?_ (sqL (st _ _ hq2)) (atI_nat (by rw [List.getElem?_map, he]; rfl))
      walk_at "ws"
      have a1 := atRow_b (N := N) h0 e1
      have a2 := atRow_e (b0 := b0) he
      refine forR2 (by omega) (fun j σ H' => Same H H' ∧ H' q2 = some (.lst ((endsL N rs).map V.int)) ∧ ∃ ls o4 o8 o9, σ = [some (.int N), some (.ref p), some (.ref q1), some (.ref q2), o4, some (.int b), some (.int r), some (.int (b + (r - b) % N)), o8, o9] ∧ H' q1 = some (.lst (ls.map V.int)) ∧ TabTo N rs b0 (b + j) ls)
        ⟨s', st _ _ hq2, ls, _, _, _, rfl, st _ _ hls, by rw [a1] at tab; simpa using tab⟩ ?_ ?_
      · rintro j σ H4 hj ⟨s4, hq4, ls4, o4, o8, o9, rfl, hls4, tab4⟩
        walk_at "ws"
        have m1 := Int.emod_nonneg (b + (j : Int)) (show N ≠ 0 by omega)
        have m2 := Int.emod_lt_of_pos (b + (j : Int)) (show 0 < N by omega)
        refine w_setL (n := ((b + (j : Int)) % N).toNat) ?_ hls4 (ixN_of m1 (by rw [List.length_map, tab4.1]; omega))
        walk_at "ws"
        have ly : IsLift N rs (b + j) (b + (r - b) % N) := ⟨i, b, r, e, 0, e1, he, by omega, by omega, by omega⟩
        have tab5 := tab4.step R (by omega) (by omega) ly
        refine ⟨same_mut s4 nq1, by rw [upd_ne ne12]; exact hq4, _, _, _, _, rfl, by rw [upd_same, List.map_set], ?_⟩
        have e : b + (j : Int) + 1 = b + ((j + 1 : Nat) : Int) := by omega
        rw [← e]
        exact tab5
      · rintro σ H4 ⟨s4, hq4, ls4, o4, o8, o9, rfl, hls4, tab4⟩
        refine ⟨s4, hq4, ls4, _, _, _, _, _, _, rfl, hls4, ?_⟩
        have e : b + (((e - b).toNat : Nat) : Int) = e := by omega
        rw [e] at tab4
        rw [a2]
        exact tab4
    · rintro σ H' ⟨s, hq2, ls, o4, o5, o6, o7, o8, o9, rfl, hls, tab⟩
      walk_at "ws"
      rw [hl, atRow_last h0] at tab
      exact k H' q1 ls s nq1 hls (tab.done R (by omega))
theorem c__lifts_of_places (T : Env P K mg) : Cal P w K mg base 2 "_lifts_of_places" p__lifts_of_places (sp__lifts_of_places K) := (c2__lifts_of_places T).cal
end
end Qk38
namespace Qk38
open PySem PySem.Spec PyProof.Rows L2 J
-- steps
local macro_rules | `(tactic| walk_at "lk") => `(tactic| first
  | assumption
  | exact upd_same
  | (refine (‹Same _ _› : Same _ _) _ _ ?_; assumption)
  | (refine Same.get1 (by assumption) ?_; walk_at "lk"))
local macro_rules | `(tactic| walk_at "w") => `(tactic| first
  | ((with_reducible refine' w_var ?hh ?_); (case hh => rfl))
  | with_reducible first
    | refine w_c ?_ | refine w_op ?_ | refine w_un ?_ | refine w_seq ?_ | refine w_asg ?_ | refine w_ret ?_ | refine w_retN ?_ | refine w_drop ?_ | refine w_ifS ?_ | refine w_next ?_ | refine w_name ?_
    | refine w_tst ?_ | refine w_tB ?_ | refine w_exb ?_ | refine w_and ?_ | refine w_or ?_ | refine w_not ?_ | refine w_andV ?_ | refine w_orV ?_ | refine w_notV ?_ | refine w_exc ?_ | refine w_ifE ?_ | refine w_chain ?_
    | refine w_nil ?_ | refine w_cons ?_ | refine w_call ?_ | refine w_cb ?_ | refine w_tup ?_ | refine w_lst ?_ | refine w_bm ?_ | refine w_bm0 ?_ | refine w_sl ?_ | refine w_noPart ?_ | refine w_part ?_ | refine w_exi ?_
    | refine w_add ?_ | refine w_sub ?_ | refine w_neg ?_ | refine w_eqI ?_ | refine w_neI ?_ | refine w_eqB ?_ | refine w_neB ?_ | refine w_rI0 ?_
    | refine w_mod ?_ (by first | assumption | omega | decide) | refine w_fdiv ?_ (by first | assumption | omega) (by first | assumption | omega) | refine w_mulL ?_ (by omega) | refine w_mulR ?_ (by omega)
    | refine w_pow ?_ (by decide)
    | refine w_ifT ?_ | refine w_ifF ?_ | refine w_ifnT ?_ | refine w_ifnF ?_
    | refine w_int ?_ | refine w_abs ?_ | refine w_max2 ?_ | refine w_min2 ?_ | refine w_gCons ?_ | refine w_gNil ?_ | refine w_gSub ?_ | refine w_for ?_
    | refine w_fld ?_ | refine w_sFld ?_ | refine w_meth ?_ | refine w_methK ?_ | refine w_isN0 ?_ | refine w_isN1 ?_ | refine w_isN2 ?_ | refine w_noN0 ?_ | refine w_noN1 ?_ | refine w_noN2 ?_ | refine w_makeK ?_ | refine w_make ?_ | refine w_callO ?_ | refine w_lc ?_ | refine w_yes ?_ | refine w_iEnumS ?_ | refine w_iSeq ?_ | refine w_iRng1 ?_ | refine w_iRng2 ?_ | refine w_prop ?_ | refine w_listVals ?_ | refine w_disp ?_ | refine w_dnewK ?_ | refine w_dput ?_ | refine w_dget ?_ | refine w_din ?_ | refine w_dnin ?_ | refine w_get ?_ | refine w_makeD ?_ | refine w_pairs ?_ | refine w_pairs0 ?_ | refine w_sc ?_ | refine w_iVals ?_ | refine w_lstRg1 ?_ | refine w_lstRg2 ?_ | refine w_clsName ?_ | refine w_cutG ?_ | refine w_cutT ?_ | refine w_calK ?_ | refine w_lenSet ?_ | refine w_brk ?_ | refine w_cont ?_ | refine w_raiseJ ?_ | refine w_calX ?_ | refine w_calKX ?_ | refine w_methX ?_ | refine w_methKX ?_ | refine w_makeX ?_ | refine w_makeKX ?_ | refine w_callOX ?_ | refine w_tryA ?_ | refine w_xf ?_ | refine w_eqOwn ?_ | refine w_neOwn ?_ | refine w_zipM ?_ | refine w_lenOwn ?_ | refine w_makeN ?_ | refine w_makeN0 ?_ | refine w_getX ?_ | refine w_calD ?_ | refine w_srtSet ?_ | refine w_dc ?_ | refine w_dcX ?_ | refine w_cmeth ?_ | refine w_cmethP ?_ | refine w_iZip ?_ | refine w_makeV ?_ | refine w_makeVX ?_ | refine w_iKeys ?_ | refine w_dget1 ?_ | refine w_ownI ?_ | refine w_setO ?_ | refine w_gSetX ?_ | refine w_calDX ?_)
local macro_rules | `(tactic| walk_at "ws") => `(tactic| repeat walk_at "w")
section
variable {P : Program} {w : World} {K : PySem.W.Frag} {mg : Str → Option Value} {base : Heap}
def sp__turned_rows (K : PySem.W.Frag) : Sp := fun vs H Q _ => ∃ N c : Int, ∃ p xs rs, vs = [.int N, .ref p, .int c] ∧ Sq H p xs ∧ PairsAt H xs rs ∧ 0 < N ∧ rs.length ≤ 12 ∧ ∀ H' q ys, Same H H' → H' q = some (.tup ys) → PairsAt H' ys (turnR N c rs) → Q (.ref q) H'
theorem c2__turned_rows (T : Env P K mg) : Cal2 P w K mg base 1 "_turned_rows" s__turned_rows p__turned_rows (sp__turned_rows K) := by
  refine cal2_mk (k := 0) T.s__turned_rows T.g__turned_rows sc__turned_rows (fun _ _ _ _ _ _ us hl => match us, hl with | [_, _, _], _ => rfl) (fun vs H Q E h => ?_) (fun cdv A outer s H vs Q E hr h => ?_)
  · obtain ⟨_, _, _, _, _, rfl, _⟩ := h; rfl
  · obtain ⟨N, c, p, xs, rs, rfl, hp, hr', N0, l12, k⟩ := h
    have hu64 := hr.units
    refine ⟨_, (pss_one (ps_ret (pe_callTy jc_tuple (by rfl) T.b_tuple (by decide +kernel) (pa_cons (pe_callB cr_sortedPO (by rfl) T.b_sorted (by decide +kernel) (pa_cons (pe_lc (own := [("begin", 3), ("rest", 4)]) (g := (gTup K 2 (gCons (gName 3) (gCons (gName 4) gNil)))) (tt := tYes) (te := (jTup (tCons (tOp rModI (tOp rAddI (tVar 3) (tVar 2)) (tVar 0)) (tCons (tOp rModI (tOp rAddI (tVar 4) (tVar 2)) (tVar 0)) tNil)))) (by rfl) sc__turned_rows.nd (pi_seq (pv 1)) (blkOk_by (own := [("begin", 3), ("rest", 4)]) (N := N__turned_rows) (sc := defScope s__turned_rows) (by decide +kernel)) (fun _ _ _ _ _ => (pg_tup (by rfl) (pgs_cons (pg_name (i := 3) sc__turned_rows.nd rfl (Or.inl rfl)) (pgs_cons (pg_name (i := 4) sc__turned_rows.nd rfl (Or.inl rfl)) pgs_nil)))) (fun _ _ _ _ _ => pts_nil) (fun _ _ _ _ _ => (pj_tup (pa_cons (pe_op op_mod (pe_op op_add (pv 3) (pv 2)) (pv 0)) (pa_cons (pe_op op_mod (pe_op op_add (pv 4) (pv 2)) (pv 0)) pa_nil))))) pa_nil)) pa_nil)))), ?_⟩
    dsimp only [cxOf, Cx.nox]
    walk_at "ws"
    have hl := hr'.length
    refine lcS hp.sqa (fun i acc H' => PairsAt H' acc ((rs.take i).map (movP N c))) (fun _ _ => .nil) (fun Dl i x acc H' hD hx s hl' pv => ?_) (fun Dl acc H' hD s hl' pv => ?_)
    · obtain ⟨b, r, t, e1, rfl, e2⟩ := hr'.get hx
      refine w_gTup ?_ (sqT (s _ _ e2)) rfl
      walk_at "ws"
      refine ⟨rfl, ?_⟩
      walk_at "ws"
      refine ⟨leb rfl, fun p1 H1 n1 s1 h1 => ?_⟩
      have la := pv.length
      refine lc_step hD (s.trans s1) (s1 _ _ hl') (by rw [la]; simp; omega) ?_
      show PairsAt _ _ _
      rw [take_map_succ e1]
      refine paired_append (updL_pairs (s1 _ _ hl') (pv.same s1)) (.cons ⟨p1, rfl, ?_⟩ .nil)
      rw [upd_ne (ne_of h1 (s1 _ _ hl') (by intro z; cases z)), h1]
      rfl
    · walk_at "ws"
      rw [hl, List.take_length] at pv
      refine w_sortP (sqL hl') pv fun p1 H1 vs1 n1 s1 h1 hp1 => ?_
      walk_at "ws"
      refine w_tupOf (.inl h1) fun p2 H2 s2 h2 => ?_
      exact k H2 p2 vs1 ((s.trans s1).trans s2) h2 (hp1.same s2)
theorem c__turned_rows (T : Env P K mg) : Cal P w K mg base 1 "_turned_rows" p__turned_rows (sp__turned_rows K) := (c2__turned_rows T).cal
def sp__least_period (K : PySem.W.Frag) : Sp := fun vs H Q _ => ∃ N : Int, ∃ p xs rs, vs = [.int N, .ref p] ∧ H p = some (.tup xs) ∧ PairsAt H xs rs ∧ Rows N rs ∧ ∀ H', Same H H' → Q (.int (perR N rs)) H'
theorem c2__least_period (T : Env P K mg) : Cal2 P w K mg base 2 "_least_period" s__least_period p__least_period (sp__least_period K) := by
  refine cal2_mk (k := 1) T.s__least_period T.g__least_period sc__least_period (fun _ _ _ _ _ _ us hl => match us, hl with | [_, _], _ => rfl) (fun vs H Q E h => ?_) (fun cdv A outer s H vs Q E hr h => ?_)
  · obtain ⟨_, _, _, _, rfl, _⟩ := h; rfl
  · obtain ⟨N, p, xs, rs, rfl, hp, hr', R, k⟩ := h
    have hu64 := hr.units
    refine ⟨_, (pss_cons (ps_setLc (i := 2) (own := [("many", 3)]) (g := (gName 3)) (tt := (tAnd (tTest (tOp rEq (tOp rModI (tVar 0) (tVar 3)) (tC (.int 0)))) (tTest (tOp (rEqD K) (tCall (sp__turned_rows K) [] E0 (tCons (tVar 0) (tCons (tVar 1) (tCons (tOp rDivI (tVar 0) (tVar 3)) tNil)))) (tVar 1))))) (te := (tVar 3)) (by rfl) sc__least_period.nd rfl rfl (sw_true rfl rfl rfl (by decide +kernel)) (pi_range2 (by rfl) T.b_range (pa_cons pe_int (pa_cons (pe_op op_add (pe_callB jc_len (by rfl) T.b_len (by decide +kernel) (pa_cons (pv 1) pa_nil)) pe_int) pa_nil))) (blkOk_by (own := [("many", 3)]) (N := N__least_period) (sc := defScope s__least_period) (by decide +kernel)) (fun _ _ _ _ _ => (pg_name (i := 3) sc__least_period.nd rfl (Or.inl rfl))) (fun _ _ _ _ _ => pts_one (PW.pt (pw_and (pt_cmpR op_eq (pe_op op_mod (pv 0) (pv 3)) pe_int (nomark _)) (pw_and1 (pt_cmpR (op_eqD hu64) (pe_cal (c__turned_rows T) (hr.mono (by decide)) (pa_cons (pv 0) (pa_cons (pv 1) (pa_cons (pe_op op_fdivW (pv 0) (pv 3)) pa_nil)))) (pv 1) (nomark _)))))) (fun _ _ _ _ _ => (pv 3)))
    (pss_one (ps_ret (pe_op op_fdivW (pv 0) (pe_ix ix_list (pv 2) (pe_un un_neg pe_int) (fun _ _ => rfl)))))), ?_⟩
    dsimp only [cxOf, Cx.nox]
    walk_at "ws"
    have hl := hr'.length
    have l12 := R.l12
    have n2 := R.n2
    have n360 := R.n360
    refine w_lenT ?_ (sqT hp)
    walk_at "ws"
    refine lcR2 (by omega) (fun i acc H' => acc = (timesL N rs i).map V.int) (fun _ _ => rfl) (fun Dl i acc H' hD hi s hl' pv => ?_) (fun Dl acc H' hD s hl' pv => ?_)
    · walk_at "ws"
      refine ⟨rfl, ?_⟩
      walk_at "ws"
      have la : acc.length ≤ i := by
        rw [pv, List.length_map]
        unfold timesL
        exact Nat.le_trans (List.length_filter_le ..) (by simp)
      have no : fits N rs (1 + (i : Int)) = false → LcInv H Dl (fun i acc H' => acc = (timesL N rs i).map V.int) (i + 1) H' := fun h => ⟨acc, s, hl', by show _ = _; rw [timesL_succ, h, pv]; simp⟩
      refine w_ifd (fun h1 => ?_) (fun h1 => ?_)
      · walk_at "ws"
        refine ⟨N, N / (1 + (i : Int)), p, xs, rs, rfl, .inr (s _ _ hp), hr'.same s, by omega, l12, fun H1 q ys s1 h1q hpq => ?_⟩
        walk_at "ws"
        refine w_eqPT (sqT h1q) (sqT (s1 _ _ (s _ _ hp))) hpq ((hr'.same s).same s1) ?_
        walk_at "ws"
        refine w_ifd (fun h2 => ?_) (fun h2 => ?_)
        · walk_at "ws"
          refine lc_step hD (s.trans s1) (s1 _ _ hl') (by omega) ?_
          show _ = _
          have e : fits N rs (1 + (i : Int)) = true := by unfold fits; simp [h1, h2]
          rw [timesL_succ, e, pv]
          simp
        · have e : fits N rs (1 + (i : Int)) = false := by unfold fits; simp [h2]
          exact ⟨acc, s.trans s1, s1 _ _ hl', by show _ = _; rw [timesL_succ, e, pv]; simp⟩
      · exact no (by unfold fits; simp [h1])
    · walk_at "ws"
      have e : (1 + (rs.length : Int) - 1).toNat = rs.length := by omega
      have e2 : ((xs.length : Int) + 1 - 1).toNat = rs.length := by omega
      rw [e2] at pv
      have ne := timesL_ne R
      refine w_ixL (v := .int ((timesL N rs rs.length).getLast?.getD 1)) ?_ (sqL hl') ?_
      · walk_at "ws"
        have hm : ∀ m ∈ timesL N rs rs.length, 1 ≤ m ∧ m ≤ 12 := fun m hm => by
          unfold timesL at hm
          obtain ⟨j, hj, e⟩ := List.mem_map.mp (List.mem_filter.mp hm).1
          have := List.mem_range.mp hj
          omega
        have hm2 : 1 ≤ (timesL N rs rs.length).getLast?.getD 1 ∧ (timesL N rs rs.length).getLast?.getD 1 ≤ 12 := by
          rw [List.getLast?_eq_some_getLast ne]
          exact hm _ (List.getLast_mem ne)
        refine w_fdiv ?_ (by omega) (by omega)
        exact k H' s
      · rw [pv]
        obtain ⟨ys, y, e⟩ : ∃ ys y, timesL N rs rs.length = ys ++ [y] := ⟨_, _, (List.dropLast_concat_getLast ne).symm⟩
        rw [e]
        simp only [List.map_append, List.map_cons, List.map_nil, List.getLast?_concat, Option.getD_some]
        exact atI_last _ _
theorem c__least_period (T : Env P K mg) : Cal P w K mg base 2 "_least_period" p__least_period (sp__least_period K) := (c2__least_period T).cal
/-- a turning whose own table was not there at H -/
def TurnNew (C : Addr) (H H' : Hp) (x : Addr) (N : Int) (rs : List (Int × Int)) : Prop :=
  ∃ dx t l vs ls, H' x = some (.ins C dx (tfs N t l (perR N rs))) ∧ H' t = some (.tup vs) ∧ PairsAt H' vs rs ∧ H' l = some (.lst (ls.map V.int)) ∧ LiftTab N rs ls ∧ Rows N rs ∧ H l = none
theorem TurnNew.at_ {C : Addr} {H H' : Hp} {x : Addr} {N : Int} {rs : List (Int × Int)} (h : TurnNew C H H' x N rs) : TurnAt C H' x N rs := by
  obtain ⟨dx, t, l, vs, ls, h1, h2, h3, h4, h5, h6, _⟩ := h
  exact ⟨dx, t, l, vs, ls, h1, h2, h3, h4, h5, h6⟩
theorem TurnNew.before {C : Addr} {H0 H H' : Hp} {x : Addr} {N : Int} {rs : List (Int × Int)} (h : TurnNew C H H' x N rs) (s : Same H0 H) : TurnNew C H0 H' x N rs := by
  obtain ⟨dx, t, l, vs, ls, h1, h2, h3, h4, h5, h6, h7⟩ := h
  exact ⟨dx, t, l, vs, ls, h1, h2, h3, h4, h5, h6, s.free h7⟩
theorem TurnNew.same {C : Addr} {H H' H2 : Hp} {x : Addr} {N : Int} {rs : List (Int × Int)} (h : TurnNew C H H' x N rs) (s : Same H' H2) : TurnNew C H H2 x N rs := by
  obtain ⟨dx, t, l, vs, ls, h1, h2, h3, h4, h5, h6, h7⟩ := h
  exact ⟨dx, t, l, vs, ls, s _ _ h1, s _ _ h2, h3.same s, s _ _ h4, h5, h6, h7⟩
/-- an old list may change -/
theorem TurnNew.lst {C : Addr} {H H' : Hp} {x q : Addr} {N : Int} {rs : List (Int × Int)} {ys zs : List V} {o : HO} (h : TurnNew C H H' x N rs) (e0 : H q = some o) (e : H' q = some (.lst ys)) : TurnNew C H (upd H' q (.lst zs)) x N rs := by
  obtain ⟨dx, t, l, vs, ls, h1, h2, h3, h4, h5, h6, h7⟩ := h
  have n1 : x ≠ q := ne_of h1 e (by intro z; cases z)
  have n2 : t ≠ q := ne_of h2 e (by intro z; cases z)
  have n3 : l ≠ q := fun z => by rw [z, e0] at h7; cases h7
  refine ⟨dx, t, l, vs, ls, by rw [upd_ne n1]; exact h1, by rw [upd_ne n2]; exact h2, updL_pairs e h3, by rw [upd_ne n3]; exact h4, h5, h6, h7⟩
def sp_TurningD_initD (K : PySem.W.Frag) : Sp := fun vs H Q _ => ∃ x dx N p xs rs, vs = [.ref x, .int N, .ref p] ∧ H x = some (.ins (CT K) dx []) ∧ Sq H p xs ∧ PairsAt H xs rs ∧ Rows N rs ∧ ∀ H', (∀ b o, b ≠ x → H b = some o → H' b = some o) → TurnNew (CT K) H H' x N rs → Q .non H'
theorem c_TurningD_initD (T : Env P K mg) : CalI P w K mg base 5 (He.ga K "Turning") "Turning" "Turning.__init__" s_TurningD_initD p_TurningD_initD (sp_TurningD_initD K) := by
  refine cali_mk (k := 4) T.s_TurningD_initD T.mk_Turning T.g_Turning sc_TurningD_initD (fun _ _ _ _ _ _ us hl => match us, hl with | [_, _, _], _ => rfl) (fun vs H Q E h => ?_) (fun cdv A outer s H vs Q E hr h => ?_)
  · obtain ⟨_, _, _, _, _, _, rfl, _⟩ := h; rfl
  · obtain ⟨x, dx, N, p, xs, rs, rfl, hx, hp, hr', R, k⟩ := h
    refine ⟨_, (pss_cons (ps_expr (pe_cal (c_check_round T) (hr.mono (by decide)) (pa_cons (pv 1) pa_nil)))
    (pss_cons (ps_expr (pe_cal (c__check_rows T) (hr.mono (by decide)) (pa_cons (pv 1) (pa_cons (pv 2) pa_nil))))
    (pss_cons (ps_fld (pv 0) (pv 1) rfl)
    (pss_cons (ps_fld (pv 0) (pe_callTy jc_tuple (by rfl) T.b_tuple (by decide +kernel) (pa_cons (pv 2) pa_nil)) rfl)
    (pss_cons (ps_fld (pv 0) (pe_cal (c__lifts_of_places T) (hr.mono (by decide)) (pa_cons (pv 1) (pa_cons (pe_fld (pv 0) rfl) pa_nil))) rfl)
    (pss_one (ps_fld (pv 0) (pe_cal (c__least_period T) (hr.mono (by decide)) (pa_cons (pv 1) (pa_cons (pe_fld (pv 0) rfl) pa_nil))) rfl))))))), ?_⟩
    dsimp only [cxOf, Cx.nox]
    have n2 := R.n2
    have n360 := R.n360
    have npx : p ≠ x := by
      rcases hp with hp | hp
      · exact ne_of hp hx (by intro z; cases z)
      · exact ne_of hp hx (by intro z; cases z)
    have px : ∀ {v q}, v ∈ xs → v = .ref q → q ≠ x := fun hv e => by
      obtain ⟨t, a, b, e2, ht⟩ := pairs_mem hr' _ hv
      rw [e] at e2; cases e2
      exact ne_of ht hx (by intro z; cases z)
    have kp : ∀ {H' H'' : Hp}, (∀ b o, b ≠ x → H' b = some o → H'' b = some o) → PairsAt H' xs rs → PairsAt H'' xs rs := fun hk h => pairs_keep hk h (fun v hv q e => px hv e)
    walk_at "ws"
    refine ⟨N, rfl, n2, n360, ?_⟩
    walk_at "ws"
    refine ⟨N, p, xs, rs, rfl, hp, hr', R, fun H1 s1 => ?_⟩
    walk_at "ws"
    refine ⟨x, _, dx, _, rfl, s1 _ _ hx, T.k_Turning, T.n_Turning_around, by decide, ?_⟩
    rw [tf1]
    walk_at "ws"
    have k1 : ∀ b o, b ≠ x → H1 b = some o → upd H1 x (.ins (CT K) dx (tfs1 N)) b = some o := fun b o hb e => by rw [upd_ne hb]; exact e
    have hp2 : Sq (upd H1 x (.ins (CT K) dx (tfs1 N))) p xs := by
      unfold Sq; rw [upd_ne npx]; exact hp.same s1
    refine w_tupOf hp2 fun t H2 s2 h2 => ?_
    walk_at "ws"
    have hx2 : H2 x = some (.ins (CT K) dx (tfs1 N)) := s2 _ _ upd_same
    have ntx : t ≠ x := ne_of h2 hx2 (by intro z; cases z)
    refine ⟨x, _, dx, _, rfl, hx2, T.k_Turning, T.n_Turning_rows, leb rfl, ?_⟩
    rw [tf2]
    walk_at "ws"
    refine ⟨x, _, dx, _, _, rfl, upd_same, T.k_Turning, T.n_Turning_rows, tf_rows2 N t, ?_⟩
    walk_at "ws"
    have hpA : PairsAt (upd H2 x (.ins (CT K) dx (tfs2 N t))) xs rs := kp (fun b o hb e => by rw [upd_ne hb]; exact e) ((kp k1 (hr'.same s1)).same s2)
    refine ⟨N, t, xs, rs, rfl, .inr (by rw [upd_ne ntx]; exact h2), hpA, R, fun H3 l ls s3 nl hl tab => ?_⟩
    walk_at "ws"
    have hx3 : H3 x = some (.ins (CT K) dx (tfs2 N t)) := s3 _ _ upd_same
    have ht3 : H3 t = some (.tup xs) := s3 _ _ (by rw [upd_ne ntx]; exact h2)
    have nlx : l ≠ x := ne_of hl hx3 (by intro z; cases z)
    refine ⟨x, _, dx, _, rfl, hx3, T.k_Turning, T.n_Turning__lifts, leb rfl, ?_⟩
    rw [tf3]
    walk_at "ws"
    refine ⟨x, _, dx, _, _, rfl, upd_same, T.k_Turning, T.n_Turning_rows, tf_rows3 N t l, ?_⟩
    walk_at "ws"
    have hpB : PairsAt (upd H3 x (.ins (CT K) dx (tfs3 N t l))) xs rs := kp (fun b o hb e => by rw [upd_ne hb]; exact e) (hpA.same s3)
    refine ⟨N, t, xs, rs, rfl, by rw [upd_ne ntx]; exact ht3, hpB, R, fun H4 s4 => ?_⟩
    walk_at "ws"
    have hx4 : H4 x = some (.ins (CT K) dx (tfs3 N t l)) := s4 _ _ upd_same
    refine ⟨x, _, dx, _, rfl, hx4, T.k_Turning, T.n_Turning__period, leb rfl, ?_⟩
    rw [tf4]
    have nl0 : H l = none := by
      rw [upd_ne nlx] at nl
      have nl1 := s2.free nl
      rw [upd_ne nlx] at nl1
      exact s1.free nl1
    refine k _ (fun b o hb e => ?_) ⟨dx, t, l, xs, ls, upd_same, ?_, ?_, ?_, tab, R, nl0⟩
    · rw [upd_ne hb]
      refine s4 _ _ ?_
      rw [upd_ne hb]
      refine s3 _ _ ?_
      rw [upd_ne hb]
      refine s2 _ _ ?_
      rw [upd_ne hb]
      exact s1 _ _ e
    · rw [upd_ne ntx]
      refine s4 _ _ ?_
      rw [upd_ne ntx]
      exact ht3
    · exact kp (fun b o hb e => by rw [upd_ne hb]; exact e) (hpB.same s4)
    · rw [upd_ne nlx]
      refine s4 _ _ ?_
      rw [upd_ne nlx]
      exact hl
theorem make_Turning {H : Hp} {p x dx : Addr} {xs : List V} {rs : List (Int × Int)} {N : Int} {Q : VK} (nx : H x = none) (nd : H dx = none) (hp : Sq H p xs) (hr : PairsAt H xs rs) (R : Rows N rs) (q : ∀ H3, Same H H3 → TurnAt (CT K) H3 x N rs → Q .non H3) :
    sp_TurningD_initD K [.ref x, .int N, .ref p] (upd (upd H dx (.own x)) x (.ins (CT K) dx [])) Q E0 := by
  have s0 : Same H (upd (upd H dx (.own x)) x (.ins (CT K) dx [])) := fun b o e => by
    rw [upd_ne (ne_of_none e nx), upd_ne (ne_of_none e nd)]; exact e
  exact ⟨x, dx, N, p, xs, rs, rfl, upd_same, hp.same s0, hr.same s0, R, fun H3 hk tA => q H3 (Same.made nx nd fun b o e hb => hk b o hb e) tA.at_⟩
theorem make_TurningN {H : Hp} {p x dx : Addr} {xs : List V} {rs : List (Int × Int)} {N : Int} {Q : VK} (nx : H x = none) (nd : H dx = none) (hp : Sq H p xs) (hr : PairsAt H xs rs) (R : Rows N rs) (q : ∀ H3, Same H H3 → TurnNew (CT K) H H3 x N rs → Q .non H3) :
    sp_TurningD_initD K [.ref x, .int N, .ref p] (upd (upd H dx (.own x)) x (.ins (CT K) dx [])) Q E0 := by
  have s0 : Same H (upd (upd H dx (.own x)) x (.ins (CT K) dx [])) := fun b o e => by
    rw [upd_ne (ne_of_none e nx), upd_ne (ne_of_none e nd)]; exact e
  exact ⟨x, dx, N, p, xs, rs, rfl, upd_same, hp.same s0, hr.same s0, R, fun H3 hk tA => q H3 (Same.made nx nd fun b o e hb => hk b o hb e) (tA.before s0)⟩
end
end Qk38
namespace Qk38
open PySem PySem.Spec PyProof.Rows L2 J
-- steps
local macro_rules | `(tactic| walk_at "lk") => `(tactic| first
  | assumption
  | exact upd_same
  | (refine (‹Same _ _› : Same _ _) _ _ ?_; assumption)
  | (refine Same.get1 (by assumption) ?_; walk_at "lk"))
local macro_rules | `(tactic| walk_at "w") => `(tactic| first
  | ((with_reducible refine' w_var ?hh ?_); (case hh => rfl))
  | with_reducible first
    | refine w_c ?_ | refine w_op ?_ | refine w_un ?_ | refine w_seq ?_ | refine w_asg ?_ | refine w_ret ?_ | refine w_retN ?_ | refine w_drop ?_ | refine w_ifS ?_ | refine w_next ?_ | refine w_name ?_
    | refine w_tst ?_ | refine w_tB ?_ | refine w_exb ?_ | refine w_and ?_ | refine w_or ?_ | refine w_not ?_ | refine w_andV ?_ | refine w_orV ?_ | refine w_notV ?_ | refine w_exc ?_ | refine w_ifE ?_ | refine w_chain ?_
    | refine w_nil ?_ | refine w_cons ?_ | refine w_call ?_ | refine w_cb ?_ | refine w_tup ?_ | refine w_lst ?_ | refine w_bm ?_ | refine w_bm0 ?_ | refine w_sl ?_ | refine w_noPart ?_ | refine w_part ?_ | refine w_exi ?_
    | refine w_add ?_ | refine w_sub ?_ | refine w_neg ?_ | refine w_eqI ?_ | refine w_neI ?_ | refine w_eqB ?_ | refine w_neB ?_ | refine w_rI0 ?_
    | refine w_mod ?_ (by first | assumption | omega | decide) | refine w_fdiv ?_ (by first | assumption | omega) (by first | assumption | omega) | refine w_mulL ?_ (by omega) | refine w_mulR ?_ (by omega)
    | refine w_pow ?_ (by decide)
    | refine w_ifT ?_ | refine w_ifF ?_ | refine w_ifnT ?_ | refine w_ifnF ?_
    | refine w_int ?_ | refine w_abs ?_ | refine w_max2 ?_ | refine w_min2 ?_ | refine w_gCons ?_ | refine w_gNil ?_ | refine w_gSub ?_ | refine w_for ?_
    | refine w_fld ?_ | refine w_sFld ?_ | refine w_meth ?_ | refine w_methK ?_ | refine w_isN0 ?_ | refine w_isN1 ?_ | refine w_isN2 ?_ | refine w_noN0 ?_ | refine w_noN1 ?_ | refine w_noN2 ?_ | refine w_makeK ?_ | refine w_make ?_ | refine w_callO ?_ | refine w_lc ?_ | refine w_yes ?_ | refine w_iEnumS ?_ | refine w_iSeq ?_ | refine w_iRng1 ?_ | refine w_iRng2 ?_ | refine w_prop ?_ | refine w_listVals ?_ | refine w_disp ?_ | refine w_dnewK ?_ | refine w_dput ?_ | refine w_dget ?_ | refine w_din ?_ | refine w_dnin ?_ | refine w_get ?_ | refine w_makeD ?_ | refine w_pairs ?_ | refine w_pairs0 ?_ | refine w_sc ?_ | refine w_iVals ?_ | refine w_lstRg1 ?_ | refine w_lstRg2 ?_ | refine w_clsName ?_ | refine w_cutG ?_ | refine w_cutT ?_ | refine w_calK ?_ | refine w_lenSet ?_ | refine w_brk ?_ | refine w_cont ?_ | refine w_raiseJ ?_ | refine w_calX ?_ | refine w_calKX ?_ | refine w_methX ?_ | refine w_methKX ?_ | refine w_makeX ?_ | refine w_makeKX ?_ | refine w_callOX ?_ | refine w_tryA ?_ | refine w_xf ?_ | refine w_eqOwn ?_ | refine w_neOwn ?_ | refine w_zipM ?_ | refine w_lenOwn ?_ | refine w_makeN ?_ | refine w_makeN0 ?_ | refine w_getX ?_ | refine w_calD ?_ | refine w_srtSet ?_ | refine w_dc ?_ | refine w_dcX ?_ | refine w_cmeth ?_ | refine w_cmethP ?_ | refine w_iZip ?_ | refine w_makeV ?_ | refine w_makeVX ?_ | refine w_iKeys ?_ | refine w_dget1 ?_ | refine w_ownI ?_ | refine w_setO ?_ | refine w_gSetX ?_ | refine w_calDX ?_)
local macro_rules | `(tactic| walk_at "ws") => `(tactic| repeat walk_at "w")
section
variable {P : Program} {w : World} {K : PySem.W.Frag} {mg : Str → Option Value} {base : Heap}
def sp__rows_downhill (K : PySem.W.Frag) : Sp := fun vs H Q _ => ∃ (p : Addr) (N : Int) (ws : List Int), vs = [.int N, .ref p] ∧ Sq H p (ws.map V.int) ∧ (ws.length : Int) = N ∧ N ≤ 360 ∧ Hills N (wAt N ws) ∧ ∀ H' q xs rs, Same H H' → H' q = some (.lst xs) → PairsAt H' xs rs → DownR N (wAt N ws) rs → Q (.ref q) H'
theorem c2__rows_downhill (T : Env P K mg) : Cal2 P w K mg base 1 "_rows_downhill" s__rows_downhill p__rows_downhill (sp__rows_downhill K) := by
  refine cal2_mk (k := 0) T.s__rows_downhill T.g__rows_downhill sc__rows_downhill (fun _ _ _ _ _ _ us hl => match us, hl with | [_, _], _ => rfl) (fun vs H Q E h => ?_) (fun cdv A outer s H vs Q E hr h => ?_)
  · obtain ⟨_, _, _, rfl, _⟩ := h; rfl
  · obtain ⟨p, N, ws, rfl, hp, lw, n360, hl, k⟩ := h
    have hu := Nat.lt_of_le_of_lt (Nat.add_le_add_left (show 1 ≤ 64 by decide) _) hr.units
    refine ⟨_, (pss_cons (ps_set (i := 2) sc__rows_downhill.nd rfl (Or.inl rfl) (pj_lst pa_nil))
    (pss_cons (ps_set (i := 3) sc__rows_downhill.nd rfl (Or.inr rfl) (pj_lst pa_nil))
    (pss_cons (ps_for PassesOwn.never (by rfl) (pi_range1 (by rfl) T.b_range (pa_cons (pv 0) pa_nil)) (pg_name (i := 4) sc__rows_downhill.nd rfl (Or.inl rfl)) (pss_cons (ps_set (i := 5) sc__rows_downhill.nd rfl (Or.inl rfl) (pe_cmpR op_lt (pe_ix ix_seq (pv 1) (pe_op op_sub (pv 4) pe_int) (fun _ _ => rfl)) (pe_ix ix_seq (pv 1) (pv 4) (fun _ _ => rfl)) (nomark _)))
    (pss_cons (ps_set (i := 6) sc__rows_downhill.nd rfl (Or.inl rfl) (pe_cmpR op_gt (pe_ix ix_seq (pv 1) (pv 4) (fun _ _ => rfl)) (pe_ix ix_seq (pv 1) (pe_op op_mod (pe_op op_add (pv 4) pe_int) (pv 0)) (fun _ _ => rfl)) (nomark _)))
    (pss_cons (ps_if (PW.pt (pw_and (pt_val (pv 5)) (pw_and1 (pt_val (pv 6))))) (pss_one (ps_expr (pe_bm PySem.F.plainAttrs_list PySem.F.slot_list_append PySem.F.type_list_append mt_append (pv 2) (pa_cons (pv 4) pa_nil)))) pss_nil)
    (pss_one (ps_if (PW.pt (pw_and (pt_not (pt_val (pv 5))) (pw_and1 (pt_not (pt_val (pv 6)))))) (pss_one (ps_expr (pe_bm PySem.F.plainAttrs_list PySem.F.slot_list_append PySem.F.type_list_append mt_append (pv 3) (pa_cons (pv 4) pa_nil)))) pss_nil))))))
    (pss_cons (ps_setLc (i := 7) (own := [("top", 8)]) (g := (gName 8)) (tt := tYes) (te := (tOp rAddI (tCB (rMin K) (tCons (tLc (iSeq K (tVar 3)) (gName 10) tYes (tOp rModI (tOp rSubI (tVar 10) (tVar 8)) (tVar 0)) [10]) tNil)) (tVar 8))) (by rfl) sc__rows_downhill.nd rfl rfl (sw_true rfl rfl rfl (by decide +kernel)) (pi_seq (pv 2)) (blkOk_by (own := [("top", 8)]) (N := N__rows_downhill) (sc := defScope s__rows_downhill) (by decide +kernel)) (fun _ _ _ _ _ => (pg_name (i := 8) sc__rows_downhill.nd rfl (by first | exact Or.inl rfl | exact Or.inr rfl))) (fun _ _ _ _ _ => pts_nil) (fun _ _ _ _ _ => (pe_op op_add (pe_callB (cr_min (by rfl)) (by rfl) T.b_min (by decide +kernel) (pa_cons (pe_lc (own := [("valley", 10)]) (g := (gName 10)) (tt := tYes) (te := (tOp rModI (tOp rSubI (tVar 10) (tVar 8)) (tVar 0))) (by rfl) sc__rows_downhill.nd (pi_seq (pv 3)) (blk2_by (own := [("valley", 10)]) (N := N__rows_downhill) (sc := defScope s__rows_downhill) (by decide +kernel) (by rfl)) (fun _ _ _ _ _ => (pg_name (i := 10) sc__rows_downhill.nd rfl (Or.inl rfl))) (fun _ _ _ _ _ => pts_nil) (fun _ _ _ _ _ => (pe_op op_mod (pe_op op_sub (pv 10) (pv 8)) (pv 0)))) pa_nil)) (pv 8))))
    (pss_one (ps_ret (pe_lc (own := [("top", 8), ("rest", 9)]) (g := (gTup K 2 (gCons (gName 8) (gCons (gName 9) gNil)))) (tt := tYes) (te := (jTup (tCons (tVar 8) (tCons (tOp rModI (tVar 9) (tVar 0)) tNil)))) (by rfl) sc__rows_downhill.nd (pi_zip (by rfl) T.b_zip (pa_cons (pv 2) (pa_cons (pv 7) pa_nil))) (blkOk_by (own := [("top", 8), ("rest", 9)]) (N := N__rows_downhill) (sc := defScope s__rows_downhill) (by decide +kernel)) (fun _ _ _ _ _ => (pg_tup (by rfl) (pgs_cons (pg_name (i := 8) sc__rows_downhill.nd rfl (by first | exact Or.inl rfl | exact Or.inr rfl)) (pgs_cons (pg_name (i := 9) sc__rows_downhill.nd rfl (Or.inl rfl)) pgs_nil)))) (fun _ _ _ _ _ => pts_nil) (fun _ _ _ _ _ => (pj_tup (pa_cons (pv 8) (pa_cons (pe_op op_mod (pv 9) (pv 0)) pa_nil))))))))))), ?_⟩
    dsimp only [cxOf, Cx.nox]
    walk_at "ws"
    have n0 : 0 < N := by have := hl.n2; omega
    refine ⟨leb rfl, fun t Ht nt st ht => ?_⟩
    walk_at "ws"
    refine ⟨leb rfl, fun v Hv nv sv hv => ?_⟩
    have sHv := st.trans sv
    have nt' : H t = none := nt
    have nv' : H v = none := by
      cases e : H v with
      | none => rfl
      | some o => rw [st _ _ e] at nv; cases nv
    have ntv : t ≠ v := fun z => by rw [z, nv] at ht; cases ht
    walk_at "ws"
    refine forR1 (by omega) (fun i σ H' => Same H H' ∧ H' t = some (.lst ((topsT (wAt N ws) i).map V.int)) ∧ H' v = some (.lst ((valsT (wAt N ws) i).map V.int)) ∧ ∃ o4 o5 o6, σ = [some (.int N), some (.ref p), some (.ref t), some (.ref v), o4, o5, o6, none, none, none, none]) ⟨sHv, sv _ _ ht, hv, _, _, _, rfl⟩ ?_ ?_
    · rintro i σ H' hi ⟨s, h1, h2, o4, o5, o6, rfl⟩
      have hp' := hp.same s
      have li1 : (topsT (wAt N ws) i).length ≤ i := by
        unfold topsT
        refine Nat.le_trans (List.length_filter_le _ _) ?_
        simp
      have li2 : (valsT (wAt N ws) i).length ≤ i := by
        unfold valsT
        refine Nat.le_trans (List.length_filter_le _ _) ?_
        simp
      walk_at "ws"
      refine ix_sq (v := .int (wAt N ws ((i : Int) - 1))) hp' (at_w n0 lw (by omega) (by omega)) ?_
      walk_at "ws"
      refine ix_sq (v := .int (wAt N ws i)) hp' (at_w n0 lw (by omega) (by omega)) ?_
      walk_at "ws"
      refine ix_sq (v := .int (wAt N ws i)) hp' (at_w n0 lw (by omega) (by omega)) ?_
      walk_at "ws"
      have m0 := Int.emod_nonneg ((i : Int) + 1) (show N ≠ 0 by omega)
      have m1 := Int.emod_lt_of_pos ((i : Int) + 1) n0
      refine ix_sq (v := .int (wAt N ws ((i : Int) + 1))) hp' (by rw [at_w n0 lw (by omega) m1, wAt_mod]) ?_
      walk_at "ws"
      have eN : ((i + 1 : Nat) : Int) = (i : Int) + 1 := by omega
      have nei := hl.ne ((i : Int) - 1)
      rw [show (i : Int) - 1 + 1 = i by omega] at nei
      have nej := hl.ne (i : Int)
      by_cases r : wAt N ws ((i : Int) - 1) < wAt N ws i
      · rw [decide_eq_true r]
        have nv2 : ¬ ValP (wAt N ws) i := fun z => by have := z.1; omega
        by_cases f : wAt N ws ((i : Int) + 1) < wAt N ws i
        · rw [decide_eq_true f]
          have yt : TopP (wAt N ws) i := ⟨r, f⟩
          walk_at "ws"
          refine ⟨.inl ⟨rfl, _, sqL h1⟩, ?_⟩
          walk_at "ws"
          refine w_append ?_ h1 (szlt (by rw [List.length_map]; omega))
          walk_at "ws"
          refine ⟨same_mut s nt', ?_, ?_, _, _, _, rfl⟩
          · rw [upd_same, topsT_succ, if_pos yt, List.map_append]
            rfl
          · rw [upd_ne (Ne.symm ntv), valsT_succ, if_neg nv2, List.append_nil]
            exact h2
        · rw [decide_eq_false f]
          have nt2 : ¬ TopP (wAt N ws) i := fun z => f z.2
          walk_at "ws"
          refine ⟨s, ?_, ?_, _, _, _, rfl⟩
          · rw [topsT_succ, if_neg nt2, List.append_nil]
            exact h1
          · rw [valsT_succ, if_neg nv2, List.append_nil]
            exact h2
      · rw [decide_eq_false r]
        have nt2 : ¬ TopP (wAt N ws) i := fun z => r z.1
        by_cases f : wAt N ws ((i : Int) + 1) < wAt N ws i
        · rw [decide_eq_true f]
          have nv2 : ¬ ValP (wAt N ws) i := fun z => by have := z.2; omega
          walk_at "ws"
          refine ⟨s, ?_, ?_, _, _, _, rfl⟩
          · rw [topsT_succ, if_neg nt2, List.append_nil]
            exact h1
          · rw [valsT_succ, if_neg nv2, List.append_nil]
            exact h2
        · rw [decide_eq_false f]
          have yv : ValP (wAt N ws) i := ⟨by omega, by omega⟩
          walk_at "ws"
          refine ⟨.inl ⟨rfl, _, sqL h2⟩, ?_⟩
          walk_at "ws"
          refine w_append ?_ h2 (szlt (by rw [List.length_map]; omega))
          refine ⟨same_mut s nv', ?_, ?_, _, _, _, rfl⟩
          · rw [upd_ne ntv, topsT_succ, if_neg nt2, List.append_nil]
            exact h1
          · rw [upd_same, valsT_succ, if_pos yv, List.map_append]
            rfl
    · rintro σ H1 ⟨s1, h1, h2, o4, o5, o6, rfl⟩
      have cnt := hl.count
      have some_ := hl.some_top
      have tl : (topsT (wAt N ws) N.toNat).length ≤ N.toNat := by
        unfold topsT
        refine Nat.le_trans (List.length_filter_le _ _) ?_
        simp
      have memT : ∀ z, z ∈ topsT (wAt N ws) N.toNat → 0 ≤ z ∧ z < N ∧ TopP (wAt N ws) z := fun z hz => by
        obtain ⟨a, b, c⟩ := mem_topsT.mp hz
        exact ⟨a, by omega, c⟩
      generalize eT : topsT (wAt N ws) N.toNat = TT at *
      walk_at "ws"
      refine lcS (sqa_l h1) (fun i acc H' => ∃ ms : List Int, acc = ms.map V.int ∧ ms.length = i ∧ ∀ (j : Nat) (z tt : Int), ms[j]? = some z → TT[j]? = some tt → ∃ m : Int, z = m + tt ∧ 0 ≤ m ∧ m < N ∧ ValP (wAt N ws) (tt + m) ∧ ∀ k, 0 ≤ k → k < m → ¬ ValP (wAt N ws) (tt + k)) (fun _ _ => ⟨[], rfl, rfl, fun j z tt e => by simp at e⟩) (fun Dl i x acc H' hD hx s hl' pv => ?_) (fun Dl acc H' hD s hl' pv => ?_)
      · obtain ⟨ms, rfl, lm, pm⟩ := pv
        rw [List.getElem?_map] at hx
        obtain ⟨tt, ht', rfl⟩ := Option.map_eq_some_iff.mp hx
        have li := (List.getElem?_eq_some_iff.mp ht').1
        obtain ⟨tt0, tt1, _⟩ := memT tt (List.mem_of_getElem? ht')
        walk_at "ws"
        refine ⟨rfl, ?_⟩
        walk_at "ws"
        refine lcS (sqa_l (s _ _ h2)) (fun k acc H'' => acc = ((valsT (wAt N ws) N.toNat).take k).map fun v => V.int ((v - tt) % N)) (fun _ _ => rfl) (fun D2 k x acc H'' hD2 hx2 s2 hl2 pv2 => ?_) (fun D2 acc H'' hD2 s2 hl2 pv2 => ?_)
        · rw [List.getElem?_map] at hx2
          obtain ⟨vv, hv', rfl⟩ := Option.map_eq_some_iff.mp hx2
          have lk := (List.getElem?_eq_some_iff.mp hv').1
          walk_at "ws"
          refine ⟨rfl, ?_⟩
          walk_at "ws"
          have vl : (valsT (wAt N ws) N.toNat).length ≤ 360 := by omega
          refine lc_step hD2 s2 hl2 (by rw [pv2, List.length_map, List.length_take]; omega) ?_
          show _ = _
          rw [pv2, List.take_add_one, hv', List.map_append]
          rfl
        · rw [List.length_map, List.take_length] at pv2
          refine ⟨D2, (valsT (wAt N ws) N.toNat).map fun v => (v - tt) % N, rfl, sqL (by rw [hl2, pv2, List.map_map]; rfl), by rw [List.length_map]; omega, fun m hm hmin => ?_⟩
          walk_at "ws"
          obtain ⟨vv, hv, em⟩ := List.mem_map.mp hm
          have mv := mem_valsT.mp hv
          have m0 := Int.emod_nonneg (vv - tt) (show N ≠ 0 by omega)
          have m1 := Int.emod_lt_of_pos (vv - tt) n0
          rw [em] at m0 m1
          refine lc_step hD (s.trans s2) (s2 _ _ hl') (by rw [List.length_map]; omega) ⟨ms ++ [m + tt], by simp, by simp [lm], fun j z t2 hz ht2 => ?_⟩
          by_cases hj : j < ms.length
          · rw [List.getElem?_append_left hj] at hz
            exact pm j z t2 hz ht2
          · have lj := (List.getElem?_eq_some_iff.mp hz).1
            rw [List.length_append, List.length_singleton] at lj
            have ej : j = i := by omega
            subst ej
            rw [List.getElem?_append_right (by omega), show j - ms.length = 0 by omega] at hz
            rw [ht'] at ht2
            cases ht2
            refine ⟨m, by simpa using hz.symm, m0, m1, ?_, fun k k0 k1 g => ?_⟩
            · refine hl.valM.mp ?_
              rw [← em, Int.add_emod_emod, show tt + (vv - tt) = vv by omega]
              exact hl.valM.mpr mv.2.2
            · have g' := hl.valM.mpr g
              have q0 := Int.emod_nonneg (tt + k) (show N ≠ 0 by omega)
              have q1 := Int.emod_lt_of_pos (tt + k) n0
              have e : ((tt + k) % N - tt) % N = k := by rw [Int.emod_sub_emod, show tt + k - tt = k by omega, Int.emod_eq_of_lt k0 (by omega)]
              have := hmin k (List.mem_map.mpr ⟨(tt + k) % N, mem_valsT.mpr ⟨q0, by omega, g'⟩, e⟩)
              omega
      · obtain ⟨ms, rfl, lm, pm⟩ := pv
        rw [List.length_map] at lm
        walk_at "ws"
        have lz : (List.zip TT ms).length = TT.length := by rw [List.length_zip]; omega
        refine lcZ (sqL (s _ _ h1)) (sqL hl') (by rw [List.length_map, List.length_map]; omega) (fun i acc H'' => PairsAt H'' acc (((List.zip TT ms).map fun q => (q.1, q.2 % N)).take i)) (fun _ _ => .nil) (fun D3 i x y T0 acc H'' hD3 hx hy s3 hl3 pv3 nT => ?_) (fun D3 acc H'' hD3 s3 hl3 pv3 => ?_)
        · rw [List.getElem?_map] at hx hy
          obtain ⟨tt, ht', rfl⟩ := Option.map_eq_some_iff.mp hx
          obtain ⟨z, hz, rfl⟩ := Option.map_eq_some_iff.mp hy
          have li := (List.getElem?_eq_some_iff.mp ht').1
          refine w_gTup ?_ (sqT upd_same) rfl
          walk_at "ws"
          refine ⟨rfl, ?_⟩
          walk_at "ws"
          refine ⟨leb rfl, fun p1 H4 n4 s4 h4 => ?_⟩
          have la := pv3.length
          have nDT : D3 ≠ T0 := fun z => by rw [z, nT] at hl3; cases hl3
          have hl4 := s4 _ _ (show upd H'' T0 (.tup [.int tt, .int z]) D3 = _ by rw [upd_ne nDT]; exact hl3)
          refine lc_step hD3 ((s3.trans (same_new nT)).trans s4) hl4 (by rw [la, List.length_take]; omega) ?_
          show PairsAt _ _ _
          rw [List.take_succ, List.getElem?_map, show (List.zip TT ms)[i]? = some (tt, z) from List.getElem?_zip_eq_some.mpr ⟨ht', hz⟩]
          refine paired_append (updL_pairs hl4 ((pv3.same (same_new nT)).same s4)) (.cons ⟨p1, rfl, ?_⟩ .nil)
          rw [upd_ne (ne_of h4 hl4 (by intro z; cases z)), h4]
        · rw [List.length_map, List.take_of_length_le (by rw [List.length_map]; omega)] at pv3
          refine k H'' D3 acc _ (s1.trans (s.trans s3)) hl3 pv3 ⟨?_, fun t r hm => ?_⟩
          · rw [List.map_map, eT]
            have e : (Prod.fst ∘ fun q : Int × Int => (q.1, q.2 % N)) = Prod.fst := rfl
            rw [e, List.map_fst_zip (by omega)]
          · obtain ⟨⟨t', z⟩, hz, e⟩ := List.mem_map.mp hm
            cases e
            obtain ⟨j, hj⟩ := List.getElem?_of_mem hz
            obtain ⟨g1, g2⟩ := List.getElem?_zip_eq_some.mp hj
            obtain ⟨m, e, m0, m1, v1, v2⟩ := pm j z _ g2 g1
            exact ⟨m, m0, m1, by rw [e], v1, v2⟩
theorem c__rows_downhill (T : Env P K mg) : Cal P w K mg base 1 "_rows_downhill" p__rows_downhill (sp__rows_downhill K) := (c2__rows_downhill T).cal
end
end Qk38
namespace Qk38
open PySem PySem.Spec PyProof.Rows L2 J
-- steps
local macro_rules | `(tactic| walk_at "lk") => `(tactic| first
  | assumption
  | exact upd_same
  | (refine (‹Same _ _› : Same _ _) _ _ ?_; assumption)
  | (refine Same.get1 (by assumption) ?_; walk_at "lk"))
local macro_rules | `(tactic| walk_at "w") => `(tactic| first
  | ((with_reducible refine' w_var ?hh ?_); (case hh => rfl))
  | with_reducible first
    | refine w_c ?_ | refine w_op ?_ | refine w_un ?_ | refine w_seq ?_ | refine w_asg ?_ | refine w_ret ?_ | refine w_retN ?_ | refine w_drop ?_ | refine w_ifS ?_ | refine w_next ?_ | refine w_name ?_
    | refine w_tst ?_ | refine w_tB ?_ | refine w_exb ?_ | refine w_and ?_ | refine w_or ?_ | refine w_not ?_ | refine w_andV ?_ | refine w_orV ?_ | refine w_notV ?_ | refine w_exc ?_ | refine w_ifE ?_ | refine w_chain ?_
    | refine w_nil ?_ | refine w_cons ?_ | refine w_call ?_ | refine w_cb ?_ | refine w_tup ?_ | refine w_lst ?_ | refine w_bm ?_ | refine w_bm0 ?_ | refine w_sl ?_ | refine w_noPart ?_ | refine w_part ?_ | refine w_exi ?_
    | refine w_add ?_ | refine w_sub ?_ | refine w_neg ?_ | refine w_eqI ?_ | refine w_neI ?_ | refine w_eqB ?_ | refine w_neB ?_ | refine w_rI0 ?_
    | refine w_mod ?_ (by first | assumption | omega | decide) | refine w_fdiv ?_ (by first | assumption | omega) (by first | assumption | omega) | refine w_mulL ?_ (by omega) | refine w_mulR ?_ (by omega)
    | refine w_pow ?_ (by decide)
    | refine w_ifT ?_ | refine w_ifF ?_ | refine w_ifnT ?_ | refine w_ifnF ?_
    | refine w_int ?_ | refine w_abs ?_ | refine w_max2 ?_ | refine w_min2 ?_ | refine w_gCons ?_ | refine w_gNil ?_ | refine w_gSub ?_ | refine w_for ?_
    | refine w_fld ?_ | refine w_sFld ?_ | refine w_meth ?_ | refine w_methK ?_ | refine w_isN0 ?_ | refine w_isN1 ?_ | refine w_isN2 ?_ | refine w_noN0 ?_ | refine w_noN1 ?_ | refine w_noN2 ?_ | refine w_makeK ?_ | refine w_make ?_ | refine w_callO ?_ | refine w_lc ?_ | refine w_yes ?_ | refine w_iEnumS ?_ | refine w_iSeq ?_ | refine w_iRng1 ?_ | refine w_iRng2 ?_ | refine w_prop ?_ | refine w_listVals ?_ | refine w_disp ?_ | refine w_dnewK ?_ | refine w_dput ?_ | refine w_dget ?_ | refine w_din ?_ | refine w_dnin ?_ | refine w_get ?_ | refine w_makeD ?_ | refine w_pairs ?_ | refine w_pairs0 ?_ | refine w_sc ?_ | refine w_iVals ?_ | refine w_lstRg1 ?_ | refine w_lstRg2 ?_ | refine w_clsName ?_ | refine w_cutG ?_ | refine w_cutT ?_ | refine w_calK ?_ | refine w_lenSet ?_ | refine w_brk ?_ | refine w_cont ?_ | refine w_raiseJ ?_ | refine w_calX ?_ | refine w_calKX ?_ | refine w_methX ?_ | refine w_methKX ?_ | refine w_makeX ?_ | refine w_makeKX ?_ | refine w_callOX ?_ | refine w_tryA ?_ | refine w_xf ?_ | refine w_eqOwn ?_ | refine w_neOwn ?_ | refine w_zipM ?_ | refine w_lenOwn ?_ | refine w_makeN ?_ | refine w_makeN0 ?_ | refine w_getX ?_ | refine w_calD ?_ | refine w_srtSet ?_ | refine w_dc ?_ | refine w_dcX ?_ | refine w_cmeth ?_ | refine w_cmethP ?_ | refine w_iZip ?_ | refine w_makeV ?_ | refine w_makeVX ?_ | refine w_iKeys ?_ | refine w_dget1 ?_ | refine w_ownI ?_ | refine w_setO ?_ | refine w_gSetX ?_ | refine w_calDX ?_)
local macro_rules | `(tactic| walk_at "ws") => `(tactic| repeat walk_at "w")
section
variable {P : Program} {w : World} {K : PySem.W.Frag} {mg : Str → Option Value} {base : Heap}
def sp_Turning_of_widths (K : PySem.W.Frag) : Sp := fun vs H Q _ => ∃ (p : Addr) (ws : List Int), vs = [.ref (CT K), .ref p] ∧ Sq H p (ws.map V.int) ∧ 2 ≤ (ws.length : Int) ∧ (ws.length : Int) ≤ 360 ∧ (∀ w ∈ ws, 0 ≤ w ∧ w ≤ topW) ∧ Hills ws.length (wAt ws.length ws) ∧ (topsT (wAt ws.length ws) (ws.length : Int).toNat).length ≤ 12 ∧
  ∀ H' x rs, Same H H' → TurnAt (CT K) H' x ws.length rs → DownR ws.length (wAt ws.length ws) rs → Q (.ref x) H'
theorem c_Turning_of_widths (T : Env P K mg) : CalC P w K mg base 7 (He.ga K "Turning") "of_widths" "Turning.of_widths" s_Turning_of_widths p_Turning_of_widths (sp_Turning_of_widths K) := by
  refine calc_mk (k := 6) T.s_Turning_of_widths T.m_Turning_of_widths sc_Turning_of_widths (fun _ _ _ _ _ _ us hl => match us, hl with | [_, _], _ => rfl) (fun vs H Q E h => ?_) (fun cdv A outer s H vs Q E hr h => ?_)
  · obtain ⟨_, _, rfl, _⟩ := h; rfl
  · obtain ⟨p, ws, rfl, hp, l2, l360, bd, hl, m, kg⟩ := h
    refine ⟨_, (pss_cons (ps_if (pt_not (pt_val (pe_cal (c_is_row T) (hr.mono (by decide)) (pa_cons (pv 1) pa_nil)))) (pss_one ps_never) pss_nil)
    (pss_cons (ps_set (i := 2) sc_Turning_of_widths.nd rfl (Or.inl rfl) (pe_callB jc_len (by rfl) T.b_len (by decide +kernel) (pa_cons (pv 1) pa_nil)))
    (pss_cons (ps_expr (pe_cal (c_check_round T) (hr.mono (by decide)) (pa_cons (pv 2) pa_nil)))
    (pss_cons (ps_expr (pe_cal (c_check_widths T) (hr.mono (by decide)) (pa_cons (pv 1) pa_nil)))
    (pss_cons (ps_for PassesOwn.never (by rfl) (pi_range1 (by rfl) T.b_range (pa_cons (pv 2) pa_nil)) (pg_name (i := 3) sc_Turning_of_widths.nd rfl (Or.inl rfl)) (pss_one (ps_if (pt_cmpR op_eq (pe_ix ix_seq (pv 1) (pv 3) (fun _ _ => rfl)) (pe_ix ix_seq (pv 1) (pe_op op_mod (pe_op op_add (pv 3) pe_int) (pv 2)) (fun _ _ => rfl)) (nomark _)) (pss_one ps_never) pss_nil)))
    (pss_one (ps_ret (pe_calV (pv 0) (c_TurningD_initD T) (hr.mono (by decide)) (pa_cons (pv 2) (pa_cons (pe_cal (c__rows_downhill T) (hr.mono (by decide)) (pa_cons (pv 2) (pa_cons (pv 1) pa_nil))) pa_nil)))))))))), ?_⟩
    dsimp only [cxOf, Cx.nox]
    walk_at "ws"
    refine ⟨_, true, rfl, hp.rw, fun H1 s1 => ?_⟩
    walk_at "ws"
    refine len_sq (hp.same s1) ?_
    walk_at "ws"
    rw [List.length_map]
    refine ⟨_, rfl, l2, l360, ?_⟩
    walk_at "ws"
    refine ⟨_, _, rfl, hp.same s1, bd, fun H2 s2 => ?_⟩
    walk_at "ws"
    have n0 : 0 < (ws.length : Int) := by omega
    have s12 := s1.trans s2
    refine forR1 (by omega) (fun i σ H' => Same H H' ∧ ∃ o3, σ = [some (.ref (CT K)), some (.ref p), some (.int ws.length), o3]) ⟨s12, _, rfl⟩ ?_ ?_
    · rintro i σ H' hi ⟨s, o3, rfl⟩
      have hp' := hp.same s
      have m0 := Int.emod_nonneg ((i : Int) + 1) (show (ws.length : Int) ≠ 0 by omega)
      have m1 := Int.emod_lt_of_pos ((i : Int) + 1) n0
      walk_at "ws"
      refine ix_sq (v := .int (wAt ws.length ws i)) hp' (at_w n0 rfl (by omega) (by omega)) ?_
      walk_at "ws"
      refine ix_sq (v := .int (wAt ws.length ws ((i : Int) + 1))) hp' (by rw [at_w n0 rfl (by omega) m1, wAt_mod]) ?_
      walk_at "ws"
      refine w_ifd (fun h => absurd h (hl.ne i)) (fun _ => ?_)
      refine w_next ?_
      exact ⟨s, _, rfl⟩
    · rintro σ H3 ⟨s3, o3, rfl⟩
      walk_at "ws"
      refine ⟨rfl, ?_⟩
      walk_at "ws"
      refine ⟨p, ws.length, ws, rfl, hp.same s3, rfl, l360, hl, fun H4 q xs rs s4 hq hx dr => ?_⟩
      walk_at "ws"
      have len : rs.length = (topsT (wAt ws.length ws) (ws.length : Int).toNat).length := by rw [← dr.fst, List.length_map]
      intro x dx nx nd ne
      have R := dr.rows hl l360 (by rw [len]; exact m)
      refine make_Turning (N := ws.length) (p := q) nx nd (.inl hq) hx R fun H5 s5 tA => ⟨rfl, ?_⟩
      exact kg H5 x rs (s3.trans (s4.trans s5)) tA dr
def sp_L_state0 (K : PySem.W.Frag) : Sp := fun vs H Q _ => ∃ (a : Addr) (ns : List Int), vs = [.ref a] ∧ SqL K H a (ns.map V.int) ∧ ∀ S L H', Same H H' → H S = none → H' L = some (.lst (ns.map V.int)) → H' S = some (.lst [.ref L, .int 0, .int 0, .int 0, .int 0, .int 0]) → Q (.ref S) H'
theorem c2_L_state0 (T : Env P K mg) : Cal2 P w K mg base 1 "_law_state" s_L_state p_L_state (sp_L_state0 K) := by
  refine cal2_mk (k := 0) T.s_L_state T.g_L_state sc_L_state (fun _ _ _ _ _ _ us hl => match us, hl with | [_], _ => rfl) (fun vs H Q E h => ?_) (fun cdv A outer s H vs Q E hr h => ?_)
  · obtain ⟨_, _, rfl, _⟩ := h; rfl
  · obtain ⟨a, ns, rfl, ha, k⟩ := h
    refine ⟨_, (pss_one (ps_ret (pj_lst (pa_cons (pe_callTy jc_list (by rfl) T.b_list (by decide +kernel) (pa_cons (pv 0) pa_nil)) (pa_cons pe_int (pa_cons pe_int (pa_cons pe_int (pa_cons pe_int (pa_cons pe_int pa_nil))))))))), ?_⟩
    dsimp only [cxOf, Cx.nox]
    walk_at "ws"
    refine w_listOf (.inl ha) fun L H1 n1 s1 h1 => ?_
    walk_at "ws"
    refine ⟨leb rfl, fun S H2 n2 s2 h2 => ?_⟩
    exact k S L H2 (s1.trans s2) (s1.free n2) (s2 _ _ h1) h2
theorem c_L_state0 (T : Env P K mg) : Cal P w K mg base 1 "_law_state" p_L_state (sp_L_state0 K) := (c2_L_state0 T).cal
def sp_L_state (K : PySem.W.Frag) : Sp := fun vs H Q _ => ∃ (a : Addr) (ns : List Int), vs = [.ref a] ∧ SqL K H a (ns.map V.int) ∧ ∀ S H', Same H H' → H S = none → LawSt H' S → Q (.ref S) H'
theorem c_L_state (T : Env P K mg) : Cal P w K mg base 1 "_law_state" p_L_state (sp_L_state K) := by
  refine (c_L_state0 T).hideRet (fun vs H Q E h => ?_) (fun vs H Q E h => by obtain ⟨_, _, rfl, _⟩ := h; rfl)
  obtain ⟨a, ns, rfl, ha, k⟩ := h
  refine ⟨a, ns, rfl, ha, fun S L H' s nS hL hS => ⟨S, StR L, _, hS, ⟨0, 0, 0, 0, 0, Int.le_refl 0, rfl⟩, ?_⟩⟩
  have nLS : L ≠ S := fun e => by
    rw [e, hS] at hL
    have := Option.some.inj hL
    injection this with this
    cases ns with
    | nil => simp at this
    | cons x y => simp at this
  exact k S _ (same_mut s nS) nS ⟨L, ns, upd_same, by rw [upd_ne nLS]; exact hL⟩
def sp_L_draw0 (K : PySem.W.Frag) : Sp := fun vs H Q _ => ∃ (S L : Addr) (ns : List Int) (xs : List V) (m : Int), vs = [.ref S, .int m] ∧ H S = some (.lst xs) ∧ StR L xs ∧ H L = some (.lst (ns.map V.int)) ∧ L ≠ S ∧ 0 < m ∧ m < 2 ^ 80 ∧ ∀ r xs', 0 ≤ r → r < m → StR L xs' → Q (.int r) (upd H S (.lst xs'))
theorem c2_L_draw0 (T : Env P K mg) : Cal2 P w K mg base 1 "_law_draw" s_L_draw p_L_draw (sp_L_draw0 K) := by
  refine cal2_mk (k := 0) T.s_L_draw T.g_L_draw sc_L_draw (fun _ _ _ _ _ _ us hl => match us, hl with | [_, _], _ => rfl) (fun vs H Q E h => ?_) (fun cdv A outer s H vs Q E hr h => ?_)
  · obtain ⟨_, _, _, _, _, rfl, _⟩ := h; rfl
  · obtain ⟨S, L, ns, xs, m, rfl, hS, ⟨i1, i2, i3, i4, i5, h1, rfl⟩, hL, nLS, m0, m1, k⟩ := h
    refine ⟨_, (pss_cons (ps_if (PW.pt (pw_and (pt_cmpR op_gt (pe_ix ix_list (pv 0) pe_int (fun _ _ => rfl)) pe_int (nomark _)) (pw_and1 (pt_cmpR op_lt (pe_ix ix_list (pv 0) pe_int (fun _ _ => rfl)) pe_int (nomark _))))) (pss_cons (ps_set (i := 2) sc_L_draw.nd rfl (Or.inl rfl) (pe_op op_mod (pe_callTy jc_int (by rfl) T.b_int (by decide +kernel) (pa_cons (pe_ix ix_list (pv 0) pe_int (fun _ _ => rfl)) pa_nil)) (pv 1)))
    (pss_cons (ps_asg (pe_op op_fdivW (pe_ix ix_list (pv 0) pe_int (fun _ _ => rfl)) (pv 1)) (pg_sub (pv 0) pe_int set_list))
    (pss_cons (ps_asg (pe_op op_add (pe_ix ix_list (pv 0) pe_int (fun _ _ => rfl)) pe_int) (pg_sub (pv 0) pe_int set_list))
    (pss_one (ps_ret (pv 2)))))) pss_nil)
    (pss_cons (ps_asg (pe_op op_add (pe_ix ix_list (pv 0) pe_int (fun _ _ => rfl)) pe_int) (pg_sub (pv 0) pe_int set_list))
    (pss_cons (ps_if (pt_cmpR op_lt (pe_ix ix_list (pv 0) pe_int (fun _ _ => rfl)) (pe_callB jc_len (by rfl) T.b_len (by decide +kernel) (pa_cons (pe_ix ix_list (pv 0) pe_int (fun _ _ => rfl)) pa_nil)) (nomark _)) (pss_cons (ps_set (i := 3) sc_L_draw.nd rfl (Or.inl rfl) (pe_ix ix_list (pe_ix ix_list (pv 0) pe_int (fun _ _ => rfl)) (pe_ix ix_list (pv 0) pe_int (fun _ _ => rfl)) (fun _ _ => rfl)))
    (pss_cons (ps_asg (pe_op op_add (pe_ix ix_list (pv 0) pe_int (fun _ _ => rfl)) pe_int) (pg_sub (pv 0) pe_int set_list))
    (pss_cons (ps_asg (pe_op op_mod (pe_op op_add (pe_op op_mul (pe_ix ix_list (pv 0) pe_int (fun _ _ => rfl)) pe_int) (pe_callTy jc_int (by rfl) T.b_int (by decide +kernel) (pa_cons (pv 3) pa_nil))) (pe_op op_pow pe_int pe_int)) (pg_sub (pv 0) pe_int set_list))
    (pss_one (ps_if (pt_cmpR op_ge (pv 3) (pe_op op_pow pe_int pe_int) (nomark _)) (pss_cons (ps_asg (pe_op op_fdivW (pv 3) (pv 1)) (pg_sub (pv 0) pe_int set_list))
    (pss_cons (ps_asg pe_int (pg_sub (pv 0) pe_int set_list))
    (pss_one (ps_ret (pe_op op_mod (pe_callTy jc_int (by rfl) T.b_int (by decide +kernel) (pa_cons (pv 3) pa_nil)) (pv 1)))))) pss_nil))))) pss_nil)
    (pss_cons (ps_set (i := 4) sc_L_draw.nd rfl (Or.inl rfl) (pe_op op_mod (pe_op op_mul (pe_op op_add (pe_op op_add (pe_op op_mul (pe_callTy jc_int (by rfl) T.b_int (by decide +kernel) (pa_cons (pe_ix ix_list (pv 0) pe_int (fun _ _ => rfl)) pa_nil)) pe_int) (pe_op op_mul pe_int (pe_ix ix_list (pv 0) pe_int (fun _ _ => rfl)))) pe_int) pe_int) pe_int))
    (pss_cons (ps_set (i := 4) sc_L_draw.nd rfl (Or.inl rfl) (pe_op op_mod (pe_op op_mul (pv 4) (pe_op op_add (pe_op op_fdivW (pv 4) pe_int) pe_int)) pe_int))
    (pss_cons (ps_set (i := 4) sc_L_draw.nd rfl (Or.inl rfl) (pe_op op_mod (pe_op op_mul (pv 4) (pe_op op_add (pe_op op_fdivW (pv 4) pe_int) pe_int)) pe_int))
    (pss_one (ps_ret (pe_op op_mod (pv 4) (pv 1)))))))))), ?_⟩
    dsimp only [cxOf, Cx.nox]
    have md : ∀ z : Int, 0 ≤ z % m ∧ z % m < m := fun z => ⟨Int.emod_nonneg z (by omega), Int.emod_lt_of_pos z m0⟩
    walk_at "ws"
    refine w_ixL (v := .int i2) ?_ (sqL hS) (atI_nat (j := 2) rfl)
    walk_at "ws"
    have big : ∀ n : Int, 0 ≤ n % 2147483399 ∧ n % 2147483399 < 2147483399 ∧ 0 ≤ n % 2147483647 ∧ n % 2147483647 < 2147483647 := fun n => by omega
    have tail : ∀ (j1 j2 j3 j4 j5 : Int) (σ2 σ3 σ4 : Option V), 0 ≤ j1 → (tSeq (tAsg (tOp rModI (tOp rMulI (tOp rAddI (tOp rAddI (tOp rMulI (tCB rInt1 (tCons (tOp (rIxL K) (tVar 0) (tC (.int 5))) tNil)) (tC (.int 1000003))) (tOp rMulI (tC (.int 7919)) (tOp (rIxL K) (tVar 0) (tC (.int 4))))) (tC (.int 1))) (tC (.int 48271))) (tC (.int 2147483647))) (gName 4)) (tSeq (tAsg (tOp rModI (tOp rMulI (tVar 4) (tOp rAddI (tOp rDivI (tVar 4) (tC (.int 1009))) (tC (.int 69621)))) (tC (.int 2147483647))) (gName 4)) (tSeq (tAsg (tOp rModI (tOp rMulI (tVar 4) (tOp rAddI (tOp rDivI (tVar 4) (tC (.int 2003))) (tC (.int 40692)))) (tC (.int 2147483399))) (gName 4)) (tRet (tOp rModI (tVar 4) (tVar 1)))))) { nx := fun x H' => Q V.non H', rt := Q } [some (.ref S), some (.int m), σ2, σ3, σ4] (upd H S (.lst [.ref L, .int j1, .int j2, .int j3, .int j4, .int j5])) := by
      intro j1 j2 j3 j4 j5 σ2 σ3 σ4 hj
      walk_at "ws"
      refine w_ixL (v := .int j5) ?_ (sqL upd_same) (atI_nat (j := 5) rfl)
      walk_at "ws"
      refine w_ixL (v := .int j4) ?_ (sqL upd_same) (atI_nat (j := 4) rfl)
      walk_at "ws"
      exact k _ _ (md _).1 (md _).2 ⟨j1, j2, j3, j4, j5, hj, rfl⟩
    have rest : ∀ (σ2 σ3 σ4 : Option V), (tSeq (tAsg (tOp rAddI (tOp (rIxL K) (tVar 0) (tC (.int 4))) (tC (.int 1))) (gSub (tVar 0) (tC (.int 4)) rSetL)) (tSeq (tIfS (tTest (tOp rLtI (tOp (rIxL K) (tVar 0) (tC (.int 1))) (tCB (rLenS K) (tCons (tOp (rIxL K) (tVar 0) (tC (.int 0))) tNil)))) (tSeq (tAsg (tOp (rIxL K) (tOp (rIxL K) (tVar 0) (tC (.int 0))) (tOp (rIxL K) (tVar 0) (tC (.int 1)))) (gName 3)) (tSeq (tAsg (tOp rAddI (tOp (rIxL K) (tVar 0) (tC (.int 1))) (tC (.int 1))) (gSub (tVar 0) (tC (.int 1)) rSetL)) (tSeq (tAsg (tOp rModI (tOp rAddI (tOp rMulI (tOp (rIxL K) (tVar 0) (tC (.int 5))) (tC (.int 31))) (tCB rInt1 (tCons (tVar 3) tNil))) (tOp rPowI (tC (.int 10)) (tC (.int 18)))) (gSub (tVar 0) (tC (.int 5)) rSetL)) (tIfS (tTest (tOp rGeI (tVar 3) (tOp rPowI (tC (.int 10)) (tC (.int 18))))) (tSeq (tAsg (tOp rDivI (tVar 3) (tVar 1)) (gSub (tVar 0) (tC (.int 2)) rSetL)) (tSeq (tAsg (tC (.int 1)) (gSub (tVar 0) (tC (.int 3)) rSetL)) (tRet (tOp rModI (tCB rInt1 (tCons (tVar 3) tNil)) (tVar 1))))) tNext)))) tNext) (tSeq (tAsg (tOp rModI (tOp rMulI (tOp rAddI (tOp rAddI (tOp rMulI (tCB rInt1 (tCons (tOp (rIxL K) (tVar 0) (tC (.int 5))) tNil)) (tC (.int 1000003))) (tOp rMulI (tC (.int 7919)) (tOp (rIxL K) (tVar 0) (tC (.int 4))))) (tC (.int 1))) (tC (.int 48271))) (tC (.int 2147483647))) (gName 4)) (tSeq (tAsg (tOp rModI (tOp rMulI (tVar 4) (tOp rAddI (tOp rDivI (tVar 4) (tC (.int 1009))) (tC (.int 69621)))) (tC (.int 2147483647))) (gName 4)) (tSeq (tAsg (tOp rModI (tOp rMulI (tVar 4) (tOp rAddI (tOp rDivI (tVar 4) (tC (.int 2003))) (tC (.int 40692)))) (tC (.int 2147483399))) (gName 4)) (tRet (tOp rModI (tVar 4) (tVar 1)))))))) { nx := fun x H' => Q V.non H', rt := Q } [some (.ref S), some (.int m), σ2, σ3, σ4] H := by
      intro σ2 σ3 σ4
      walk_at "ws"
      refine w_ixL (v := .int i4) ?_ (sqL hS) (atI_nat (j := 4) rfl)
      walk_at "ws"
      refine w_setL (n := 4) ?_ hS rfl
      walk_at "ws"
      refine w_ixL (v := .int i1) ?_ (sqL upd_same) (atI_nat (j := 1) rfl)
      walk_at "ws"
      refine w_ixL (v := .ref L) ?_ (sqL upd_same) (atI_nat (j := 0) rfl)
      walk_at "ws"
      refine w_lenL (ys := ns.map V.int) ?_ (sqL (by rw [upd_ne nLS]; exact hL))
      walk_at "ws"
      refine w_ifd (fun hc => ?_) (fun hc => ?_)
      · rw [List.length_map] at hc
        walk_at "ws"
        refine w_ixL (v := .ref L) ?_ (sqL upd_same) (atI_nat (j := 0) rfl)
        walk_at "ws"
        refine w_ixL (v := .int i1) ?_ (sqL upd_same) (atI_nat (j := 1) rfl)
        walk_at "ws"
        obtain ⟨c, hcell⟩ : ∃ c, ns[i1.toNat]? = some c := ⟨ns[i1.toNat]'(by omega), by simp⟩
        refine w_ixL (v := .int c) ?_ (sqL (xs := ns.map V.int) (by rw [upd_ne nLS]; exact hL)) (atI_of h1 (by rw [List.getElem?_map, hcell]; rfl))
        walk_at "ws"
        refine w_ixL (v := .int i1) ?_ (sqL upd_same) (atI_nat (j := 1) rfl)
        walk_at "ws"
        refine w_setL (n := 1) ?_ upd_same (by rfl)
        rw [upd_upd]
        walk_at "ws"
        refine w_ixL (v := .int i5) ?_ (sqL upd_same) (atI_nat (j := 5) rfl)
        walk_at "ws"
        refine w_setL (n := 5) ?_ upd_same (by rfl)
        rw [upd_upd]
        walk_at "ws"
        refine w_ifd (fun hd => ?_) (fun hd => ?_)
        · walk_at "ws"
          refine w_setL (n := 2) ?_ upd_same (by rfl)
          rw [upd_upd]
          walk_at "ws"
          refine w_setL (n := 3) ?_ upd_same (by rfl)
          rw [upd_upd]
          walk_at "ws"
          exact k _ _ (md _).1 (md _).2 ⟨_, _, _, _, _, by omega, rfl⟩
        · exact tail (i1 + 1) i2 i3 (i4 + 1) _ _ _ _ (by omega)
      · exact tail i1 i2 i3 (i4 + 1) i5 _ _ _ h1
    refine w_ifd (fun ha => ?_) (fun ha => ?_)
    · walk_at "ws"
      refine w_ixL (v := .int i3) ?_ (sqL hS) (atI_nat (j := 3) rfl)
      walk_at "ws"
      refine w_ifd (fun hb => ?_) (fun hb => ?_)
      · walk_at "ws"
        refine w_ixL (v := .int i2) ?_ (sqL hS) (atI_nat (j := 2) rfl)
        walk_at "ws"
        refine w_ixL (v := .int i2) ?_ (sqL hS) (atI_nat (j := 2) rfl)
        walk_at "ws"
        refine w_setL (n := 2) ?_ hS rfl
        walk_at "ws"
        refine w_ixL (v := .int i3) ?_ (sqL upd_same) (atI_nat (j := 3) rfl)
        walk_at "ws"
        refine w_setL (n := 3) ?_ upd_same (by rfl)
        rw [upd_upd]
        walk_at "ws"
        exact k _ _ (md _).1 (md _).2 ⟨_, _, _, _, _, h1, rfl⟩
      · exact rest _ _ _
    · exact rest _ _ _
theorem c_L_draw0 (T : Env P K mg) : Cal P w K mg base 1 "_law_draw" p_L_draw (sp_L_draw0 K) := (c2_L_draw0 T).cal
def sp_L_draw (K : PySem.W.Frag) : Sp := fun vs H Q _ => ∃ (S : Addr) (m : Int), vs = [.ref S, .int m] ∧ LawSt H S ∧ 0 < m ∧ m < 2 ^ 80 ∧ ∀ r, 0 ≤ r → r < m → Q (.int r) H
theorem cl_L_draw {S : Addr} {m : Int} {H : Hp} {Q : VK} {E : XK} (h : LawSt H S) (q : ∀ r, 0 ≤ r → r < m → Q (.int r) H) (m0 : 0 < m) (m1 : m < 2 ^ 80) : sp_L_draw K [.ref S, .int m] H Q E := ⟨S, m, rfl, h, m0, m1, q⟩
theorem c_L_draw (T : Env P K mg) : Cal P w K mg base 1 "_law_draw" p_L_draw (sp_L_draw K) := by
  refine (c_L_draw0 T).hide (fun vs H Q E h => ?_) (fun vs H Q E h => by obtain ⟨_, _, rfl, _⟩ := h; rfl)
  obtain ⟨S, m, rfl, ⟨L, ns, hS, hL⟩, m0, m1, k⟩ := h
  have nLS : L ≠ S := ne_of hL hS (by intro z; cases z)
  refine ⟨S, StR L, hS, fun xs rx => ⟨S, L, ns, xs, m, rfl, upd_same, rx, by rw [upd_ne nLS]; exact hL, nLS, m0, m1, fun r xs' r0 r1 rx' => ?_⟩⟩
  exact ⟨H, xs', hS, rx', upd_upd, k r r0 r1⟩
def sp_L_deeds (K : PySem.W.Frag) : Sp := fun vs H Q _ => ∃ (S wp : Addr) (N many : Int) (ws : List Str), vs = [.ref S, .int N, .ref wp, .int many] ∧ LawSt H S ∧ 1 ≤ N ∧ N ≤ 360 ∧ H wp = some (.lst (ws.map V.str)) ∧ 1 ≤ ws.length ∧ ws.length ≤ 2 ∧ 0 ≤ many ∧ many ≤ 400 ∧
  ∀ H' p vs ds, Same H H' → H p = none → H' p = some (.lst vs) → DeedsAt H' vs ds → ds.length = many.toNat → (∀ q ∈ ds, q.1 ∈ ws) → TurnsIn N ds → Q (.ref p) H'
theorem c2_L_deeds (T : Env P K mg) : Cal2 P w K mg base 2 "_law_deeds" s_L_deeds p_L_deeds (sp_L_deeds K) := by
  refine cal2_mk (k := 1) T.s_L_deeds T.g_L_deeds sc_L_deeds (fun _ _ _ _ _ _ us hl => match us, hl with | [_, _, _, _], _ => rfl) (fun vs H Q E h => ?_) (fun cdv A outer s H vs Q E hr h => ?_)
  · obtain ⟨_, _, _, _, _, rfl, _⟩ := h; rfl
  · obtain ⟨S, wp, N, many, ws, rfl, st, n1, n360, hwp, w1, w2, m0, m400, k⟩ := h
    refine ⟨_, (pss_cons (ps_set (i := 4) sc_L_deeds.nd rfl (Or.inl rfl) (pj_lst pa_nil))
    (pss_cons (ps_for PassesOwn.never (by rfl) (pi_range1 (by rfl) T.b_range (pa_cons (pv 3) pa_nil)) (pg_name (i := 5) sc_L_deeds.nd rfl (Or.inl rfl)) (pss_cons (ps_set (i := 6) sc_L_deeds.nd rfl (Or.inl rfl) (pe_ix ix_list (pv 2) (pe_cal (c_L_draw T) (hr.mono (by decide)) (pa_cons (pv 0) (pa_cons (pe_callB jc_len (by rfl) T.b_len (by decide +kernel) (pa_cons (pv 2) pa_nil)) pa_nil))) (fun _ _ => rfl)))
    (pss_one (ps_expr (pe_bm PySem.F.plainAttrs_list PySem.F.slot_list_append PySem.F.type_list_append mt_append (pv 4) (pa_cons (pj_tup (pa_cons (pv 6) (pa_cons (pe_cal (c_L_draw T) (hr.mono (by decide)) (pa_cons (pv 0) (pa_cons (pv 1) pa_nil))) pa_nil))) pa_nil))))))
    (pss_one (ps_ret (pv 4))))), ?_⟩
    dsimp only [cxOf, Cx.nox]
    walk_at "ws"
    refine ⟨leb rfl, fun p H1 np s1 hp => ?_⟩
    walk_at "ws"
    refine forR1 (by omega) (fun i σ H' => Same H H' ∧ ∃ vs ds o5 o6, σ = [some (.ref S), some (.int N), some (.ref wp), some (.int many), some (.ref p), o5, o6] ∧ H' p = some (.lst vs) ∧ DeedsAt H' vs ds ∧ ds.length = i ∧ (∀ q ∈ ds, q.1 ∈ ws) ∧ TurnsIn N ds)
      ⟨s1, [], [], _, _, rfl, hp, .nil, rfl, fun q h => (nomatch h), fun q h => (nomatch h)⟩ ?_ ?_
    · rintro i σ H' hi ⟨s, vs, ds, o5, o6, rfl, hvs, hds, hlen, hw, htu⟩
      have st' := st.same s
      walk_at "ws"
      refine w_lenL ?_ (sqL (s _ _ hwp))
      rw [List.length_map]
      walk_at "ws"
      refine cl_L_draw st' (fun c c0 c1 => ?_) (by omega) (by omega)
      walk_at "ws"
      have hc : c.toNat < ws.length := by omega
      refine w_ixL (v := .str ws[c.toNat]) ?_ (sqL (s _ _ hwp)) (atI_of c0 (by rw [List.getElem?_map, List.getElem?_eq_getElem hc]; rfl))
      walk_at "ws"
      refine ⟨.inl ⟨rfl, _, sqL hvs⟩, ?_⟩
      walk_at "ws"
      refine cl_L_draw st' (fun e e0 e1 => ?_) (by omega) (by omega)
      walk_at "ws"
      refine ⟨leb rfl, fun t H2 nt s2 ht => ?_⟩
      walk_at "ws"
      have lvs : vs.length = ds.length := Paired.length hds
      have hv2 := s2 _ _ hvs
      refine w_append ?_ hv2 (szlt (by omega))
      walk_at "ws"
      have kp : ∀ {t o}, H2 t = some o → (∀ z, o ≠ .lst z) → upd H2 p (.lst (vs ++ [.ref t])) t = some o := fun e hn => by
        rw [upd_ne (fun z => by subst z; rw [hv2] at e; exact hn _ (Option.some.inj e).symm)]; exact e
      refine ⟨same_mut (s.trans s2) np, _, ds ++ [(ws[c.toNat], e)], _, _, rfl, upd_same, paired_append (Paired.mapP (deeds_same s2 hds) fun v q ⟨t, e, ht⟩ => ⟨t, e, by rw [upd_ne (ne_of ht hv2 (by intro z; cases z))]; exact ht⟩) (.cons ⟨t, rfl, by rw [upd_ne (ne_of ht hv2 (by intro z; cases z))]; exact ht⟩ .nil), by rw [List.length_append, hlen]; rfl, fun q hq => ?_, fun q hq => ?_⟩
      · rcases List.mem_append.mp hq with z | z
        · exact hw q z
        · have e : q = (ws[c.toNat], e) := by simpa using z
          subst e
          exact List.getElem_mem hc
      · rcases List.mem_append.mp hq with z | z
        · exact htu q z
        · have e : q = (ws[c.toNat], e) := by simpa using z
          subst e
          exact ⟨e0, e1⟩
    · rintro σ H' ⟨s, vs, ds, o5, o6, rfl, hvs, hds, hlen, hw, htu⟩
      walk_at "ws"
      exact k H' p vs ds s np hvs hds hlen hw htu
theorem c_L_deeds (T : Env P K mg) : Cal P w K mg base 2 "_law_deeds" p_L_deeds (sp_L_deeds K) := (c2_L_deeds T).cal
end
end Qk38
namespace Qk38
open PySem PySem.Spec PyProof.Rows L2 J
-- steps
local macro_rules | `(tactic| walk_at "lk") => `(tactic| first
  | assumption
  | exact upd_same
  | (refine (‹Same _ _› : Same _ _) _ _ ?_; assumption)
  | (refine Same.get1 (by assumption) ?_; walk_at "lk"))
local macro_rules | `(tactic| walk_at "w") => `(tactic| first
  | ((with_reducible refine' w_var ?hh ?_); (case hh => rfl))
  | with_reducible first
    | refine w_c ?_ | refine w_op ?_ | refine w_un ?_ | refine w_seq ?_ | refine w_asg ?_ | refine w_ret ?_ | refine w_retN ?_ | refine w_drop ?_ | refine w_ifS ?_ | refine w_next ?_ | refine w_name ?_
    | refine w_tst ?_ | refine w_tB ?_ | refine w_exb ?_ | refine w_and ?_ | refine w_or ?_ | refine w_not ?_ | refine w_andV ?_ | refine w_orV ?_ | refine w_notV ?_ | refine w_exc ?_ | refine w_ifE ?_ | refine w_chain ?_
    | refine w_nil ?_ | refine w_cons ?_ | refine w_call ?_ | refine w_cb ?_ | refine w_tup ?_ | refine w_lst ?_ | refine w_bm ?_ | refine w_bm0 ?_ | refine w_sl ?_ | refine w_noPart ?_ | refine w_part ?_ | refine w_exi ?_
    | refine w_add ?_ | refine w_sub ?_ | refine w_neg ?_ | refine w_eqI ?_ | refine w_neI ?_ | refine w_eqB ?_ | refine w_neB ?_ | refine w_rI0 ?_
    | refine w_mod ?_ (by first | assumption | omega | decide) | refine w_fdiv ?_ (by first | assumption | omega) (by first | assumption | omega) | refine w_mulL ?_ (by omega) | refine w_mulR ?_ (by omega)
    | refine w_pow ?_ (by decide)
    | refine w_ifT ?_ | refine w_ifF ?_ | refine w_ifnT ?_ | refine w_ifnF ?_
    | refine w_int ?_ | refine w_abs ?_ | refine w_max2 ?_ | refine w_min2 ?_ | refine w_gCons ?_ | refine w_gNil ?_ | refine w_gSub ?_ | refine w_for ?_
    | refine w_fld ?_ | refine w_sFld ?_ | refine w_meth ?_ | refine w_methK ?_ | refine w_isN0 ?_ | refine w_isN1 ?_ | refine w_isN2 ?_ | refine w_noN0 ?_ | refine w_noN1 ?_ | refine w_noN2 ?_ | refine w_makeK ?_ | refine w_make ?_ | refine w_callO ?_ | refine w_lc ?_ | refine w_yes ?_ | refine w_iEnumS ?_ | refine w_iSeq ?_ | refine w_iRng1 ?_ | refine w_iRng2 ?_ | refine w_prop ?_ | refine w_listVals ?_ | refine w_disp ?_ | refine w_dnewK ?_ | refine w_dput ?_ | refine w_dget ?_ | refine w_din ?_ | refine w_dnin ?_ | refine w_get ?_ | refine w_makeD ?_ | refine w_pairs ?_ | refine w_pairs0 ?_ | refine w_sc ?_ | refine w_iVals ?_ | refine w_lstRg1 ?_ | refine w_lstRg2 ?_ | refine w_clsName ?_ | refine w_cutG ?_ | refine w_cutT ?_ | refine w_calK ?_ | refine w_lenSet ?_ | refine w_brk ?_ | refine w_cont ?_ | refine w_raiseJ ?_ | refine w_calX ?_ | refine w_calKX ?_ | refine w_methX ?_ | refine w_methKX ?_ | refine w_makeX ?_ | refine w_makeKX ?_ | refine w_callOX ?_ | refine w_tryA ?_ | refine w_xf ?_ | refine w_eqOwn ?_ | refine w_neOwn ?_ | refine w_zipM ?_ | refine w_lenOwn ?_ | refine w_makeN ?_ | refine w_makeN0 ?_ | refine w_getX ?_ | refine w_calD ?_ | refine w_srtSet ?_ | refine w_dc ?_ | refine w_dcX ?_ | refine w_cmeth ?_ | refine w_cmethP ?_ | refine w_iZip ?_ | refine w_makeV ?_ | refine w_makeVX ?_ | refine w_iKeys ?_ | refine w_dget1 ?_ | refine w_ownI ?_ | refine w_setO ?_ | refine w_gSetX ?_ | refine w_calDX ?_)
local macro_rules | `(tactic| walk_at "ws") => `(tactic| repeat walk_at "w")
section
variable {P : Program} {w : World} {K : PySem.W.Frag} {mg : Str → Option Value} {base : Heap}
/-- low, then the slope, then high: strictly up -/
def slopeL (lo hi m : Int) : List Int := (List.range (m - 1).toNat).map fun i : Nat => lo + (hi - lo) * (1 + (i : Int)) / m
theorem slope_up {lo hi m : Int} (m1 : 1 ≤ m) (h : m ≤ hi - lo) : (lo :: slopeL lo hi m ++ [hi]).Pairwise (· < ·) := by
  have step : ∀ k : Int, (hi - lo) * k / m + 1 ≤ (hi - lo) * (k + 1) / m := fun k => by
    rw [Int.mul_add, Int.mul_one]
    refine (Int.le_ediv_iff_mul_le (by omega)).mpr ?_
    have := Int.mul_ediv_add_emod ((hi - lo) * k) m
    have := Int.emod_nonneg ((hi - lo) * k) (show m ≠ 0 by omega)
    rw [Int.add_mul, Int.mul_comm ((hi - lo) * k / m) m]
    omega
  have mono : ∀ (a : Int) (n : Nat), (hi - lo) * a / m + (n : Int) ≤ (hi - lo) * (a + n) / m := fun a n => by
    induction n with
    | zero => simp
    | succ n ih =>
      have := step (a + n)
      rw [show a + (n : Int) + 1 = a + ((n + 1 : Nat) : Int) by omega] at this
      omega
  have e0 : (hi - lo) * 0 / m = 0 := by simp
  have e1 : (hi - lo) * m / m = hi - lo := Int.mul_ediv_cancel _ (by omega)
  rw [List.cons_append, List.pairwise_cons, List.pairwise_append]
  refine ⟨fun x hx => ?_, ?_, by simp, fun x hx y hy => ?_⟩
  · rcases List.mem_append.mp hx with hx | hx
    · obtain ⟨i, hi', rfl⟩ := List.mem_map.mp hx
      have := mono 0 (1 + i)
      rw [e0, show (0 : Int) + ((1 + i : Nat) : Int) = 1 + (i : Int) by omega] at this
      omega
    · rw [List.mem_singleton.mp hx]
      omega
  · unfold slopeL
    rw [List.pairwise_map]
    refine List.pairwise_lt_range.imp fun {i j} lt => ?_
    have := mono (1 + (i : Int)) (j - i)
    rw [show 1 + (i : Int) + ((j - i : Nat) : Int) = 1 + (j : Int) by omega] at this
    omega
  · rw [List.mem_singleton.mp hy]
    obtain ⟨i, hi', rfl⟩ := List.mem_map.mp hx
    have li := List.mem_range.mp hi'
    have := mono (1 + (i : Int)) (m - 1 - i).toNat
    rw [show 1 + (i : Int) + (((m - 1 - i).toNat : Nat) : Int) = m by omega, e1] at this
    omega
theorem slope_bd {lo hi m : Int} (m1 : 1 ≤ m) (h : m ≤ hi - lo) : ∀ v ∈ slopeL lo hi m, lo ≤ v ∧ v ≤ hi := fun v hv => by
  have p := slope_up m1 h
  rw [List.cons_append, List.pairwise_cons, List.pairwise_append] at p
  have a := p.1 v (List.mem_append_left _ hv)
  have b := p.2.2.2 v hv hi (by simp)
  omega
def sp_L_slope (K : PySem.W.Frag) : Sp := fun vs H Q _ => ∃ lo hi m : Int, vs = [.int lo, .int hi, .int m] ∧ 0 ≤ lo ∧ lo ≤ 100000 ∧ 0 ≤ hi ∧ hi ≤ 2000000 ∧ 1 ≤ m ∧ m ≤ 5 ∧ ∀ (H' : Hp) (p : Addr), Same H H' → H p = none → H' p = some (.lst ((slopeL lo hi m).map V.int)) → Q (.ref p) H'
theorem c2_L_slope (T : Env P K mg) : Cal2 P w K mg base 1 "_law_slope" s_L_slope p_L_slope (sp_L_slope K) := by
  refine cal2_mk (k := 0) T.s_L_slope T.g_L_slope sc_L_slope (fun _ _ _ _ _ _ us hl => match us, hl with | [_, _, _], _ => rfl) (fun vs H Q E h => ?_) (fun cdv A outer s H vs Q E hr h => ?_)
  · obtain ⟨_, _, _, rfl, _⟩ := h; rfl
  · obtain ⟨lo, hi, m, rfl, l0, l1, h0, h1, m1, m5, k⟩ := h
    refine ⟨_, (pss_one (ps_ret (pe_lc (own := [("_law_k", 3)]) (g := (gName 3)) (tt := tYes) (te := (tOp rAddI (tVar 0) (tOp rDivI (tOp rMulI (tOp rSubI (tVar 1) (tVar 0)) (tVar 3)) (tVar 2)))) (by rfl) sc_L_slope.nd (pi_range2 (by rfl) T.b_range (pa_cons pe_int (pa_cons (pv 2) pa_nil))) (blkOk_by (own := [("_law_k", 3)]) (N := N_L_slope) (sc := defScope s_L_slope) (by decide +kernel)) (fun _ _ _ _ _ => (pg_name (i := 3) sc_L_slope.nd rfl (Or.inl rfl))) (fun _ _ _ _ _ => pts_nil) (fun _ _ _ _ _ => (pe_op op_add (pv 0) (pe_op op_fdivW (pe_op op_mul (pe_op op_sub (pv 1) (pv 0)) (pv 3)) (pv 2))))))), ?_⟩
    try dsimp only [cxOf, Cx.nox]
    walk_at "ws"
    refine lcR2 (by omega) (fun i acc H' => acc = ((slopeL lo hi m).take i).map V.int) (fun _ _ => rfl) (fun Dl i acc H' hD hi' s hl' pv => ?_) (fun q acc H' nq s hl' pv => ?_)
    · walk_at "ws"
      refine ⟨rfl, ?_⟩
      walk_at "ws"
      have ll : (slopeL lo hi m).length = (m - 1).toNat := by unfold slopeL; rw [List.length_map, List.length_range]
      have e : (slopeL lo hi m)[i]? = some (lo + (hi - lo) * (1 + (i : Int)) / m) := by
        unfold slopeL
        rw [List.getElem?_map, List.getElem?_range (by omega)]
        rfl
      refine lc_step hD s hl' (by rw [pv, List.length_map, List.length_take]; omega) ?_
      show _ = _
      rw [pv, List.take_add_one, e, List.map_append]
      rfl
    · have ll : (slopeL lo hi m).length = (m - 1).toNat := by unfold slopeL; rw [List.length_map, List.length_range]
      rw [List.take_of_length_le (by omega)] at pv
      exact k H' q s nq (by rw [hl', pv])
theorem c_L_slope (T : Env P K mg) : Cal P w K mg base 1 "_law_slope" p_L_slope (sp_L_slope K) := (c2_L_slope T).cal
def sp_L_half (K : PySem.W.Frag) : Sp := fun vs H Q _ => ∃ S, vs = [.ref S] ∧ LawSt H S ∧ ∀ (H' : Hp) (p : Addr) (ms : List Int) (ss : List Nat) (j : Nat), Same H H' → H p = none → H' p = some (.lst ((ms.drop j ++ ms.take j).map V.int)) → 2 ≤ ms.length → ms.length ≤ 48 → j < ms.length → (∀ w ∈ ms, 0 ≤ w ∧ w ≤ 2000000) → Zig (ms ++ [wAt ms.length ms 0]) ss → ss.length ≤ 6 → Q (.ref p) H'
theorem c2_L_half (T : Env P K mg) : Cal2 P w K mg base 2 "_law_half" s_L_half p_L_half (sp_L_half K) := by
  refine cal2_mk (k := 1) T.s_L_half T.g_L_half sc_L_half (fun _ _ _ _ _ _ us hl => match us, hl with | [_], _ => rfl) (fun vs H Q E h => ?_) (fun cdv A outer s H vs Q E hr h => ?_)
  · obtain ⟨_, rfl, _⟩ := h; rfl
  · obtain ⟨S, rfl, st, k⟩ := h
    have hu := Nat.lt_of_le_of_lt (Nat.add_le_add_left (show 1 ≤ 64 by decide) _) hr.units
    have e6 : (10 : Int) ^ Int.toNat 6 = 1000000 := rfl
    have e5 : (10 : Int) ^ Int.toNat 5 = 100000 := rfl
    refine ⟨_, (pss_cons (ps_set (i := 1) sc_L_half.nd rfl (Or.inl rfl) (pe_op op_add pe_int (pe_cal (c_L_draw T) (hr.mono (by decide)) (pa_cons (pv 0) (pa_cons pe_int pa_nil)))))
    (pss_cons (ps_setLc (i := 3) (own := [("_law_k", 2)]) (g := (gName 2)) (tt := tYes) (te := (tOp rAddI (tOp rPowI (tC (.int 10)) (tC (.int 6))) (tCall (sp_L_draw K) [] E0 (tCons (tVar 0) (tCons (tOp rPowI (tC (.int 10)) (tC (.int 6))) tNil))))) (by rfl) sc_L_half.nd rfl rfl (sw_true rfl rfl rfl (by decide +kernel)) (pi_range1 (by rfl) T.b_range (pa_cons (pv 1) pa_nil)) (blkOk_by (own := [("_law_k", 2)]) (N := N_L_half) (sc := defScope s_L_half) (by decide +kernel)) (fun _ _ _ _ _ => (pg_name (i := 2) sc_L_half.nd rfl (Or.inl rfl))) (fun _ _ _ _ _ => pts_nil) (fun _ _ _ _ _ => (pe_op op_add (pe_op op_pow pe_int pe_int) (pe_cal (c_L_draw T) (hr.mono (by decide)) (pa_cons (pv 0) (pa_cons (pe_op op_pow pe_int pe_int) pa_nil))))))
    (pss_cons (ps_set (i := 4) sc_L_half.nd rfl (Or.inl rfl) (pj_lst pa_nil))
    (pss_cons (ps_for PassesOwn.never (by rfl) (pi_range1 (by rfl) T.b_range (pa_cons (pv 1) pa_nil)) (pg_name (i := 2) sc_L_half.nd rfl (Or.inl rfl)) (pss_cons (ps_set (i := 5) sc_L_half.nd rfl (Or.inl rfl) (pe_cal (c_L_draw T) (hr.mono (by decide)) (pa_cons (pv 0) (pa_cons (pe_op op_pow pe_int pe_int) pa_nil))))
    (pss_cons (ps_expr (pe_bm PySem.F.plainAttrs_list PySem.F.slot_list_append PySem.F.type_list_append mt_append (pv 4) (pa_cons (pe_ix ix_list (pv 3) (pv 2) (fun _ _ => rfl)) pa_nil)))
    (pss_cons (ps_set (i := 6) sc_L_half.nd rfl (Or.inl rfl) (pe_cal (c_L_slope T) (hr.mono (by decide)) (pa_cons (pv 5) (pa_cons (pe_ix ix_list (pv 3) (pv 2) (fun _ _ => rfl)) (pa_cons (pe_op op_add pe_int (pe_cal (c_L_draw T) (hr.mono (by decide)) (pa_cons (pv 0) (pa_cons pe_int pa_nil)))) pa_nil)))))
    (pss_cons (ps_expr (pe_bm0 PySem.F.plainAttrs_list PySem.F.slot_list_reverse PySem.F.type_list_reverse mt_reverse (pv 6)))
    (pss_one (ps_set (i := 4) sc_L_half.nd rfl (Or.inl rfl) (pe_op op_cat (pe_op op_cat (pe_op op_cat (pv 4) (pv 6)) (pj_lst (pa_cons (pv 5) pa_nil))) (pe_cal (c_L_slope T) (hr.mono (by decide)) (pa_cons (pv 5) (pa_cons (pe_ix ix_list (pv 3) (pe_op op_mod (pe_op op_add (pv 2) pe_int) (pv 1)) (fun _ _ => rfl)) (pa_cons (pe_op op_add pe_int (pe_cal (c_L_draw T) (hr.mono (by decide)) (pa_cons (pv 0) (pa_cons pe_int pa_nil)))) pa_nil))))))))))))
    (pss_cons (ps_set (i := 7) sc_L_half.nd rfl (Or.inl rfl) (pe_cal (c_L_draw T) (hr.mono (by decide)) (pa_cons (pv 0) (pa_cons (pe_callB jc_len (by rfl) T.b_len (by decide +kernel) (pa_cons (pv 4) pa_nil)) pa_nil))))
    (pss_one (ps_ret (pe_op op_cat (pe_slice sl_list (pv 4) (po_some (pv 7)) po_none) (pe_slice sl_list (pv 4) po_none (po_some (pv 7))))))))))), ?_⟩
    dsimp only [cxOf, Cx.nox]
    walk_at "ws"
    refine cl_L_draw st (fun n n0 n1 => ?_) (by decide) (by decide)
    walk_at "ws"
    refine lcR1 (by omega) (fun i acc H' => ∃ ts : List Int, acc = ts.map V.int ∧ ts.length = i ∧ ∀ t ∈ ts, 1000000 ≤ t ∧ t ≤ 2000000) (fun _ _ => ⟨[], rfl, rfl, fun t h => nomatch h⟩) (fun Dl i acc H' hD hi' s hl' pv => ?_) (fun tp acc H1 ntp s1 htp pv => ?_)
    · obtain ⟨ts, rfl, lm, bt⟩ := pv
      walk_at "ws"
      refine ⟨rfl, ?_⟩
      walk_at "ws"
      refine cl_L_draw (m := 10 ^ Int.toNat 6) (st.same s) (fun r r0 r1 => ?_) (by decide) (by decide)
      rw [e6] at r1
      walk_at "ws"
      refine lc_step hD s hl' (by rw [List.length_map]; omega) ⟨ts ++ [_], by rw [List.map_append]; rfl, by simp [lm], fun t ht => ?_⟩
      rcases List.mem_append.mp ht with ht | ht
      · exact bt t ht
      · rw [List.mem_singleton.mp ht, e6]
        omega
    · obtain ⟨ts, rfl, lm, bt⟩ := pv
      walk_at "ws"
      have st1 := st.same s1
      have tsg : ∀ i : Nat, i < ts.length → ts[i]? = some (ts.getD i 0) := fun i hi => by
        rw [List.getElem?_eq_getElem hi]
        simp [List.getD, List.getElem?_eq_getElem hi]
      refine ⟨leb rfl, fun wp H2 nwp s2 hwp => ?_⟩
      walk_at "ws"
      refine forR1 (by omega) (fun i σ H' => Same H1 H' ∧ ∃ (q : Addr) (ms : List Int) (ss : List Nat) (o1 o5 o6 o7 : Option V), H1 q = none ∧ H' q = some (.lst (ms.map V.int)) ∧ 2 * i ≤ ms.length ∧ ms.length ≤ 8 * i ∧ ss.length = i ∧ (∀ w ∈ ms, 0 ≤ w ∧ w ≤ 2000000) ∧ Zig (ms ++ [ts.getD (i % ts.length) 0]) ss ∧ (0 < i → ms[0]? = some (ts.getD 0 0)) ∧ σ = [some (.ref S), some (.int (1 + n)), o1, some (.ref tp), some (.ref q), o5, o6, o7]) ⟨s2, wp, [], [], none, none, none, none, nwp, hwp, by simp, by simp, rfl, (fun w h => nomatch h), Zig.one, (fun h => absurd h (Nat.lt_irrefl _)), rfl⟩ ?_ ?_
      · rintro i σ H' hi ⟨s, q, ms, ss, o1, o5, o6, o7, nq, hq, ml, mu, ls, bm, zg, hd, rfl⟩
        walk_at "ws"
        refine cl_L_draw (m := 10 ^ Int.toNat 5) (st1.same s) (fun low w0 w1 => ?_) (by decide) (by decide)
        rw [e5] at w1
        walk_at "ws"
        refine ⟨.inl ⟨rfl, _, sqL hq⟩, ?_⟩
        walk_at "ws"
        have htp' := s _ _ htp
        obtain ⟨tk, htk⟩ : ∃ tk, ts[i]? = some tk := ⟨_, List.getElem?_eq_getElem (by omega)⟩
        have btk := bt tk (List.mem_of_getElem? htk)
        have etk : ts.getD (i % ts.length) 0 = tk := by
          rw [Nat.mod_eq_of_lt (by omega)]
          have := tsg i (by omega)
          rw [htk] at this
          exact (Option.some.inj this).symm
        rw [etk] at zg
        have ntq : tp ≠ q := fun z => by rw [← z, htp] at nq; cases nq
        refine w_ixL (v := .int tk) ?_ (sqL htp') (atI_nat (by rw [List.getElem?_map, htk]; rfl))
        walk_at "ws"
        refine w_append ?_ hq (szlt (by rw [List.length_map]; omega))
        have s' := same_mut (o := .lst (ms.map V.int ++ [.int tk])) s nq
        have hq' : upd H' q (.lst (ms.map V.int ++ [.int tk])) q = some (.lst ((ms ++ [tk]).map V.int)) := by rw [upd_same, List.map_append]; rfl
        generalize upd H' q (.lst (ms.map V.int ++ [.int tk])) = H3 at *
        walk_at "ws"
        refine w_ixL (v := .int tk) ?_ (sqL (s' _ _ htp)) (atI_nat (by rw [List.getElem?_map, htk]; rfl))
        walk_at "ws"
        refine cl_L_draw (st1.same s') (fun m0 m00 m01 => ?_) (by decide) (by decide)
        walk_at "ws"
        refine ⟨low, tk, 1 + m0, rfl, w0, by omega, by omega, btk.2, by omega, by omega, fun H4 dp s4 ndp hdp => ?_⟩
        have dup := slope_up (lo := low) (hi := tk) (m := 1 + m0) (by omega) (by omega)
        have dbd := slope_bd (lo := low) (hi := tk) (m := 1 + m0) (by omega) (by omega)
        have dl : (slopeL low tk (1 + m0)).length ≤ 3 := by unfold slopeL; rw [List.length_map, List.length_range]; omega
        generalize slopeL low tk (1 + m0) = ds at *
        walk_at "ws"
        refine ⟨.inl ⟨rfl, _, sqL hdp⟩, J.w_rev hdp ?_⟩
        have s4' := same_mut (o := .lst (ds.map V.int).reverse) s4 ndp
        have hdp' : upd H4 dp (.lst (ds.map V.int).reverse) dp = some (.lst (ds.reverse.map V.int)) := by rw [upd_same, List.map_reverse]
        generalize upd H4 dp (.lst (ds.map V.int).reverse) = H5 at *
        walk_at "ws"
        have lq : (ms ++ [tk]).length = ms.length + 1 := by rw [List.length_append]; rfl
        refine w_cat (s4' _ _ hq') hdp' (by rw [List.length_map, List.length_map, List.length_reverse]; omega) fun p6 H6 n6 s6 h6 => ?_
        walk_at "ws"
        refine ⟨leb rfl, fun p7 H7 n7 s7 h7 => ?_⟩
        refine w_cat (s7 _ _ h6) h7 (by rw [List.length_append, List.length_map, List.length_map, List.length_reverse]; simp; omega) fun p8 H8 n8 s8 h8 => ?_
        walk_at "ws"
        have q0 := Int.emod_nonneg ((i : Int) + 1) (show 1 + n ≠ 0 by omega)
        have q1 := Int.emod_lt_of_pos ((i : Int) + 1) (show 0 < 1 + n by omega)
        obtain ⟨tz, htz⟩ : ∃ tz, ts[(((i : Int) + 1) % (1 + n)).toNat]? = some tz := ⟨_, List.getElem?_eq_getElem (by omega)⟩
        have btz := bt tz (List.mem_of_getElem? htz)
        have etz : ts.getD ((i + 1) % ts.length) 0 = tz := by
          have e : (((i : Int) + 1) % (1 + n)).toNat = (i + 1) % ts.length := by
            have : (1 + n : Int) = (ts.length : Int) := by omega
            rw [this, show (i : Int) + 1 = ((i + 1 : Nat) : Int) from rfl, ← Int.natCast_emod, Int.toNat_natCast]
          rw [e] at htz
          have := tsg ((i + 1) % ts.length) (Nat.mod_lt _ (by omega))
          rw [htz] at this
          exact (Option.some.inj this).symm
        have s38 := s4'.trans (s6.trans (s7.trans s8))
        refine w_ixL (v := .int tz) ?_ (sqL (s38 _ _ (s' _ _ htp))) (atI_of q0 (by rw [List.getElem?_map, htz]; rfl))
        walk_at "ws"
        refine cl_L_draw (st1.same (s'.trans s38)) (fun m1 m10 m11 => ?_) (by decide) (by decide)
        walk_at "ws"
        refine ⟨low, tz, 1 + m1, rfl, w0, by omega, by omega, btz.2, by omega, by omega, fun H9 up s9 nup hup => ?_⟩
        have uup := slope_up (lo := low) (hi := tz) (m := 1 + m1) (by omega) (by omega)
        have ubd := slope_bd (lo := low) (hi := tz) (m := 1 + m1) (by omega) (by omega)
        have ul : (slopeL low tz (1 + m1)).length ≤ 3 := by unfold slopeL; rw [List.length_map, List.length_range]; omega
        generalize slopeL low tz (1 + m1) = us at *
        refine w_cat (s9 _ _ h8) hup (by simp; omega) fun pA HA nA sA hA => ?_
        refine w_name ?_
        have s3A := s38.trans (s9.trans sA)
        refine ⟨s'.trans s3A, pA, (ms ++ [tk]) ++ ds.reverse ++ [low] ++ us, ss ++ [ms.length], _, _, _, _, ((s'.trans (s38.trans s9))).free nA, by rw [hA]; simp, by simp; omega, by simp; omega, by simp [ls], fun w hw => ?_, ?_, fun _ => ?_, rfl⟩
        · simp only [List.mem_append, List.mem_reverse, List.mem_singleton] at hw
          rcases hw with (((hw | rfl) | hw) | rfl) | hw
          · exact bm w hw
          · omega
          · have := dbd w hw
            omega
          · omega
          · have := ubd w hw
            omega
        · rw [etz]
          exact zg.seg dup uup
        · by_cases c : 0 < i
          · have g := hd c
            have lt := (List.getElem?_eq_some_iff.mp g).1
            rw [List.append_assoc, List.append_assoc, List.append_assoc, List.getElem?_append_left lt]
            exact g
          · have e0 : i = 0 := by omega
            subst e0
            have em : ms = [] := List.eq_nil_of_length_eq_zero (by omega)
            subst em
            rw [Nat.zero_mod] at etk
            rw [etk]
            rfl
      · rintro σ H' ⟨s, q, ms, ss, o1, o5, o6, o7, nq, hq, ml, mu, ls, bm, zg, hd, rfl⟩
        have eN : (1 + n).toNat = ts.length := by omega
        rw [eN] at ml mu ls zg hd
        have h0 := hd (by omega)
        walk_at "ws"
        refine w_lenL ?_ (sqL hq)
        rw [List.length_map]
        refine w_nil ?_
        refine cl_L_draw (m := (ms.length : Int)) (st1.same s) (fun sh sh0 sh1 => ?_) (by omega) (by omega)
        walk_at "ws"
        obtain ⟨j, rfl⟩ : ∃ j : Nat, sh = j := ⟨sh.toNat, by omega⟩
        refine w_slL (sqL hq) fun p5 H5 n5 s5 h5 => ?_
        walk_at "ws"
        refine w_slL (sqL (s5 _ _ hq)) fun p6 H6 n6 s6 h6 => ?_
        rw [cut_from] at h5
        rw [cut_to] at h6
        refine w_cat (s6 _ _ h5) h6 (by simp; omega) fun p7 H7 n7 s7 h7 => ?_
        rw [← List.map_drop, ← List.map_take, ← List.map_append] at h7
        have ew : wAt ms.length ms 0 = ts.getD 0 0 := by
          have := wAt_get (i := 0) (N := ms.length) (by omega) (rfl : (ms.length : Int) = ms.length)
          rw [Int.zero_emod] at this
          rw [show (0 : Int).toNat = 0 from rfl, h0] at this
          exact (Option.some.inj this).symm
        refine k H7 p7 ms ss j (s1.trans (s.trans (s5.trans (s6.trans s7)))) ((s1.trans (s.trans (s5.trans s6))).free n7) h7 (by omega) (by omega) (by omega) bm ?_ (by omega)
        rw [ew]
        rw [Nat.mod_self] at zg
        exact zg
theorem c_L_half (T : Env P K mg) : Cal P w K mg base 2 "_law_half" p_L_half (sp_L_half K) := (c2_L_half T).cal
def sp_L_rolled (K : PySem.W.Frag) : Sp := fun vs H Q _ => ∃ (p : Addr) (N x y : Int) (ws : List Int) (rs : Rws), vs = [.ref p, .int x] ∧ Sq H p (ws.map V.int) ∧ (ws.length : Int) = N ∧ N ≤ 360 ∧ Hills N (wAt N ws) ∧ DownR N (wAt N ws) rs ∧ Rows N rs ∧ IsLift N rs x y ∧ Q (.int y) H
theorem c2_L_rolled (T : Env P K mg) : Cal2 P w K mg base 1 "_law_rolled" s_L_rolled p_L_rolled (sp_L_rolled K) := by
  refine cal2_mk (k := 0) T.s_L_rolled T.g_L_rolled sc_L_rolled (fun _ _ _ _ _ _ us hl => match us, hl with | [_, _], _ => rfl) (fun vs H Q E h => ?_) (fun cdv A outer s H vs Q E hr h => ?_)
  · obtain ⟨_, _, _, _, _, _, rfl, _⟩ := h; rfl
  · obtain ⟨p, N, x, y, ws, rs, rfl, hp, lw, n360, hl, dr, R, hy, k⟩ := h
    refine ⟨_, (pss_cons (ps_set (i := 2) sc_L_rolled.nd rfl (Or.inl rfl) (pe_callB jc_len (by rfl) T.b_len (by decide +kernel) (pa_cons (pv 0) pa_nil)))
    (pss_cons (ps_for PassesOwn.never (by rfl) (pi_range1 (by rfl) T.b_range (pa_cons (pv 2) pa_nil)) (pg_name (i := 3) sc_L_rolled.nd rfl (Or.inl rfl)) (pss_cons (ps_set (i := 4) sc_L_rolled.nd rfl (Or.inl rfl) (pe_ix ix_seq (pv 0) (pe_op op_mod (pe_callTy jc_int (by rfl) T.b_int (by decide +kernel) (pa_cons (pv 1) pa_nil)) (pv 2)) (fun _ _ => rfl)))
    (pss_cons (ps_set (i := 5) sc_L_rolled.nd rfl (Or.inl rfl) (pe_ix ix_seq (pv 0) (pe_op op_mod (pe_callTy jc_int (by rfl) T.b_int (by decide +kernel) (pa_cons (pe_op op_sub (pv 1) pe_int) pa_nil)) (pv 2)) (fun _ _ => rfl)))
    (pss_cons (ps_set (i := 6) sc_L_rolled.nd rfl (Or.inl rfl) (pe_ix ix_seq (pv 0) (pe_op op_mod (pe_callTy jc_int (by rfl) T.b_int (by decide +kernel) (pa_cons (pe_op op_add (pv 1) pe_int) pa_nil)) (pv 2)) (fun _ _ => rfl)))
    (pss_cons (ps_if (PW.pt (pw_and (pt_cmpR op_lt (pv 4) (pv 5) (nomark _)) (pw_and1 (pt_cmpR op_lt (pv 4) (pv 6) (nomark _))))) (pss_one (ps_ret (pv 1))) pss_nil)
    (pss_one (ps_if (pt_cmpR op_lt (pv 6) (pv 4) (nomark _)) (pss_one (ps_set (i := 1) sc_L_rolled.nd rfl (Or.inl rfl) (pe_op op_add (pv 1) pe_int))) (pss_one (ps_set (i := 1) sc_L_rolled.nd rfl (Or.inl rfl) (pe_op op_sub (pv 1) pe_int))))))))))
    (pss_one (ps_ret (pv 1))))), ?_⟩
    dsimp only [cxOf, Cx.nox]
    have n2 := hl.n2
    have n0 : 0 < N := by omega
    walk_at "ws"
    refine len_sq hp ?_
    rw [List.length_map, lw]
    walk_at "ws"
    have near := IsLift.near R hy
    refine forR1 (by omega) (fun i σ H' => H' = H ∧ ∃ (z : Int) (o3 o4 o5 o6 : Option V), σ = [some (.ref p), some (.int z), some (.int N), o3, o4, o5, o6] ∧ IsLift N rs z y ∧ z - y + i < N ∧ y - z + i < N) ⟨rfl, x, _, _, _, _, rfl, hy, by omega, by omega⟩ ?_ ?_
    · rintro i σ H' hi ⟨rfl, z, o3, o4, o5, o6, rfl, hz, d1, d2⟩
      obtain ⟨vy, right, left⟩ := dr.roll hl R hz
      have ix : ∀ (j : Int) (Q : VK), Q (.int (wAt N ws j)) H' → rIx K (.ref p) (.int (j % N)) H' Q := fun j Q q => ix_sq hp (by
        rw [at_w n0 lw (by have := Int.emod_nonneg j (show N ≠ 0 by omega); omega) (Int.emod_lt_of_pos j n0), wAt_mod]) q
      walk_at "ws"
      refine ix z _ ?_
      walk_at "ws"
      refine ix (z - 1) _ ?_
      walk_at "ws"
      refine ix (z + 1) _ ?_
      walk_at "ws"
      rcases Int.lt_trichotomy z y with lt | rfl | gt
      · obtain ⟨g1, g2⟩ := right lt
        refine w_ifd (fun _ => ?_) (fun _ => ?_)
        · walk_at "ws"
          refine w_ifd (fun h => absurd h (by omega)) (fun _ => ?_)
          walk_at "ws"
          refine w_ifd (fun _ => ?_) (fun h => absurd g1 h)
          walk_at "ws"
          exact ⟨rfl, _, _, _, _, _, rfl, g2, by omega, by omega⟩
        · walk_at "ws"
          refine w_ifd (fun _ => ?_) (fun h => absurd g1 h)
          walk_at "ws"
          exact ⟨rfl, _, _, _, _, _, rfl, g2, by omega, by omega⟩
      · refine w_ifd (fun _ => ?_) (fun h => absurd vy.1 h)
        walk_at "ws"
        refine w_ifd (fun _ => ?_) (fun h => absurd vy.2 h)
        walk_at "ws"
        exact k
      · obtain ⟨g1, g2, g3⟩ := left gt
        refine w_ifd (fun h => absurd h (by omega)) (fun _ => ?_)
        walk_at "ws"
        refine w_ifd (fun h => absurd h (by omega)) (fun _ => ?_)
        walk_at "ws"
        exact ⟨rfl, _, _, _, _, _, rfl, g3, by omega, by omega⟩
    · rintro σ H' ⟨rfl, z, o3, o4, o5, o6, rfl, hz, d1, d2⟩
      omega
theorem c_L_rolled (T : Env P K mg) : Cal P w K mg base 1 "_law_rolled" p_L_rolled (sp_L_rolled K) := (c2_L_rolled T).cal
theorem twice_ok {N : Int} {ms : List Int} (n2 : 2 ≤ N) (ev : N % 2 = 0) (l : (ms.length : Int) = N / 2) (bd : ∀ m ∈ ms, 0 ≤ m ∧ m ≤ topW) : WOk N (ms ++ ms) := by
  refine ⟨by rw [List.length_append]; omega, fun w hw => ?_, fun i a b ha hb => ?_⟩
  · rcases List.mem_append.mp hw with h | h <;> exact bd w h
  · have li := (List.getElem?_eq_some_iff.mp ha).1
    rw [List.length_append] at li
    rw [List.getElem?_append] at ha hb
    unfold opp at hb
    by_cases h : i < ms.length
    · rw [if_pos h] at ha
      have e : (((i : Int) + N / 2) % N).toNat = i + ms.length := by
        rw [Int.emod_eq_of_lt (by omega) (by omega)]; omega
      rw [e, if_neg (by omega), show i + ms.length - ms.length = i by omega, ha] at hb
      cases hb
      rfl
    · rw [if_neg h] at ha
      have e : (((i : Int) + N / 2) % N).toNat = i - ms.length := by
        have : ((i : Int) + N / 2) % N = ((i : Int) - ms.length) % N := by
          rw [show (i : Int) + N / 2 = ((i : Int) - ms.length) + N by omega, Int.add_emod_right]
        rw [this, Int.emod_eq_of_lt (by omega) (by omega)]; omega
      rw [e, if_pos (by omega), ha] at hb
      cases hb
      rfl
def sp_law (K : PySem.W.Frag) : Sp := fun vs H Q _ => ∃ (a : Addr) (ns : List Int), vs = [.ref a] ∧ SqL K H a (ns.map V.int) ∧ ns.length ≤ 63 ∧ ∀ H', Q (.bl true) H'
theorem f_law (T : Env P K mg) {f : Addr} {fd : FuncData} (F : FunD K "law" "law" (defArgs s_law) (defBody s_law) (defScope s_law) [] [] f fd) : FnOk P w K mg base CX0 8 f fd p_law (sp_law K) := by
  refine fn_mk (k := 7) F sc_law (fun vs H Q E h => ?_) (fun cdv A outer s H vs Q E hr h => ?_)
  · obtain ⟨_, _, rfl, _⟩ := h; rfl
  · obtain ⟨a, ns, rfl, ha, hns, k⟩ := h
    have hu := Nat.lt_of_le_of_lt (Nat.add_le_add_left (show 1 ≤ 64 by decide) _) hr.units
    have hu64 := hr.units
    refine ⟨_, (pss_cons (ps_set (i := 1) sc_law.nd rfl (Or.inl rfl) (pe_cal (c_L_state T) (hr.mono (by decide)) (pa_cons (pv 0) pa_nil)))
    (pss_cons (ps_set (i := 2) sc_law.nd rfl (Or.inl rfl) (pe_cal (c_L_half T) (hr.mono (by decide)) (pa_cons (pv 1) pa_nil)))
    (pss_cons (ps_set (i := 3) sc_law.nd rfl (Or.inl rfl) (pe_op op_cat (pv 2) (pv 2)))
    (pss_cons (ps_set (i := 4) sc_law.nd rfl (Or.inl rfl) (pe_callB jc_len (by rfl) T.b_len (by decide +kernel) (pa_cons (pv 3) pa_nil)))
    (pss_cons (ps_set (i := 5) sc_law.nd rfl (Or.inl rfl) (pe_calIDN0 (ck_PartD_initD T) ["squeeze", "widths"] (fun {α} us its ws => match us, its, ws with | [u0], [i0, i1, i2], [w0, w1] => [u0, w0, i1, w1] | _, _, _ => []) (fun z => nomatch z) (by intro vs ds zs us its ws r1 r2 r3; rcases r1 with _ | ⟨ra0, _ | ⟨raz, ray⟩⟩ <;> rcases r2 with _ | ⟨rb0, _ | ⟨rb1, _ | ⟨rb2, _ | ⟨rbz, rby⟩⟩⟩⟩ <;> rcases r3 with _ | ⟨rc0, _ | ⟨rc1, _ | ⟨rcz, rcy⟩⟩⟩ <;> first | exact .nil | exact (.cons ra0 (.cons rc0 (.cons rb1 (.cons rc1 .nil))))) (fun _ _ _ _ _ _ _ us its ws l1 l2 l3 => match us, its, ws, l1, l2, l3 with | [_], [_, _, _], [_, _], _, _, _ => ⟨_, rfl, rfl⟩) (hr.mono (by decide)) (pk_cons (pe_calc (pe_glob (v := .ref (He.ga K "Turning")) rfl T.g_Turning rfl) (c_Turning_of_widths T) (hr.mono (by decide)) (pa_cons (pv 3) pa_nil)) (pk_cons (pe_callTy jc_list (by rfl) T.b_list (by decide +kernel) (pa_cons (pv 3) pa_nil)) pk_nil))))
    (pss_cons (ps_set (i := 6) sc_law.nd rfl (Or.inl rfl) (pe_cal (c_L_deeds T) (hr.mono (by decide)) (pa_cons (pv 1) (pa_cons (pv 4) (pa_cons (pj_lst (pa_cons pe_str pa_nil)) (pa_cons (pe_cal (c_L_draw T) (hr.mono (by decide)) (pa_cons (pv 1) (pa_cons pe_int pa_nil))) pa_nil))))))
    (pss_cons (ps_set (i := 7) sc_law.nd rfl (Or.inl rfl) (pe_calI (c_PlanD_initD T) (hr.mono (by decide)) (pa_cons (pv 4) (pa_cons (pv 6) pa_nil))))
    (pss_cons (ps_set (i := 8) sc_law.nd rfl (Or.inl rfl) (pj_lst pa_nil))
    (pss_cons (ps_set (i := 9) sc_law.nd rfl (Or.inr rfl) (pe_calp (pv 5) T.k_Part (c_Part_period T) (hr.mono (by decide))))
    (pss_cons (ps_if (PW.pt (pw_or (pt_cmpR op_ne (pe_op op_mod (pe_op op_fdivW (pv 4) pe_int) (pv 9)) pe_int (nomark _)) (pw_or1 (pt_cmpR (op_neS hr) (pe_calp (pv 5) T.k_Part (c_Part_words T) (hr.mono (by decide))) (pj_lst (pa_cons pe_str pa_nil)) (nomark _))))) (pss_one (ps_ret pe_bl)) pss_nil)
    (pss_cons (ps_for PassesOwn.never (by rfl) (pi_range1 (by rfl) T.b_range (pa_cons (pv 4) pa_nil)) (pg_name (i := 10) sc_law.nd rfl (Or.inl rfl)) (pss_cons (ps_set (i := 11) sc_law.nd rfl (Or.inl rfl) (pv 10))
    (pss_cons (ps_for PassesOwn.never (by rfl) (pi_seq (pv 6)) (pg_tup (by rfl) (pgs_cons (pg_name (i := 12) sc_law.nd rfl (Or.inl rfl)) (pgs_cons (pg_name (i := 13) sc_law.nd rfl (Or.inl rfl)) pgs_nil))) (pss_cons (ps_set (i := 14) sc_law.nd rfl (Or.inl rfl) (pe_cal (c_L_rolled T) (hr.mono (by decide)) (pa_cons (pv 3) (pa_cons (pe_op op_sub (pv 11) (pv 13)) pa_nil))))
    (pss_cons (ps_if (PW.pt (pw_or (pt_cmpR op_ne (pe_calm (pv 5) T.k_Part (c_Part_width T) (hr.mono (by decide)) (pa_cons (pv 14) pa_nil)) (pe_ix ix_list (pv 3) (pe_op op_mod (pe_callTy jc_int (by rfl) T.b_int (by decide +kernel) (pa_cons (pv 14) pa_nil)) (pv 4)) (fun _ _ => rfl)) (nomark _)) (pw_or1 (pt_cmpR op_gt (pe_calm (pv 5) T.k_Part (c_Part_width T) (hr.mono (by decide)) (pa_cons (pv 14) pa_nil)) (pe_calm (pv 5) T.k_Part (c_Part_width T) (hr.mono (by decide)) (pa_cons (pe_op op_sub (pv 11) (pv 13)) pa_nil)) (nomark _))))) (pss_one (ps_ret pe_bl)) pss_nil)
    (pss_one (ps_set (i := 11) sc_law.nd rfl (Or.inl rfl) (pe_op op_add (pv 14) (pv 13)))))))
    (pss_cons (ps_if (pt_cmpR op_ne (pe_cal (c_carried T) (hr.mono (by decide)) (pa_cons (pv 5) (pa_cons (pv 7) (pa_cons (pv 10) pa_nil)))) (pv 11) (nomark _)) (pss_one (ps_ret pe_bl)) pss_nil)
    (pss_one (ps_if (pt_cmpR op_notIn_seq (pe_op op_mod (pe_callTy jc_int (by rfl) T.b_int (by decide +kernel) (pa_cons (pv 11) pa_nil)) (pv 4)) (pv 8) (by rfl)) (pss_one (ps_expr (pe_bm PySem.F.plainAttrs_list PySem.F.slot_list_append PySem.F.type_list_append mt_append (pv 8) (pa_cons (pe_op op_mod (pe_callTy jc_int (by rfl) T.b_int (by decide +kernel) (pa_cons (pv 11) pa_nil)) (pv 4)) pa_nil)))) pss_nil))))))
    (pss_cons (ps_if (pt_cmpR (op_neD hu64) (pe_calD (c_after T) (hr.mono (by decide)) (pa_cons (pv 5) (pa_cons (pv 7) pa_nil))) (pe_callB cr_sortedI (by rfl) T.b_sorted (by decide +kernel) (pa_cons (pv 8) pa_nil)) (nomark _)) (pss_one (ps_ret pe_bl)) pss_nil)
    (pss_one (ps_ret (pe_cmpR op_eq (pe_ix ix_list (pe_cal (c_counts T) (hr.mono (by decide)) (pa_cons (pv 5) (pa_cons (pv 7) pa_nil))) (pe_un un_neg pe_int) (fun _ _ => rfl)) (J.pe_lenSet (by rfl) T.b_len (by rfl) T.b_set (pe_lc (own := [("_law_x", 10)]) (g := (gName 10)) (tt := tYes) (te := (tOp rModI (tVar 10) (tVar 9))) (by rfl) sc_law.nd (pi_seq (pv 8)) (blkOk_by (own := [("_law_x", 10)]) (N := N_law) (sc := defScope s_law) (by decide +kernel)) (fun _ _ _ _ _ => (pg_name (i := 10) sc_law.nd rfl (Or.inl rfl))) (fun _ _ _ _ _ => pts_nil) (fun _ _ _ _ _ => (pe_op op_mod (pv 10) (pv 9))))) (nomark _)))))))))))))))), ?_⟩
    dsimp only [cxOf, Cx.nox]
    walk_at "ws"
    refine ⟨a, ns, rfl, ha, fun S H1 s1 nS st => ?_⟩
    walk_at "ws"
    refine ⟨S, rfl, st, fun H2 hp ms ss j s2 nhp hhp m2 m48 hj bm zg hss => ?_⟩
    obtain ⟨lws, hh, tp12, per⟩ := half_round (by omega) hj zg hss
    generalize hws : ms.drop j ++ ms.take j = ws at *
    have bw : ∀ w ∈ ws ++ ws, 0 ≤ w ∧ w ≤ topW := fun w hw => by
      have : w ∈ ms := by
        rw [← hws] at hw
        simp only [List.mem_append] at hw
        rcases hw with (h | h) | (h | h)
        · exact List.mem_of_mem_drop h
        · exact List.mem_of_mem_take h
        · exact List.mem_of_mem_drop h
        · exact List.mem_of_mem_take h
      have := bm w this
      unfold topW
      omega
    walk_at "ws"
    refine w_cat hhp hhp (by rw [List.length_map]; omega) fun wp H3 nwp s3 hwp => ?_
    rw [← List.map_append] at hwp
    walk_at "ws"
    refine w_lenL ?_ (sqL hwp)
    rw [List.length_map]
    have lww : ((ws ++ ws).length : Int) = ms.length + ms.length := by rw [List.length_append]; omega
    walk_at "ws"
    have wok : WOk ((ws ++ ws).length : Int) (ws ++ ws) := twice_ok (by omega) (by omega) (by omega) fun m hm => bw m (List.mem_append_left _ hm)
    have per' : ∀ i, wAt (ws ++ ws).length (ws ++ ws) (i + ((ws ++ ws).length : Int) / 2) = wAt (ws ++ ws).length (ws ++ ws) i := fun i => by
      rw [show ((ws ++ ws).length : Int) / 2 = ms.length by omega]
      exact per i
    have ev : ((ws ++ ws).length : Int) % 2 = 0 := by omega
    generalize ws ++ ws = W2 at *
    have l4 : 4 ≤ (W2.length : Int) := by omega
    have l96 : (W2.length : Int) ≤ 96 := by omega
    refine ⟨rfl, ?_⟩
    walk_at "ws"
    refine ⟨wp, W2, rfl, .inl hwp, by omega, by omega, bw, hh, tp12, fun H4 tt rs s4 tA dr => ?_⟩
    walk_at "ws"
    refine w_listOf (sqa_l (s4 _ _ hwp)) fun lp H5 nlp s5 hlp => ?_
    walk_at "ws"
    refine ⟨rfl, rfl, fun x dx nx nd ne => ?_⟩
    have R : Rows W2.length rs := tA.rows
    have kp : Keeps (W2.length : Int) rs ((W2.length : Int) / 2) := dr.keeps hh R per'
    refine make_PartF (N := W2.length) (sq := some rs) (pu := none) (wo := some W2) nx nd (by omega) (by omega) ⟨tt, rfl, tA.same s5⟩ rfl ⟨lp, rfl, .inl hlp, wok⟩ (fun _ z => nomatch z) (.inl fun z => nomatch z) (fun rs' e => by cases e; exact ⟨ev, kp⟩) fun H6 dd s6 ndd hP => ⟨rfl, ?_⟩
    walk_at "ws"
    have hPu : PartU K H6 x W2.length (some rs) none := by
      obtain ⟨dx', kvs, wv, h1, h2, h3, h4⟩ := id hP
      exact ⟨dx', (dd, wv), kvs, h1, h2, h3⟩
    have hPv : PartV K H6 x W2.length (some W2) := hP.to.v
    have st6 : LawSt H6 S := (((((st.same s2).same s3).same s4).same s5).same s6)
    have hwp6 := s6 _ _ (s5 _ _ (s4 _ _ hwp))
    generalize hN : (W2.length : Int) = N at *
    have ok := hPu.tbl (by omega) (by omega)
    have htm : (("squeeze" : Str), (rs : Rws)) ∈ tabL (some rs) none := List.mem_singleton.mpr rfl
    have hpN : perP N (tabL (some rs) none) ∣ N / 2 := ok.dvd.mpr fun q hq => by
      rw [show q = (("squeeze" : Str), (rs : Rws)) from List.mem_singleton.mp hq]
      exact kp
    refine ⟨leb rfl, fun sqp H7 nsqp s7 hsqp => ?_⟩
    walk_at "ws"
    refine cl_L_draw (m := 13) (st6.same s7) (fun mn mn0 mn1 => ?_) (by decide) (by decide)
    refine ⟨S, sqp, N, mn, ["squeeze"], rfl, st6.same s7, by omega, by omega, hsqp, leb rfl, leb rfl, by omega, by omega, fun H8 pd vs ds s8 npd hpd hds hdl hdw htu => ?_⟩
    walk_at "ws"
    intro y dy ny ndy ney
    have dsq : ∀ q ∈ ds, q.1 = "squeeze" := fun q hq => by simpa using hdw q hq
    refine make_Plan (N := N) (p := pd) ny ndy (by omega) (by omega) (.inl hpd) hds (by omega) (fun q hq => .inr (dsq q hq)) fun H9 s9 hL => ⟨rfl, ?_⟩
    rw [htu.same] at hL
    have htab : ∀ q ∈ ds, ∃ r, (q.1, r) ∈ tabL (some rs) none := fun q hq => ⟨rs, by rw [dsq q hq]; exact htm⟩
    walk_at "ws"
    refine ⟨leb rfl, fun lf H10 nlf s10 hlf => ?_⟩
    walk_at "ws"
    have s69 : Same H6 H9 := (s7.trans s8).trans s9
    have hP9 := hPu.same s69
    obtain ⟨dxx, dwv, kvs, g1, g2, g3⟩ := id hP9
    have p0 := ok.pos
    refine ⟨x, dxx, _, rfl, s10 _ _ g1, x, N, some rs, none, rfl, hP9.same s10, by omega, by omega, ?_⟩
    walk_at "ws"
    refine w_ifnd (fun h => absurd (Int.emod_eq_zero_of_dvd hpN) h) (fun _ => ?_)
    walk_at "ws"
    refine ⟨x, dxx, _, rfl, s10 _ _ g1, x, N, some rs, none, rfl, hP9.same s10, fun H11 p11 s11 n11 h11 => ?_⟩
    walk_at "ws"
    refine ⟨leb rfl, fun p12 H12 n12 s12 h12 => ?_⟩
    walk_at "ws"
    refine w_neS1 (.lst (sqL (s12 _ _ h11)) (sqL h12) (paired0 (xs := [("squeeze" : Str)].map V.str) fun v hv => by obtain ⟨a, _, rfl⟩ := List.mem_map.mp hv; exact eq0_str)) ?_
    refine ⟨_, rfl, ?_⟩
    refine w_ifF ?_
    walk_at "ws"
    obtain ⟨f, hf, uf⟩ := lift_fn R
    have atw : ∀ i : Int, W2[(i % N).toNat]? = some (wAt N W2 i) := fun i => wAt_get (by omega) hN
    have s912 := s10.trans (s11.trans s12)
    refine forR1 (by omega) (fun i σ H' => Same H9 H' ∧ ∃ (ls : List Int) (o10 o11 o12 o13 o14 : Option V), H' lf = some (.lst (ls.map V.int)) ∧ ls.length ≤ i ∧ ls.Nodup ∧ (∀ v, v ∈ ls ↔ ∃ a b, 0 ≤ a ∧ a < (i : Int) ∧ CarT N (tabL (some rs) none) ds a b ∧ v = b % N) ∧ σ = [some (.ref a), some (.ref S), some (.ref hp), some (.ref wp), some (.int N), some (.ref x), some (.ref pd), some (.ref y), some (.ref lf), some (.int (perP N (tabL (some rs) none))), o10, o11, o12, o13, o14])
      ⟨s912, [], none, none, none, none, none, s12 _ _ (s11 _ _ hlf), Nat.le_refl _, .nil, (fun v => ⟨(fun h => nomatch h), fun ⟨a, b, h0, h1, _⟩ => absurd h1 (by omega)⟩), rfl⟩ ?_ ?_
    · rintro i σ H' hi ⟨s, ls, o10, o11, o12, o13, o14, hlf', lls, nd', mem, rfl⟩
      walk_at "ws"
      have hpd' := s _ _ (s9 _ _ hpd)
      refine forS H' (sqa_l hpd') (fun j σ H'' => Same H' H'' ∧ ∃ (z : Int) (o12 o13 o14 : Option V), CarT N (tabL (some rs) none) (ds.take j) i z ∧ σ = [some (.ref a), some (.ref S), some (.ref hp), some (.ref wp), some (.int N), some (.ref x), some (.ref pd), some (.ref y), some (.ref lf), some (.int (perP N (tabL (some rs) none))), some (.int i), some (.int z), o12, o13, o14])
        ⟨Same.refl _, i, _, _, _, by rw [List.take_zero]; exact rfl, rfl⟩ (fun i σ H' _ h => h.1) ?_ ?_
      · rintro j v σ H'' hx' ⟨sj, z, o12, o13, o14, hc, rfl⟩
        obtain ⟨w0, c, td, e1, rfl, e2⟩ := deeds_get (deeds_same s9 hds) hx'
        have e0 := dsq _ (List.mem_of_getElem? e1)
        dsimp only at e0
        subst e0
        have s9j := s.trans sj
        have hwp' := s9j _ _ (s69 _ _ hwp6)
        refine w_gTup ?_ (sqT (s9j _ _ e2)) rfl
        walk_at "ws"
        refine ⟨wp, N, z - c, f (z - c), W2, rs, rfl, .inl hwp', hN, by omega, hh, dr, R, hf _, ?_⟩
        walk_at "ws"
        have hPj := hPv.same (s69.trans s9j)
        have wd : ∀ (u : Int) (Q : VK), Q (.int (wAt N W2 u)) H'' → sp_Part_width K [.ref x, .int u] H'' Q E0 := fun u Q q => ⟨x, N, u, W2, rfl, hPj, by omega, fun w hw => by
          rw [atw] at hw
          cases hw
          exact q⟩
        refine ⟨x, dxx, _, rfl, s9j _ _ g1, pfw_width _ _ _, ?_⟩
        walk_at "ws"
        refine wd _ _ ?_
        walk_at "ws"
        have m0 := Int.emod_nonneg (f (z - c)) (show N ≠ 0 by omega)
        refine w_ixL (v := .int (wAt N W2 (f (z - c)))) ?_ (sqL hwp') (atI_of m0 (by rw [List.getElem?_map, atw]; rfl))
        walk_at "ws"
        refine w_ifnd (fun h => absurd rfl h) (fun _ => ?_)
        walk_at "ws"
        refine ⟨x, dxx, _, rfl, s9j _ _ g1, pfw_width _ _ _, ?_⟩
        walk_at "ws"
        refine wd _ _ ?_
        walk_at "ws"
        refine ⟨x, dxx, _, rfl, s9j _ _ g1, pfw_width _ _ _, ?_⟩
        walk_at "ws"
        refine wd _ _ ?_
        walk_at "ws"
        have low := dr.low hh R (hf (z - c))
        refine w_ifd (fun h => absurd h (by omega)) (fun _ => ?_)
        walk_at "ws"
        refine ⟨sj, _, _, _, _, ?_, rfl⟩
        rw [List.take_add_one, e1]
        exact CarT.snoc.mpr ⟨z, hc, rs, _, htm, hf _, rfl⟩
      · rintro σ H'' ⟨sj, z, o12, o13, o14, hc, rfl⟩
        rw [show vs.length = ds.length from Paired.length hds, List.take_length] at hc
        have s9j := s.trans sj
        have hlf2 := sj _ _ hlf'
        walk_at "ws"
        refine ⟨x, y, i, N, some rs, none, ds, rfl, hP9.same s9j, hL.same s9j, htab, fun H3 v s3 hv => ?_⟩
        obtain rfl : v = z := (carT_iff.mp hv).unique ok hc
        walk_at "ws"
        refine w_ifnd (fun h => absurd rfl h) (fun _ => ?_)
        walk_at "ws"
        have memS : ∀ v', (∃ a b, 0 ≤ a ∧ a < ((i + 1 : Nat) : Int) ∧ CarT N (tabL (some rs) none) ds a b ∧ v' = b % N) ↔ v' ∈ ls ∨ v' = v % N := fun v' => by
          rw [mem]
          constructor
          · rintro ⟨a, b, h0, h1, h2, rfl⟩
            rcases Int.lt_or_eq_of_le (show a ≤ i by omega) with lt | rfl
            · exact .inl ⟨a, b, h0, lt, h2, rfl⟩
            · exact .inr (by rw [h2.unique ok hc])
          · rintro (⟨a, b, h0, h1, h2, rfl⟩ | rfl)
            · exact ⟨a, b, h0, by omega, h2, rfl⟩
            · exact ⟨i, v, by omega, by omega, hc, rfl⟩
        have hlf3 := s3 _ _ hlf2
        refine w_niI (sqL hlf3) ?_
        walk_at "ws"
        refine w_ifnd (fun hin => ?_) (fun hin => ?_)
        · walk_at "ws"
          refine ⟨.inl ⟨rfl, _, sqL hlf3⟩, ?_⟩
          walk_at "ws"
          refine w_append ?_ hlf3 (szlt (by rw [List.length_map]; omega))
          refine ⟨same_mut (s9j.trans s3) nlf, ls ++ [v % N], _, _, _, _, _, by rw [upd_same, List.map_append]; rfl, by rw [List.length_append]; exact Nat.succ_le_succ lls, List.nodup_append.mpr ⟨nd', by simp, fun u hu' b hb z => hin (by rw [← List.mem_singleton.mp hb, ← z]; exact hu')⟩, fun v' => ?_, rfl⟩
          rw [memS, List.mem_append, List.mem_singleton]
        · walk_at "ws"
          refine ⟨s9j.trans s3, ls, _, _, _, _, _, hlf3, by omega, nd', fun v' => ?_, rfl⟩
          rw [memS]
          exact ⟨.inl, fun h => h.elim id fun e => e ▸ hin⟩
    · rintro σ H' ⟨s, ls, o10, o11, o12, o13, o14, hlf', lls, nd', mem, rfl⟩
      walk_at "ws"
      refine ⟨x, y, N, some rs, none, ds, rfl, hP9.same s, by omega, by omega, hL.same s, htab, fun H3 ap as_ s3 nap hap aft => ?_⟩
      walk_at "ws"
      refine ⟨lf, ls, rfl, sqL (s3 _ _ hlf'), fun ns' sp pm so nsp => ?_⟩
      have s4 := same_new (o := .lst (ns'.map V.int)) nsp
      have eNN : ((N.toNat : Nat) : Int) = N := by omega
      have e2 : as_ = ns' := by
        refine asc_eq aft.1 ((so.and (pm.nodup_iff.mpr nd')).imp fun h => by omega) fun v => ?_
        rw [aft.2, pm.mem_iff, mem, eNN]
      refine w_neIL (sqL (s4 _ _ hap)) (sqL upd_same) ?_
      rw [decide_eq_true e2]
      walk_at "ws"
      have s34 := s.trans (s3.trans s4)
      refine ⟨x, y, N, some rs, none, ds, rfl, hP9.same s34, by omega, by omega, hL.same s34, htab, fun H5 cp nss s5 ncp hcp hle => ?_⟩
      walk_at "ws"
      obtain ⟨nl, hnl⟩ : ∃ nl, nss[ds.length]? = some nl := ⟨_, List.getElem?_eq_getElem (by rw [hle.1]; omega)⟩
      have Ll := hle.2 _ _ hnl
      rw [List.take_length] at Ll
      refine w_ixL (v := .int (nl.length : Int)) ?_ (sqL hcp) (atI_last2 (by
        rw [List.getLast?_eq_getElem?, List.length_map, List.length_map, hle.1, Nat.add_sub_cancel, List.getElem?_map, List.getElem?_map, hnl]
        rfl))
      walk_at "ws"
      have hlf5 := s5 _ _ (s4 _ _ (s3 _ _ hlf'))
      refine lcS (sqa_l hlf5) (fun i acc H' => acc = ((ls.take i).map fun v => v % perP N (tabL (some rs) none)).map V.int) (fun _ _ => rfl) (fun Dl j v acc H'' hD hx s6 hl' pv => ?_) (fun Dl acc H'' hD s6 hl' pv => ?_)
      · rw [List.getElem?_map] at hx
        obtain ⟨v, hv, rfl⟩ := Option.map_eq_some_iff.mp hx
        have lj := (List.getElem?_eq_some_iff.mp hv).1
        walk_at "ws"
        refine ⟨rfl, ?_⟩
        walk_at "ws"
        refine lc_step hD s6 hl' (by rw [pv]; simp; omega) ?_
        show _ = _
        rw [pv, take_map_succ hv, List.map_append]
        rfl
      · rw [List.length_map, List.take_length] at pv
        refine ⟨Dl, ls.map fun v => v % perP N (tabL (some rs) none), rfl, sqL (by rw [hl', pv]), by rw [List.length_map]; omega, fun ms nd'' mem'' => ?_⟩
        have hms : nl.length = ms.length := same_len (asc_nodup Ll.1) nd'' fun kk => by
          rw [mem'', res_iff ok Ll, List.mem_map]
          constructor
          · rintro ⟨a, b, h0, h1, h2, rfl⟩
            exact ⟨b % N, (mem _).mpr ⟨a, b, h0, by omega, h2, rfl⟩, ok.modN b⟩
          · rintro ⟨v, hv, rfl⟩
            obtain ⟨a, b, h0, h1, h2, rfl⟩ := (mem v).mp hv
            exact ⟨a, b, h0, by omega, h2, ok.modN b⟩
        walk_at "ws"
        rw [decide_eq_true (show (nl.length : Int) = (ms.length : Int) by omega)]
        exact k _

end
end Qk38
namespace Qk38
open PySem PySem.Spec PyProof.Rows L2 J
theorem facts_ {P : Program} {w : World} {K : PySem.W.Frag} {h : Heap} {mg : Str → Option Value} {f : Addr} (hP : PrOk P) (X : K.In h) (G : h.Ns mainGlobals mg) (hfa : mg ("law" : Str) = some (.ref f)) (c : SaysJ fa_ fn_ K) :
    ∃ fd : FuncData, (∀ (s : Shared) (v : Value), BindsTo s fd ⟨[v], []⟩ [("_law_script", v)]) ∧ ∀ base : Heap, K.In base → base.Ns mainGlobals mg → FnOk P w K mg base CX0 8 f fd ["_law_script"] (spLaw K) := by
  have T := env_of hP X G c
  obtain ⟨fd, F⟩ := T.s_law
  have e := hfa.symm.trans T.g_law
  cases e
  have b := FunD.bindsA (ps := ["_law_script"]) F fun _ _ _ _ _ _ us hl => match us, hl with | [_], _ => rfl
  exact ⟨fd, fun s v => b s [v] rfl, fun base _ _ => f_law T F⟩
end Qk38
theorem PySem.Challenge.cw_jawturns_k38_whole_jaws_close_holds : PySem.Challenge.rw_jawturns_k38_whole_jaws_close.Holds := by
  exact Qk38E.early_ fun hP X G e c => Qk38.facts_ hP X G e c

