import PyProof.Rows.All
import Wide.All
import OpenK.AllK
import Wide.FinOn
import KE.KSuper
import KE.KExcSuper
import HandS.Base
import HandS.Call
import HandS.Exc
import HandS.ExcInit
import HandS.ExcSuper
import HandS.Nested
import HandS.ClsMeth
import HandS.ExcOwn
import HandS.ExcIs
import HandS.ExcField
import HandS.OwnEq
import HandS.More
import HandS.MakeKw
import HandS.Style
import HandS.StrMore
import HandS.SlotsOwn
import KE.KCallOwn
import PyProof.Rows.StrRev
import HandS.HeadHook1
import HandS.HeadHook2
import HandS.ExcCtx
import HandS.HotCalls
import HandS.Words
import HandS.Hot
import HandS.Iter
import PyProof.StrLoop
import OpenK.KOps
import HandS.ListItems
import HandS.ListEq
import HandS.Conv
import KE.KDictList
import PyProof.EqKinds
import HandS.Property
import HandS.Star
import KE.KMinBuiltin
import HandS.FltList
import HandS.SortKw
import HandS.ForMost
import KE.IntTextLaws
import PyProof.MeetsSeq2
import PyProof.DictTable
import HandS.Codes
import HandS.Translate
import HandS.Defaults
import HandS.IsInst
import HandS.Wide
import HandS.WideBits
import HandS.EndBits
import HandS.HeadEnd
import HandS.Flow
import HandS.Steps
import HandS.Evl
import HandS.Walk
import HandS.Replace
import HandS.ReplaceLit
import HandS.ReplaceDef
import HandS.FStr
import HandS.WordsExc
import HandS.Head0
import HandS.Head1
import HandS.Head2
import KE.KStateDown
import HandS.HeadWalk
import PySem.Challenge.RW_hopkeep_k26_directives_read
set_option Elab.async false
set_option linter.all false
set_option maxRecDepth 100000
set_option maxHeartbeats 0
namespace ZX
open PySem PySem.Spec PyProof.Rows L2 He
abbrev FnC : Type := Option (Str × Str × Arguments × FuncBody × Scope × Addr × List Str × Addr)
def fnC (K : PySem.W.Frag) (a : Addr) : FnC := match K.lookup a with
  | some ⟨_, _, .func fd, _⟩ => some (fd.name, fd.qualname, fd.params, fd.body, fd.scope, fd.globals, fd.closure.map (·.1), fd.builtins)
  | _ => none
inductive Pl where
  | glo (x : Str)
  | met (x m : Str)
  | sta (x m : Str)
  | rcd (T : String) (x m : Str)
def Pl.ad (K : PySem.W.Frag) : Pl → Addr
  | .glo x => ga K x
  | .met x m => ma K (ga K x) m
  | .sta x m => match PySem.W.recIn K (ma K (ga K x) m) "staticmethod" with
    | some (.ref g :: _) => g
    | _ => 0
  | .rcd T x m => match PySem.W.recIn K (ma K (ga K x) m) T with
    | some (.ref g :: _) => g
    | _ => 0
structure DefA where
  at_ : Pl
  name : Str
  qual : Str
  params : Arguments
  body : List Stmt
  scope : Scope
  dfl : List Dv
  clo : List Str
def DefA.val (d : DefA) : FnC := some (d.name, d.qual, d.params, .stmts d.body, d.scope, mainGlobals, d.clo, builtinsNs)
def DefA.dvs (K : PySem.W.Frag) (d : DefA) : List V := d.dfl.map (Dv.v K)
def DefA.ok (K : PySem.W.Frag) (d : DefA) : Bool := PySem.W.keepIn K (.ref (d.at_.ad K)) && (match K.lookup (d.at_.ad K) with
  | some ⟨_, _, .func fd, _⟩ => PySem.W.codeIn K fd.code d.qual && dflB K fd.defaults (d.dvs K)
  | _ => false)
def ccOf (K : PySem.W.Frag) (a : Addr) : Addr := match K.lookup a with
  | some ⟨_, _, .func fd, _⟩ => (match fd.closure with
    | [(_, c)] => c
    | _ => 0)
  | _ => 0
def cdOf (K : PySem.W.Frag) (a : Addr) : Addr := match K.lookup a with
  | some ⟨_, _, .func fd, _⟩ => (match fd.code with
    | .ref c => c
    | _ => 0)
  | _ => 0
def oexClsB (K : PySem.W.Frag) (C : Addr) : Bool := match K.lookup C with
  | some ⟨.type "type", _, .cls cd, sl⟩ => (match cd.mro, sl.toList with
    | .ref C' :: bm, [_, _, _, _, some (.builtin n), _] => C' == C && n == "ValueError.__new__" && !cd.hasDel && cd.hasDict && HandSPX.refsVE bm
    | _, _ => false)
  | _ => false
def errB (K : PySem.W.Frag) (fl : Str) (x : Str) : Bool :=
  oexClsB K (ga K x) && (eqO (PySem.W.findIn K (.ref (ga K x)) "__setattr__") (some (some (.builtin "object.__setattr__"))) && (decide (PySem.W.subIn K (.ref (ga K x)) (.type "BaseException") = some true) && (decide (PySem.W.typeIn K (.ref (ga K x)) = some (.type "type")) && (PySem.W.keepIn K (.ref (ga K x)) &&
  (decide (PySem.W.subIn K (.ref (ga K x)) (.type "ValueError") = some true) && (decide (PySem.W.mroIn K (ga K x) (.ref (ga K x)) = some true) && (decide (PySem.W.ks_superIn K (ga K x) (ga K x) "__init__" = some (some (.builtin "ValueError.__init__"))) &&
  (eqO (PySem.W.findIn K (.ref (ga K x)) "__init__") (some (some (.ref (ma K (ga K x) "__init__")))) && (decide (PySem.W.typeIn K (.ref (ma K (ga K x) "__init__")) = some (.type "function")) &&
  ((match K.lookup (ccOf K (ma K (ga K x) "__init__")) with
    | some ⟨_, _, .cell (some v), _⟩ => decide (v = .ref (ga K x))
    | _ => false) && (match K.lookup (cdOf K (ma K (ga K x) "__init__")) with
    | some ⟨_, _, .fields vs, _⟩ => (match (vs[2]? : Option Value) with
      | some (Value.str f _) => decide (fl = f)
      | _ => false)
    | _ => false)))))))))))
def excCB (K : PySem.W.Frag) (D : Addr) : Bool := eqO (PySem.W.findIn K (.ref D) "__getattribute__") (some (some (.builtin "BaseException.__getattribute__"))) && (eqO (PySem.W.findIn K (.ref D) "__getattr__") (some none) && (decide (PySem.W.subIn K (.ref D) (.type "BaseException") = some true) && (PySem.W.hasDictIn K D &&
  (eqO (PySem.W.findIn K (.ref D) "__class__") (some (some (.builtin "object.__class__"))) && (eqO (PySem.W.specialIn K (.builtin "object.__class__") "__get__") (some (some (.builtin "getset_descriptor.__get__"))) && (decide (PySem.W.takesIn K (.builtin "object.__class__") = some true) && decide (PySem.W.mroIn K D (.type "object") = some true)))))))
def insCB (K : PySem.W.Frag) (D : Addr) : Bool := eqO (PySem.W.findIn K (.ref D) "__class__") (some (some (.builtin "object.__class__"))) && (eqO (PySem.W.specialIn K (.builtin "object.__class__") "__get__") (some (some (.builtin "getset_descriptor.__get__"))) && (decide (PySem.W.takesIn K (.builtin "object.__class__") = some true) && decide (PySem.W.mroIn K D (.type "object") = some true)))
def statB (K : PySem.W.Frag) (x m : Str) : Bool := PySem.W.readsIn K (ga K x) (.type "type") && (eqO (PySem.W.specialIn K (.ref (ga K x)) "__getattribute__") (some (some (.builtin "type.__getattribute__"))) &&
  ((match PySem.W.findCls K (.ref (ga K x)) (.type "type") m with
    | some (.get (.builtin n) (.ref p) .none (.ref C)) => decide (n = "staticmethod.__get__") && (decide (p = ma K (ga K x) m) && decide (C = ga K x))
    | _ => false) && ((match PySem.W.recIn K (ma K (ga K x) m) "staticmethod" with
    | some (.ref g :: _) => decide (g = (Pl.sta x m).ad K)
    | _ => false) && PySem.W.keepIn K (.ref ((Pl.sta x m).ad K)))))
def asS (g : Addr → Option Obj) : Nat → List Addr
  | 0 => [mainGlobals, cStatics]
  | n + 1 => growD g (asS g n)
abbrev AlA : Type := Bool × List FnC
def obsA (fa : List Fa) (ex : PySem.W.Frag → Bool) (fn : List DefA) (K : PySem.W.Frag) : AlA := ((fa.all fun f => f.ok K) && (ex K && fn.all fun d => d.ok K), fn.map fun d => fnC K (d.at_.ad K))
def valA (fn : List DefA) : AlA := (true, fn.map DefA.val)
def SaysA (fa : List Fa) (ex : PySem.W.Frag → Bool) (fn : List DefA) (K : PySem.W.Frag) : Prop := obsA fa ex fn K = valA fn
def obsAG (n : Nat) (fa : List Fa) (ex : PySem.W.Frag → Bool) (fn : List DefA) (g : Addr → Option Obj) : AlA := obsA fa ex fn (frG g (asS g n))
def hookA (n : Nat) (fa : List Fa) (ex : PySem.W.Frag → Bool) (fn : List DefA) : PySem.W.Hook where
  α := AlA
  obs := fun s => obsAG n fa ex fn s.heap.get?
  val := fun _ => valA fn
  says := fun _ h => ∃ K : PySem.W.Frag, K.In h ∧ SaysA fa ex fn K
  of := fun _ _ e => ⟨_, frG_in, e⟩
  keeps := fun _ _ _ ⟨K, hK, c⟩ k => ⟨K, PySem.W.Frag.In.keeps hK k, c⟩
theorem obsAG_eq {n : Nat} {fa : List Fa} {ex : PySem.W.Frag → Bool} {fn : List DefA} {g : Addr → Option Obj} {s : Shared} (h : ∀ a, g a = s.heap.get? a) : obsAG n fa ex fn g = (hookA n fa ex fn).obs s := by
  have e : g = s.heap.get? := funext h
  rw [e] <;> rfl
def readB (K : PySem.W.Frag) (x : Str) : Bool := PySem.W.readsIn K (ga K x) (.type "type") && eqO (PySem.W.specialIn K (.ref (ga K x)) "__getattribute__") (some (some (.builtin "type.__getattribute__")))
def cfnB (K : PySem.W.Frag) (x m : Str) : Bool := readB K x && ((match PySem.W.findCls K (.ref (ga K x)) (.type "type") m with
    | some (.val (.ref g)) => decide (g = ma K (ga K x) m)
    | _ => false) && PySem.W.keepIn K (.ref (ma K (ga K x) m)))
def cintB (K : PySem.W.Frag) (x m : Str) (n : Int) : Bool := match PySem.W.findCls K (.ref (ga K x)) (.type "type") m with
    | some (.val (.int i _)) => decide (i = n)
    | _ => false
def ctOf (K : PySem.W.Frag) (x m : Str) : Addr := match PySem.W.findCls K (.ref (ga K x)) (.type "type") m with
    | some (.val (.ref p)) => p
    | _ => 0
def strVs : List Value → List Str → Bool
  | [], [] => true
  | .str z _ :: vs, y :: ys => decide (z = y) && strVs vs ys
  | _, _ => false
def ctupB (K : PySem.W.Frag) (x m : Str) (zs : List Str) : Bool := (match PySem.W.findCls K (.ref (ga K x)) (.type "type") m with
    | some (.val (.ref p)) => decide (p = ctOf K x m)
    | _ => false) && (match K.lookup (ctOf K x m) with
    | some ⟨.type t, _, .seq its _, _⟩ => decide (t = "tuple") && (decide (its.size ≤ 100) && strVs its.toList zs)
    | _ => false)
def cmetB (K : PySem.W.Frag) (x m : Str) : Bool := (match PySem.W.findCls K (.ref (ga K x)) (.type "type") m with
    | some (.get (.builtin n) (.ref p) .none (.ref C)) => decide (n = "classmethod.__get__") && (decide (p = ma K (ga K x) m) && decide (C = ga K x))
    | _ => false) && ((match PySem.W.recIn K (ma K (ga K x) m) "classmethod" with
    | some (.ref g :: _) => decide (g = (Pl.rcd "classmethod" x m).ad K)
    | _ => false) && PySem.W.fnIn K ((Pl.rcd "classmethod" x m).ad K))
def propB (K : PySem.W.Frag) (x m : Str) : Bool := eqO (PySem.W.findIn K (.ref (ga K x)) m) (some (some (.ref (ma K (ga K x) m)))) && (eqO (PySem.W.specialIn K (.ref (ma K (ga K x) m)) "__get__") (some (some (.builtin "property.__get__"))) &&
  (decide (PySem.W.takesIn K (.ref (ma K (ga K x) m)) = some true) && (match PySem.W.recIn K (ma K (ga K x) m) "property" with
    | some (.ref g :: _) => decide (g = (Pl.rcd "property" x m).ad K)
    | _ => false)))
def kwOf (K : PySem.W.Frag) (a : Addr) : Value := match K.lookup a with
  | some ⟨_, _, .func fd, _⟩ => fd.kwdefaults
  | _ => .none
def frontOf (g : Addr → Option Obj) (as : List Addr) : List Addr :=
  (mainGlobals :: cStatics :: as.filterMap fun a => match g a with
    | some o => (match o.data with | .cls _ => some a | _ => none)
    | none => none) ++ ((as.filterMap fun a => match g a with
    | some o => (match o.data with | .cls cd => some cd.ns | _ => none)
    | none => none) ++ as.flatMap fun a => match g a with
    | some o => (match o.data with
      | .func fd => (match fd.code with | .ref c => [a, c] | _ => [a])
      | _ => [])
    | none => [])
def asQ (g : Addr → Option Obj) (n : Nat) : List Addr := frontOf g (asS g n) ++ asS g n
def obsBG (n : Nat) (fa : List Fa) (ex : PySem.W.Frag → Bool) (fn : List DefA) (g : Addr → Option Obj) : AlA := obsA fa ex fn (frG g (asQ g n))
def hookB (n : Nat) (fa : List Fa) (ex : PySem.W.Frag → Bool) (fn : List DefA) : PySem.W.Hook where
  α := AlA
  obs := fun s => obsBG n fa ex fn s.heap.get?
  val := fun _ => valA fn
  says := fun _ h => ∃ K : PySem.W.Frag, K.In h ∧ SaysA fa ex fn K
  of := fun _ _ e => ⟨_, frG_in, e⟩
  keeps := fun _ _ _ ⟨K, hK, c⟩ k => ⟨K, PySem.W.Frag.In.keeps hK k, c⟩
theorem obsBG_eq {n : Nat} {fa : List Fa} {ex : PySem.W.Frag → Bool} {fn : List DefA} {g : Addr → Option Obj} {s : Shared} (h : ∀ a, g a = s.heap.get? a) : obsBG n fa ex fn g = (hookB n fa ex fn).obs s := by
  have e : g = s.heap.get? := funext h
  rw [e] <;> rfl
def hookU : PySem.W.Hook where
  α := Unit
  obs := fun _ => ()
  val := fun _ => ()
  says := fun _ _ => True
  of := fun _ _ _ => trivial
  keeps := fun _ _ _ _ _ => trivial
def obU (s : PySem.W.SharedT) : Unit := ()
def obF (n : Nat) (fa : List Fa) (ex : PySem.W.Frag → Bool) (fn : List DefA) (s : PySem.W.SharedT) : Bool := (obsBG n fa ex fn (HandSHeadRun.getT s)).1
def obD (n : Nat) (fa : List Fa) (ex : PySem.W.Frag → Bool) (fn : List DefA) (s : PySem.W.SharedT) : List FnC := (obsBG n fa ex fn (HandSHeadRun.getT s)).2
def RunLooks (r : PySem.W.OpenRow) (M : Nat) (w : World) {β : Type} (f : PySem.W.SharedT → β) (v : β) : Prop := ∀ o : PySem.OsState, (HandSHeadRun.endF (HandSHeadRun.stepQ (HandSHeadRun.denQ HandSHeadRun.tabQ) r.prog w) M r.prog w o).map f = some v
theorem look_three {S A B C D : Type} {x : Option S} {f : S → A} {g : S → B} {c : S → C} {d : S → D} {t : S → Unit} {u : A} {v : B} {i : C} {j : D} (h0 : x.map (fun s => (f s, g s, t s)) = some (u, v, ())) (h1 : x.map c = some i) (h2 : x.map d = some j) : x.map (fun s => (f s, g s, (c s, d s))) = some (u, v, (i, j)) := by
  cases x with
  | none => cases h1
  | some s =>
    have e0 := Option.some.inj h0
    have a1 : f s = u := congrArg (fun z => z.1) e0
    have a2 : g s = v := congrArg (fun z => z.2.1) e0
    have a3 : c s = i := Option.some.inj h1
    have a4 : d s = j := Option.some.inj h2
    show some (f s, g s, (c s, d s)) = _
    rw [a1, a2, a3, a4]
theorem run_three {r : PySem.W.OpenRow} {q : Program} {M n : Nat} {loose : List PySem.Str} {w : World} {fa : List Fa} {ex : PySem.W.Frag → Bool} {fn : List DefA} (h0 : HandSHeadRun.RunEq r q hookU obU M loose w) (h1 : RunLooks r M w (obF n fa ex fn) true) (h2 : RunLooks r M w (obD n fa ex fn) (fn.map DefA.val)) :
    HandSHeadRun.RunEq r q (hookB n fa ex fn) (fun s => obsBG n fa ex fn (HandSHeadRun.getT s)) M loose w := fun o => look_three (h0 o) (h1 o) (h2 o)
end ZX
set_option maxHeartbeats 0
namespace Z
open PySem PySem.Spec PyProof.Rows L2
def top (i : Nat) : Stmt := PySem.Challenge.pw_hopkeep_k26_directives_read.main.body.getD i (.Pass ⟨0, 0, 0, 0⟩)
def cbody : Stmt → List Stmt
  | .ClassDef _ _ _ b _ _ _ _ _ _ _ => b
  | _ => []
def inC (i j : Nat) : Stmt := (cbody (top i)).getD j (.Pass ⟨0, 0, 0, 0⟩)
abbrev s_wall : Stmt := top 0
abbrev s_consists_of : Stmt := top 10
abbrev s_is_plain : Stmt := top 11
abbrev s_is_plain_lines : Stmt := top 12
abbrev s_is_path : Stmt := top 13
abbrev s_is_word : Stmt := top 14
abbrev s_is_field_name : Stmt := top 15
abbrev s_is_value : Stmt := top 16
abbrev s_list_elements : Stmt := top 17
abbrev s_read_number : Stmt := top 18
abbrev s_least_number : Stmt := top 21
abbrev s_least_lifetime : Stmt := top 22
abbrev s_is_without_number : Stmt := top 23
abbrev s_are_fields : Stmt := top 31
abbrev s_is_body : Stmt := top 32
abbrev s_law_bag : Stmt := top 34
abbrev s_law_take : Stmt := top 35
abbrev s_law_number : Stmt := top 36
abbrev s_law_plain : Stmt := top 37
abbrev s_law_odd : Stmt := top 38
abbrev s_law_near : Stmt := top 39
abbrev s_law_element : Stmt := top 40
abbrev s_law_padded : Stmt := top 41
abbrev s_law_spoil : Stmt := top 42
abbrev s_law_texts : Stmt := top 43
abbrev s_law_heads : Stmt := top 44
abbrev s_law_joined : Stmt := top 45
abbrev s_law_digits : Stmt := top 46
abbrev s_law_least : Stmt := top 47
abbrev s_law_due : Stmt := top 48
abbrev s_law_told : Stmt := top 49
abbrev s_law_same : Stmt := top 50
abbrev s_law_all_same : Stmt := top 51
abbrev s_law_many_right : Stmt := top 52
abbrev s_law : Stmt := top 53
abbrev s_Di : Stmt := inC 20 0
abbrev s_Dr : Stmt := inC 20 1
abbrev s_Mi : Stmt := inC 28 2
abbrev s_Rs : Stmt := inC 30 1
abbrev s_Mv : Stmt := inC 28 4
abbrev s_Mj : Stmt := inC 28 5
abbrev s_Ri : Stmt := inC 29 1
abbrev s_Do : Stmt := inC 20 2
def stL : List Str := ["ok", "part", "same", "done", "missing", "failed", "norange", "unkept", "error"]
def mdL : List Str := ["get", "put", "delete"]
/-! ### the head: facts by names, the run -/
def d_wall : ZX.DefA := ⟨.glo "_wall", "_wall", "_wall", L2.defArgs s_wall, L2.defBody s_wall, L2.defScope s_wall, [], []⟩
def d_consists_of : ZX.DefA := ⟨.glo "consists_of", "consists_of", "consists_of", L2.defArgs s_consists_of, L2.defBody s_consists_of, L2.defScope s_consists_of, [], []⟩
def d_is_plain : ZX.DefA := ⟨.glo "is_plain", "is_plain", "is_plain", L2.defArgs s_is_plain, L2.defBody s_is_plain, L2.defScope s_is_plain, [], []⟩
def d_is_plain_lines : ZX.DefA := ⟨.glo "is_plain_lines", "is_plain_lines", "is_plain_lines", L2.defArgs s_is_plain_lines, L2.defBody s_is_plain_lines, L2.defScope s_is_plain_lines, [], []⟩
def d_is_path : ZX.DefA := ⟨.glo "is_path", "is_path", "is_path", L2.defArgs s_is_path, L2.defBody s_is_path, L2.defScope s_is_path, [], []⟩
def d_is_word : ZX.DefA := ⟨.glo "is_word", "is_word", "is_word", L2.defArgs s_is_word, L2.defBody s_is_word, L2.defScope s_is_word, [], []⟩
def d_is_field_name : ZX.DefA := ⟨.glo "is_field_name", "is_field_name", "is_field_name", L2.defArgs s_is_field_name, L2.defBody s_is_field_name, L2.defScope s_is_field_name, [], []⟩
def d_is_value : ZX.DefA := ⟨.glo "is_value", "is_value", "is_value", L2.defArgs s_is_value, L2.defBody s_is_value, L2.defScope s_is_value, [], []⟩
def d_list_elements : ZX.DefA := ⟨.glo "list_elements", "list_elements", "list_elements", L2.defArgs s_list_elements, L2.defBody s_list_elements, L2.defScope s_list_elements, [], []⟩
def d_read_number : ZX.DefA := ⟨.glo "read_number", "read_number", "read_number", L2.defArgs s_read_number, L2.defBody s_read_number, L2.defScope s_read_number, [], []⟩
def d_least_number : ZX.DefA := ⟨.glo "least_number", "least_number", "least_number", L2.defArgs s_least_number, L2.defBody s_least_number, L2.defScope s_least_number, [], []⟩
def d_least_lifetime : ZX.DefA := ⟨.glo "least_lifetime", "least_lifetime", "least_lifetime", L2.defArgs s_least_lifetime, L2.defBody s_least_lifetime, L2.defScope s_least_lifetime, [], []⟩
def d_is_without_number : ZX.DefA := ⟨.glo "is_without_number", "is_without_number", "is_without_number", L2.defArgs s_is_without_number, L2.defBody s_is_without_number, L2.defScope s_is_without_number, [], []⟩
def d_are_fields : ZX.DefA := ⟨.glo "are_fields", "are_fields", "are_fields", L2.defArgs s_are_fields, L2.defBody s_are_fields, L2.defScope s_are_fields, [], []⟩
def d_is_body : ZX.DefA := ⟨.glo "is_body", "is_body", "is_body", L2.defArgs s_is_body, L2.defBody s_is_body, L2.defScope s_is_body, [], []⟩
def d_law_bag : ZX.DefA := ⟨.glo "_law_bag", "_law_bag", "_law_bag", L2.defArgs s_law_bag, L2.defBody s_law_bag, L2.defScope s_law_bag, [], []⟩
def d_law_take : ZX.DefA := ⟨.glo "_law_take", "_law_take", "_law_take", L2.defArgs s_law_take, L2.defBody s_law_take, L2.defScope s_law_take, [], []⟩
def d_law_number : ZX.DefA := ⟨.glo "_law_number", "_law_number", "_law_number", L2.defArgs s_law_number, L2.defBody s_law_number, L2.defScope s_law_number, [], []⟩
def d_law_plain : ZX.DefA := ⟨.glo "_law_plain", "_law_plain", "_law_plain", L2.defArgs s_law_plain, L2.defBody s_law_plain, L2.defScope s_law_plain, [], []⟩
def d_law_odd : ZX.DefA := ⟨.glo "_law_odd", "_law_odd", "_law_odd", L2.defArgs s_law_odd, L2.defBody s_law_odd, L2.defScope s_law_odd, [], []⟩
def d_law_near : ZX.DefA := ⟨.glo "_law_near", "_law_near", "_law_near", L2.defArgs s_law_near, L2.defBody s_law_near, L2.defScope s_law_near, [], []⟩
def d_law_element : ZX.DefA := ⟨.glo "_law_element", "_law_element", "_law_element", L2.defArgs s_law_element, L2.defBody s_law_element, L2.defScope s_law_element, [], []⟩
def d_law_padded : ZX.DefA := ⟨.glo "_law_padded", "_law_padded", "_law_padded", L2.defArgs s_law_padded, L2.defBody s_law_padded, L2.defScope s_law_padded, [], []⟩
def d_law_spoil : ZX.DefA := ⟨.glo "_law_spoil", "_law_spoil", "_law_spoil", L2.defArgs s_law_spoil, L2.defBody s_law_spoil, L2.defScope s_law_spoil, [], []⟩
def d_law_texts : ZX.DefA := ⟨.glo "_law_texts", "_law_texts", "_law_texts", L2.defArgs s_law_texts, L2.defBody s_law_texts, L2.defScope s_law_texts, [], []⟩
def d_law_heads : ZX.DefA := ⟨.glo "_law_heads", "_law_heads", "_law_heads", L2.defArgs s_law_heads, L2.defBody s_law_heads, L2.defScope s_law_heads, [], []⟩
def d_law_joined : ZX.DefA := ⟨.glo "_law_joined", "_law_joined", "_law_joined", L2.defArgs s_law_joined, L2.defBody s_law_joined, L2.defScope s_law_joined, [], []⟩
def d_law_digits : ZX.DefA := ⟨.glo "_law_digits", "_law_digits", "_law_digits", L2.defArgs s_law_digits, L2.defBody s_law_digits, L2.defScope s_law_digits, [], []⟩
def d_law_least : ZX.DefA := ⟨.glo "_law_least", "_law_least", "_law_least", L2.defArgs s_law_least, L2.defBody s_law_least, L2.defScope s_law_least, [], []⟩
def d_law_due : ZX.DefA := ⟨.glo "_law_due", "_law_due", "_law_due", L2.defArgs s_law_due, L2.defBody s_law_due, L2.defScope s_law_due, [], []⟩
def d_law_told : ZX.DefA := ⟨.glo "_law_told", "_law_told", "_law_told", L2.defArgs s_law_told, L2.defBody s_law_told, L2.defScope s_law_told, [], []⟩
def d_law_same : ZX.DefA := ⟨.glo "_law_same", "_law_same", "_law_same", L2.defArgs s_law_same, L2.defBody s_law_same, L2.defScope s_law_same, [], []⟩
def d_law_all_same : ZX.DefA := ⟨.glo "_law_all_same", "_law_all_same", "_law_all_same", L2.defArgs s_law_all_same, L2.defBody s_law_all_same, L2.defScope s_law_all_same, [], []⟩
def d_law_many_right : ZX.DefA := ⟨.glo "_law_many_right", "_law_many_right", "_law_many_right", L2.defArgs s_law_many_right, L2.defBody s_law_many_right, L2.defScope s_law_many_right, [], []⟩
def d_law : ZX.DefA := ⟨.glo "law", "law", "law", L2.defArgs s_law, L2.defBody s_law, L2.defScope s_law, [], []⟩
def d_Mi : ZX.DefA := ⟨.met "Message" "__init__", "__init__", "Message.__init__", L2.defArgs s_Mi, L2.defBody s_Mi, L2.defScope s_Mi, [], []⟩
def d_Mv : ZX.DefA := ⟨.met "Response" "all_values", "all_values", "Message.all_values", L2.defArgs s_Mv, L2.defBody s_Mv, L2.defScope s_Mv, [], []⟩
def d_Mj : ZX.DefA := ⟨.met "Response" "joined", "joined", "Message.joined", L2.defArgs s_Mj, L2.defBody s_Mj, L2.defScope s_Mj, [], []⟩
def d_Qv : ZX.DefA := ⟨.met "Request" "all_values", "all_values", "Message.all_values", L2.defArgs s_Mv, L2.defBody s_Mv, L2.defScope s_Mv, [], []⟩
def d_Qj : ZX.DefA := ⟨.met "Request" "joined", "joined", "Message.joined", L2.defArgs s_Mj, L2.defBody s_Mj, L2.defScope s_Mj, [], []⟩
def d_Rs : ZX.DefA := ⟨.met "Response" "__init__", "__init__", "Response.__init__", L2.defArgs s_Rs, L2.defBody s_Rs, L2.defScope s_Rs, [.adr (He.dflAt ("Response", some "__init__") 0), .str ""], []⟩
def d_Rq : ZX.DefA := ⟨.met "Request" "__init__", "__init__", "Request.__init__", L2.defArgs s_Ri, L2.defBody s_Ri, L2.defScope s_Ri, [.adr (He.dflAt ("Request", some "__init__") 0), .str ""], []⟩
def d_Di : ZX.DefA := ⟨.met "Directives" "__init__", "__init__", "Directives.__init__", L2.defArgs s_Di, L2.defBody s_Di, L2.defScope s_Di, [], []⟩
def d_Dr : ZX.DefA := ⟨.sta "Directives" "read", "read", "Directives.read", L2.defArgs s_Dr, L2.defBody s_Dr, L2.defScope s_Dr, [], []⟩
def d_Do : ZX.DefA := ⟨.rcd "classmethod" "Directives" "of", "of", "Directives.of", L2.defArgs s_Do, L2.defBody s_Do, L2.defScope s_Do, [], []⟩
def fns : List ZX.DefA := [d_wall, d_consists_of, d_is_plain, d_is_plain_lines, d_is_path, d_is_word, d_is_field_name, d_is_value, d_list_elements, d_read_number, d_least_number, d_least_lifetime, d_is_without_number, d_are_fields, d_is_body, d_law_bag, d_law_take, d_law_number, d_law_plain, d_law_odd, d_law_near, d_law_element, d_law_padded, d_law_spoil, d_law_texts, d_law_heads, d_law_joined, d_law_digits, d_law_least, d_law_due, d_law_told, d_law_same, d_law_all_same, d_law_many_right, d_law, d_Mi, d_Mv, d_Mj, d_Qv, d_Qj, d_Rs, d_Rq, d_Di, d_Dr, d_Do]
def fas : List He.Fa := [.glo "_wall", .glo "consists_of", .glo "is_plain", .glo "is_plain_lines", .glo "is_path", .glo "is_word", .glo "is_field_name", .glo "is_value", .glo "list_elements", .glo "read_number", .glo "least_number", .glo "least_lifetime", .glo "is_without_number", .glo "are_fields", .glo "is_body", .glo "_law_bag", .glo "_law_take", .glo "_law_number", .glo "_law_plain", .glo "_law_odd", .glo "_law_near", .glo "_law_element", .glo "_law_padded", .glo "_law_spoil", .glo "_law_texts", .glo "_law_heads", .glo "_law_joined", .glo "_law_digits", .glo "_law_least", .glo "_law_due", .glo "_law_told", .glo "_law_same", .glo "_law_all_same", .glo "_law_many_right", .glo "law", .glo "Directives", .glo "Message", .glo "Response", .glo "Request", .free "len", .free "all", .free "any", .free "abs", .free "sum", .free "isinstance", .free "range", .free "int", .free "bool", .free "str", .free "min", .free "max", .free "list", .free "zip", .str "LOWER" "abcdefghijklmnopqrstuvwxyz", .str "DIGITS" "0123456789", .str "WORD_SIGNS" "abcdefghijklmnopqrstuvwxyz0123456789-", .str "PATH_SIGNS" "abcdefghijklmnopqrstuvwxyz0123456789/-.", .int "MOST_PATH" 60, .int "MOST_NAME" 30, .int "MOST_VALUE" 200, .int "MOST_DIGITS" 6, .cls "Directives", .mkr "Directives", .noat "Directives" "lasts", .noat "Directives" "shared_lasts", .noat "Directives" "late", .noat "Directives" "on_error", .noat "Directives" "age", .noat "Directives" "fresh", .noat "Directives" "strict", .noat "Directives" "check", .noat "Directives" "own", .noat "Directives" "never", .noat "Directives" "kept", .noat "Directives" "any_late", .cls "Response", .mkr "Response", .noat "Response" "_first_line", .noat "Response" "_has_body", .noat "Response" "fields", .noat "Response" "body", .noat "Response" "status", .meth "Response" "all_values", .meth "Response" "joined", .cls "Request", .mkr "Request", .noat "Request" "_first_line", .noat "Request" "_has_body", .noat "Request" "fields", .noat "Request" "body", .noat "Request" "method", .noat "Request" "path", .meth "Request" "all_values", .meth "Request" "joined"]
def exs (K : PySem.W.Frag) : List Bool := [ZX.cfnB K "Message" "__init__",
  ZX.readB K "Message",
  ZX.cintB K "Message" "MOST_FIELDS" 40,
  ZX.cintB K "Message" "MOST_BODY" 100000,
  ZX.readB K "Response",
  ZX.ctupB K "Response" "STATUSES" stL,
  ZX.readB K "Request",
  ZX.ctupB K "Request" "METHODS" mdL,
  ZX.statB K "Directives" "read",
  ZX.readB K "Directives",
  ZX.cmetB K "Directives" "of"]
def exK (K : PySem.W.Frag) : Bool := (exs K).all id
theorem exK_at {K : PySem.W.Frag} (h : exK K = true) (i : Nat) {b : Bool} (e : (exs K)[i]? = some b := by rfl) : b = true := List.all_eq_true.mp h b (List.mem_of_getElem? e)
abbrev R : PySem.W.OpenRow := PySem.W.OpenLaw.row PySem.Challenge.rw_hopkeep_k26_directives_read
abbrev hk : PySem.W.Hook := ZX.hookB 5 fas exK fns
def ob (s : PySem.W.SharedT) : ZX.AlA := ZX.obsBG 5 fas exK fns (HandSHeadRun.getT s)
theorem ob_eq (s : PySem.W.SharedT) : ob s = hk.obs s.abs := ZX.obsBG_eq (HandSHeadRun.getT_eq s)
def others : List Str := (["Directives", "HopError", "InvalidValue", "Message", "Request", "Response", "LOWER", "DIGITS", "WORD_SIGNS", "PATH_SIGNS", "MOST_PATH", "MOST_NAME", "MOST_VALUE", "MOST_DIGITS", "_wall", "consists_of", "is_plain", "is_plain_lines", "is_path", "is_word"] : List Str) ++ (["is_field_name", "is_value", "list_elements", "read_number", "least_number", "least_lifetime", "is_without_number", "are_fields", "is_body", "_law_bag", "_law_take", "_law_number", "_law_plain", "_law_odd", "_law_near", "_law_element", "_law_padded", "_law_spoil", "_law_texts", "_law_heads"] : List Str) ++ (["_law_joined", "_law_digits", "_law_least", "_law_due", "_law_told", "_law_same", "_law_all_same", "_law_many_right"] : List Str)
theorem run (w : World) : HandSHeadRun.RunEq R (PySem.W.view R.prog [53]) hk ob 16000 others w := by
  intro os
  kernel_rfl
end Z
set_option maxHeartbeats 2000000
namespace ZX
open PySem PySem.W PySem.Calls PyProof.Rows
section
variable {prog : Program} {w : World} {A : Around} {E : Value → Shared → Prop} {h : Heap} {g : Array GenState} {d : Drawn} {t : Nat} {os : OsState}
variable {nm q : Str} {C N : Addr} {bs bm : List Value} {hdct : Bool} {sn : List Str} {sub : List Value} {ab : Bool} {col : Option Bool} {dd : Option Addr} {k0 k1 k2 k3 k5 : Option Value}
theorem call_mw {u e t0 : Addr} {rest : List Value} {Q : Value → Shared → Prop}
    (hC : h.get? C = some (excClassObj nm q C N bs bm hdct sn sub ab col dd k0 k1 k2 k3 k5 "ValueError.__new__")) (he : h.get? e = some (HandSPX.excO C t0)) (hu : h.get? u = some (kxs_mw "ValueError.__init__" e)) (hrest : rest.length ≤ sizeLine)
    (hq : ∀ h' t1, (∀ b o, b ≠ e → h.get? b = some o → h'.get? b = some o) → h'.get? e = some (HandSPX.excO C t1) → Q .none ⟨h', g, d, t, os⟩) :
    wpAny (model prog w) A (call (.ref u) rest) Q E ⟨h, g, d, t, os⟩ := by
  refine wpAny_call (codeAny_of_tree ?_)
  show wpAny _ A.in1 (callAny (.ref u) ⟨rest, []⟩) _ _ _
  simp only [callAny]
  refine wpAny_bind (wpAny_load hu ?_)
  simp only [kxs_mw, show (Value.type "method-wrapper" == Value.type "method" || Value.type "method-wrapper" == Value.type "builtin_function_or_method" || Value.type "method-wrapper" == Value.type "method-wrapper") = true by decide, if_true]
  refine W.KFB.if_so (by decide) ?_
  refine wpAny_bind (ESX.check_bound F.excBase_ValueError hC he rfl ?_)
  refine wpAny_bind (wpAny_pure (wpAny_pure ?_))
  refine ⟨Code.quiet_builtin _ (by decide +kernel), codeAny_builtin F.excBase_ValueError.initEntry ?_⟩
  rw [Around.under_plainId F.excBase_ValueError.init.plain _]
  wp_walk
  refine hq _ h.objs.size (fun b o hb ho => ?_) ?_
  · rw [Heap.get?_update_other _ _ (Ne.symm hb)]
    exact Heap.get?_push_of_some _ ho
  · rw [Heap.get?_update_self _ (Heap.get?_push_of_some _ he) rfl]
    rfl
end
end ZX
set_option maxHeartbeats 2000000
namespace ZX
open PySem PySem.W PySem.Calls PyProof.Rows L2 NdefX
/-- super().__init__(..) of an exception that is being made -/
theorem init_mw {X : Cx} {pins : List (Addr × Obj)} {σ : L2.St} {H : Hp} {s : Shared} {a C u : Addr} {A : Around} {E : Value → Shared → Prop} {us : List Value} {Q : Value → Shared → Prop} (T : OexC X.K C) (I : Inv X ((u, kxs_mw "ValueError.__init__" a) :: pins) σ H s) (e : H a = some (exo a C none)) (hl : us.length ≤ sizeLine)
    (h : ∀ s', Inv X ((u, kxs_mw "ValueError.__init__" a) :: pins) σ H s' → Q .none s') : wpAny (model X.prog X.w) A (call (.ref u) us) Q E s := by
  obtain ⟨nm, q, N, bs, bm, sn, sub, ab, col, dd, k0, k1, k2, k3, k5, hC, hbm⟩ := T.cls
  obtain ⟨t1, ho⟩ := exo_at I.hok e
  have hu := ClX.pin_at I
  obtain ⟨hp, g, d, t, os⟩ := s
  refine call_mw (I.kIn _ _ hC) ho hu hl fun h' t2 k hx => ?_
  have J := I.write (t' := t) (x := a) (e := a) (o := exo a C none) (by rw [e]; exact True.intro) (.inl rfl) k ⟨_, hx⟩ (exo_ok hx)
  have eu : upd H a (exo a C none) = H := by
    funext b
    by_cases hb : b = a
    · rw [hb, upd_same, e]
    · rw [upd_ne hb]
  rw [eu] at J
  exact h _ J
/-- what stands of an error's class, at D, and of its __init__, at f -/
structure Sup (P : Program) (K : Frag) (D f cc cda : Addr) (fd : FuncData) (name qual : Str) (params : Arguments) (body : List Stmt) (scope : Scope) : Prop where
  fn : ∃ (oc : Value) (od : Option Addr) (osl : Array (Option Value)) (dV kV doc pm ct : Value) (an : Option Addr), fd = fnX name qual params body scope [("__class__", cc)] dV kV doc pm an (.ref cda) ct ∧ K.lookup f = some ⟨oc, od, .func fd, osl⟩
  code : codeIn K (.ref cda) qual = true
  cell : ∃ (cl : Value) (cld : Option Addr) (csl : Array (Option Value)), K.lookup cc = some ⟨cl, cld, .cell (some (.ref D)), csl⟩
  file : ∃ (ccl : Value) (cdd : Option Addr) (vs : Array Value) (ccs : Array (Option Value)) (fl : Str) (tf : Tok), K.lookup cda = some ⟨ccl, cdd, .fields vs, ccs⟩ ∧ vs[2]? = some (.str fl tf) ∧ ((P.main.file : Str) == fl) = true
  sup : nsIn K mainGlobals "super" = some none
  third : nsIn K cStatics "thirdparty.any" = some none
  top : (P.main.scope.names.lookup ("super" : Str)).isSome = false
  along : ks_superIn K D D "__init__" = some (some (.builtin "ValueError.__init__"))
  subV : subIn K (.ref D) (.type "ValueError") = some true
  mro : mroIn K D (.ref D) = some true
  oex : OexC K D
section
variable {CX : CXT} {P : Program} {w : World} {K : Frag} {mg : Str → Option Value} {base : Heap} {N ps : List Str} {k : Nat} {f cc cda D : Addr} {fd : FuncData} {name qual : Str} {params : Arguments} {body rest : List Stmt} {scope : Scope} {sp : Sp} {es : List Expr} {p0 p1 p2 p3 p4 : Pos} {ar : Arg}
abbrev nf (name qual : Str) (params : Arguments) (body : List Stmt) (scope : Scope) (cc cda : Addr) : NF := ⟨name, qual, params, body, scope, [("__class__", cc)], cda⟩
theorem fn_pre (T : Sup P K D f cc cda fd name qual params body scope) (S : NScope N ps ["__class__"] scope) (hsup : scope.names.lookup ("super" : Str) = some .globalImplicit) (hp0 : (params.posonlyargs ++ params.args).head? = some ar) (har : ps[0]? = some ar.arg)
    (hb : body = .Expr (.Call (.Attribute (.Call (.Name "super" p0) [] [] p1) "__init__" p2) es [] p3) p4 :: rest)
    (he : ∀ env : Env, eval (.Call (.Attribute (.Call (.Name "super" p0) [] [] p1) "__init__" p2) es [] p3) env = (do
      let ov ← attributeBase (.Call (.Name "super" p0) [] [] p1) "__init__" env (eval (.Call (.Name "super" p0) [] [] p1) env)
      standAt p2.atName
      let (f, first) ← holding [ov] (getMethod ov "__init__" (pure false))
      callWith p3 f first (backTo p3 (starEach es env)) []))
    (hi : ∀ env : Env, env.scope = scope → interactive env = false) (hsw : ∀ env : Env, env.scope = scope → swapsWith (.Call (.Attribute (.Call (.Name "super" p0) [] [] p1) "__init__" p2) es [] p3) none p4.line env = pure false)
    (len : ∀ vs H Q E, sp vs H Q E → vs.length = ps.length)
    (hbody : ∀ (A : Around) (outer : List Env) (s : Shared) (H : Hp) (vs : List V) (Q : VK) (E : XK), Room k (A.deeper (envF (nf name qual params body scope cc cda) f s.heap.objs.size)) → sp vs H Q E →
      ∃ (a : Addr) (vs' : List V), vs = .ref a :: vs' ∧ H a = some (exo a D none) ∧ ∀ (u : Addr) (s2 : Shared), Inv (ncx CX P w K mg base N (nf name qual params body scope cc cda) f A outer s H E) [(u, kxs_mw "ValueError.__init__" a)] (startF N vs [some (.ref D)]) H s2 →
        wpAny (model P w) (A.deeper (envF (nf name qual params body scope cc cda) f s.heap.objs.size)) (callWith p3 (.ref u) [] (backTo p3 (starEach es (envF (nf name qual params body scope cc cda) f s.heap.objs.size))) [])
          (fun _ s3 => wpAny (model P w) (A.deeper (envF (nf name qual params body scope cc cda) f s.heap.objs.size)) (execs rest (envF (nf name qual params body scope cc cda) f s.heap.objs.size))
            (SP (ncx CX P w K mg base N (nf name qual params body scope cc cda) f A outer s H E) [] { nx := fun _ H' => Q .non H', rt := Q }) (ncx CX P w K mg base N (nf name qual params body scope cc cda) f A outer s H E).xe s3)
          (ncx CX P w K mg base N (nf name qual params body scope cc cda) f A outer s H E).xe s2) :
    FnOk P w K mg base CX (k + 1) f fd ps sp := by
  obtain ⟨⟨oc, od, osl, dV, kV, doc, pm, ct, an, rfl, lk⟩, hcd, ⟨cl, cld, csl, lcell⟩, ⟨ccl, cdd, vc, ccs, fl, tf, lcode, hvs, hfile⟩, hsu, hthird, htop, halong, hB, hmro, TO⟩ := T
  refine ⟨len, fun A outer s H args us vs Q E hr e0 hbi r hsp => ?_⟩
  have hl := len _ _ _ _ hsp
  have KX : K.In s.heap := e0.mod.kin.keeps fun b o e => (e0.bs b o e).1
  have lim : s.heap.NoLimit := e0.mod.nolimit.keeps fun b o e => (e0.bs b o e).1
  obtain ⟨a, vs', rfl, ha, hgo⟩ := hbody A outer s H vs Q E (hr.deeper _) hsp
  refine ks_codeAny_call_defAt (fd := fnX name qual params body scope [("__class__", cc)] dV kV doc pm an (.ref cda) ct) (body := body) (binds := ps.zip us) hr.depth (KX _ _ lk) rfl lim (codeRec_of KX hcd) rfl hbi S.nocell (fun ⟨n, _⟩ hy => S.par n (List.of_mem_zip hy).1) (fun h₁ hns kp => ?_) S.co S.gen S.kind
  have C : CellsAt (nf name qual params body scope cc cda).cl ["__class__"] [some (V.ref D)] s.heap H := by
    have hcc : s.heap.get? cc = some ⟨cl, cld, .cell (some (.ref D)), csl⟩ := KX _ _ lcell
    have look : ∀ {y : Str} {c : Addr}, List.lookup y [(("__class__" : Str), cc)] = some c → y = "__class__" ∧ c = cc := fun {y c} e => by
      by_cases h : y = "__class__"
      · subst h
        have : List.lookup ("__class__" : Str) [(("__class__" : Str), cc)] = some cc := by simp [List.lookup]
        rw [this] at e
        exact ⟨rfl, (Option.some.inj e).symm⟩
      · have q : (y == ("__class__" : Str)) = false := by simpa using h
        simp [List.lookup, q] at e
    refine ⟨rfl, fun y c e => ?_, fun x y c e1 e2 => ?_, fun i y e => ?_⟩
    · obtain ⟨_, rfl⟩ := look e
      exact ⟨(e0.bs _ _ (e0.mod.kin _ _ lcell)).2, _, _, hcc, rfl⟩
    · exact (look e1).1.trans (look e2).1.symm
    · cases i with
      | zero =>
        have ey : y = "__class__" := (Option.some.inj e).symm
        subst ey
        refine ⟨cc, by show List.lookup ("__class__" : Str) [(("__class__" : Str), cc)] = some cc; simp [List.lookup], fun v hv => ?_⟩
        have ev : v = .ref D := (Option.some.inj (Option.some.inj hv)).symm
        subst ev
        exact ⟨_, rfl, _, hcc, rfl⟩
      | succ n => simp at e
  have I : Inv (ncx CX P w K mg base N (nf name qual params body scope cc cda) f A outer s H E) [] (startF N (.ref a :: vs') [some (.ref D)]) H { s with heap := h₁, toks := s.toks + (ps.zip us).length } := inv_startN S hr.hd e0 hl r C hns kp
  have hkc : scope.names.lookup ("__class__" : Str) = some .free := S.frk _ List.mem_cons_self
  have KX1 : K.In h₁ := KX.keeps kp
  obtain ⟨cd, hcl, hcdm⟩ : ∃ cd, clsIn K D = some cd ∧ alongIn K "__init__" ((cd.mro.dropWhile (· != .ref D)).drop 1) = some (some (.builtin "ValueError.__init__")) := by
    unfold ks_superIn at halong
    cases hc : clsIn K D with
    | none => rw [hc] at halong; cases halong
    | some cd => rw [hc] at halong; exact ⟨cd, rfl, halong⟩
  obtain ⟨oD, hD1, hD2⟩ : ∃ oD, h₁.get? D = some oD ∧ oD.data = .cls cd := by
    have hD := hcl
    unfold clsIn at hD
    split at hD
    · rename_i c d cd' sl ho
      cases hD
      exact ⟨_, KX1 _ _ ho, rfl⟩
    · cases hD
  obtain ⟨t1, hoe⟩ := exo_at I.hok ha
  have hoe : h₁.get? a = some ({ cls := .ref D, dict := none, data := .fields #[.ref t1, .none, .none, .none, .bool false, .none] } : Obj) := hoe
  have J : InstAt h₁ a ({ cls := .ref D, dict := none, data := .fields #[.ref t1, .none, .none, .none, .bool false, .none] } : Obj) D none := ⟨hoe, rfl, rfl, trivial⟩
  have u0 : us[0]? = some (.ref a) := by
    cases r with
    | cons ra rr =>
      have ra : _ = _ := ra
      rw [ra]
      rfl
  have ndP : ps.Nodup := by
    have q := S.nd.sublist (List.take_sublist (ps.length + (["__class__"] : List Str).length) N)
    rw [S.pre] at q
    exact (List.nodup_append.mp q).1
  have hself : (ps.zip us).reverse.lookup ar.arg = some (.ref a) := zip_look ndP har u0
  obtain ⟨mb, hbl1, hbl2⟩ := I.mod.blt
  show _root_.PySem.wpAt (model P w) (A.deeper (envF (nf name qual params body scope cc cda) f s.heap.objs.size)) (.func body (envF (nf name qual params body scope cc cda) f s.heap.objs.size)) (execs body (envF (nf name qual params body scope cc cda) f s.heap.objs.size)) _ _ _
  rw [hb]
  refine ks_wpAt_execs_cons (ks_wpAt_Expr_any (ks_wpAt_MethodCall ?_ (he _)) (hi _ rfl) (hsw _ rfl))
  refine ks_wpAt_super_base (env := envF (nf name qual params body scope cc cda) f s.heap.objs.size) hsup hkc rfl rfl (KX1 _ _ lk) rfl hp0 rfl (KX1 _ _ lcode) rfl hvs hfile htop ?_
  refine ks_loadName_global S.kind hsup (loadGlobal_builtin (env := envF (nf name qual params body scope cc cda) f s.heap.objs.size) (I.mod.glob.keeps I.bk) (mg_none_of I.mod.kin I.mod.glob hsu) (hbl1.keeps I.bk) ((hbl2 _ (by decide)).trans (show bootBuiltins "super" = some (.type "super") by decide +kernel)) ⟨rfl, ?_⟩)
  refine wpAny_loadName_free S.kind hkc (by show List.lookup ("__class__" : Str) [(("__class__" : Str), cc)] = some cc; simp [List.lookup]) ⟨_, KX1 _ _ lcell, rfl⟩ ?_
  refine wpAny_loadName_local S.kind (S.par _ (List.mem_of_getElem? har)) hns hself ?_
  refine ks_wpAny_isType_cls hD1 hD2 ⟨rfl, ?_⟩
  refine ks_wpAny_call_super hD1 hD2 J.at_ J.cls (fun c e => by cases e) (looks_mroIn KX1 hmro) (fun h' e kh => ?_)
  have I2 : Inv (ncx CX P w K mg base N (nf name qual params body scope cc cda) f A outer s H E) [] (startF N (.ref a :: vs') [some (.ref D)]) H ⟨h', s.gens, s.drawn, s.toks + (ps.zip us).length, s.os⟩ := I.kept kh
  have J2 : InstAt h' a ({ cls := .ref D, dict := none, data := .fields #[.ref t1, .none, .none, .none, .bool false, .none] } : Obj) D none := ⟨kh _ _ hoe, rfl, rfl, trivial⟩
  have KX2 : K.In h' := KX1.keeps kh
  refine kxs_getMethod kxs_ValueError e (looks_opaque KX2 hthird) (l₀ := cd.mro) (fun A Q E s k q => wpAny_bind ((looks_clsIn KX2 hcl) A _ E s k (wpAny_pure q))) rfl KX2 hcdm (J2.type.andThen (looks_subIn KX2 hB)) (ks_ne KX2 J2 hcl) rfl ?_
  have I3 := ClX.pin_new (o := kxs_mw "ValueError.__init__" a) (a := h'.objs.size) (h' := h'.push (kxs_mw "ValueError.__init__" a)) (t' := s.toks + (ps.zip us).length + 1) I2 (fun b o e => Heap.get?_push_of_some _ e) (Nat.le_refl _) (Heap.get?_push_size _ rfl) (fun v z => by cases z)
  refine wpAny_mono (hgo _ _ I3) (fun v s3 h3 => ?_) (fun e s' h' => h')
  show _root_.PySem.wpAt _ _ _ _ _ _ s3
  refine wpAt_of_wpAny (wpAny_mono h3 (fun fl s' hs => ?_) fun e s' h' => h')
  have fin : ∀ {σ' : L2.St} {H' : Hp} {v : V} {u : Value}, Inv (ncx CX P w K mg base N (nf name qual params body scope cc cda) f A outer s H E) [] σ' H' s' → RelV v u → Q v H' → CE outer P w H s Q u s' :=
    fun {σ' H' v u} J rv q => ⟨v, H', J.os, J.bare, J.base, J.hok, rv, q⟩
  cases fl with
  | ret u =>
    obtain ⟨v, σ', H', J, rv, q⟩ := hs
    exact fin J rv q
  | next =>
    obtain ⟨σ', H', J, q⟩ := hs
    exact fin (v := V.non) (u := Value.none) J rfl q
  | brk =>
    obtain ⟨_, _, _, q⟩ := hs
    exact False.elim q
  | cont =>
    obtain ⟨_, _, _, q⟩ := hs
    exact False.elim q
end
end ZX
set_option maxHeartbeats 2000000
namespace ZX
open PySem PySem.W PySem.Calls PyProof.Rows L2 NdefX
section
variable {CX : CXT} {P : Program} {w : World} {K : Frag} {mg : Str → Option Value} {base : Heap} {N ps : List Str} {k : Nat} {f cc cda D : Addr} {fd : FuncData} {name qual : Str} {params : Arguments} {body rest : List Stmt} {scope : Scope} {sp : Sp} {e : Expr} {p0 p1 p2 p3 p4 : Pos} {ar : Arg}
/-- super().__init__(e), then the rest -/
theorem fn_sup1 (T : Sup P K D f cc cda fd name qual params body scope) (S : NScope N ps ["__class__"] scope) (hsup : scope.names.lookup ("super" : Str) = some .globalImplicit) (hp0 : (params.posonlyargs ++ params.args).head? = some ar) (har : ps[0]? = some ar.arg)
    (hb : body = .Expr (.Call (.Attribute (.Call (.Name "super" p0) [] [] p1) "__init__" p2) [e] [] p3) p4 :: rest)
    (he : ∀ env : Env, eval (.Call (.Attribute (.Call (.Name "super" p0) [] [] p1) "__init__" p2) [e] [] p3) env = (do
      let ov ← attributeBase (.Call (.Name "super" p0) [] [] p1) "__init__" env (eval (.Call (.Name "super" p0) [] [] p1) env)
      standAt p2.atName
      let (f, first) ← holding [ov] (getMethod ov "__init__" (pure false))
      callWith p3 f first (backTo p3 (starEach [e] env)) []))
    (hi : ∀ env : Env, env.scope = scope → interactive env = false) (hsw : ∀ env : Env, env.scope = scope → swapsWith (.Call (.Attribute (.Call (.Name "super" p0) [] [] p1) "__init__" p2) [e] [] p3) none p4.line env = pure false)
    (hse : ∀ env : Env, starEach [e] env = (false, eval e env) :: starEach [] env)
    (len : ∀ vs H Q E, sp vs H Q E → vs.length = ps.length)
    (hbody : ∀ (A : Around) (outer : List Env) (s : Shared) (H : Hp) (vs : List V) (Q : VK) (E : XK), Room k (A.deeper (envF (nf name qual params body scope cc cda) f s.heap.objs.size)) → sp vs H Q E →
      ∃ (a : Addr) (vs' : List V) (te : TE) (tr : TS), vs = .ref a :: vs' ∧ H a = some (exo a D none) ∧ PE (ncx CX P w K mg base N (nf name qual params body scope cc cda) f A outer s H E) e te ∧ PSs (ncx CX P w K mg base N (nf name qual params body scope cc cda) f A outer s H E) rest tr ∧
        te (startF N vs [some (.ref D)]) H fun x H1 => [x].length ≤ 1000 ∧ H1 a = some (exo a D none) ∧ tr { nx := fun _ H' => Q .non H', rt := Q } (startF N vs [some (.ref D)]) H1) :
    FnOk P w K mg base CX (k + 1) f fd ps sp := by
  refine fn_pre T S hsup hp0 har hb he hi hsw len fun A outer s H vs Q E hr hsp => ?_
  obtain ⟨a, vs', te, tr, rfl, ha, hpe, hps, hq⟩ := hbody A outer s H vs Q E hr hsp
  refine ⟨a, vs', rfl, ha, fun u s2 I => ?_⟩
  have hpa : PA (ncx CX P w K mg base N (nf name qual params body scope cc cda) f A outer s H E) [e] (tCons te tNil) := pa_cons hpe pa_nil (hse _)
  have hrun := hpa.run p3 [(u, kxs_mw "ValueError.__init__" a)] s2 (startF N (.ref a :: vs') [some (.ref D)]) H (fun ws H1 => ws.length ≤ 1000 ∧ H1 a = some (exo a D none) ∧ tr { nx := fun _ H' => Q .non H', rt := Q } (startF N (.ref a :: vs') [some (.ref D)]) H1) I hq
  have hrun2 : wpAny (model P w) (A.deeper (envF (nf name qual params body scope cc cda) f s.heap.objs.size)) (spliced (backTo p3 (starEach [e] (envF (nf name qual params body scope cc cda) f s.heap.objs.size)))) (fun us s₁ => KxsAt "ValueError.__init__" u a s₁.heap ∧ wpAny (model P w) (A.deeper (envF (nf name qual params body scope cc cda) f s.heap.objs.size)) (call (.ref u) us)
        (fun _ s3 => wpAny (model P w) (A.deeper (envF (nf name qual params body scope cc cda) f s.heap.objs.size)) (execs rest (envF (nf name qual params body scope cc cda) f s.heap.objs.size))
            (SP (ncx CX P w K mg base N (nf name qual params body scope cc cda) f A outer s H E) [] { nx := fun _ H' => Q .non H', rt := Q }) (ncx CX P w K mg base N (nf name qual params body scope cc cda) f A outer s H E).xe s3)
        (ncx CX P w K mg base N (nf name qual params body scope cc cda) f A outer s H E).xe s₁) (ncx CX P w K mg base N (nf name qual params body scope cc cda) f A outer s H E).xe s2 := by
    refine thn hrun fun us s1 ⟨ws, H1, I1, r, hz, hea, hq1⟩ => ⟨ClX.pin_at I1, ?_⟩
    have T2 : OexC (ncx CX P w K mg base N (nf name qual params body scope cc cda) f A outer s H E).K D := T.oex
    refine init_mw (X := ncx CX P w K mg base N (nf name qual params body scope cc cda) f A outer s H E) T2 I1 hea ?_ fun s' J => ?_
    · rw [← r.length, sizeLine_eq]
      omega
    · exact hps.run [] s' _ H1 _ (ClX.unpin J) hq1
  rw [hse] at hrun2 ⊢
  exact kxs_callWith (i := "ValueError.__init__") (x := a) rfl (evalArgs_plain hrun2)
/-- super().__init__(), then the rest -/
theorem fn_sup0 (T : Sup P K D f cc cda fd name qual params body scope) (S : NScope N ps ["__class__"] scope) (hsup : scope.names.lookup ("super" : Str) = some .globalImplicit) (hp0 : (params.posonlyargs ++ params.args).head? = some ar) (har : ps[0]? = some ar.arg)
    (hb : body = .Expr (.Call (.Attribute (.Call (.Name "super" p0) [] [] p1) "__init__" p2) [] [] p3) p4 :: rest)
    (he : ∀ env : Env, eval (.Call (.Attribute (.Call (.Name "super" p0) [] [] p1) "__init__" p2) [] [] p3) env = (do
      let ov ← attributeBase (.Call (.Name "super" p0) [] [] p1) "__init__" env (eval (.Call (.Name "super" p0) [] [] p1) env)
      standAt p2.atName
      let (f, first) ← holding [ov] (getMethod ov "__init__" (pure false))
      callWith p3 f first (backTo p3 (starEach [] env)) []))
    (hi : ∀ env : Env, env.scope = scope → interactive env = false) (hsw : ∀ env : Env, env.scope = scope → swapsWith (.Call (.Attribute (.Call (.Name "super" p0) [] [] p1) "__init__" p2) [] [] p3) none p4.line env = pure false)
    (len : ∀ vs H Q E, sp vs H Q E → vs.length = ps.length)
    (hbody : ∀ (A : Around) (outer : List Env) (s : Shared) (H : Hp) (vs : List V) (Q : VK) (E : XK), Room k (A.deeper (envF (nf name qual params body scope cc cda) f s.heap.objs.size)) → sp vs H Q E →
      ∃ (a : Addr) (vs' : List V) (tr : TS), vs = .ref a :: vs' ∧ H a = some (exo a D none) ∧ PSs (ncx CX P w K mg base N (nf name qual params body scope cc cda) f A outer s H E) rest tr ∧
        tr { nx := fun _ H' => Q .non H', rt := Q } (startF N vs [some (.ref D)]) H) :
    FnOk P w K mg base CX (k + 1) f fd ps sp := by
  refine fn_pre T S hsup hp0 har hb he hi hsw len fun A outer s H vs Q E hr hsp => ?_
  obtain ⟨a, vs', tr, rfl, ha, hps, hq⟩ := hbody A outer s H vs Q E hr hsp
  refine ⟨a, vs', rfl, ha, fun u s2 I => ?_⟩
  refine kxs_callWith (i := "ValueError.__init__") (x := a) rfl (evalArgs_empty ⟨ClX.pin_at I, ?_⟩)
  have T2 : OexC (ncx CX P w K mg base N (nf name qual params body scope cc cda) f A outer s H E).K D := T.oex
  exact init_mw (X := ncx CX P w K mg base N (nf name qual params body scope cc cda) f A outer s H E) T2 I ha (Nat.zero_le _) fun s' J => hps.run [] s' _ H _ (ClX.unpin J) hq
end
end ZX
set_option maxHeartbeats 2000000
namespace ZX
open PySem PySem.Spec PySem.Calls PyProof.Rows L2
/-! ### == by an own __eq__ -/
def rOwnI (C : Addr) (sp : Sp) (E : XK) : R2 := fun x y H Q => ∃ a dx fs b dy gs, x = .ref a ∧ y = .ref b ∧ H a = some (.ins C dx fs) ∧ H b = some (.ins C dy gs) ∧ sp [x, y] H Q E
theorem op_eqOwn {X : Cx} {CX : CXT} {n : Nat} {C g : Addr} {sp : Sp} {E : XK} (hs : PySem.W.findIn X.K (.ref C) "__eq__" = some (some (.ref g))) (hf : PySem.W.isFn X.K (.ref g) = true) (F : FnR X.prog X.w X.K X.mg X.base CX n g sp) (hr : Room n X.A) (hx : Passes CX X E) :
    OpR X (compareOp .Eq) (rOwnI C sp E) := by
  intro pins s σ H x y v u Q I rx ry h
  obtain ⟨a, dx, fs, b, dy, gs, rfl, rfl, ha, hb, q⟩ := h
  cases (show v = Value.ref a from rx)
  cases (show u = Value.ref b from ry)
  obtain ⟨mA, J, _⟩ := ins_get I.hok ha
  obtain ⟨mB, J', _⟩ := ins_get I.hok hb
  obtain ⟨od, J, _⟩ := J.look
  obtain ⟨od', J', _⟩ := J'.look
  obtain ⟨m, hF⟩ := I.fr
  show wpAny (model X.prog X.w) X.A (richCompare .Eq (.ref a) (.ref b)) (EP X pins σ Q) X.xe s
  refine PySem.W.cmp_K (op := .Eq) (tb := .ref C) hr.units0 hF I.ok.mod.kin J J'.type (by simp [PySem.W.notFirst]) hs hf ?_
  refine wpAny_mono (wpAny_call (run_fnR (us := [.ref a, .ref b]) (vs := [.ref a, .ref b]) F hr hx I (.cons rfl (.cons rfl .nil)) q)) (fun w s' z => ?_) fun _ _ x => x
  obtain ⟨z', H', I', rz, qz⟩ := z
  exact SlX.cmpback rz ⟨z', H', I', rz, qz⟩
/-! ### str(o) by an own __str__ -/
def rStrOwn (C : Addr) (sp : Sp) (E : XK) : List V → Hp → VK → Prop := fun xs H Q => ∃ a dx fs, xs = [.ref a] ∧ H a = some (.ins C dx fs) ∧ sp [.ref a] H (fun v H' => ∃ z : Str, v = .str z ∧ Q v H') E
theorem call_strOwn {X : Cx} {CX : CXT} {n : Nat} {C g : Addr} {sp : Sp} {E : XK} (hs : PySem.W.findIn X.K (.ref C) "__str__" = some (some (.ref g))) (hf : PySem.W.isFn X.K (.ref g) = true) (F : FnR X.prog X.w X.K X.mg X.base CX n g sp) (hr : Room (n + 2) X.A)
    (hx : ∀ (H : Hp) (s : Shared) (e : Value) (s' : Shared), CX X.stack H s E e s' → False) : CallR X (.type "str") (rStrOwn C sp E) := by
  intro pins s σ H xs us Q I r h
  obtain ⟨a, dx, fs, rfl, ha, q⟩ := h
  cases r with
  | cons r1 rs =>
    cases rs
    cases r1
    obtain ⟨mA, J, _⟩ := ins_get I.hok ha
    obtain ⟨od, J, _⟩ := J.look
    refine PySem.W.kso_call (by have := hr.un; show X.A.units + 1 + 1 < _; omega) I.kIn J hs hf ?_
    have hr2 : Room n X.A.in1.in1 := (Room.in1 (k := n) (Room.in1 (k := n + 1) hr))
    refine wpAny_call (codeAny_mono (F X.A.in1.in1 X.stack s H [.ref a] [.ref a] _ E hr2 I.env0.in1.in1 (.cons rfl .nil) q) fun r s' hq => ?_)
    cases r with
    | error e => exact (hx _ _ _ _ hq).elim
    | ok fl =>
      cases fl with
      | ret u =>
        obtain ⟨v, H', I2, rv, z, ev, q2⟩ := I.after hq
        subst ev
        obtain ⟨t, e⟩ := (show ∃ t, u = Value.str z t from rv)
        subst e
        exact ⟨.str z, H', I2, ⟨t, rfl⟩, q2⟩
      | next => exact False.elim hq
      | brk => exact False.elim hq
      | cont => exact False.elim hq
/-! ### C.m(e, ..), m a staticmethod; C(e, ..): what they let out told at the slots -/
structure Stat (K : PySem.W.Frag) (C : Addr) (mc : Value) (m : Str) (p g : Addr) : Prop where
  rd : ClX.CRead K C mc
  at_ : PySem.W.findCls K (.ref C) mc m = some (.get (.builtin "staticmethod.__get__") (.ref p) .none (.ref C))
  rc : ∃ rest, PySem.W.recIn K p "staticmethod" = some (.ref g :: rest)
  kp : PySem.W.keepIn K (.ref g) = true
def tStatS (C : Addr) (sp : Sp) (E : L2.St → XK) (ta : TE) (t : TA) : TE := fun σ H Q => ta σ H fun x H1 => x = .ref C ∧ t σ H1 fun vs H2 => sp vs H2 Q (E σ)
def tMakeS (C : Addr) (sp : Sp) (dvs : List V) (E : L2.St → XK) (t : TA) : TE := fun σ H Q => t σ H fun vs H1 => ∀ x dx, H1 x = none → H1 dx = none → dx ≠ x →
  sp (.ref x :: (vs ++ dvs)) (upd (upd H1 dx (.own x)) x (.ins C dx [])) (fun v H2 => v = .non ∧ Q (.ref x) H2) (E σ)
section
variable {X : Cx} {CX : CXT} {k : Nat} {C p g f : Addr} {mc : Value} {fd : FuncData} {ps : List Str} {sp : Sp} {E : L2.St → XK} {o e : Expr} {es : List Expr} {m x : Str} {pos apos xp : Pos} {ta : TE} {t : TA} {pl : Sem Bool} {dvs : List V} {ds : List Value}
theorem pe_statS (he : PE X o ta) (c : Stat X.K C mc m p g) (F : FnOk X.prog X.w X.K X.mg X.base CX k g fd ps sp) (hb : Binds X.K fd ps []) (hr : Room k X.A) (hx : ∀ σ, PassesAt CX X σ (E σ)) (ha : PA X (e :: es) t)
    (hst : starEach (e :: es) X.env = (false, eval e X.env) :: starEach es X.env := by rfl) (hpl : (backTo pos (starEach es X.env)).any (·.1) = false := by rfl)
    (ht : eval (.Call (.Attribute o m apos) (e :: es) [] pos) X.env = (do
      let ov ← eval o X.env
      standAt apos.atName
      let (f, first) ← holding [ov] (getMethod ov m pl)
      callWith pos f first (backTo pos (starEach (e :: es) X.env)) (backToKw pos (keywordEach [] X.env))) := by rfl) :
    PE X (.Call (.Attribute o m apos) (e :: es) [] pos) (tStatS C sp E ta t) := by
  refine ⟨fun pins s σ H Q I h => ?_⟩
  refine PySem.W.methodCall_KW (pl := pl) (thn (he.run pins s σ H _ I h) fun u s1 ⟨x, H1, I1, rx, ex, q⟩ => ?_) ht
  subst ex
  obtain rfl : u = Value.ref C := rx
  obtain ⟨rest, hp⟩ := c.rc
  refine PySem.W.method_cls I1.kIn c.rd.ga (PySem.W.cls_bind I1.kIn c.rd.rd c.at_ (wpAny_call (PySem.W.sm_get (s := { s1 with toks := s1.toks + 1 }) I1.kIn hp (PySem.W.handed_on rfl ?_))))
  refine PySem.W.callWith_K (h₀ := X.base) I1.ok.mod.kin c.kp (thn (ha.run pos pins _ σ H1 _ (I1.tok _) q) fun us s2 ⟨vs, H2, I2, r, q2⟩ => ⟨I2.kIn, ?_⟩) hst hpl
  exact run_fnS F hr hb (hx σ) I2 r q2
theorem run_makeS {pins : List (Addr × Obj)} {σ : L2.St} {H : Hp} {s : Shared} {Q : VK} {us : List Value} {vs : List V} (M : Mk X.K C f) (F : FnOk X.prog X.w X.K X.mg X.base CX k f fd ps sp) (hr : Room (k + 1) X.A) (hb : Binds X.K fd ps ds) (hd : Vals dvs ds)
    (hx : PassesAt CX X σ (E σ)) (I : Inv X pins σ H s) (r : Vals vs us)
    (h : ∀ x dx, H x = none → H dx = none → dx ≠ x → sp (.ref x :: (vs ++ dvs)) (upd (upd H dx (.own x)) x (.ins C dx [])) (fun v H2 => v = .non ∧ Q (.ref x) H2) (E σ)) :
    wpAny (model X.prog X.w) X.A (call (.ref C) us) (EP X pins σ Q) X.xe s := by
  have hq := h (s.heap.objs.size + 1) s.heap.objs.size (I.hok.fresh (Nat.le_succ _)) (I.hok.fresh (Nat.le_refl _)) (Nat.ne_of_lt (Nat.lt_succ_self _))
  have I2 := Inv.made (C := C) I
  have r2 : Vals (V.ref (s.heap.objs.size + 1) :: (vs ++ dvs)) (Value.ref (s.heap.objs.size + 1) :: (us ++ ds)) := .cons rfl (r.append hd)
  have hl : (Value.ref (s.heap.objs.size + 1) :: us ++ ds).length = ps.length := by
    have e := r2.length
    rw [F.len _ _ _ _ hq] at e
    exact e.symm
  refine wpAny_call (make_map (f := f) I.kIn M.makes M.init (beq_iff_eq.mp M.fn) (codeAny_mono (F.run _ X.stack _ _ ⟨Value.ref (s.heap.objs.size + 1) :: us, []⟩ (Value.ref (s.heap.objs.size + 1) :: (us ++ ds)) _ _ (E σ) (hr.make C us [])
    (I2.env0.make C us []) (hb _ (Value.ref (s.heap.objs.size + 1) :: us) I2.kIn hl) r2 hq) fun r s' hq' => ?_))
  cases r with
  | error e => exact hx pins _ _ e s' I2 hq'
  | ok fl =>
    cases fl with
    | ret u =>
      obtain ⟨v, H', I3, rv, ev, q3⟩ := I2.after hq'
      subst ev
      exact ⟨rv, ⟨V.ref (s.heap.objs.size + 1), H', I3, rfl, q3⟩⟩
    | next => exact False.elim hq'
    | brk => exact False.elim hq'
    | cont => exact False.elim hq'
theorem pe_makeS (M : Mk X.K C f) (F : FnOk X.prog X.w X.K X.mg X.base CX k f fd ps sp) (hr : Room (k + 1) X.A) (hg : Gl X x) (hm : X.mg x = some (.ref C)) (hb : Binds X.K fd ps ds) (hd : Vals dvs ds) (hx : ∀ σ, PassesAt CX X σ (E σ))
    (ha : PA X (e :: es) t) (hdb : (x == ("__debug__" : Str)) = false := by decide) (he : starEach (e :: es) X.env = (false, eval e X.env) :: starEach es X.env := by rfl) (hpl : (backTo pos (starEach es X.env)).any (·.1) = false := by rfl) :
    PE X (.Call (.Name x xp) (e :: es) [] pos) (tMakeS C sp dvs E t) := by
  refine ⟨fun pins s σ H Q I h => ?_⟩
  refine wpAny_Call_Name_kw (ld_glob I hg hm ?_ hdb)
  refine PySem.W.callWith_K (h₀ := X.base) I.ok.mod.kin M.kp (thn (ha.run pos pins s σ H _ I h) fun us s1 ⟨vs, H1, I1, r, q⟩ => ⟨I1.kIn, ?_⟩) he hpl
  exact run_makeS M F hr hb hd (hx σ) I1 r q
end
/-! ### text[::-1] -/
open TL in
def revT (z : Str) : Str := ⟨(tl z).reverse.toArray⟩
open TL in
theorem sliceBy_rev (z : Str) (u : Tok) : Txt.sliceBy z none none (-1, u) = revT z := by
  refine ext_tl ?_
  show (Txt.sliceBy z none none (-1, u)).cps.toList = (tl z).reverse
  rw [step_rev_list]
  have hl : z.length = (tl z).length := len_tl z
  refine List.ext_getElem (by rw [List.length_map, List.length_range, List.length_reverse, hl]) fun i h1 h2 => ?_
  rw [List.length_map, List.length_range] at h1
  rw [List.getElem_map, List.getElem_range, List.getElem_reverse]
  have hi : z.length - 1 - i < z.cps.size := by
    show z.length - 1 - i < z.length
    omega
  have e : z.cps.getD (z.length - 1 - i) 0 = z.cps[z.length - 1 - i] := by simp [Array.getD, hi]
  rw [e]
  have e2 : z.cps[z.length - 1 - i] = (tl z)[z.length - 1 - i]'(by rw [← hl]; exact hi) := by simp [tl]
  rw [e2]
  congr 1
def tRevS (te : TE) : TE := fun σ H Q => te σ H fun x H1 => ∃ z : Str, x = .str z ∧ z.length ≤ sizeLine ∧ Q (.str (revT z)) H1
theorem pe_revS {X : Cx} {e : Expr} {te : TE} {k : Nat} {p1 p2 p3 pos : Pos} (he : PE X e te) : PE X (.Subscript e (.Slice none none (some (.UnaryOp .USub (.Constant (.int 1) k p1) p2)) p3) pos) (tRevS te) := by
  refine ⟨fun pins s σ H Q I h => ?_⟩
  refine Subscript_ (thn (he.run pins s σ H _ I h) fun v s1 ⟨x, H1, I1, r1, q1⟩ => ?_)
  obtain ⟨z, ex, hz, q⟩ := q1
  subst ex
  obtain ⟨t, rfl⟩ := r1
  have hst : PO X (some (.UnaryOp .USub (.Constant (.int 1) k p1) p2)) (tPart (tUn (rU fun i => .int (-i)) (tC (.int 1)))) := po_some (pe_un un_neg pe_int)
  refine wpAny_Slice (thn (po_none.run pins s1 σ H1 (fun o H2 => o = none ∧ H2 = H1) I1 ⟨rfl, rfl⟩) fun vl s2 ⟨l, H2, I2, pl, el, e2⟩ => ?_)
  subst el e2
  refine thn (po_none.run pins s2 σ H2 (fun o H3 => o = none ∧ H3 = H2) I2 ⟨rfl, rfl⟩) fun vu s3 ⟨u, H3, I3, pu, eu, e3⟩ => ?_
  subst eu e3
  refine thn (hst.run pins s3 σ H3 (fun o H4 => o = some (-1) ∧ H4 = H3) I3 ⟨1, rfl, -1, rfl, rfl, rfl⟩) fun vs s4 ⟨o, H4, I4, ps, eo, e4⟩ => ?_
  subst eo e4
  have I5 : Inv X pins σ H4 { s4 with heap := s4.heap.push { cls := .type "slice", data := .fields #[vl, vu, vs] } } := I4.kept (t' := s4.toks) fun b ob q => Heap.get?_push_of_some _ q
  show wpAny (model X.prog X.w) X.A (subscriptTail e (.Slice none none (some (.UnaryOp .USub (.Constant (.int 1) k p1) p2)) p3) (.str z t) (.ref s4.heap.objs.size)) (EP X pins σ Q) X.xe { s4 with heap := s4.heap.push { cls := .type "slice", data := .fields #[vl, vu, vs] } }
  refine tail_any (ops := [.str z t, .ref s4.heap.objs.size]) (typeIs_str _ _ _) (PySem.F.slot_str_getitem.lookup) ?_ (by with_unfolding_all rfl)
  obtain ⟨l, rfl, el⟩ := IsPart.raw pl
  cases l with
  | some l => cases el
  | none =>
    obtain ⟨u', rfl, eu'⟩ := IsPart.raw pu
    cases u' with
    | some u' => cases eu'
    | none =>
      obtain ⟨st, rfl, est⟩ := IsPart.raw ps
      cases st with
      | none => cases est
      | some st =>
        obtain ⟨si, st⟩ := st
        have esi : si = -1 := Option.some.inj est
        subst esi
        refine wpAny_getItem_str_slice (l := none) (u := none) (st := some (-1, st)) ⟨_, Heap.get?_push_size _ rfl, rfl, rfl⟩ rfl ?_
        have hl : (Txt.sliceBy z none none (-1, st)).length ≤ sizeLine := by
          rw [step_rev_len]
          exact hz
        have eq := sliceBy_rev z st
        unfold Txt.sliceBy at eq hl
        have hc : ¬ ((((some ((-1 : Int), st)).map (·.1)).getD 1 == 1 && (slicePicked z none none (some (-1, st))).length == z.length) = true) := by
          have : ((((some ((-1 : Int), st)).map (·.1)).getD 1 == 1)) = false := rfl
          rw [this]; simp
        rw [if_neg hc] at eq hl
        show Made.post (if (((some ((-1 : Int), st)).map (·.1)).getD 1 == 1 && (slicePicked z none none (some (-1, st))).length == z.length) = true then Made.val (.str z t) else Made.str ⟨((slicePicked z none none (some (-1, st))).filterMap (z.cps[·]?)).toArray⟩) (EP X pins σ Q) _
        rw [if_neg hc]
        rw [← eq] at q
        exact ⟨hl, .str _, _, I5.tok _, ⟨_, rfl⟩, q⟩
/-! ### isinstance(e, c), e the exception that the suite holds, with a dict of its own -/
section
open PySem.W
variable {prog : Program} {w : World} {A : Around} {E : Value → Shared → Prop} {s : Shared} {K : Frag} {x D : Addr} {ox od : Obj}
theorem kin_classED {Q : Option Value → Shared → Prop} (hga : findIn K (.ref D) "__getattribute__" = some (some (.builtin "BaseException.__getattribute__"))) (hgt : findIn K (.ref D) "__getattr__" = some none) (hsub : subIn K (.ref D) (.type "BaseException") = some true)
    (hdct : hasDictIn K D = true) (ha : findIn K (.ref D) "__class__" = some (some (.builtin "object.__class__")))
    (hn : specialIn K (.builtin "object.__class__") "__get__" = some (some (.builtin "getset_descriptor.__get__"))) (htk : takesIn K (.builtin "object.__class__") = some true) (hm : mroIn K D (.type "object") = some true)
    (X : K.In s.heap) (I : InstAt s.heap x ox D (some od)) (h : Q (some (.ref D)) { s with toks := s.toks + 1 }) : wpAny (model prog w) A (getAttr? (.ref x) "__class__") Q E s := by
  have hf : findObj K D (some od) "__class__" = some (.bind (.builtin "getset_descriptor.__get__") (.builtin "object.__class__")) := findObj_data (by obtain ⟨cd, hc, _⟩ := any_some hdct; rw [hc]; rfl) ha hn htk
  obtain ⟨hp, g, d, t, os⟩ := s
  have L0 := I.type (M := model prog w)
  have L1 := looks_findIn (M := model prog w) X hga
  have L2 := looks_findIn (M := model prog w) X hgt
  have L3 := looks_find (M := model prog w) X I hf
  have sub : Looks (model prog w) hp (isInstance (.ref x) (.type "BaseException")) true := L0.andThen (looks_subIn X hsub)
  have hx0 : (false && onTheHeap (Value.builtin "BaseException.__getattribute__")) = false := rfl
  have hx2 : (Value.builtin "BaseException.__getattribute__" == Value.builtin "object.__getattribute__") = false := by decide +kernel
  have hx1 : (onTheHeap (Value.ref D) && Value.builtin "BaseException.__getattribute__" == Value.builtin "object.__getattribute__") = false := by rw [hx2]; rfl
  unfold getAttr? getAttrBy? getAttrBy
  refine wpAny_bind (wpAny_mkText (wpAny_bind (wpAny_attempt (wpAny_holding (wpAny_bind (L0.at (wpAny_bind (L1.at ?_))))))))
  show wpAny _ _ (if (onTheHeap (Value.ref D) && Value.builtin "BaseException.__getattribute__" == Value.builtin "object.__getattribute__") = true then _ else _) _ _ _
  rw [hx1, if_neg Bool.false_ne_true]
  unfold getAttrByItsOwn hookBefore
  refine wpAny_bind ?_
  rw [if_pos (show onTheHeap (Value.ref D) = true from rfl)]
  refine L2.at ?_
  refine wpAny_bind (wpAny_attempt (wpAny_holding ?_))
  unfold callGetattribute
  rw [hx0, if_neg Bool.false_ne_true]
  unfold boundAndCalled
  rw [PySem.F.excAttr_ValueError.ga.bind (.ref x)]
  refine wpAny_bind (wpAny_pure ?_)
  show wpAny _ _ (call (.builtin "BaseException.__getattribute__") [.ref x, .str "__class__" t]) _ _ _
  refine wpAny_call (codeAny_call_builtin PySem.F.excAttr_ValueError.ga.plain PySem.F.entry_bexc_ga ?_)
  refine @check_slot (model prog w) _ _ ⟨hp, g, d, t + 1, os⟩ "BaseException.__getattribute__" "BaseException" "__getattribute__" (.ref x) [.str "__class__" t] [] _ (by decide +kernel) (by decide +kernel) sub (PySem.F.args_bexc_ga (.ref x) (.str "__class__" t)) ?_
  unfold Builtin.«object.__getattribute__»
  refine wpAny_bind (wpAny_of_eq (a := ((Value.ref x : Value), [Value.str "__class__" t])) (by first | rfl | (simp only [slotArgs]; rfl)) ?_)
  refine wpAny_bind (wpAny_pure (wpAny_bind (L0.at (wpAny_bind (L3.at ?_)))))
  show wpAny _ _ (holding [Value.builtin "object.__class__"] (call (.builtin "getset_descriptor.__get__") [.builtin "object.__class__", .ref x, .ref D]) >>= ret) _ _ _
  refine wpAny_bind (wpAny_holding (wpAny_call (class_get (s := ⟨hp, g, d, t + 1, os⟩) (ox := ox) (od := some od) X I hm ?_)))
  refine wpAny_pure ?_
  show wpAny _ _ (handedOut (.ref D)) _ _ _
  rw [handedOut_of (v := .ref D) rfl]
  first
    | exact wpAny_pure (wpAny_pure h)
    | exact wpAny_pure h
    | exact wpAny_pure (wpAny_bind (wpAny_pure (wpAny_pure h)))
theorem kitx_excD (hga : findIn K (.ref D) "__getattribute__" = some (some (.builtin "BaseException.__getattribute__"))) (hgt : findIn K (.ref D) "__getattr__" = some none) (hsub : subIn K (.ref D) (.type "BaseException") = some true) (hdct : hasDictIn K D = true) (ha : findIn K (.ref D) "__class__" = some (some (.builtin "object.__class__")))
    (hn : specialIn K (.builtin "object.__class__") "__get__" = some (some (.builtin "getset_descriptor.__get__"))) (htk : takesIn K (.builtin "object.__class__") = some true) (hm : mroIn K D (.type "object") = some true) :
    KitX K (.ref x) (.ref D) (fun h => InstAt h x ox D (some od)) where
  ty := fun _ _ _ I => I.type
  it := fun _ _ X _ => by
    obtain ⟨cdD, hcD, _⟩ := any_some hdct
    unfold clsIn at hcD
    split at hcD
    · rename_i c' d' cd' sl' ho
      intro A' Q' E' s' k q
      unfold isType loadHead
      exact wpAny_bind (wpAny_loadPart (k _ _ (X _ _ ho)) (wpAny_pure q))
    · cases hcD
  ne := fun h tp dd its n sl X htp => by
    obtain ⟨cdD, hcD, _⟩ := any_some hdct
    refine Bool.eq_false_iff.mpr fun q => ?_
    have e : D = tp := Value.ref.inj (beq_iff_eq.mp q)
    subst e
    unfold clsIn at hcD
    split at hcD
    · rename_i c' d' cd' sl' ho
      have z := (X _ _ ho).symm.trans htp
      cases z
    · cases hcD
  ca := fun X I k => kin_classED hga hgt hsub hdct ha hn htk hm X I k
end
def rIsED (K : PySem.W.Frag) (D a dd : Addr) : List V → Hp → VK → Prop := fun xs H Q => ∃ (c : V) (cv : Value) (b : Bool) (fs : List (Str × V)), xs = [.ref a, c] ∧ (∀ u, RelV c u → u = cv) ∧ H dd = some (.xd fs) ∧ PySem.W.kitOne K (.ref D) cv = some b ∧ Q (.bl b) H
theorem call_isED {X : Cx} {a D dd : Addr} {oe : Obj} {pn : List (Addr × Obj)} (C : ExcC X.K D) (hz : Zc (.ref D) (some dd) oe) (hf : ∃ vs, oe.data = .fields vs) : CallR (X.suite a ((a, oe) :: pn)) (.builtin "isinstance") (rIsED X.K D a dd) := by
  intro pins s σ H xs us Q I r h
  obtain ⟨c, cv, b, fs, rfl, hcv, hdd, e, q⟩ := h
  cases r with
  | cons rx rr =>
    cases rr with
    | cons rt rr =>
      cases rr
      cases rx
      have ec := hcv _ rt
      subst ec
      obtain ⟨hget, _⟩ := I.pin (a, oe) (List.mem_append.mpr (.inl List.mem_cons_self))
      obtain ⟨vs, hv⟩ := hf
      have hx : ObjOk X.prog X.w H s.heap dd (.xd fs) := I.hok dd _ hdd
      obtain ⟨mA, ⟨od, es, ep, ho, hns⟩, hr⟩ := hx
      have J : PySem.W.InstAt s.heap a oe D (some od) := by
        obtain ⟨oc, odd, oda, osl⟩ := oe
        obtain ⟨h1, h2⟩ := hz
        dsimp only at h1 h2 hv
        subst h1 h2 hv
        exact ⟨hget, rfl, rfl, ho⟩
      exact PySem.W.kia_one (kitx_excD C.hg C.hk C.hs C.hd C.ha C.hn C.ht C.hm) I.kIn J e (fun z => nomatch z) fun tk => ⟨.bl b, H, I.kept (t' := tk) fun _ _ z => z, rfl, q⟩
end ZX
set_option maxHeartbeats 2000000
namespace ZX
open PySem PySem.Spec PyProof.Rows L2 He
/-! ### the head: defs, methods, staticmethods, errors' __init__s, by one Hook -/
/-- where a def stands -/
theorem DefA.parts {K : PySem.W.Frag} {d : DefA} (e : fnC K (d.at_.ad K) = d.val) (c : d.ok K = true) : PySem.W.keepIn K (.ref (d.at_.ad K)) = true ∧ ∃ (oc : Value) (od : Option Addr) (osl : Array (Option Value)) (fd : FuncData), K.lookup (d.at_.ad K) = some ⟨oc, od, .func fd, osl⟩ ∧
    PySem.W.codeIn K fd.code d.qual = true ∧ DflV K fd.defaults (d.dvs K) ∧ fd.name = d.name ∧ fd.qualname = d.qual ∧ fd.params = d.params ∧ fd.body = .stmts d.body ∧ fd.scope = d.scope ∧ fd.globals = mainGlobals ∧ fd.closure.map (·.1) = d.clo ∧ fd.builtins = builtinsNs := by
  obtain ⟨kp, c2⟩ := ba c
  refine ⟨kp, ?_⟩
  unfold fnC at e
  cases q : K.lookup (d.at_.ad K) with
  | none =>
    rw [q] at c2
    cases c2
  | some o =>
    obtain ⟨oc, od, dt, osl⟩ := o
    rw [q] at c2 e
    cases dt with
    | func fd =>
      have e2 : (some (fd.name, fd.qualname, fd.params, fd.body, fd.scope, fd.globals, fd.closure.map (·.1), fd.builtins) : FnC) = some (d.name, d.qual, d.params, .stmts d.body, d.scope, mainGlobals, d.clo, builtinsNs) := e
      simp only [Option.some.injEq, Prod.mk.injEq] at e2
      obtain ⟨h1, h2, h3, h4, h5, h6, h7, h8⟩ := e2
      have c3 : (PySem.W.codeIn K fd.code d.qual && dflB K fd.defaults (d.dvs K)) = true := c2
      obtain ⟨k1, k2⟩ := ba c3
      exact ⟨oc, od, osl, fd, rfl, k1, dflB_ok k2, h1, h2, h3, h4, h5, h6, h7, h8⟩
    | _ => cases c2
theorem DefA.funD {K : PySem.W.Frag} {d : DefA} (e : fnC K (d.at_.ad K) = d.val) (c : d.ok K = true) (hc : d.clo = []) : ∃ fd, FunD K d.name d.qual d.params d.body d.scope (d.dvs K) [] (d.at_.ad K) fd := by
  obtain ⟨kp, oc, od, osl, fd, q, k1, k2, h1, h2, h3, h4, h5, h6, h7, h8⟩ := d.parts e c
  obtain ⟨n1, n2, n3, n4, n5, n6, n7, n8, n9, n10, n11, n12, n13, n14, n15⟩ := fd
  dsimp only at h1 h2 h3 h4 h5 h6 h7 h8 k1 k2
  rw [hc] at h7
  have h7 := List.map_eq_nil_iff.mp h7
  subst h1 h2 h3 h4 h5 h6 h7 h8
  exact ⟨_, ⟨oc, od, n8, n9, n10, n11, n12, n13, n14, osl, rfl, q, k1, k2, .inl rfl⟩, kp⟩
/-! ### an error's class and its __init__ -/
theorem oexCls_ok {K : PySem.W.Frag} {C : Addr} (q : oexClsB K C = true) : ∃ nm qn N bs bm sn sub ab col dd k0 k1 k2 k3 k5, K.lookup C = some (excClassObj nm qn C N bs bm true sn sub ab col dd k0 k1 k2 k3 k5 "ValueError.__new__") ∧ HandSPX.refsVE bm = true := by
  unfold oexClsB at q
  split at q
  · rename_i dd cd sl ho
    split at q
    · rename_i C' bm k0 k1 k2 k3 n k5 hm hs
      simp only [Bool.and_eq_true, beq_iff_eq, Bool.not_eq_true'] at q
      obtain ⟨⟨⟨⟨rfl, rfl⟩, hdel⟩, hd⟩, hok⟩ := q
      obtain ⟨nm, bs, mro, ns, qn, hd', sn, sub, ab, col, del⟩ := cd
      dsimp only at hm hdel hd
      subst hm hdel hd
      have hsl : sl = #[k0, k1, k2, k3, some (.builtin "ValueError.__new__"), k5] := by
        obtain ⟨l⟩ := sl
        simp only at hs
        rw [hs]
      subst hsl
      exact ⟨nm, qn, ns, bs, bm, sn, sub, ab, col, dd, k0, k1, k2, k3, k5, ho, hok⟩
    · cases q
  · cases q
structure Err (P : Program) (K : PySem.W.Frag) (x : Str) (fd : FuncData) (d : DefA) : Prop where
  sup : Sup P K (ga K x) (ma K (ga K x) "__init__") (ccOf K (ma K (ga K x) "__init__")) (cdOf K (ma K (ga K x) "__init__")) fd d.name d.qual d.params d.body d.scope
  init : PySem.W.findIn K (.ref (ga K x)) "__init__" = some (some (.ref (ma K (ga K x) "__init__")))
  ty : PySem.W.typeIn K (.ref (ma K (ga K x) "__init__")) = some (.type "function")
theorem err_ok {P : Program} {K : PySem.W.Frag} {x fl : Str} {d : DefA} (h : errB K fl x = true) (hfl : ((P.main.file : Str) == fl) = true) (htop : (P.main.scope.names.lookup ("super" : Str)).isSome = false) (hs : PySem.W.nsIn K mainGlobals "super" = some none) (h3 : PySem.W.nsIn K cStatics "thirdparty.any" = some none)
    (hat : d.at_ = .met x "__init__") (e : fnC K (d.at_.ad K) = d.val) (c : d.ok K = true) (hc : d.clo = [("__class__" : Str)]) : ∃ fd, Err P K x fd d := by
  obtain ⟨kp, oc, od, osl, fd, q, k1, k2, g1, g2, g3, g4, g5, g6, g7, g8⟩ := d.parts e c
  obtain ⟨a1, h⟩ := ba h
  obtain ⟨a2, h⟩ := ba h
  obtain ⟨a3, h⟩ := ba h
  obtain ⟨a4, h⟩ := ba h
  obtain ⟨a5, h⟩ := ba h
  obtain ⟨a6, h⟩ := ba h
  obtain ⟨a7, h⟩ := ba h
  obtain ⟨a8, h⟩ := ba h
  obtain ⟨a9, h⟩ := ba h
  obtain ⟨a10, h⟩ := ba h
  obtain ⟨a11, a12⟩ := ba h
  have ead : d.at_.ad K = ma K (ga K x) "__init__" := by rw [hat] <;> rfl
  rw [ead] at q kp
  obtain ⟨n1, n2, n3, n4, n5, n6, n7, n8, n9, n10, n11, n12, n13, n14, n15⟩ := fd
  dsimp only at g1 g2 g3 g4 g5 g6 g7 g8 k1 k2
  rw [hc] at g7
  obtain ⟨cc, ecl⟩ : ∃ cc, n7 = [(("__class__" : Str), cc)] := by
    cases n7 with
    | nil => cases g7
    | cons p r =>
      cases r with
      | nil =>
        obtain ⟨y, z⟩ := p
        have : y = "__class__" := by
          have := List.cons.inj g7
          exact this.1
        exact ⟨z, by rw [this]⟩
      | cons p2 r2 => cases (List.cons.inj g7).2
  obtain ⟨cda, ecd⟩ : ∃ cda, n13 = .ref cda := by
    cases n13 with
    | ref c => exact ⟨c, rfl⟩
    | _ => cases k1
  subst ecl ecd g1 g2 g3 g4 g5 g6 g8
  have ecc : ccOf K (ma K (ga K x) "__init__") = cc := by
    unfold ccOf
    rw [q]
  have ecda : cdOf K (ma K (ga K x) "__init__") = cda := by
    unfold cdOf
    rw [q]
  refine ⟨_, ⟨⟨oc, od, osl, _, _, _, _, _, _, rfl, by rw [ecc, ecda]; exact q⟩, by rw [ecda]; exact k1, ?_, ?_, hs, h3, htop, of_decide_eq_true a8, of_decide_eq_true a6, of_decide_eq_true a7, ⟨oexCls_ok a1, eqO_ok a2, of_decide_eq_true a3, of_decide_eq_true a4, a5⟩⟩, eqO_ok a9, of_decide_eq_true a10⟩
  · cases z : K.lookup (ccOf K (ma K (ga K x) "__init__")) with
    | none => rw [z] at a11; cases a11
    | some o =>
      obtain ⟨o1, o2, o3, o4⟩ := o
      rw [z] at a11
      cases o3 with
      | cell v =>
        cases v with
        | none => cases a11
        | some v =>
          have ev : v = .ref (ga K x) := of_decide_eq_true a11
          rw [ev]
          exact ⟨_, _, _, rfl⟩
      | _ => cases a11
  · cases z : K.lookup (cdOf K (ma K (ga K x) "__init__")) with
    | none => rw [z] at a12; cases a12
    | some o =>
      obtain ⟨o1, o2, o3, o4⟩ := o
      rw [z] at a12
      cases o3 with
      | fields vs =>
        have a12 : (match (vs[2]? : Option Value) with
          | some (Value.str f _) => decide (fl = f)
          | _ => false) = true := a12
        cases y : vs[2]? with
        | none => rw [y] at a12; cases a12
        | some v =>
          rw [y] at a12
          cases v with
          | str f t =>
            have ef : fl = f := of_decide_eq_true a12
            exact ⟨_, _, vs, _, f, t, rfl, y, by rw [← ef]; exact hfl⟩
          | _ => cases a12
      | _ => cases a12
/-- what isinstance and the fields ask of an error's class -/
theorem excC_ok {K : PySem.W.Frag} {D : Addr} (h : excCB K D = true) : ExcC K D := by
  obtain ⟨a1, h⟩ := ba h
  obtain ⟨a2, h⟩ := ba h
  obtain ⟨a3, h⟩ := ba h
  obtain ⟨a4, h⟩ := ba h
  obtain ⟨a5, h⟩ := ba h
  obtain ⟨a6, h⟩ := ba h
  obtain ⟨a7, a8⟩ := ba h
  exact ⟨eqO_ok a1, eqO_ok a2, of_decide_eq_true a3, a4, eqO_ok a5, eqO_ok a6, of_decide_eq_true a7, of_decide_eq_true a8⟩
/-- what isinstance asks of an own object's class -/
structure InsC (K : PySem.W.Frag) (C : Addr) : Prop where
  ha : PySem.W.findIn K (.ref C) "__class__" = some (some (.builtin "object.__class__"))
  hn : PySem.W.specialIn K (.builtin "object.__class__") "__get__" = some (some (.builtin "getset_descriptor.__get__"))
  htk : PySem.W.takesIn K (.builtin "object.__class__") = some true
  hm : PySem.W.mroIn K C (.type "object") = some true
theorem insC_ok {K : PySem.W.Frag} {D : Addr} (h : insCB K D = true) : InsC K D := by
  obtain ⟨a5, h⟩ := ba h
  obtain ⟨a6, h⟩ := ba h
  obtain ⟨a7, a8⟩ := ba h
  exact ⟨eqO_ok a5, eqO_ok a6, of_decide_eq_true a7, of_decide_eq_true a8⟩
/-- a staticmethod -/
theorem stat_ok {K : PySem.W.Frag} {x m : Str} (h : statB K x m = true) : Stat K (ga K x) (.type "type") m (ma K (ga K x) m) ((Pl.sta x m).ad K) := by
  obtain ⟨a1, h⟩ := ba h
  obtain ⟨a2, h⟩ := ba h
  obtain ⟨a3, h⟩ := ba h
  obtain ⟨a4, a5⟩ := ba h
  refine ⟨⟨a1, eqO_ok a2⟩, ?_, ?_, a5⟩
  · split at a3
    · rename_i n p C z
      obtain ⟨b1, b2⟩ := ba a3
      obtain ⟨b3, b4⟩ := ba b2
      rw [z, of_decide_eq_true b1, of_decide_eq_true b3, of_decide_eq_true b4]
    · cases a3
  cases z : PySem.W.recIn K (ma K (ga K x) m) "staticmethod" with
  | none => rw [z] at a4; cases a4
  | some l =>
    cases l with
    | nil => rw [z] at a4; cases a4
    | cons v r =>
      rw [z] at a4
      cases v with
      | ref g =>
        have eg : g = (Pl.sta x m).ad K := of_decide_eq_true a4
        exact ⟨r, by rw [eg]⟩
      | _ => cases a4
/-! ### the Hook -/
section
variable {fa : List Fa} {ex : PySem.W.Frag → Bool} {fn : List DefA} {K : PySem.W.Frag}
theorem SaysA.fact (c : SaysA fa ex fn K) (i : Nat) {f : Fa} (h : fa[i]? = some f := by rfl) : f.ok K = true := by
  have c1 := (ba (show ((fa.all fun f => f.ok K) && (ex K && fn.all fun d => d.ok K)) = true from congrArg (fun z : AlA => z.1) c)).1
  exact List.all_eq_true.mp c1 f (List.mem_of_getElem? h)
theorem SaysA.more (c : SaysA fa ex fn K) : ex K = true := (ba (ba (show ((fa.all fun f => f.ok K) && (ex K && fn.all fun d => d.ok K)) = true from congrArg (fun z : AlA => z.1) c)).2).1
theorem SaysA.def_ (c : SaysA fa ex fn K) (i : Nat) {d : DefA} (h : fn[i]? = some d := by rfl) : fnC K (d.at_.ad K) = d.val ∧ d.ok K = true := by
  have c2 := (ba (ba (show ((fa.all fun f => f.ok K) && (ex K && fn.all fun d => d.ok K)) = true from congrArg (fun z : AlA => z.1) c)).2).2
  have e : fn.map (fun d => fnC K (d.at_.ad K)) = fn.map DefA.val := congrArg (fun z : AlA => z.2) c
  have e2 : (fn.map fun d => fnC K (d.at_.ad K))[i]? = (fn.map DefA.val)[i]? := by rw [e]
  rw [List.getElem?_map, List.getElem?_map, h] at e2
  exact ⟨Option.some.inj e2, List.all_eq_true.mp c2 d (List.mem_of_getElem? h)⟩
end
end ZX
set_option maxHeartbeats 2000000
namespace ZX
open PySem PySem.Spec PyProof.Rows L2 TL
/-- C(e, ..), C an own error with its own __init__, where nothing is handled: the error's context is None -/
theorem pmk_oexN {X : Cx} {CX : CXT} {x : Str} {C fI : Addr} {k : Nat} {fd : FuncData} {ps : List Str} {sp : Sp} {ta : TA} {e : Expr} {es : List Expr} {p pos : Pos} (T : OexC X.K C) (iC : PySem.W.findIn X.K (.ref C) "__init__" = some (some (.ref fI)))
    (tI : PySem.W.typeIn X.K (.ref fI) = some (.type "function")) (F1 : FnOk X.prog X.w X.K X.mg X.base CX k fI fd ps sp) (hr : Room (k + 1) X.A) (hb : Binds X.K fd ps []) (hx : Passes CX X (fun _ _ _ => False)) (hg : Gl X x) (hm : X.mg x = some (.ref C)) (ha : PA X (e :: es) ta)
    (hdb : (x == ("__debug__" : Str)) = false := by decide) (he : starEach (e :: es) X.env = (false, eval e X.env) :: starEach es X.env := by rfl) (hpl : (backTo pos (starEach es X.env)).any (·.1) = false := by rfl) :
    L2N.PMk X (.Call (.Name x p) (e :: es) [] pos) (tMkO C sp [] ta) := by
  intro pins s σ H Q I h
  obtain ⟨nm, q, N, bs, bm, sn, sub, ab, col, dd, k0, k1, k2, k3, k5, hC, hbm⟩ := T.cls
  refine wpAny_Call_Name_kw (ld_glob I hg hm ?_ hdb)
  refine PySem.W.callWith_K (h₀ := X.base) I.ok.mod.kin T.kC (thn (ha.run pos pins s σ H _ I h) fun us s1 ⟨vs, H1, I1, r1, hz, q1⟩ => ⟨I1.kIn, ?_⟩) he hpl
  obtain ⟨hp, g, dr, tk, os⟩ := s1
  have new : H1 (hp.objs.size + 1) = none := I1.hok.fresh (Nat.le_succ _)
  have hq := q1 (hp.objs.size + 1) new
  rw [List.append_nil] at hq
  have grow : ∀ b o, hp.get? b = some o → ((hp.push (PySem.W.kdv_tup us)).push (PySem.HandSPX.excO C hp.objs.size)).get? b = some o := fun b o z => Heap.get?_push_of_some _ (Heap.get?_push_of_some _ z)
  have I2 : Inv X pins σ (upd H1 (hp.objs.size + 1) (exo (hp.objs.size + 1) C none)) ⟨(hp.push (PySem.W.kdv_tup us)).push (PySem.HandSPX.excO C hp.objs.size), g, dr, tk, os⟩ :=
    I1.laid (t' := tk) (a := hp.objs.size + 1) (o := exo (hp.objs.size + 1) C none) (h' := (hp.push (PySem.W.kdv_tup us)).push (PySem.HandSPX.excO C hp.objs.size)) grow (Nat.le_succ _) (exo_ok (by heap_get))
  have r2 : Vals (V.ref (hp.objs.size + 1) :: vs) (Value.ref (hp.objs.size + 1) :: us) := .cons rfl r1
  have lens : (Value.ref (hp.objs.size + 1) :: us).length = ps.length := r2.length.symm.trans (F1.len _ _ _ _ hq)
  have b2 := hb _ (Value.ref (hp.objs.size + 1) :: us) I2.kIn (by rw [List.append_nil]; exact lens)
  rw [List.append_nil] at b2
  have few : us.length ≤ sizeLine := by
    rw [← Paired.length r1, sizeLine_eq]
    omega
  show wpAny _ _ (call (.ref C) us) _ _ _
  refine wpAny_call (PySem.HandSPX.call_own F.excBase_ValueError (fun Y => PySem.HandSPX.refsVE_contains Y bm hbm) (I1.kIn _ _ hC) (PySem.W.looks_findIn I1.kIn iC) (fun self => PySem.W.bind_fn I1.kIn self tI) few
    (codeAny_mono (FnOk.run F1 _ X.stack _ _ ⟨Value.ref (hp.objs.size + 1) :: us, []⟩ (Value.ref (hp.objs.size + 1) :: us) _ _ (fun _ _ _ => False) (hr.make C us []) (I2.env0.make C us []) b2 r2 hq) fun r s' hq' => ?_))
  cases r with
  | error er => exact hx pins σ _ _ er s' I2 hq'
  | ok fl =>
    cases fl with
    | next => exact hq'.elim
    | brk => exact hq'.elim
    | cont => exact hq'.elim
    | ret u =>
      obtain ⟨v, H2, os2, bare, un, hok, rv, ev, d, fs, ea, ed, hd1, q2⟩ := hq'
      subst ev
      obtain ⟨h2, g2, d2, t2, os'⟩ := s'
      obtain ⟨t0, G, J, kG, ge, hoe, na⟩ := mk_end0 (d2 := d2) (t2 := t2) I1 (Nat.le_succ _) grow un hok os2 bare ea ed hd1
      exact ⟨rv, hp.objs.size + 1, _, _, ⟨G, g2, d2, t2, os'⟩, _, .ref C, some d, rfl, J, kG, ge, hoe, ⟨rfl, rfl, fun ws hw => by cases hw; rfl⟩, rfl, rfl, na, rfl, bare, raises_own T.exC T.tyC, q2⟩
/-- nothing is let out -/
theorem passN {X : Cx} : Passes (L2N.CX X.prog X.w) X E0 := fun _ _ _ _ _ _ _ h => by
  obtain ⟨_, _, _, _, _, _, _, _, _, _, _, _, z⟩ := h
  exact False.elim z
theorem takesN {X : Cx} : L2N.Takes X (fun _ _ _ _ => False) := fun _ _ x => by
  obtain ⟨_, _, _, _, _, _, _, _, _, _, _, _, _, _, _, _, z⟩ := x
  exact z.elim
/-- isinstance(e, c) of the error that the suite holds, class and dict told by the reading -/
def rIsEG (K : PySem.W.Frag) (a : Addr) (cls : Value) (d : Option Addr) : List V → Hp → VK → Prop := fun xs H Q => ∃ D dd, cls = .ref D ∧ d = some dd ∧ ExcC K D ∧ rIsED K D a dd xs H Q
theorem call_isEG {X : Cx} {a : Addr} {cls : Value} {d : Option Addr} {oe : Obj} {pn : List (Addr × Obj)} (hz : Zc cls d oe) (hf : ∃ vs, oe.data = .fields vs) : CallR (X.suite a ((a, oe) :: pn)) (.builtin "isinstance") (rIsEG X.K a cls d) := by
  intro pins s σ H xs us Q I r h
  obtain ⟨D, dd, rfl, rfl, c, q⟩ := h
  exact call_isED c hz hf pins s σ H xs us Q I r q
/-- err.f, class and dict told by the reading -/
def tXg (K : PySem.W.Frag) (a : Addr) (cls : Value) (d : Option Addr) (f : Str) (te : TE) : TE := fun σ H Q => te σ H fun x H1 => x = .ref a ∧ ∃ C, cls = .ref C ∧ XfC K C ∧ PySem.W.findIn K (.ref C) f = some none ∧ ∃ (dd : Addr) (fs : List (Str × V)) (v : V), d = some dd ∧ H1 dd = some (.xd fs) ∧ fs.lookup f = some v ∧ Q v H1
theorem pe_xg {X : Cx} {a : Addr} {oe : Obj} {cls : Value} {d : Option Addr} {pn : List (Addr × Obj)} {e : Expr} {te : TE} {pos : Pos} {n : Str} (hz : Zc cls d oe) (hf : ∃ vs, oe.data = .fields vs) (he : PE (X.suite a ((a, oe) :: pn)) e te)
    (hb : attributeBase e n X.env (eval e X.env) = eval e X.env := by rfl) : PE (X.suite a ((a, oe) :: pn)) (.Attribute e n pos) (tXg X.K a cls d n te) := by
  refine ⟨fun pins s σ H Q I h => ?_⟩
  refine attr_of hb (thn (he.run pins s σ H _ I h) fun u s1 hh => ?_)
  obtain ⟨x, H1, I1, rx, ex, C, ec, T, hno, dd, fs, v, ed, ea, l, q⟩ := hh
  subst ex
  obtain rfl : u = Value.ref a := rx
  subst ec
  subst ed
  obtain ⟨ha, _⟩ := I1.pin (a, oe) (List.mem_append_left _ List.mem_cons_self)
  obtain ⟨vs, hd⟩ := hf
  have hx : ObjOk X.prog X.w H1 s1.heap dd (.xd fs) := I1.hok dd _ ea
  obtain ⟨mA, hns, hr⟩ := hx
  obtain ⟨od, ho, hl⟩ := lookIn_ns hns
  obtain ⟨u, hu, ru⟩ := RelO.some_of (v := v) (o := mA n) (by rw [← l]; exact hr n)
  have J : PySem.W.InstAt s1.heap a oe C (some od) := ⟨ha, hz.1, by unfold PySem.W.notCls; rw [hd] <;> rfl, by rw [hz.2]; exact ho⟩
  exact HandSPX.exc_get I1.kIn J T.ga T.gg T.exC (PySem.W.findObj_own T.hdC hno rfl (by rw [hl, hu])) (handed_of ru) ⟨v, H1, I1.tok _, ru, q⟩
end ZX
set_option maxHeartbeats 2000000
namespace ZX
open PySem PySem.Spec PyProof.Rows L2 HotX L2H
/-! ### for over a text while an error is handled -/
section
variable {prog : Program} {w : World} {A : Around} {E : Value → Shared → Prop} {s : Shared} {it x1 : Addr} {x : Str} {t : Tok} {i : Nat} {Q : Option Value → Shared → Prop} {ty : String}
theorem hot_ne (hot : HotAt A x1 s.heap) (hit : s.heap.IsStrIter it ty x t i) : x1 ≠ it := fun e => by
  obtain ⟨o, ho, hc, hd⟩ := hit
  obtain ⟨hh, o1, vs1, h1, d1, c1⟩ := hot
  rw [e, ho] at h1
  cases h1
  rw [hd] at d1
  cases d1
  cases c1
theorem ascii_end_hot (hot : HotAt A x1 s.heap) (hit : s.heap.IsStrIter it "str_ascii_iterator" x t i) (hx : x.cps[i]? = none) (hQ : ∀ h', (∀ b o, b ≠ it → s.heap.get? b = some o → h'.get? b = some o) → Q none { s with heap := h' }) : wpAny (model prog w) A (pyNext (.ref it)) Q E s := by
  have ne := hot_ne hot hit
  obtain ⟨o, ho, hc, hd⟩ := id hit
  obtain ⟨hh, o1, vs1, h1, d1, c1⟩ := hot
  unfold pyNext
  refine wpAny_bind (wpAny_attempt (wpAny_callSpecial?_slot (name := Str.ofString "__next__") hit.typeIs F.slot_str_ascii_iterator_next
    (wpAny_call_entry F.slot_str_ascii_iterator_next hit.typeIs F.entry_str_ascii_iterator_next ?_ (F.args_str_ascii_iterator_next_1 _))))
  show wpAny _ _ (field (.ref it) 0 >>= _) _ _ s
  refine wpAny_bind (wpAny_field ho hd (x := .str x t) rfl ?_)
  show wpAny _ _ (field (.ref it) 1 >>= _) _ _ s
  refine wpAny_bind (wpAny_field ho hd (x := .int i 0) rfl ?_)
  simp only [Int.toNat_natCast, hx]
  refine wpAny_bind (wpAny_rule (wpAny_bind (wpAny_setField ho hd (by simp) (wpAny_bind (wpAny_letGo ?_)))))
  show wpAny _ _ (newExc (.type "StopIteration") [] >>= _) _ _ _
  refine wpAny_bind ?_
  simp only [newExc, newTuple]
  refine wpAny_bind (wpAny_newObj_type ?_ (by size_fits))
  refine wpAny_bind (m := firstArgMember _ _) (wpAny_of_eq (a := Value.none) (by first | rfl | (simp only [firstArgMember]; rfl)) ?_)
  refine wpAny_newObj_type ?_ (by size_fits)
  refine raiseNew_hot ⟨hh, o1, vs1, Heap.get?_push_of_some _ (Heap.get?_push_of_some _ ((Heap.get?_update_other _ _ (Ne.symm ne)).trans h1)), d1, c1⟩ (Nat.ne_of_lt (Heap.lt_size (Heap.get?_push_of_some _ ((Heap.get?_update_other _ _ (Ne.symm ne)).trans h1)))) (Heap.get?_push_size _ rfl) rfl (by first | (simp; done) | (simp; omega) | (simp only [Array.size_append]; simp; omega)) ?_
  refine wpAny_bind (wpAny_isInstance (T := "StopIteration") (b := true) ⟨_, Heap.get?_update_self _ (Heap.get?_push_size _ rfl) rfl, rfl⟩ isSubtype_stop ?_)
  refine wpAny_pure (hQ _ fun b o' hb e => ?_)
  refine (Heap.get?_update_other _ _ ?_).trans (Heap.get?_push_of_some _ (Heap.get?_push_of_some _ ((Heap.get?_update_other _ _ (Ne.symm hb)).trans e)))
  exact Ne.symm (Nat.ne_of_lt (Heap.lt_size (Heap.get?_push_of_some _ ((Heap.get?_update_other _ _ (Ne.symm hb)).trans e))))
theorem wide_end_hot (hot : HotAt A x1 s.heap) (hit : s.heap.IsStrIter it "str_iterator" x t i) (hx : x.cps[i]? = none) (hQ : ∀ h', (∀ b o, b ≠ it → s.heap.get? b = some o → h'.get? b = some o) → Q none { s with heap := h' }) : wpAny (model prog w) A (pyNext (.ref it)) Q E s := by
  have ne := hot_ne hot hit
  obtain ⟨o, ho, hc, hd⟩ := id hit
  obtain ⟨hh, o1, vs1, h1, d1, c1⟩ := hot
  unfold pyNext
  refine wpAny_bind (wpAny_attempt (wpAny_callSpecial?_slot (name := Str.ofString "__next__") hit.typeIs F.slot_str_iterator_next
    (wpAny_call_entry F.slot_str_iterator_next hit.typeIs F.entry_str_iterator_next ?_ (F.args_str_iterator_next_1 _))))
  show wpAny _ _ (field (.ref it) 0 >>= _) _ _ s
  refine wpAny_bind (wpAny_field ho hd (x := .str x t) rfl ?_)
  show wpAny _ _ (field (.ref it) 1 >>= _) _ _ s
  refine wpAny_bind (wpAny_field ho hd (x := .int i 0) rfl ?_)
  simp only [Int.toNat_natCast, hx]
  refine wpAny_bind (wpAny_rule (wpAny_bind (wpAny_setField ho hd (by simp) (wpAny_bind (wpAny_letGo ?_)))))
  show wpAny _ _ (newExc (.type "StopIteration") [] >>= _) _ _ _
  refine wpAny_bind ?_
  simp only [newExc, newTuple]
  refine wpAny_bind (wpAny_newObj_type ?_ (by size_fits))
  refine wpAny_bind (m := firstArgMember _ _) (wpAny_of_eq (a := Value.none) (by first | rfl | (simp only [firstArgMember]; rfl)) ?_)
  refine wpAny_newObj_type ?_ (by size_fits)
  refine raiseNew_hot ⟨hh, o1, vs1, Heap.get?_push_of_some _ (Heap.get?_push_of_some _ ((Heap.get?_update_other _ _ (Ne.symm ne)).trans h1)), d1, c1⟩ (Nat.ne_of_lt (Heap.lt_size (Heap.get?_push_of_some _ ((Heap.get?_update_other _ _ (Ne.symm ne)).trans h1)))) (Heap.get?_push_size _ rfl) rfl (by first | (simp; done) | (simp; omega) | (simp only [Array.size_append]; simp; omega)) ?_
  refine wpAny_bind (wpAny_isInstance (T := "StopIteration") (b := true) ⟨_, Heap.get?_update_self _ (Heap.get?_push_size _ rfl) rfl, rfl⟩ isSubtype_stop ?_)
  refine wpAny_pure (hQ _ fun b o' hb e => ?_)
  refine (Heap.get?_update_other _ _ ?_).trans (Heap.get?_push_of_some _ (Heap.get?_push_of_some _ ((Heap.get?_update_other _ _ (Ne.symm hb)).trans e)))
  exact Ne.symm (Nat.ne_of_lt (Heap.lt_size (Heap.get?_push_of_some _ ((Heap.get?_update_other _ _ (Ne.symm hb)).trans e))))
end
theorem turn_strH {P : Program} {w : World} {K : PySem.W.Frag} {tg : Expr} (it : Addr) (x : Str) (t : Tok) (ty : String) (hty : ty = "str_ascii_iterator" ∨ ty = "str_iterator") : TurnH P w K tg (Its x) [it] it (fun i h => h.IsStrIter it ty x t i) where
  mem := by simp
  obj := fun i h st b hb => by
    have e : b = it := by simpa using hb
    subst e
    obtain ⟨o, e, c, d⟩ := st
    exact ⟨o, e, fun v z => by rw [d] at z; cases z⟩
  keep := fun i h h' st k => let ⟨o, ho, r⟩ := st; ⟨o, k it (by simp) o ho, r⟩
  item := by
    intro X hP hw hK hc i pins s σ H E I hf st hg
    subst hP hw hK
    obtain ⟨f0, f1, f2, f3, f4, f5⟩ := hf it (by simp)
    have hlt : i < x.cps.size := hg
    have hcx : x.cps[i]? = some x.cps[i] := Array.getElem?_eq_getElem hlt
    have hno : ["enumerate", "zip", "dict_itemiterator", "dict_reverseitemiterator", "odict_iterator", "itertools.zip_longest", "itertools.pairwise"].contains ty = false := by
      rcases hty with e | e
      · rw [e]; decide
      · rw [e]; decide
    have fin : ∀ h', h'.IsStrIter it ty x t (i + 1) → Heap.SameBut it s.heap h' → ∃ u, some (Value.str ⟨#[x.cps[i]]⟩ s.toks) = some u ∧ wpAny (model X.prog X.w) X.A (letOwnedTupleGo tg (.ref it) u) (fun _ s2 => ∃ y H', Inv X pins σ H' s2 ∧ RelV y u ∧ (Its x).yld i H y H' ∧ s2.heap.IsStrIter it ty x t (i + 1) ∧ ∀ b ∈ [it], H' b = none) E { s with heap := h', toks := s.toks + 1 } := fun h' st' sb => by
      have I1 : Inv X pins σ H { s with heap := h', toks := s.toks + 1 } := I.turned (fun b o hb e => (sb.2 b hb).trans e) f0 f1 f3 f4 f5
      obtain ⟨oi, e, cc, dd⟩ := id st'
      exact ⟨_, rfl, go_of (s := { s with heap := h', toks := s.toks + 1 }) e cc dd hno ⟨.str ⟨#[x.cps[i]]⟩, H, I1, ⟨_, rfl⟩, ⟨rfl, _, hcx, rfl⟩, st', fun b hb => (hf b hb).1⟩⟩
    rcases hty with e | e
    · subst e
      exact wpAny_pyNext_ascii_item st hcx fun h' st' sb => fin h' st' sb
    · subst e
      exact wpAny_pyNext_wide_item st hcx fun h' st' sb => fin h' st' sb
  done := by
    intro X hP hw hK hc i pins s σ H E I hf st hg
    subst hP hw hK
    obtain ⟨f0, f1, f2, f3, f4, f5⟩ := hf it (by simp)
    obtain ⟨x1, hot⟩ := hc.at I
    have hx : x.cps[i]? = none := Array.getElem?_eq_none hg
    rcases hty with e | e
    · subst e
      exact ascii_end_hot hot st hx fun h' eb => ⟨rfl, I.turned (t' := s.toks) (fun b o hb e => eb b o hb e) f0 f1 f3 f4 f5⟩
    · subst e
      exact wide_end_hot hot st hx fun h' eb => ⟨rfl, I.turned (t' := s.toks) (fun b o hb e => eb b o hb e) f0 f1 f3 f4 f5⟩
  self := fun A i s Q E st h => by
    rcases hty with e | e
    · rw [e] at st; exact wpAny_pyIter_striter_ascii st h
    · rw [e] at st; exact wpAny_pyIter_striter_wide st h
theorem oneH {X : Cx} {tg : Expr} {pins : List (Addr × Obj)} {σ : L2.St} {H : Hp} {s : Shared} {R : It → Hp → Prop} {x : Str} {t : Tok} {ty : String} {tk : Nat} (hty : ty = "str_ascii_iterator" ∨ ty = "str_iterator") (I : Inv X pins σ H s) (q : R (Its x) H) :
    PIEH X pins σ tg R (.ref s.heap.objs.size) { s with heap := s.heap.push { cls := .type ty, data := .fields #[.str x t, .int 0 0] }, toks := tk } := by
  refine ⟨s.heap.objs.size, [s.heap.objs.size], _, _, H, rfl, I.kept fun b o e => Heap.get?_push_of_some _ e, turn_strH _ x t ty hty, ⟨_, Heap.get?_push_size _ rfl, rfl, rfl⟩, fun b hb => ?_, q⟩
  have e : b = s.heap.objs.size := by simpa using hb
  subst e
  exact I.fpOk (Nat.le_refl _) (I.hok.fresh (Nat.le_refl _))
theorem pi_strH {X : Cx} {tg e : Expr} {te : TE} (he : PE X e te) : PIH X tg e (iStr te) := by
  refine ⟨fun pins s σ H R I h => ?_⟩
  refine thn (he.run pins s σ H _ I h) fun v s1 ⟨y, H1, I1, r1, x, ex, q⟩ => ?_
  subst ex
  obtain ⟨t, rfl⟩ := r1
  cases ha : x.cps.all (· < 128)
  · exact wpAny_pyIter_wide ha (oneH (.inr rfl) I1 q)
  · exact wpAny_pyIter_ascii ha (oneH (.inl rfl) I1 q)
end ZX
set_option maxHeartbeats 2000000
namespace ZX
open PySem PySem.Spec PyProof.Rows L2
/-! ### a + b, len(a) by own methods -/
theorem op_binOwn {X : Cx} {CX : CXT} {n : Nat} {C g : Addr} {sp : Sp} {E : XK} {op : Operator} (hc : PySem.W.selfFirst X.K C = true) (hs : PySem.W.findIn X.K (.ref C) (PySem.dunder op.info.2) = some (some (.ref g))) (hf : PySem.W.isFn X.K (.ref g) = true)
    (F : FnR X.prog X.w X.K X.mg X.base CX n g sp) (hr : Room n X.A) (hx : Passes CX X E) : OpR X (binaryOp op) (rOwnI C sp E) := by
  intro pins s σ H x y v u Q I rx ry h
  obtain ⟨a, dx, fs, b, dy, gs, rfl, rfl, ha, hb, q⟩ := h
  cases (show v = Value.ref a from rx)
  cases (show u = Value.ref b from ry)
  obtain ⟨mA, J, _⟩ := ins_get I.hok ha
  obtain ⟨mB, J', _⟩ := ins_get I.hok hb
  obtain ⟨od, J, _⟩ := J.look
  obtain ⟨od', J', _⟩ := J'.look
  obtain ⟨m, hF⟩ := I.fr
  refine PySem.W.binop_K hF I.ok.mod.kin J J'.type hc hs hf ?_
  refine wpAny_mono (wpAny_call (run_fnR (us := [.ref a, .ref b]) (vs := [.ref a, .ref b]) F hr hx I (.cons rfl (.cons rfl .nil)) q)) (fun w s' z => ?_) fun _ _ x => x
  obtain ⟨z', H', I', rz, qz⟩ := z
  exact SlX.cmpback rz ⟨z', H', I', rz, qz⟩
/-- len(o) by an own __len__ -/
def rLenOwn (C : Addr) (sp : Sp) (E : XK) : List V → Hp → VK → Prop := fun xs H Q => ∃ a dx fs, xs = [.ref a] ∧ H a = some (.ins C dx fs) ∧ sp [.ref a] H (fun v H' => ∃ i : Int, v = .int i ∧ 0 ≤ i ∧ i < 2 ^ 63 ∧ Q v H') E
theorem call_lenOwn {X : Cx} {CX : CXT} {n : Nat} {C g : Addr} {sp : Sp} {E : XK} (hs : PySem.W.findIn X.K (.ref C) "__len__" = some (some (.ref g))) (hf : PySem.W.isFn X.K (.ref g) = true) (F : FnR X.prog X.w X.K X.mg X.base CX n g sp) (hr : Room (n + 1) X.A)
    (hx : ∀ (H : Hp) (s : Shared) (e : Value) (s' : Shared), CX X.stack H s E e s' → False) : CallR X (.builtin "len") (rLenOwn C sp E) := by
  intro pins s σ H xs us Q I r h
  obtain ⟨a, dx, fs, rfl, ha, q⟩ := h
  cases r with
  | cons r1 rs =>
    cases rs
    cases r1
    obtain ⟨mA, J, _⟩ := ins_get I.hok ha
    obtain ⟨od, J, _⟩ := J.look
    obtain ⟨m, hF⟩ := I.fr
    refine PySem.W.len_K hF I.ok.mod.kin J hs hf ?_
    refine wpAny_call (codeAny_mono (F X.A.in1 X.stack s H [.ref a] [.ref a] _ E hr.in1 I.env0.in1 (.cons rfl .nil) q) fun r s' hq => ?_)
    cases r with
    | error e => exact (hx _ _ _ _ hq).elim
    | ok fl =>
      cases fl with
      | ret u =>
        obtain ⟨v, H', I2, rv, i, ev, i0, i1, q2⟩ := I.after hq
        subst ev
        obtain ⟨t, rfl⟩ := (show ∃ t, u = Value.int i t from rv)
        exact ⟨⟨i0, i1⟩, .int i, H', I2.tok _, ⟨_, rfl⟩, q2⟩
      | next => exact False.elim hq
      | brk => exact False.elim hq
      | cont => exact False.elim hq
end ZX
set_option maxHeartbeats 2000000
namespace ZX
open PySem PySem.Spec PyProof.Rows L2
/-! ### list(d.values()) -/
def tListVals (te : TE) : TE := fun σ H Q => te σ H fun x H1 => ∃ (d : Addr) (kvs : List (Key × V)), x = .ref d ∧ H1 d = some (.dK kvs) ∧ ∀ p, H1 p = none → Q (.ref p) (upd H1 p (.lst (kvs.map Prod.snd)))
theorem pe_listVals {X : Cx} {e : Expr} {te : TE} {p apos cpos pos : Pos} (hc : X.calm = true) (he : PE X e te) (hg : Gl X "list") (hm : X.mg "list" = none) (hv : bootBuiltins "list" = some (.type "list")) (hbase : attributeBase e "values" X.env (eval e X.env) = eval e X.env := by rfl) (hline : (apos.endLine == cpos.line) = true := by rfl)
    (hs : starEach [.Call (.Attribute e "values" apos) [] [] cpos] X.env = (false, eval (.Call (.Attribute e "values" apos) [] [] cpos) X.env) :: starEach [] X.env := by rfl) :
    PE X (.Call (.Name "list" p) [.Call (.Attribute e "values" apos) [] [] cpos] [] pos) (tListVals te) := by
  refine ⟨fun pins s σ H Q I hq => ?_⟩
  refine wpAny_Call_Name_kw (ld_blt I hg hm hv ?_)
  refine PyProof.Rows.callWith_type1 ?_ hs rfl
  rw [hs]
  show wpAny _ _ (spliced ((false, eval (.Call (.Attribute e "values" apos) [] [] cpos) X.env) :: backTo pos (starEach [] X.env))) _ _ s
  refine Calls.spliced_cons ?_
  refine wpAny_Call_method (T := "dict") (id := "dict.values") hbase rfl hline F.plainAttrs_dict F.slot_dict_values F.type_dict_values (thn (he.run pins s σ H _ I hq) fun u s1 ⟨x, H1, I1, rx, d, kvs, ex, hd, q⟩ => ?_)
  subst ex
  obtain rfl : u = Value.ref d := rx
  obtain ⟨hz, hs0, vs, kv, hdo⟩ := I1.hok d _ hd
  obtain ⟨ep, hat⟩ := hdo.dictAt
  have lk : kvs.length = vs.length := Paired.length kv
  have I2 : Inv X pins σ H1 { s1 with heap := s1.heap.push { cls := .type "dict_values", data := .fields #[.ref d] } } := I1.kept (t' := s1.toks) fun b ob q => Heap.get?_push_of_some _ q
  refine ⟨hdo.typeIs, hdo.mapOf.noDict, ?_⟩
  show wpAny _ _ (callWith cpos (.builtin "dict.values") [.ref d] [] []) _ X.xe s1
  refine method_meetsIn F.slot_dict_values F.entry_dict_values rfl (PySem.evalArgs_none ⟨rfl, hdo.typeIs, F.args_dict_values_1 _, _, meets_dict_values (mixKind X.prog X.w) d hs0, ⟨vs, hdo⟩, ?_⟩)
  refine Calls.spliced_nil ?_
  refine PySem.W.kdl_call (PySem.W.kdl_values (knd := mixKind X.prog X.w) (kvs := vs) (ep := ep)) (I1.ok.hd hc) ⟨⟨_, Heap.get?_push_size _ rfl, rfl, rfl⟩, hat.push _⟩ (by omega) fun h' tk acc' c' hkeep hS hacc => ?_
  refine ⟨.ref _, upd H1 _ (.lst (kvs.map Prod.snd)), I2.laid hkeep (Nat.le_refl _) ⟨?_, acc'.toList, c', ?_, ?_⟩, rfl, q _ (I2.hok.fresh (Nat.le_refl _))⟩
  · rw [List.length_map]; exact hz
  · have el : acc'.toList.length = acc'.size := by simp
    refine vals_of_at (by rw [List.length_map, el, hacc.1, lk]) fun j x v h1 h2 => ?_
    obtain ⟨k, hky⟩ := hacc.2 j v (by rw [← Array.getElem?_toList]; exact h2)
    rw [List.getElem?_map] at h1
    cases hj : kvs[j]? with
    | none => rw [hj] at h1; cases h1
    | some kx =>
      rw [hj] at h1
      cases h1
      obtain ⟨y, e1, e2⟩ := LiI.paired_get kv hj
      rw [hky] at e1
      cases e1
      exact e2.2
  · rw [Array.toArray_toList]; exact hS
/-! ### a list of texts == a list of texts -/
def rEqLS (K : PySem.W.Frag) : R2 := fun x y H Q => ∃ (a b : Addr) (xs ys : List Str), x = .ref a ∧ y = .ref b ∧ SqL K H a (xs.map V.str) ∧ SqL K H b (ys.map V.str) ∧ Q (.bl (decide (xs = ys))) H
theorem strs_at {xs : List Str} {us : List Value} (r : Vals (xs.map V.str) us) {j : Nat} (h1 : j < xs.length) (h2 : j < us.length) : ∃ t, us[j] = .str xs[j] t := by
  obtain ⟨y, e, q⟩ := LiI.paired_get r (i := j) (x := V.str xs[j]) (by rw [List.getElem?_map, List.getElem?_eq_getElem h1]; rfl)
  rw [List.getElem?_eq_getElem h2] at e
  cases e
  exact q
theorem all_eq {xs ys : List Str} (hl : xs.length = ys.length) : ((List.range xs.length).all fun j => xs.getD j "" == ys.getD j "") = decide (xs = ys) := by
  by_cases h : xs = ys
  · rw [decide_eq_true h, h]
    exact List.all_eq_true.mpr fun j _ => beq_self_eq_true _
  · rw [decide_eq_false h]
    refine Bool.eq_false_iff.mpr fun z => h (List.ext_getElem hl fun j h1 h2 => ?_)
    have q := eq_of_beq (List.all_eq_true.mp z j (List.mem_range.mpr h1))
    rw [List.getD_eq_getElem?_getD, List.getD_eq_getElem?_getD, List.getElem?_eq_getElem h1, List.getElem?_eq_getElem h2] at q
    exact q
theorem op_eqLS {X : Cx} (hu : X.A.units < cLine) : OpR X (compareOp .Eq) (rEqLS X.K) := by
  intro pins s σ H x y v u Q I rx ry h
  obtain ⟨a, b, xs, ys, rfl, rfl, ha, hb, q⟩ := h
  obtain rfl : v = Value.ref a := rx
  obtain rfl : u = Value.ref b := ry
  obtain ⟨i1, r1, ⟨o1, m1, g1, c1, d1, p1⟩, _⟩ := I.list ha
  obtain ⟨i2, r2, ⟨o2, m2, g2, c2, d2, p2⟩, _⟩ := I.list hb
  have l1 : s.heap.IsList a i1.toArray := ⟨o1, g1, c1, m1, p1⟩
  have l2 : s.heap.IsList b i2.toArray := ⟨o2, g2, c2, m2, p2⟩
  have n1 : xs.length = i1.length := by have := Paired.length r1; rw [List.length_map] at this; exact this
  have n2 : ys.length = i2.length := by have := Paired.length r2; rw [List.length_map] at this; exact this
  have fin : ∀ k : Bool, k = decide (xs = ys) → ∃ (v' : V) (H' : Hp), Inv X pins σ H' s ∧ RelV v' (Value.bool k) ∧ Q v' H' := fun k hk => ⟨.bl k, H, I, rfl, by rw [hk]; exact q⟩
  show wpAny _ _ (richCompare .Eq (.ref a) (.ref b)) _ _ _
  by_cases hl : xs.length = ys.length
  · refine SeqAt.rcP_lists (e := fun j => xs.getD j "" == ys.getD j "") l1 l2 (by simp; omega) hu (fun j h1 h2 => ?_) _ _ ?_
    · have h1' : j < i1.length := by simpa using h1
      have h2' : j < i2.length := by simpa using h2
      obtain ⟨t, e1⟩ := strs_at r1 (j := j) (by omega) h1'
      obtain ⟨t2, e2⟩ := strs_at r2 (j := j) (by omega) h2'
      rw [show i1.toArray[j] = i1[j] by simp, show i2.toArray[j] = i2[j] by simp, e1, e2]
      rw [show xs.getD j "" = xs[j]'(by omega) by rw [List.getD_eq_getElem?_getD, List.getElem?_eq_getElem (by omega)]; rfl, show ys.getD j "" = ys[j]'(by omega) by rw [List.getD_eq_getElem?_getD, List.getElem?_eq_getElem (by omega)]; rfl, ← SeqAt.str_beq]
      exact SeqAt.EqAt.eqP ((SeqRoads2.EqGives.str _ _ t t2).at _ s)
    · refine fin _ ?_
      rw [show i1.toArray.size = xs.length by simp; omega]
      exact all_eq hl
  · obtain ⟨⟨cls, dd, data, sl⟩, ho, hc, n, hd⟩ := id l1
    obtain ⟨⟨cls2, dd2, data2, sl2⟩, ho2, hc2, n2', hd2⟩ := id l2
    simp only at hc hd hc2 hd2
    subst hc hd hc2 hd2
    have ta : s.TypeIs (.ref a) "list" := ⟨_, ho, rfl⟩
    have tb : s.TypeIs (.ref b) "list" := ⟨_, ho2, rfl⟩
    refine wpAny_richCompare_same_room (op := .Eq) ta tb F.slot_list_eq (call_meets F.slot_list_eq ta F.entry_list_eq (F.args_list_eq_2 _ _) (SeqAt.list_eq_lengthsAt a b i1.toArray i2.toArray n n2' dd dd2 sl sl2 ?_) ⟨ho, ho2, ⟨(fun x => nomatch x), fin _ ?_⟩⟩) hu
    · simp; omega
    · exact (decide_eq_false fun e => hl (by rw [e])).symm
end ZX
set_option maxHeartbeats 2000000
namespace ZX
open PySem PySem.Spec PyProof.Rows L2 He
/-! ### C.m(e, ..), m a def of the class (the object is given); cls(e, ..), cls a local -/
structure CFn (K : PySem.W.Frag) (C : Addr) (mc : Value) (m : Str) (g : Addr) : Prop where
  rd : ClX.CRead K C mc
  at_ : ClX.CVal K C mc m (.ref g) (.ref g)
  kp : PySem.W.keepIn K (.ref g) = true
section
variable {X : Cx} {CX : CXT} {k i : Nat} {C p g f : Addr} {mc : Value} {fd : FuncData} {ps : List Str} {sp : Sp} {E : L2.St → XK} {E1 : XK} {o e : Expr} {es : List Expr} {m x : Str} {pos apos xp : Pos} {ta : TE} {t : TA} {pl : Sem Bool} {dvs : List V} {ds : List Value}
theorem pe_clsFn (he : PE X o ta) (c : CFn X.K C mc m g) (F : FnOk X.prog X.w X.K X.mg X.base CX k g fd ps sp) (hb : Binds X.K fd ps []) (hr : Room k X.A) (hx : ∀ σ, PassesAt CX X σ (E σ)) (ha : PA X (e :: es) t)
    (hst : starEach (e :: es) X.env = (false, eval e X.env) :: starEach es X.env := by rfl) (hpl : (backTo pos (starEach es X.env)).any (·.1) = false := by rfl)
    (ht : eval (.Call (.Attribute o m apos) (e :: es) [] pos) X.env = (do
      let ov ← eval o X.env
      standAt apos.atName
      let (f, first) ← holding [ov] (getMethod ov m pl)
      callWith pos f first (backTo pos (starEach (e :: es) X.env)) (backToKw pos (keywordEach [] X.env))) := by rfl) :
    PE X (.Call (.Attribute o m apos) (e :: es) [] pos) (tStatS C sp E ta t) := by
  refine ⟨fun pins s σ H Q I h => ?_⟩
  refine PySem.W.methodCall_KW (pl := pl) (thn (he.run pins s σ H _ I h) fun u s1 ⟨x, H1, I1, rx, ex, q⟩ => ?_) ht
  subst ex
  obtain rfl : u = Value.ref C := rx
  refine PySem.W.method_cls I1.kIn c.rd.ga (ClX.getcval_ok I1 c.rd c.at_ fun s2 I2 => ?_)
  refine PySem.W.callWith_K (h₀ := X.base) I2.ok.mod.kin c.kp (thn (ha.run pos pins _ σ H1 _ I2 q) fun us s2 ⟨vs, H2, I3, r, q2⟩ => ⟨I3.kIn, ?_⟩) hst hpl
  exact run_fnS F hr hb (hx σ) I3 r q2
/-- cls(e, ..) -/
def tMakeV (i : Nat) (C : Addr) (sp : Sp) (dvs : List V) (E : XK) (t : TA) : TE := fun σ H Q => σ[i]? = some (some (.ref C)) ∧ tMake C sp dvs E t σ H Q
theorem pe_makeV (M : Mk X.K C f) (F : FnOk X.prog X.w X.K X.mg X.base CX k f fd ps sp) (hr : Room (k + 1) X.A) (hN : X.N[i]? = some x) (hv : Vis X.env.scope x) (hb : Binds X.K fd ps ds) (hd : Vals dvs ds) (hx : Passes CX X E1) (ha : PA X (e :: es) t)
    (hdb : (x == ("__debug__" : Str)) = false := by decide) (hcd : (x == ("__classdict__" : Str)) = false := by decide)
    (he : starEach (e :: es) X.env = (false, eval e X.env) :: starEach es X.env := by rfl) (hpl : (backTo pos (starEach es X.env)).any (·.1) = false := by rfl) : PE X (.Call (.Name x xp) (e :: es) [] pos) (tMakeV i C sp dvs E1 t) := by
  refine ⟨fun pins s σ H Q I h => ?_⟩
  obtain ⟨hs, ht⟩ := h
  refine wpAny_Call_Name_kw (thn ((pe_var (pos := xp) hN hv hdb hcd).run pins s σ H (fun v H1 => v = .ref C ∧ H1 = H) I ⟨.ref C, hs, rfl, rfl⟩) fun u s1 ⟨v, H1, I1, r1, q1⟩ => ?_)
  obtain ⟨rfl, rfl⟩ := q1
  cases r1
  refine PySem.W.callWith_K (h₀ := X.base) I1.ok.mod.kin M.kp (thn (ha.run pos pins s1 σ _ _ I1 ht) fun us s2 ⟨vs, H2, I2, r, q⟩ => ⟨I2.kIn, ?_⟩) he hpl
  exact run_make M F hr hb hd hx I2 r q
end
/-! ### facts -/
theorem read_ok {K : PySem.W.Frag} {x : Str} (h : readB K x = true) : ClX.CRead K (ga K x) (.type "type") := by
  obtain ⟨a1, a2⟩ := ba h
  exact ⟨a1, eqO_ok a2⟩
/-- a def of the class x, read off the class y (or one below it) -/
theorem cfn_ok {K : PySem.W.Frag} {x m : Str} (h : cfnB K x m = true) : CFn K (ga K x) (.type "type") m (ma K (ga K x) m) := by
  obtain ⟨a1, h⟩ := ba h
  obtain ⟨a2, a3⟩ := ba h
  refine ⟨read_ok a1, ⟨?_, rfl⟩, a3⟩
  split at a2
  · rename_i g z
    rw [z, of_decide_eq_true a2]
  · cases a2
/-- a class's whole number -/
theorem cint_ok {K : PySem.W.Frag} {x m : Str} {n : Int} (h : cintB K x m n = true) : ∃ u, ClX.CVal K (ga K x) (.type "type") m (.int n) u := by
  unfold cintB at h
  split at h
  · rename_i i t z
    have e : i = n := of_decide_eq_true h
    subst e
    exact ⟨_, z, t, rfl⟩
  · cases h
/-- a class's tuple of texts -/
theorem strVs_ok : ∀ {vs : List Value} {zs : List Str}, strVs vs zs = true → Vals (zs.map V.str) vs
  | [], [], _ => .nil
  | [], _ :: _, h => by cases h
  | v :: vs, [], h => by cases v <;> cases h
  | v :: vs, y :: ys, h => by
    cases v with
    | str z t =>
      obtain ⟨h1, h2⟩ := ba h
      have e : z = y := of_decide_eq_true h1
      exact .cons ⟨t, by rw [e]⟩ (strVs_ok h2)
    | _ => cases h
theorem ctup_ok {K : PySem.W.Frag} {x m : Str} {zs : List Str} (h : ctupB K x m zs = true) : ClX.CVal K (ga K x) (.type "type") m (.ref (ctOf K x m)) (.ref (ctOf K x m)) ∧ ∀ H, SqT K H (ctOf K x m) (zs.map V.str) := by
  obtain ⟨a1, a2⟩ := ba h
  refine ⟨⟨?_, rfl⟩, fun H => ?_⟩
  · split at a1
    · rename_i p z
      rw [z, of_decide_eq_true a1]
    · cases a1
  · split at a2
    · rename_i t d its n sl z
      obtain ⟨b1, b2⟩ := ba a2
      obtain ⟨b3, b4⟩ := ba b2
      have e : t = "tuple" := of_decide_eq_true b1
      subst e
      exact .inr ⟨_, its, n, z, rfl, rfl, Nat.le_trans (of_decide_eq_true b3) (by decide), strVs_ok b4⟩
    · cases a2
/-- a classmethod -/
theorem cmet_ok {K : PySem.W.Frag} {x m : Str} (h : cmetB K x m = true) : ClX.CMet K (ga K x) (.type "type") m (ma K (ga K x) m) ((Pl.rcd "classmethod" x m).ad K) := by
  obtain ⟨a3, h⟩ := ba h
  obtain ⟨a4, a5⟩ := ba h
  refine ⟨?_, ?_, a5⟩
  · split at a3
    · rename_i n p C z
      obtain ⟨b1, b2⟩ := ba a3
      obtain ⟨b3, b4⟩ := ba b2
      rw [z, of_decide_eq_true b1, of_decide_eq_true b3, of_decide_eq_true b4]
    · cases a3
  · split at a4
    · rename_i g r z
      exact ⟨r, by rw [z, of_decide_eq_true a4]⟩
    · cases a4
/-- a property's getter -/
theorem prop_ok {K : PySem.W.Frag} {x m : Str} (h : propB K x m = true) : PropOf K (ga K x) m (ma K (ga K x) m) ((Pl.rcd "property" x m).ad K) := by
  obtain ⟨a1, h⟩ := ba h
  obtain ⟨a2, h⟩ := ba h
  obtain ⟨a3, a4⟩ := ba h
  refine ⟨eqO_ok a1, eqO_ok a2, of_decide_eq_true a3, ?_⟩
  split at a4
  · rename_i g r z
    exact ⟨r, by rw [z, of_decide_eq_true a4]⟩
  · cases a4
end ZX
set_option maxHeartbeats 2000000
namespace ZX
open PySem PySem.Spec PyProof.Rows L2 He
/-! ### keyword-only parameters with defaults, some of them given -/
theorem kb0 {K : PySem.W.Frag} {x qual : Str} {params : Arguments} {body : List Stmt} {scope : Scope} {kws : List (Str × V)} {f : Addr} {fd : FuncData} {ps : List Str} (F : FunD K x qual params body scope [] kws f fd) (n : Nat) (ks : List Str) (ms : List (Str × V))
    (g : {α : Type} → List α → List α → List α → List α) (hk : kws ≠ []) (hms : ∀ q ∈ ms, q ∈ kws)
    (hrel : ∀ {vs mz zs : List V} {us mv ws : List Value}, Vals vs us → Vals mz mv → Vals zs ws → Vals (g vs mz zs) (g us mv ws))
    (h : ∀ (D : Addr) (doc pm : Value) (an : Option Addr) (cdv ct : Value) (us mv ws : List Value), us.length = n → mv.length = ms.length → ws.length = ks.length →
      KwChain D ((ms.map (·.1)).zip mv) (bindArgs (PySem.W.fnOf x qual params body scope .none (.ref D) doc pm an cdv ct) ⟨us, ks.zip ws⟩) (ps.zip (g us mv ws))) :
    ∃ mv : List Value, KBn K fd ps n ks (fun us ws => g us mv ws) (fun vs zs => g vs (ms.map (·.2)) zs) := by
  obtain ⟨oc, od, dV, kV, doc, pm, an, cdv, ct, osl, rfl, lk, hcd, hD, hK⟩ := F.ex
  rcases hD with ⟨_, rfl⟩ | ⟨e, _⟩
  · rcases hK with e | ⟨D, rfl, hq⟩
    · exact absurd e hk
    · obtain ⟨mv, hl, rk, hks⟩ := kwd_vals (ms := ms) fun q hm => hq q (hms q hm)
      exact ⟨mv, ⟨fun s us ws X l1 l2 => L2.BindsTo.of_looks fun M => KwChain.looks X hks (h D doc pm an cdv ct us mv ws l1 hl l2), fun r1 r2 => hrel r1 rk r2⟩⟩
  · exact absurd rfl e
/-- no parameter lacks -/
theorem kbAll {K : PySem.W.Frag} {x qual : Str} {params : Arguments} {body : List Stmt} {scope : Scope} {dvs : List V} {kws : List (Str × V)} {f : Addr} {fd : FuncData} {ps : List Str} (F : FunD K x qual params body scope dvs kws f fd) (n : Nat) (ks : List Str)
    (g : {α : Type} → List α → List α → List α)
    (hrel : ∀ {vs zs : List V} {us ws : List Value}, Vals vs us → Vals zs ws → Vals (g vs zs) (g us ws))
    (h : ∀ (dV kV doc pm : Value) (an : Option Addr) (cdv ct : Value) (us ws : List Value), us.length = n → ws.length = ks.length → (dvs = [] → dV = .none) →
      bindArgs (PySem.W.fnOf x qual params body scope dV kV doc pm an cdv ct) ⟨us, ks.zip ws⟩ = pure (ps.zip (g us ws))) :
    KBn K fd ps n ks (fun us ws => g us ws) (fun vs zs => g vs zs) := by
  obtain ⟨oc, od, dV, kV, doc, pm, an, cdv, ct, osl, rfl, lk, hcd, hD, hK⟩ := F.ex
  exact ⟨fun s us ws X l1 l2 => .of_eq (h dV kV doc pm an cdv ct us ws l1 l2 fun e => by
    rcases hD with ⟨_, e2⟩ | ⟨e2, _⟩
    · exact e2
    · exact absurd e e2), fun r1 r2 => hrel r1 r2⟩
section
variable {X : Cx} {CX : CXT} {k n : Nat} {C g f : Addr} {mc : Value} {fd : FuncData} {ps ks : List Str} {sp : Sp} {E : L2.St → XK} {E1 : XK} {o e : Expr} {es : List Expr} {kws : List Keyword} {m x : Str} {p pos apos : Pos} {ta : TE} {t tk : TA} {pl : Sem Bool}
  {gg : List Value → List Value → List Value} {gV : List V → List V → List V}
/-- C(k = v, ..) -/
theorem pe_makeN0 (M : Mk X.K C f) (F : FnOk X.prog X.w X.K X.mg X.base CX k f fd ps sp) (hr : Room (k + 1) X.A) (hg : Gl X x) (hm : X.mg x = some (.ref C)) (hb : KBn X.K fd ps 1 ks gg gV) (hx : Passes CX X E1)
    (hkw : PK X kws tk) (hall : (backToKw pos (keywordEach kws X.env)).all (·.1.isSome) = true := by rfl) (hks : (backToKw pos (keywordEach kws X.env)).filterMap (·.1) = ks := by rfl)
    (hdb : (x == ("__debug__" : Str)) = false := by decide)
    (hpl : ((backTo pos (starEach [] X.env)).any (·.1) || (backToKw pos (keywordEach kws X.env)).any (·.1.isNone)) = false := by rfl) :
    PE X (.Call (.Name x p) [] kws pos) (tMakeN C 0 ks.length sp gV E1 tNil tk) := by
  refine ⟨fun pins s σ H Q I h => ?_⟩
  refine wpAny_Call_Name_kw (ld_glob I hg hm (PySem.W.callWith_KW0 (h₀ := X.base) I.ok.mod.kin M.kp hall ?_ hpl) hdb)
  refine thn (hkw.run pos pins s σ H _ I h) fun ws s2 ⟨zs, H2, I2, rz, l1, l2, q2⟩ => ⟨I2.kIn, ?_⟩
  rw [hks]
  exact run_makeN (us := []) (vs := []) M F hr hb hx I2 .nil rz l1 l2 q2
/-- a call with keywords, errors at the reading σ -/
theorem run_fnKS {pins : List (Addr × Obj)} {σ : L2.St} {H : Hp} {s : Shared} {Q : VK} {E : XK} {us ws : List Value} {vs zs : List V} (F : FnOk X.prog X.w X.K X.mg X.base CX k f fd ps sp) (hr : Room k X.A) (hb : KBn X.K fd ps n ks gg gV) (hx : PassesAt CX X σ E)
    (I : Inv X pins σ H s) (r : Vals vs us) (rz : Vals zs ws) (l1 : vs.length = n) (l2 : zs.length = ks.length) (h : sp (gV vs zs) H Q E) : wpAny (model X.prog X.w) X.A (call (.ref f) us (ks.zip ws)) (EP X pins σ Q) X.xe s := by
  have r2 := hb.rel r rz
  refine wpAny_call (codeAny_mono (F.run X.A X.stack s H ⟨us, ks.zip ws⟩ (gg us ws) (gV vs zs) Q E hr I.env0 (hb.to s us ws I.kIn (r.length.symm.trans l1) (rz.length.symm.trans l2)) r2 h) fun r s' hq => ?_)
  cases r with
  | error e => exact hx pins H s e s' I hq
  | ok fl =>
    cases fl with
    | ret u => exact I.after hq
    | next => exact False.elim hq
    | brk => exact False.elim hq
    | cont => exact False.elim hq
def tClsK (C : Addr) (n m : Nat) (sp : Sp) (gV : List V → List V → List V) (E : L2.St → XK) (ta : TE) (t tk : TA) : TE := fun σ H Q => ta σ H fun x H1 => x = .ref C ∧ t σ H1 fun vs H2 => tk σ H2 fun zs H3 => vs.length = n ∧ zs.length = m ∧ sp (gV vs zs) H3 Q (E σ)
/-- C.m(e, .., k = v, ..), m a def of the class -/
theorem pe_clsFnK (he : PE X o ta) (c : CFn X.K C mc m g) (F : FnOk X.prog X.w X.K X.mg X.base CX k g fd ps sp) (hb : KBn X.K fd ps n ks gg gV) (hr : Room k X.A) (hx : ∀ σ, PassesAt CX X σ (E σ)) (ha : PA X (e :: es) t) (hkw : PK X kws tk)
    (hall : (backToKw pos (keywordEach kws X.env)).all (·.1.isSome) = true := by rfl) (hks : (backToKw pos (keywordEach kws X.env)).filterMap (·.1) = ks := by rfl)
    (hst : starEach (e :: es) X.env = (false, eval e X.env) :: starEach es X.env := by rfl)
    (hpl : ((backTo pos (starEach (e :: es) X.env)).any (·.1) || (backToKw pos (keywordEach kws X.env)).any (·.1.isNone)) = false := by rfl)
    (ht : eval (.Call (.Attribute o m apos) (e :: es) kws pos) X.env = (do
      let ov ← eval o X.env
      standAt apos.atName
      let (f, first) ← holding [ov] (getMethod ov m pl)
      callWith pos f first (backTo pos (starEach (e :: es) X.env)) (backToKw pos (keywordEach kws X.env))) := by rfl) :
    PE X (.Call (.Attribute o m apos) (e :: es) kws pos) (tClsK C n ks.length sp gV E ta t tk) := by
  refine ⟨fun pins s σ H Q I h => ?_⟩
  refine PySem.W.methodCall_KW (pl := pl) (thn (he.run pins s σ H _ I h) fun u s1 ⟨x, H1, I1, rx, ex, q⟩ => ?_) ht
  subst ex
  obtain rfl : u = Value.ref C := rx
  refine PySem.W.method_cls I1.kIn c.rd.ga (ClX.getcval_ok I1 c.rd c.at_ fun s2 I2 => ?_)
  refine PySem.W.callWith_KW (h₀ := X.base) I2.ok.mod.kin c.kp hall (thn (ha.run pos pins _ σ H1 _ I2 q) fun us s2 ⟨vs, H2, I3, r, q2⟩ => ?_) hpl hst
  refine thn (hkw.run pos pins s2 σ H2 _ I3 q2) fun ws s3 ⟨zs, H3, I4, rz, l1, l2, q3⟩ => ⟨I4.kIn, ?_⟩
  rw [hks]
  exact run_fnKS F hr hb (hx σ) I4 r rz l1 l2 q3
end
end ZX
set_option maxHeartbeats 2000000
namespace ZX
open PySem PySem.Spec PyProof.Rows L2 He
/-! ### min(xs, default=..) of ints, max of several ints -/
section
variable {P : Program} {w : World} {A : Around} {R : Result → Shared → Prop} {I S : Addr} {fp wr : List Addr} {n : Nat} {Pv : Nat → Value → Prop} {St : Nat → Heap → Prop} {kw : List (Str × Value)}
theorem nm_min : (toString "min" ++ toString ".loop" : String) = "min.loop" := by decide
theorem minD_loop (W : Walks P w A.in1 I fp wr n Pv St) (bt : Nat → Nat → Bool) (hc : CmpOf P w A.in1 .Lt Pv bt) (nS : S ∉ fp) :
    ∀ (r i : Nat) (s : Shared) (u : Value) (c : Nat), n - (i + 1) = r → i + 1 ≤ n → St (i + 1) s.heap → Pv (argBest bt i) u →
    s.heap.get? S = some { cls := .type "list", dict := none, data := .seq #[u, u] c, slots := #[] } →
    (∀ v g tk, Pv (argBest bt (n - 1)) v → (∀ b o, b ∉ wr → b ≠ S → s.heap.get? b = some o → g.get? b = some o) → R (.ok (.ret v)) { s with heap := g, toks := tk }) →
    codeAny (model P w) A (.builtin "min.loop" ⟨[.ref I, .none, .ref S], kw⟩) R s := by
  have nW : S ∉ wr := fun h => nS (W.sub _ h)
  intro r
  induction r with
  | zero =>
    intro i s u c hr hi hst hu hS hR
    have e : i + 1 = n := by omega
    refine codeAny_builtin PySem.F.entry_min_loop ?_
    rw [Around.under_plainId PySem.F.plain_min_loop ⟨[.ref I, .none, .ref S], kw⟩]
    show wpAny _ A.in1 (seqItems? (Value.ref S) >>= _) _ _ s
    refine wpAny_bind <| wpAny_seqItems hS rfl ?_
    show wpAny _ A.in1 (tryCatch (pyNext (Value.ref I)) _ >>= _) _ _ s
    refine wpAny_bind <| wpAny_tryCatch <| W.done s _ _ (e ▸ hst) fun g tk keep => ?_
    have hS2 := keep S _ nW hS
    show wpAny _ A.in1 (updateSeq S (fun _ => (#[] : Array Value)) >>= _) _ _ _
    refine wpAny_bind <| wpAny_updateSeq hS2 rfl <| wpAny_bind <| wpAny_letGo <| wpAny_pure ?_
    exact hR u _ tk (by rw [← e]; exact hu) fun b o b1 b2 z => (Heap.get?_update_other _ _ (Ne.symm b2)).trans (keep b o b1 z)
  | succ r ih =>
    intro i s u c hr hi hst hu hS hR
    have lt : i + 1 < n := by omega
    refine codeAny_builtin PySem.F.entry_min_loop ?_
    rw [Around.under_plainId PySem.F.plain_min_loop ⟨[.ref I, .none, .ref S], kw⟩]
    show wpAny _ A.in1 (seqItems? (Value.ref S) >>= _) _ _ s
    refine wpAny_bind <| wpAny_seqItems hS rfl ?_
    show wpAny _ A.in1 (tryCatch (pyNext (Value.ref I)) _ >>= _) _ _ s
    refine wpAny_bind <| wpAny_tryCatch <| W.item (i + 1) s _ _ lt hst fun v g tk hv hst2 keep => ?_
    have hS2 := keep S _ nW hS
    show wpAny _ A.in1 (tryCatch (holding [v, v] (richCompare .Lt v u >>= _)) _ >>= _) _ _ _
    refine wpAny_bind <| wpAny_tryCatch <| wpAny_holding <| wpAny_bind <| hc (i + 1) (argBest bt i) v u _ _ _ hv hu ?_
    refine wpAny_bind <| wpAny_holding <| wpAny_truthy_bool ?_
    refine wpAny_bind <| wpAny_letGo <| wpAny_pure ?_
    cases q : bt (i + 1) (argBest bt i) with
    | true =>
      rw [if_pos rfl]
      refine wpAny_bind ?_
      refine wpAny_updateSeq hS2 rfl <| wpAny_bind <| wpAny_letGo ?_
      rw [nm_min]
      refine wpAny_pure ⟨plainId_quiet PySem.F.plain_min_loop _, ih (i + 1) _ v _ (by omega) lt (W.frame _ _ _ hst2 fun b hb o z => ?_) (by simp only [argBest, q, if_true]; exact hv) (Heap.get?_update_self _ hS2 rfl) fun v2 g2 tk2 h2 k2 => ?_⟩
      · exact (Heap.get?_update_other _ _ (fun h : S = b => nS (h ▸ hb))).trans z
      · exact hR v2 g2 tk2 h2 fun b o b1 b2 z => k2 b o b1 b2 ((Heap.get?_update_other _ _ (Ne.symm b2)).trans (keep b o b1 z))
    | false =>
      rw [if_neg Bool.false_ne_true]
      refine wpAny_bind <| wpAny_letGo ?_
      rw [nm_min]
      exact wpAny_pure ⟨plainId_quiet PySem.F.plain_min_loop _, ih (i + 1) _ u c (by omega) lt hst2 (by simp only [argBest, q, Bool.false_eq_true, if_false]; exact hu) hS2 fun v2 g2 tk2 h2 k2 => hR v2 g2 tk2 h2 fun b o b1 b2 z => k2 b o b1 b2 (keep b o b1 z)⟩
end
theorem args_minD (a v : Value) : argsOk "min" ⟨[a], [(Str.ofString "default", v)]⟩ := by unfold argsOk; kernel_rfl
def rMinD (K : PySem.W.Frag) (d : V) : List V → Hp → VK → Prop := fun vs H Q => ∃ (a : Addr) (ns : List Int), vs = [V.ref a] ∧ SqL K H a (ns.map V.int) ∧ (ns = [] → Q d H) ∧ ∀ m, m ∈ ns → (∀ y, y ∈ ns → m ≤ y) → Q (.int m) H
section
variable {P : Program} {w : World} {A : Around} {E : Value → Shared → Prop} {s : Shared} {l : Addr} {its : List Value} {ns : List Int} {d : Value} {Q : Value → Shared → Prop}
theorem minD_raw (hh : A.handled = none) (hl : s.heap.IsList l its.toArray) (hi : IntsAre its ns)
    (h0 : ns = [] → ∀ g tk, (∀ b o, s.heap.get? b = some o → g.get? b = some o) → Q d { s with heap := g, toks := tk })
    (h1 : ∀ g tk M t, (∀ b o, s.heap.get? b = some o → g.get? b = some o) → M ∈ ns → (∀ a, a ∈ ns → M ≤ a) → Q (.int M t) { s with heap := g, toks := tk }) :
    wpAny (model P w) A (call (.builtin "min") [.ref l] [(Str.ofString "default", d)]) Q E s := by
  obtain ⟨xs, e⟩ := hi.allInts.items
  have hn : numsOf (intItems xs).toList = ns := by rw [← e]; exact hi.numsOf
  rw [nums_intItems] at hn
  subst hn
  rw [e] at hl
  refine kmb_tree PySem.F.kind_min PySem.F.plain_min PySem.F.entry_min (args_minD _ _) ?_
  show wpAny _ A.in1 (Builtin.Builtins.bindParams "min" ["key", "default"] 0 ⟨[], [(Str.ofString "default", d)]⟩ >>= _) _ _ s
  refine wpAny_bind <| wpAny_of_eq (show Builtin.Builtins.bindParams "min" ["key", "default"] 0 ⟨[], [(Str.ofString "default", d)]⟩ = pure [none, some d] from rfl) ?_
  refine wpAny_bind <| wpAny_pure ?_
  refine wpAny_bind <| iter_intList hl fun s2 e2 st hfp ne => ?_
  subst e2
  refine wpAny_bind <| wpAny_newList ?_ (Nat.zero_le _)
  rw [nm_min]
  refine wpAny_pure ⟨plainId_quiet PySem.F.plain_min_loop _, ?_⟩
  have W := Walks.list (prog := P) (w := w) (A := A.in1) hh _ l ne (intItems xs)
  generalize hs2 : ({ s with heap := s.heap.push { cls := .type "list_iterator", data := .fields #[.ref l, .int 0 0] } } : Shared) = s2 at st hfp
  have old : ∀ b o, s.heap.get? b = some o → s2.heap.get? b = some o := fun b o z => by
    rw [← hs2]
    exact Heap.get?_push_of_some _ z
  have nI : ∀ b o, s.heap.get? b = some o → b ∉ [s.heap.objs.size] := fun b o z hb => by
    rw [List.mem_singleton.mp hb] at z
    exact Nat.lt_irrefl _ (Heap.lt_size z)
  have nF : s2.heap.objs.size ∉ [s.heap.objs.size, l] := fun hb => Nat.lt_irrefl _ (hfp _ hb)
  have st2 := W.frame 0 s2.heap (s2.heap.push { cls := .type "list", data := .seq #[] 0 }) st fun b _ o z => Heap.get?_push_of_some _ z
  have hS : (s2.heap.push { cls := .type "list", data := .seq #[] 0 }).get? s2.heap.objs.size = some { cls := .type "list", data := .seq #[] 0 } := Heap.get?_push_size _ rfl
  have old2 : ∀ b o, s.heap.get? b = some o → (s2.heap.push { cls := .type "list", data := .seq #[] 0 }).get? b = some o := fun b o z => Heap.get?_push_of_some _ (old b o z)
  have nSb : ∀ b o, s.heap.get? b = some o → b ≠ s2.heap.objs.size := fun b o z e => by
    have := Heap.lt_size (old b o z)
    rw [e] at this
    exact Nat.lt_irrefl _ this
  show codeAny (model P w) A (.builtin "min.loop" ⟨[.ref s.heap.objs.size, .none, .ref s2.heap.objs.size], [(Str.ofString "default", d)]⟩) _ _
  refine codeAny_builtin PySem.F.entry_min_loop ?_
  rw [Around.under_plainId PySem.F.plain_min_loop ⟨[.ref s.heap.objs.size, .none, .ref s2.heap.objs.size], [(Str.ofString "default", d)]⟩]
  show wpAny _ A.in1 (seqItems? (Value.ref s2.heap.objs.size) >>= _) _ _ _
  refine wpAny_bind <| wpAny_seqItems hS rfl ?_
  show wpAny _ A.in1 (tryCatch (pyNext (Value.ref s.heap.objs.size)) _ >>= _) _ _ _
  have nSw : s2.heap.objs.size ∉ [s.heap.objs.size] := fun hb => nF (List.mem_cons.mpr (.inl (List.mem_singleton.mp hb)))
  by_cases hz : 0 < (intItems xs).size
  · refine wpAny_bind <| wpAny_tryCatch <| W.item 0 _ _ _ hz st2 fun v g tk hv hst2 keep => ?_
    have hS2 := keep _ _ nSw hS
    show wpAny _ A.in1 (updateSeq s2.heap.objs.size (fun _ => (#[v, v] : Array Value)) >>= _) _ _ _
    refine wpAny_bind <| wpAny_updateSeq hS2 rfl ?_
    rw [nm_min]
    refine wpAny_pure ⟨plainId_quiet PySem.F.plain_min_loop _, minD_loop W (fun i j => decide (numAt xs i < numAt xs j)) (CmpOf.ints_lt (numAt xs) (fun _ _ => intItems_at)) nF _ 0 _ v _ rfl hz (W.frame _ _ _ hst2 fun b hb o z => ?_) hv (Heap.get?_update_self _ hS2 rfl) fun v2 g2 tk2 h2 k2 => ?_⟩
    · exact (Heap.get?_update_other _ _ (fun h : s2.heap.objs.size = b => nF (h ▸ hb))).trans z
    · have hsz : (intItems xs).size = xs.size := by simp [intItems]
      rw [hsz] at hz h2
      obtain ⟨t, rfl⟩ := intItems_at h2
      obtain ⟨b1, b2⟩ := argBest_lt (numAt xs) (xs.size - 1)
      subst hs2
      refine h1 g2 tk2 _ t (fun b o z => k2 b o (nI b o z) (nSb b o z) ((Heap.get?_update_other _ _ (Ne.symm (nSb b o z))).trans (keep b o (nI b o z) (old2 b o z)))) ?_ fun a ha => ?_
      · rw [numAt_eq]
        exact PySem.getD_mem (by rw [List.length_map, Array.length_toList]; omega)
      · obtain ⟨j, hj, rfl⟩ := mem_getD ha
        rw [List.length_map, Array.length_toList] at hj
        rw [← numAt_eq]
        exact b2 j (by omega)
  · have e0 : (intItems xs).size = 0 := by omega
    refine wpAny_bind <| wpAny_tryCatch <| W.done _ _ _ (e0 ▸ st2) fun g tk keep => ?_
    show wpAny _ A.in1 (rule _ >>= _) _ _ _
    refine wpAny_bind <| wpAny_rule <| wpAny_pure ?_
    subst hs2
    refine h0 ?_ _ _ fun b o z => keep b o (nI b o z) (old2 b o z)
    have hsz : (intItems xs).size = xs.size := by simp [intItems]
    rw [hsz] at e0
    have : xs.toList = [] := by
      apply List.eq_nil_of_length_eq_zero
      rw [Array.length_toList]
      exact e0
    rw [this]
    rfl
end
end ZX
set_option maxHeartbeats 2000000
namespace ZX
open PySem PySem.Spec PyProof.Rows L2 He
def rMinK (K : PySem.W.Frag) : List V → List V → Hp → VK → Prop := fun vs zs H Q => ∃ (a : Addr) (d : V) (ns : List Int), vs = [V.ref a] ∧ zs = [d] ∧ SqL K H a (ns.map V.int) ∧ (ns = [] → Q d H) ∧ ∀ m, m ∈ ns → (∀ y, y ∈ ns → m ≤ y) → Q (.int m) H
/-- max of several ints -/
def rMaxs : List V → Hp → VK → Prop := fun vs H Q => ∃ ns : List Int, vs = ns.map V.int ∧ 2 ≤ ns.length ∧ ns.length ≤ 1000 ∧ ∀ m, m ∈ ns → (∀ y, y ∈ ns → y ≤ m) → Q (.int m) H
section
variable {X : Cx}
theorem cr_minD (hc : X.calm = true) : CallRK X (.builtin "min") [("default" : Str)] (rMinK X.K) := by
  intro pins s σ H vs zs us ws Q I r rz h
  obtain ⟨a, d, ns, rfl, rfl, hs, h0, h1⟩ := h
  obtain ⟨its, rv, hl, _⟩ := I.list hs
  rw [Vals.ref1 r]
  obtain ⟨u, rfl, ru⟩ := vals1 rz
  exact minD_raw (I.ok.hd hc) hl.isList rv.ints (fun e g tk hk => ⟨d, H, I.kept hk, ru, h0 e⟩) fun g tk m t hk b1 b2 => ⟨.int _, H, I.kept hk, ⟨_, rfl⟩, h1 m b1 b2⟩
end
theorem args_maxN (a b : Value) (r : List Value) : argsOk "max" ⟨a :: b :: r, []⟩ := by unfold argsOk; kernel_rfl
theorem nm_max : (toString "max" ++ toString ".loop" : String) = "max.loop" := by decide
section
variable {P : Program} {w : World} {A : Around} {E : Value → Shared → Prop} {s : Shared} {Q : Value → Shared → Prop}
theorem maxN_call {a b : Value} {r : List Value} (hz : (a :: b :: r).length ≤ sizeLine)
    (h : wpAny (model P w) A.in1 (pyIter (.ref s.heap.objs.size)) (fun it s2 => ∃ I fp wr n Pv St bt, it = .ref I ∧ Walks P w A.in1 I fp wr n Pv St ∧ St 0 s2.heap ∧ (∀ b ∈ fp, b < s2.heap.objs.size) ∧ 0 < n ∧ CmpOf P w A.in1 .Gt Pv bt ∧
      ∀ v g tk, Pv (argBest bt (n - 1)) v → (∀ b o, b ∉ wr → s2.heap.get? b = some o → g.get? b = some o) → Q v { s2 with heap := g, toks := tk }) E
      { s with heap := s.heap.push { cls := .type "tuple", data := .seq (a :: b :: r).toArray } }) : wpAny (model P w) A (call (.builtin "max") (a :: b :: r)) Q E s := by
  refine call_function_tree PySem.F.kind_max PySem.F.plain_max PySem.F.entry_max (args_maxN a b r) ?_
  show wpAny _ A.in1 (Builtin.Builtins.bindParams "max" ["key", "default"] 0 ⟨[], []⟩ >>= _) _ _ s
  refine wpAny_bind <| wpAny_of_eq (show Builtin.Builtins.bindParams "max" ["key", "default"] 0 ⟨[], []⟩ = pure [none, none] from rfl) ?_
  show wpAny _ A.in1 (newTuple (a :: b :: r) >>= _) _ _ s
  refine wpAny_bind <| wpAny_newObj_type (hd := by show (a :: b :: r).toArray.size ≤ sizeLine; rw [List.size_toArray]; exact hz) ?_
  refine wpAny_bind <| wpAny_mono h (fun it s2 z => ?_) fun _ _ e => e
  obtain ⟨I, fp, wr, n, Pv, St, bt, rfl, W, st, hf, hn, hc, hQ⟩ := z
  refine wpAny_bind <| wpAny_newObj_type ?_
  have nS : s2.heap.objs.size ∉ fp := fun hm => Nat.lt_irrefl _ (hf _ hm)
  rw [nm_max]
  exact wpAny_pure ⟨plainId_quiet PySem.F.plain_max_loop _, codeAny_max_loop_first W bt hc s2.heap.objs.size nS hn (W.frame _ _ _ st fun b _ o e => Heap.get?_push_of_some _ e) (Heap.get?_push_size _ rfl) fun v g tk hP hk =>
    hQ v g tk hP fun b o hw e => hk b o hw (Nat.ne_of_lt (Heap.lt_size e)) (Heap.get?_push_of_some _ e)⟩
theorem maxN_ints {us : List Value} {ns : List Int} (hh : A.handled = none) (hi : IntsAre us ns) (h2 : 2 ≤ ns.length) (hz : ns.length ≤ sizeLine)
    (h : ∀ g tk M t, (∀ b o, s.heap.get? b = some o → g.get? b = some o) → M ∈ ns → (∀ y, y ∈ ns → y ≤ M) → Q (.int M t) { s with heap := g, toks := tk }) : wpAny (model P w) A (call (.builtin "max") us) Q E s := by
  have hlen : us.length = ns.length := hi.length
  obtain ⟨a, b, r, rfl⟩ : ∃ a b r, us = a :: b :: r := by
    match us, hlen with
    | a :: b :: r, _ => exact ⟨a, b, r, rfl⟩
    | [a], e =>
      have e : 1 = ns.length := e
      omega
    | [], e =>
      have e : 0 = ns.length := e
      omega
  obtain ⟨xs, e⟩ := hi.allInts.items
  have hn : numsOf (intItems xs).toList = ns := by rw [← e]; exact hi.numsOf
  rw [nums_intItems] at hn
  subst hn
  refine maxN_call (hlen ▸ hz) ?_
  rw [e]
  have hT : (s.heap.push { cls := .type "tuple", data := .seq (intItems xs) }).IsTuple s.heap.objs.size (intItems xs) := ⟨_, Heap.get?_push_size _ rfl, rfl, 0, rfl⟩
  refine wpAny_pyIter_tuple hT ?_
  have hsz : (s.heap.push { cls := .type "tuple", data := .seq (intItems xs) }).objs.size = s.heap.objs.size + 1 := Heap.size_push ..
  have hx : (intItems xs).size = xs.size := by simp [intItems]
  have h2' : 2 ≤ xs.size := by simpa using h2
  refine ⟨_, [_, s.heap.objs.size], [_], _, _, _, _, rfl, Walks.tuple (A := A.in1) hh _ s.heap.objs.size (by rw [hsz]; exact Nat.ne_of_lt (Nat.lt_succ_self _)) (intItems xs),
    ⟨⟨_, Heap.get?_push_size _ rfl, rfl, rfl⟩, hT.push _⟩, fun d hd => ?_, by rw [hx]; omega, CmpOf.ints_gt (numAt xs) (fun _ _ => intItems_at), fun v g tk hP hk => ?_⟩
  · show d < ((s.heap.push _).push _).objs.size
    rw [Heap.size_push, hsz]
    simp only [List.mem_cons, List.not_mem_nil, or_false] at hd
    rcases hd with rfl | rfl
    · rw [hsz]; exact Nat.lt_succ_self _
    · exact Nat.lt_succ_of_lt (Nat.lt_succ_self _)
  · have old : ∀ d o, s.heap.get? d = some o → g.get? d = some o := fun d o z => by
      refine hk d o (fun hm => ?_) (Heap.get?_push_of_some _ (Heap.get?_push_of_some _ z))
      have := Heap.lt_size z
      rw [List.mem_singleton.mp hm, hsz] at this
      exact Nat.lt_irrefl _ (Nat.lt_of_succ_lt this)
    rw [hx] at hP
    obtain ⟨t, rfl⟩ := intItems_at hP
    obtain ⟨b1, b2⟩ := argBest_gt (numAt xs) (xs.size - 1)
    refine h g tk _ t old ?_ fun y hy => ?_
    · rw [numAt_eq]
      exact PySem.getD_mem (by rw [List.length_map, Array.length_toList]; omega)
    · obtain ⟨j, hj, rfl⟩ := mem_getD hy
      rw [List.length_map, Array.length_toList] at hj
      rw [← numAt_eq]
      exact b2 j (by omega)
end
section
variable {X : Cx} {CX : CXT} {k : Nat} {C f : Addr} {fd : FuncData} {ps ks : List Str} {sp : Sp} {E : XK} {o : Expr} {kws : List Keyword} {m : Str} {pos apos : Pos} {ta : TE} {tk : TA} {pl : Sem Bool} {gg : List Value → List Value → List Value} {gV : List V → List V → List V}
theorem call_maxN (hc : X.calm = true) : CallR X (.builtin "max") rMaxs := by
  intro pins s σ H vs us Q I r h
  obtain ⟨ns, rfl, h2, hz, q⟩ := h
  exact maxN_ints (I.ok.hd hc) r.ints h2 (Nat.le_trans hz (by decide)) fun g tk M t hk b1 b2 => ⟨.int _, H, I.kept hk, ⟨_, rfl⟩, q M b1 b2⟩
/-- o.m(k = v, ..) -/
def tMethK (C : Addr) (m : Str) (n : Nat) (sp : Sp) (gV : List V → List V → List V) (E : XK) (ta : TE) (tk : TA) : TE := fun σ H Q => ta σ H fun x H1 => ∃ a dx fs, x = .ref a ∧ H1 a = some (.ins C dx fs) ∧ fs.lookup m = none ∧
  tk σ H1 fun zs H2 => zs.length = n ∧ sp (gV [x] zs) H2 Q E
theorem pe_methK0 (he : PE X o ta) (c : Cls X.K C) (hm : Meth X.K C m f) (F : FnOk X.prog X.w X.K X.mg X.base CX k f fd ps sp) (hr : Room k X.A) (hb : KBn X.K fd ps 1 ks gg gV) (hx : Passes CX X E) (hkw : PK X kws tk)
    (hall : (backToKw pos (keywordEach kws X.env)).all (·.1.isSome) = true := by rfl) (hks : (backToKw pos (keywordEach kws X.env)).filterMap (·.1) = ks := by rfl)
    (hpl : ((backTo pos (starEach [] X.env)).any (·.1) || (backToKw pos (keywordEach kws X.env)).any (·.1.isNone)) = false := by rfl)
    (ht : eval (.Call (.Attribute o m apos) [] kws pos) X.env = (do
      let ov ← eval o X.env
      standAt apos.atName
      let (f, first) ← holding [ov] (getMethod ov m pl)
      callWith pos f first (backTo pos (starEach [] X.env)) (backToKw pos (keywordEach kws X.env))) := by rfl) :
    PE X (.Call (.Attribute o m apos) [] kws pos) (tMethK C m ks.length sp gV E ta tk) := by
  refine ⟨fun pins s σ H Q I h => ?_⟩
  refine PySem.W.methodCall_KW (pl := pl) (thn (he.run pins s σ H _ I h) fun u s1 ⟨x, H1, I1, rx, a, dx, fs, ex, ea, l, q⟩ => ?_) ht
  subst ex
  obtain rfl : u = Value.ref a := rx
  refine getmeth_ok I1 ea c hm l ?_
  refine PySem.W.callWith_KW0 (first := [.ref a]) (h₀ := X.base) I1.ok.mod.kin hm.kp hall ?_ hpl
  refine thn (hkw.run pos pins s1 σ H1 _ I1 q) fun ws s2 ⟨zs, H2, I2, rz, l2, q2⟩ => ⟨I2.kIn, ?_⟩
  rw [hks]
  exact run_fnN (us := [.ref a]) (vs := [.ref a]) F hr hb hx I2 (.cons rfl .nil) rz rfl l2 q2
end
end ZX
namespace Z
open PySem PySem.Spec PyProof.Rows L2 TL PySem.Builtin.Str
/-! ### strings -/
def allIn (z s : Str) : Bool := (tl z).all fun c => decide (c ∈ tl s)
theorem len_tl' (x : Str) : (tl x).length = x.length := (len_tl x).symm
theorem tl_empty : tl ("" : Str) = [] := by decide +kernel
theorem eq_empty {x : Str} : x = ("" : Str) ↔ tl x = [] := by
  constructor
  · intro h; rw [h]; exact tl_empty
  · intro h; exact ext_tl (h.trans tl_empty.symm)
theorem contains_mem (y : Str) (c : Nat) : y.cps.contains c = decide (c ∈ tl y) := by
  have : y.cps.contains c = y.cps.toList.contains c := by
    cases y with | mk a => simp
  rw [this]
  by_cases h : c ∈ tl y
  · rw [decide_eq_true h]; exact List.contains_iff_mem.mpr h
  · rw [decide_eq_false h]
    cases e : y.cps.toList.contains c with
    | false => rfl
    | true => exact absurd (List.contains_iff_mem.mp e) h
/-- strip(signs) leaves nothing exactly if all are among the signs -/
theorem strip_all (z s : Str) : decide (Txt.stripChars z s = ("" : Str)) = allIn z s := by
  have hg : s.cps.contains = fun c => decide (c ∈ tl s) := funext (contains_mem s)
  have e0 : Txt.stripChars z s = strSub z (stripLo s.cps.contains true z) (stripHi s.cps.contains true z (stripLo s.cps.contains true z)) := stripBy_eq _ _ _ _
  obtain ⟨l1, l2, l3⟩ := lo_facts s.cps.contains z
  obtain ⟨h1, h2, h3, h4⟩ := hi_facts s.cps.contains z _ l1
  generalize hlo : stripLo s.cps.contains true z = lo at *
  generalize hhi : stripHi s.cps.contains true z lo = hi at *
  have hlen : (tl z).length = z.length := len_tl' z
  have e1 : tl (Txt.stripChars z s) = ((tl z).drop lo).take (hi - lo) := by rw [e0]; exact tl_strSub _ _ _
  have key : tl (Txt.stripChars z s) = [] ↔ hi = lo := by
    rw [e1]
    constructor
    · intro h
      have := congrArg List.length h
      rw [List.length_take, List.length_drop, hlen] at this
      simp only [List.length_nil] at this
      omega
    · intro h; rw [h]; simp
  have gd : ∀ k, k < z.length → s.cps.contains (z.cps.getD k 0) = true → z.cps.getD k 0 ∈ tl s := fun k _ h => by
    rw [contains_mem] at h; exact of_decide_eq_true h
  have gt : ∀ k (hk : k < z.length), z.cps.getD k 0 = (tl z)[k]'(by rw [hlen]; exact hk) := fun k hk => by
    rw [← getD_list]
    have : k < z.cps.toList.length := by rw [← hlen] at hk; exact hk
    show z.cps.toList.getD k 0 = z.cps.toList[k]
    rw [List.getD_eq_getElem?_getD, List.getElem?_eq_getElem this]
    rfl
  by_cases hh : hi = lo
  · rw [decide_eq_true (eq_empty.mpr (key.mpr hh))]
    symm
    refine List.all_eq_true.mpr fun c hc => decide_eq_true ?_
    obtain ⟨k, hk, e⟩ := List.mem_iff_getElem.mp hc
    have hk' : k < z.length := by rw [← hlen]; exact hk
    have : z.cps.getD k 0 ∈ tl s := by
      by_cases hkl : k < lo
      · exact gd k hk' (l2 k hkl)
      · exact gd k hk' (h3 k (by omega) hk')
    rw [gt k hk', e] at this
    exact this
  · have hne : ¬ Txt.stripChars z s = ("" : Str) := fun h => hh (key.mp (eq_empty.mp h))
    rw [decide_eq_false hne]
    symm
    cases e : allIn z s with
    | false => rfl
    | true =>
      exfalso
      have ha := List.all_eq_true.mp e
      have hlt : lo < z.length := by omega
      rcases l3 with h | h
      · omega
      · have hm : z.cps.getD lo 0 ∈ tl s := by
          rw [gt lo hlt]
          exact of_decide_eq_true (ha _ (List.getElem_mem _))
        rw [contains_mem, decide_eq_true hm] at h
        cases h
theorem strip_len (z s : Str) : (Txt.stripChars z s).length ≤ z.length := by
  have e0 : Txt.stripChars z s = strSub z (stripLo s.cps.contains true z) (stripHi s.cps.contains true z (stripLo s.cps.contains true z)) := stripBy_eq _ _ _ _
  rw [e0, len_tl, tl_strSub, List.length_take, List.length_drop, len_tl]
  omega
/-! ### plain -/
def signs : Str := (" !\"#$&'()*+,-./0123456789:;<=>?@ABCDEFGHIJKLMNOPQRSTUVWXYZ[\\]^_`" : Str) ++ ("abcdefghijklmnopqrstuvwxyz{|}~" : Str)
theorem signs_lt : ∀ c ∈ tl signs, c < 128 := by decide +kernel
theorem signs_128 : ∀ c, c < 128 → (Unicode.isPrintable c && decide (c ≠ 37)) = decide (c ∈ tl signs) := by decide +kernel
theorem filter_eq {l : List Nat} {p : Nat → Bool} : (l.filter p = l) ↔ l.all p = true := by
  rw [List.filter_eq_self, List.all_eq_true]
theorem plain_all (l : List Nat) : (l.all (fun c => decide (c < 128)) && (l.all Unicode.isPrintable && l.all fun c => decide (c ≠ 37))) = l.all fun c => decide (c ∈ tl signs) := by
  induction l with
  | nil => rfl
  | cons a r ih =>
    rw [List.all_cons, List.all_cons, List.all_cons, List.all_cons, ← ih]
    by_cases h : a < 128
    · rw [← signs_128 a h, decide_eq_true h]
      cases Unicode.isPrintable a <;> cases decide (a ≠ 37) <;> cases r.all (fun c => decide (c < 128)) <;> cases r.all Unicode.isPrintable <;> rfl
    · have h2 : ¬ a ∈ tl signs := fun hm => h (signs_lt a hm)
      rw [decide_eq_false h, decide_eq_false h2]
      cases r.all (fun c => decide (c < 128)) <;> cases r.all Unicode.isPrintable <;> rfl
theorem isascii_tl (z : Str) : Txt.isascii z = (tl z).all fun c => decide (c < 128) := by
  unfold Txt.isascii
  rw [← Array.all_toList]
theorem isprintable_tl (z : Str) : Txt.isprintable z = (tl z).all Unicode.isPrintable := by
  unfold Txt.isprintable
  rw [← Array.all_toList]
/-- the text without its percent signs -/
def no37 (z : Str) : Str := ⟨((tl z).filter fun c => decide (c ≠ 37)).toArray⟩
theorem no37_tl (z : Str) : tl (no37 z) = (tl z).filter fun c => decide (c ≠ 37) := rfl
theorem no37_eq (z : Str) : decide (no37 z = z) = (tl z).all fun c => decide (c ≠ 37) := by
  cases e : (tl z).all fun c => decide (c ≠ 37) with
  | true => exact decide_eq_true (ext_tl ((no37_tl z).trans (filter_eq.mpr e)))
  | false =>
    refine decide_eq_false fun h => ?_
    have : (tl z).filter (fun c => decide (c ≠ 37)) = tl z := by rw [← no37_tl, h]
    rw [filter_eq.mp this] at e
    cases e
theorem plain_eq (z : Str) : (Txt.isascii z && (Txt.isprintable z && decide (no37 z = z))) = allIn z signs := by
  rw [isascii_tl, isprintable_tl, no37_eq]
  exact plain_all (tl z)
/-! ### the first sign -/
def hd (z : Str) : Option Nat := (tl z).head?
theorem hd_some {z : Str} (h : 1 ≤ z.length) : ∃ c, hd z = some c ∧ z.cps[0]? = some c := by
  rw [len_tl] at h
  cases e : tl z with
  | nil => rw [e] at h; exact absurd h (by decide)
  | cons c r =>
    refine ⟨c, by unfold hd; rw [e]; rfl, ?_⟩
    have : z.cps.toList[0]? = some c := by show (tl z)[0]? = _; rw [e]; rfl
    simpa using this
theorem cut1_tl (z : Str) : tl (cutS z none (some 1)) = (tl z).take 1 := by
  show ((tl z).drop (HT.sIx z.length 0 none)).take (HT.sIx z.length z.length (some 1) - HT.sIx z.length 0 none) = _
  rw [HT.sIx_none, show HT.sIx z.length z.length (some 1) = min 1 z.length from HT.sIx_nat _ _ 1, List.drop_zero, Nat.sub_zero]
  rw [len_tl]
  cases tl z with
  | nil => rfl
  | cons c r =>
    rw [List.length_cons, show min 1 (r.length + 1) = 1 by omega]
theorem cutFrom1_tl (z : Str) : tl (cutS z (some 1) none) = (tl z).drop 1 := by
  show ((tl z).drop (HT.sIx z.length 0 (some 1))).take (HT.sIx z.length z.length none - HT.sIx z.length 0 (some 1)) = _
  rw [HT.sIx_none, show HT.sIx z.length 0 (some 1) = min 1 z.length from HT.sIx_nat _ _ 1]
  rw [len_tl]
  cases tl z with
  | nil => rfl
  | cons c r =>
    rw [List.length_cons, show min 1 (r.length + 1) = 1 by omega]
    exact List.take_of_length_le (by simp)
theorem cut1_one {z : Str} {c : Nat} (h : hd z = some c) : cutS z none (some 1) = ⟨#[c]⟩ := by
  refine ext_tl ?_
  rw [cut1_tl]
  unfold hd at h
  cases e : tl z with
  | nil => rw [e] at h; cases h
  | cons a r =>
    rw [e] at h
    cases h
    rfl
theorem cut1_nil {z : Str} (h : hd z = none) : cutS z none (some 1) = ("" : Str) := by
  refine eq_empty.mpr ?_
  rw [cut1_tl]
  unfold hd at h
  cases e : tl z with
  | nil => rfl
  | cons a r => rw [e] at h; cases h
theorem one_eq (c d : Nat) : ((⟨#[c]⟩ : Str) = ⟨#[d]⟩) ↔ c = d := by
  constructor
  · intro h
    have := congrArg tl h
    have h2 : ([c] : List Nat) = [d] := this
    cases h2
    rfl
  · intro h; rw [h]
end Z
set_option maxHeartbeats 2000000
namespace Z
open PySem PySem.Spec PyProof.Rows L2 TL PySem.Builtin PySem.Builtin.Str
/-! ### text.translate({37: None}) for a text of ASCII signs: the percent signs go, all others stay -/
/-- nothing that stood in the heap has changed -/
abbrev Old (h h' : Heap) : Prop := ∀ b o, h.get? b = some o → h'.get? b = some o
/-- what the table holds: the key 37 with None, and no other key -/
structure Drops (f : Key → Option Value) : Prop where
  here : f (Sum.inl 37) = some .none
  away : ∀ c : Nat, c ≠ 37 → f (Sum.inl (c : Int)) = none
theorem drops_one : Drops (valueAt [((Sum.inl 37 : Key), Value.none)]) where
  here := rfl
  away := fun c hc => by
    have e : decide ((Sum.inl 37 : Key) = Sum.inl (c : Int)) = false := by
      rw [key_ll]
      exact beq_eq_false_iff_ne.mpr (by omega)
    show ((List.find? _ [((Sum.inl 37 : Key), Value.none)]).map (·.2)) = none
    rw [List.find?_cons, e]
    rfl
section
variable {prog : Program} {w : World} {A : Around} {E : Value → Shared → Prop} {s : Shared} {d : Addr}
/-- the sign 37 is found, with None -/
theorem look_here {f : Key → Option Value} {Q : Mapped → Shared → Prop} (T : Drops f) (hm : s.heap.MapOf (mixKind prog w) d f)
    (q : ∀ k, Q .drop { s with toks := k }) : wpAny (model prog w) A (tableLookup (.ref d) 37) Q E s := by
  unfold tableLookup
  refine wpAny_bind (wpAny_attempt (wpAny_bind (wpAny_mkInt ?_)))
  exact wpAny_getItem_of (knd := mixKind prog w) (k := Sum.inl ((37 : Nat) : Int)) (mixKind_int _ _ _ _) hm T.here (wpAny_pure (q _))
/-- any other sign is not: the KeyError of the look is taken for «keep» -/
theorem look_away {f : Key → Option Value} {Q : Mapped → Shared → Prop} {c : Nat} (hc : c ≠ 37) (calm : A.handled = none) (low : (d == sysModules) = false) (T : Drops f) (hm : s.heap.MapOf (mixKind prog w) d f)
    (q : ∀ h' k, Old s.heap h' → Q .keep { s with heap := h', toks := k }) : wpAny (model prog w) A (tableLookup (.ref d) c) Q E s := by
  unfold tableLookup
  refine wpAny_bind (wpAny_attempt (wpAny_bind (wpAny_mkInt ?_)))
  refine wpAny_getItem_missing_of (knd := mixKind prog w) (k := Sum.inl (c : Int)) (mixKind_int _ _ _ _) low calm hm (T.away c hc) ?_
  intro h' e new
  obtain ⟨eo, _, get, isKey, _⟩ := new.there
  have kin : isSubtype (.type "KeyError") (.type "LookupError") = pure true := key_is_lookup
  refine wpAny_bind (wpAny_isInstance (T := "KeyError") (b := true) ⟨eo, get, isKey⟩ kin ?_)
  exact wpAny_bind (wpAny_rule (wpAny_pure (q h' _ new.keeps)))
end
def left37 (l : List Nat) : List Nat := l.filter fun c => decide (c ≠ 37)
theorem left_nil : left37 [] = [] := rfl
theorem left_here (l : List Nat) : left37 (l ++ [37]) = left37 l := by
  unfold left37
  rw [List.filter_append]
  simp
theorem left_away {c : Nat} (h : c ≠ 37) (l : List Nat) : left37 (l ++ [c]) = left37 l ++ [c] := by
  unfold left37
  rw [List.filter_append]
  simp [h]
theorem left_len (l : List Nat) : (left37 l).length ≤ l.length := List.length_filter_le _ _
def sign (c : Nat) : Str := ⟨#[c]⟩
theorem glue_signs (l : List Nat) : ∀ a : Array Nat, (l.map sign).foldl (fun acc (p : Str) => acc ++ p.cps) a = a ++ l.toArray := by
  induction l with
  | nil => intro a; simp
  | cons c r ih =>
    intro a
    show (r.map sign).foldl (fun acc (p : Str) => acc ++ p.cps) (a ++ #[c]) = _
    rw [ih]
    refine Array.toList_inj.mp ?_
    simp
/-- where a sign of the fast road goes -/
def goes37 (c : Nat) : Option Nat := if c = 37 then none else some c
/-- the memo of the signs asked before -/
def Memo (known : List (Nat × Option Nat)) : Prop := ∀ c a, known.lookup c = some a → a = goes37 c
theorem memo_nil : Memo [] := fun _ _ h => nomatch h
theorem Memo.more {known : List (Nat × Option Nat)} (m : Memo known) (c : Nat) : Memo ((c, goes37 c) :: known) := fun c' a h => by
  rcases lookup_new h with ⟨rfl, e⟩ | h
  · exact e
  · exact m c' a h
abbrev Walk37 : Type := List Str × Nat × Bool × List (Nat × Option Nat) × Bool
/-- the state behind the signs `past`, ahead of `rest` -/
structure Mid37 (x : List Nat) (s : Shared) (rest : List Nat) (past : List Nat) (pieces : List Str) (known : List (Nat × Option Nat)) (h' : Heap) : Prop where
  cut : x = past ++ rest
  made : pieces.reverse = (left37 past).map sign
  memo : Memo known
  old : Old s.heap h'
def At37 (x : List Nat) (s : Shared) (rest : List Nat) (st : Walk37) (s' : Shared) : Prop :=
  ∃ past pieces known h' k, Mid37 x s rest past pieces known h' ∧ st = (pieces, (left37 past).length, true, known, false) ∧ s' = { s with heap := h', toks := k }
section
variable {x rest past : List Nat} {s : Shared} {c : Nat} {pieces : List Str} {known : List (Nat × Option Nat)} {h' : Heap} {k : Nat}
theorem Mid37.away (m : Mid37 x s (c :: rest) past pieces known h') (hc : c ≠ 37) {known' : List (Nat × Option Nat)} (hk : Memo known') {h2 : Heap} (old : Old s.heap h2) :
    At37 x s rest (sign c :: pieces, (left37 past).length + 1, true, known', false) { s with heap := h2, toks := k } := by
  refine ⟨past ++ [c], sign c :: pieces, known', h2, k, ⟨?_, ?_, hk, old⟩, ?_, rfl⟩
  · rw [m.cut, List.append_assoc, List.singleton_append]
  · rw [left_away hc, List.map_append, List.reverse_cons, m.made]
    rfl
  · rw [left_away hc, List.length_append, List.length_singleton]
theorem Mid37.here (m : Mid37 x s (37 :: rest) past pieces known h') {known' : List (Nat × Option Nat)} (hk : Memo known') {h2 : Heap} (old : Old s.heap h2) :
    At37 x s rest (pieces, (left37 past).length, true, known', false) { s with heap := h2, toks := k } := by
  refine ⟨past ++ [37], pieces, known', h2, k, ⟨?_, ?_, hk, old⟩, ?_, rfl⟩
  · rw [m.cut, List.append_assoc, List.singleton_append]
  · rw [left_here, m.made]
  · rw [left_here]
end
theorem meets37 {prog : Program} {w : World} {x : List Nat} {t : Tok} {d : Addr} {f : Key → Option Value} (T : Drops f) (low : (d == sysModules) = false) (few : x.length ≤ 16000000) (ascii : ∀ c ∈ x, c < 128) :
    MeetsIn prog w («str.translate» ⟨[.str (SX.S x) t, .ref d], []⟩) (fun A R s => A.handled = none ∧ s.heap.MapOf (mixKind prog w) d f ∧
      ∀ (v : Value) (h' : Heap) (k : Nat), Old s.heap h' → (∃ t', v = .str (SX.S (left37 x)) t') → R (.ok (.ret v)) { s with heap := h', toks := k }) := by
  refine .of_wp fun A R s hyp => ?_
  obtain ⟨calm, tab, done⟩ := hyp
  have calm1 : A.in1.handled = none := calm
  show wpAny _ _ (if ((SX.S x).length == 0) = true then _ else (do
    let st ← forIn (SX.S x).cps (([], 0, (SX.S x).cps.all fun y => decide (y < 128), [], false) : Walk37) _
    _)) _ _ s
  by_cases empty : x = []
  · rw [if_pos (show ((SX.S x).length == 0) = true by rw [SX.S_len, empty]; rfl)]
    subst empty
    exact wpAny_bind (wpAny_rule (wpAny_pure ⟨_, rfl, done _ s.heap s.toks (fun _ _ e => e) ⟨t, rfl⟩⟩))
  · have full : ¬ ((SX.S x).length == 0) = true := fun h => by
      rw [SX.S_len, beq_iff_eq] at h
      exact empty (List.eq_nil_of_length_eq_zero h)
    have fast : ((SX.S x).cps.all fun y => decide (y < 128)) = true := by
      rw [← Array.all_toList]
      exact List.all_eq_true.mpr fun c hc => decide_eq_true (ascii c hc)
    rw [if_neg full, fast]
    refine wpAny_bind (MeetsSeq2.wpAny_forIn_array _ (At37 x s) _ (fun c rest st s' at_ => ?_) (fun st s' at_ => ?_) (SX.S x).cps ([], 0, true, [], false) ?_)
    · obtain ⟨past, pieces, known, h', k, m, rfl, rfl⟩ := at_
      have short : tooLong (left37 past).length = false := by
        have q := congrArg List.length m.cut
        rw [List.length_append] at q
        have := left_len past
        exact PyProof.Rows.short24 (by omega)
      have tab' : h'.MapOf (mixKind prog w) d f := by
        obtain ⟨o, es, ep, get, r⟩ := tab
        exact ⟨o, es, ep, m.old _ _ get, r⟩
      show wpAny _ _ (if tooLong (left37 past).length = true then _ else (if true = true then _ else _)) _ _ _
      rw [short, if_neg Bool.false_ne_true, if_pos rfl]
      by_cases hc : c = 37
      · subst hc
        cases ask : known.lookup 37 with
        | some a =>
          have ea : a = none := m.memo _ _ ask
          subst ea
          exact wpAny_bind (wpAny_pure (wpAny_pure (m.here m.memo m.old)))
        | none =>
          exact wpAny_bind (look_here T tab' fun k2 => wpAny_bind (wpAny_pure (wpAny_pure (m.here (m.memo.more 37) m.old))))
      · have ego : goes37 c = some c := if_neg hc
        have more := m.memo.more c
        rw [ego] at more
        cases ask : known.lookup c with
        | some a =>
          have ea : a = some c := (m.memo _ _ ask).trans ego
          subst ea
          exact wpAny_bind (wpAny_pure (wpAny_pure (m.away hc m.memo m.old)))
        | none =>
          exact wpAny_bind (look_away hc calm1 low T tab' fun h2 k2 old => wpAny_bind (wpAny_pure (wpAny_pure (m.away hc more fun b o e => old b o (m.old b o e)))))
    · obtain ⟨past, pieces, known, h', k, m, rfl, rfl⟩ := at_
      have ex : past = x := by rw [m.cut, List.append_nil]
      have made := m.made
      rw [ex] at made ⊢
      have := left_len x
      have text : (⟨#[] ++ (left37 x).toArray⟩ : Str) = SX.S (left37 x) := by simp
      show wpAny _ _ (if tooLong (left37 x).length = true then _ else retStr ⟨List.foldl (fun acc (p : Str) => acc ++ p.cps) #[] pieces.reverse⟩) _ _ _
      rw [PyProof.Rows.short24 (n := (left37 x).length) (by omega), if_neg Bool.false_ne_true, made, glue_signs, text]
      exact wpAny_bind (wpAny_mkStr (wpAny_pure ⟨_, rfl, done _ h' _ m.old ⟨_, rfl⟩⟩) (by rw [SX.S_len, sizeLine_eq]; omega))
    · refine ⟨[], [], [], s.heap, s.toks, ⟨?_, rfl, memo_nil, fun _ _ e => e⟩, rfl, rfl⟩
      show x = [] ++ x.toArray.toList
      simp
/-- the rule, over the layer: the table a dict that the call has made -/
theorem mt_translate37 {X : Cx} (hc : X.calm = true) : MtR X "str.translate" (fun x xs H Q => ∃ (z : Str) (d : Addr), x = .str z ∧ xs = [.ref d] ∧ H d = some (.dK [(Sum.inl 37, .non)]) ∧ (∀ c ∈ tl z, c < 128) ∧ z.length ≤ 16000000 ∧ Q (.str (no37 z)) H) := by
  intro pins s σ H x xs v us Q I rx rs ⟨z, d, ex, exs, hd, ascii, few, q⟩
  rw [ex] at rx
  rw [exs] at rs
  obtain ⟨t, ev⟩ := rx
  rw [ev]
  cases rs with
  | cons r1 none_left =>
    cases none_left
    have eu := r1
    rw [show _ = Value.ref d from eu]
    obtain ⟨_, low, vs, kv, is⟩ := I.hok d _ hd
    have evs : vs = [((Sum.inl 37 : Key), Value.none)] := by
      cases kv with
      | cons pq none_left =>
        cases none_left
        exact congrArg (fun p => [p]) (Prod.ext (Eq.symm pq.1) pq.2)
    rw [evs] at is
    have ez : z = SX.S (tl z) := (SX.S_tl z).symm
    rw [ez]
    refine call_meetsIn F.slot_str_translate (typeIs_str _ _ _) F.entry_str_translate (F.args_str_translate_2 _ _) (meets37 (t := t) drops_one low (by rw [len_tl']; exact few) ascii) ⟨I.ok.hd hc, is.mapOf, ?_⟩
    intro v2 h' k old ⟨t', e2⟩
    rw [e2]
    exact ⟨.str _, H, I.kept (t' := k) old, ⟨t', rfl⟩, q⟩
end Z
set_option maxHeartbeats 2000000
namespace Z
open PySem PySem.Spec PyProof.Rows L2 TL
/-! ### defs of the module, called by place or by keywords -/
abbrev FnP (K : PySem.W.Frag) (x : Str) (st : Stmt) (f : Addr) (fd : FuncData) : Prop := FunD K x x (L2.defArgs st) (L2.defBody st) (L2.defScope st) [] [] f fd
structure Call (P : Program) (w : World) (K : PySem.W.Frag) (mg : Str → Option Value) (base : Heap) (k : Nat) (x : Str) (ps : List Str) (sp : Sp) : Prop where
  ex : ∃ (f : Addr) (fd : FuncData), FnOk P w K mg base CX0 k f fd ps sp ∧ mg x = some (.ref f) ∧ PySem.W.keepIn K (.ref f) = true ∧ Binds K fd ps [] ∧ KBn K fd ps 0 ps (fun _ ws => ws) (fun _ zs => zs)
section
variable {P : Program} {w : World} {K : PySem.W.Frag} {mg : Str → Option Value} {base : Heap} {x : Str} {st : Stmt} {f : Addr} {fd : FuncData} {N ps : List Str} {k : Nat} {sp : Sp}
theorem kbn (F : FnP K x st f fd) (h : ∀ (kV doc pm : Value) (an : Option Addr) (cdv ct : Value) (ws : List Value), ws.length = ps.length → bindArgs (PySem.W.fnOf x x (L2.defArgs st) (L2.defBody st) (L2.defScope st) .none kV doc pm an cdv ct) ⟨[], ps.zip ws⟩ = pure (ps.zip ws)) :
    KBn K fd ps 0 ps (fun _ ws => ws) (fun _ zs => zs) := by
  obtain ⟨_, _, dflt, kwd, doc, mod, ann, code, tp, _, isFd, _, _, none_given, _⟩ := F.ex
  have no : dflt = .none := none_given.elim (fun q => q.2) fun q => absurd rfl q.1
  rw [isFd, no]
  refine ⟨fun st0 us ws _ nu nw => ?_, fun _ r => r⟩
  rw [List.eq_nil_of_length_eq_zero nu]
  exact .of_eq (h kwd doc mod ann code tp ws nw)
/-- a def's promise, by its body -/
theorem mkF (F : FnP K x st f fd) (S : FnScope N ps (L2.defScope st)) (len : ∀ vs H Q E, sp vs H Q E → vs.length = ps.length)
    (hbody : ∀ (cdv : Value) (A : Around) (outer : List Env) (s : Shared) (H : Hp) (vs : List V) (Q : VK) (E : XK), Room k (A.deeper (envOfC x (L2.defScope st) s.heap.objs.size f cdv)) → sp vs H Q E →
      ∃ t, PSs (cxOf CX0 P w K mg base N x (L2.defScope st) f cdv A outer s H E).nox (L2.defBody st) t ∧ t { nx := fun _ H' => Q .non H', rt := Q } (start N vs) H) : FnOk P w K mg base CX0 (k + 1) f fd ps sp :=
  F.ok S len fun cdv A outer s H vs Q E hr h => by
    obtain ⟨t, h1, h2⟩ := hbody cdv A outer s H vs Q E hr h
    exact ⟨t, h1.nox, h2⟩
theorem mk (F : FnP K x st f fd) (gm : mg x = some (.ref f))
    (hb : ∀ (kV doc pm : Value) (an : Option Addr) (cdv ct : Value) (us : List Value), us.length = ps.length → bindArgs (PySem.W.fnOf x x (L2.defArgs st) (L2.defBody st) (L2.defScope st) .none kV doc pm an cdv ct) ⟨us, []⟩ = pure (ps.zip us))
    (hk : ∀ (kV doc pm : Value) (an : Option Addr) (cdv ct : Value) (ws : List Value), ws.length = ps.length → bindArgs (PySem.W.fnOf x x (L2.defArgs st) (L2.defBody st) (L2.defScope st) .none kV doc pm an cdv ct) ⟨[], ps.zip ws⟩ = pure (ps.zip ws))
    (S : FnScope N ps (L2.defScope st)) (len : ∀ vs H Q E, sp vs H Q E → vs.length = ps.length)
    (hbody : ∀ (cdv : Value) (A : Around) (outer : List Env) (s : Shared) (H : Hp) (vs : List V) (Q : VK) (E : XK), Room k (A.deeper (envOfC x (L2.defScope st) s.heap.objs.size f cdv)) → sp vs H Q E →
      ∃ t, PSs (cxOf CX0 P w K mg base N x (L2.defScope st) f cdv A outer s H E).nox (L2.defBody st) t ∧ t { nx := fun _ H' => Q .non H', rt := Q } (start N vs) H) : Call P w K mg base (k + 1) x ps sp := by
  exact ⟨f, fd, mkF F S len hbody, gm, F.kp, F.bindsN hb, kbn F hk⟩
end
section
variable {X : Cx} {k j : Nat} {x : Str} {ps : List Str} {sp : Sp} {p pos : Pos} {e : Expr} {es : List Expr} {kws : List Keyword} {t tk : TA}
theorem pe_f (c : Call X.prog X.w X.K X.mg X.base k x ps sp) (hr : Room j X.A) (hk : k ≤ j) (hg : Gl X x) (ha : PA X (e :: es) t)
    (hdb : (x == ("__debug__" : Str)) = false := by decide) (he : starEach (e :: es) X.env = (false, eval e X.env) :: starEach es X.env := by rfl) (hpl : (backTo pos (starEach es X.env)).any (·.1) = false := by rfl) :
    PE X (.Call (.Name x p) (e :: es) [] pos) (tCall sp [] E0 t) := by
  obtain ⟨f, fd, F, hm, kp, b, _⟩ := c.ex
  exact pe_call F (hr.mono hk) hg hm kp b .nil pass0 ha hdb he hpl
theorem pe_f0 (c : Call X.prog X.w X.K X.mg X.base k x ps sp) (hr : Room j X.A) (hk : k ≤ j) (hg : Gl X x) (hdb : (x == ("__debug__" : Str)) = false := by decide) : PE X (.Call (.Name x p) [] [] pos) (tCall sp [] E0 tNil) := by
  obtain ⟨f, fd, F, hm, kp, b, _⟩ := c.ex
  exact pe_call0 F (hr.mono hk) hg hm kp b .nil pass0 hdb
/-- f(k = v, ..), all parameters by keywords, in their order -/
theorem pe_fk (c : Call X.prog X.w X.K X.mg X.base k x ps sp) (hr : Room j X.A) (hj : k ≤ j) (hg : Gl X x) (hkw : PK X kws tk)
    (hks : (backToKw pos (keywordEach kws X.env)).filterMap (·.1) = ps := by rfl) (hall : (backToKw pos (keywordEach kws X.env)).all (·.1.isSome) = true := by rfl)
    (hdb : (x == ("__debug__" : Str)) = false := by decide)
    (hpl : ((backTo pos (starEach [] X.env)).any (·.1) || (backToKw pos (keywordEach kws X.env)).any (·.1.isNone)) = false := by rfl) :
    PE X (.Call (.Name x p) [] kws pos) (tCallN 0 ps.length sp (fun _ zs => zs) E0 tNil tk) where
  run := fun pins s σ H Q I asks => by
    obtain ⟨f, fd, F, named, kept, _, binds⟩ := c.ex
    refine wpAny_Call_Name_kw (ld_glob I hg named (PySem.W.callWith_KW0 (h₀ := X.base) I.ok.mod.kin kept hall ?_ hpl) hdb)
    refine thn (hkw.run pos pins s σ H _ I asks) fun ws s2 told => ?_
    obtain ⟨zs, H2, I2, rz, _, many, wish⟩ := told
    refine ⟨I2.kIn, ?_⟩
    rw [hks]
    exact run_fnN (us := []) (vs := []) F (hr.mono hj) binds pass0 I2 .nil rz rfl many wish
end
section
variable {X : Cx} {x : Str} {pos : Pos}
/-- a module's constant -/
theorem pe_gc {v : V} (hg : Gl X x) (h : ∃ u, X.mg x = some u ∧ RelV v u) (hd : (x == ("__debug__" : Str)) = false := by decide) : PE X (.Name x pos) (tC v) := by
  obtain ⟨u, hm, r⟩ := h
  exact pe_glob hg hm r hd
end
/-- where the context is a comprehension's, its written part is the def's -/
theorem inK {X : Cx} {K : PySem.W.Frag} {e : Expr} {t : PySem.W.Frag → TE} (same : X.K = K) (h : PE X e (t X.K)) : PE X e (t K) := same ▸ h
/-! ### a text times a number -/
def repS (z : Str) (n : Nat) : Str := if n = 0 then Str.empty else if (n == 1 || z.length == 0) = true then z else ⟨(List.replicate n z.cps).foldl (· ++ ·) #[]⟩
theorem rep_size (a : Array Nat) : ∀ (n : Nat) (acc : Array Nat), ((List.replicate n a).foldl (· ++ ·) acc).size = acc.size + n * a.size
  | 0, acc => by simp
  | n + 1, acc => by
    rw [List.replicate_succ, List.foldl_cons, rep_size a n, Array.size_append, Nat.succ_mul]
    omega
theorem repS_len (z : Str) (n : Nat) : (repS z n).length = n * z.length := by
  unfold repS
  split
  · rename_i h
    rw [h, Nat.zero_mul]
    rfl
  · split
    · rename_i h
      simp only [Bool.or_eq_true, beq_iff_eq] at h
      rcases h with h | h
      · rw [h, Nat.one_mul]
      · rw [h, Nat.mul_zero]
    · show ((List.replicate n z.cps).foldl (· ++ ·) #[]).size = n * z.cps.size
      rw [rep_size]
      simp
section
variable {X : Cx}
theorem op_rep_str : OpR X (binaryOp .Mult) (fun x y H Q => ∃ (z : Str) (i : Int), x = .str z ∧ y = .int i ∧ 0 ≤ i ∧ i ≤ 1000 ∧ z.length ≤ 1000 ∧ Q (.str (repS z i.toNat)) H) := by
  intro pins s σ H x y v u Q I rx ry h
  obtain ⟨z, i, rfl, rfl, h0, h1, hz, q⟩ := h
  obtain ⟨t, rfl⟩ := rx
  obtain ⟨t', rfl⟩ := ry
  have hle : z.length * i.toNat ≤ 1000000 := Nat.le_trans (Nat.mul_le_mul hz (show i.toNat ≤ 1000 by omega)) (by decide)
  refine PySem.P.mul_str ?_ (fun hn _ hgt => ?_) (fun _ _ => PyProof.Rows.short24 (by omega)) ?_
  · rw [decide_eq_false (show ¬ i < -(2 ^ 63) by omega), decide_eq_false (show ¬ i ≥ 2 ^ 63 by omega)]
    rfl
  · have h2 : i ∣ i := Int.dvd_refl i
    have h3 : (2 ^ 63 - 1) / (1000 : Int) ≤ (2 ^ 63 - 1) / i := by
      have : (2 ^ 63 - 1) / (1000 : Int) * i ≤ 2 ^ 63 - 1 := by
        have e : (2 ^ 63 - 1) / (1000 : Int) = 9223372036854775 := by decide
        rw [e]
        omega
      exact (Int.le_ediv_iff_mul_le (by omega)).mpr this
    have e : (2 ^ 63 - 1) / (1000 : Int) = 9223372036854775 := by decide
    rw [e] at h3
    omega
  · by_cases hn : i < 1
    · rw [if_pos hn]
      have : repS z i.toNat = Str.empty := by unfold repS; rw [if_pos (show i.toNat = 0 by omega)]
      rw [this] at q
      exact ⟨by decide, ⟨.str Str.empty, H, I.tok _, ⟨_, rfl⟩, q⟩⟩
    · rw [if_neg hn]
      have e1 : (i == 1) = (i.toNat == 1) := by
        by_cases h : i = 1
        · subst h; rfl
        · rw [beq_eq_false_iff_ne.mpr h, beq_eq_false_iff_ne.mpr (show i.toNat ≠ 1 by omega)]
      have e2 : repS z i.toNat = if (i.toNat == 1 || z.length == 0) = true then z else ⟨(List.replicate i.toNat z.cps).foldl (· ++ ·) #[]⟩ := by
        unfold repS
        rw [if_neg (show ¬ i.toNat = 0 by omega)]
      have hl := repS_len z i.toNat
      rw [e2] at q hl
      rw [e1]
      by_cases hc : (i.toNat == 1 || z.length == 0) = true
      · rw [if_pos hc] at q ⊢
        exact ⟨.str z, H, I, ⟨t, rfl⟩, q⟩
      · rw [if_neg hc] at q hl ⊢
        refine ⟨?_, ⟨.str _, H, I.tok _, ⟨_, rfl⟩, q⟩⟩
        rw [hl, sizeLine_eq]
        rw [Nat.mul_comm] at hle
        omega
end
/-! ### the size of a cell -/
theorem bits_lt {z : Int} {n : Nat} (h : Builtin.Int.intBits z ≤ n) : z.natAbs < 2 ^ n := by
  unfold Builtin.Int.intBits at h
  by_cases hz : z = 0
  · rw [hz]
    exact Nat.two_pow_pos n
  · have e : (z == 0) = false := beq_eq_false_iff_ne.mpr hz
    rw [e, if_neg Bool.false_ne_true] at h
    exact Nat.lt_of_lt_of_le (Nat.lt_log2_self) (Nat.pow_le_pow_right (by decide) h)
end Z
set_option maxHeartbeats 2000000
namespace Z
open PySem PySem.Spec PyProof.Rows L2 TL Evl
/-! ### named readings of values -/
def rStrip : V → List V → Hp → VK → Prop := fun x xs H Q => ∃ a b, x = .str a ∧ xs = [.str b] ∧ a.length ≤ sizeLine ∧ Q (.str (Txt.stripChars a b)) H
def rIsascii : V → List V → Hp → VK → Prop := fun x xs H Q => ∃ a, x = .str a ∧ xs = [] ∧ True ∧ Q (.bl (Txt.isascii a)) H
def rIsprint : V → List V → Hp → VK → Prop := fun x xs H Q => ∃ a, x = .str a ∧ xs = [] ∧ True ∧ Q (.bl (Txt.isprintable a)) H
def rTrans : V → List V → Hp → VK → Prop := fun x xs H Q => ∃ (z : Str) (d : Addr), x = .str z ∧ xs = [.ref d] ∧ H d = some (.dK [(Sum.inl 37, .non)]) ∧ (∀ c ∈ tl z, c < 128) ∧ z.length ≤ 16000000 ∧ Q (.str (no37 z)) H
def rAddS2 : R2 := fun x y H Q => ∃ i j, x = .str i ∧ y = .str j ∧ i.length + j.length ≤ sizeLine ∧ Q (.str (i ++ j)) H
def rLenStr : List V → Hp → VK → Prop := fun xs H Q => ∃ z, xs = [.str z] ∧ z.length ≤ sizeLine ∧ Q (.int z.length) H
def rIntStr : List V → Hp → VK → Prop := fun xs H Q => ∃ a n, xs = [.str a] ∧ PySem.intText? a = some n ∧ a.length ≤ 640 ∧ Q (.int n) H
def rStarts : V → List V → Hp → VK → Prop := fun x xs H Q => ∃ a b, x = .str a ∧ xs = [.str b] ∧ Q (.bl (Txt.startswith a b)) H
section
variable {X : Cx}
theorem mz_strip : MtR X "str.strip" rStrip := mt_stripChars
theorem mz_isascii : MtR X "str.isascii" rIsascii := mt_isascii
theorem mz_isprint : MtR X "str.isprintable" rIsprint := mt_isprintable
theorem mz_trans (hc : X.calm = true) : MtR X "str.translate" rTrans := mt_translate37 hc
theorem oz_add : OpR X (binaryOp .Add) rAddS2 := op_add_str
theorem cz_len : CallR X (.builtin "len") rLenStr := call_len_str
theorem cz_int : CallR X (.type "int") rIntStr := call_int_str
theorem mz_starts : MtR X "str.startswith" rStarts := mt_startswith
end
/-! ### what evaluates to what, for texts -/
section
variable {K : PySem.W.Frag} {σ : L2.St} {H H' : Hp} {ta tb tc te to ts : TE} {t u : TT} {x y z v : V} {r : R2} {a b s : Str} {c : Nat}
theorem rv_in {w : Str} : RV rInS (.str ⟨#[c]⟩) (.str w) H (.bl (decide (c ∈ tl w))) := fun H1 _ _ q => ⟨c, w, rfl, rfl, q H1 (Ex.refl H1)⟩
theorem rv_notin {w : Str} : RV rNotInS (.str ⟨#[c]⟩) (.str w) H (.bl (!decide (c ∈ tl w))) := fun H1 _ _ q => ⟨c, w, rfl, rfl, q H1 (Ex.refl H1)⟩
theorem rv_isN : RV rIsN x .non H (.bl (decide (x = .non))) := fun H1 _ _ q => ⟨rfl, q H1 (Ex.refl H1)⟩
theorem rv_notN : RV rNotN x .non H (.bl (!decide (x = .non))) := fun H1 _ _ q => ⟨rfl, q H1 (Ex.refl H1)⟩
theorem rv_addS (h : a.length + b.length ≤ 200000) : RV rAddS2 (.str a) (.str b) H (.str (a ++ b)) := fun H1 _ _ q => ⟨a, b, rfl, rfl, Nat.le_trans h (by decide), q H1 (Ex.refl H1)⟩
theorem decS {a b : Str} : decide (V.str a = V.str b) = decide (a = b) := by
  by_cases h : a = b
  · rw [decide_eq_true h, decide_eq_true (congrArg V.str h)]
  · rw [decide_eq_false h, decide_eq_false fun e => h (V.str.inj e)]
theorem decI {a b : Int} : decide (V.int a = V.int b) = decide (a = b) := by
  by_cases h : a = b
  · rw [decide_eq_true h, decide_eq_true (congrArg V.int h)]
  · rw [decide_eq_false h, decide_eq_false fun e => h (V.int.inj e)]
theorem rv_eqS : RV rEq (.str a) (.str b) H (.bl (decide (a = b))) := by
  rw [← decS]; exact rv_eq rfl
theorem rv_neS : RV rNe (.str a) (.str b) H (.bl (!decide (a = b))) := by
  rw [← decS]; exact rv_ne rfl
theorem rv_eqI {i j : Int} : RV rEq (.int i) (.int j) H (.bl (decide (i = j))) := by
  rw [← decI]; exact rv_eq rfl
theorem rv_neI {i j : Int} : RV rNe (.int i) (.int j) H (.bl (!decide (i = j))) := by
  rw [← decI]; exact rv_ne rfl
theorem ev_strip (h : Ev to σ H (.str a)) (hs : Ev ts σ H (.str s)) (hz : a.length ≤ 100000) : Ev (tBM K "str" rStrip to (tCons ts tNil)) σ H (.str (Txt.stripChars a s)) := fun H1 e Q q =>
  h H1 e _ fun H2 e2 => ⟨rfl, hs H2 (e.trans e2) _ fun H3 e3 => ⟨a, s, rfl, rfl, sz_of hz, q H3 (e2.trans e3)⟩⟩
theorem ev_isascii (h : Ev to σ H (.str a)) : Ev (tBM0 K "str" rIsascii to) σ H (.bl (Txt.isascii a)) := fun H1 e Q q => h H1 e _ fun H2 e2 => ⟨rfl, a, rfl, rfl, trivial, q H2 e2⟩
theorem ev_isprint (h : Ev to σ H (.str a)) : Ev (tBM0 K "str" rIsprint to) σ H (.bl (Txt.isprintable a)) := fun H1 e Q q => h H1 e _ fun H2 e2 => ⟨rfl, a, rfl, rfl, trivial, q H2 e2⟩
theorem ev_starts (h : Ev to σ H (.str a)) (hs : Ev ts σ H (.str s)) : Ev (tBM K "str" rStarts to (tCons ts tNil)) σ H (.bl (Txt.startswith a s)) := fun H1 e Q q =>
  h H1 e _ fun H2 e2 => ⟨rfl, hs H2 (e.trans e2) _ fun H3 e3 => ⟨a, s, rfl, rfl, q H3 (e2.trans e3)⟩⟩
/-- text.translate({37: None}) -/
theorem ev_trans (h : Ev to σ H (.str a)) (ha : ∀ c ∈ tl a, c < 128) (hz : a.length ≤ 100000) : Ev (tBM K "str" rTrans to (tCons (tDisp [(tC (.int 37), tC .non)]) tNil)) σ H (.str (no37 a)) := fun H1 e Q q =>
  h H1 e _ fun H2 e2 => ⟨rfl, fun p hp => ⟨upd_same, [(Sum.inl 37, .non)], rfl, (by decide), ⟨a, p, rfl, rfl, (by rw [upd_same]; rfl), ha, Nat.le_trans hz (by decide), q _ (e2.trans (fun b o hb => by
    rw [upd_ne (ne_of_none hb hp), upd_ne (ne_of_none hb hp)]
    exact hb))⟩⟩⟩
theorem ev_lenStr (h : Ev te σ H (.str a)) (hz : a.length ≤ 100000) : Ev (tCB rLenStr (tCons te tNil)) σ H (.int (a.length : Int)) := fun H1 e Q q => h H1 e _ fun H2 e2 => ⟨a, rfl, sz_of hz, q H2 e2⟩
theorem ev_intStr {n : Int} (h : Ev te σ H (.str a)) (hn : PySem.intText? a = some n) (hl : a.length ≤ 640) : Ev (tCB rIntStr (tCons te tNil)) σ H (.int n) := fun H1 e Q q => h H1 e _ fun H2 e2 => ⟨a, n, rfl, hn, hl, q H2 e2⟩
theorem ev_slS {tl' th : TO} {lo hi : Option Int} (h : Ev te σ H (.str a)) (h1 : EvO tl' σ H lo) (h2 : EvO th σ H hi) (hz : a.length ≤ 100000) : Ev (tSl rSlS te tl' th) σ H (.str (cutS a lo hi)) := fun H1 e Q q =>
  h H1 e _ fun H2 e2 => h1 H2 (e.trans e2) _ fun H3 e3 => h2 H3 ((e.trans e2).trans e3) _ fun H4 e4 => ⟨a, rfl, sz_of hz, q H4 ((e2.trans e3).trans e4)⟩
theorem ev_ixS {i : Int} (h : Ev te σ H (.str a)) (h1 : Ev tb σ H (.int i)) (hz : a.length ≤ 100000) (ha : atI (tl a) i = some c) : Ev (tOp rIxS te tb) σ H (.str ⟨#[c]⟩) := ev_op h h1 (rv_ixS hz ha)
/-- a <= b <= c -/
theorem ev_chain {i j k : Int} (ha : Ev ta σ H (.int i)) (hb : Ev tb σ H (.int j)) (hc : Ev tc σ H (.int k)) :
    Ev (tChain (rI0 fun i j => .bl (decide (i ≤ j))) (rI0 fun i j => .bl (decide (i ≤ j))) ta tb tc) σ H (.bl (decide (i ≤ j) && decide (j ≤ k))) := fun H1 e Q q =>
  ha H1 e _ fun H2 e2 => hb H2 (e.trans e2) _ fun H3 e3 => ⟨i, j, rfl, rfl, _, rfl, by
    cases h : decide (i ≤ j) with
    | true =>
      refine iteT ?_
      refine hc H3 ((e.trans e2).trans e3) _ fun H4 e4 => ⟨j, k, rfl, rfl, ?_⟩
      have g := q H4 ((e2.trans e3).trans e4)
      rw [h] at g
      exact g
    | false =>
      refine iteF ?_
      have g := q H3 (e2.trans e3)
      rw [h] at g
      exact g⟩
/-- the same, where the last part is asked only if the first holds -/
theorem ev_callN {sp : Sp} {vs : List V} {n : Nat} {E : XK} {tk : TA} (h : EvA tk σ H vs) (hl : vs.length = n) (hs : SpV sp vs H z) : Ev (tCallN 0 n sp (fun _ zs => zs) E tNil tk) σ H z := fun H1 e Q q =>
  h H1 e _ fun H2 e2 => ⟨rfl, hl, hs H2 (e.trans e2) Q (fun H3 e3 => q H3 (e2.trans e3)) E⟩
theorem el_callN {sp : Sp} {vs xs : List V} {n : Nat} {E : XK} {tk : TA} (h : EvA tk σ H vs) (hl : vs.length = n) (hs : SpL sp vs H xs) : EvL (tCallN 0 n sp (fun _ zs => zs) E tNil tk) σ H xs := fun H1 e Q q =>
  h H1 e _ fun H2 e2 => ⟨rfl, hl, hs H2 (e.trans e2) Q (fun p H3 hp e3 h3 => q p H3 (fresh_back e2 hp) (e2.trans e3) h3) E⟩
end
/-! ### promises of plain functions of texts -/
def sp1 (f : Str → V) : Sp := fun vs H Q _ => ∃ z : Str, vs = [.str z] ∧ z.length ≤ 100000 ∧ RetV (f z) H Q
def sp2 (f : Str → Str → V) : Sp := fun vs H Q _ => ∃ z s : Str, vs = [.str z, .str s] ∧ z.length ≤ 100000 ∧ RetV (f z s) H Q
def sp0 (v : V) : Sp := fun vs H Q _ => vs = [] ∧ RetV v H Q
def sp1L (f : Str → List V) : Sp := fun vs H Q _ => ∃ z : Str, vs = [.str z] ∧ z.length ≤ 10000 ∧ RetL (f z) H Q
theorem sv1 {f : Str → V} {z : Str} {H : Hp} (h : z.length ≤ 100000) : SpV (sp1 f) [.str z] H (f z) := fun H1 e Q q E => ⟨z, rfl, h, q⟩
theorem sv2 {f : Str → Str → V} {z s : Str} {H : Hp} (h : z.length ≤ 100000) : SpV (sp2 f) [.str z, .str s] H (f z s) := fun H1 e Q q E => ⟨z, s, rfl, h, q⟩
theorem sv0 {v : V} {H : Hp} : SpV (sp0 v) [] H v := fun H1 e Q q E => ⟨rfl, q⟩
theorem sl1 {f : Str → List V} {z : Str} {H : Hp} (h : z.length ≤ 10000) : SpL (sp1L f) [.str z] H (f z) := fun H1 e Q q E => ⟨z, rfl, h, q⟩
end Z
set_option maxHeartbeats 2000000
namespace Z
open PySem PySem.Spec PyProof.Rows L2 TL Evl
/-! ### cut at commas -/
def splC : List Nat → List Nat → List (List Nat)
  | acc, [] => [acc]
  | acc, c :: r => if c = 44 then acc :: splC [] r else splC (acc ++ [c]) r
theorem spl_splC : ∀ (l acc : List Nat), spl [44] 0 acc l = splC acc l
  | [], acc => spl_nil _ _ _
  | c :: r, acc => by
    have hp : pre [44] (c :: r) = decide (c = 44) := by
      show ([c] == [44]) = decide (c = 44)
      by_cases h : c = 44
      · rw [h]; rfl
      · rw [decide_eq_false h]
        exact beq_eq_false_iff_ne.mpr fun e => h (by cases e; rfl)
    show spl [44] 0 acc (c :: r) = if c = 44 then acc :: splC [] r else splC (acc ++ [c]) r
    by_cases h : c = 44
    · rw [spl_hit (by rw [hp, decide_eq_true h]), if_pos h]
      show acc :: spl [44] 0 [] r = _
      rw [spl_splC r []]
    · rw [spl_miss (by rw [hp, decide_eq_false h]), if_neg h]
      exact spl_splC r (acc ++ [c])
theorem splC_len : ∀ (l acc : List Nat), (splC acc l).length ≤ l.length + 1
  | [], acc => Nat.le_refl _
  | c :: r, acc => by
    show (if c = 44 then acc :: splC [] r else splC (acc ++ [c]) r).length ≤ r.length + 1 + 1
    by_cases h : c = 44
    · rw [if_pos h, List.length_cons]; have := splC_len r []; omega
    · rw [if_neg h]; have := splC_len r (acc ++ [c]); omega
theorem splC_each : ∀ (l acc p : List Nat), p ∈ splC acc l → p.length ≤ acc.length + l.length
  | [], acc, p, h => by
    rw [List.mem_singleton.mp h]
    exact Nat.le_add_right _ _
  | c :: r, acc, p, h => by
    have h : p ∈ (if c = 44 then acc :: splC [] r else splC (acc ++ [c]) r) := h
    rw [List.length_cons]
    by_cases hc : c = 44
    · rw [if_pos hc] at h
      rcases List.mem_cons.mp h with e | h
      · rw [e]; omega
      · have := splC_each r [] p h
        rw [List.length_nil] at this
        omega
    · rw [if_neg hc] at h
      have := splC_each r (acc ++ [c]) p h
      rw [List.length_append, List.length_singleton] at this
      omega
theorem comma : tl ("," : Str) = [44] := by decide +kernel
theorem comma_kind {x : Str} : ¬ Builtin.Str.strKind x < Builtin.Str.strKind ("," : Str) := kind_ok (by decide +kernel)
theorem split_tl (z : Str) : (Txt.split z ",").map tl = splC [] (tl z) := by
  rw [split_spl z "," (by rw [comma]; simp) comma_kind, comma]
  exact spl_splC _ _
def S' (l : List Nat) : Str := ⟨l.toArray⟩
theorem S'_tl (x : Str) : S' (tl x) = x := mk_tl x
theorem tl_S' (l : List Nat) : tl (S' l) = l := rfl
theorem split_eq (z : Str) : Txt.split z "," = (splC [] (tl z)).map S' := by
  rw [← split_tl, List.map_map]
  have : (S' ∘ tl) = id := funext S'_tl
  rw [this, List.map_id]
theorem split_len (z : Str) : (Txt.split z ",").length ≤ z.length + 1 := by
  rw [split_eq, List.length_map, len_tl]
  exact splC_len _ _
theorem split_each {z p : Str} (h : p ∈ Txt.split z ",") : p.length ≤ z.length := by
  rw [split_eq] at h
  obtain ⟨l, hl, rfl⟩ := List.mem_map.mp h
  have := splC_each _ _ _ hl
  rw [List.length_nil, Nat.zero_add] at this
  rw [len_tl, len_tl]
  exact this
/-- the elements of a list in a field -/
def stripped (z : Str) : List Str := (Txt.split z ",").map fun p => Txt.stripChars p " "
def elems (z : Str) : List Str := (stripped z).filter fun p => !decide (p = ("" : Str))
/-! ### the same, sign by sign -/
def wstep (st : List Str × Str) (c : Nat) : List Str × Str :=
  if c = 44 then (if Txt.stripChars st.2 " " = ("" : Str) then st.1 else st.1 ++ [Txt.stripChars st.2 " "], "") else (st.1, st.2 ++ ⟨#[c]⟩)
def keepW (p : Str) : List Str := if Txt.stripChars p " " = ("" : Str) then [] else [Txt.stripChars p " "]
theorem keepW_eq (l : List Str) : (l.map fun p => Txt.stripChars p " ").filter (fun p => !decide (p = ("" : Str))) = l.flatMap keepW := by
  induction l with
  | nil => rfl
  | cons p r ih =>
    rw [List.map_cons, List.filter_cons, List.flatMap_cons, ih]
    unfold keepW
    by_cases h : Txt.stripChars p " " = ("" : Str)
    · rw [decide_eq_true h, if_pos h]; rfl
    · rw [decide_eq_false h, if_neg h]; rfl
theorem snoc_S' (l : List Nat) (c : Nat) : S' l ++ (⟨#[c]⟩ : Str) = S' (l ++ [c]) := ext_tl (by rw [tl_append]; rfl)
theorem wfold : ∀ (l : List Nat) (fs : List Str) (w : List Nat), (l ++ [44]).foldl wstep (fs, S' w) = (fs ++ ((splC w l).map S').flatMap keepW, ("" : Str))
  | [], fs, w => by
    show wstep (fs, S' w) 44 = _
    unfold wstep
    rw [if_pos rfl]
    show (if Txt.stripChars (S' w) " " = ("" : Str) then fs else fs ++ [Txt.stripChars (S' w) " "], ("" : Str)) = (fs ++ ([w].map S').flatMap keepW, ("" : Str))
    have : ([w].map S').flatMap keepW = keepW (S' w) := by simp
    rw [this]
    unfold keepW
    by_cases h : Txt.stripChars (S' w) " " = ("" : Str)
    · rw [if_pos h, if_pos h, List.append_nil]
    · rw [if_neg h, if_neg h]
  | c :: r, fs, w => by
    rw [List.cons_append, List.foldl_cons]
    show List.foldl wstep (wstep (fs, S' w) c) (r ++ [44]) = (fs ++ ((if c = 44 then w :: splC [] r else splC (w ++ [c]) r).map S').flatMap keepW, ("" : Str))
    unfold wstep
    by_cases h : c = 44
    · rw [if_pos h, if_pos h]
      have e : ("" : Str) = S' [] := eq_comm.mp (eq_empty.mpr rfl)
      show List.foldl wstep (if Txt.stripChars (S' w) " " = ("" : Str) then fs else fs ++ [Txt.stripChars (S' w) " "], ("" : Str)) (r ++ [44]) = _
      rw [e, wfold r _ [], List.map_cons, List.flatMap_cons, ← e]
      unfold keepW
      by_cases h2 : Txt.stripChars (S' w) " " = ("" : Str)
      · rw [if_pos h2, if_pos h2, List.nil_append]
      · rw [if_neg h2, if_neg h2, List.append_assoc]
    · rw [if_neg h, if_neg h]
      show List.foldl wstep (fs, S' w ++ ⟨#[c]⟩) (r ++ [44]) = _
      rw [snoc_S', wfold r fs (w ++ [c])]
theorem words_elems (z : Str) : ((tl z ++ [44]).foldl wstep ([], ("" : Str))).1 = elems z := by
  have e : ("" : Str) = S' [] := eq_comm.mp (eq_empty.mpr rfl)
  have h := wfold (tl z) [] []
  rw [← e] at h
  rw [h]
  show [] ++ ((splC [] (tl z)).map S').flatMap keepW = elems z
  rw [List.nil_append, ← split_eq]
  unfold elems stripped
  rw [keepW_eq]
/-! ### what a comprehension gives -/
theorem given_take {α : Type} (xs : List α) (d : α) (p : α → Bool) (g : α → V) : ∀ n, n ≤ xs.length → given n (fun i => p (xs.getD i d)) (fun i => g (xs.getD i d)) = ((xs.take n).filter p).map g
  | 0, _ => rfl
  | n + 1, h => by
    have hn : n < xs.length := h
    have e : xs.getD n d = xs[n] := by rw [List.getD_eq_getElem?_getD, List.getElem?_eq_getElem hn]; rfl
    have et : xs.take (n + 1) = xs.take n ++ [xs[n]] := by rw [List.take_add_one, List.getElem?_eq_getElem hn]; rfl
    rw [et, List.filter_append, List.map_append, ← given_take xs d p g n (by omega)]
    by_cases hp : p (xs.getD n d) = true
    · rw [given_yes (f := fun i => p (xs.getD i d)) hp]
      rw [e] at hp ⊢
      rw [List.filter_cons, if_pos hp]
      rfl
    · have hp' : p (xs.getD n d) = false := by
        cases h : p (xs.getD n d) with
        | true => exact absurd h hp
        | false => rfl
      rw [given_no (f := fun i => p (xs.getD i d)) hp']
      rw [e] at hp
      rw [List.filter_cons, if_neg hp]
      show _ = _ ++ []
      rw [List.append_nil]
theorem given_all {α : Type} (xs : List α) (d : α) (p : α → Bool) (g : α → V) : given xs.length (fun i => p (xs.getD i d)) (fun i => g (xs.getD i d)) = (xs.filter p).map g := by
  rw [given_take xs d p g xs.length (Nat.le_refl _), List.take_length]
theorem at_str {xs : List Str} {i : Nat} {x : V} (h : (xs.map V.str)[i]? = some x) (d : Str) : i < xs.length ∧ x = .str (xs.getD i d) ∧ xs.getD i d ∈ xs := by
  rw [List.getElem?_map] at h
  cases e : xs[i]? with
  | none => rw [e] at h; cases h
  | some a =>
    rw [e] at h
    cases h
    have : xs.getD i d = a := by rw [List.getD_eq_getElem?_getD, e]; rfl
    exact ⟨(List.getElem?_eq_some_iff.mp e).1, by rw [this], by rw [this]; exact List.mem_of_getElem? e⟩
/-! ### loops over a text; a text split -/
def rSplit : V → List V → Hp → VK → Prop := fun x xs H Q => ∃ a b, x = .str a ∧ xs = [.str b] ∧ (b.length == 0) = false ∧ a.length + 2 ≤ sizeLine ∧ rNewStrs (Txt.split a b) H Q
theorem mz_split {X : Cx} : MtR X "str.split" rSplit := mt_split
section
variable {K : PySem.W.Frag} {σ : L2.St} {H H' : Hp} {ta tb tc te to ts : TE} {t u : TT} {x y z v : V} {r : R2} {a b s : Str} {c : Nat} {D : Ends} {tu tz : TS}
theorem el_split (h : Ev to σ H (.str a)) (hs : Ev ts σ H (.str s)) (h0 : (s.length == 0) = false) (hz : a.length ≤ 100000) : EvL (tBM K "str" rSplit to (tCons ts tNil)) σ H ((Txt.split a s).map V.str) := fun H1 e Q q =>
  h H1 e _ fun H2 e2 => ⟨rfl, hs H2 (e.trans e2) _ fun H3 e3 => ⟨a, s, rfl, rfl, h0, Nat.le_trans (Nat.add_le_add_right hz 2) (by decide), fun p hp => q p _ (fresh_back (e2.trans e3) hp) ((e2.trans e3).trans (Ex.new hp)) upd_same⟩⟩
theorem s_forS {w : Str} {j : Nat} (h : Ev te σ H (.str w)) (Pv : Nat → L2.St → Hp → Prop) (h0 : ∀ H1, Ex H H1 → Pv 0 σ H1)
    (hs : ∀ i c σ' H', (tl w)[i]? = some c → Pv i σ' H' → tu { D with nx := Pv (i + 1), ct := Pv (i + 1), bk := D.nx } (σ'.set j (some (.str ⟨#[c]⟩))) H') (hd : ∀ σ' H', Pv (tl w).length σ' H' → D.nx σ' H') : tFor (iStr te) (gName j) tu D σ H :=
  h H (Ex.refl H) _ fun H1 e => ⟨w, rfl, for_it (walk_str (z := w)) Pv (h0 H1 e) (fun _ _ _ _ _ => trivial) (fun i x σ' H' H'' hi p y => by
    obtain ⟨rfl, c, hc, rfl⟩ := y
    exact hs i c σ' H'' (by show w.cps.toList[i]? = some c; simpa using hc) p) (fun σ' H' p => hd σ' H' (by
      have : (tl w).length = w.cps.size := by rw [len_tl']; rfl
      rw [this]; exact p))⟩
theorem q_forS {w : Str} {j : Nat} (h : Ev te σ H (.str w)) (Pv : Nat → L2.St → Hp → Prop) (h0 : ∀ H1, Ex H H1 → Pv 0 σ H1)
    (hs : ∀ i c σ' H', (tl w)[i]? = some c → Pv i σ' H' → tu { D with nx := Pv (i + 1), ct := Pv (i + 1), bk := tz D } (σ'.set j (some (.str ⟨#[c]⟩))) H') (hd : ∀ σ' H', Pv (tl w).length σ' H' → tz D σ' H') : tSeq (tFor (iStr te) (gName j) tu) tz D σ H :=
  s_forS (D := { D with nx := tz D }) h Pv h0 hs hd
end
/-! ### numbers -/
open NumText in
theorem digits_all {z : Str} (h : allIn z "0123456789" = true) : AllDigits (tl z) := fun c hc => by
  have h1 := of_decide_eq_true (List.all_eq_true.mp h c hc)
  have e : tl ("0123456789" : Str) = [48, 49, 50, 51, 52, 53, 54, 55, 56, 57] := by decide +kernel
  rw [e] at h1
  simp only [List.mem_cons, List.not_mem_nil, or_false] at h1
  omega
theorem int_digits {z : Str} (h : allIn z "0123456789" = true) (h1 : 1 ≤ z.length) (h2 : z.length ≤ 640) : PySem.intText? z = some ((NumText.digitsVal (tl z) : Nat) : Int) :=
  intText_digits (digits_all h) (fun e => by
    rw [len_tl] at h1
    have : tl z = [] := e
    rw [this] at h1
    exact absurd h1 (by decide)) (by omega)
end Z
set_option maxHeartbeats 4000000
namespace Z
open PySem PySem.Spec PyProof.Rows L2 TL Evl
/-! ### what the functions give -/
def pathB (z : Str) : Bool := (decide ((1 : Int) ≤ z.length) && decide ((z.length : Int) ≤ 60)) && (decide (hd z = some 47) && allIn z "abcdefghijklmnopqrstuvwxyz0123456789/-.")
def hdIn (z s : Str) : Bool := match hd z with | some c => decide (c ∈ tl s) | none => false
def wordB (z : Str) (m : Int) : Bool := (decide ((1 : Int) ≤ z.length) && decide ((z.length : Int) ≤ m)) && (hdIn z "abcdefghijklmnopqrstuvwxyz" && allIn z "abcdefghijklmnopqrstuvwxyz0123456789-")
def nameB (z : Str) : Bool := wordB z 30 && !decide (z = ("length" : Str))
def valueB (z : Str) : Bool := decide ((z.length : Int) ≤ 200) && (allIn z signs && decide (Txt.stripChars z " " = z))
def digB (z : Str) : Bool := (decide ((1 : Int) ≤ z.length) && decide ((z.length : Int) ≤ 6)) && (allIn z "0123456789" && (decide ((z.length : Int) = 1) || !decide (hd z = some 48)))
def numV (z : Str) : V := if digB z = true then .int (((NumText.digitsVal (tl z) : Nat)) : Int) else .non
theorem item0 {z : Str} (h : 1 ≤ z.length) : ∃ c, hd z = some c ∧ atI (tl z) 0 = some c := by
  obtain ⟨c, h1, h2⟩ := hd_some h
  refine ⟨c, h1, ?_⟩
  have : (tl z)[0]? = some c := by
    show z.cps.toList[0]? = some c
    simpa using h2
  exact atI_nat (j := 0) this
theorem pl {a b c : Int} (h : (decide (a ≤ b) && decide (b ≤ c)) = true) : a ≤ b ∧ b ≤ c := by
  rw [Bool.and_eq_true, decide_eq_true_eq, decide_eq_true_eq] at h
  exact h
section
variable {P : Program} {w : World} {K : PySem.W.Frag} {mg : Str → Option Value} {base : Heap} {f : Addr} {fd : FuncData} {k : Nat}
end
end Z

namespace Z
open PySem PySem.Spec PyProof.Rows L2 TL Evl
theorem et_yes {σ : L2.St} {H : Hp} : EvT tYes σ H true := fun H1 e Q q => q H1 (Ex.refl H1)
theorem cut1_eq (z : Str) (c : Nat) : decide (cutS z none (some 1) = (⟨#[c]⟩ : Str)) = decide (hd z = some c) := by
  cases e : hd z with
  | none =>
    rw [cut1_nil e, decide_eq_false (show ¬ (none : Option Nat) = some c from fun h => nomatch h)]
    refine decide_eq_false fun h => ?_
    have := congrArg tl h
    rw [tl_empty] at this
    exact absurd this.symm (by show ¬ [c] = []; simp)
  | some d =>
    rw [cut1_one e]
    by_cases h : d = c
    · rw [h, decide_eq_true rfl, decide_eq_true rfl]
    · rw [decide_eq_false fun x => h ((one_eq _ _).mp x), decide_eq_false fun x => h (Option.some.inj x)]
theorem cut_len (z : Str) (a b : Option Int) : (cutS z a b).length ≤ z.length := cutS_length z a b
def rest (z : Str) : Str := cutS z (some 1) none
def readV (z : Str) : V := if hd z = some 45 then (if digB (rest z) = true ∧ rest z ≠ ("0" : Str) then .int (-((NumText.digitsVal (tl (rest z)) : Nat) : Int)) else .non) else numV z
theorem starts_minus (z : Str) : Txt.startswith z "-" = decide (hd z = some 45) := by
  have e45 : ("-" : Str) = ⟨#[45]⟩ := by decide +kernel
  unfold Txt.startswith Builtin.Str.subAt
  rw [e45]
  show (decide (0 + 1 ≤ z.length) && (z.cps.extract 0 (0 + 1) == #[45])) = _
  have hx : (z.cps.extract 0 (0 + 1) == #[45]) = decide ((tl z).take 1 = [45]) := by
    have : (z.cps.extract 0 (0 + 1)).toList = (tl z).take 1 := by simp [tl]
    by_cases h : (tl z).take 1 = [45]
    · rw [decide_eq_true h]
      refine beq_iff_eq.mpr (Array.toList_inj.mp ?_)
      rw [this, h]
    · rw [decide_eq_false h]
      refine beq_eq_false_iff_ne.mpr fun e => h ?_
      rw [← this, e]
  rw [hx, len_tl]
  unfold hd
  cases e : tl z with
  | nil => rfl
  | cons a r =>
    have h1 : 0 + 1 ≤ (a :: r).length := by rw [List.length_cons]; omega
    rw [decide_eq_true h1, Bool.true_and]
    show decide ([a] = [45]) = decide (some a = some 45)
    by_cases h : a = 45
    · rw [h]; rfl
    · rw [decide_eq_false fun e => h (by cases e; rfl), decide_eq_false fun e => h (Option.some.inj e)]
theorem zero_text {z : Str} (h : z.length = 1) (h48 : hd z = some 48) : z = ("0" : Str) := by
  refine ext_tl ?_
  have e : tl ("0" : Str) = [48] := by decide +kernel
  rw [e]
  unfold hd at h48
  rw [len_tl] at h
  cases q : tl z with
  | nil => rw [q] at h48; cases h48
  | cons a r =>
    rw [q] at h48 h
    cases h48
    cases r with
    | nil => rfl
    | cons b t => rw [List.length_cons, List.length_cons] at h; omega
theorem zero_len {z : Str} (h : z = ("0" : Str)) : z.length = 1 := by rw [h]; decide +kernel
section
variable {P : Program} {w : World} {K : PySem.W.Frag} {mg : Str → Option Value} {base : Heap} {f : Addr} {fd : FuncData} {k : Nat}
abbrev cons_ (P : Program) (w : World) (K : PySem.W.Frag) (mg : Str → Option Value) (base : Heap) : Prop := Call P w K mg base 1 "consists_of" ["text", "signs"] (sp2 fun z s => .bl (allIn z s))
end
end Z

namespace Z
open PySem PySem.Spec PyProof.Rows L2 TL Evl
open NumText in
theorem fold_mono : ∀ (l : List Nat) (a : Nat), 1 ≤ a → 1 ≤ l.foldl (fun acc c => acc * 10 + (c - 48)) a
  | [], a, h => h
  | c :: r, a, h => fold_mono r (a * 10 + (c - 48)) (by omega)
open NumText in
theorem val_pos {z : Str} (hb : digB z = true) (h0 : z ≠ ("0" : Str)) : 1 ≤ digitsVal (tl z) := by
  unfold digB at hb
  obtain ⟨h1, h2⟩ := Bool.and_eq_true_iff.mp hb
  obtain ⟨h3, h4⟩ := Bool.and_eq_true_iff.mp h2
  have hl := pl h1
  have hall := digits_all h3
  have hne : hd z ≠ some 48 := by
    intro h48
    rw [Bool.or_eq_true, decide_eq_true_eq, Bool.not_eq_true', decide_eq_false_iff_not] at h4
    rcases h4 with h | h
    · exact h0 (zero_text (by omega) h48)
    · exact h h48
  unfold hd at hne
  cases q : tl z with
  | nil =>
    have := len_tl z
    rw [q] at this
    have e : ([] : List Nat).length = 0 := rfl
    omega
  | cons c r =>
    rw [q] at hne hall
    have hc := hall c List.mem_cons_self
    have : c ≠ 48 := fun e => hne (by rw [e]; rfl)
    show 1 ≤ (c :: r).foldl (fun acc c => acc * 10 + (c - 48)) 0
    rw [List.foldl_cons]
    exact fold_mono r _ (by omega)
theorem val_zero : NumText.digitsVal (tl ("0" : Str)) = 0 := by decide +kernel
theorem rest_len (z : Str) : (rest z).length ≤ z.length := cut_len z _ _
theorem minus_nodig {z : Str} (h : hd z = some 45) : digB z = false := by
  cases e : digB z with
  | false => rfl
  | true =>
    exfalso
    unfold digB at e
    obtain ⟨h1, h2⟩ := Bool.and_eq_true_iff.mp e
    obtain ⟨h3, h4⟩ := Bool.and_eq_true_iff.mp h2
    have hall := digits_all h3
    unfold hd at h
    cases q : tl z with
    | nil => rw [q] at h; cases h
    | cons c r =>
      rw [q] at h hall
      cases h
      have := hall 45 List.mem_cons_self
      omega
theorem minus_zero {z : Str} (h : hd z = some 45) : decide (z = ("-0" : Str)) = decide (rest z = ("0" : Str)) := by
  have e0 : tl ("-0" : Str) = [45, 48] := by decide +kernel
  have e1 : tl ("0" : Str) = [48] := by decide +kernel
  have er : tl (rest z) = (tl z).drop 1 := cutFrom1_tl z
  unfold hd at h
  by_cases hz : z = ("-0" : Str)
  · rw [decide_eq_true hz]
    symm
    refine decide_eq_true (ext_tl ?_)
    rw [er, e1, hz, e0]
    rfl
  · rw [decide_eq_false hz]
    symm
    refine decide_eq_false fun hr => hz (ext_tl ?_)
    rw [hr, e1] at er
    cases q : tl z with
    | nil => rw [q] at h; cases h
    | cons c r =>
      rw [q] at h er
      cases h
      have er : [48] = r := er
      rw [← er, e0]
theorem numV_form (z : Str) : (digB z = true ∧ numV z = .int ((NumText.digitsVal (tl z) : Nat) : Int)) ∨ (digB z = false ∧ numV z = .non) := by
  unfold numV
  cases h : digB z with
  | true => exact .inl ⟨rfl, if_pos rfl⟩
  | false => exact .inr ⟨rfl, if_neg (by decide)⟩
section
variable {P : Program} {w : World} {K : PySem.W.Frag} {mg : Str → Option Value} {base : Heap} {f : Addr} {fd : FuncData} {k : Nat}
abbrev C1 (P : Program) (w : World) (K : PySem.W.Frag) (mg : Str → Option Value) (base : Heap) (k : Nat) (x : Str) (f : Str → V) : Prop := Call P w K mg base k x ["text"] (sp1 f)
/-! ### the law's own reading -/
def letters : Str := "abcdefghijklmnopqrstuvwxyz"
end
end Z

namespace Z
open PySem PySem.Spec PyProof.Rows L2 TL Evl
/-! ### texts in lists, compared -/
theorem lay_strs : ∀ xs : List Str, (∀ x ∈ xs, PyData.strOk x = true) → PyData.canLayAll0 (xs.map PyData.str) = true
  | [], _ => by simp [PyData.canLayAll0]
  | x :: r, h => by
    have h1 := h x List.mem_cons_self
    have h2 := lay_strs r fun y hy => h y (List.mem_cons_of_mem _ hy)
    simp [PyData.canLayAll0, PyData.canLay0, h1, h2]
theorem depth_strs : ∀ xs : List Str, PyData.depthAll (xs.map PyData.str) ≤ 1
  | [] => by simp [PyData.depthAll]
  | x :: r => by
    have := depth_strs r
    simp only [List.map_cons, PyData.depthAll, PyData.depth]
    omega
theorem shaped_strs (xs : List Str) (h : ∀ x ∈ xs, PyData.strOk x = true) : SeqAt.shaped (.list (xs.map PyData.str)) = true := by
  have h1 := depth_strs xs
  have h2 : PyData.depth (.list (xs.map PyData.str)) ≤ 64 := by simp only [PyData.depth]; omega
  show (PyData.canLay0 (.list (xs.map PyData.str)) && decide (PyData.depth (.list (xs.map PyData.str)) ≤ 64)) = true
  rw [Bool.and_eq_true]
  exact ⟨by simp only [PyData.canLay0]; exact lay_strs xs h, decide_eq_true h2⟩
theorem ok_text {x : Str} (h : ∀ c ∈ tl x, c < 128) : PyData.strOk x = true := by
  unfold PyData.strOk
  rw [← Array.all_toList]
  exact List.all_eq_true.mpr fun c hc => decide_eq_true (Nat.lt_trans (h c hc) (by decide))
theorem splC_mem : ∀ (l acc p : List Nat), p ∈ splC acc l → ∀ c ∈ p, c ∈ acc ∨ c ∈ l
  | [], acc, p, h, c, hc => by
    rw [List.mem_singleton.mp h] at hc
    exact .inl hc
  | a :: r, acc, p, h, c, hc => by
    have h : p ∈ (if a = 44 then acc :: splC [] r else splC (acc ++ [a]) r) := h
    by_cases ha : a = 44
    · rw [if_pos ha] at h
      rcases List.mem_cons.mp h with e | h
      · rw [e] at hc; exact .inl hc
      · rcases splC_mem r [] p h c hc with g | g
        · cases g
        · exact .inr (List.mem_cons_of_mem _ g)
    · rw [if_neg ha] at h
      rcases splC_mem r (acc ++ [a]) p h c hc with g | g
      · rcases List.mem_append.mp g with g | g
        · exact .inl g
        · rw [List.mem_singleton.mp g]; exact .inr List.mem_cons_self
      · exact .inr (List.mem_cons_of_mem _ g)
theorem strip_mem {p s : Str} {c : Nat} (h : c ∈ tl (Txt.stripChars p s)) : c ∈ tl p := by
  have e0 : Txt.stripChars p s = Builtin.Str.strSub p (stripLo s.cps.contains true p) (stripHi s.cps.contains true p (stripLo s.cps.contains true p)) := stripBy_eq _ _ _ _
  rw [e0, tl_strSub] at h
  exact List.mem_of_mem_drop (List.mem_of_mem_take h)
theorem elems_mem {z p : Str} (h : p ∈ elems z) {c : Nat} (hc : c ∈ tl p) : c ∈ tl z := by
  unfold elems stripped at h
  obtain ⟨h1, _⟩ := List.mem_filter.mp h
  obtain ⟨p0, h2, rfl⟩ := List.mem_map.mp h1
  have h3 := strip_mem hc
  rw [split_eq] at h2
  obtain ⟨l, hl, rfl⟩ := List.mem_map.mp h2
  rcases splC_mem _ _ _ hl c h3 with g | g
  · cases g
  · exact g
theorem elems_ok {z : Str} (h : allIn z signs = true) : ∀ p ∈ elems z, PyData.strOk p = true := fun p hp => ok_text fun c hc => signs_lt c (of_decide_eq_true (List.all_eq_true.mp h c (elems_mem hp hc)))
theorem dp_strs {K : PySem.W.Frag} {H : Hp} : ∀ xs : List Str, DpAll K H (xs.map V.str) (xs.map PyData.str)
  | [] => .nil
  | x :: r => .cons (.str x) (dp_strs r)
theorem rv_eqL {K : PySem.W.Frag} {H : Hp} {p p2 : Addr} {xs : List Str} (h1 : SqL K H p (xs.map V.str)) (h2 : SqL K H p2 (xs.map V.str)) (hx : ∀ x ∈ xs, PyData.strOk x = true) : RV (rEqD K) (.ref p) (.ref p2) H (.bl true) := fun H1 e Q q => by
  refine ⟨.list (xs.map .str), .list (xs.map .str), .lst (ex_l e h1) (dp_strs xs), .lst (ex_l e h2) (dp_strs xs), shaped_strs xs hx, shaped_strs xs hx, ?_⟩
  rw [SeqAt.eqv_refl _ (SeqAt.canLay_of_shaped (shaped_strs xs hx))]
  exact q H1 (Ex.refl H1)
section
variable {K : PySem.W.Frag} {σ : L2.St} {H H' : Hp} {ta tb te : TE} {x : V}
theorem ev_isi {n : String} {t : Value} {b : Bool} (h : Ev ta σ H x) (ht : ∀ H1, Ex H H1 → TyX K H1 x t) (hk : PySem.W.kitOne K t (.type n) = some b) : Ev (tCB (rIsi K) (tCons ta (tCons (tC (.ty n)) tNil))) σ H (.bl b) := fun H1 e Q q =>
  h H1 e _ fun H2 e2 => ⟨x, .ty n, t, .type n, b, rfl, .ty n, ht H2 (e.trans e2), hk, q H2 e2⟩
theorem et_truB {b : Bool} (h : Ev te σ H (.bl b)) : EvT (fun σ H Q => te σ H fun x H' => ∃ k, TruV K x H' k ∧ Q k H') σ H b := fun H1 e Q q => h H1 e _ fun H2 e2 => ⟨b, rfl, q H2 e2⟩
theorem rv_eqB {a b : Bool} : RV rEq (.bl a) (.bl b) H (.bl (decide (a = b))) := by
  have : decide (V.bl a = V.bl b) = decide (a = b) := by
    by_cases h : a = b
    · rw [decide_eq_true h, decide_eq_true (congrArg V.bl h)]
    · rw [decide_eq_false h, decide_eq_false fun e => h (V.bl.inj e)]
  rw [← this]
  exact rv_eq rfl
end
section
variable {P : Program} {w : World} {K : PySem.W.Frag} {mg : Str → Option Value} {base : Heap} {f : Addr} {fd : FuncData} {k : Nat}
theorem wd_len (l : List Nat) (fs : List Str) (wd : Str) : (l.foldl wstep (fs, wd)).2.length ≤ wd.length + l.length ∧ (l.foldl wstep (fs, wd)).1.length ≤ fs.length + l.length := by
  induction l generalizing fs wd with
  | nil => exact ⟨Nat.le_refl _, Nat.le_refl _⟩
  | cons c r ih =>
    rw [List.foldl_cons, List.length_cons]
    have e : wstep (fs, wd) c = ((wstep (fs, wd) c).1, (wstep (fs, wd) c).2) := rfl
    rw [e]
    obtain ⟨h1, h2⟩ := ih (wstep (fs, wd) c).1 (wstep (fs, wd) c).2
    have g : (wstep (fs, wd) c).2.length ≤ wd.length + 1 ∧ (wstep (fs, wd) c).1.length ≤ fs.length + 1 := by
      unfold wstep
      by_cases hc : c = 44
      · rw [if_pos hc]
        refine ⟨by show (("" : Str)).length ≤ _; rw [show (("" : Str)).length = 0 by decide +kernel]; omega, ?_⟩
        show (if Txt.stripChars wd " " = ("" : Str) then fs else fs ++ [Txt.stripChars wd " "]).length ≤ _
        by_cases h : Txt.stripChars wd " " = ("" : Str)
        · rw [if_pos h]; omega
        · rw [if_neg h, List.length_append]; exact Nat.le_refl _
      · rw [if_neg hc]
        refine ⟨?_, by show fs.length ≤ _; omega⟩
        show (wd ++ (⟨#[c]⟩ : Str)).length ≤ _
        rw [Str.length_append]
        exact Nat.le_refl _
    omega
theorem take_step {l : List Nat} {i c : Nat} (h : l[i]? = some c) (st : List Str × Str) : (l.take (i + 1)).foldl wstep st = wstep ((l.take i).foldl wstep st) c := by
  rw [List.take_add_one, h, List.foldl_append]
  rfl
def spTruth : Sp := fun vs H Q _ => ∃ a b : Bool, vs = [.bl a, .bl b] ∧ RetV (.bl (decide (a = b))) H Q
theorem svT {a b : Bool} {H : Hp} : SpV spTruth [.bl a, .bl b] H (.bl (decide (a = b))) := fun H1 e Q q E => ⟨a, b, rfl, q⟩
def spInt : Sp := fun vs H Q _ => ∃ z : V, vs = [z, z] ∧ (z = .non ∨ ∃ i, z = .int i) ∧ RetV (.bl true) H Q
theorem numV_kind (z : Str) : numV z = .non ∨ ∃ i, numV z = .int i := by
  rcases numV_form z with ⟨_, h⟩ | ⟨_, h⟩
  · exact .inr ⟨_, h⟩
  · exact .inl h
theorem readV_kind (z : Str) : readV z = .non ∨ ∃ i, readV z = .int i := by
  unfold readV
  by_cases h : hd z = some 45
  · rw [if_pos h]
    by_cases h2 : digB (rest z) = true ∧ rest z ≠ ("0" : Str)
    · rw [if_pos h2]; exact .inr ⟨_, rfl⟩
    · rw [if_neg h2]; exact .inl rfl
  · rw [if_neg h]; exact numV_kind z
theorem svI {v : V} {H : Hp} (h : v = .non ∨ ∃ i, v = .int i) : SpV spInt [v, v] H (.bl true) := fun H1 e Q q E => ⟨v, rfl, h, q⟩
def spRight : Sp := fun vs H Q _ => ∃ z : Str, vs = [.str z] ∧ z.length ≤ 10000 ∧ RetV (.bl true) H Q
theorem dec_self (b : Bool) : decide (b = b) = true := decide_eq_true rfl
end
end Z

namespace Z
open PySem PySem.Spec PyProof.Rows L2 TL Evl
def rRepStr : R2 := fun x y H Q => ∃ (z : Str) (i : Int), x = .str z ∧ y = .int i ∧ 0 ≤ i ∧ i ≤ 1000 ∧ z.length ≤ 1000 ∧ Q (.str (repS z i.toNat)) H
theorem oz_rep {X : Cx} : OpR X (binaryOp .Mult) rRepStr := op_rep_str
def rInt1 : List V → Hp → VK → Prop := fun xs H Q => (∃ i, xs = [.int i] ∧ Q (.int i) H) ∨ ∃ k, xs = [.bl k] ∧ Q (.int (if k then 1 else 0)) H
theorem cz_int1 {X : Cx} : CallR X (.type "int") rInt1 := call_int1
def rJoin (K : PySem.W.Frag) : V → List V → Hp → VK → Prop := fun x xs H Q => ∃ a p, ∃ ys : List Str, x = .str a ∧ xs = [.ref p] ∧ (SqL K H p (ys.map V.str) ∨ SqT K H p (ys.map V.str)) ∧ (ys.map (·.length)).sum + ys.length * a.length ≤ 16777216 ∧ Q (.str (Txt.join a ys)) H
theorem mz_join {X : Cx} : MtR X "str.join" (rJoin X.K) := mt_join
section
variable {K : PySem.W.Frag} {σ : L2.St} {H H' : Hp} {ta tb te : TE} {x : V} {ti : TA}
theorem ev_int1 {i : Int} (h : Ev te σ H (.int i)) : Ev (tCB rInt1 (tCons te tNil)) σ H (.int i) := fun H1 e Q q => h H1 e _ fun H2 e2 => .inl ⟨i, rfl, q H2 e2⟩
theorem rd_call {sp : Sp} {vs : List V} {E : XK} {Q : VK} (h : EvA ti σ H vs) (k : ∀ H1, Ex H H1 → sp (vs ++ []) H1 Q E) : tCall sp [] E ti σ H Q := h H (Ex.refl H) _ k
end
/-! ### the bag of draws -/
def cap : Nat := 1048576
/-- a bag at p, of which at most n were drawn -/
def BagAt (H : Hp) (p : Addr) (n : Nat) : Prop := ∃ (c0 : Int) (cv : V) (c2 : Int), H p = some (.lst [.int c0, cv, .int c2]) ∧ 0 ≤ c2 ∧ c2 ≤ (n : Int) ∧ (cv = .non ∨ ∃ c : Int, cv = .int c ∧ c.natAbs < 2 ^ cap)
/-- all but what stands at p is as it was -/
def Keep (p : Addr) (H H' : Hp) : Prop := ∀ b o, b ≠ p → H b = some o → H' b = some o
theorem Keep.of {p : Addr} {H H' : Hp} (e : Ex H H') : Keep p H H' := fun b o _ h => e b o h
theorem Keep.trans {p : Addr} {H H1 H2 : Hp} (a : Keep p H H1) (b : Keep p H1 H2) : Keep p H H2 := fun c o hc h => b c o hc (a c o hc h)
theorem Keep.upd {p : Addr} {H H1 : Hp} {o : HO} (a : Keep p H H1) : Keep p H (upd H1 p o) := fun c u hc h => by rw [upd_ne hc]; exact a c u hc h
theorem BagAt.ex {H H' : Hp} {p : Addr} {n : Nat} (b : BagAt H p n) (e : Ex H H') : BagAt H' p n := by
  obtain ⟨c0, cv, c2, h, r⟩ := b
  exact ⟨c0, cv, c2, e _ _ h, r⟩
theorem BagAt.mono {H : Hp} {p : Addr} {n m : Nat} (b : BagAt H p n) (h : n ≤ m) : BagAt H p m := by
  obtain ⟨c0, cv, c2, h1, h2, h3, h4⟩ := b
  exact ⟨c0, cv, c2, h1, h2, by omega, h4⟩
theorem BagAt.some {H : Hp} {p : Addr} {n : Nat} (b : BagAt H p n) : ∃ xs, H p = some (.lst xs) := by
  obtain ⟨c0, cv, c2, h, r⟩ := b
  exact ⟨_, h⟩
theorem Keep.free {p : Addr} {H H' : Hp} (a : Keep p H H') {n : Nat} (b : BagAt H' p n) {l : Addr} (h : H' l = none) : H l = none := by
  cases q : H l with
  | none => rfl
  | some o =>
    by_cases e : l = p
    · obtain ⟨xs, g⟩ := b.some
      rw [e, g] at h
      cases h
    · rw [a l o e q] at h
      cases h
def spDraw : Sp := fun vs H Q _ => ∃ (p : Addr) (size : Int) (n : Nat), vs = [.ref p, .int size] ∧ BagAt H p n ∧ n ≤ 100000000 ∧ 1 ≤ size ∧ size ≤ 1000000 ∧
  ∀ (d : Int) (H' : Hp), 0 ≤ d → d < size → BagAt H' p (n + 1) → Keep p H H' → Q (.int d) H'
section
variable {P : Program} {w : World} {K : PySem.W.Frag} {mg : Str → Option Value} {base : Heap} {f : Addr} {fd : FuncData} {k : Nat}
end
end Z

namespace Z
open PySem PySem.Spec PyProof.Rows L2 TL Evl
theorem at_int {α : Type} {xs : List α} {d : Int} (h0 : 0 ≤ d) (h1 : d < (xs.length : Int)) : ∃ v, atI xs d = some v ∧ v ∈ xs := by
  obtain ⟨j, rfl⟩ := Int.eq_ofNat_of_zero_le h0
  have hj : j < xs.length := by omega
  exact ⟨xs[j], atI_nat (List.getElem?_eq_getElem hj), List.getElem_mem hj⟩
abbrev CDraw (P : Program) (w : World) (K : PySem.W.Frag) (mg : Str → Option Value) (base : Heap) : Prop := Call P w K mg base 1 "_law_draw" ["bag", "size"] spDraw
def spPickS : Sp := fun vs H Q _ => ∃ (p : Addr) (n : Nat) (z : Str), vs = [.ref p, .str z] ∧ BagAt H p n ∧ n ≤ 100000000 ∧ 1 ≤ z.length ∧ z.length ≤ 1000 ∧ ∀ (c : Nat) (H' : Hp), BagAt H' p (n + 1) → Keep p H H' → Q (.str ⟨#[c]⟩) H'
def spPickL : Sp := fun vs H Q _ => ∃ (p : Addr) (n : Nat) (l : Addr) (xs : List V), vs = [.ref p, .ref l] ∧ BagAt H p n ∧ n ≤ 100000000 ∧ l ≠ p ∧ H l = some (.lst xs) ∧ 1 ≤ xs.length ∧ xs.length ≤ 1000 ∧ ∀ (v : V) (H' : Hp), v ∈ xs → BagAt H' p (n + 1) → Keep p H H' → Q v H'
def spMost : Sp := fun vs H Q _ => ∃ (p : Addr) (n : Nat) (a b : Int), vs = [.ref p, .int a, .int b] ∧ BagAt H p n ∧ n ≤ 100000000 ∧ ∀ (v : Int) (H' : Hp), v = a ∨ v = b → BagAt H' p (n + 1) → Keep p H H' → Q (.int v) H'
/-- a word of at most `most` signs; at most 1001 draws -/
def spWord : Sp := fun vs H Q _ => ∃ (p : Addr) (n : Nat) (z : Str) (least most : Int), vs = [.ref p, .str z, .int least, .int most] ∧ BagAt H p n ∧ n ≤ 90000000 ∧ 1 ≤ z.length ∧ z.length ≤ 1000 ∧ 0 ≤ least ∧ least ≤ most ∧ most ≤ 1000 ∧
  ∀ (t : Str) (H' : Hp), (t.length : Int) ≤ most → BagAt H' p (n + 1001) → Keep p H H' → Q (.str t) H'
def spBag (K : PySem.W.Frag) : Sp := fun vs H Q _ => ∃ (a : Addr) (ns : List Int) (i : Nat), vs = [.ref a, .int (i : Int)] ∧ SqL K H a (ns.map V.int) ∧ ns.length ≤ 63 ∧ i ≤ 63 ∧ (∀ z ∈ ns, z.natAbs < 2 ^ cap) ∧ ∀ (p : Addr) (H' : Hp), H p = none → Ex H H' → BagAt H' p 0 → Q (.ref p) H'
section
variable {P : Program} {w : World} {K : PySem.W.Frag} {mg : Str → Option Value} {base : Heap} {f : Addr} {fd : FuncData} {k : Nat}
theorem sum_ones : ∀ ys : List Str, (∀ y ∈ ys, y.length = 1) → (ys.map (·.length)).sum = ys.length
  | [], _ => rfl
  | y :: r, h => by
    rw [List.map_cons, List.sum_cons, sum_ones r fun x hx => h x (List.mem_cons_of_mem _ hx), h y List.mem_cons_self, List.length_cons]
    omega
theorem join_len (sep : Str) (ys : List Str) : (Txt.join sep ys).length ≤ (ys.map (·.length)).sum + ys.length * sep.length := by
  rw [join_eq]
  exact StrLaws.join_length_le sep ys
end
end Z

namespace Z
open PySem PySem.Spec PyProof.Rows L2 TL Evl
def spList : Sp := fun vs H Q _ => ∃ (p : Addr) (n : Nat), vs = [.ref p] ∧ BagAt H p n ∧ n ≤ 80000000 ∧ ∀ (t : Str) (H' : Hp), t.length ≤ 100 → BagAt H' p (n + 10000) → Keep p H H' → Q (.str t) H'
def spText : Sp := fun vs H Q _ => ∃ (p : Addr) (n : Nat), vs = [.ref p] ∧ BagAt H p n ∧ n ≤ 1000 ∧ ∀ (t : Str) (H' : Hp), t.length ≤ 1500 → BagAt H' p (n + 100000) → Keep p H H' → Q (.str t) H'
def spSpoilt : Sp := fun vs H Q _ => ∃ (p : Addr) (n : Nat) (z : Str), vs = [.ref p, .str z] ∧ BagAt H p n ∧ n ≤ 1000000 ∧ z.length ≤ 1500 ∧ ∀ (t : Str) (H' : Hp), t.length ≤ 4000 → BagAt H' p (n + 3) → Keep p H H' → Q (.str t) H'
def spLaw (K : PySem.W.Frag) : Sp := fun vs H Q _ => ∃ (a : Addr) (ns : List Int), vs = [.ref a] ∧ SqL K H a (ns.map V.int) ∧ ns.length ≤ 63 ∧ (∀ z ∈ ns, z.natAbs < 2 ^ cap) ∧ ∀ H', Q (.bl true) H'
theorem BagAt.new {H : Hp} {p l : Addr} {n : Nat} {o : HO} (b : BagAt H p n) (h : H l = none) : BagAt (upd H l o) p n ∧ l ≠ p := by
  obtain ⟨xs, g⟩ := b.some
  exact ⟨b.ex (Ex.new h), fun e => by rw [e, g] at h; cases h⟩
theorem strs_in {ss : List Str} {v : V} (h : v ∈ ss.map V.str) : ∃ x, v = .str x ∧ x ∈ ss := by
  obtain ⟨x, hx, e⟩ := List.mem_map.mp h
  exact ⟨x, e.symm, hx⟩
theorem ints_in {ss : List Int} {v : V} (h : v ∈ ss.map V.int) : ∃ x, v = .int x ∧ x ∈ ss := by
  obtain ⟨x, hx, e⟩ := List.mem_map.mp h
  exact ⟨x, e.symm, hx⟩
theorem sum_most : ∀ (ys : List Str) (m : Nat), (∀ y ∈ ys, y.length ≤ m) → (ys.map (·.length)).sum ≤ ys.length * m
  | [], _, _ => Nat.zero_le _
  | y :: r, m, h => by
    have h1 := sum_most r m fun x hx => h x (List.mem_cons_of_mem _ hx)
    have h2 := h y List.mem_cons_self
    rw [List.map_cons, List.sum_cons, List.length_cons, Nat.succ_mul]
    omega
section
variable {P : Program} {w : World} {K : PySem.W.Frag} {mg : Str → Option Value} {base : Heap} {f : Addr} {fd : FuncData} {k : Nat}
abbrev CPickL (P : Program) (w : World) (K : PySem.W.Frag) (mg : Str → Option Value) (base : Heap) : Prop := Call P w K mg base 2 "_law_pick" ["bag", "things"] spPickL
abbrev CPickS (P : Program) (w : World) (K : PySem.W.Frag) (mg : Str → Option Value) (base : Heap) : Prop := Call P w K mg base 2 "_law_pick" ["bag", "things"] spPickS
abbrev CMost (P : Program) (w : World) (K : PySem.W.Frag) (mg : Str → Option Value) (base : Heap) : Prop := Call P w K mg base 2 "_law_most" ["bag", "small", "large"] spMost
abbrev CWord (P : Program) (w : World) (K : PySem.W.Frag) (mg : Str → Option Value) (base : Heap) : Prop := Call P w K mg base 2 "_law_word" ["bag", "signs", "least", "most"] spWord
end
end Z

namespace Z
open PySem PySem.Spec PyProof.Rows L2 TL Evl
theorem short_in {ss : List Str} {m : Nat} (h : ss.all (fun x => decide (x.length ≤ m)) = true) {x : Str} (hx : x ∈ ss) : x.length ≤ m := of_decide_eq_true (List.all_eq_true.mp h x hx)
section
variable {P : Program} {w : World} {K : PySem.W.Frag} {mg : Str → Option Value} {base : Heap} {f : Addr} {fd : FuncData} {k : Nat}
end
end Z
set_option maxHeartbeats 4000000
namespace Z
open PySem PySem.Spec PyProof.Rows L2 TL Evl
/-! ### lists of values, each with what it stands for -/
def Rel {α : Type} (R : V → α → Prop) (xs : List V) (os : List α) : Prop := xs.length = os.length ∧ ∀ (i : Nat) (x : V) (o : α), xs[i]? = some x → os[i]? = some o → R x o
section
variable {α : Type} {R R' : V → α → Prop} {xs : List V} {os : List α} {x : V} {o : α} {i : Nat}
theorem Rel.mono (h : Rel R xs os) (m : ∀ x o, R x o → R' x o) : Rel R' xs os := ⟨h.1, fun i x o a b => m x o (h.2 i x o a b)⟩
theorem Rel.nil : Rel R [] [] := ⟨rfl, fun i x o a => by cases a⟩
theorem Rel.snoc (h : Rel R xs os) (r : R x o) : Rel R (xs ++ [x]) (os ++ [o]) := by
  refine ⟨by rw [List.length_append, List.length_append, h.1]; rfl, fun i y u a b => ?_⟩
  by_cases hi : i < xs.length
  · rw [List.getElem?_append_left hi] at a
    rw [List.getElem?_append_left (by rw [← h.1]; exact hi)] at b
    exact h.2 i y u a b
  · rw [List.getElem?_append_right (by omega)] at a
    rw [List.getElem?_append_right (by rw [← h.1]; omega)] at b
    rw [← h.1] at b
    cases e : i - xs.length with
    | zero =>
      rw [e] at a b
      cases a
      cases b
      exact r
    | succ n =>
      rw [e] at a
      cases a
theorem Rel.get (h : Rel R xs os) (a : xs[i]? = some x) : ∃ o, os[i]? = some o ∧ R x o := by
  have hi : i < xs.length := (List.getElem?_eq_some_iff.mp a).1
  have e := List.getElem?_eq_getElem (h.1 ▸ hi : i < os.length)
  exact ⟨_, e, h.2 i x _ a e⟩
theorem Rel.at (h : Rel R xs os) (b : os[i]? = some o) : ∃ x, xs[i]? = some x ∧ R x o := by
  have hi : i < os.length := (List.getElem?_eq_some_iff.mp b).1
  have e := List.getElem?_eq_getElem (h.1.symm ▸ hi : i < xs.length)
  exact ⟨_, e, h.2 i _ o e b⟩
end
/-- a comprehension over a list whose values stand for things -/
theorem lc_rel {K : PySem.W.Frag} {a : Addr} {xs : List V} {g : TG} {tt : TT} {te : TE} {vs : List Nat} {σ : L2.St} {H0 : Hp} {D : Addr} {Qd : Hp → Prop} {α : Type} (acc : Nat → List α) (R : Hp → V → α → Prop)
    (mono : ∀ H1 H2 x o, (∀ b ob, b ≠ D → H1 b = some ob → H2 b = some ob) → (∃ ys, H1 D = some (.lst ys)) → R H1 x o → R H2 x o)
    (hx : SqL K H0 a xs) (hD : H0 D = none) (h00 : acc 0 = []) (hz : xs.length ≤ 50000)
    (hs : ∀ i x H, xs[i]? = some x → Ex H0 H → ∀ (k : VK) (k0 : Hp → Prop), (∀ y H4 o, Ex H H4 → acc (i + 1) = acc i ++ [o] → R H4 y o → k y H4) → (∀ H3, Ex H H3 → acc (i + 1) = acc i → k0 H3) →
      g x (wipe σ vs) H fun σ2 H2 => wipe σ2 vs = wipe σ vs ∧ tt σ2 H2 fun b H3 => if b = true then te σ2 H3 k else k0 H3)
    (hd : ∀ H ys, Ex H0 H → H D = some (.lst ys) → Rel (R H) ys (acc xs.length) → Qd H) :
    ∃ W : Nat → Nat → Hp → Prop, (∃ m, W 0 m (upd H0 D (.lst []))) ∧ ∀ i m H, W i m H →
      ((Itl K a).stop i H ∧ Qd H) ∨ ((Itl K a).go i H ∧ ∃ Nx : Hp → Prop, (∀ H', Nx H' → ∃ m', m' < m ∧ W (i + 1) m' H') ∧ ∀ x H', (Itl K a).yld i H x H' → g x (wipe σ vs) H' fun σ2 H2 => wipe σ2 vs = wipe σ vs ∧ tt σ2 H2 fun b H3 =>
        if b = true then te σ2 H3 fun y H4 => ∃ acc, H4 D = some (.lst acc) ∧ acc.length < sizeLine ∧ Nx (upd H4 D (.lst (acc ++ [y]))) else Nx H3) := by
  refine lc_list (xs := xs) (fun i H => Ex H0 H ∧ ∃ ys, H D = some (.lst ys) ∧ ys.length ≤ i ∧ Rel (R H) ys (acc i)) ⟨Ex.new hD, [], upd_same, Nat.le_refl _, by rw [h00]; exact Rel.nil⟩ (fun i H _ p => ex_l p.1 hx) (fun i x H hi p => ?_) (fun H p => ?_)
  · obtain ⟨e0, ys, hy, hl, hr⟩ := p
    have hi2 : i < xs.length := (List.getElem?_eq_some_iff.mp hi).1
    refine hs i x H hi e0 _ _ (fun y H4 o e4 ea r => ?_) (fun H3 e3 ea => ?_)
    · refine ⟨ys, e4 _ _ hy, sz_lt (by omega), Ex.mut (e0.trans e4) hD, ys ++ [y], upd_same, by rw [List.length_append]; exact Nat.add_le_add_right hl 1, ?_⟩
      rw [ea]
      refine Rel.snoc (hr.mono fun x o q => ?_) ?_
      · exact mono _ _ x o (fun b ob hb h => by rw [upd_ne hb]; exact h) ⟨ys, e4 _ _ hy⟩ (mono _ _ x o (fun b ob _ h => e4 b ob h) ⟨ys, hy⟩ q)
      · exact mono _ _ y o (fun b ob hb h => by rw [upd_ne hb]; exact h) ⟨ys, e4 _ _ hy⟩ r
    · refine ⟨e0.trans e3, ys, e3 _ _ hy, by omega, ?_⟩
      rw [ea]
      exact hr.mono fun x o q => mono _ _ x o (fun b ob _ h => e3 b ob h) ⟨ys, hy⟩ q
  · obtain ⟨e0, ys, hy, hl, hr⟩ := p
    exact hd H ys e0 hy hr
/-! ### a number that may not be there, pairs of them -/
def num (z : Str) : Option Nat := if digB z = true then some (NumText.digitsVal (tl z)) else none
def ov : Option Nat → V
  | none => .non
  | some n => .int (n : Int)
theorem numV_ov (z : Str) : numV z = ov (num z) := by
  unfold numV num
  cases h : digB z <;> rfl
theorem ov_non (o : Option Nat) : decide (ov o = .non) = o.isNone := by cases o <;> rfl
abbrev Pr := Option Nat × Option Nat
def TupAt (H : Hp) (v : V) (xs : List V) : Prop := ∃ p, v = .ref p ∧ H p = some (.tup xs)
def PrAt (H : Hp) (v : V) (o : Pr) : Prop := TupAt H v [ov o.1, ov o.2]
def OPrAt (H : Hp) (v : V) : Option Pr → Prop
  | none => v = .non
  | some q => PrAt H v q
def IpAt (H : Hp) (v : V) (o : Int × Int) : Prop := TupAt H v [.int o.1, .int o.2]
theorem TupAt.keep {H1 H2 : Hp} {D : Addr} {v : V} {xs : List V} (h : TupAt H1 v xs) (k : ∀ b ob, b ≠ D → H1 b = some ob → H2 b = some ob) (hD : ∃ ys, H1 D = some (.lst ys)) : TupAt H2 v xs := by
  obtain ⟨p, rfl, hp⟩ := h
  obtain ⟨ys, hy⟩ := hD
  exact ⟨p, rfl, k p _ (fun e => by rw [e, hy] at hp; cases hp) hp⟩
theorem TupAt.ex {H1 H2 : Hp} {v : V} {xs : List V} (h : TupAt H1 v xs) (e : Ex H1 H2) : TupAt H2 v xs := by
  obtain ⟨p, rfl, hp⟩ := h
  exact ⟨p, rfl, e _ _ hp⟩
theorem OPrAt.ex {H1 H2 : Hp} {v : V} {o : Option Pr} (h : OPrAt H1 v o) (e : Ex H1 H2) : OPrAt H2 v o := by
  cases o with
  | none => exact h
  | some q => exact TupAt.ex h e
theorem OPrAt.keep {H1 H2 : Hp} {D : Addr} {v : V} {o : Option Pr} (h : OPrAt H1 v o) (k : ∀ b ob, b ≠ D → H1 b = some ob → H2 b = some ob) (hD : ∃ ys, H1 D = some (.lst ys)) : OPrAt H2 v o := by
  cases o with
  | none => exact h
  | some q => exact TupAt.keep h k hD
/-! ### the dash of a text -/
def dashAt (z : Str) : Option Nat := (Builtin.Str.occurrences z "-" 0 z.length 1).head?
theorem find_dash (z : Str) : Txt.find z "-" = (match dashAt z with | some i => (i : Int) | none => -1) := by
  unfold Txt.find dashAt
  cases Builtin.Str.occurrences z "-" 0 z.length 1 <;> rfl
theorem dash_len : ("-" : Str).length = 1 := by decide +kernel
theorem cutTo_tl (z : Str) (i : Nat) : tl (cutS z none (some (i : Int))) = (tl z).take i := by
  show ((tl z).drop (HT.sIx z.length 0 none)).take (HT.sIx z.length z.length (some (i : Int)) - HT.sIx z.length 0 none) = _
  rw [HT.sIx_none, show HT.sIx z.length z.length (some (i : Int)) = min i z.length from HT.sIx_nat _ _ i, List.drop_zero, Nat.sub_zero, len_tl]
  by_cases h : i ≤ (tl z).length
  · rw [Nat.min_eq_left h]
  · rw [Nat.min_eq_right (by omega), List.take_of_length_le (Nat.le_refl _), List.take_of_length_le (by omega)]
theorem cutFrom_tl (z : Str) (i : Nat) : tl (cutS z (some (i : Int)) none) = (tl z).drop i := by
  show ((tl z).drop (HT.sIx z.length 0 (some (i : Int)))).take (HT.sIx z.length z.length none - HT.sIx z.length 0 (some (i : Int))) = _
  rw [HT.sIx_none, show HT.sIx z.length 0 (some (i : Int)) = min i z.length from HT.sIx_nat _ _ i, len_tl]
  by_cases h : i ≤ (tl z).length
  · rw [Nat.min_eq_left h]
    exact List.take_of_length_le (by rw [List.length_drop]; exact Nat.le_refl _)
  · rw [Nat.min_eq_right (by omega), List.drop_of_length_le (Nat.le_refl _), List.drop_of_length_le (by omega), List.take_nil]
/-- what stands ahead of a place, what stands behind -/
def preT (z : Str) (i : Nat) : Str := S' ((tl z).take i)
def sufT (z : Str) (i : Nat) : Str := S' ((tl z).drop i)
theorem cutTo (z : Str) (i : Nat) : cutS z none (some (i : Int)) = preT z i := ext_tl (by rw [cutTo_tl]; rfl)
theorem cutFrom (z : Str) (i : Nat) : cutS z (some (i : Int)) none = sufT z i := ext_tl (by rw [cutFrom_tl]; rfl)
theorem preT_len (z : Str) (i : Nat) : (preT z i).length ≤ z.length := by rw [← cutTo]; exact cut_len z _ _
theorem sufT_len (z : Str) (i : Nat) : (sufT z i).length ≤ z.length := by rw [← cutFrom]; exact cut_len z _ _
theorem part_dash (z : Str) : (∃ i, dashAt z = some i ∧ i + 1 ≤ z.length ∧ Txt.partition z "-" = (preT z i, ("-" : Str), sufT z (i + 1))) ∨ (dashAt z = none ∧ Txt.partition z "-" = (z, ("" : Str), ("" : Str))) := by
  unfold Txt.partition dashAt
  rcases StrLaws.occ_head z "-" 1 (Nat.le_refl 1) with ⟨h0, _⟩ | ⟨i, r, h0, hi, _⟩
  · rw [h0]; exact .inr ⟨rfl, rfl⟩
  · rw [h0]
    have hb : i + ("-" : Str).length ≤ z.length := hi.1
    refine .inl ⟨i, rfl, by rw [dash_len] at hb; exact hb, ?_⟩
    show (Builtin.Str.strSub z 0 i, ("-" : Str), Builtin.Str.strSub z (i + ("-" : Str).length) z.length) = _
    rw [dash_len]
    refine Prod.ext ?_ (Prod.ext rfl ?_)
    · exact ext_tl (by rw [tl_strSub, List.drop_zero, Nat.sub_zero]; rfl)
    · exact ext_tl (by rw [tl_strSub_end]; rfl)
theorem num_empty : num ("" : Str) = none := by decide +kernel
theorem preT0 (z : Str) : preT z 0 = ("" : Str) := eq_empty.mpr (by unfold preT; rw [List.take_zero]; rfl)
theorem preT_ne {z : Str} {i : Nat} (h : 0 < i) (hi : i + 1 ≤ z.length) : preT z i ≠ ("" : Str) := fun e => by
  have e2 := eq_empty.mp e
  have e3 : ((tl z).take i).length = 0 := by rw [show (tl z).take i = [] from e2]; rfl
  rw [List.length_take, len_tl'] at e3
  omega
theorem sufT_empty {z : Str} {i : Nat} (hi : i + 1 ≤ z.length) : decide (sufT z (i + 1) = ("" : Str)) = decide ((i : Int) = (z.length : Int) - 1) := by
  have e : sufT z (i + 1) = ("" : Str) ↔ (i : Int) = (z.length : Int) - 1 := by
    rw [eq_empty]
    show (tl z).drop (i + 1) = [] ↔ _
    rw [List.drop_eq_nil_iff, len_tl']
    omega
  exact decide_eq_decide.mpr e
/-- what a range says -/
def pairO (A B : Option Nat) : Option Pr :=
  match A, B with
  | none, none => none
  | some a, some b => if b < a then none else some (some a, some b)
  | x, y => some (x, y)
def badB (z : Str) (i : Nat) : Bool := ((num (preT z i)).isNone && !decide (preT z i = ("" : Str))) || ((num (sufT z (i + 1))).isNone && !decide (sufT z (i + 1) = ("" : Str)))
def rangeO (z : Str) : Option Pr :=
  match dashAt z with
  | none => none
  | some i => if badB z i = true then none else pairO (num (preT z i)) (num (sufT z (i + 1)))
theorem rangeO_some {z : Str} {i : Nat} (h : dashAt z = some i) : rangeO z = if badB z i = true then none else pairO (num (preT z i)) (num (sufT z (i + 1))) := by
  unfold rangeO
  rw [h]
theorem rangeO_none {z : Str} (h : dashAt z = none) : rangeO z = none := by
  unfold rangeO
  rw [h]
/-! ### the place of a digit -/
theorem occ_none (z : Str) (c : Nat) (h : c ∉ tl z) : Builtin.Str.occurrences z ⟨#[c]⟩ 0 z.length 1 = [] := by
  have e := StrLaws.found_one z c
  rw [decide_eq_false h] at e
  cases ho : Builtin.Str.occurrences z ⟨#[c]⟩ 0 z.length 1 with
  | nil => rfl
  | cons a r =>
    rw [ho] at e
    exact nomatch e
def dg : Str := "0123456789"
theorem find_digit (c : Nat) : Txt.find dg ⟨#[c]⟩ = if c ∈ tl dg then ((c : Int) - 48) else -1 := by
  by_cases h : c ∈ tl dg
  · rw [if_pos h]
    have all : ∀ c ∈ tl dg, Txt.find dg ⟨#[c]⟩ = ((c : Int) - 48) := by decide +kernel
    exact all c h
  · rw [if_neg h]
    unfold Txt.find
    rw [occ_none dg c h]
theorem dig_range : ∀ c ∈ tl dg, 48 ≤ c ∧ c ≤ 57 := by decide +kernel
/-- digits read so far -/
def dval (l : List Nat) : Nat := l.foldl (fun a c => a * 10 + (c - 48)) 0
theorem dval_snoc (l : List Nat) (c : Nat) : dval (l ++ [c]) = dval l * 10 + (c - 48) := by
  unfold dval
  rw [List.foldl_append]
  rfl
theorem dfold_lt : ∀ (l : List Nat) (a : Nat), (∀ c ∈ l, c ∈ tl dg) → l.foldl (fun a c => a * 10 + (c - 48)) a < (a + 1) * 10 ^ l.length
  | [], a, _ => by show a < (a + 1) * 1; omega
  | c :: r, a, h => by
    have h1 := dfold_lt r (a * 10 + (c - 48)) fun x hx => h x (List.mem_cons_of_mem _ hx)
    have h2 := dig_range c (h c List.mem_cons_self)
    rw [List.foldl_cons, List.length_cons, Nat.pow_succ, Nat.mul_comm (10 ^ r.length) 10, ← Nat.mul_assoc]
    exact Nat.lt_of_lt_of_le h1 (Nat.mul_le_mul_right _ (by omega))
theorem dval_lt {l : List Nat} (h : ∀ c ∈ l, c ∈ tl dg) : dval l < 10 ^ l.length := by
  have := dfold_lt l 0 h
  rw [Nat.zero_add, Nat.one_mul] at this
  exact this
/-! ### named readings -/
def rFind : V → List V → Hp → VK → Prop := fun x xs H Q => ∃ a b, x = .str a ∧ xs = [.str b] ∧ Q (.int (Txt.find a b)) H
theorem mz_find {X : Cx} : MtR X "str.find" rFind := mt_find
def rPart : V → List V → Hp → VK → Prop := fun x xs H Q => ∃ a b, x = .str a ∧ xs = [.str b] ∧ (b.length == 0) = false ∧ a.length ≤ sizeLine ∧
    ∀ p, H p = none → Q (.ref p) (upd H p (.tup [.str (Txt.partition a b).1, .str (Txt.partition a b).2.1, .str (Txt.partition a b).2.2]))
theorem mz_part {X : Cx} : MtR X "str.partition" rPart := mt_partition
def rStrI : List V → Hp → VK → Prop := fun xs H Q => ∃ i : Int, xs = [.int i] ∧ i.natAbs.log2 < 1920 ∧ Q (.str (toString i)) H
theorem cz_str {X : Cx} : CallR X (.type "str") rStrI := call_str_int
section
variable {K : PySem.W.Frag} {σ : L2.St} {H H' : Hp} {ta tb te to ts : TE} {a b s : Str} {p : Addr} {xs : List V}
theorem ev_find (h : Ev to σ H (.str a)) (hs : Ev ts σ H (.str s)) : Ev (tBM K "str" rFind to (tCons ts tNil)) σ H (.int (Txt.find a s)) := fun H1 e Q q =>
  h H1 e _ fun H2 e2 => ⟨rfl, hs H2 (e.trans e2) _ fun H3 e3 => ⟨a, s, rfl, rfl, q H3 (e2.trans e3)⟩⟩
theorem eu_part (h : Ev to σ H (.str a)) (hs : Ev ts σ H (.str s)) (h0 : (s.length == 0) = false) (hz : a.length ≤ 100000) : EvU (tBM K "str" rPart to (tCons ts tNil)) σ H [.str (Txt.partition a s).1, .str (Txt.partition a s).2.1, .str (Txt.partition a s).2.2] := fun H1 e Q q =>
  h H1 e _ fun H2 e2 => ⟨rfl, hs H2 (e.trans e2) _ fun H3 e3 => ⟨a, s, rfl, rfl, h0, sz_of hz, fun p hp => q p _ (fresh_back (e2.trans e3) hp) ((e2.trans e3).trans (Ex.new hp)) upd_same⟩⟩
theorem ev_strI {i : Int} (h : Ev te σ H (.int i)) (hi : i.natAbs < 2 ^ 1920) : Ev (tCB rStrI (tCons te tNil)) σ H (.str (toString i)) := fun H1 e Q q => h H1 e _ fun H2 e2 => ⟨i, rfl, by
  by_cases z : i.natAbs = 0
  · rw [z]; decide
  · exact (Nat.log2_lt z).mpr hi, q H2 e2⟩
theorem ev_lenT {p : Addr} {xs : List V} (ha : Ev ta σ H (.ref p)) (h : SqT K H p xs) : Ev (tCB (rLenS K) (tCons ta tNil)) σ H (.int (xs.length : Int)) := fun H1 e Q q =>
  ha H1 e _ fun H2 e2 => ⟨p, xs, rfl, Or.inr (ex_t (e.trans e2) h), q H2 e2⟩
theorem ev_ixT {i : Int} {v : V} (h : Ev ta σ H (.ref p)) (hi : Ev tb σ H (.int i)) (hp : H p = some (.tup xs)) (hv : atI xs i = some v) : Ev (tOp (rIxT K) ta tb) σ H v := ev_op h hi (rv_ixT (st_of hp) hv)
theorem ev_ixL {i : Int} {v : V} (h : Ev ta σ H (.ref p)) (hi : Ev tb σ H (.int i)) (hp : H p = some (.lst xs)) (hv : atI xs i = some v) : Ev (tOp (rIxL K) ta tb) σ H v := ev_op h hi (rv_ixL (sq_of hp) hv)
/-- any of a list of truths -/
theorem ev_any {bs : List Bool} (ha : EvL ta σ H (bs.map V.bl)) : Ev (tCB (L2.rAny K) (tCons ta tNil)) σ H (.bl (bs.any id)) := fun H1 e Q q =>
  ha H1 e _ fun p H2 _ e2 h2 => ⟨p, bs, rfl, sq_of h2, q H2 e2⟩
def rMin2 : List V → Hp → VK → Prop := fun xs H Q => ∃ i j, xs = [.int i, .int j] ∧ Q (.int (if j < i then j else i)) H
theorem ev_min2 {i j : Int} (ha : Ev ta σ H (.int i)) (hb : Ev tb σ H (.int j)) : Ev (tCB rMin2 (tCons ta (tCons tb tNil))) σ H (.int (if j < i then j else i)) := fun H1 e Q q =>
  ha H1 e _ fun H2 e2 => hb H2 (e.trans e2) _ fun H3 e3 => ⟨i, j, rfl, q H3 (e2.trans e3)⟩
end
section
variable {X : Cx}
theorem cz_min2 (h : X.calm = true) : CallR X (.builtin "min") rMin2 := call_min2 h
end
/-! ### numbers' texts are short -/
theorem strI_len {i : Int} (h0 : 0 ≤ i) (h : i < 10 ^ 7) : (PySem.Str.ofString (toString i)).length ≤ 7 := by
  obtain ⟨n, rfl⟩ := Int.eq_ofNat_of_zero_le h0
  rw [len_tl, tl_num]
  exact numL_len (by decide) (by omega)
end Z
set_option maxHeartbeats 4000000
namespace Z
open PySem PySem.Spec PyProof.Rows L2 TL Evl
/-! ### short texts -/
def EvS (te : TE) (σ : L2.St) (H : Hp) (n : Nat) : Prop := ∃ t : Str, t.length ≤ n ∧ Ev te σ H (.str t)
def EvAS (ta : TA) (σ : L2.St) (H : Hp) (n k : Nat) : Prop := ∃ ts : List Str, ts.length = k ∧ (∀ t ∈ ts, t.length ≤ n) ∧ EvA ta σ H (ts.map V.str)
section
variable {K : PySem.W.Frag} {σ : L2.St} {H H' : Hp} {ta tb te to ts : TE} {a b s : Str} {p : Addr} {xs : List V} {n m k : Nat} {tr : TA}  {ta' : TA} {i : Nat} {sp : Sp} {E : XK} {Q : VK} {x v : V} {D : Ends} {t tz tu : TS} {tt : TT} {dvs : List V}
theorem es_c : EvS (tC (.str a)) σ H a.length := ⟨a, Nat.le_refl _, ev_c⟩
theorem es_var (h : σ[i]? = some (some (.str a))) (hn : a.length ≤ n) : EvS (tVar i) σ H n := ⟨a, hn, ev_var h⟩
theorem es_add (h : EvS ta σ H n) (h2 : EvS tb σ H m) (hs : n + m ≤ 200000 := by decide +kernel) : EvS (tOp rAddS2 ta tb) σ H (n + m) := by
  obtain ⟨x, hx, ex⟩ := h
  obtain ⟨y, hy, ey⟩ := h2
  exact ⟨x ++ y, by rw [Str.length_append]; omega, ev_op ex ey (rv_addS (by omega))⟩
theorem eas_nil : EvAS tNil σ H n 0 := ⟨[], rfl, (fun _ h => by cases h), ea_nil⟩
theorem eas_cons (h : EvS te σ H m) (hm : m ≤ n) (hr : EvAS tr σ H n k) : EvAS (tCons te tr) σ H n (k + 1) := by
  obtain ⟨x, hx, ex⟩ := h
  obtain ⟨ts, h1, h2, h3⟩ := hr
  refine ⟨x :: ts, by rw [List.length_cons, h1], fun t ht => ?_, ea_cons ex h3⟩
  rcases List.mem_cons.mp ht with rfl | ht
  · exact Nat.le_trans hx hm
  · exact h2 t ht
theorem es_mono (h : EvS te σ H n) (hm : n ≤ m) : EvS te σ H m := by
  obtain ⟨x, hx, ex⟩ := h
  exact ⟨x, Nat.le_trans hx hm, ex⟩
theorem es_ex (h : EvS te σ H n) (e : Ex H H') : EvS te σ H' n := by
  obtain ⟨x, hx, ex⟩ := h
  exact ⟨x, hx, ex.mono e⟩
theorem es_strI {i : Int} (h : Ev te σ H (.int i)) (h0 : 0 ≤ i) (h1 : i < 10 ^ 7) : EvS (tCB rStrI (tCons te tNil)) σ H 7 :=
  ⟨_, strI_len h0 h1, ev_strI h (Nat.lt_of_lt_of_le (show i.natAbs < 2 ^ 24 by omega) (Nat.pow_le_pow_right (by decide) (by decide)))⟩
/-! ### readings, one after another -/
theorem rd_cons (h : Ev te σ H x) {Q : List V → Hp → Prop} (k : ∀ H1, Ex H H1 → tr σ H1 fun xs H2 => Q (x :: xs) H2) : tCons te tr σ H Q := h H (Ex.refl H) _ k
theorem rd_args (h : ta' σ H fun vs H1 => sp (vs ++ dvs) H1 Q E) : tCall sp dvs E ta' σ H Q := h
theorem rd_ev (h : Ev te σ H x) (k : ∀ H1, Ex H H1 → Q x H1) : te σ H Q := h H (Ex.refl H) _ k
theorem rd_evL (h : EvL te σ H xs) (k : ∀ p H1, H p = none → Ex H H1 → H1 p = some (.lst xs) → Q (.ref p) H1) : te σ H Q := h H (Ex.refl H) _ k
theorem rd_callN {vs : List V} {tk : TA} (h : EvA tk σ H vs) (hl : vs.length = n) (k : ∀ H1, Ex H H1 → sp vs H1 Q E) : tCallN 0 n sp (fun _ zs => zs) E tNil tk σ H Q := h H (Ex.refl H) _ fun H1 e => ⟨rfl, hl, k H1 e⟩
theorem q_tail (R : L2.St → Hp → Prop) (k : ∀ σ1 H1, R σ1 H1 → tz D σ1 H1) (h : (∀ σ1 H1, R σ1 H1 → tz D σ1 H1) → tSeq t tz D σ H) : tSeq t tz D σ H := h k
theorem g_name {R : L2.St → Hp → Prop} (h : R (σ.set i (some v)) H) : gName i v σ H R := h
theorem q_tailIf {tw : TS} (R : L2.St → Hp → Prop) (k : ∀ σ1 H1, R σ1 H1 → tz D σ1 H1) (h : (∀ σ1 H1, R σ1 H1 → tz D σ1 H1) → tSeq (tIfS tt tu tw) tz D σ H) : tSeq (tIfS tt tu tw) tz D σ H := h k
theorem el_listN (h : EvL te σ H xs) : EvL (tCB (rListS K) (tCons te tNil)) σ H xs := fun H1 e Q q =>
  h H1 e _ fun p H2 np e2 h2 => ⟨p, xs, rfl, .inl (sq_of h2), fun l hl => q l _ (fresh_back e2 hl) (e2.trans (Ex.new hl)) upd_same⟩
end
section
variable {K : PySem.W.Frag} {σ : L2.St} {H : Hp} {tb : TE} {ta : TA} {n k : Nat} {D : Ends} {i : Int}
/-- one of a list of short texts -/
theorem ev_pick (hev : EvAS ta σ H n k) (hk : k ≤ 1000) (hi : Ev tb σ H (.int i)) (h0 : 0 ≤ i) (h1 : i < (k : Int)) : EvS (tOp (rIxL K) (tLst ta) tb) σ H n := by
  obtain ⟨ts, hk2, hts, hev⟩ := hev
  obtain ⟨t, ht, htm⟩ := at_int (xs := ts.map V.str) (d := i) h0 (by rw [List.length_map, hk2]; exact h1)
  obtain ⟨x, hx, e⟩ := List.mem_map.mp htm
  subst e
  exact ⟨x, hts x hx, ev_opL1 (el_lst hev (by rw [List.length_map, hk2]; omega)) (fun H1 e => hi.mono e) (fun p H1 hp e => rv_ixL (sq_of hp) ht)⟩
theorem s_retS {te : TE} (h : EvS te σ H n) (q : ∀ x : Str, x.length ≤ n → ∀ H1, Ex H H1 → D.rt (.str x) H1) : tRet te D σ H := by
  obtain ⟨x, hx, ex⟩ := h
  exact s_ret ex (q x hx)
end
section
variable {K : PySem.W.Frag} {σ : L2.St} {H : Hp} {te : TE} {tr : TA} {D : Ends} {xs vs : List V}
/-- a list whose first thing is a new list -/
theorem s_retLL (h : EvL te σ H xs) (hr : ∀ H1, Ex H H1 → EvA tr σ H1 vs) (hz : vs.length + 1 ≤ 1000)
    (q : ∀ p l H1, H p = none → Ex H H1 → H1 l = some (.lst xs) → l ≠ p → H1 p = some (.lst (.ref l :: vs)) → D.rt (.ref p) H1) : tRet (tLst (tCons te tr)) D σ H :=
  h H (Ex.refl H) _ fun l H1 nl e1 h1 => (hr H1 e1) H1 (Ex.refl H1) _ fun H2 e2 => ⟨Nat.le_trans (show vs.length + 1 ≤ 1000 from hz) (by decide), fun p np =>
    q p l _ (fresh_back (e1.trans e2) np) ((e1.trans e2).trans (Ex.new np)) (by rw [upd_ne (ne_of_none (e2 _ _ h1) np)]; exact e2 _ _ h1) (ne_of_none (e2 _ _ h1) np) upd_same⟩
end
/-! ### a source of draws: a list whose first thing is the list l0 of cells -/
def SrcAt (H : Hp) (p l0 : Addr) (n : Nat) : Prop := ∃ (cs : List Int) (c1 c2 c3 sd : Int), H p = some (.lst [.ref l0, .int c1, .int c2, .int c3, .int sd]) ∧ H l0 = some (.lst (cs.map V.int)) ∧ l0 ≠ p ∧ cs.length ≤ 63 ∧ (∀ z ∈ cs, z.natAbs < 2 ^ cap) ∧ 0 ≤ c1 ∧ 0 ≤ c3 ∧ c3 ≤ (n : Int) ∧ 0 ≤ sd ∧ sd < 2147483629
section
variable {H H' : Hp} {p l0 l : Addr} {n m : Nat} {o : HO}
theorem SrcAt.ex (b : SrcAt H p l0 n) (e : Ex H H') : SrcAt H' p l0 n := by
  obtain ⟨cs, c1, c2, c3, sd, h, h2, r⟩ := b
  exact ⟨cs, c1, c2, c3, sd, e _ _ h, e _ _ h2, r⟩
theorem SrcAt.mono (b : SrcAt H p l0 n) (h : n ≤ m) : SrcAt H p l0 m := by
  obtain ⟨cs, c1, c2, c3, sd, h1, h2, h3, h4, h5, h6, h7, h8, r⟩ := b
  exact ⟨cs, c1, c2, c3, sd, h1, h2, h3, h4, h5, h6, h7, by omega, r⟩
theorem SrcAt.has (b : SrcAt H p l0 n) : ∃ xs, H p = some (.lst xs) := by
  obtain ⟨cs, c1, c2, c3, sd, h, r⟩ := b
  exact ⟨_, h⟩
theorem SrcAt.has0 (b : SrcAt H p l0 n) : ∃ xs, H l0 = some (.lst xs) := by
  obtain ⟨cs, c1, c2, c3, sd, h, h2, r⟩ := b
  exact ⟨_, h2⟩
theorem SrcAt.ne (b : SrcAt H p l0 n) (h : H l = none) : l ≠ p ∧ l ≠ l0 := by
  obtain ⟨xs, g⟩ := b.has
  obtain ⟨ys, g2⟩ := b.has0
  exact ⟨(fun e => by rw [e, g] at h; cases h), (fun e => by rw [e, g2] at h; cases h)⟩
theorem SrcAt.upd (b : SrcAt H p l0 n) (h : l ≠ p ∧ l ≠ l0) : SrcAt (upd H l o) p l0 n := by
  obtain ⟨cs, c1, c2, c3, sd, h1, h2, r⟩ := b
  exact ⟨cs, c1, c2, c3, sd, by rw [upd_ne (Ne.symm h.1)]; exact h1, by rw [upd_ne (Ne.symm h.2)]; exact h2, r⟩
theorem Keep.non (a : Keep p H H') {xs : List V} (b : H' p = some (.lst xs)) (h : H' l = none) : H l = none := by
  cases q : H l with
  | none => rfl
  | some o =>
    by_cases e : l = p
    · rw [e, b] at h
      cases h
    · rw [a l o e q] at h
      cases h
theorem Keep.freeS (a : Keep p H H') (b : SrcAt H' p l0 n) (h : H' l = none) : H l = none := by
  obtain ⟨xs, g⟩ := b.has
  exact a.non g h
/-- an object that was not there ahead may change -/
theorem Keep.mut (a : Keep p H H') (h : H l = none) : Keep p H (L2.upd H' l o) := fun b u hb hu => by
  rw [upd_ne (ne_of_none hu h)]
  exact a b u hb hu
theorem Keep.at (a : Keep p H H') (h : H l = some o) (hl : l ≠ p) : H' l = some o := a l o hl h
end
def spSource (K : PySem.W.Frag) : Sp := fun vs H Q _ => ∃ (a : Addr) (ns : List Int), vs = [.ref a] ∧ SqL K H a (ns.map V.int) ∧ ns.length ≤ 63 ∧ (∀ z ∈ ns, z.natAbs < 2 ^ cap) ∧ ∀ (p l0 : Addr) (H' : Hp), H p = none → Ex H H' → SrcAt H' p l0 0 → Q (.ref p) H'
def spMixed : Sp := fun vs H Q _ => ∃ c s lim : Int, vs = [.int c, .int s, .int lim] ∧ c.natAbs < 2 ^ cap ∧ 0 ≤ s ∧ s ≤ 1000000000 ∧ 1 ≤ lim ∧ lim ≤ 1000000 ∧ ∀ d : Int, 0 ≤ d → d < lim → RetV (.int d) H Q
def spSrc : Sp := fun vs H Q _ => ∃ (p l0 : Addr) (lim : Int) (n : Nat), vs = [.ref p, .int lim] ∧ SrcAt H p l0 n ∧ n ≤ 100000000 ∧ 1 ≤ lim ∧ lim ≤ 1000000 ∧ ∀ (d : Int) (H' : Hp), 0 ≤ d → d < lim → SrcAt H' p l0 (n + 1) → Keep p H H' → Q (.int d) H'
theorem cutV_all {xs : List V} (h : xs.length ≤ 63) : cutV xs none (some 63) = xs := by
  unfold cutV
  rw [HT.sIx_none, show HT.sIx xs.length xs.length (some 63) = min 63 xs.length from HT.sIx_nat _ _ 63, List.drop_zero, Nat.sub_zero, Nat.min_eq_right h]
  exact List.take_of_length_le (Nat.le_refl _)
theorem sq_le {x b : Int} (h0 : 0 ≤ x) (h : x ≤ b) : x * x ≤ b * b := Int.mul_le_mul h h h0 (by omega)
end Z
set_option maxHeartbeats 4000000
namespace Z
open PySem PySem.Spec PyProof.Rows L2 TL Evl
/-! ### a bag of draws: a list whose first thing is the list l0 of cells, three numbers -/
def DwAt (H : Hp) (p l0 : Addr) : Prop := ∃ (cs : List Int) (c1 c2 c3 : Int), H p = some (.lst [.ref l0, .int c1, .int c2, .int c3]) ∧ H l0 = some (.lst (cs.map V.int)) ∧ l0 ≠ p ∧ cs.length ≤ 63 ∧ (∀ z ∈ cs, z.natAbs < 2 ^ cap) ∧ 0 ≤ c1 ∧ 0 ≤ c3 ∧ c3 < 2147483647
section
variable {H H' : Hp} {p l0 l : Addr} {o : HO}
theorem DwAt.ex (b : DwAt H p l0) (e : Ex H H') : DwAt H' p l0 := by
  obtain ⟨cs, c1, c2, c3, h, h2, r⟩ := b
  exact ⟨cs, c1, c2, c3, e _ _ h, e _ _ h2, r⟩
theorem DwAt.has (b : DwAt H p l0) : ∃ xs, H p = some (.lst xs) := by
  obtain ⟨cs, c1, c2, c3, h, r⟩ := b
  exact ⟨_, h⟩
theorem DwAt.has0 (b : DwAt H p l0) : ∃ xs, H l0 = some (.lst xs) := by
  obtain ⟨cs, c1, c2, c3, h, h2, r⟩ := b
  exact ⟨_, h2⟩
theorem DwAt.ne (b : DwAt H p l0) (h : H l = none) : l ≠ p ∧ l ≠ l0 := by
  obtain ⟨xs, g⟩ := b.has
  obtain ⟨ys, g2⟩ := b.has0
  exact ⟨(fun e => by rw [e, g] at h; cases h), (fun e => by rw [e, g2] at h; cases h)⟩
theorem DwAt.upd (b : DwAt H p l0) (h : l ≠ p ∧ l ≠ l0) : DwAt (upd H l o) p l0 := by
  obtain ⟨cs, c1, c2, c3, h1, h2, r⟩ := b
  exact ⟨cs, c1, c2, c3, by rw [upd_ne (Ne.symm h.1)]; exact h1, by rw [upd_ne (Ne.symm h.2)]; exact h2, r⟩
theorem Keep.freeB (a : Keep p H H') (b : DwAt H' p l0) (h : H' l = none) : H l = none := by
  obtain ⟨xs, g⟩ := b.has
  exact a.non g h
end
def spBagS (K : PySem.W.Frag) : Sp := fun vs H Q _ => ∃ (a : Addr) (ns : List Int), vs = [.ref a] ∧ SqL K H a (ns.map V.int) ∧ ns.length ≤ 63 ∧ (∀ z ∈ ns, z.natAbs < 2 ^ cap) ∧ ∀ (p l0 : Addr) (H' : Hp), H p = none → Ex H H' → DwAt H' p l0 → Q (.ref p) H'
def spTake : Sp := fun vs H Q _ => ∃ (p l0 : Addr) (lim : Int), vs = [.ref p, .int lim] ∧ DwAt H p l0 ∧ 1 ≤ lim ∧ lim ≤ 1000000 ∧ ∀ (d : Int) (H' : Hp), 0 ≤ d → d < lim → DwAt H' p l0 → Keep p H H' → Q (.int d) H'
/-! ### texts of marks -/
def mkS : Str := "abcdefghijklmnopqrstuvwxyz0123456789-."
def markB (z : Str) : Bool := (decide ((1 : Int) ≤ z.length) && decide ((z.length : Int) ≤ 40)) && allIn z mkS
def plS : Str := (" !\"#$&'()*+,-./0123456789:;<=>?@ABCDEFGHIJKLMNOPQRSTUVWXYZ[\\]^_`" : Str) ++ ("abcdefghijklmnopqrstuvwxyz{|}~" : Str)
def wrZ (z : Str) (b : Bool) : Str := (cond b ("w" : Str) "" ++ ("\"" : Str)) ++ z ++ ("\"" : Str)
def one (c : Nat) : Str := ⟨#[c]⟩
theorem one_len (c : Nat) : (one c).length = 1 := rfl
theorem tl_one (c : Nat) : tl (one c) = [c] := rfl
theorem markB_iff {z : Str} : markB z = true ↔ (1 ≤ z.length ∧ z.length ≤ 40) ∧ allIn z mkS = true := by
  unfold markB
  rw [Bool.and_eq_true, Bool.and_eq_true, decide_eq_true_eq, decide_eq_true_eq]
  constructor
  · rintro ⟨⟨h1, h2⟩, h3⟩
    exact ⟨⟨by omega, by omega⟩, h3⟩
  · rintro ⟨⟨h1, h2⟩, h3⟩
    exact ⟨⟨by omega, by omega⟩, h3⟩
theorem allIn_app (a b s : Str) : allIn (a ++ b) s = (allIn a s && allIn b s) := by
  unfold allIn
  rw [tl_append, List.all_append]
theorem allIn_sub {a b s : Str} (h : allIn b s = true) (hs : ∀ c ∈ tl a, c ∈ tl b) : allIn a s = true := by
  refine List.all_eq_true.mpr fun c hc => List.all_eq_true.mp h c (hs c hc)
theorem allIn_one {c : Nat} {s : Str} (h : c ∈ tl s) : allIn (one c) s = true := by
  refine List.all_eq_true.mpr fun d hd => ?_
  have : d = c := by
    have := List.mem_singleton.mp (show d ∈ [c] from hd)
    exact this
  rw [this]
  exact decide_eq_true h
theorem cut_mem {z : Str} {a b : Option Int} {c : Nat} (h : c ∈ tl (cutS z a b)) : c ∈ tl z := List.mem_of_mem_drop (List.mem_of_mem_take h)
theorem allIn_cut {z s : Str} (a b : Option Int) (h : allIn z s = true) : allIn (cutS z a b) s = true := allIn_sub h fun _ hc => cut_mem hc
/-- z[:i] + c + z[i + 1:] -/
theorem put_len {z : Str} {i : Nat} {c : Nat} (h : i < z.length) : (cutS z none (some (i : Int)) ++ one c ++ cutS z (some ((i : Int) + 1)) none).length = z.length := by
  have e : (i : Int) + 1 = ((i + 1 : Nat) : Int) := by omega
  rw [e, cutTo, cutFrom, Str.length_append, Str.length_append]
  have h1 : (preT z i).length = i := by
    show ((tl z).take i).toArray.size = i
    rw [List.size_toArray, List.length_take, len_tl']
    omega
  have h2 : (sufT z (i + 1)).length = z.length - (i + 1) := by
    show ((tl z).drop (i + 1)).toArray.size = _
    rw [List.size_toArray, List.length_drop, len_tl']
  rw [h1, h2, one_len]
  omega
theorem put_mark {z : Str} {i c : Nat} (h : markB z = true) (hi : i < z.length) (hc : c ∈ tl mkS) : markB (cutS z none (some (i : Int)) ++ one c ++ cutS z (some ((i : Int) + 1)) none) = true := by
  have h2 := markB_iff.mp h
  refine markB_iff.mpr ⟨by rw [put_len hi]; exact h2.1, ?_⟩
  rw [allIn_app, allIn_app, allIn_cut _ _ h2.2, allIn_cut _ _ h2.2, allIn_one hc]
  rfl
theorem wrZ_len (z : Str) (b : Bool) : (wrZ z b).length ≤ z.length + 3 := by
  unfold wrZ
  rw [Str.length_append, Str.length_append, Str.length_append]
  have h1 : (cond b ("w" : Str) "").length ≤ 1 := by cases b <;> decide +kernel
  have h2 : ("\"" : Str).length = 1 := by decide +kernel
  omega
theorem wrZ_pos (z : Str) (b : Bool) : 2 ≤ (wrZ z b).length := by
  unfold wrZ
  rw [Str.length_append, Str.length_append, Str.length_append]
  have h2 : ("\"" : Str).length = 1 := by decide +kernel
  omega
section
variable {K : PySem.W.Frag} {σ : L2.St} {H H' : Hp} {ta tb te to ts : TE} {a b s : Str} {n m k : Nat} {tlo thi : TO} {lo hi : Option Int} {i : Int}
theorem es_sl (h : EvS te σ H n) (h1 : EvO tlo σ H lo) (h2 : EvO thi σ H hi) (hz : n ≤ 100000) : EvS (tSl rSlS te tlo thi) σ H n := by
  obtain ⟨x, hx, ex⟩ := h
  exact ⟨cutS x lo hi, Nat.le_trans (cut_len x _ _) hx, ev_slS ex h1 h2 (by omega)⟩
theorem es_ev (h : Ev te σ H (.str a)) (hn : a.length ≤ n) : EvS te σ H n := ⟨a, hn, h⟩
def rUpper : V → List V → Hp → VK → Prop := fun x xs H Q => ∃ a, x = .str a ∧ xs = [] ∧ a.length ≤ 5592405 ∧ Q (.str (Txt.upper a)) H
end
end Z
namespace Z
open PySem PySem.Spec PyProof.Rows L2 TL Evl
section
variable {K : PySem.W.Frag} {σ : L2.St} {H : Hp} {ta tb tc : TE} {i j k : Int}
/-- a < b < c -/
theorem ev_chainL (ha : Ev ta σ H (.int i)) (hb : Ev tb σ H (.int j)) (hc : Ev tc σ H (.int k)) :
    Ev (tChain (rI0 fun i j => .bl (decide (i < j))) (rI0 fun i j => .bl (decide (i < j))) ta tb tc) σ H (.bl (decide (i < j) && decide (j < k))) := fun H1 e Q q =>
  ha H1 e _ fun H2 e2 => hb H2 (e.trans e2) _ fun H3 e3 => ⟨i, j, rfl, rfl, _, rfl, by
    cases h : decide (i < j) with
    | true =>
      refine iteT ?_
      refine hc H3 ((e.trans e2).trans e3) _ fun H4 e4 => ⟨j, k, rfl, rfl, ?_⟩
      have g := q H4 ((e2.trans e3).trans e4)
      rw [h] at g
      exact g
    | false =>
      refine iteF ?_
      have g := q H3 (e2.trans e3)
      rw [h] at g
      exact g⟩
end
end Z
set_option maxHeartbeats 4000000
namespace Z
open PySem PySem.Spec PyProof.Rows L2 TL Evl
/-! ### a written mark -/
def quo (z : Str) : Str := if decide (hd z = some 119) = true then rest z else z
def inn (q : Str) : Str := cutS q (some 1) (some (-1))
def qut (t : Str) : Str := ("\"" : Str) ++ t ++ ("\"" : Str)
def readZ (z : Str) : Option (Str × Bool) := if quo z = qut (inn (quo z)) ∧ markB (inn (quo z)) = true then some (inn (quo z), decide (hd z = some 119)) else none
theorem q34 : ("\"" : Str) = one 34 := by decide +kernel
theorem w119 : ("w" : Str) = one 119 := by decide +kernel
theorem inn_sub (q : Str) : tl (inn q) = ((tl q).drop (HT.sIx q.length 0 (some 1))).take (HT.sIx q.length q.length (some (-1)) - HT.sIx q.length 0 (some 1)) := rfl
theorem sx1 (n : Nat) : HT.sIx n 0 (some 1) = min 1 n := HT.sIx_nat n 0 1
theorem sxm (n : Nat) : HT.sIx n n (some (-1)) = n - 1 := by
  show (if (-1 : Int) < 0 then ((-1 : Int) + (n : Int)).toNat else min (-1 : Int).toNat n) = n - 1
  rw [if_pos (by decide)]
  omega
theorem inn_short {q : Str} (h : q.length < 3) : markB (inn q) = false := by
  cases e : markB (inn q) with
  | false => rfl
  | true =>
    have h1 := (markB_iff.mp e).1.1
    have h2 := congrArg List.length (inn_sub q)
    rw [len_tl', List.length_take, sx1, sxm] at h2
    omega
theorem split3 {l : List Nat} (h : 3 ≤ l.length) : ∃ a m b, l = a :: (m ++ [b]) := by
  cases l with
  | nil => cases h
  | cons a r =>
    have hr : r ≠ [] := by
      intro e
      rw [e, List.length_singleton] at h
      omega
    exact ⟨a, r.dropLast, r.getLast hr, by rw [List.dropLast_concat_getLast]⟩
theorem inn_mid {q : Str} {a b : Nat} {m : List Nat} (h : tl q = a :: (m ++ [b])) : tl (inn q) = m := by
  have hn : q.length = m.length + 2 := by
    rw [← len_tl', h, List.length_cons, List.length_append]
    rfl
  rw [inn_sub, sx1, sxm, h, Nat.min_eq_left (by omega)]
  show (m ++ [b]).take (q.length - 1 - 1) = m
  rw [show q.length - 1 - 1 = m.length by omega, List.take_left]
theorem qut_tl (t : Str) : tl (qut t) = 34 :: (tl t ++ [34]) := by
  unfold qut
  rw [q34, tl_append, tl_append, tl_one]
  rfl
theorem qut_iff {q : Str} {a b : Nat} {m : List Nat} (h : tl q = a :: (m ++ [b])) : q = qut (inn q) ↔ (a = 34 ∧ b = 34) := by
  have hm := inn_mid h
  constructor
  · intro e
    have e2 := congrArg tl e
    rw [h, qut_tl, hm] at e2
    injection e2 with e3 e4
    have e5 := List.append_cancel_left e4
    injection e5 with e6 _
    exact ⟨e3, e6⟩
  · rintro ⟨rfl, rfl⟩
    refine ext_tl ?_
    rw [qut_tl, hm, h]
theorem hd_q {q : Str} {a : Nat} {m : List Nat} (h : tl q = a :: m) : atI (tl q) 0 = some a := atI_nat (j := 0) (by rw [h]; rfl)
theorem last_q {q : Str} {a b : Nat} {m : List Nat} (h : tl q = a :: (m ++ [b])) : atI (tl q) (-1) = some b := by
  rw [h]
  exact atI_last (a :: m) b
theorem one34 (c : Nat) : decide (one c = ("\"" : Str)) = decide (c = 34) := by
  rw [q34]
  exact decide_eq_decide.mpr (one_eq c 34)
theorem quo_cut (z : Str) : cutS z (some (if decide (hd z = some 119) then 1 else 0)) none = quo z := by
  unfold quo
  cases h : decide (hd z = some 119) with
  | true =>
    rw [if_pos rfl, if_pos rfl]
    rfl
  | false =>
    rw [if_neg (by decide), if_neg (by decide)]
    have e : cutS z (some ((0 : Nat) : Int)) none = z := ext_tl (by rw [cutFrom_tl]; rfl)
    exact e
theorem quo_len (z : Str) : (quo z).length ≤ z.length := by
  unfold quo
  split
  · exact rest_len z
  · exact Nat.le_refl _
theorem inn_len (z : Str) : (inn z).length ≤ z.length := cut_len z _ _
theorem read_none {z : Str} (h : ¬ (quo z = qut (inn (quo z)) ∧ markB (inn (quo z)) = true)) : readZ z = none := if_neg h
theorem read_some {z : Str} (h : quo z = qut (inn (quo z)) ∧ markB (inn (quo z)) = true) : readZ z = some (inn (quo z), decide (hd z = some 119)) := if_pos h
theorem starts_w (z : Str) : Txt.startswith z "w" = decide (hd z = some 119) := by
  unfold Txt.startswith Builtin.Str.subAt
  rw [w119]
  show (decide (0 + 1 ≤ z.length) && (z.cps.extract 0 (0 + 1) == #[119])) = _
  have hx : (z.cps.extract 0 (0 + 1) == #[119]) = decide ((tl z).take 1 = [119]) := by
    have : (z.cps.extract 0 (0 + 1)).toList = (tl z).take 1 := by simp [tl]
    by_cases h : (tl z).take 1 = [119]
    · rw [decide_eq_true h]
      refine beq_iff_eq.mpr (Array.toList_inj.mp ?_)
      rw [this, h]
    · rw [decide_eq_false h]
      refine beq_eq_false_iff_ne.mpr fun e => h ?_
      rw [← this, e]
  rw [hx, len_tl]
  unfold hd
  cases e : tl z with
  | nil => rfl
  | cons a r =>
    have h1 : 0 + 1 ≤ (a :: r).length := by rw [List.length_cons]; omega
    rw [decide_eq_true h1, Bool.true_and]
    show decide ([a] = [119]) = decide (some a = some 119)
    by_cases h : a = 119
    · rw [h]; rfl
    · rw [decide_eq_false fun e => h (by cases e; rfl), decide_eq_false fun e => h (Option.some.inj e)]
/-- the written form of a good mark is read back -/
theorem read_wr {z : Str} {b : Bool} (h : markB z = true) : readZ (wrZ z b) = some (z, b) := by
  have ht : tl (wrZ z b) = (cond b [119] []) ++ (34 :: (tl z ++ [34])) := by
    unfold wrZ
    rw [q34, tl_append, tl_append, tl_append, tl_one]
    cases b with
    | true =>
      show ((tl ("w" : Str) ++ [34]) ++ tl z) ++ [34] = _
      rw [w119, tl_one]
      simp
    | false =>
      show ((tl ("" : Str) ++ [34]) ++ tl z) ++ [34] = _
      rw [tl_empty]
      simp
  have hw : decide (hd (wrZ z b) = some 119) = b := by
    unfold hd
    rw [ht]
    cases b <;> rfl
  have hq : tl (quo (wrZ z b)) = 34 :: (tl z ++ [34]) := by
    unfold quo
    rw [hw]
    cases b with
    | true =>
      rw [if_pos rfl]
      unfold rest
      rw [cutFrom1_tl, ht]
      rfl
    | false =>
      rw [if_neg (by decide), ht]
      rfl
  have hi : inn (quo (wrZ z b)) = z := ext_tl (inn_mid hq)
  have hc : quo (wrZ z b) = qut (inn (quo (wrZ z b))) ∧ markB (inn (quo (wrZ z b))) = true := ⟨(qut_iff hq).mpr ⟨rfl, rfl⟩, by rw [hi]; exact h⟩
  rw [read_some hc, hi, hw]
end Z
namespace Z
open PySem PySem.Spec PyProof.Rows L2 TL Evl
theorem ev_intB {b : Bool} {te : TE} {σ : L2.St} {H : Hp} (h : Ev te σ H (.bl b)) : Ev (tCB rInt1 (tCons te tNil)) σ H (.int (if b then 1 else 0)) := fun H1 e Q q => h H1 e _ fun H2 e2 => .inr ⟨b, rfl, q H2 e2⟩
end Z
set_option maxHeartbeats 2000000
namespace Z
open PySem PySem.Spec PyProof.Rows L2 TL
/-! ### defs with text.replace(y, z) -/
section
variable {P : Program} {w : World} {K : PySem.W.Frag} {mg : Str → Option Value} {base : Heap} {x : Str} {st : Stmt} {f : Addr} {fd : FuncData} {N ps : List Str} {k : Nat} {sp : Sp}
theorem mkT (F : FnP K x st f fd) (gm : mg x = some (.ref f))
    (hb : ∀ (kV doc pm : Value) (an : Option Addr) (cdv ct : Value) (us : List Value), us.length = ps.length → bindArgs (PySem.W.fnOf x x (L2.defArgs st) (L2.defBody st) (L2.defScope st) .none kV doc pm an cdv ct) ⟨us, []⟩ = pure (ps.zip us))
    (hk : ∀ (kV doc pm : Value) (an : Option Addr) (cdv ct : Value) (ws : List Value), ws.length = ps.length → bindArgs (PySem.W.fnOf x x (L2.defArgs st) (L2.defBody st) (L2.defScope st) .none kV doc pm an cdv ct) ⟨[], ps.zip ws⟩ = pure (ps.zip ws))
    (S : FnScope N ps (L2.defScope st)) (hnc : ∀ y ∈ (L2.defScope st).names, y.2 ≠ .cell) (hps : 1 ≤ ps.length) (len : ∀ vs H Q E, sp vs H Q E → vs.length = ps.length)
    (hbody : ∀ (cdv : Value) (A : Around) (outer : List Env) (s : Shared) (H : Hp) (vs : List V) (Q : VK) (E : XK), Room k (A.deeper (envOfC x (L2.defScope st) s.heap.objs.size f cdv)) → sp vs H Q E →
      ∃ t, PSsT (cxOf CX0 P w K mg base N x (L2.defScope st) f cdv A outer s H E) (L2.defBody st) t ∧ t { nx := fun _ H' => Q .non H', rt := Q } (start N vs) H) : Call P w K mg base (k + 1) x ps sp := by
  refine ⟨f, fd, ?_, gm, F.kp, F.bindsN hb, kbn F hk⟩
  obtain ⟨oc, od, dflt, kwd, doc, mod, ann, code, tp, osl, isFd, lk, hcd, none_given, _⟩ := F.ex
  rw [isFd] at lk ⊢
  exact L2.fn_ofT lk hcd S hnc hps len fun A outer s H vs Q E hr h => hbody code A outer s H vs Q E hr h
end
section
variable {X : Cx} {k j : Nat} {x : Str} {ps : List Str} {sp : Sp} {p pos : Pos} {e : Expr} {es : List Expr} {t : TA}
theorem pet_f (c : Call X.prog X.w X.K X.mg X.base k x ps sp) (hr : Room j X.A) (hk : k ≤ j) (hg : Gl X x) (ha : PAT X (e :: es) t)
    (hdb : (x == ("__debug__" : Str)) = false := by decide) (he : starEach (e :: es) X.env = (false, eval e X.env) :: starEach es X.env := by rfl) (hpl : (backTo pos (starEach es X.env)).any (·.1) = false := by rfl) :
    PET X (.Call (.Name x p) (e :: es) [] pos) (tCall sp [] E0 t) := by
  obtain ⟨f, fd, F, hm, kp, b, _⟩ := c.ex
  intro pins s σ H Q h0 I h
  refine wpAny_Call_Name_kw (ld_glob I hg hm ?_ hdb)
  refine PySem.W.callWith_K (h₀ := X.base) I.ok.mod.kin kp (thn (ha pos pins s σ H _ h0 I h) fun us s1 ⟨vs, H1, I1, r, q⟩ => ⟨I1.kIn, ?_⟩) he hpl
  exact run_fn F (hr.mono hk) b .nil pass0 I1 r q
end
end Z
set_option maxHeartbeats 2000000
namespace Z
open PySem PySem.Spec PyProof.Rows L2 TL Evl
/-! ### text.replace(one character, "") -/
def splN (n : Nat) : List Nat → List Nat → List (List Nat)
  | acc, [] => [acc]
  | acc, c :: r => if c = n then acc :: splN n [] r else splN n (acc ++ [c]) r
theorem spl_splN (n : Nat) : ∀ (l acc : List Nat), spl [n] 0 acc l = splN n acc l
  | [], acc => spl_nil _ _ _
  | c :: r, acc => by
    have hp : pre [n] (c :: r) = decide (c = n) := by
      show ([c] == [n]) = decide (c = n)
      by_cases h : c = n
      · rw [h, decide_eq_true rfl]; exact beq_self_eq_true _
      · rw [decide_eq_false h]
        exact beq_eq_false_iff_ne.mpr fun e => h (by cases e; rfl)
    show spl [n] 0 acc (c :: r) = if c = n then acc :: splN n [] r else splN n (acc ++ [c]) r
    by_cases h : c = n
    · rw [spl_hit (by rw [hp, decide_eq_true h]), if_pos h]
      show acc :: spl [n] 0 [] r = _
      rw [spl_splN n r []]
    · rw [spl_miss (by rw [hp, decide_eq_false h]), if_neg h]
      exact spl_splN n r (acc ++ [c])
theorem splN_flat (n : Nat) : ∀ (l acc : List Nat), (splN n acc l).flatten = acc ++ l.filter fun c => !decide (c = n)
  | [], acc => by
    show [acc].flatten = acc ++ []
    rw [List.append_nil]
    exact List.append_nil acc
  | c :: r, acc => by
    show (if c = n then acc :: splN n [] r else splN n (acc ++ [c]) r).flatten = _
    by_cases h : c = n
    · rw [if_pos h, List.flatten_cons, splN_flat n r [], List.filter_cons, decide_eq_true h]
      rfl
    · rw [if_neg h, splN_flat n r (acc ++ [c]), List.filter_cons, decide_eq_false h, List.append_assoc]
      rfl
theorem glued_tl (ps : List Str) : tl (Builtin.Str.glued "" ps) = (ps.map tl).flatten := by
  have key : ∀ (ps : List Str) (acc : Array Nat), (ps.foldl (fun (acc : Array Nat) (p : Str) => acc ++ ("" : Str).cps ++ p.cps) acc).toList = acc.toList ++ (ps.map tl).flatten := by
    intro ps
    induction ps with
    | nil => intro acc; simp
    | cons p r ih =>
      intro acc
      rw [List.foldl_cons, ih]
      simp only [Array.toList_append, List.map_cons, List.flatten_cons, List.append_assoc]
      have : ("" : Str).cps.toList = [] := by decide +kernel
      rw [this]
      rfl
  unfold Builtin.Str.glued
  show (((ps.drop 1).foldl (fun acc p => acc ++ ("" : Str).cps ++ p.cps) (ps.headD Str.empty).cps)).toList = _
  rw [key]
  cases ps with
  | nil => rfl
  | cons p r => rfl
theorem replace_glued (x : Str) : Txt.replace x "\n" "" = Builtin.Str.glued "" (Txt.split x "\n") := by
  by_cases hx : x.length < 1
  · have e : x = Str.empty := by
      obtain ⟨a⟩ := x
      have h0 : a.size = 0 := by
        have : a.size < 1 := hx
        omega
      have : a = #[] := Array.eq_empty_of_size_eq_zero h0
      rw [this]
      rfl
    rw [e]
    decide +kernel
  · unfold Txt.replace Txt.split
    have h1 : ("\n" : Str).length = 1 := by decide +kernel
    have hk : ¬ Builtin.Str.strKind x < Builtin.Str.strKind ("\n" : Str) := kind_ok (by decide +kernel)
    rw [h1, decide_eq_false hx, decide_eq_false hk]
    cases h : (Builtin.Str.occurrences x "\n" 0 x.length (x.length + 1)).isEmpty
    · rfl
    · rfl
theorem nl_tl : tl ("\n" : Str) = [10] := by decide +kernel
theorem replace_nl (z : Str) : tl (Txt.replace z "\n" "") = (tl z).filter fun c => !decide (c = 10) := by
  rw [replace_glued z, glued_tl, split_spl z "\n" (by rw [nl_tl]; simp) (kind_ok (by decide +kernel)), nl_tl, spl_splN, splN_flat]
  rfl
def linesB (z : Str) : Bool := (tl z).all fun c => decide (c = 10) || decide (c ∈ tl signs)
theorem lines_eq (z : Str) : allIn (Txt.replace z "\n" "") signs = linesB z := by
  unfold allIn linesB
  rw [replace_nl, Bool.eq_iff_iff, List.all_eq_true, List.all_eq_true]
  constructor
  · intro h c hc
    by_cases e : c = 10
    · rw [e]; rfl
    · rw [decide_eq_false e, Bool.false_or]
      exact h c (List.mem_filter.mpr ⟨hc, by rw [decide_eq_false e]; rfl⟩)
  · intro h c hc
    obtain ⟨h1, h2⟩ := List.mem_filter.mp hc
    have := h c h1
    rw [Bool.not_eq_true'] at h2
    rw [h2, Bool.false_or] at this
    exact this
end Z
set_option maxHeartbeats 2000000
namespace ZX
open PySem PySem.Spec PyProof.Rows L2
/-! ### C(e, ..) in an except suite; a statement that is never reached -/
theorem ps_never {X : Cx} {st : Stmt} : PS X st (fun _ _ _ => False) := ⟨fun pins s σ H D I h => h.elim⟩
section
variable {X : Cx} {CX : CXT} {k : Nat} {C f : Addr} {fd : FuncData} {ps : List Str} {sp : Sp} {E : XK} {e : Expr} {es : List Expr} {x : Str} {pos p : Pos} {t : TA} {dvs : List V} {ds : List Value}
theorem run_makeH {pins : List (Addr × Obj)} {σ : L2.St} {H : Hp} {s : Shared} {Q : VK} {us : List Value} {vs : List V} (M : Mk X.K C f) (F : L2H.FnH X.prog X.w X.K X.mg X.base CX k f fd ps sp) (hr : L2H.RoomH (k + 1) X.A) (hc : L2H.HotC X) (hb : Binds X.K fd ps ds) (hd : Vals dvs ds)
    (hx : Passes CX X E) (I : Inv X pins σ H s) (r : Vals vs us)
    (h : ∀ x dx, H x = none → H dx = none → dx ≠ x → sp (.ref x :: (vs ++ dvs)) (upd (upd H dx (.own x)) x (.ins C dx [])) (fun v H2 => v = .non ∧ Q (.ref x) H2) E) :
    wpAny (model X.prog X.w) X.A (call (.ref C) us) (EP X pins σ Q) X.xe s := by
  have hq := h (s.heap.objs.size + 1) s.heap.objs.size (I.hok.fresh (Nat.le_succ _)) (I.hok.fresh (Nat.le_refl _)) (Nat.ne_of_lt (Nat.lt_succ_self _))
  have I2 := Inv.made (C := C) I
  obtain ⟨pn, hot, hp⟩ := hc
  have P1 := I2.pin pn (List.mem_append_left _ hp)
  have r2 : Vals (V.ref (s.heap.objs.size + 1) :: (vs ++ dvs)) (Value.ref (s.heap.objs.size + 1) :: (us ++ ds)) := .cons rfl (r.append hd)
  have hl : (Value.ref (s.heap.objs.size + 1) :: us ++ ds).length = ps.length := by
    have e := r2.length
    rw [F.len _ _ _ _ hq] at e
    exact e.symm
  refine wpAny_call (make_map (f := f) I.kIn M.makes M.init (beq_iff_eq.mp M.fn) (codeAny_mono (F.run _ X.stack _ _ ⟨Value.ref (s.heap.objs.size + 1) :: us, []⟩ (Value.ref (s.heap.objs.size + 1) :: (us ++ ds)) _ _ E pn
    ⟨by have := hr.dp; rw [make_depth]; omega, by have := hr.un; rw [make_units]; omega⟩ hot ⟨P1.1, P1.2.1, fun hm => (List.mem_cons.mp (I2.stkSub pn.1 hm)).elim P1.2.2.1 P1.2.2.2.1, P1.2.2.2.2⟩
    (I2.env0.make C us []) (hb _ (Value.ref (s.heap.objs.size + 1) :: us) I2.kIn hl) r2 hq) fun r s' hq' => ?_))
  cases r with
  | error e => exact hx pins σ _ _ e s' I2 hq'
  | ok fl =>
    cases fl with
    | ret u =>
      obtain ⟨v, H', I3, rv, ev, q3⟩ := I2.after hq'
      subst ev
      exact ⟨rv, ⟨V.ref (s.heap.objs.size + 1), H', I3, rfl, q3⟩⟩
    | next => exact False.elim hq'
    | brk => exact False.elim hq'
    | cont => exact False.elim hq'
theorem pe_makeH (M : Mk X.K C f) (F : L2H.FnH X.prog X.w X.K X.mg X.base CX k f fd ps sp) (hr : L2H.RoomH (k + 1) X.A) (hc : L2H.HotC X) (hg : Gl X x) (hm : X.mg x = some (.ref C)) (hb : Binds X.K fd ps ds) (hd : Vals dvs ds) (hx : Passes CX X E)
    (ha : PA X (e :: es) t) (hdb : (x == ("__debug__" : Str)) = false := by decide) (he : starEach (e :: es) X.env = (false, eval e X.env) :: starEach es X.env := by rfl) (hpl : (backTo pos (starEach es X.env)).any (·.1) = false := by rfl) :
    PE X (.Call (.Name x p) (e :: es) [] pos) (tMake C sp dvs E t) := by
  refine ⟨fun pins s σ H Q I h => ?_⟩
  refine wpAny_Call_Name_kw (ld_glob I hg hm ?_ hdb)
  refine PySem.W.callWith_K (h₀ := X.base) I.ok.mod.kin M.kp (thn (ha.run pos pins s σ H _ I h) fun us s1 ⟨vs, H1, I1, r, q⟩ => ⟨I1.kIn, ?_⟩) he hpl
  exact run_makeH M F hr hc hb hd hx I1 r q
end
end ZX
set_option maxHeartbeats 2000000
namespace Z
open PySem PySem.Spec PyProof.Rows L2 TL Evl PySem.Builtin.Str
/-! ### stripped texts -/
theorem getD_tl {z : Str} {k : Nat} (hk : k < z.length) : (tl z)[k]? = some (z.cps.getD k 0) := by
  have hl : k < (tl z).length := by rw [len_tl']; exact hk
  rw [List.getElem?_eq_getElem hl, ← getD_list, List.getD_eq_getElem?_getD]
  show some (z.cps.toList[k]'hl) = some (z.cps.toList[k]?.getD 0)
  rw [List.getElem?_eq_getElem hl]
  rfl
theorem strip_self {w s : Str} (h0 : ∀ c, (tl w)[0]? = some c → c ∉ tl s) (h1 : ∀ c, (tl w)[w.length - 1]? = some c → c ∉ tl s) : Txt.stripChars w s = w := by
  have e0 : Txt.stripChars w s = strSub w (stripLo s.cps.contains true w) (stripHi s.cps.contains true w (stripLo s.cps.contains true w)) := stripBy_eq _ _ _ _
  obtain ⟨l1, l2, l3⟩ := lo_facts s.cps.contains w
  obtain ⟨a1, a2, a3, a4⟩ := hi_facts s.cps.contains w _ l1
  generalize hlo : stripLo s.cps.contains true w = lo at *
  generalize hhi : stripHi s.cps.contains true w lo = hi at *
  have hlen : (tl w).length = w.length := len_tl' w
  have no : ∀ k, k < w.length → s.cps.contains (w.cps.getD k 0) = true → ¬ (w.cps.getD k 0 ∉ tl s) := fun k hk h h2 => by
    rw [contains_mem] at h
    exact h2 (of_decide_eq_true h)
  have z1 : lo = 0 := by
    by_cases h : lo = 0
    · exact h
    · exact absurd (h0 _ (getD_tl (by omega))) (no 0 (by omega) (l2 0 (by omega)))
  have z2 : hi = w.length := by
    by_cases h : hi = w.length
    · exact h
    · exact absurd (h1 _ (getD_tl (by omega))) (no (w.length - 1) (by omega) (a3 (w.length - 1) (by omega) (by omega)))
  refine ext_tl ?_
  rw [e0, tl_strSub, z1, z2, List.drop_zero, Nat.sub_zero, ← hlen, List.take_length]
theorem strip_ends (z s : Str) : (∀ c, (tl (Txt.stripChars z s))[0]? = some c → c ∉ tl s) ∧ ∀ c, (tl (Txt.stripChars z s))[(Txt.stripChars z s).length - 1]? = some c → c ∉ tl s := by
  have e0 : Txt.stripChars z s = strSub z (stripLo s.cps.contains true z) (stripHi s.cps.contains true z (stripLo s.cps.contains true z)) := stripBy_eq _ _ _ _
  obtain ⟨l1, l2, l3⟩ := lo_facts s.cps.contains z
  obtain ⟨h1, h2, h3, h4⟩ := hi_facts s.cps.contains z _ l1
  generalize hlo : stripLo s.cps.contains true z = lo at *
  generalize hhi : stripHi s.cps.contains true z lo = hi at *
  have hlen : (tl z).length = z.length := len_tl' z
  have e1 : tl (Txt.stripChars z s) = ((tl z).drop lo).take (hi - lo) := by rw [e0]; exact tl_strSub _ _ _
  have el : (Txt.stripChars z s).length = hi - lo := by
    rw [← len_tl', e1, List.length_take, List.length_drop, hlen]
    omega
  have gt : ∀ k c, k < hi - lo → (tl (Txt.stripChars z s))[k]? = some c → c = z.cps.getD (lo + k) 0 := fun k c hk h => by
    rw [e1, List.getElem?_take, if_pos hk, List.getElem?_drop, getD_tl (by omega)] at h
    exact (Option.some.inj h).symm
  constructor
  · intro c hc
    have hk : 0 < hi - lo := by
      have := (List.getElem?_eq_some_iff.mp hc).1
      rw [len_tl', el] at this
      exact this
    have := gt 0 c hk hc
    rw [Nat.add_zero] at this
    rcases l3 with h | h
    · omega
    · intro hm
      rw [this] at hm
      rw [contains_mem, decide_eq_true hm] at h
      cases h
  · intro c hc
    rw [el] at hc
    have hk : 0 < hi - lo := by
      have := (List.getElem?_eq_some_iff.mp hc).1
      rw [len_tl', el] at this
      omega
    have := gt (hi - lo - 1) c (by omega) hc
    rw [show lo + (hi - lo - 1) = hi - 1 by omega] at this
    rcases h4 with h | h
    · omega
    · intro hm
      rw [this] at hm
      rw [contains_mem, decide_eq_true hm] at h
      cases h
theorem strip_idem (z s : Str) : Txt.stripChars (Txt.stripChars z s) s = Txt.stripChars z s := strip_self (strip_ends z s).1 (strip_ends z s).2
end Z
set_option maxHeartbeats 4000000
namespace Z
open PySem PySem.Spec PyProof.Rows L2 TL Evl
/-! ### whole numbers or None -/
def oI : Option Int → V
  | none => .non
  | some i => .int i
theorem oI_non {o : Option Int} : decide (oI o = .non) = o.isNone := by
  cases o with
  | none => rfl
  | some i => exact decide_eq_false fun h => nomatch h
def numO (z : Str) : Option Int := if digB z = true then some ((NumText.digitsVal (tl z) : Nat) : Int) else none
theorem numV_oI (z : Str) : numV z = oI (numO z) := by
  unfold numV numO
  cases h : digB z with
  | true => rfl
  | false => rfl
theorem neg_tl (n : Nat) : tl (PySem.Str.ofString (toString (Int.negSucc n))) = 45 :: numL (n + 1) := by
  have e : toString (Int.negSucc n) = "-" ++ toString (n + 1) := rfl
  rw [e, PySem.Str.ofString_eq_toList]
  show (String.toList ("-" ++ toString (n + 1))).map Char.toNat = _
  rw [String.toList_append, List.map_append]
  have h2 := tl_num (n + 1)
  rw [PySem.Str.ofString_eq_toList] at h2
  have h2 : (String.toList (toString (n + 1))).map Char.toNat = numL (n + 1) := h2
  rw [h2]
  rfl
theorem num_head : ∀ n : Nat, 1 ≤ n → ∃ c r, numL n = c :: r ∧ c ≠ 48 := by
  intro n
  induction n using Nat.strongRecOn with
  | _ n ih =>
    intro h
    by_cases h1 : n < 10
    · exact ⟨48 + n, [], numL_lt h1, by omega⟩
    · obtain ⟨c, r, h2, h3⟩ := ih (n / 10) (by omega) (by omega)
      exact ⟨c, r ++ [48 + n % 10], by rw [numL_step (by omega), h2]; rfl, h3⟩
theorem dig_mem {c : Nat} (h1 : 48 ≤ c) (h2 : c ≤ 57) : c ∈ tl ("0123456789" : Str) := by
  have k : ∀ i < 10, 48 + i ∈ tl ("0123456789" : Str) := by decide +kernel
  have := k (c - 48) (by omega)
  rwa [show 48 + (c - 48) = c by omega] at this
theorem num_dig {n : Nat} (h : n < 10 ^ 6) {z : Str} (hz : tl z = numL n) : digB z = true := by
  have hl : z.length ≤ 6 := by rw [len_tl, hz]; exact numL_len (by decide) h
  have hp : 1 ≤ z.length := by rw [len_tl, hz]; exact List.length_pos_iff.mpr (numL_ne n)
  unfold digB
  rw [decide_eq_true (by omega), decide_eq_true (by omega), Bool.true_and, Bool.true_and, Bool.and_eq_true]
  refine ⟨List.all_eq_true.mpr fun c hc => decide_eq_true ?_, ?_⟩
  · rw [hz] at hc
    have := numL_digits n c hc
    exact dig_mem this.1 this.2
  · rw [Bool.or_eq_true, decide_eq_true_eq, Bool.not_eq_true', decide_eq_false_iff_not]
    by_cases h1 : n < 10
    · left
      rw [len_tl, hz, numL_lt h1]
      rfl
    · right
      obtain ⟨c, r, h2, h3⟩ := num_head n (by omega)
      unfold hd
      rw [hz, h2]
      intro e
      exact h3 (Option.some.inj e)

theorem numO_num {i : Int} (h0 : 0 ≤ i) (h1 : i ≤ 999999) : numO (PySem.Str.ofString (toString i)) = some i := by
  cases i with
  | negSucc n => exact absurd h0 (by omega)
  | ofNat n =>
    have h1 : (n : Int) ≤ 999999 := h1
    have hz : tl (PySem.Str.ofString (toString (Int.ofNat n))) = numL n := tl_num n
    unfold numO
    rw [if_pos (num_dig (by omega) hz), hz, numL_val]
    rfl
theorem num_len {i : Int} (h0 : 0 ≤ i) (h1 : i ≤ 999999) : 1 ≤ (PySem.Str.ofString (toString i)).length ∧ (PySem.Str.ofString (toString i)).length ≤ 6 := by
  cases i with
  | negSucc n => exact absurd h0 (by omega)
  | ofNat n =>
    have h1 : (n : Int) ≤ 999999 := h1
    have hz : tl (PySem.Str.ofString (toString (Int.ofNat n))) = numL n := tl_num n
    rw [len_tl, hz]
    exact ⟨List.length_pos_iff.mpr (numL_ne n), numL_len (by decide) (by omega)⟩
theorem num_digs {i : Int} (h0 : 0 ≤ i) (h1 : i ≤ 999999) : ∀ c ∈ tl (PySem.Str.ofString (toString i)), 48 ≤ c ∧ c ≤ 57 := by
  cases i with
  | negSucc n => exact absurd h0 (by omega)
  | ofNat n =>
    have hz : tl (PySem.Str.ofString (toString (Int.ofNat n))) = numL n := tl_num n
    rw [hz]
    exact numL_digits n
/-! ### the least of numbers -/
def minL : List Int → Option Int
  | [] => none
  | x :: r => match minL r with
    | none => some x
    | some y => some (if y < x then y else x)
theorem minL_some : ∀ {ns : List Int} {m : Int}, m ∈ ns → (∀ y ∈ ns, m ≤ y) → minL ns = some m
  | [], _, h, _ => nomatch h
  | x :: r, m, h, hm => by
    unfold minL
    rcases List.mem_cons.mp h with rfl | h
    · cases e : minL r with
      | none => rfl
      | some y =>
        have hy : y ∈ r := by
          clear hm h
          induction r generalizing y with
          | nil => cases e
          | cons z t ih =>
            unfold minL at e
            cases e2 : minL t with
            | none =>
              rw [e2] at e
              cases e
              exact List.mem_cons_self
            | some w =>
              rw [e2] at e
              have e := Option.some.inj e
              by_cases hw : w < z
              · rw [if_pos hw] at e
                rw [← e]
                exact List.mem_cons_of_mem _ (ih w e2)
              · rw [if_neg hw] at e
                rw [← e]
                exact List.mem_cons_self
        have := hm y (List.mem_cons_of_mem _ hy)
        show some (if y < m then y else m) = some m
        rw [if_neg (by omega)]
    · rw [minL_some h fun y hy => hm y (List.mem_cons_of_mem _ hy)]
      have := hm x List.mem_cons_self
      show some (if m < x then m else x) = some m
      by_cases e : m < x
      · rw [if_pos e]
      · rw [if_neg e, show x = m by omega]
theorem minL_none {ns : List Int} (h : ns = []) : minL ns = none := by rw [h]; rfl
/-! ### directives of elements -/
def sgn (nm : Str) : Str := nm ++ "="
def dirs (nm : Str) (ps : List Str) : List (Option Int) := (ps.filter fun p => Txt.startswith p (sgn nm)).map fun p => numO (Txt.removeprefix p (sgn nm))
def nums (nm : Str) (ps : List Str) : List Int := (dirs nm ps).filterMap id
def leastO (nm : Str) (ps : List Str) : Option Int := minL (nums nm ps)
def noNum (nm p : Str) : Bool := Txt.startswith p (sgn nm) && (numO (Txt.removeprefix p (sgn nm))).isNone
def lifeO (nm : Str) (ps : List Str) : Option Int := if (decide (nm ∈ ps) || ps.any (noNum nm)) = true then some 0 else leastO nm ps
theorem dirs_app (nm : Str) (a b : List Str) : dirs nm (a ++ b) = dirs nm a ++ dirs nm b := by
  unfold dirs
  rw [List.filter_append, List.map_append]
theorem nums_app (nm : Str) (a b : List Str) : nums nm (a ++ b) = nums nm a ++ nums nm b := by
  unfold nums
  rw [dirs_app, List.filterMap_append]
theorem keep_ints (os : List (Option Int)) : (os.filter fun o => !decide (oI o = .non)).map oI = (os.filterMap id).map V.int := by
  induction os with
  | nil => rfl
  | cons o r ih =>
    rw [List.filter_cons, List.filterMap_cons]
    cases o with
    | none => exact ih
    | some i =>
      show (some i :: r.filter _).map oI = _
      rw [List.map_cons, ih]
      rfl
theorem at_oI {xs : List (Option Int)} {i : Nat} {x : V} (h : (xs.map oI)[i]? = some x) : i < xs.length ∧ x = oI (xs.getD i none) := by
  rw [List.getElem?_map] at h
  cases e : xs[i]? with
  | none => rw [e] at h; cases h
  | some a =>
    rw [e] at h
    cases h
    have : xs.getD i none = a := by rw [List.getD_eq_getElem?_getD, e]; rfl
    exact ⟨(List.getElem?_eq_some_iff.mp e).1, by rw [this]⟩
theorem inV_strs (z : Str) : ∀ ns : List Str, inV (.str z) (ns.map V.str) = decide (z ∈ ns)
  | [] => rfl
  | n :: r => by
    have ih := inV_strs z r
    unfold inV at ih ⊢
    rw [List.map_cons, List.any_cons, ih]
    by_cases h : z = n
    · subst h
      rw [decide_eq_true (List.mem_cons_self)]
      simp [eqV]
    · have e1 : eqV (.str n) (.str z) = false := by
        show (n == z) = false
        exact beq_eq_false_iff_ne.mpr fun e => h e.symm
      have e2 : decide (z ∈ n :: r) = decide (z ∈ r) := decide_eq_decide.mpr ⟨fun q => (List.mem_cons.mp q).resolve_left h, List.mem_cons_of_mem _⟩
      rw [e2]
      exact (Bool.or_eq_right_iff_imp.mpr fun q => absurd (e1 ▸ q) Bool.false_ne_true)
theorem flatS : ∀ ns : List Str, (ns.map V.str).all flatV = true
  | [] => rfl
  | _ :: r => by rw [List.map_cons, List.all_cons, flatS r]; rfl
end Z
set_option maxHeartbeats 4000000
namespace Z
open PySem PySem.Spec PyProof.Rows L2 TL Evl PySem.Builtin.Str
/-! ### what a text begins with -/
theorem starts_tl (p s : Str) : Txt.startswith p s = decide ((tl p).take (tl s).length = tl s) := by
  unfold Txt.startswith Builtin.Str.subAt
  have hx : (p.cps.extract 0 (0 + s.length) == s.cps) = decide ((tl p).take s.length = tl s) := by
    have e : (p.cps.extract 0 (0 + s.length)).toList = (tl p).take s.length := by simp [tl]
    by_cases h : (tl p).take s.length = tl s
    · rw [decide_eq_true h]
      exact beq_iff_eq.mpr (Array.toList_inj.mp (e.trans h))
    · rw [decide_eq_false h]
      exact beq_eq_false_iff_ne.mpr fun q => h (e.symm.trans (congrArg Array.toList q))
  rw [hx, ← len_tl s]
  by_cases h : (tl p).take s.length = tl s
  · have := congrArg List.length h
    rw [List.length_take, ← len_tl s, ← len_tl p] at this
    rw [decide_eq_true h, decide_eq_true (show 0 + s.length ≤ p.length by omega)]
    rfl
  · rw [decide_eq_false h, Bool.and_false]
theorem starts_own (a x : Str) : Txt.startswith (a ++ x) a = true := by
  rw [starts_tl, tl_append]
  exact decide_eq_true (List.take_left)
theorem rmp_own (a x : Str) : Txt.removeprefix (a ++ x) a = x := by
  have h := starts_own a x
  unfold Txt.startswith at h
  obtain ⟨h1, h2⟩ := Bool.and_eq_true_iff.mp h
  unfold Txt.removeprefix
  rw [if_pos h2]
  show (if ((a ++ x).length - a.length == (a ++ x).length) = true then (a ++ x) else strSub (a ++ x) a.length (a ++ x).length) = x
  have hl : (a ++ x).length = a.length + x.length := Str.length_append ..
  split
  · rename_i q
    have q := beq_iff_eq.mp q
    have h0 : a.length = 0 ∨ x.length = 0 := by omega
    refine ext_tl ?_
    rw [tl_append]
    have z : tl a = [] := by
      apply List.eq_nil_of_length_eq_zero
      rw [← len_tl]
      rw [hl] at q
      omega
    rw [z]
    rfl
  · refine ext_tl ?_
    rw [tl_strSub, tl_append, hl, len_tl a, List.drop_left, Nat.add_sub_cancel_left, len_tl x, List.take_length]
def apart : List Nat → List Nat → Bool
  | x :: a, y :: b => !decide (x = y) || apart a b
  | _, _ => false
theorem apart_no : ∀ {a b : List Nat} (c : List Nat), apart a b = true → ¬ (a ++ c).take b.length = b
  | [], _, _, h, _ => by cases h
  | _ :: _, [], _, h, _ => by cases h
  | x :: a, y :: b, c, h, e => by
    rw [List.cons_append, List.length_cons, List.take_succ_cons] at e
    obtain ⟨e1, e2⟩ := List.cons.inj e
    have h : (!decide (x = y) || apart a b) = true := h
    rw [decide_eq_true e1] at h
    exact apart_no c h e2
theorem starts_apart {a s : Str} (x : Str) (h : apart (tl a) (tl s) = true) : Txt.startswith (a ++ x) s = false := by
  rw [starts_tl, tl_append]
  exact decide_eq_false (apart_no _ h)
theorem nums_own {nm x : Str} {i : Int} (h : numO x = some i) : nums nm [sgn nm ++ x] = [i] := by
  unfold nums dirs
  rw [List.filter_cons, if_pos (starts_own _ _)]
  show (List.filterMap id [numO (Txt.removeprefix (sgn nm ++ x) (sgn nm))]) = _
  rw [rmp_own, h]
  rfl
theorem nums_apart {nm a : Str} (x : Str) (h : apart (tl a) (tl (sgn nm)) = true) : nums nm [a ++ x] = [] := by
  unfold nums dirs
  rw [List.filter_cons, if_neg (by rw [starts_apart x h]; decide)]
  rfl
/-! ### a list of elements, joined and cut -/
structure GoodE (p : Str) : Prop where
  hd : ∃ c, (tl p)[0]? = some c ∧ c ≠ 32
  last : ∀ c, (tl p)[p.length - 1]? = some c → c ≠ 32
  no : 44 ∉ tl p
theorem sp_tl : tl (" " : Str) = [32] := by decide +kernel
theorem cs_tl : tl (", " : Str) = [44, 32] := by decide +kernel
theorem GoodE.strip {p : Str} (h : GoodE p) : Txt.stripChars p " " = p := by
  obtain ⟨c, h1, h2⟩ := h.hd
  refine strip_self (fun d hd => ?_) (fun d hd => ?_)
  · rw [h1] at hd
    rw [sp_tl, ← Option.some.inj hd]
    simpa using h2
  · rw [sp_tl]
    simpa using h.last d hd
theorem GoodE.ne {p : Str} (h : GoodE p) : p ≠ "" := fun e => by
  obtain ⟨c, h1, _⟩ := h.hd
  rw [e] at h1
  have : tl ("" : Str) = [] := tl_empty
  rw [this] at h1
  cases h1
theorem GoodE.strip1 {p : Str} (h : GoodE p) : Txt.stripChars (S' (32 :: tl p)) " " = p := by
  obtain ⟨c, g1, g2⟩ := h.hd
  have hp : 1 ≤ p.length := by
    rw [len_tl]
    have := (List.getElem?_eq_some_iff.mp g1).1
    omega
  generalize hw : S' (32 :: tl p) = w
  have tw : tl w = 32 :: tl p := by rw [← hw]; rfl
  have lw : w.length = p.length + 1 := by rw [len_tl, tw, List.length_cons, ← len_tl]
  have e0 : Txt.stripChars w " " = strSub w (stripLo (" " : Str).cps.contains true w) (stripHi (" " : Str).cps.contains true w (stripLo (" " : Str).cps.contains true w)) := stripBy_eq _ _ _ _
  obtain ⟨l1, l2, l3⟩ := lo_facts (" " : Str).cps.contains w
  obtain ⟨a1, a2, a3, a4⟩ := hi_facts (" " : Str).cps.contains w _ l1
  generalize hlo : stripLo (" " : Str).cps.contains true w = lo at *
  generalize hhi : stripHi (" " : Str).cps.contains true w lo = hi at *
  have at' : ∀ k, k < w.length → (tl w)[k]? = some (w.cps.getD k 0) := fun k hk => getD_tl hk
  have ct : ∀ k, (" " : Str).cps.contains (w.cps.getD k 0) = decide (w.cps.getD k 0 = 32) := fun k => by
    rw [contains_mem, sp_tl]
    exact decide_eq_decide.mpr (by simp)
  have w0 : w.cps.getD 0 0 = 32 := by
    have := at' 0 (by omega)
    rw [tw] at this
    exact (Option.some.inj this).symm
  have w1 : w.cps.getD 1 0 = c := by
    have := at' 1 (by omega)
    rw [tw, List.getElem?_cons_succ, g1] at this
    exact (Option.some.inj this).symm
  have z1 : lo = 1 := by
    rcases Nat.lt_or_ge lo 1 with h0 | h0
    · have : lo = 0 := by omega
      rcases l3 with q | q
      · omega
      · rw [this, ct, w0] at q
        exact absurd q (by decide)
    · rcases Nat.lt_or_ge 1 lo with h1 | h1
      · have := l2 1 h1
        rw [ct, w1] at this
        exact absurd (of_decide_eq_true this) g2
      · omega
  have z2 : hi = w.length := by
    by_cases q : hi = w.length
    · exact q
    · have k := a3 (w.length - 1) (by omega) (by omega)
      rw [ct] at k
      have k2 := at' (w.length - 1) (by omega)
      rw [of_decide_eq_true k, tw, lw, show p.length + 1 - 1 = (p.length - 1) + 1 by omega, List.getElem?_cons_succ] at k2
      exact absurd rfl (h.last 32 k2)
  refine ext_tl ?_
  rw [e0, tl_strSub, z1, z2, tw, lw]
  show ((tl p).take (p.length + 1 - 1)) = tl p
  rw [Nat.add_sub_cancel, len_tl, List.take_length]
theorem glue_tl (sep : Str) : ∀ (r : List Str) (acc : Array Nat), (r.foldl (fun (acc : Array Nat) (p : Str) => acc ++ sep.cps ++ p.cps) acc).toList = acc.toList ++ r.flatMap fun q => tl sep ++ tl q
  | [], acc => by simp
  | p :: r, acc => by
    rw [List.foldl_cons, glue_tl sep r, List.flatMap_cons]
    simp [tl, List.append_assoc]
theorem join_tl (sep p : Str) (r : List Str) : tl (Txt.join sep (p :: r)) = tl p ++ r.flatMap fun q => tl sep ++ tl q := glue_tl sep r p.cps
theorem splC_app : ∀ (a acc l : List Nat), 44 ∉ a → splC acc (a ++ l) = splC (acc ++ a) l
  | [], acc, l, _ => by rw [List.append_nil]; rfl
  | c :: r, acc, l, h => by
    have hc : c ≠ 44 := fun e => h (by rw [e]; exact List.mem_cons_self)
    show (if c = 44 then acc :: splC [] (r ++ l) else splC (acc ++ [c]) (r ++ l)) = _
    rw [if_neg hc, splC_app r (acc ++ [c]) l fun q => h (List.mem_cons_of_mem _ q), List.append_assoc]
    rfl
theorem splC_joined : ∀ (r : List Str) (acc : List Nat), (∀ q ∈ r, 44 ∉ tl q) → splC acc (r.flatMap fun q => [44, 32] ++ tl q) = acc :: r.map fun q => 32 :: tl q
  | [], acc, _ => rfl
  | q :: r, acc, h => by
    rw [List.flatMap_cons, List.map_cons]
    show (if (44 : Nat) = 44 then acc :: splC [] (32 :: (tl q ++ r.flatMap fun q => [44, 32] ++ tl q)) else _) = _
    rw [if_pos rfl]
    have e := splC_app (32 :: tl q) [] (r.flatMap fun q => [44, 32] ++ tl q) fun z => by
      rcases List.mem_cons.mp z with z | z
      · cases z
      · exact h q List.mem_cons_self z
    rw [List.cons_append] at e
    rw [e, List.nil_append, splC_joined r _ fun x hx => h x (List.mem_cons_of_mem _ hx)]
theorem elems_join {ps : List Str} (h : ∀ p ∈ ps, GoodE p) : elems (Txt.join ", " ps) = ps := by
  cases ps with
  | nil => decide +kernel
  | cons p r =>
    unfold elems stripped
    rw [split_eq, join_tl, cs_tl]
    have hp := h p List.mem_cons_self
    rw [splC_app _ _ _ hp.no, List.nil_append, splC_joined r _ fun q hq => (h q (List.mem_cons_of_mem _ hq)).no]
    have e1 : (((tl p :: r.map fun q => 32 :: tl q).map S').map fun q => Txt.stripChars q " ") = p :: r := by
      rw [List.map_cons, List.map_cons, S'_tl, hp.strip, List.map_map, List.map_map]
      congr 1
      refine (List.map_congr_left fun q hq => ?_).trans (List.map_id r)
      exact (h q (List.mem_cons_of_mem _ hq)).strip1
    rw [e1]
    exact List.filter_eq_self.mpr fun q hq => by rw [decide_eq_false (h q hq).ne]; rfl
/-- texts of letters, digits, signs other than the space and the comma -/
theorem goodE_of {p : Str} (h1 : 1 ≤ p.length) (h : ∀ c ∈ tl p, c ≠ 32 ∧ c ≠ 44) : GoodE p := by
  rw [len_tl] at h1
  refine ⟨?_, fun c hc => (h c (List.mem_of_getElem? hc)).1, fun q => (h 44 q).2 rfl⟩
  cases e : tl p with
  | nil => rw [e] at h1; exact absurd h1 (by decide)
  | cons c r => exact ⟨c, rfl, (h c (by rw [e]; exact List.mem_cons_self)).1⟩
def goodB (p : Str) : Bool := decide (1 ≤ p.length) && (tl p).all fun c => !decide (c = 32) && !decide (c = 44)
theorem goodE_b {p : Str} (h : goodB p = true) : GoodE p := by
  unfold goodB at h
  rw [Bool.and_eq_true, decide_eq_true_eq, List.all_eq_true] at h
  exact goodE_of h.1 fun c hc => by
    have := h.2 c hc
    simp only [Bool.and_eq_true, Bool.not_eq_true', decide_eq_false_iff_not] at this
    exact this
theorem goodE_num {a : Str} {i : Int} (h : goodB a = true) (h0 : 0 ≤ i) (h1 : i ≤ 999999) : GoodE (a ++ PySem.Str.ofString (toString i)) := by
  unfold goodB at h
  rw [Bool.and_eq_true, decide_eq_true_eq, List.all_eq_true] at h
  refine goodE_of (by rw [Str.length_append]; omega) fun c hc => ?_
  rw [tl_append] at hc
  rcases List.mem_append.mp hc with hc | hc
  · have := h.2 c hc
    simp only [Bool.and_eq_true, Bool.not_eq_true', decide_eq_false_iff_not] at this
    exact this
  · have := num_digs h0 h1 c hc
    omega
end Z
set_option maxHeartbeats 4000000
namespace Z
open PySem PySem.Spec PyProof.Rows L2 TL Evl
section
variable {σ : L2.St} {H : Hp} {ta tr : TA} {te tb tv : TE} {D : Ends} {C : Addr} {sp : Sp} {dvs xs vs zs : List V} {E : XK} {Q : VK} {x y z v : V} {t tz : TS} {g : TG} {K : PySem.W.Frag} {f : Str} {i : Nat} {R : List V → Hp → Prop}
theorem q_in (h : t { D with nx := tz D } σ H) : tSeq t tz D σ H := h
theorem g_asg (h : te σ H fun v H1 => g v σ H1 D.nx) : tAsg te g D σ H := h
theorem g_ret (h : te σ H fun v H1 => D.rt v H1) : tRet te D σ H := h
theorem g_fld (h : tv σ H fun y H1 => sFld K tb (tC y) f D σ H1) : sFld K tb tv f D σ H := h
theorem g_drop (h : te σ H fun _ H1 => D.nx σ H1) : tDrop te D σ H := h
theorem q_asgR (h : te σ H fun v H1 => tz D (σ.set i (some v)) H1) : tSeq (tAsg te (gName i)) tz D σ H := h
theorem s_asgR (h : te σ H fun v H1 => D.nx (σ.set i (some v)) H1) : tAsg te (gName i) D σ H := h
theorem rd_mk (h : ta σ H fun vs H1 => ∀ x dx, H1 x = none → H1 dx = none → dx ≠ x → sp (.ref x :: (vs ++ dvs)) (upd (upd H1 dx (.own x)) x (.ins C dx [])) (fun v H2 => v = .non ∧ Q (.ref x) H2) E) : tMake C sp dvs E ta σ H Q := h
theorem rd_tup (h : ta σ H fun vs H1 => vs.length ≤ sizeLine ∧ ∀ p, H1 p = none → Q (.ref p) (upd H1 p (.tup vs))) : tTup ta σ H Q := h
theorem rd_lst (h : ta σ H fun vs H1 => vs.length ≤ sizeLine ∧ ∀ p, H1 p = none → Q (.ref p) (upd H1 p (.lst vs))) : tLst ta σ H Q := h
theorem rd_consE (h : Ev te σ H x) (k : ∀ H1, Ex H H1 → tr σ H1 fun ys H2 => R (x :: ys) H2) : tCons te tr σ H R := h H (Ex.refl H) _ k
theorem rd_consR (h : te σ H fun x H1 => tr σ H1 fun ys H2 => R (x :: ys) H2) : tCons te tr σ H R := h
theorem rd_consLs (h : EvL te σ H xs) (k : ∀ p H1, H p = none → Ex H H1 → H1 p = some (.lst xs) → tr σ H1 fun ys H2 => R (.ref p :: ys) H2) : tCons te tr σ H R := h H (Ex.refl H) _ k
theorem rd_nil (h : R [] H) : tNil σ H R := h
theorem rd_arg2 (h : te σ H fun x H1 => tb σ H1 fun y H2 => sp [x, y] H2 Q E) : tCall sp [] E (tCons te (tCons tb tNil)) σ H Q := h
/-- a + b of lists, one new, one new -/
theorem el_catLL (ha : EvL te σ H xs) (hb : EvL tb σ H zs) (hz : xs.length + zs.length ≤ 100000) : EvL (tOp rCat te tb) σ H (xs ++ zs) := fun H1 e Q q =>
  ha H1 e _ fun a H2 na e2 h2 => hb H2 (e.trans e2) _ fun b H3 nb e3 h3 => ⟨a, b, xs, zs, rfl, rfl, e3 _ _ h2, h3, sz_of hz, fun p np => q p _ (fresh_back (e2.trans e3) np) ((e2.trans e3).trans (Ex.new np)) upd_same⟩
theorem el_catEL {l : Addr} (ha : Ev te σ H (.ref l)) (hb : EvL tb σ H zs) (hl : H l = some (.lst xs)) (hz : xs.length + zs.length ≤ 100000) : EvL (tOp rCat te tb) σ H (xs ++ zs) := fun H1 e Q q =>
  ha H1 e _ fun H2 e2 => hb H2 (e.trans e2) _ fun b H3 nb e3 h3 => ⟨l, b, xs, zs, rfl, rfl, ((e.trans e2).trans e3) _ _ hl, h3, sz_of hz, fun p np => q p _ (fresh_back (e2.trans e3) np) ((e2.trans e3).trans (Ex.new np)) upd_same⟩
theorem el_slN {tlo thi : TO} {lo hi : Option Int} (h : EvL te σ H xs) (h1 : EvO tlo σ H lo) (h2 : EvO thi σ H hi) : EvL (tSl (rSlL K) te tlo thi) σ H (cutV xs lo hi) := fun H1 e Q q =>
  h H1 e _ fun a H2 na e2 ha => h1 H2 (e.trans e2) _ fun H3 e3 => h2 H3 ((e.trans e2).trans e3) _ fun H4 e4 => ⟨a, xs, rfl, sq_of ((e3.trans e4) _ _ ha), fun p np => q p _ (fresh_back ((e2.trans e3).trans e4) np) (((e2.trans e3).trans e4).trans (Ex.new np)) upd_same⟩
/-- sum(xs), xs new -/
theorem ev_sumN {ns : List Int} (h : EvL te σ H (ns.map V.int)) : Ev (tCB (rSum K) (tCons te tNil)) σ H (.int ns.sum) := fun H1 e Q q =>
  h H1 e _ fun a H2 na e2 ha => ⟨a, ns, rfl, sq_of ha, q H2 e2⟩
def EvX (te : TE) (σ : L2.St) (H : Hp) (P : V → Hp → Prop) : Prop := ∀ H1, Ex H H1 → ∀ Q : VK, (∀ v H2, Ex H1 H2 → P v H2 → Q v H2) → te σ H1 Q
end
def absI (i : Int) : Int := if i < 0 then -i else i
def rAbs : List V → Hp → VK → Prop := fun xs H Q => ∃ i, xs = [.int i] ∧ Q (.int (if i < 0 then -i else i)) H
theorem cz_abs {X : Cx} : CallR X (.builtin "abs") rAbs := call_abs
theorem ev_abs {te : TE} {σ : L2.St} {H : Hp} {i : Int} (h : Ev te σ H (.int i)) : Ev (tCB rAbs (tCons te tNil)) σ H (.int (absI i)) := fun H1 e Q q => h H1 e _ fun H2 e2 => ⟨i, rfl, q H2 e2⟩
theorem cutV_take {xs : List V} {n : Nat} : cutV xs none (some (n : Int)) = xs.take n := by
  unfold cutV
  rw [HT.sIx_none, List.drop_zero, Nat.sub_zero, HT.sIx_nat]
  rcases Nat.le_total n xs.length with h | h
  · rw [Nat.min_eq_left h]
  · rw [Nat.min_eq_right h, List.take_length, List.take_of_length_le h]
theorem at_intE {xs : List Int} {i : Nat} {x : V} (h : (xs.map V.int)[i]? = some x) : i < xs.length ∧ x = .int (xs.getD i 0) := by
  rw [List.getElem?_map] at h
  cases e : xs[i]? with
  | none => rw [e] at h; cases h
  | some a =>
    rw [e] at h
    cases h
    have : xs.getD i 0 = a := by rw [List.getD_eq_getElem?_getD, e]; rfl
    exact ⟨(List.getElem?_eq_some_iff.mp e).1, by rw [this]⟩
theorem rel_cons {α : Type} {R : V → α → Prop} {x : V} {o : α} {xs : List V} {os : List α} (r : R x o) (h : Rel R xs os) : Rel R (x :: xs) (o :: os) := ⟨by rw [List.length_cons, List.length_cons, h.1], fun i y u a b => by
  cases i with
  | zero =>
    cases a
    cases b
    exact r
  | succ i => exact h.2 i y u a b⟩
end Z
set_option maxHeartbeats 4000000
namespace Z
open PySem PySem.Spec PyProof.Rows L2 TL Evl
theorem putF_new {f : Str} {v : V} : ∀ {gs : List (Str × V)}, gs.lookup f = none → putF f v gs = gs ++ [(f, v)]
  | [], _ => rfl
  | (g, x) :: r, h => by
    have hg : ¬ g = f := fun e => by
      rw [e, List.lookup_cons, beq_self_eq_true] at h
      cases h
    have hr : r.lookup f = none := by
      rw [List.lookup_cons] at h
      have : (f == g) = false := beq_eq_false_iff_ne.mpr fun e => hg e.symm
      rw [this] at h
      exact h
    show (if g = f then (g, v) :: r else (g, x) :: putF f v r) = _
    rw [if_neg hg, putF_new hr]
    rfl
/-- an own object that is being made: what stood before stands, and J holds of the rest -/
structure OwnI (C a dx : Addr) (J : Hp → Prop) (gs : List (Str × V)) (H0 H : Hp) : Prop where
  kp : Keep a H0 H
  ha : H a = some (.ins C dx gs)
  j : J H
/-- J speaks of what making the object leaves alone -/
structure Stay (C a dx : Addr) (J : Hp → Prop) : Prop where
  ex : ∀ {H H' : Hp}, J H → Ex H H' → J H'
  up : ∀ {H : Hp} {gs gs' : List (Str × V)}, J H → H a = some (.ins C dx gs) → J (upd H a (.ins C dx gs'))
theorem OwnI.e {C a dx : Addr} {J : Hp → Prop} {gs : List (Str × V)} {H0 H H' : Hp} (S : Stay C a dx J) (h : OwnI C a dx J gs H0 H) (e : Ex H H') : OwnI C a dx J gs H0 H' := ⟨h.kp.trans (Keep.of e), e _ _ h.ha, S.ex h.j e⟩
theorem OwnI.put {C a dx : Addr} {J : Hp → Prop} {gs gs' : List (Str × V)} {H0 H : Hp} (S : Stay C a dx J) (h : OwnI C a dx J gs H0 H) : OwnI C a dx J gs' H0 (upd H a (.ins C dx gs')) := ⟨h.kp.upd, upd_same, S.up h.j h.ha⟩
section
variable {K : PySem.W.Frag} {C a dx : Addr} {J : Hp → Prop} {gs fs : List (Str × V)} {H0 H : Hp} {te tb : TE} {σ : L2.St} {v : V} {f : Str} {D : Ends} {tz : TS} {o : Option Int}
theorem q_fldS (S : Stay C a dx J) (I : OwnI C a dx J gs H0 H) (c : Cls K C) (n : NoAttr K C f) (hs : σ[0]? = some (some (.ref a))) (h : Ev te σ H v) (k : ∀ H', OwnI C a dx J (gs ++ [(f, v)]) H0 H' → tz D σ H') (hf : gs.lookup f = none := by rfl) (hl : gs.length < 1000 := by simp) : tSeq (sFld K (tVar 0) te f) tz D σ H :=
  h H (Ex.refl H) _ fun H1 e1 => ⟨.ref a, hs, a, C, dx, gs, rfl, (I.e S e1).ha, c, n, hl, k _ (by rw [putF_new hf]; exact (I.e S e1).put S)⟩
theorem s_fldS (S : Stay C a dx J) (I : OwnI C a dx J gs H0 H) (c : Cls K C) (n : NoAttr K C f) (hs : σ[0]? = some (some (.ref a))) (h : Ev te σ H v) (k : ∀ H', OwnI C a dx J (gs ++ [(f, v)]) H0 H' → D.nx σ H') (hf : gs.lookup f = none := by rfl) (hl : gs.length < 1000 := by simp) : sFld K (tVar 0) te f D σ H :=
  h H (Ex.refl H) _ fun H1 e1 => ⟨.ref a, hs, a, C, dx, gs, rfl, (I.e S e1).ha, c, n, hl, k _ (by rw [putF_new hf]; exact (I.e S e1).put S)⟩
theorem ev_fldO (c : Cls K C) (n : NoAttr K C f) (h : Ev te σ H (.ref a)) (ha : H a = some (.ins C dx fs)) (hl : fs.lookup f = some v) : Ev (tFld K te f) σ H v := fun H1 e Q q => h H1 e _ fun H2 e2 => ⟨a, C, dx, fs, v, rfl, e2 _ _ (e _ _ ha), c, n, hl, q H2 e2⟩
/-- x or 0, x an int or None -/
theorem ev_or0 (h : Ev te σ H (oI o)) : Ev (tOrT K te (tC (.int 0))) σ H (.int (o.getD 0)) := fun H1 e Q q => h H1 e _ fun H2 e2 => by
  cases o with
  | none => exact ⟨false, rfl, iteF (q H2 e2)⟩
  | some i =>
    by_cases hi : i = 0
    · subst hi
      exact ⟨false, rfl, iteF (q H2 e2)⟩
    · exact ⟨true, (bne_iff_ne.mpr hi).symm, iteT (q H2 e2)⟩
/-- max of several ints -/
def maxL : List Int → Int
  | [] => 0
  | [x] => x
  | x :: r => if maxL r > x then maxL r else x
theorem maxL_is : ∀ {ns : List Int} {m : Int}, m ∈ ns → (∀ y ∈ ns, y ≤ m) → maxL ns = m
  | [x], m, h, _ => (List.mem_singleton.mp h).symm
  | x :: y :: r, m, h, hm => by
    show (if maxL (y :: r) > x then maxL (y :: r) else x) = m
    have hx := hm x List.mem_cons_self
    rcases List.mem_cons.mp h with rfl | h
    · have h2 : maxL (y :: r) ≤ m := maxL_le fun z hz => hm z (List.mem_cons_of_mem _ hz)
      rw [if_neg (by omega)]
    · rw [maxL_is h fun z hz => hm z (List.mem_cons_of_mem _ hz)]
      by_cases e : m > x
      · rw [if_pos e]
      · rw [if_neg e]
        omega
where
  maxL_le : ∀ {ns : List Int} {x : Int} {m : Int}, (∀ z ∈ x :: ns, z ≤ m) → maxL (x :: ns) ≤ m
  | [], x, m, h => h x List.mem_cons_self
  | y :: r, x, m, h => by
    show (if maxL (y :: r) > x then maxL (y :: r) else x) ≤ m
    have h1 := h x List.mem_cons_self
    have h2 : maxL (y :: r) ≤ m := maxL_le fun z hz => h z (List.mem_cons_of_mem _ hz)
    by_cases e : maxL (y :: r) > x
    · rw [if_pos e]; exact h2
    · rw [if_neg e]; exact h1
theorem ev_maxs {ta : TA} {ns : List Int} (h : EvA ta σ H (ns.map V.int)) (h2 : 2 ≤ ns.length) (h3 : ns.length ≤ 1000) : Ev (tCB ZX.rMaxs ta) σ H (.int (maxL ns)) := fun H1 e Q q => h H1 e _ fun H2 e2 => ⟨ns, rfl, h2, h3, fun m a b => by
  have g := q H2 e2
  rw [maxL_is a b] at g
  exact g⟩
end
end Z
set_option maxHeartbeats 4000000
namespace ZX
open PySem PySem.Spec PyProof.Rows L2 He
/-! ### a def with keyword-only defaults, off the head -/
theorem DefA.funK {K : PySem.W.Frag} {d : DefA} {kws : List (Str × V)} (e : fnC K (d.at_.ad K) = d.val) (c : d.ok K = true) (hc : d.clo = []) (hk : kwdB K (kwOf K (d.at_.ad K)) kws = true) : ∃ fd, FunD K d.name d.qual d.params d.body d.scope (d.dvs K) kws (d.at_.ad K) fd := by
  obtain ⟨kp, oc, od, osl, fd, q, k1, k2, h1, h2, h3, h4, h5, h6, h7, h8⟩ := d.parts e c
  have hk2 : kwdB K fd.kwdefaults kws = true := by
    have : kwOf K (d.at_.ad K) = fd.kwdefaults := by unfold kwOf; rw [q]
    rw [← this]
    exact hk
  obtain ⟨n1, n2, n3, n4, n5, n6, n7, n8, n9, n10, n11, n12, n13, n14, n15⟩ := fd
  dsimp only at h1 h2 h3 h4 h5 h6 h7 h8 k1 k2 hk2
  rw [hc] at h7
  have h7 := List.map_eq_nil_iff.mp h7
  subst h1 h2 h3 h4 h5 h6 h7 h8
  exact ⟨_, ⟨oc, od, n8, n9, n10, n11, n12, n13, n14, osl, rfl, q, k1, k2, kwdB_ok hk2⟩, kp⟩
end ZX
set_option maxHeartbeats 4000000
namespace Z
open PySem PySem.Spec PyProof.Rows L2 TL Evl
/-! ### for k in range(e), e with what it does -/
def ForQ (tu tz : TS) (j : Nat) (D : Ends) (σ : L2.St) : VK := fun v H1 => ∃ i : Int, [v] = [V.int i] ∧ -(2 ^ 62) ≤ i ∧ i < 2 ^ 62 ∧ ∃ W : Nat → Nat → L2.St → Hp → Prop, (∃ m, W 0 m σ H1) ∧ ∀ k m σ H, W k m σ H →
  ((Itr 0 i.toNat).stop k H ∧ tz D σ H) ∨ ((Itr 0 i.toNat).go k H ∧ ∃ N : L2.St → Hp → Prop, (∀ σ' H', N σ' H' → ∃ m', m' < m ∧ W (k + 1) m' σ' H') ∧ ∀ x H', (Itr 0 i.toNat).yld k H x H' → gName j x σ H' fun σ2 H2 => tu { D with nx := N, ct := N, bk := tz D } σ2 H2)
theorem q_forQ {te : TE} {tu tz : TS} {j : Nat} {D : Ends} {σ : L2.St} {H : Hp} (h : te σ H (ForQ tu tz j D σ)) : tSeq (tFor (iRng1 (tCons te tNil)) (gName j) tu) tz D σ H := h
theorem forQ_of {tu tz : TS} {j : Nat} {D : Ends} {σ : L2.St} {H : Hp} {n : Int} (hn : 0 ≤ n ∧ n ≤ 100000) (Pv : Nat → L2.St → Hp → Prop) (h0 : Pv 0 σ H)
    (hs : ∀ (i : Nat) σ' H', (i : Int) < n → Pv i σ' H' → tu { D with nx := Pv (i + 1), ct := Pv (i + 1), bk := tz D } (σ'.set j (some (.int (i : Int)))) H') (hd : ∀ σ' H', Pv n.toNat σ' H' → tz D σ' H') : ForQ tu tz j D σ (.int n) H :=
  ⟨n, rfl, by omega, by omega, for_range (D := { D with nx := tz D }) (lo := 0) (n := n.toNat) Pv h0 (fun i σ' H' hi p => by
    have e0 : (0 : Int) + (i : Int) = (i : Int) := Int.zero_add _
    show tu { D with nx := Pv (i + 1), ct := Pv (i + 1), bk := tz D } (σ'.set j (some (.int ((0 : Int) + (i : Int))))) H'
    rw [e0]
    exact hs i σ' H' (by omega) p) hd⟩
/-! ### pieces of a directives' text -/
theorem opt_swap {a b : List Int} {o : Option Int} (h : a ++ b = o.toList) : b ++ a = o.toList := by
  cases o with
  | none =>
    have h : a ++ b = [] := h
    obtain ⟨rfl, rfl⟩ := List.append_eq_nil_iff.mp h
    rfl
  | some i =>
    have h : a ++ b = [i] := h
    cases a with
    | nil => rw [List.append_nil]; exact h
    | cons x r =>
      rw [List.cons_append] at h
      obtain ⟨rfl, h2⟩ := List.cons.inj h
      obtain ⟨rfl, rfl⟩ := List.append_eq_nil_iff.mp h2
      rfl
theorem nums_rot {nm : Str} {ps : List Str} {o : Option Int} (t : Nat) (h : nums nm ps = o.toList) : nums nm (ps.drop t ++ ps.take t) = o.toList := by
  rw [nums_app]
  refine opt_swap ?_
  rw [← nums_app, List.take_append_drop]
  exact h
theorem mem_rot {x : Str} {ps : List Str} (t : Nat) : (x ∈ ps.drop t ++ ps.take t) ↔ x ∈ ps := by
  rw [List.mem_append]
  constructor
  · rintro (h | h)
    · exact List.mem_of_mem_drop h
    · exact List.mem_of_mem_take h
  · intro h
    rw [← List.take_append_drop t ps, List.mem_append] at h
    exact h.symm
theorem minL_opt (o : Option Int) : minL o.toList = o := by cases o <;> rfl
theorem joined_len {ps : List Str} {k : Nat} (h : ∀ p ∈ ps, p.length ≤ k) : (Txt.join ", " ps).length ≤ ps.length * (k + 2) := by
  cases ps with
  | nil => exact Nat.zero_le _
  | cons p r =>
    rw [len_tl, join_tl, cs_tl, List.length_append, ← len_tl]
    have hp := h p List.mem_cons_self
    have hr : ∀ r : List Str, (∀ q ∈ r, q.length ≤ k) → (r.flatMap fun q => [44, 32] ++ tl q).length ≤ r.length * (k + 2) := by
      intro r
      induction r with
      | nil => intro _; exact Nat.zero_le _
      | cons q t ih =>
        intro hq
        rw [List.flatMap_cons, List.length_append, List.length_append, ← len_tl, show (q :: t).length * (k + 2) = t.length * (k + 2) + (k + 2) from Nat.succ_mul _ _]
        have h1 := hq q List.mem_cons_self
        have h2 := ih fun z hz => hq z (List.mem_cons_of_mem _ hz)
        show 2 + q.length + _ ≤ _
        omega
    have h3 := hr r fun q hq => h q (List.mem_cons_of_mem _ hq)
    rw [show (p :: r).length * (k + 2) = r.length * (k + 2) + (k + 2) from Nat.succ_mul _ _]
    omega
theorem cutV_drop {xs : List V} {n : Nat} : cutV xs (some (n : Int)) none = xs.drop n := by
  unfold cutV
  rw [HT.sIx_none, HT.sIx_nat]
  rcases Nat.le_total n xs.length with h | h
  · rw [Nat.min_eq_left h, List.take_of_length_le (by rw [List.length_drop]; exact Nat.le_refl _)]
  · rw [Nat.min_eq_right h, List.drop_eq_nil_of_le h, List.drop_length, List.take_nil]
theorem join_nil : Txt.join ", " [] = ("" : Str) := by decide +kernel
end Z
set_option maxHeartbeats 4000000
namespace Z
open PySem PySem.Spec PyProof.Rows L2 TL Evl NdefX
/-! ### f-strings, messages' fields (no row) -/
def EvJ (σ : L2.St) (H : Hp) : List TE → List Str → Prop
  | [], [] => True
  | t :: ts, z :: zs => Ev t σ H (.str z) ∧ EvJ σ H ts zs
  | _, _ => False
theorem ej_nil {σ : L2.St} {H : Hp} : EvJ σ H [] [] := trivial
theorem ej_cons {σ : L2.St} {H : Hp} {t : TE} {ts : List TE} {z : Str} {zs : List Str} (h : Ev t σ H (.str z)) (r : EvJ σ H ts zs) : EvJ σ H (t :: ts) (z :: zs) := ⟨h, r⟩
theorem tjs_run {σ : L2.St} {H : Hp} : ∀ (ts : List TE) (zs : List Str) (acc : Str) (H1 : Hp) (Q : Str → Hp → Prop), EvJ σ H ts zs → Ex H H1 → acc.length + (zs.map (·.length)).sum ≤ 200000 → (∀ H2, Ex H1 H2 → Q (zs.foldl (· ++ ·) acc) H2) → tJs ts acc σ H1 Q
  | [], [], acc, H1, Q, _, _, _, q => q H1 (Ex.refl H1)
  | [], z :: zs, acc, H1, Q, h, _, _, q => h.elim
  | t :: ts, [], acc, H1, Q, h, _, _, q => h.elim
  | t :: ts, z :: zs, acc, H1, Q, h, e, hz, q => by
    rw [List.map_cons, List.sum_cons] at hz
    refine h.1 H1 e _ fun H2 e2 => ⟨z, rfl, Nat.le_trans (show (acc ++ z).length ≤ 200000 by rw [Str.length_append]; omega) (by decide), ?_⟩
    exact tjs_run ts zs (acc ++ z) H2 Q h.2 (e.trans e2) (by rw [Str.length_append]; omega) fun H3 e3 => q H3 (e2.trans e3)
theorem ev_joined {σ : L2.St} {H : Hp} {ts : List TE} {zs : List Str} {x : Str} (h : EvJ σ H ts zs) (hz : (zs.map (·.length)).sum ≤ 200000) (hx : zs.foldl (· ++ ·) Str.empty = x) : Ev (fun σ H Q => tJs ts Str.empty σ H fun out H1 => Q (.str out) H1) σ H (.str x) := fun H1 e Q q => by
  refine tjs_run ts zs Str.empty H1 (fun out H1 => Q (.str out) H1) h e ?_ ?_
  · show 0 + _ ≤ _
    rw [Nat.zero_add]
    exact hz
  · rw [hx]
    exact q
theorem rd_joined {σ : L2.St} {H : Hp} {ts : List TE} {Q : Str → Hp → Prop} (zs : List Str) (h : EvJ σ H ts zs) (hz : (zs.map (·.length)).sum ≤ 200000) (k : ∀ H1, Ex H H1 → Q (zs.foldl (· ++ ·) Str.empty) H1) : tJs ts Str.empty σ H Q :=
  tjs_run ts zs Str.empty H Q h (Ex.refl H) (by
    show 0 + _ ≤ _
    rw [Nat.zero_add]
    exact hz) k
theorem ev_fmt {σ : L2.St} {H : Hp} {te : TE} {z : Str} (h : Ev te σ H (.str z)) (hz : z.length ≤ 100000) : Ev (tFmt te) σ H (.str z) := fun H1 e Q q => h H1 e _ fun H2 e2 => .inl ⟨z, rfl, sz_of hz, q H2 e2⟩
abbrev Fs := List (Str × Str)
def PfAt (H : Hp) (v : V) (x : Str × Str) : Prop := TupAt H v [.str x.1, .str x.2]
def FsAt (H : Hp) (q : Addr) (fs : Fs) : Prop := ∃ xs, H q = some (.lst xs) ∧ Rel (PfAt H) xs fs
theorem FsAt.ex {H H' : Hp} {q : Addr} {fs : Fs} (h : FsAt H q fs) (e : Ex H H') : FsAt H' q fs := by
  obtain ⟨xs, h1, h2⟩ := h
  exact ⟨xs, e _ _ h1, h2.mono fun _ _ m => TupAt.ex m e⟩
theorem FsAt.keep {p q : Addr} {H H' : Hp} {fs : Fs} (h : FsAt H q fs) (k : Keep p H H') (hp : ∃ xs, H p = some (.lst xs)) (n : q ≠ p) : FsAt H' q fs := by
  obtain ⟨xs, h1, h2⟩ := h
  exact ⟨xs, k _ _ n h1, h2.mono fun _ _ m => TupAt.keep m k hp⟩
def fieldB (x : Str × Str) : Bool := nameB x.1 && valueB x.2
def lenF (fs : Fs) : Prop := ∀ x ∈ fs, x.1.length ≤ 100000 ∧ x.2.length ≤ 100000
def areB (fs : Fs) : Bool := decide (fs.length ≤ 40) && fs.all fieldB
def bodyB (z : Str) : Bool := decide ((z.length : Int) ≤ 100000) && linesB z
section
variable {K : PySem.W.Frag} {σ : L2.St} {H : Hp} {to te : TE} {B C : Addr} {f z : Str} {v : V} {u mc : Value} {a : Str}
theorem ev_cval (h : Ev te σ H (.ref C)) (r : ClX.CRead K C mc) (k : ClX.CVal K C mc f v u) : Ev (ClX.tCVal K te f) σ H v := fun H1 e Q q => h H1 e _ fun H2 e2 => ⟨C, mc, v, u, rfl, r, k, q H2 e2⟩
end
section
variable {K : PySem.W.Frag} {σ : L2.St} {H : Hp} {to te : TE} {B C : Addr} {f z : Str} {v : V} {u mc : Value} {a : Str}
theorem ev_replC (h : Ev to σ H (.str a)) (hz : a.length ≤ 100000) : Ev (CwR.tReplC to "\n" "") σ H (.str (Txt.replace a "\n" "")) := fun H1 e Q q => h H1 e _ fun H2 e2 => ⟨a, rfl, by
  have : ("" : Str).length = 0 := by decide +kernel
  rw [this]
  omega, q H2 e2⟩
end
theorem repl_len (z : Str) : (Txt.replace z "\n" "").length ≤ z.length := by
  rw [← len_tl', ← len_tl', replace_nl]
  exact List.length_filter_le _ _
theorem rel_bl {ys : List V} {bs : List Bool} (h : Rel (fun v b => v = V.bl b) ys bs) : ys = bs.map V.bl := by
  refine List.ext_getElem (by rw [h.1, List.length_map]) fun i h1 h2 => ?_
  rw [List.getElem_map]
  rw [List.length_map] at h2
  exact h.2 i _ _ (List.getElem?_eq_getElem h1) (List.getElem?_eq_getElem h2)
/-- all([.. for .. in fields]) -/
theorem all_ev {K : PySem.W.Frag} {σ : L2.St} {H : Hp} {te tl : TE} {g : TG} {l : Addr} {vs : List V} {os : Fs} {gB : Str × Str → Bool} {ws : List Nat} (hv : Ev tl σ H (.ref l)) (hl : H l = some (.lst vs)) (hrel : Rel (PfAt H) vs os) (hz : os.length ≤ 40000)
    (hs : ∀ (x : V) (o : Str × Str) H1, o ∈ os → Ex H H1 → PfAt H1 x o → ∀ (k : VK), (∀ H2, Ex H1 H2 → k (.bl (gB o)) H2) → g x (wipe σ ws) H1 fun σ2 H2 => wipe σ2 ws = wipe σ ws ∧ te σ2 H2 k) : Ev (tCB (L2.rAll K) (tCons (tLc (iList K tl) g tYes te ws) tNil)) σ H (.bl (os.all gB)) := fun H1 e Q q =>
  hv H1 e _ fun H2 e2 => ⟨l, rfl, ⟨vs, sq_of ((e.trans e2) _ _ hl)⟩, fun D hD => lc_rel (α := Bool) (fun i => (os.take i).map gB) (fun _ v b => v = .bl b) (fun _ _ _ _ _ _ h => h) (sq_of ((e.trans e2) _ _ hl)) hD rfl (by rw [hrel.1]; omega) (fun i x H3 hi e3 k k0 hk _ => by
    obtain ⟨o, ho, hxo⟩ := hrel.get hi
    have e03 := (e.trans e2).trans e3
    refine hs x o H3 (List.mem_of_getElem? ho) e03 (TupAt.ex hxo e03) k fun H4 e4 => hk _ H4 _ e4 ?_ rfl
    show (os.take (i + 1)).map gB = _
    rw [List.take_add_one, ho, List.map_append]
    rfl) (fun H3 ys e3 hy hr => by
    rw [hrel.1, List.take_length] at hr
    have ey := rel_bl hr
    refine ⟨D, os.map gB, rfl, sq_of (by rw [hy, ey]), ?_⟩
    rw [List.all_map]
    exact q H3 (e2.trans e3))⟩
theorem areB_len {fs : Fs} (h : areB fs = true) : lenF fs ∧ fs.length ≤ 40 := by
  unfold areB at h
  rw [Bool.and_eq_true, decide_eq_true_eq, List.all_eq_true] at h
  refine ⟨fun x hx => ?_, h.1⟩
  obtain ⟨h1, h2⟩ := Bool.and_eq_true_iff.mp (h.2 x hx)
  constructor
  · unfold nameB wordB at h1
    simp only [Bool.and_eq_true, decide_eq_true_eq] at h1
    omega
  · unfold valueB at h2
    simp only [Bool.and_eq_true, decide_eq_true_eq] at h2
    omega
theorem FsAt.updI {H : Hp} {q a C dx : Addr} {fs : Fs} {gs : List (Str × V)} {o : HO} (h : FsAt H q fs) (ha : H a = some (.ins C dx gs)) : FsAt (upd H a o) q fs := by
  obtain ⟨xs, h1, h2⟩ := h
  refine ⟨xs, ?_, h2.mono fun _ x m => ?_⟩
  · rw [upd_ne (fun e => by rw [e, ha] at h1; cases h1)]
    exact h1
  · obtain ⟨t, rfl, ht⟩ := m
    refine ⟨t, rfl, ?_⟩
    rw [upd_ne (fun e => by rw [e, ha] at ht; cases ht)]
    exact ht
/-- [(a, b) for a, b in fields] -/
theorem fields_new {K : PySem.W.Frag} {σ : L2.St} {H : Hp} {i j1 j2 : Nat} {l : Addr} {fs : Fs} {Q : VK} (hi : σ[i]? = some (some (.ref l))) (hl : FsAt H l fs) (hz : fs.length ≤ 40000) (hw : ∀ x y, wipe (((wipe σ [j1, j2]).set j1 (some x)).set j2 (some y)) [j1, j2] = wipe σ [j1, j2])
    (h1 : ∀ x y, (((wipe σ [j1, j2]).set j1 (some x)).set j2 (some y))[j1]? = some (some x)) (h2 : ∀ x y, (((wipe σ [j1, j2]).set j1 (some x)).set j2 (some y))[j2]? = some (some y))
    (k : ∀ D H', H D = none → Ex H H' → FsAt H' D fs → Q (.ref D) H') : tLc (iList K (tVar i)) (gTup K 2 (gCons (gName j1) (gCons (gName j2) gNil))) tYes (tTup (tCons (tVar j1) (tCons (tVar j2) tNil))) [j1, j2] σ H Q := by
  obtain ⟨xs, hx, hr⟩ := hl
  refine ⟨.ref l, hi, l, rfl, ⟨_, sq_of hx⟩, fun D hD => ?_⟩
  refine lc_rel (α := Str × Str) (fun i => fs.take i) PfAt (fun _ _ _ _ k hD r => TupAt.keep r k hD) (sq_of hx) hD rfl (by rw [hr.1]; omega) (fun i x H13 hi e13 k k0 hk _ => ?_) (fun H13 ms e13 hy hrel => ?_)
  · obtain ⟨o, ho, t, rfl, ht⟩ := hr.get hi
    refine ⟨t, _, rfl, st_of (e13 _ _ ht), rfl, _, _, rfl, _, _, rfl, rfl, hw _ _, ?_⟩
    unfold tYes
    dsimp only
    rw [if_pos rfl]
    refine (eu_tup (ea_cons (ev_var (h1 _ _)) (ea_cons (ev_var (h2 _ _)) ea_nil)) (by show 2 ≤ _; decide)) H13 (Ex.refl H13) _ fun p H14 np e14 hp => hk _ H14 o e14 ?_ ⟨p, rfl, hp⟩
    show fs.take (i + 1) = _
    rw [List.take_add_one, ho]
    rfl
  · rw [hr.1, List.take_length] at hrel
    exact k D H13 hD e13 ⟨ms, hy, hrel⟩
def valsF (fs : Fs) (n : Str) : List Str := (fs.filter fun x => decide (x.1 = n)).map Prod.snd
def joinF (fs : Fs) (n : Str) : Option Str := if valsF fs n = [] then none else some (Txt.join ", " (valsF fs n))
def optV : Option Str → V
  | none => .non
  | some z => .str z
theorem areB_val {fs : Fs} (h : areB fs = true) : fs.length ≤ 40 ∧ ∀ x ∈ fs, x.1.length ≤ 30 ∧ x.2.length ≤ 200 := by
  unfold areB at h
  rw [Bool.and_eq_true, decide_eq_true_eq, List.all_eq_true] at h
  refine ⟨h.1, fun x hx => ?_⟩
  obtain ⟨h1, h2⟩ := Bool.and_eq_true_iff.mp (h.2 x hx)
  constructor
  · unfold nameB wordB at h1
    simp only [Bool.and_eq_true, decide_eq_true_eq] at h1
    omega
  · unfold valueB at h2
    simp only [Bool.and_eq_true, decide_eq_true_eq] at h2
    omega
theorem vals_len {fs : Fs} {n : Str} (h : areB fs = true) : (valsF fs n).length ≤ 40 ∧ ∀ y ∈ valsF fs n, y.length ≤ 200 := by
  obtain ⟨h1, h2⟩ := areB_val h
  unfold valsF
  refine ⟨by rw [List.length_map]; exact Nat.le_trans (List.length_filter_le _ _) h1, fun y hy => ?_⟩
  obtain ⟨x, hx, rfl⟩ := List.mem_map.mp hy
  exact (h2 x (List.mem_filter.mp hx).1).2
theorem joinF_len {fs : Fs} {n z : Str} (h : areB fs = true) (hz : joinF fs n = some z) : z.length ≤ 10000 := by
  unfold joinF at hz
  split at hz
  · cases hz
  · cases hz
    obtain ⟨h1, h2⟩ := vals_len (n := n) h
    have h3 := sum_most (valsF fs n) 200 h2
    have h4 := join_len ", " (valsF fs n)
    have h5 : (", " : Str).length = 2 := by decide +kernel
    rw [h5] at h4
    have h6 := Nat.mul_le_mul_right 200 h1
    omega
section
variable {K : PySem.W.Frag} {C L a dx : Addr} {σ : L2.St} {H : Hp} {te : TE} {v : V} {b : Bool}
theorem et_truL {l : Addr} {xs : List V} (h : Ev te σ H (.ref l)) (hl : SqL K H l xs) : EvT (fun σ H Q => te σ H fun x H' => ∃ k, TruV K x H' k ∧ Q k H') σ H (!xs.isEmpty) := fun H1 e Q q => h H1 e _ fun H2 e2 => ⟨_, .inl ⟨xs, ex_l (e.trans e2) hl, rfl⟩, q H2 e2⟩
end
def nsp : Str := "!\"#$&'()*+,-./0123456789:;<=>?@ABCDEFGHIJKLMNOPQRSTUVWXYZ[\\]^_`abcdefghijklmnopqrstuvwxyz{|}~"
theorem nsp_ok : ∀ c ∈ tl nsp, c ∈ tl signs ∧ c ∉ tl (" " : Str) := by decide +kernel
theorem allIn_mono {z s t : Str} (h : allIn z s = true) (k : ∀ c ∈ tl s, c ∈ tl t) : allIn z t = true :=
  List.all_eq_true.mpr fun c hc => decide_eq_true (k c (of_decide_eq_true (List.all_eq_true.mp h c hc)))
theorem value_ns {z : Str} (hl : z.length ≤ 200) (h : allIn z nsp = true) : valueB z = true := by
  have hm : ∀ c ∈ tl z, c ∈ tl nsp := fun c hc => of_decide_eq_true (List.all_eq_true.mp h c hc)
  unfold valueB
  rw [decide_eq_true (by omega), Bool.true_and, Bool.and_eq_true, decide_eq_true_eq]
  exact ⟨List.all_eq_true.mpr fun c hc => decide_eq_true (nsp_ok c (hm c hc)).1, strip_self (fun c hc => (nsp_ok c (hm c (List.mem_of_getElem? hc))).2) (fun c hc => (nsp_ok c (hm c (List.mem_of_getElem? hc))).2)⟩
theorem value_parts {z : Str} (h : valueB z = true) : z.length ≤ 200 ∧ allIn z signs = true := by
  unfold valueB at h
  simp only [Bool.and_eq_true, decide_eq_true_eq] at h
  exact ⟨by omega, h.2.1⟩
theorem value_empty : valueB ("" : Str) = true := by decide +kernel
theorem num_kinds (i : Int) (h1 : -999999 ≤ i) (h2 : i ≤ 999999) : (∃ n : Nat, n < 10 ^ 6 ∧ tl (PySem.Str.ofString (toString i)) = numL n) ∨ ∃ n : Nat, 1 ≤ n ∧ n < 10 ^ 6 ∧ tl (PySem.Str.ofString (toString i)) = 45 :: numL n := by
  cases i with
  | ofNat n =>
    have h2 : (n : Int) ≤ 999999 := h2
    exact .inl ⟨n, by omega, tl_num n⟩
  | negSucc n => exact .inr ⟨n + 1, by omega, by omega, neg_tl n⟩
theorem num_value (i : Int) (h1 : -999999 ≤ i) (h2 : i ≤ 999999) : valueB (PySem.Str.ofString (toString i)) = true := by
  have key : ∀ z : Str, z.length ≤ 7 → (∀ c ∈ tl z, c = 45 ∨ (48 ≤ c ∧ c ≤ 57)) → valueB z = true := fun z hl hc => by
    refine value_ns (by omega) (List.all_eq_true.mpr fun c h => decide_eq_true ?_)
    have d : ∀ c ∈ tl ("0123456789" : Str), c ∈ tl nsp := by decide +kernel
    rcases hc c h with rfl | ⟨g1, g2⟩
    · decide +kernel
    · exact d c (dig_mem g1 g2)
  rcases num_kinds i h1 h2 with ⟨n, hn, hz⟩ | ⟨n, h0, hn, hz⟩
  · refine key _ ?_ fun c hc => ?_
    · rw [len_tl, hz]
      have := numL_len (k := 6) (by decide) hn
      omega
    · rw [hz] at hc
      exact .inr (numL_digits n c hc)
  · refine key _ ?_ fun c hc => ?_
    · rw [len_tl, hz]
      have := numL_len (k := 6) (by decide) hn
      rw [List.length_cons]
      omega
    · rw [hz] at hc
      rcases List.mem_cons.mp hc with rfl | hc
      · exact .inl rfl
      · exact .inr (numL_digits n c hc)
end Z
set_option maxHeartbeats 4000000
namespace Z
open PySem PySem.Spec PyProof.Rows L2 TL Evl
theorem sc_wall : FnScope ["k"] ["k"] (L2.defScope s_wall) := ⟨rfl, rfl, rfl, by decide +kernel, rfl, by decide +kernel, by decide +kernel⟩
theorem sc_consists_of : FnScope ["text", "signs"] ["text", "signs"] (L2.defScope s_consists_of) := ⟨rfl, rfl, rfl, by decide +kernel, rfl, by decide +kernel, by decide +kernel⟩
theorem sc_is_plain : FnScope ["text"] ["text"] (L2.defScope s_is_plain) := ⟨rfl, rfl, rfl, by decide +kernel, rfl, by decide +kernel, by decide +kernel⟩
theorem sc_is_plain_lines : FnScope ["text"] ["text"] (L2.defScope s_is_plain_lines) := ⟨rfl, rfl, rfl, by decide +kernel, rfl, by decide +kernel, by decide +kernel⟩
theorem sc_is_path : FnScope ["text"] ["text"] (L2.defScope s_is_path) := ⟨rfl, rfl, rfl, by decide +kernel, rfl, by decide +kernel, by decide +kernel⟩
theorem sc_is_word : FnScope ["text", "most"] ["text", "most"] (L2.defScope s_is_word) := ⟨rfl, rfl, rfl, by decide +kernel, rfl, by decide +kernel, by decide +kernel⟩
theorem sc_is_field_name : FnScope ["text"] ["text"] (L2.defScope s_is_field_name) := ⟨rfl, rfl, rfl, by decide +kernel, rfl, by decide +kernel, by decide +kernel⟩
theorem sc_is_value : FnScope ["text"] ["text"] (L2.defScope s_is_value) := ⟨rfl, rfl, rfl, by decide +kernel, rfl, by decide +kernel, by decide +kernel⟩
theorem sc_list_elements : FnScope ["text", "parts", "part"] ["text"] (L2.defScope s_list_elements) := ⟨rfl, rfl, rfl, by decide +kernel, rfl, by decide +kernel, by decide +kernel⟩
theorem sc_read_number : FnScope ["text"] ["text"] (L2.defScope s_read_number) := ⟨rfl, rfl, rfl, by decide +kernel, rfl, by decide +kernel, by decide +kernel⟩
theorem sc_least_number : FnScope ["parts", "name", "sign", "numbers", "part", "number"] ["parts", "name"] (L2.defScope s_least_number) := ⟨rfl, rfl, rfl, by decide +kernel, rfl, by decide +kernel, by decide +kernel⟩
theorem sc_least_lifetime : FnScope ["parts", "name", "part"] ["parts", "name"] (L2.defScope s_least_lifetime) := ⟨rfl, rfl, rfl, by decide +kernel, rfl, by decide +kernel, by decide +kernel⟩
theorem sc_is_without_number : FnScope ["part", "sign"] ["part", "sign"] (L2.defScope s_is_without_number) := ⟨rfl, rfl, rfl, by decide +kernel, rfl, by decide +kernel, by decide +kernel⟩
theorem sc_are_fields : FnScope ["fields", "name", "value"] ["fields"] (L2.defScope s_are_fields) := ⟨rfl, rfl, rfl, by decide +kernel, rfl, by decide +kernel, by decide +kernel⟩
theorem sc_is_body : FnScope ["text"] ["text"] (L2.defScope s_is_body) := ⟨rfl, rfl, rfl, by decide +kernel, rfl, by decide +kernel, by decide +kernel⟩
theorem sc_law_bag : FnScope ["script", "great", "cell"] ["script"] (L2.defScope s_law_bag) := ⟨rfl, rfl, rfl, by decide +kernel, rfl, by decide +kernel, by decide +kernel⟩
theorem sc_law_take : FnScope ["bag", "ways", "digit", "cell", "before", "feed"] ["bag", "ways"] (L2.defScope s_law_take) := ⟨rfl, rfl, rfl, by decide +kernel, rfl, by decide +kernel, by decide +kernel⟩
theorem sc_law_number : FnScope ["bag", "way"] ["bag"] (L2.defScope s_law_number) := ⟨rfl, rfl, rfl, by decide +kernel, rfl, by decide +kernel, by decide +kernel⟩
theorem sc_law_plain : FnScope ["bag", "signs"] ["bag"] (L2.defScope s_law_plain) := ⟨rfl, rfl, rfl, by decide +kernel, rfl, by decide +kernel, by decide +kernel⟩
theorem sc_law_odd : FnScope ["bag", "ends", "at"] ["bag"] (L2.defScope s_law_odd) := ⟨rfl, rfl, rfl, by decide +kernel, rfl, by decide +kernel, by decide +kernel⟩
theorem sc_law_near : FnScope ["word", "way", "near"] ["word", "way"] (L2.defScope s_law_near) := ⟨rfl, rfl, rfl, by decide +kernel, rfl, by decide +kernel, by decide +kernel⟩
theorem sc_law_element : FnScope ["bag", "words", "at", "way", "k"] ["bag"] (L2.defScope s_law_element) := ⟨rfl, rfl, rfl, by decide +kernel, rfl, by decide +kernel, by decide +kernel⟩
theorem sc_law_padded : FnScope ["bag", "element", "pads"] ["bag"] (L2.defScope s_law_padded) := ⟨rfl, rfl, rfl, by decide +kernel, rfl, by decide +kernel, by decide +kernel⟩
theorem sc_law_spoil : FnScope ["texts", "bag", "at", "spot", "gone"] ["texts", "bag"] (L2.defScope s_law_spoil) := ⟨rfl, rfl, rfl, by decide +kernel, rfl, by decide +kernel, by decide +kernel⟩
theorem sc_law_texts : FnScope ["bag", "groups", "k", "element", "opens", "texts", "group"] ["bag"] (L2.defScope s_law_texts) := ⟨rfl, rfl, rfl, by decide +kernel, rfl, by decide +kernel, by decide +kernel⟩
theorem sc_law_heads : FnScope ["texts", "bag", "others", "heads", "one"] ["texts", "bag"] (L2.defScope s_law_heads) := ⟨rfl, rfl, rfl, by decide +kernel, rfl, by decide +kernel, by decide +kernel⟩
theorem sc_law_joined : FnScope ["texts"] ["texts"] (L2.defScope s_law_joined) := ⟨rfl, rfl, rfl, by decide +kernel, rfl, by decide +kernel, by decide +kernel⟩
theorem sc_law_digits : FnScope ["word", "sign"] ["word"] (L2.defScope s_law_digits) := ⟨rfl, rfl, rfl, by decide +kernel, rfl, by decide +kernel, by decide +kernel⟩
theorem sc_law_least : FnScope ["parts", "word", "is_lifetime", "found", "one", "number"] ["parts", "word", "is_lifetime"] (L2.defScope s_law_least) := ⟨rfl, rfl, rfl, by decide +kernel, rfl, by decide +kernel, by decide +kernel⟩
theorem sc_law_due : FnScope ["texts", "parts", "one", "piece", "due", "word"] ["texts"] (L2.defScope s_law_due) := ⟨rfl, rfl, rfl, by decide +kernel, rfl, by decide +kernel, by decide +kernel⟩
theorem sc_law_told : FnScope ["one", "told"] ["one"] (L2.defScope s_law_told) := ⟨rfl, rfl, rfl, by decide +kernel, rfl, by decide +kernel, by decide +kernel⟩
theorem sc_law_same : FnScope ["got", "due"] ["got", "due"] (L2.defScope s_law_same) := ⟨rfl, rfl, rfl, by decide +kernel, rfl, by decide +kernel, by decide +kernel⟩
theorem sc_law_all_same : FnScope ["got", "due", "one", "other"] ["got", "due"] (L2.defScope s_law_all_same) := ⟨rfl, rfl, rfl, by decide +kernel, rfl, by decide +kernel, by decide +kernel⟩
theorem sc_law_many_right : FnScope ["bag", "texts", "k", "due", "heads", "one"] ["bag"] (L2.defScope s_law_many_right) := ⟨rfl, rfl, rfl, by decide +kernel, rfl, by decide +kernel, by decide +kernel⟩
theorem sc_law : FnScope ["script", "bag", "first", "second", "heads", "more", "verb", "states", "request", "response", "due", "due_more", "one", "other"] ["script"] (L2.defScope s_law) := ⟨rfl, rfl, rfl, by decide +kernel, rfl, by decide +kernel, by decide +kernel⟩
/-- what the module's names stand for -/
structure Mg (mg : Str → Option Value) : Prop where
  len : mg "len" = none
  all : mg "all" = none
  any : mg "any" = none
  abs : mg "abs" = none
  sum : mg "sum" = none
  isinstance : mg "isinstance" = none
  range : mg "range" = none
  int : mg "int" = none
  bool : mg "bool" = none
  str : mg "str" = none
  min : mg "min" = none
  max : mg "max" = none
  list : mg "list" = none
  zip : mg "zip" = none
  LOWER : ∃ u, mg "LOWER" = some u ∧ RelV (.str "abcdefghijklmnopqrstuvwxyz") u
  DIGITS : ∃ u, mg "DIGITS" = some u ∧ RelV (.str "0123456789") u
  WORD_SIGNS : ∃ u, mg "WORD_SIGNS" = some u ∧ RelV (.str "abcdefghijklmnopqrstuvwxyz0123456789-") u
  PATH_SIGNS : ∃ u, mg "PATH_SIGNS" = some u ∧ RelV (.str "abcdefghijklmnopqrstuvwxyz0123456789/-.") u
  MOST_PATH : ∃ u, mg "MOST_PATH" = some u ∧ RelV (.int 60) u
  MOST_NAME : ∃ u, mg "MOST_NAME" = some u ∧ RelV (.int 30) u
  MOST_VALUE : ∃ u, mg "MOST_VALUE" = some u ∧ RelV (.int 200) u
  MOST_DIGITS : ∃ u, mg "MOST_DIGITS" = some u ∧ RelV (.int 6) u
/-! ### the law's draws -/
def BgA (H : Hp) (p : Addr) : Prop := ∃ (c0 c1 c2 : Int) (cs : List Int), H p = some (.lst (.int c0 :: .int c1 :: .int c2 :: cs.map V.int)) ∧ cs.length ≤ 63
theorem BgA.ex {H H' : Hp} {p : Addr} (b : BgA H p) (e : Ex H H') : BgA H' p := by
  obtain ⟨c0, c1, c2, cs, h, l⟩ := b
  exact ⟨c0, c1, c2, cs, e _ _ h, l⟩
theorem BgA.ne {H : Hp} {p l : Addr} (b : BgA H p) (h : H l = none) : l ≠ p := by
  obtain ⟨c0, c1, c2, cs, hb, _⟩ := b
  exact fun e => by rw [e, hb] at h; cases h
theorem BgA.upd {H : Hp} {p l : Addr} {o : HO} (b : BgA H p) (n : l ≠ p) : BgA (upd H l o) p := by
  obtain ⟨c0, c1, c2, cs, h, l⟩ := b
  exact ⟨c0, c1, c2, cs, by rw [upd_ne (Ne.symm n)]; exact h, l⟩
def spBagA (K : PySem.W.Frag) : Sp := fun vs H Q _ => ∃ (a : Addr) (ns : List Int), vs = [.ref a] ∧ SqL K H a (ns.map V.int) ∧ ns.length ≤ 63 ∧ ∀ (p : Addr) (H' : Hp), H p = none → Ex H H' → BgA H' p → Q (.ref p) H'
def spNumA : Sp := fun vs H Q _ => ∃ (p : Addr), vs = [.ref p] ∧ BgA H p ∧ ∀ (d : Int) (H' : Hp), 0 ≤ d → d ≤ 999999 → BgA H' p → Keep p H H' → Q (.int d) H'
def spTakeA : Sp := fun vs H Q _ => ∃ (p : Addr) (lim : Int), vs = [.ref p, .int lim] ∧ BgA H p ∧ 1 ≤ lim ∧ lim ≤ 1000000 ∧ ∀ (d : Int) (H' : Hp), 0 ≤ d → d < lim → BgA H' p → Keep p H H' → Q (.int d) H'
section
variable {P : Program} {w : World} {K : PySem.W.Frag} {mg : Str → Option Value} {base : Heap} {f : Addr} {fd : FuncData} {k : Nat}
abbrev CTakeA (P : Program) (w : World) (K : PySem.W.Frag) (mg : Str → Option Value) (base : Heap) : Prop := Call P w K mg base 1 "_law_take" ["bag", "ways"] spTakeA
theorem ok_consists_of (T : Mg mg) (F : FnP K "consists_of" s_consists_of f fd) (gm : mg "consists_of" = some (.ref f)) : Call P w K mg base 1 "consists_of" ["text", "signs"] (sp2 fun z s => .bl (allIn z s)) := by
  refine mk F gm (fun _ _ _ _ _ _ us hl => match us, hl with | [_, _], _ => rfl) (fun _ _ _ _ _ _ us hl => match us, hl with | [_, _], _ => rfl) sc_consists_of (fun vs H Q E h => ?_) (fun cdv A outer s H vs Q E hr h => ?_)
  · obtain ⟨z, s, rfl, _⟩ := h
    rfl
  · obtain ⟨z, s, rfl, hz, q⟩ := h
    refine ⟨_, (pss_one (ps_ret (pe_cmpR op_eq (pe_bm PySem.F.plainAttrs_str PySem.F.slot_str_strip PySem.F.type_str_strip mz_strip (pv 0) (pa_cons (pv 1) pa_nil)) pe_str (nomark _)))), ?_⟩
    refine s_ret (v := .bl (allIn z s)) (ev_is (ev_op (ev_strip (ev_var rfl) (ev_var rfl) hz) ev_c rv_eqS) ?_) q
    rw [strip_all]
theorem ok_is_plain (T : Mg mg) (F : FnP K "is_plain" s_is_plain f fd) (gm : mg "is_plain" = some (.ref f)) : Call P w K mg base 1 "is_plain" ["text"] (sp1 fun z => .bl (allIn z signs)) := by
  refine mk F gm (fun _ _ _ _ _ _ us hl => match us, hl with | [_], _ => rfl) (fun _ _ _ _ _ _ us hl => match us, hl with | [_], _ => rfl) sc_is_plain (fun vs H Q E h => ?_) (fun cdv A outer s H vs Q E hr h => ?_)
  · obtain ⟨z, rfl, _⟩ := h
    rfl
  · obtain ⟨z, rfl, hz, q⟩ := h
    refine ⟨_, (pss_one (ps_ret (pe_and (pe_bm0 PySem.F.plainAttrs_str PySem.F.slot_str_isascii PySem.F.type_str_isascii mz_isascii (pv 0)) (pe_and (pe_bm0 PySem.F.plainAttrs_str PySem.F.slot_str_isprintable PySem.F.type_str_isprintable mz_isprint (pv 0)) (pe_one (pe_cmpR op_eq (pe_bm PySem.F.plainAttrs_str PySem.F.slot_str_translate PySem.F.type_str_translate (mz_trans rfl) (pv 0) (pa_cons (pe_disp (pps_cons pe_int pe_non pps_nil) (by rfl) (by rfl) (fun z => by cases z) (by decide)) pa_nil)) (pv 0) (nomark _))))))), ?_⟩
    refine s_ret (v := .bl (allIn z signs)) (ev_is (ev_andV (ev_isascii (ev_var rfl)) fun h1 => ev_andV (ev_isprint (ev_var rfl)) fun h2 => ev_op (ev_trans (ev_var rfl) ?_ hz) (ev_var rfl) rv_eqS) ?_) q
    · rw [isascii_tl] at h1
      exact fun c hc => of_decide_eq_true (List.all_eq_true.mp h1 c hc)
    · rw [plain_eq]
theorem ok_is_word (T : Mg mg) (c_consists_of : Call P w K mg base 1 "consists_of" ["text", "signs"] (sp2 fun z s => .bl (allIn z s))) (F : FnP K "is_word" s_is_word f fd) (gm : mg "is_word" = some (.ref f)) :
    Call P w K mg base 2 "is_word" ["text", "most"] (fun vs H Q _ => ∃ (z : Str) (m : Int), vs = [.str z, .int m] ∧ z.length ≤ 100000 ∧ RetV (.bl (wordB z m)) H Q) := by
  refine mk F gm (fun _ _ _ _ _ _ us hl => match us, hl with | [_, _], _ => rfl) (fun _ _ _ _ _ _ us hl => match us, hl with | [_, _], _ => rfl) sc_is_word (fun vs H Q E h => ?_) (fun cdv A outer s H vs Q E hr h => ?_)
  · obtain ⟨z, m, rfl, _⟩ := h
    rfl
  · obtain ⟨z, m, rfl, hz, q⟩ := h
    refine ⟨_, (pss_one (ps_ret (pe_and (pe_chain op_le op_le pe_int (pe_callB cz_len (by rfl) T.len (by decide +kernel) (pa_cons (pv 0) pa_nil)) (pv 1)) (pe_and (pe_cmpR op_inS (pe_ix ix_str (pv 0) pe_int (fun _ _ => rfl)) (pe_gc rfl T.LOWER) rfl) (pe_one (pe_f c_consists_of hr (by decide) rfl (pa_cons (pv 0) (pa_cons (pe_gc rfl T.WORD_SIGNS) pa_nil)))))))), ?_⟩
    refine s_ret (v := .bl (wordB z m)) (ev_andV (ev_chain ev_c (ev_lenStr (ev_var rfl) hz) (ev_var rfl)) fun h1 => ?_) q
    obtain ⟨c, e1, e2⟩ := item0 (z := z) (by have := (pl h1).1; omega)
    refine ev_andV (ev_is (ev_op (ev_ixS (ev_var rfl) ev_c hz e2) ev_c rv_in) ?_) fun h2 => ev_call (ea_cons (ev_var rfl) (ea_cons ev_c ea_nil)) (sv2 hz)
    unfold hdIn
    rw [e1]
theorem ok_is_field_name (T : Mg mg) (c_is_word : Call P w K mg base 2 "is_word" ["text", "most"] (fun vs H Q _ => ∃ (z : Str) (m : Int), vs = [.str z, .int m] ∧ z.length ≤ 100000 ∧ RetV (.bl (wordB z m)) H Q)) (F : FnP K "is_field_name" s_is_field_name f fd) (gm : mg "is_field_name" = some (.ref f)) :
    Call P w K mg base 3 "is_field_name" ["text"] (sp1 fun z => .bl (nameB z)) := by
  refine mk F gm (fun _ _ _ _ _ _ us hl => match us, hl with | [_], _ => rfl) (fun _ _ _ _ _ _ us hl => match us, hl with | [_], _ => rfl) sc_is_field_name (fun vs H Q E h => ?_) (fun cdv A outer s H vs Q E hr h => ?_)
  · obtain ⟨z, rfl, _⟩ := h
    rfl
  · obtain ⟨z, rfl, hz, q⟩ := h
    refine ⟨_, (pss_one (ps_ret (pe_and (pe_f c_is_word hr (by decide) rfl (pa_cons (pv 0) (pa_cons (pe_gc rfl T.MOST_NAME) pa_nil))) (pe_one (pe_cmpR op_ne (pv 0) pe_str (nomark _)))))), ?_⟩
    exact s_ret (v := .bl (nameB z)) (ev_andV (ev_call (ea_cons (ev_var rfl) (ea_cons ev_c ea_nil)) fun H1 e Q q E => ⟨z, 30, rfl, hz, q⟩) fun h1 => ev_op (ev_var rfl) ev_c rv_neS) q
theorem ok_is_value (T : Mg mg) (c_is_plain : Call P w K mg base 1 "is_plain" ["text"] (sp1 fun z => .bl (allIn z signs))) (F : FnP K "is_value" s_is_value f fd) (gm : mg "is_value" = some (.ref f)) :
    Call P w K mg base 2 "is_value" ["text"] (sp1 fun z => .bl (valueB z)) := by
  refine mk F gm (fun _ _ _ _ _ _ us hl => match us, hl with | [_], _ => rfl) (fun _ _ _ _ _ _ us hl => match us, hl with | [_], _ => rfl) sc_is_value (fun vs H Q E h => ?_) (fun cdv A outer s H vs Q E hr h => ?_)
  · obtain ⟨z, rfl, _⟩ := h
    rfl
  · obtain ⟨z, rfl, hz, q⟩ := h
    refine ⟨_, (pss_one (ps_ret (pe_and (pe_cmpR op_le (pe_callB cz_len (by rfl) T.len (by decide +kernel) (pa_cons (pv 0) pa_nil)) (pe_gc rfl T.MOST_VALUE) (nomark _)) (pe_and (pe_f c_is_plain hr (by decide) rfl (pa_cons (pv 0) pa_nil)) (pe_one (pe_cmpR op_eq (pe_bm PySem.F.plainAttrs_str PySem.F.slot_str_strip PySem.F.type_str_strip mz_strip (pv 0) (pa_cons pe_str pa_nil)) (pv 0) (nomark _))))))), ?_⟩
    exact s_ret (v := .bl (valueB z)) (ev_andV (ev_op (ev_lenStr (ev_var rfl) hz) ev_c rv_I0) fun h1 => ev_andV (ev_call (ea_cons (ev_var rfl) ea_nil) (sv1 hz)) fun h2 => ev_op (ev_strip (ev_var rfl) ev_c hz) (ev_var rfl) rv_eqS) q
theorem ok_read_number (T : Mg mg) (c_consists_of : cons_ P w K mg base) (F : FnP K "read_number" s_read_number f fd) (gm : mg "read_number" = some (.ref f)) : Call P w K mg base 2 "read_number" ["text"] (sp1 numV) := by
  refine mk F gm (fun _ _ _ _ _ _ us hl => match us, hl with | [_], _ => rfl) (fun _ _ _ _ _ _ us hl => match us, hl with | [_], _ => rfl) sc_read_number (fun vs H Q E h => ?_) (fun cdv A outer s H vs Q E hr h => ?_)
  · obtain ⟨z, rfl, _⟩ := h
    rfl
  · obtain ⟨z, rfl, hz, q⟩ := h
    refine ⟨_, (pss_cons (ps_if (PW.pt (pw_or (pt_not (pt_chain op_le op_le pe_int (pe_callB cz_len (by rfl) T.len (by decide +kernel) (pa_cons (pv 0) pa_nil)) (pe_gc rfl T.MOST_DIGITS))) (pw_or1 (pt_not (pt_val (pe_f c_consists_of hr (by decide) rfl (pa_cons (pv 0) (pa_cons (pe_gc rfl T.DIGITS) pa_nil))))))))
      (pss_one (ps_ret pe_non))
      pss_nil)
    (pss_cons (ps_if (PW.pt (pw_and (pt_cmpR op_eq (pe_ix ix_str (pv 0) pe_int (fun _ _ => rfl)) pe_str (nomark _)) (pw_and1 (pt_cmpR op_ne (pv 0) pe_str (nomark _)))))
      (pss_one (ps_ret pe_non))
      pss_nil)
    (pss_one (ps_ret (pe_callTy cz_int (by rfl) T.int (by decide +kernel) (pa_cons (pv 0) pa_nil)))))), ?_⟩
    refine q_when (et_or (et_not (et_test (ev_chain ev_c (ev_lenStr (ev_var rfl) hz) ev_c))) fun _ => et_not (et_B (ev_call (ea_cons (ev_var rfl) (ea_cons ev_c ea_nil)) (sv2 hz)))) (fun hb H1 e1 => ?_) (fun hb H1 e1 => ?_)
    · refine s_ret ev_c fun H2 e2 => ?_
      have : numV z = .non := by
        unfold numV digB
        rw [if_neg]
        intro h
        rw [Bool.and_eq_true, Bool.and_eq_true] at h
        rw [show (decide ((1 : Int) ≤ z.length) && decide ((z.length : Int) ≤ 6)) = true by rw [Bool.and_eq_true]; exact h.1, (Bool.and_eq_true_iff.mp h.2).1] at hb
        cases hb
      have g := q H2 (e1.trans e2)
      rw [this] at g
      exact g
    · rw [Bool.or_eq_false_iff, Bool.not_eq_false', Bool.not_eq_false'] at hb
      obtain ⟨hc, ha⟩ := hb
      have hl := pl hc
      obtain ⟨c, g1, g2⟩ := item0 (z := z) (by omega)
      have e3 : decide ((⟨#[c]⟩ : Str) = ("0" : Str)) = decide (hd z = some 48) := by
        rw [g1, show ("0" : Str) = ⟨#[48]⟩ by decide +kernel]
        by_cases h : c = 48
        · rw [h]; rfl
        · rw [decide_eq_false fun e => h ((one_eq _ _).mp e), decide_eq_false fun e => h (Option.some.inj e)]
      refine q_when (b := decide (hd z = some 48) && !decide (z = ("0" : Str))) (et_and (et_is (et_test (ev_op (ev_ixS (ev_var rfl) ev_c hz g2) ev_c rv_eqS)) e3) fun _ => et_test (ev_op (ev_var rfl) ev_c rv_neS)) (fun hb H2 e2 => ?_) (fun hb H2 e2 => ?_)
      · rw [Bool.and_eq_true, decide_eq_true_eq, Bool.not_eq_true', decide_eq_false_iff_not] at hb
        refine s_ret ev_c fun H3 e3 => ?_
        have : numV z = .non := by
          unfold numV digB
          rw [if_neg]
          intro h
          have h := (Bool.and_eq_true_iff.mp (Bool.and_eq_true_iff.mp h).2).2
          rw [Bool.or_eq_true, decide_eq_true_eq, Bool.not_eq_true', decide_eq_false_iff_not] at h
          rcases h with h | h
          · exact hb.2 (zero_text (by omega) hb.1)
          · exact h hb.1
        have g := q H3 ((e1.trans e2).trans e3)
        rw [this] at g
        exact g
      · have hd1 : digB z = true := by
          unfold digB
          rw [hc, ha, Bool.true_and, Bool.true_and, Bool.or_eq_true, decide_eq_true_eq, Bool.not_eq_true', decide_eq_false_iff_not]
          rw [Bool.and_eq_false_iff, decide_eq_false_iff_not, Bool.not_eq_false', decide_eq_true_eq] at hb
          rcases hb with hb | hb
          · exact .inr hb
          · have := zero_len hb
            exact .inl (by omega)
        refine s_ret (v := numV z) (ev_is (ev_intStr (ev_var rfl) (int_digits ha (by omega) (by omega)) (by omega)) ?_) fun H3 e3 => q H3 ((e1.trans e2).trans e3)
        unfold numV
        rw [if_pos hd1]
theorem ok_list_elements (T : Mg mg) (F : FnP K "list_elements" s_list_elements f fd) (gm : mg "list_elements" = some (.ref f)) : Call P w K mg base 1 "list_elements" ["text"] (sp1L fun z => (elems z).map V.str) := by
  refine mk F gm (fun _ _ _ _ _ _ us hl => match us, hl with | [_], _ => rfl) (fun _ _ _ _ _ _ us hl => match us, hl with | [_], _ => rfl) sc_list_elements (fun vs H Q E h => ?_) (fun cdv A outer s H vs Q E hr h => ?_)
  · obtain ⟨z, rfl, _⟩ := h
    rfl
  · obtain ⟨z, rfl, hz, q⟩ := h
    refine ⟨_, (pss_cons (ps_setLc (i := 1) (own := [("part", 2)]) (g := gName 2) (tt := tYes) rfl sc_list_elements.nd rfl rfl (sw_true rfl rfl rfl (by decide +kernel)) (pi_list (pe_bm PySem.F.plainAttrs_str PySem.F.slot_str_split PySem.F.type_str_split mz_split (pv 0) (pa_cons pe_str pa_nil))) (blkOk_by (N := ["text", "parts", "part"]) (sc := L2.defScope s_list_elements) (by decide +kernel)) (fun _ _ _ _ _ => pg_name (i := 2) sc_list_elements.nd rfl (Or.inl rfl)) (fun _ _ _ _ _ => pts_nil) (fun _ _ _ _ _ => (inK (K := K) (t := fun K => tBM K "str" rStrip _ _) rfl (pe_bm PySem.F.plainAttrs_str PySem.F.slot_str_strip PySem.F.type_str_strip mz_strip (pv 2) (pa_cons pe_str pa_nil)))))
    (pss_one (ps_ret (pe_lc (own := [("part", 2)]) (g := gName 2) rfl sc_list_elements.nd (pi_list (pv 1)) (blkOk_by (N := ["text", "parts", "part"]) (sc := L2.defScope s_list_elements) (by decide +kernel)) (fun _ _ _ _ _ => pg_name (i := 2) sc_list_elements.nd rfl (Or.inl rfl)) (fun _ _ _ _ _ => pts_one (pt_cmpR op_ne (pv 2) pe_str (nomark _))) (fun _ _ _ _ _ => (pv 2)))))), ?_⟩
    have hsl := split_len z
    refine q_asgL (xs := (stripped z).map V.str) ?_ fun p H1 np e1 h1 => ?_
    · have e : given ((Txt.split z ",").map V.str).length (fun _ => true) (fun i => .str (Txt.stripChars ((Txt.split z ",").getD i "") " ")) = (stripped z).map V.str := by
        rw [List.length_map]
        have := given_all (Txt.split z ",") ("" : Str) (fun _ => true) (fun p => .str (Txt.stripChars p " "))
        rw [this]
        unfold stripped
        rw [List.map_map]
        have : (Txt.split z ",").filter (fun _ => true) = Txt.split z "," := List.filter_eq_self.mpr fun _ _ => rfl
        rw [this]
        rfl
      rw [← e]
      refine el_lcNL (fun _ => true) (fun i => .str (Txt.stripChars ((Txt.split z ",").getD i "") " ")) (el_split (ev_var rfl) ev_c (by decide +kernel) (by omega)) (by rw [List.length_map]; omega) (fun _ => rfl) (fun i x H1 e hx => et_yes) (fun i x H1 e hx _ => ?_)
      obtain ⟨hi, ex, hm⟩ := at_str hx ("" : Str)
      subst ex
      exact ev_strip (ev_var rfl) ev_c (by have := split_each hm; omega)
    · have e : given ((stripped z).map V.str).length (fun i => !decide ((stripped z).getD i "" = ("" : Str))) (fun i => .str ((stripped z).getD i "")) = (elems z).map V.str := by
        rw [List.length_map]
        exact given_all (stripped z) ("" : Str) (fun p => !decide (p = ("" : Str))) V.str
      have hlen : (stripped z).length ≤ 20000 := by
        unfold stripped
        rw [List.length_map]
        omega
      refine s_retL (xs := (elems z).map V.str) ?_ fun p2 H2 np2 e2 h2 => q p2 H2 (fresh_back e1 np2) (e1.trans e2) h2
      rw [← e]
      refine el_lcL (fun i => !decide ((stripped z).getD i "" = ("" : Str))) (fun i => .str ((stripped z).getD i "")) (ev_var rfl) (sq_of h1) (by rw [List.length_map]; omega) (fun _ => rfl) (fun i x H1 e hx => ?_) (fun i x H1 e hx _ => ?_)
      · obtain ⟨hi, ex, hm⟩ := at_str hx ("" : Str)
        subst ex
        exact et_test (ev_op (ev_var rfl) ev_c rv_neS)
      · obtain ⟨hi, ex, hm⟩ := at_str hx ("" : Str)
        subst ex
        exact ev_var rfl
theorem ok_law_bagA (T : Mg mg) (F : FnP K "_law_bag" s_law_bag f fd) (gm : mg "_law_bag" = some (.ref f)) : Call P w K mg base 1 "_law_bag" ["script"] (spBagA K) := by
  refine mk F gm (fun _ _ _ _ _ _ us hl => match us, hl with | [_], _ => rfl) (fun _ _ _ _ _ _ us hl => match us, hl with | [_], _ => rfl) sc_law_bag (fun vs H Q E h => ?_) (fun cdv A outer s H vs Q E hr h => ?_)
  · obtain ⟨a, ns, rfl, _⟩ := h
    rfl
  · obtain ⟨a, ns, rfl, hS, hl, q⟩ := h
    refine ⟨_, (pss_cons (ps_setLc (i := 1) (own := [("cell", 2)]) (g := gName 2) rfl sc_law_bag.nd rfl rfl (sw_true rfl rfl rfl (by decide +kernel)) (pi_list (pe_slice sl_list (pv 0) po_none (po_some pe_int))) (blkOk_by (N := ["script", "great", "cell"]) (sc := L2.defScope s_law_bag) (by decide +kernel)) (fun _ _ _ _ _ => pg_name (i := 2) sc_law_bag.nd rfl (Or.inl rfl)) (fun _ _ _ _ _ => pts_one (pt_cmpR op_ge (pe_callB cz_abs (by rfl) T.abs (by decide +kernel) (pa_cons (pv 2) pa_nil)) (pe_op op_pow pe_int pe_int) (nomark _))) (fun _ _ _ _ _ => (pe_callB cz_abs (by rfl) T.abs (by decide +kernel) (pa_cons (pv 2) pa_nil))))
    (pss_one (ps_ret (pe_op op_cat (pe_lst (pa_cons (pe_callB (cr_sum rfl) (by rfl) T.sum (by decide +kernel) (pa_cons (pe_slice sl_list (pv 1) po_none (po_some pe_int)) pa_nil)) (pa_cons pe_int (pa_cons pe_int pa_nil)))) (pe_slice sl_list (pv 0) po_none (po_some pe_int)))))), ?_⟩
    have hl' : (ns.map V.int).length ≤ 63 := by rw [List.length_map]; exact hl
    have sl : ∀ {σ : L2.St} {H' : Hp}, σ[0]? = some (some (.ref a)) → Ex H H' → EvL (tSl (rSlL K) (tVar 0) tNoPart (tPart (tC (.int 63)))) σ H' (ns.map V.int) := fun h0 e => by
      have g := el_sl (K := K) (lo := none) (hi := some 63) (ev_var h0) eo_none (eo_some ev_c) (ex_l e hS)
      rw [cutV_all hl'] at g
      exact g
    refine q_asgL (xs := (((ns.filter fun i => decide (absI i ≥ 10 ^ 18)).map absI).map V.int)) ?_ fun g H1 ng e1 hg => ?_
    · have e : given (ns.map V.int).length (fun i => decide (absI (ns.getD i 0) ≥ 10 ^ 18)) (fun i => .int (absI (ns.getD i 0))) = ((ns.filter fun i => decide (absI i ≥ 10 ^ 18)).map absI).map V.int := by
        rw [List.length_map, List.map_map]
        exact given_all ns 0 (fun i => decide (absI i ≥ 10 ^ 18)) (fun i => .int (absI i))
      rw [← e]
      refine el_lcNL (fun i => decide (absI (ns.getD i 0) ≥ 10 ^ 18)) (fun i => .int (absI (ns.getD i 0))) (sl rfl (Ex.refl H)) (by omega) (fun _ => rfl) (fun i x H1 e hx => ?_) (fun i x H1 e hx _ => ?_)
      · obtain ⟨hi, rfl⟩ := at_intE hx
        exact et_test (ev_op (ev_abs (ev_var rfl)) (ev_op ev_c ev_c (rv_I ⟨by decide, by decide, by decide⟩)) rv_I0)
      · obtain ⟨hi, rfl⟩ := at_intE hx
        exact ev_abs (ev_var rfl)
    · generalize (ns.filter fun i => decide (absI i ≥ 10 ^ 18)).map absI = gs at hg
      refine s_retL (xs := [.int ((gs.take 1).sum), .int 17, .int 0] ++ ns.map V.int) (el_catLL (xs := [.int ((gs.take 1).sum), .int 17, .int 0]) (zs := ns.map V.int) (el_lst (ea_cons (ev_sumN (ns := gs.take 1) ?_) (ea_cons ev_c (ea_cons ev_c ea_nil))) (by show 3 ≤ _; decide)) (sl rfl e1) (by rw [List.length_map]; show 3 + _ ≤ _; omega)) fun p H2 np e2 hp => q p H2 (fresh_back e1 np) (e1.trans e2) ⟨(gs.take 1).sum, 17, 0, ns, hp, hl⟩
      have g := el_sl (K := K) (te := tVar 1) (tl := tNoPart) (th := tPart (tC (.int 1))) (σ := [some (.ref a), some (.ref g), none]) (H := H1) (lo := none) (hi := some ((1 : Nat) : Int)) (ev_var rfl) eo_none (eo_some ev_c) (sq_of hg)
      rw [cutV_take, ← List.map_take] at g
      exact g
theorem ok_law_takeA (T : Mg mg) (F : FnP K "_law_take" s_law_take f fd) (gm : mg "_law_take" = some (.ref f)) : CTakeA P w K mg base := by
  refine mk F gm (fun _ _ _ _ _ _ us hl => match us, hl with | [_, _], _ => rfl) (fun _ _ _ _ _ _ us hl => match us, hl with | [_, _], _ => rfl) sc_law_take (fun vs H Q E h => ?_) (fun cdv A outer s H vs Q E hr h => ?_)
  · obtain ⟨p, lim, rfl, _⟩ := h
    rfl
  · obtain ⟨p, lim, rfl, ⟨c0, c1, c2, cs, hp, hcs⟩, hl1, hl2, q⟩ := h
    refine ⟨_, (pss_cons (ps_asg (pe_op op_add (pe_ix ix_list (pv 0) pe_int (fun _ _ => rfl)) pe_int) (pg_sub (pv 0) pe_int set_list))
    (pss_cons (ps_if (pt_cmpR op_gt (pe_ix ix_list (pv 0) pe_int (fun _ _ => rfl)) pe_int (nomark _))
      (pss_cons (ps_set (i := 2) sc_law_take.nd rfl (Or.inl rfl) (pe_op op_mod (pe_callTy cz_int1 (by rfl) T.int (by decide +kernel) (pa_cons (pe_ix ix_list (pv 0) pe_int (fun _ _ => rfl)) pa_nil)) (pv 1)))
      (pss_cons (ps_asg (pe_op op_fdiv (pe_ix ix_list (pv 0) pe_int (fun _ _ => rfl)) (pv 1)) (pg_sub (pv 0) pe_int set_list))
      (pss_one (ps_ret (pv 2)))))
      pss_nil)
    (pss_cons (ps_set (i := 3) sc_law_take.nd rfl (Or.inl rfl) pe_int)
    (pss_cons (ps_if (pt_cmpR op_gt (pe_callB call_len_seq (by rfl) T.len (by decide +kernel) (pa_cons (pv 0) pa_nil)) pe_int (nomark _))
      (pss_one (ps_set (i := 3) sc_law_take.nd rfl (Or.inl rfl) (pe_ix ix_list (pv 0) (pe_op op_add pe_int (pe_op op_mod (pe_callTy cz_int1 (by rfl) T.int (by decide +kernel) (pa_cons (pe_ix ix_list (pv 0) pe_int (fun _ _ => rfl)) pa_nil)) (pe_op op_sub (pe_callB call_len_seq (by rfl) T.len (by decide +kernel) (pa_cons (pv 0) pa_nil)) pe_int))) (fun _ _ => rfl))))
      pss_nil)
    (pss_cons (ps_set (i := 4) sc_law_take.nd rfl (Or.inl rfl) (pe_ix ix_list (pv 0) pe_int (fun _ _ => rfl)))
    (pss_cons (ps_set (i := 5) sc_law_take.nd rfl (Or.inl rfl) (pe_op op_add (pv 3) (pe_op op_fdiv (pv 3) (pe_op op_add pe_int (pe_op op_mul (pe_op op_mod (pe_callTy cz_int1 (by rfl) T.int (by decide +kernel) (pa_cons (pe_ix ix_list (pv 0) pe_int (fun _ _ => rfl)) pa_nil)) pe_int) pe_int)))))
    (pss_cons (ps_asg (pe_op op_mod (pe_callTy cz_int1 (by rfl) T.int (by decide +kernel) (pa_cons (pe_op op_add (pe_op op_add (pe_op op_mul (pv 4) pe_int) (pe_op op_mod (pe_callTy cz_int1 (by rfl) T.int (by decide +kernel) (pa_cons (pv 5) pa_nil)) pe_int)) (pe_ix ix_list (pv 0) pe_int (fun _ _ => rfl))) pa_nil)) pe_int) (pg_sub (pv 0) pe_int set_list))
    (pss_one (ps_ret (pe_op op_mod (pe_op op_mod (pe_callTy cz_int1 (by rfl) T.int (by decide +kernel) (pa_cons (pe_op op_add (pe_op op_mul (pe_ix ix_list (pv 0) pe_int (fun _ _ => rfl)) pe_int) (pv 4)) pa_nil)) pe_int) (pv 1))))))))))), ?_⟩
    have L : ∀ {H' : Hp} {b0 b1 b2 : Int}, H' p = some (.lst (.int b0 :: .int b1 :: .int b2 :: cs.map V.int)) → ∀ {σ : L2.St}, σ[0]? = some (some (.ref p)) → Ev (tOp (rIxL K) (tVar 0) (tC (.int 0))) σ H' (.int b0) ∧ Ev (tOp (rIxL K) (tVar 0) (tC (.int 1))) σ H' (.int b1) ∧ Ev (tOp (rIxL K) (tVar 0) (tC (.int 2))) σ H' (.int b2) := fun h _ h0 =>
      ⟨ev_ixL (ev_var h0) ev_c h (atI_nat (j := 0) rfl), ev_ixL (ev_var h0) ev_c h (atI_nat (j := 1) rfl), ev_ixL (ev_var h0) ev_c h (atI_nat (j := 2) rfl)⟩
    refine q_setL (j := 2) hp (ev_op (L hp rfl).2.2 ev_c rv_I0) (ev_var rfl) ev_c (by show 2 < _ + 1 + 1 + 1; omega) fun H1 e1 => ?_
    have hp1 : (upd H1 p (.lst ((.int c0 :: .int c1 :: .int c2 :: cs.map V.int).set 2 (.int (c2 + 1))))) p = some (.lst (.int c0 :: .int c1 :: .int (c2 + 1) :: cs.map V.int)) := upd_same
    have k1 : Keep p H (upd H1 p (.lst ((.int c0 :: .int c1 :: .int c2 :: cs.map V.int).set 2 (.int (c2 + 1))))) := (Keep.of e1).upd
    generalize upd H1 p (.lst ((.int c0 :: .int c1 :: .int c2 :: cs.map V.int).set 2 (.int (c2 + 1)))) = H2 at hp1 k1 ⊢
    generalize c2 + 1 = b2 at hp1 ⊢
    refine q_when (et_test (ev_op (L hp1 rfl).1 ev_c rv_I0)) (fun hb H4 e4 => ?_) (fun hb H4 e4 => ?_)
    · have hp4 := e4 _ _ hp1
      refine q_asg (ev_op (ev_int1 (L hp4 rfl).1) (ev_var rfl) (rv_I (by show 0 < lim; omega))) fun H5 e5 => ?_
      have hp5 := e5 _ _ hp4
      refine q_setL (j := 0) hp5 (ev_op (L hp5 rfl).1 (ev_var rfl) (rv_I (by show 0 < lim ∧ lim < 1073741824; omega))) (ev_var rfl) ev_c (by show 0 < _ + 1 + 1 + 1; omega) fun H6 e6 => ?_
      refine s_ret (ev_var rfl) fun H7 e7 => q _ H7 (Int.emod_nonneg _ (by omega)) (Int.emod_lt_of_pos _ (by omega)) ⟨_, _, _, cs, e7 _ _ upd_same, hcs⟩ ?_
      exact ((k1.trans (Keep.of ((e4.trans e5).trans e6))).upd).trans (Keep.of e7)
    · refine q_asg ev_c fun H5 e5 => ?_
      have e45 := e4.trans e5
      have hp5 := e45 _ _ hp1
      have k5 := k1.trans (Keep.of e45)
      clear e4 e5 e45 hp1 k1 hb hp e1
      refine q_tailIf (fun σ1 Hx => ∃ cell : Int, σ1 = [some (.ref p), some (.int lim), none, some (.int cell), none, none] ∧ Hx p = some (.lst (.int c0 :: .int c1 :: .int b2 :: cs.map V.int)) ∧ Keep p H Hx) (fun σ1 Hx hR => ?_) (fun tail => ?_)
      · obtain ⟨cell, rfl, hx, kx⟩ := hR
        refine q_asg (L hx rfl).2.1 fun H6 e6 => ?_
        have hx6 := e6 _ _ hx
        have hm : 0 ≤ b2 % 5 ∧ b2 % 5 < 5 := ⟨Int.emod_nonneg _ (by decide), Int.emod_lt_of_pos _ (by decide)⟩
        refine q_asg (ev_op (ev_var rfl) (ev_op (ev_var rfl) (ev_op ev_c (ev_op (ev_op (ev_int1 (L hx6 rfl).2.2) ev_c (rv_I (by show (0 : Int) < 5; decide))) ev_c (rv_I (.inl ⟨by omega, by omega⟩))) rv_I0) (rv_I (by show (0 : Int) < 1 + b2 % 5 * 7001 ∧ 1 + b2 % 5 * 7001 < 1073741824; omega))) rv_I0) fun H7 e7 => ?_
        have hx7 := e7 _ _ hx6
        generalize cell + cell / (1 + b2 % 5 * 7001) = feed
        refine q_setL (j := 1) hx7 (ev_op (ev_int1 (ev_op (ev_op (ev_op (ev_var rfl) ev_c (rv_I (.inr ⟨by decide, by decide⟩))) (ev_op (ev_int1 (ev_var rfl)) ev_c (rv_I (by show (0 : Int) < 9973; decide))) rv_I0) (L hx7 rfl).2.2 rv_I0)) ev_c (rv_I (by show (0 : Int) < 9973; decide))) (ev_var rfl) ev_c (by show 1 < _ + 1 + 1 + 1; omega) fun H8 e8 => ?_
        generalize (c1 * 61 + feed % 9973 + b2) % 9973 = d1
        have hx8 : (upd H8 p (.lst ((.int c0 :: .int c1 :: .int b2 :: cs.map V.int).set 1 (.int d1)))) p = some (.lst (.int c0 :: .int d1 :: .int b2 :: cs.map V.int)) := upd_same
        have k8 : Keep p H (upd H8 p (.lst ((.int c0 :: .int c1 :: .int b2 :: cs.map V.int).set 1 (.int d1)))) := (kx.trans (Keep.of ((e6.trans e7).trans e8))).upd
        generalize upd H8 p (.lst ((.int c0 :: .int c1 :: .int b2 :: cs.map V.int).set 1 (.int d1))) = H9 at hx8 k8 ⊢
        refine s_ret (ev_op (ev_op (ev_int1 (ev_op (ev_op (L hx8 rfl).2.1 ev_c (rv_I (.inr ⟨by decide, by decide⟩))) (ev_var rfl) rv_I0)) ev_c (rv_I (by show (0 : Int) < 9967; decide))) (ev_var rfl) (rv_I (by show 0 < lim; omega))) fun Ha ea => q _ Ha (Int.emod_nonneg _ (by omega)) (Int.emod_lt_of_pos _ (by omega)) ⟨_, _, _, cs, ea _ _ hx8, hcs⟩ (k8.trans (Keep.of ea))
      · refine q_if (et_test (ev_op (ev_len (ev_var rfl) (sq_of hp5)) ev_c rv_I0)) (fun hb H6 e6 => ?_) (fun hb H6 e6 => tail _ _ ⟨0, rfl, e6 _ _ hp5, k5.trans (Keep.of e6)⟩)
        have hb := of_decide_eq_true hb
        have hlen : (V.int c0 :: .int c1 :: .int b2 :: cs.map V.int).length = cs.length + 3 := by simp
        rw [hlen] at hb
        have hp6 := e6 _ _ hp5
        have hm : 0 ≤ b2 % (((cs.length + 3 : Nat) : Int) - 3) ∧ b2 % (((cs.length + 3 : Nat) : Int) - 3) < ((cs.length + 3 : Nat) : Int) - 3 := ⟨Int.emod_nonneg _ (by omega), Int.emod_lt_of_pos _ (by omega)⟩
        obtain ⟨v, hv, hm2⟩ := at_int (xs := V.int c0 :: .int c1 :: .int b2 :: cs.map V.int) (d := 3 + b2 % (((cs.length + 3 : Nat) : Int) - 3)) (by omega) (by rw [hlen]; omega)
        obtain ⟨cell, rfl⟩ : ∃ i, v = .int i := by
          simp only [List.mem_cons, List.mem_map] at hm2
          rcases hm2 with h | h | h | ⟨i, _, h⟩
          · exact ⟨_, h⟩
          · exact ⟨_, h⟩
          · exact ⟨_, h⟩
          · exact ⟨i, h.symm⟩
        refine s_asg (v := .int cell) (ev_ixL (ev_var rfl) (i := 3 + b2 % (((cs.length + 3 : Nat) : Int) - 3)) (ev_is (ev_op ev_c (ev_op (ev_int1 (L hp6 rfl).2.2) (ev_op (ev_len (ev_var rfl) (sq_of hp6)) ev_c rv_I0) (rv_I (by rw [hlen]; show (0 : Int) < _; omega))) rv_I0) (by rw [hlen])) hp6 hv) fun H7 e7 => tail _ _ ⟨cell, rfl, e7 _ _ hp6, k5.trans (Keep.of (e6.trans e7))⟩
end
end Z
set_option maxHeartbeats 4000000
namespace Z
open PySem PySem.Spec PyProof.Rows L2 TL Evl
theorem inO {X : Cx} {K : PySem.W.Frag} {op : Value → Value → Sem Value} {r : PySem.W.Frag → R2} (same : X.K = K) (h : OpR X op (r X.K)) : OpR X op (r K) := same ▸ h
def rRmp : V → List V → Hp → VK → Prop := fun x xs H Q => ∃ a b, x = .str a ∧ xs = [.str b] ∧ a.length ≤ sizeLine ∧ Q (.str (Txt.removeprefix a b)) H
theorem mz_rmp {X : Cx} : MtR X "str.removeprefix" rRmp := mt_removeprefix
section
variable {σ : L2.St} {H : Hp} {ta tk : TA} {te to ts : TE} {a s : Str} {p : Addr} {lim : Int} {Q : VK} {E : XK} {D : Ends} {tz : TS} {i : Nat} {sp : Sp} {K : PySem.W.Frag} {d : V}
theorem ev_rmp (h : Ev to σ H (.str a)) (hs : Ev ts σ H (.str s)) (hz : a.length ≤ 100000) : Ev (tBM K "str" rRmp to (tCons ts tNil)) σ H (.str (Txt.removeprefix a s)) := fun H1 e Q q =>
  h H1 e _ fun H2 e2 => ⟨rfl, hs H2 (e.trans e2) _ fun H3 e3 => ⟨a, s, rfl, rfl, sz_of hz, q H3 (e2.trans e3)⟩⟩
theorem ev_minD {ns : List Int} (h : EvL te σ H (ns.map V.int)) : Ev (tCKw (ZX.rMinK K) (tCons te tNil) (tCons (tC .non) tNil)) σ H (oI (minL ns)) := fun H1 e Q q =>
  h H1 e _ fun a H2 na e2 ha => ⟨a, .non, ns, rfl, rfl, sq_of ha, fun e0 => by
    have g := q H2 e2
    rw [minL_none e0] at g
    exact g, fun m h1 h2 => by
    have g := q H2 e2
    rw [minL_some h1 h2] at g
    exact g⟩
theorem ev_anyN {bs : List Bool} (h : EvL te σ H (bs.map V.bl)) : Ev (tCB (rAny K) (tCons te tNil)) σ H (.bl (bs.any id)) := fun H1 e Q q =>
  h H1 e _ fun a H2 na e2 ha => ⟨a, bs, rfl, sq_of ha, q H2 e2⟩
theorem rd_takeA (h : EvA ta σ H [.ref p, .int lim]) (b : BgA H p) (h1 : 1 ≤ lim) (h2 : lim ≤ 1000000) (k : ∀ (d : Int) (H' : Hp), 0 ≤ d → d < lim → BgA H' p → Keep p H H' → Q (.int d) H') : tCall spTakeA [] E ta σ H Q :=
  rd_call h fun H1 e1 => ⟨p, lim, rfl, b.ex e1, h1, h2, fun d H' d0 d1 b2 k2 => k d H' d0 d1 b2 ((Keep.of e1).trans k2)⟩
theorem rd_numA (h : EvA ta σ H [.ref p]) (b : BgA H p) (k : ∀ (d : Int) (H' : Hp), 0 ≤ d → d ≤ 999999 → BgA H' p → Keep p H H' → Q (.int d) H') : tCall spNumA [] E ta σ H Q :=
  rd_call h fun H1 e1 => ⟨p, rfl, b.ex e1, fun d H' d0 d1 b2 k2 => k d H' d0 d1 b2 ((Keep.of e1).trans k2)⟩
end
theorem sgn_len (nm : Str) : (sgn nm).length = nm.length + 1 := by
  unfold sgn
  rw [Str.length_append, show ("=" : Str).length = 1 by decide +kernel]
theorem rmp_len (p s : Str) : (Txt.removeprefix p s).length ≤ p.length := by
  unfold Txt.removeprefix
  split
  · unfold Txt.affix
    dsimp only
    split
    · exact Nat.le_refl _
    · rw [len_tl, tl_strSub, List.length_take, List.length_drop, len_tl]
      omega
  · exact Nat.le_refl _
/-- a list of elements -/
def PsAt (H : Hp) (q : Addr) (ps : List Str) : Prop := H q = some (.lst (ps.map V.str)) ∧ ps.length ≤ 20000 ∧ ∀ p ∈ ps, p.length ≤ 20000
theorem PsAt.ex {H H' : Hp} {q : Addr} {ps : List Str} (h : PsAt H q ps) (e : Ex H H') : PsAt H' q ps := ⟨e _ _ h.1, h.2⟩
def spNN : Sp := fun vs H Q _ => ∃ p s : Str, vs = [.str p, .str s] ∧ p.length ≤ 100000 ∧ RetV (.bl (Txt.startswith p s && (numO (Txt.removeprefix p s)).isNone)) H Q
def spLN : Sp := fun vs H Q _ => ∃ (q : Addr) (nm : Str) (ps : List Str), vs = [.ref q, .str nm] ∧ PsAt H q ps ∧ nm.length ≤ 100 ∧ RetV (oI (leastO nm ps)) H Q
def spLL : Sp := fun vs H Q _ => ∃ (q : Addr) (nm : Str) (ps : List Str), vs = [.ref q, .str nm] ∧ PsAt H q ps ∧ nm.length ≤ 100 ∧ RetV (oI (lifeO nm ps)) H Q
section
variable {P : Program} {w : World} {K : PySem.W.Frag} {mg : Str → Option Value} {base : Heap} {f : Addr} {fd : FuncData} {k : Nat}
theorem ok_is_without_number (c_read_number : C1 P w K mg base 2 "read_number" numV) (F : FnP K "is_without_number" s_is_without_number f fd) (gm : mg "is_without_number" = some (.ref f)) : Call P w K mg base 3 "is_without_number" ["part", "sign"] spNN := by
  refine mk F gm (fun _ _ _ _ _ _ us hl => match us, hl with | [_, _], _ => rfl) (fun _ _ _ _ _ _ us hl => match us, hl with | [_, _], _ => rfl) sc_is_without_number (fun vs H Q E h => ?_) (fun cdv A outer s H vs Q E hr h => ?_)
  · obtain ⟨p, z, rfl, _⟩ := h
    rfl
  · obtain ⟨p, z, rfl, hp, q⟩ := h
    refine ⟨_, (pss_one (ps_ret (pe_and (pe_bm PySem.F.plainAttrs_str PySem.F.slot_str_startswith PySem.F.type_str_startswith mz_starts (pv 0) (pa_cons (pv 1) pa_nil)) (pe_one (pe_cmpR op_isN1 (pe_f c_read_number hr (by decide) rfl (pa_cons (pe_bm PySem.F.plainAttrs_str PySem.F.slot_str_removeprefix PySem.F.type_str_removeprefix mz_rmp (pv 0) (pa_cons (pv 1) pa_nil)) pa_nil)) pe_non (nomark _)))))), ?_⟩
    refine s_ret (ev_andV (ev_starts (ev_var rfl) (ev_var rfl)) fun _ => ev_is (ev_op (ev_call (ea_cons (ev_rmp (ev_var rfl) (ev_var rfl) hp) ea_nil) (sv1 (f := numV) (Nat.le_trans (rmp_len _ _) hp))) ev_c rv_isN) (by rw [numV_oI, oI_non])) q
theorem ok_least_number (T : Mg mg) (c_read_number : C1 P w K mg base 2 "read_number" numV) (F : FnP K "least_number" s_least_number f fd) (gm : mg "least_number" = some (.ref f)) : Call P w K mg base 3 "least_number" ["parts", "name"] spLN := by
  refine mk F gm (fun _ _ _ _ _ _ us hl => match us, hl with | [_, _], _ => rfl) (fun _ _ _ _ _ _ us hl => match us, hl with | [_, _], _ => rfl) sc_least_number (fun vs H Q E h => ?_) (fun cdv A outer s H vs Q E hr h => ?_)
  · obtain ⟨pq, nm, ps, rfl, _⟩ := h
    rfl
  · obtain ⟨pq, nm, ps, rfl, ⟨hq, hn, hps⟩, hnm, q⟩ := h
    refine ⟨_, (pss_cons (ps_set (i := 2) sc_least_number.nd rfl (Or.inr rfl) (pe_op oz_add (pv 1) pe_str))
    (pss_cons (ps_setLc (i := 3) (own := [("part", 4)]) (g := gName 4) rfl sc_least_number.nd rfl rfl (sw_true rfl rfl rfl (by decide +kernel)) (pi_list (pv 0)) (blkOk_by (N := ["parts", "name", "sign", "numbers", "part", "number"]) (sc := L2.defScope s_least_number) (by decide +kernel)) (fun _ _ _ _ _ => pg_name (i := 4) sc_least_number.nd rfl (Or.inl rfl)) (fun _ _ _ _ _ => pts_one (pt_val (inK (K := K) (t := fun K => tBM K "str" rStarts _ _) rfl (pe_bm PySem.F.plainAttrs_str PySem.F.slot_str_startswith PySem.F.type_str_startswith mz_starts (pv 4) (pa_cons (pv 2) pa_nil))))) (fun _ _ _ _ _ => (pe_f c_read_number hr (by decide) rfl (pa_cons (inK (K := K) (t := fun K => tBM K "str" rRmp _ _) rfl (pe_bm PySem.F.plainAttrs_str PySem.F.slot_str_removeprefix PySem.F.type_str_removeprefix mz_rmp (pv 4) (pa_cons (pv 2) pa_nil))) pa_nil))))
    (pss_one (ps_ret (pe_callBK (ZX.cr_minD rfl) (by rfl) T.min (by decide +kernel) (pa_cons (pe_lc (own := [("number", 5)]) (g := gName 5) rfl sc_least_number.nd (pi_list (pv 3)) (blkOk_by (N := ["parts", "name", "sign", "numbers", "part", "number"]) (sc := L2.defScope s_least_number) (by decide +kernel)) (fun _ _ _ _ _ => pg_name (i := 5) sc_least_number.nd rfl (Or.inl rfl)) (fun _ _ _ _ _ => pts_one (pt_cmpR op_notN1 (pv 5) pe_non (nomark _))) (fun _ _ _ _ _ => (pv 5))) pa_nil) (pk_cons pe_non pk_nil)))))), ?_⟩
    refine q_asg (v := .str (sgn nm)) (ev_op (ev_var rfl) ev_c (rv_addS (by rw [show ("=" : Str).length = 1 by decide +kernel]; omega))) fun H1 e1 => ?_
    have hq1 := e1 _ _ hq
    have hk : ∀ i x, (ps.map V.str)[i]? = some x → ∃ p, x = .str p ∧ p = ps.getD i "" ∧ p.length ≤ 20000 := fun i x hx => by
      obtain ⟨hi, ex, hm⟩ := at_str hx ("" : Str)
      exact ⟨_, ex, rfl, hps _ hm⟩
    refine q_asgL (xs := (dirs nm ps).map oI) ?_ fun l H2 nl e2 hl => ?_
    · have e : given (ps.map V.str).length (fun i => Txt.startswith (ps.getD i "") (sgn nm)) (fun i => numV (Txt.removeprefix (ps.getD i "") (sgn nm))) = (dirs nm ps).map oI := by
        rw [List.length_map]
        have := given_all ps ("" : Str) (fun p => Txt.startswith p (sgn nm)) (fun p => numV (Txt.removeprefix p (sgn nm)))
        rw [this]
        unfold dirs
        rw [List.map_map]
        exact List.map_congr_left fun p _ => numV_oI _
      rw [← e]
      refine el_lcL (fun i => Txt.startswith (ps.getD i "") (sgn nm)) (fun i => numV (Txt.removeprefix (ps.getD i "") (sgn nm))) (ev_var rfl) (sq_of hq1) (by rw [List.length_map]; omega) (fun _ => rfl) (fun i x H3 e hx => ?_) (fun i x H3 e hx _ => ?_)
      · obtain ⟨p, rfl, ep, hp⟩ := hk i x hx
        rw [← ep]
        exact et_B (ev_starts (ev_var rfl) (ev_var rfl))
      · obtain ⟨p, rfl, ep, hp⟩ := hk i x hx
        rw [← ep]
        exact ev_call (ea_cons (ev_rmp (ev_var rfl) (ev_var rfl) (by omega)) ea_nil) (sv1 (f := numV) (Nat.le_trans (rmp_len _ _) (by omega)))
    · refine s_ret (v := oI (leastO nm ps)) (ev_minD (ns := nums nm ps) ?_) fun H3 e3 => q H3 ((e1.trans e2).trans e3)
      have hlen : (dirs nm ps).length ≤ 20000 := by
        unfold dirs
        rw [List.length_map]
        exact Nat.le_trans (List.length_filter_le _ _) hn
      have e : given ((dirs nm ps).map oI).length (fun i => !decide (oI ((dirs nm ps).getD i none) = .non)) (fun i => oI ((dirs nm ps).getD i none)) = (nums nm ps).map V.int := by
        rw [List.length_map]
        have := given_all (dirs nm ps) (none : Option Int) (fun o => !decide (oI o = .non)) oI
        rw [this]
        exact keep_ints _
      rw [← e]
      refine el_lcL (fun i => !decide (oI ((dirs nm ps).getD i none) = .non)) (fun i => oI ((dirs nm ps).getD i none)) (ev_var rfl) (sq_of hl) (by rw [List.length_map]; omega) (fun _ => rfl) (fun i x H3 e hx => ?_) (fun i x H3 e hx _ => ?_)
      · obtain ⟨hi, rfl⟩ := at_oI hx
        exact et_test (ev_op (ev_var rfl) ev_c rv_notN)
      · obtain ⟨hi, rfl⟩ := at_oI hx
        exact ev_var rfl
theorem ok_least_lifetime (T : Mg mg) (c_is_without_number : Call P w K mg base 3 "is_without_number" ["part", "sign"] spNN) (c_least_number : Call P w K mg base 3 "least_number" ["parts", "name"] spLN) (F : FnP K "least_lifetime" s_least_lifetime f fd) (gm : mg "least_lifetime" = some (.ref f)) : Call P w K mg base 4 "least_lifetime" ["parts", "name"] spLL := by
  refine mk F gm (fun _ _ _ _ _ _ us hl => match us, hl with | [_, _], _ => rfl) (fun _ _ _ _ _ _ us hl => match us, hl with | [_, _], _ => rfl) sc_least_lifetime (fun vs H Q E h => ?_) (fun cdv A outer s H vs Q E hr h => ?_)
  · obtain ⟨pq, nm, ps, rfl, _⟩ := h
    rfl
  · obtain ⟨pq, nm, ps, rfl, hP, hnm, q⟩ := h
    obtain ⟨hq, hn, hps⟩ := id hP
    refine ⟨_, (pss_cons (ps_if (PW.pt (pw_or (pt_cmpR (inO (K := K) (r := fun K => rIn K false) rfl op_in_seq) (pv 1) (pv 0) rfl) (pw_or1 (pt_val (pe_callB (cr_any rfl) (by rfl) T.any (by decide +kernel) (pa_cons (pe_lc (own := [("part", 2)]) (g := gName 2) (tt := tYes) rfl sc_least_lifetime.nd (pi_list (pv 0)) (blkOk_by (N := ["parts", "name", "part"]) (sc := L2.defScope s_least_lifetime) (by decide +kernel)) (fun _ _ _ _ _ => pg_name (i := 2) sc_least_lifetime.nd rfl (Or.inl rfl)) (fun _ _ _ _ _ => pts_nil) (fun _ _ _ _ _ => (pe_f c_is_without_number hr (by decide) rfl (pa_cons (pv 2) (pa_cons (pe_op oz_add (pv 1) pe_str) pa_nil))))) pa_nil))))))
      (pss_one (ps_ret pe_int))
      pss_nil)
    (pss_one (ps_ret (pe_f c_least_number hr (by decide) rfl (pa_cons (pv 0) (pa_cons (pv 1) pa_nil)))))), ?_⟩
    refine q_when (b := decide (nm ∈ ps) || ps.any (noNum nm)) (et_or (et_is (et_test (ev_op (ev_var rfl) (ev_var rfl) (rv_isL (sq_of hq) rfl (flatS ps)))) (by rw [inV_strs])) fun _ => et_is (b := ps.any (noNum nm)) (et_B (ev_anyN (bs := ps.map (noNum nm)) ?_)) (by rw [List.any_map]; rfl)) (fun hb H1 e1 => ?_) (fun hb H1 e1 => ?_)
    · have e : given (ps.map V.str).length (fun _ => true) (fun i => .bl (noNum nm (ps.getD i ""))) = (ps.map (noNum nm)).map V.bl := by
        rw [List.length_map]
        have := given_all ps ("" : Str) (fun _ => true) (fun p => .bl (noNum nm p))
        rw [this, List.map_map]
        have : ps.filter (fun _ => true) = ps := List.filter_eq_self.mpr fun _ _ => rfl
        rw [this]
        rfl
      rw [← e]
      refine el_lcL (fun _ => true) (fun i => .bl (noNum nm (ps.getD i ""))) (ev_var rfl) (sq_of hq) (by rw [List.length_map]; omega) (fun _ => rfl) (fun i x H3 e hx => et_yes) (fun i x H3 e hx _ => ?_)
      obtain ⟨hi, ex, hm⟩ := at_str hx ("" : Str)
      subst ex
      have := hps _ hm
      exact ev_call (ea_cons (ev_var rfl) (ea_cons (ev_op (ev_var rfl) ev_c (rv_addS (by rw [show ("=" : Str).length = 1 by decide +kernel]; omega))) ea_nil)) fun H4 e4 Q' q' E' => ⟨_, _, rfl, by omega, q'⟩
    · refine s_ret ev_c fun H2 e2 => ?_
      have g := q H2 (e1.trans e2)
      unfold lifeO at g
      rw [if_pos hb] at g
      exact g
    · refine s_ret (ev_call (z := oI (leastO nm ps)) (ea_cons (ev_var rfl) (ea_cons (ev_var rfl) ea_nil)) fun H4 e4 Q' q' E' => ⟨pq, nm, ps, rfl, hP.ex (e1.trans e4), hnm, q'⟩) fun H2 e2 => ?_
      have g := q H2 (e1.trans e2)
      unfold lifeO at g
      rw [hb, if_neg Bool.false_ne_true] at g
      exact g
theorem ok_law_numberA (c_law_take : CTakeA P w K mg base) (F : FnP K "_law_number" s_law_number f fd) (gm : mg "_law_number" = some (.ref f)) : Call P w K mg base 2 "_law_number" ["bag"] spNumA := by
  refine mk F gm (fun _ _ _ _ _ _ us hl => match us, hl with | [_], _ => rfl) (fun _ _ _ _ _ _ us hl => match us, hl with | [_], _ => rfl) sc_law_number (fun vs H Q E h => ?_) (fun cdv A outer s H vs Q E hr h => ?_)
  · obtain ⟨p, rfl, _⟩ := h
    rfl
  · obtain ⟨p, rfl, b, q⟩ := h
    refine ⟨_, (pss_cons (ps_set (i := 1) sc_law_number.nd rfl (Or.inl rfl) (pe_f c_law_take hr (by decide) rfl (pa_cons (pv 0) (pa_cons pe_int pa_nil))))
    (pss_cons (ps_if (pt_cmpR op_eq (pv 1) pe_int (nomark _))
      (pss_one (ps_ret (pe_f c_law_take hr (by decide) rfl (pa_cons (pv 0) (pa_cons pe_int pa_nil)))))
      pss_nil)
    (pss_cons (ps_if (pt_cmpR op_eq (pv 1) pe_int (nomark _))
      (pss_one (ps_ret (pe_f c_law_take hr (by decide) rfl (pa_cons (pv 0) (pa_cons pe_int pa_nil)))))
      pss_nil)
    (pss_cons (ps_if (pt_cmpR op_eq (pv 1) pe_int (nomark _))
      (pss_one (ps_ret (pe_ix ix_list (pe_lst (pa_cons pe_int (pa_cons pe_int (pa_cons pe_int (pa_cons pe_int (pa_cons pe_int (pa_cons pe_int pa_nil))))))) (pe_f c_law_take hr (by decide) rfl (pa_cons (pv 0) (pa_cons pe_int pa_nil))) (fun _ _ => rfl))))
      pss_nil)
    (pss_one (ps_ret (pe_op op_add (pe_op op_mul (pe_f c_law_take hr (by decide) rfl (pa_cons (pv 0) (pa_cons pe_int pa_nil))) pe_int) (pe_f c_law_take hr (by decide) rfl (pa_cons (pv 0) (pa_cons pe_int pa_nil)))))))))), ?_⟩
    have pt : ∀ {σ : L2.St} {H' : Hp} {lim : Int}, σ[0]? = some (some (.ref p)) → EvA (tCons (tVar 0) (tCons (tC (.int lim)) tNil)) σ H' [.ref p, .int lim] := fun h0 => ea_cons (ev_var h0) (ea_cons ev_c ea_nil)
    refine q_asgR (rd_takeA (pt rfl) b (by decide) (by decide) fun wy H1 _ _ b1 k1 => ?_)
    try dsimp only
    refine q_when (et_test (ev_op (ev_var rfl) ev_c rv_eqI)) (fun _ H2 e2 => ?_) (fun _ H2 e2 => ?_)
    · exact g_ret (rd_takeA (pt rfl) (b1.ex e2) (by decide) (by decide) fun d H3 d0 d1 b3 k3 => q d H3 d0 (by omega) b3 ((k1.trans (Keep.of e2)).trans k3))
    · refine q_when (et_test (ev_op (ev_var rfl) ev_c rv_eqI)) (fun _ H3 e3 => ?_) (fun _ H3 e3 => ?_)
      · exact g_ret (rd_takeA (pt rfl) (b1.ex (e2.trans e3)) (by decide) (by decide) fun d H4 d0 d1 b3 k3 => q d H4 d0 (by omega) b3 ((k1.trans (Keep.of (e2.trans e3))).trans k3))
      · refine q_when (et_test (ev_op (ev_var rfl) ev_c rv_eqI)) (fun _ H4 e4 => ?_) (fun _ H4 e4 => ?_)
        · refine g_ret ?_
          refine (el_lst (vs := [.int 0, .int 1, .int 999999, .int 999998, .int 100, .int 10]) (ea_cons ev_c (ea_cons ev_c (ea_cons ev_c (ea_cons ev_c (ea_cons ev_c (ea_cons ev_c ea_nil)))))) (by show 6 ≤ _; decide)) H4 (Ex.refl H4) _ fun l H5 nl e5 hl => ?_
          have bb := b1.ex (((e2.trans e3).trans e4).trans e5)
          refine rd_takeA (pt rfl) bb (by decide) (by decide) fun d H6 d0 d1 b6 k6 => ?_
          have hl6 := k6 _ _ ((b1.ex ((e2.trans e3).trans e4)).ne nl) hl
          obtain ⟨v, hv, hm⟩ := at_int (xs := [V.int 0, .int 1, .int 999999, .int 999998, .int 100, .int 10]) d0 d1
          refine ⟨l, _, d, v, rfl, rfl, sq_of hl6, hv, ?_⟩
          have fin : ∀ i : Int, 0 ≤ i → i ≤ 999999 → Q (.int i) H6 := fun i i0 i1 => q i H6 i0 i1 b6 ((k1.trans (Keep.of (((e2.trans e3).trans e4).trans e5))).trans k6)
          simp only [List.mem_cons, List.not_mem_nil, or_false] at hm
          rcases hm with rfl | rfl | rfl | rfl | rfl | rfl <;> exact fin _ (by decide) (by decide)
        · refine g_ret ?_
          refine rd_takeA (pt rfl) (b1.ex ((e2.trans e3).trans e4)) (by decide) (by decide) fun d H5 d0 d1 b5 k5 => ?_
          refine ⟨d, 1000, rfl, rfl, .inr ⟨by decide, by decide⟩, ?_⟩
          refine rd_takeA (pt rfl) b5 (by decide) (by decide) fun d2 H6 d20 d21 b6 k6 => ?_
          exact ⟨_, _, rfl, rfl, q _ H6 (by omega) (by omega) b6 (((k1.trans (Keep.of ((e2.trans e3).trans e4))).trans k5).trans k6)⟩
end
end Z
set_option maxHeartbeats 4000000
namespace Z
open PySem PySem.Spec PyProof.Rows L2 TL Evl
theorem sc_Di : FnScope ["self", "parts"] ["self", "parts"] (L2.defScope s_Di) := ⟨rfl, rfl, rfl, by decide +kernel, rfl, by decide +kernel, by decide +kernel⟩
theorem sc_Dr : FnScope ["text"] ["text"] (L2.defScope s_Dr) := ⟨rfl, rfl, rfl, by decide +kernel, rfl, by decide +kernel, by decide +kernel⟩
/-- the class of directives -/
structure Wdr (K : PySem.W.Frag) (mg : Str → Option Value) (D : Addr) : Prop where
  m : mg "Directives" = some (.ref D)
  cls : Cls K D
  n0 : NoAttr K D "lasts"
  n1 : NoAttr K D "shared_lasts"
  n2 : NoAttr K D "late"
  n3 : NoAttr K D "on_error"
  n4 : NoAttr K D "age"
  n5 : NoAttr K D "fresh"
  n6 : NoAttr K D "strict"
  n7 : NoAttr K D "check"
  n8 : NoAttr K D "own"
  n9 : NoAttr K D "never"
  n10 : NoAttr K D "kept"
  n11 : NoAttr K D "any_late"
def drFs (ps : List Str) : List (Str × V) := [("lasts", oI (lifeO "lasts" ps)), ("shared_lasts", oI (lifeO "shared-lasts" ps)), ("late", oI (leastO "late" ps)), ("on_error", oI (leastO "on-error" ps)), ("age", oI (leastO "age" ps)), ("fresh", oI (leastO "fresh" ps)), ("strict", .bl (decide (("strict" : Str) ∈ ps))), ("check", .bl (decide (("check" : Str) ∈ ps))), ("own", .bl (decide (("own" : Str) ∈ ps))), ("never", .bl (decide (("never" : Str) ∈ ps))), ("kept", .bl (decide (("kept" : Str) ∈ ps))), ("any_late", .bl (decide (("late" : Str) ∈ ps) && (leastO "late" ps).isNone))]
def DrAt (D : Addr) (H : Hp) (v : V) (ps : List Str) : Prop := ∃ a dx, v = .ref a ∧ H a = some (.ins D dx (drFs ps))
theorem DrAt.ex {D : Addr} {H H' : Hp} {v : V} {ps : List Str} (h : DrAt D H v ps) (e : Ex H H') : DrAt D H' v ps := by
  obtain ⟨a, dx, rfl, ha⟩ := h
  exact ⟨a, dx, rfl, e _ _ ha⟩
def spDi (D : Addr) : Sp := fun vs H Q _ => ∃ (a dx q : Addr) (ps : List Str), vs = [.ref a, .ref q] ∧ H a = some (.ins D dx []) ∧ PsAt H q ps ∧ ∀ H', Keep a H H' → H' a = some (.ins D dx (drFs ps)) → Q .non H'
/-- the text of a field, or None -/
def oS : Option Str → V
  | none => .non
  | some z => .str z
def elO : Option Str → List Str
  | none => []
  | some z => elems z
def spDr (D : Addr) : Sp := fun vs H Q _ => ∃ o : Option Str, vs = [oS o] ∧ (∀ z, o = some z → z.length ≤ 10000) ∧ ∀ v H', Ex H H' → DrAt D H' v (elO o) → Q v H'
structure Dini (P : Program) (w : World) (K : PySem.W.Frag) (mg : Str → Option Value) (base : Heap) (D : Addr) : Prop where
  ex : ∃ fi fd, Mk K D fi ∧ FnOk P w K mg base CX0 5 fi fd ["self", "parts"] (spDi D) ∧ Binds K fd ["self", "parts"] []
theorem elems_le (z : Str) : (elems z).length ≤ z.length + 1 := by
  unfold elems stripped
  exact Nat.le_trans (List.length_filter_le _ _) (by rw [List.length_map]; exact split_len z)
theorem elem_len {z p : Str} (h : p ∈ elems z) : p.length ≤ z.length := by
  unfold elems stripped at h
  obtain ⟨h1, _⟩ := List.mem_filter.mp h
  obtain ⟨p0, h2, rfl⟩ := List.mem_map.mp h1
  exact Nat.le_trans (strip_len _ _) (split_each h2)
section
variable {P : Program} {w : World} {K : PySem.W.Frag} {mg : Str → Option Value} {base : Heap} {f D q : Addr} {fd : FuncData} {σ : L2.St} {H : Hp} {ps : List Str} {nm : Str} {E : XK}
theorem ev_ll (hP : PsAt H q ps) (hn : nm.length ≤ 100) (h : σ[1]? = some (some (.ref q)) := by rfl) : Ev (tCall spLL [] E (tCons (tVar 1) (tCons (tC (.str nm)) tNil))) σ H (oI (lifeO nm ps)) :=
  ev_call (ea_cons (ev_var h) (ea_cons ev_c ea_nil)) fun H1 e Q' q' _ => ⟨q, nm, ps, rfl, hP.ex e, hn, q'⟩
theorem ev_ln (hP : PsAt H q ps) (hn : nm.length ≤ 100) (h : σ[1]? = some (some (.ref q)) := by rfl) : Ev (tCall spLN [] E (tCons (tVar 1) (tCons (tC (.str nm)) tNil))) σ H (oI (leastO nm ps)) :=
  ev_call (ea_cons (ev_var h) (ea_cons ev_c ea_nil)) fun H1 e Q' q' _ => ⟨q, nm, ps, rfl, hP.ex e, hn, q'⟩
theorem ev_b (hP : PsAt H q ps) (h : σ[1]? = some (some (.ref q)) := by rfl) : Ev (tOp (rIn K false) (tC (.str nm)) (tVar 1)) σ H (.bl (decide (nm ∈ ps))) :=
  ev_is (ev_op ev_c (ev_var h) (rv_isL (sq_of hP.1) rfl (flatS ps))) (congrArg V.bl (inV_strs nm ps))
theorem ok_Di (WD : Wdr K mg D) (c_ll : Call P w K mg base 4 "least_lifetime" ["parts", "name"] spLL) (c_ln : Call P w K mg base 3 "least_number" ["parts", "name"] spLN) (F : FunD K "__init__" "Directives.__init__" (L2.defArgs s_Di) (L2.defBody s_Di) (L2.defScope s_Di) [] [] f fd) : FnOk P w K mg base CX0 5 f fd ["self", "parts"] (spDi D) := by
  refine FunD.ok F sc_Di (fun vs H Q E h => ?_) (fun cdv A outer s H vs Q E hr h => ?_)
  · obtain ⟨a, dx, q, ps, rfl, _⟩ := h
    rfl
  · obtain ⟨a, dx, q, ps, rfl, ha, hP, k⟩ := h
    refine ⟨_, pss_cons (ps_fld (pv 0) (pe_f c_ll hr (by decide) rfl (pa_cons (pv 1) (pa_cons pe_str pa_nil))) rfl)
      (pss_cons (ps_fld (pv 0) (pe_f c_ll hr (by decide) rfl (pa_cons (pv 1) (pa_cons pe_str pa_nil))) rfl)
      (pss_cons (ps_fld (pv 0) (pe_f c_ln hr (by decide) rfl (pa_cons (pv 1) (pa_cons pe_str pa_nil))) rfl)
      (pss_cons (ps_fld (pv 0) (pe_f c_ln hr (by decide) rfl (pa_cons (pv 1) (pa_cons pe_str pa_nil))) rfl)
      (pss_cons (ps_fld (pv 0) (pe_f c_ln hr (by decide) rfl (pa_cons (pv 1) (pa_cons pe_str pa_nil))) rfl)
      (pss_cons (ps_fld (pv 0) (pe_f c_ln hr (by decide) rfl (pa_cons (pv 1) (pa_cons pe_str pa_nil))) rfl)
      (pss_cons (ps_fld (pv 0) (pe_cmpR op_in_seq pe_str (pv 1) rfl) rfl)
      (pss_cons (ps_fld (pv 0) (pe_cmpR op_in_seq pe_str (pv 1) rfl) rfl)
      (pss_cons (ps_fld (pv 0) (pe_cmpR op_in_seq pe_str (pv 1) rfl) rfl)
      (pss_cons (ps_fld (pv 0) (pe_cmpR op_in_seq pe_str (pv 1) rfl) rfl)
      (pss_cons (ps_fld (pv 0) (pe_cmpR op_in_seq pe_str (pv 1) rfl) rfl)
      (pss_one (ps_fld (pv 0) (pe_and (pe_cmpR op_in_seq pe_str (pv 1) rfl) (pe_one (pe_cmpR op_isN1 (pe_fld (pv 0) rfl) pe_non (nomark _)))) rfl)))))))))))), ?_⟩
    have S : Stay D a dx (fun H => q ≠ a ∧ PsAt H q ps) := ⟨fun j e => ⟨j.1, j.2.ex e⟩, fun j _ => ⟨j.1, by rw [PsAt, upd_ne j.1]; exact j.2⟩⟩
    have nq : q ≠ a := fun e => by
      have h1 := hP.1
      rw [e, ha] at h1
      cases h1
    have i0 : OwnI D a dx (fun H => q ≠ a ∧ PsAt H q ps) [] H H := ⟨Keep.of (Ex.refl H), ha, nq, hP⟩
    refine q_fldS S i0 WD.cls WD.n0 rfl (ev_ll i0.j.2 (by decide +kernel)) fun H1 i1 => ?_
    refine q_fldS S i1 WD.cls WD.n1 rfl (ev_ll i1.j.2 (by decide +kernel)) fun H2 i2 => ?_
    refine q_fldS S i2 WD.cls WD.n2 rfl (ev_ln i2.j.2 (by decide +kernel)) fun H3 i3 => ?_
    refine q_fldS S i3 WD.cls WD.n3 rfl (ev_ln i3.j.2 (by decide +kernel)) fun H4 i4 => ?_
    refine q_fldS S i4 WD.cls WD.n4 rfl (ev_ln i4.j.2 (by decide +kernel)) fun H5 i5 => ?_
    refine q_fldS S i5 WD.cls WD.n5 rfl (ev_ln i5.j.2 (by decide +kernel)) fun H6 i6 => ?_
    refine q_fldS S i6 WD.cls WD.n6 rfl (ev_b i6.j.2) fun H7 i7 => ?_
    refine q_fldS S i7 WD.cls WD.n7 rfl (ev_b i7.j.2) fun H8 i8 => ?_
    refine q_fldS S i8 WD.cls WD.n8 rfl (ev_b i8.j.2) fun H9 i9 => ?_
    refine q_fldS S i9 WD.cls WD.n9 rfl (ev_b i9.j.2) fun H10 i10 => ?_
    refine q_fldS S i10 WD.cls WD.n10 rfl (ev_b i10.j.2) fun H11 i11 => ?_
    refine s_fldS S i11 WD.cls WD.n11 rfl (ev_andV (ev_b i11.j.2) fun _ => ev_is (ev_op (ev_fldO WD.cls WD.n2 (ev_var rfl) i11.ha rfl) ev_c rv_isN) (by rw [oI_non])) fun H12 i12 => ?_
    exact k H12 i12.kp i12.ha
theorem ok_Dr (WD : Wdr K mg D) (DI : Dini P w K mg base D) (c_list_elements : Call P w K mg base 1 "list_elements" ["text"] (sp1L fun z => (elems z).map V.str)) (F : FunD K "read" "Directives.read" (L2.defArgs s_Dr) (L2.defBody s_Dr) (L2.defScope s_Dr) [] [] f fd) : FnOk P w K mg base CX0 7 f fd ["text"] (spDr D) := by
  obtain ⟨fi, fdi, M, Fi, bi⟩ := DI.ex
  refine FunD.ok F sc_Dr (fun vs H Q E h => ?_) (fun cdv A outer s H vs Q E hr h => ?_)
  · obtain ⟨o, rfl, _⟩ := h
    rfl
  · obtain ⟨o, rfl, hz, k⟩ := h
    refine ⟨_, pss_cons (ps_if (pt_cmpR op_isN1 (pv 0) pe_non (nomark _)) (pss_one (ps_ret (pe_make M Fi (hr.mono (by decide)) rfl WD.m bi .nil pass0 (pa_cons (pe_lst pa_nil) pa_nil)))) pss_nil) (pss_one (ps_ret (pe_make M Fi (hr.mono (by decide)) rfl WD.m bi .nil pass0 (pa_cons (pe_f c_list_elements hr (by decide) rfl (pa_cons (pv 0) pa_nil)) pa_nil)))), ?_⟩
    have fin : ∀ {H1 : Hp} {q : Addr} {ps : List Str}, Ex H H1 → PsAt H1 q ps → ps = elO o → ∀ x dx, H1 x = none → H1 dx = none → dx ≠ x → spDi D [.ref x, .ref q] (upd (upd H1 dx (.own x)) x (.ins D dx [])) (fun v H2 => v = .non ∧ Q (.ref x) H2) E := fun {H1 q ps} e1 hP hps x dx hx hd hne => by
      have e0 : Ex H1 (upd (upd H1 dx (.own x)) x (.ins D dx [])) := fun c o hc => by
        rw [upd_ne (ne_of_none hc hx), upd_ne (ne_of_none hc hd)]
        exact hc
      refine ⟨x, dx, q, ps, rfl, upd_same, hP.ex e0, fun H' kp ha => ⟨rfl, k _ H' (fun c o h => ?_) ⟨x, dx, rfl, by rw [← hps]; exact ha⟩⟩⟩
      have h1 := e1 _ _ h
      exact kp c o (ne_of_none h1 hx) (e0 c o h1)
    cases o with
    | none =>
      refine q_when (b := true) (et_is (et_test (ev_op (ev_var rfl) ev_c rv_isN)) rfl) (fun _ H1 e1 => ?_) (fun h => nomatch h)
      refine g_ret (rd_mk (rd_consLs (el_lst ea_nil (by show 0 ≤ _; decide)) fun q H2 nq e2 hq => rd_nil (fin (e1.trans e2) (ps := []) ⟨hq, by show 0 ≤ _; decide, fun p hp => nomatch hp⟩ rfl)))
    | some z =>
      have hz := hz z rfl
      refine q_when (b := false) (et_is (et_test (ev_op (ev_var rfl) ev_c rv_isN)) (decide_eq_false fun h => nomatch h)) (fun h => nomatch h) (fun _ H1 e1 => ?_)
      refine g_ret (rd_mk (rd_consLs (el_call (ea_cons (ev_var rfl) ea_nil) (sl1 hz)) fun q H2 nq e2 hq => rd_nil (fin (e1.trans e2) (ps := elems z) ⟨hq, ?_, fun p hp => ?_⟩ rfl)))
      · have := elems_le z
        omega
      · have := elem_len hp
        omega
end
end Z
set_option maxHeartbeats 4000000
namespace Z
open PySem PySem.Spec PyProof.Rows L2 TL Evl NdefX
/-! ### bodies of classes, messages -/
/-- the base class of messages -/
structure Wb (K : PySem.W.Frag) (mg : Str → Option Value) (B : Addr) : Prop where
  m : mg "Message" = some (.ref B)
  rd : ClX.CRead K B (.type "type")
  mf : ∃ u, ClX.CVal K B (.type "type") "MOST_FIELDS" (.int 40) u
  mb : ∃ u, ClX.CVal K B (.type "type") "MOST_BODY" (.int 100000) u
/-- the class of responses -/
structure Ws (K : PySem.W.Frag) (mg : Str → Option Value) (R : Addr) : Prop where
  m : mg "Response" = some (.ref R)
  cls : Cls K R
  n1 : NoAttr K R "_first_line"
  n2 : NoAttr K R "_has_body"
  n3 : NoAttr K R "fields"
  n4 : NoAttr K R "body"
  n5 : NoAttr K R "status"
  rd : ClX.CRead K R (.type "type")
  st : ∃ p, ClX.CVal K R (.type "type") "STATUSES" (.ref p) (.ref p) ∧ ∀ H, SqT K H p (stL.map V.str)
def spAre : Sp := fun vs H Q _ => ∃ (q : Addr) (fs : Fs), vs = [.ref q] ∧ FsAt H q fs ∧ lenF fs ∧ fs.length ≤ 40000 ∧ RetV (.bl (areB fs)) H Q
def msFs (fl : Str) (hb : Bool) (v : V) (b : Str) : List (Str × V) := [("_first_line", .str fl), ("_has_body", .bl hb), ("fields", v), ("body", .str b)]
def rsFs (fl : Str) (hb : Bool) (v : V) (b s : Str) : List (Str × V) := [("_first_line", .str fl), ("_has_body", .bl hb), ("fields", v), ("body", .str b), ("status", .str s)]
theorem ms_put (fl : Str) (hb : Bool) (v : V) (b : Str) : putF "body" (.str b) (putF "fields" v (putF "_has_body" (.bl hb) (putF "_first_line" (.str fl) []))) = msFs fl hb v b := by rfl
theorem rs_put (fl : Str) (hb : Bool) (v : V) (b s : Str) : putF "status" (.str s) (msFs fl hb v b) = rsFs fl hb v b s := by rfl
/-- Message.__init__ on an object of the class R -/
def spMs (R : Addr) : Sp := fun vs H Q _ => ∃ (a dx q : Addr) (fl b : Str) (hb : Bool) (fs : Fs), vs = [.ref a, .str fl, .bl hb, .ref q, .str b] ∧ H a = some (.ins R dx []) ∧ FsAt H q fs ∧ areB fs = true ∧ b.length ≤ 100000 ∧ bodyB b = true ∧ (b = "" ∨ hb = true) ∧
  ∀ l H', H l = none → Keep a H H' → H' a = some (.ins R dx (msFs fl hb (.ref l) b)) → FsAt H' l fs → Q .non H'
def ansL (s : Str) : Str := [("answer " : Str), s].foldl (· ++ ·) Str.empty
def hasBd (s : Str) : Bool := !inV (.str s) ([("same" : Str), "done"].map V.str)
def okRs (s : Str) (fs : Fs) (b : Str) : Prop := s ∈ stL ∧ areB fs = true ∧ b.length ≤ 100000 ∧ bodyB b = true ∧ (b = "" ∨ hasBd s = true)
def spRs (R : Addr) : Sp := fun vs H Q _ => ∃ (a dx q : Addr) (s b : Str) (fs : Fs), vs = [.ref a, .str s, .ref q, .str b] ∧ H a = some (.ins R dx []) ∧ FsAt H q fs ∧ okRs s fs b ∧
  ∀ l H', H l = none → Keep a H H' → H' a = some (.ins R dx (rsFs (ansL s) (hasBd s) (.ref l) b s)) → FsAt H' l fs → Q .non H'
/-- an object of the class R with what Message.__init__ looks for -/
structure Wm (K : PySem.W.Frag) (R : Addr) : Prop where
  cls : Cls K R
  n1 : NoAttr K R "_first_line"
  n2 : NoAttr K R "_has_body"
  n3 : NoAttr K R "fields"
  n4 : NoAttr K R "body"
theorem Ws.wm {K : PySem.W.Frag} {mg : Str → Option Value} {R : Addr} (h : Ws K mg R) : Wm K R := ⟨h.cls, h.n1, h.n2, h.n3, h.n4⟩
/-- the class of requests -/
structure Wq (K : PySem.W.Frag) (mg : Str → Option Value) (R : Addr) : Prop where
  m : mg "Request" = some (.ref R)
  wm : Wm K R
  n5 : NoAttr K R "method"
  n6 : NoAttr K R "path"
  rd : ClX.CRead K R (.type "type")
  st : ∃ p, ClX.CVal K R (.type "type") "METHODS" (.ref p) (.ref p) ∧ ∀ H, SqT K H p (mdL.map V.str)
def exB (ex : List (Str × V)) : Prop := (∃ s : Str, ex = [(("status" : Str), V.str s)]) ∨ ∃ m p : Str, ex = [(("method" : Str), V.str m), (("path" : Str), V.str p)]
/-- a message with these fields -/
def RsAt (R : Addr) (H : Hp) (v : V) (fs : Fs) : Prop := ∃ a dx l fl hb b ex, v = .ref a ∧ H a = some (.ins R dx (msFs fl hb (.ref l) b ++ ex)) ∧ exB ex ∧ FsAt H l fs
theorem RsAt.ex {R : Addr} {H H' : Hp} {v : V} {fs : Fs} (h : RsAt R H v fs) (e : Ex H H') : RsAt R H' v fs := by
  obtain ⟨a, dx, l, fl, hb, b, s, rfl, ha, hx, hf⟩ := h
  exact ⟨a, dx, l, fl, hb, b, s, rfl, e _ _ ha, hx, hf.ex e⟩
theorem ms_fields {fl b : Str} {hb : Bool} {l : Addr} {ex : List (Str × V)} : (msFs fl hb (.ref l) b ++ ex).lookup ("fields" : Str) = some (.ref l) := rfl
theorem ms_none {fl b : Str} {hb : Bool} {v : V} {ex : List (Str × V)} (h : exB ex) : (msFs fl hb v b ++ ex).lookup ("all_values" : Str) = none ∧ (msFs fl hb v b ++ ex).lookup ("joined" : Str) = none := by
  rcases h with ⟨s, rfl⟩ | ⟨m, p, rfl⟩
  · exact ⟨rfl, rfl⟩
  · exact ⟨rfl, rfl⟩
def asL (m p : Str) : Str := [("ask " : Str), m, " ", p].foldl (· ++ ·) Str.empty
def okRq (m p : Str) (fs : Fs) : Prop := m ∈ mdL ∧ pathB p = true ∧ p.length ≤ 60 ∧ areB fs = true
/-- Request(m, p, fields) -/
def spRq (R : Addr) : Sp := fun vs H Q _ => ∃ (a dx q : Addr) (m p : Str) (fs : Fs), vs = [.ref a, .str m, .str p, .ref q, .str ""] ∧ H a = some (.ins R dx []) ∧ FsAt H q fs ∧ okRq m p fs ∧
  ∀ l H', H l = none → Keep a H H' → H' a = some (.ins R dx (msFs (asL m p) (decide (m = ("put" : Str))) (.ref l) "" ++ [(("method" : Str), V.str m), (("path" : Str), V.str p)])) → FsAt H' l fs → Q .non H'
def spAv (R : Addr) : Sp := fun vs H Q _ => ∃ v n fs, vs = [v, .str n] ∧ RsAt R H v fs ∧ fs.length ≤ 40 ∧ RetL ((valsF fs n).map V.str) H Q
def spJn (R : Addr) : Sp := fun vs H Q _ => ∃ v n fs, vs = [v, .str n] ∧ RsAt R H v fs ∧ areB fs = true ∧ RetV (optV (joinF fs n)) H Q
structure Mb (P : Program) (w : World) (K : PySem.W.Frag) (mg : Str → Option Value) (base : Heap) (B R : Addr) : Prop where
  ex : ∃ g fd, ZX.CFn K B (.type "type") "__init__" g ∧ FnOk P w K mg base CX0 5 g fd ["self", "first_line", "has_body", "fields", "body"] (spMs R) ∧ Binds K fd ["self", "first_line", "has_body", "fields", "body"] []
structure Rm1 (P : Program) (w : World) (K : PySem.W.Frag) (mg : Str → Option Value) (base : Heap) (R : Addr) : Prop where
  ex : ∃ fv dv, Meth K R "all_values" fv ∧ FnOk P w K mg base CX0 1 fv dv ["self", "name"] (spAv R) ∧ Binds K dv ["self", "name"] []
theorem sc_Mi : FnScope ["self", "first_line", "has_body", "fields", "body", "name", "value"] ["self", "first_line", "has_body", "fields", "body"] (L2.defScope s_Mi) := ⟨rfl, rfl, rfl, by decide +kernel, rfl, by decide +kernel, by decide +kernel⟩
theorem sc_Rs : FnScope ["self", "status", "fields", "body"] ["self", "status", "fields", "body"] (L2.defScope s_Rs) := ⟨rfl, rfl, rfl, by decide +kernel, rfl, by decide +kernel, by decide +kernel⟩
theorem sc_Mv : FnScope ["self", "name", "own", "value"] ["self", "name"] (L2.defScope s_Mv) := ⟨rfl, rfl, rfl, by decide +kernel, rfl, by decide +kernel, by decide +kernel⟩
theorem sc_Mj : FnScope ["self", "name", "found"] ["self", "name"] (L2.defScope s_Mj) := ⟨rfl, rfl, rfl, by decide +kernel, rfl, by decide +kernel, by decide +kernel⟩
theorem st_len {s : Str} (h : s ∈ stL) : s.length ≤ 10 := by
  simp only [stL, List.mem_cons, List.not_mem_nil, or_false] at h
  rcases h with rfl | rfl | rfl | rfl | rfl | rfl | rfl | rfl | rfl <;> decide +kernel
section
variable {P : Program} {w : World} {K : PySem.W.Frag} {mg : Str → Option Value} {base : Heap} {f B R C L DV DM DH : Addr} {fd : FuncData} {k : Nat}
theorem ok_is_plain_lines (T : Mg mg) (c_is_plain : Call P w K mg base 1 "is_plain" ["text"] (sp1 fun z => .bl (allIn z signs))) (F : FnP K "is_plain_lines" s_is_plain_lines f fd) (gm : mg "is_plain_lines" = some (.ref f)) : Call P w K mg base 2 "is_plain_lines" ["text"] (sp1 fun z => .bl (linesB z)) := by
  refine mkT F gm (fun _ _ _ _ _ _ us hl => match us, hl with | [_], _ => rfl) (fun _ _ _ _ _ _ us hl => match us, hl with | [_], _ => rfl) sc_is_plain_lines (by decide +kernel) (by decide) (fun vs H Q E h => ?_) (fun cdv A outer s H vs Q E hr h => ?_)
  · obtain ⟨z, rfl, _⟩ := h
    rfl
  · obtain ⟨z, rfl, hz, q⟩ := h
    refine ⟨_, CwR.psst_one (CwR.pst_ret (pet_f c_is_plain hr (by decide) rfl (pat_cons (CwR.pet_replC (pv 0)) pat_nil))), ?_⟩
    refine s_ret (v := .bl (linesB z)) (ev_is (ev_call (ea_cons (ev_replC (ev_var rfl) hz) ea_nil) (sv1 (f := fun z => .bl (allIn z signs)) (Nat.le_trans (repl_len z) hz))) (congrArg V.bl (lines_eq z))) q
theorem ok_is_body (T : Mg mg) (MB : Wb K mg B) (c_is_plain_lines : Call P w K mg base 2 "is_plain_lines" ["text"] (sp1 fun z => .bl (linesB z))) (F : FnP K "is_body" s_is_body f fd) (gm : mg "is_body" = some (.ref f)) : Call P w K mg base 3 "is_body" ["text"] (sp1 fun z => .bl (bodyB z)) := by
  refine mk F gm (fun _ _ _ _ _ _ us hl => match us, hl with | [_], _ => rfl) (fun _ _ _ _ _ _ us hl => match us, hl with | [_], _ => rfl) sc_is_body (fun vs H Q E h => ?_) (fun cdv A outer s H vs Q E hr h => ?_)
  · obtain ⟨z, rfl, _⟩ := h
    rfl
  · obtain ⟨z, rfl, hz, q⟩ := h
    obtain ⟨u, hu⟩ := MB.mb
    refine ⟨_, (pss_one (ps_ret (pe_and (pe_cmpR op_le (pe_callB cz_len (by rfl) T.len (by decide +kernel) (pa_cons (pv 0) pa_nil)) (ClX.pe_cval (pe_gc (v := .ref B) rfl ⟨_, MB.m, rfl⟩)) (nomark _)) (pe_one (pe_f c_is_plain_lines hr (by decide) rfl (pa_cons (pv 0) pa_nil)))))), ?_⟩
    exact s_ret (v := .bl (bodyB z)) (ev_andV (ev_op (ev_lenStr (ev_var rfl) hz) (ev_cval ev_c MB.rd hu) rv_I0) fun _ => ev_call (ea_cons (ev_var rfl) ea_nil) (sv1 hz)) q
theorem ok_are_fields (T : Mg mg) (MB : Wb K mg B) (c_is_field_name : Call P w K mg base 3 "is_field_name" ["text"] (sp1 fun z => .bl (nameB z))) (c_is_value : Call P w K mg base 2 "is_value" ["text"] (sp1 fun z => .bl (valueB z))) (F : FnP K "are_fields" s_are_fields f fd) (gm : mg "are_fields" = some (.ref f)) :
    Call P w K mg base 4 "are_fields" ["fields"] spAre := by
  refine mk F gm (fun _ _ _ _ _ _ us hl => match us, hl with | [_], _ => rfl) (fun _ _ _ _ _ _ us hl => match us, hl with | [_], _ => rfl) sc_are_fields (fun vs H Q E h => ?_) (fun cdv A outer s H vs Q E hr h => ?_)
  · obtain ⟨q, fs, rfl, _⟩ := h
    rfl
  · obtain ⟨q, fs, rfl, ⟨xs, hx, hxr⟩, hln, hz, kq⟩ := h
    obtain ⟨u, hu⟩ := MB.mf
    refine ⟨_, (pss_cons (ps_if (pt_cmpR op_gt (pe_callB call_len_seq (by rfl) T.len (by decide +kernel) (pa_cons (pv 0) pa_nil)) (ClX.pe_cval (pe_gc (v := .ref B) rfl ⟨_, MB.m, rfl⟩)) (nomark _))
      (pss_one (ps_ret pe_bl))
      pss_nil)
    (pss_one (ps_ret (pe_callB (cr_all rfl) (by rfl) T.all (by decide +kernel) (pa_cons (pe_lc (own := [("name", 1), ("value", 2)]) (g := (gTup K 2 (gCons (gName 1) (gCons (gName 2) gNil)))) (tt := tYes) rfl sc_are_fields.nd (pi_list (pv 0)) (blkOk_by (N := ["fields", "name", "value"]) (sc := L2.defScope s_are_fields) (by decide +kernel)) (fun _ _ _ _ _ => pg_tup rfl (pgs_cons (pg_name (i := 1) sc_are_fields.nd rfl (Or.inl rfl)) (pgs_cons (pg_name (i := 2) sc_are_fields.nd rfl (Or.inl rfl)) pgs_nil))) (fun _ _ _ _ _ => pts_nil) (fun _ _ _ _ _ => (pe_and (pe_f c_is_field_name hr (by decide) rfl (pa_cons (pv 1) pa_nil)) (pe_one (pe_f c_is_value hr (by decide) rfl (pa_cons (pv 2) pa_nil)))))) pa_nil))))), ?_⟩
    refine q_when (b := decide (¬ fs.length ≤ 40)) (et_is (et_test (ev_op (ev_len (ev_var rfl) (sq_of hx)) (ev_cval ev_c MB.rd hu) rv_I0)) (decide_eq_decide.mpr (by rw [hxr.1]; omega))) (fun hb H1 e1 => ?_) (fun hb H1 e1 => ?_)
    · have h0 : areB fs = false := by
        unfold areB
        rw [decide_eq_false (of_decide_eq_true hb), Bool.false_and]
      refine s_ret ev_c fun H2 e2 => ?_
      have g := kq H2 (e1.trans e2)
      rw [h0] at g
      exact g
    · have h0 : areB fs = fs.all fieldB := by
        unfold areB
        rw [decide_eq_true (Decidable.not_not.mp (of_decide_eq_false hb)), Bool.true_and]
      refine s_ret (v := .bl (fs.all fieldB)) (all_ev (gB := fieldB) (ev_var rfl) (e1 _ _ hx) (hxr.mono fun _ _ m => TupAt.ex m e1) hz fun x o H2 hm e2 hxo k hk => ?_) fun H2 e2 => ?_
      · obtain ⟨t, rfl, ht⟩ := hxo
        obtain ⟨l1, l2⟩ := hln o hm
        refine ⟨t, _, rfl, st_of ht, rfl, _, _, rfl, _, _, rfl, rfl, rfl, ?_⟩
        exact (ev_andV (ev_call (ea_cons (ev_var rfl) ea_nil) (sv1 l1)) fun _ => ev_call (ea_cons (ev_var rfl) ea_nil) (sv1 l2)) H2 (Ex.refl H2) _ fun H3 e3 => hk H3 e3
      · have g := kq H2 (e1.trans e2)
        rw [h0] at g
        exact g
theorem ok_Mi (T : Mg mg) (WR : Wm K R) (c_are_fields : Call P w K mg base 4 "are_fields" ["fields"] spAre) (c_is_body : Call P w K mg base 3 "is_body" ["text"] (sp1 fun z => .bl (bodyB z)))
    (F : FunD K "__init__" "Message.__init__" (L2.defArgs s_Mi) (L2.defBody s_Mi) (L2.defScope s_Mi) [] [] f fd) : FnOk P w K mg base CX0 5 f fd ["self", "first_line", "has_body", "fields", "body"] (spMs R) := by
  refine FunD.ok F sc_Mi (fun vs H Q E h => ?_) (fun cdv A outer s H vs Q E hr h => ?_)
  · obtain ⟨a, dx, q, fl, b, hb, fs, rfl, _⟩ := h
    rfl
  · obtain ⟨a, dx, q, fl, b, hb, fs, rfl, ha, hf, hok, hbl, hbb, hbm, k⟩ := h
    obtain ⟨hln, hn⟩ := areB_len hok
    refine ⟨_, pss_cons (ps_if (pt_not (pt_val (pe_f c_are_fields hr (by decide) rfl (pa_cons (pv 3) pa_nil)))) (pss_one ZX.ps_never) pss_nil)
      (pss_cons (ps_if (PW.pt (pw_or (pt_not (pt_val (pe_f c_is_body hr (by decide) rfl (pa_cons (pv 4) pa_nil)))) (pw_or1 (PW.pt (pw_and (pt_cmpR op_ne (pv 4) pe_str (nomark _)) (pw_and1 (pt_not (pt_truth (pv 2) (by intro _; rfl)))))))))
        (pss_one ZX.ps_never) pss_nil)
      (pss_cons (ps_fld (pv 0) (pv 1) rfl)
      (pss_cons (ps_fld (pv 0) (pv 2) rfl)
      (pss_cons (ps_fld (pv 0) (pe_lc (own := [("name", 5), ("value", 6)]) (g := gTup K 2 (gCons (gName 5) (gCons (gName 6) gNil))) (tt := tYes) rfl sc_Mi.nd (pi_list (pv 3)) (blkOk_by (N := ["self", "first_line", "has_body", "fields", "body", "name", "value"]) (sc := L2.defScope s_Mi) (by decide +kernel)) (fun _ _ _ _ _ => pg_tup rfl (pgs_cons (pg_name (i := 5) sc_Mi.nd rfl (Or.inl rfl)) (pgs_cons (pg_name (i := 6) sc_Mi.nd rfl (Or.inl rfl)) pgs_nil))) (fun _ _ _ _ _ => pts_nil) (fun _ _ _ _ _ => pe_tup (pa_cons (pv 5) (pa_cons (pv 6) pa_nil)))) rfl)
      (pss_one (ps_fld (pv 0) (pv 4) rfl)))))), ?_⟩
    refine q_when (b := false) (et_is (et_not (et_B (ev_call (ea_cons (ev_var rfl) ea_nil) (z := .bl (areB fs)) fun H1 e Q' q' E' => ⟨q, fs, rfl, hf.ex e, hln, by omega, q'⟩))) (by rw [hok]; rfl)) (fun h => nomatch h) (fun _ H1 e1 => ?_)
    refine q_when (b := false) (et_is (et_or (a := false) (et_is (et_not (et_B (ev_call (ea_cons (ev_var rfl) ea_nil) (sv1 (f := fun z => .bl (bodyB z)) hbl)))) (by rw [hbb]; rfl)) fun _ => et_is (b := false) (et_and (et_test (ev_op (ev_var rfl) ev_c rv_neS)) fun _ => et_not (et_truB (ev_var rfl))) (by
      rcases hbm with h | h
      · rw [h, decide_eq_true rfl]; rfl
      · rw [h, Bool.not_true, Bool.and_false])) rfl) (fun h => nomatch h) (fun _ H2 e2 => ?_)
    have e12 := e1.trans e2
    have ha2 := e12 _ _ ha
    refine q_in ?_; dsimp only
    refine ⟨.str fl, rfl, .ref a, rfl, a, R, dx, [], rfl, ha2, WR.cls, WR.n1, by decide, ?_⟩
    refine q_in ?_; dsimp only
    refine ⟨.bl hb, rfl, .ref a, rfl, a, R, dx, _, rfl, upd_same, WR.cls, WR.n2, by show 1 < 1000; decide, ?_⟩
    refine q_in ?_; dsimp only
    have k2 : Keep a H (upd (upd H2 a (.ins R dx (putF "_first_line" (.str fl) []))) a (.ins R dx (putF "_has_body" (.bl hb) (putF "_first_line" (.str fl) [])))) := (Keep.of e12).upd.upd
    have f2 : FsAt (upd (upd H2 a (.ins R dx (putF "_first_line" (.str fl) []))) a (.ins R dx (putF "_has_body" (.bl hb) (putF "_first_line" (.str fl) [])))) q fs := ((hf.ex e12).updI ha2).updI upd_same
    have a2 : (upd (upd H2 a (.ins R dx (putF "_first_line" (.str fl) []))) a (.ins R dx (putF "_has_body" (.bl hb) (putF "_first_line" (.str fl) [])))) a = some (.ins R dx (putF "_has_body" (.bl hb) (putF "_first_line" (.str fl) []))) := upd_same
    have nl0 : ∀ l, (upd (upd H2 a (.ins R dx (putF "_first_line" (.str fl) []))) a (.ins R dx (putF "_has_body" (.bl hb) (putF "_first_line" (.str fl) [])))) l = none → l ≠ a ∧ H l = none := fun l hl => by
      have na : l ≠ a := fun e => by
        rw [e, a2] at hl
        cases hl
      rw [upd_ne na, upd_ne na] at hl
      exact ⟨na, fresh_back e12 hl⟩
    generalize upd (upd H2 a (.ins R dx (putF "_first_line" (.str fl) []))) a (.ins R dx (putF "_has_body" (.bl hb) (putF "_first_line" (.str fl) []))) = H3 at k2 f2 a2 nl0
    refine g_fld (fields_new (by rfl) f2 (by omega) (by intro _ _; rfl) (by intro _ _; rfl) (by intro _ _; rfl) fun l H4 nl e4 hl => ?_)
    obtain ⟨nla, nlH⟩ := nl0 l nl
    have a4 := e4 _ _ a2
    refine ⟨.ref a, rfl, a, R, dx, _, rfl, a4, WR.cls, WR.n3, by show 2 < 1000; decide, ?_⟩
    refine ⟨.str b, rfl, .ref a, rfl, a, R, dx, _, rfl, upd_same, WR.cls, WR.n4, by show 3 < 1000; decide, ?_⟩
    exact k l _ nlH ((k2.trans (Keep.of e4)).upd.upd) (by rw [upd_same, ms_put]) ((hl.updI a4).updI upd_same)
end
end Z
set_option maxHeartbeats 4000000
namespace Z
open PySem PySem.Spec PyProof.Rows L2 TL Evl NdefX
section
variable {R q : Addr} {H : Hp} {s b : Str} {fs : Fs} {vs dvs : List V} {Q : VK} {E : XK}
theorem ri_rs (hv : vs ++ dvs = [.str s, .ref q, .str b]) (hf : FsAt H q fs) (hok : okRs s fs b) (k : ∀ v H', Ex H H' → RsAt R H' v fs → Q v H') :
    ∀ x dx, H x = none → H dx = none → dx ≠ x → spRs R (.ref x :: (vs ++ dvs)) (upd (upd H dx (.own x)) x (.ins R dx [])) (fun v H2 => v = .non ∧ Q (.ref x) H2) E := fun x dx hx hd hne => by
  have e0 : Ex H (upd (upd H dx (.own x)) x (.ins R dx [])) := fun c o hc => by
    rw [upd_ne (ne_of_none hc hx), upd_ne (ne_of_none hc hd)]
    exact hc
  exact ⟨x, dx, q, s, b, fs, by rw [hv], upd_same, hf.ex e0, hok, fun l H' nl kp h1 h2 => ⟨rfl, k _ H' (fun c o hc => kp c o (ne_of_none hc hx) (e0 c o hc)) ⟨x, dx, l, _, _, _, _, rfl, h1, Or.inl ⟨_, rfl⟩, h2⟩⟩⟩
end
theorem st_in {s : Str} (h : s ∈ stL) : inV (.str s) (stL.map V.str) = true := by
  simp only [stL, List.mem_cons, List.not_mem_nil, or_false] at h
  rcases h with rfl | rfl | rfl | rfl | rfl | rfl | rfl | rfl | rfl <;> decide +kernel
theorem rs_nolook {fl b s : Str} {hb : Bool} {v : V} : (rsFs fl hb v b s).lookup ("all_values" : Str) = none ∧ (rsFs fl hb v b s).lookup ("joined" : Str) = none := ⟨rfl, rfl⟩
section
variable {P : Program} {w : World} {K : PySem.W.Frag} {mg : Str → Option Value} {base : Heap} {f B R C L DV DM DH : Addr} {fd : FuncData} {k : Nat}
theorem ok_Rs (T : Mg mg) (WB : Wb K mg B) (WR : Ws K mg R) (MB : Mb P w K mg base B R) {dvs : List V} (F : FunD K "__init__" "Response.__init__" (L2.defArgs s_Rs) (L2.defBody s_Rs) (L2.defScope s_Rs) dvs [] f fd) : FnOk P w K mg base CX0 6 f fd ["self", "status", "fields", "body"] (spRs R) := by
  obtain ⟨gM, fM, CF, FM, bM⟩ := MB.ex
  refine FunD.ok F sc_Rs (fun vs H Q E h => ?_) (fun cdv A outer s H vs Q E hr h => ?_)
  · obtain ⟨a, dx, q, s, b, fs, rfl, _⟩ := h
    rfl
  · obtain ⟨a, dx, q, st, b, fs, rfl, ha, hf, ⟨hm, hok, hbl, hbb, hbm⟩, k⟩ := h
    obtain ⟨pm, hmt, hmT⟩ := WR.st
    refine ⟨_, pss_cons (ps_if (pt_cmpR op_notIn_seq (pv 1) (ClX.pe_cval (pe_gc (v := .ref R) rfl ⟨_, WR.m, rfl⟩)) rfl) (pss_one ZX.ps_never) pss_nil)
      (pss_cons (ps_expr (ZX.pe_clsFn (E := fun _ => E0) (pe_gc (v := .ref B) rfl ⟨_, WB.m, rfl⟩) CF FM bM (hr.mono (by decide)) (fun σ pins H s e s' I c => pass0 pins σ H s e s' I c) (pa_cons (pv 0) (pa_cons (pe_joined (.cons pe_str (.cons (pe_fmt (pv 1)) .nil))) (pa_cons (pe_cmpR op_notIn_seq (pv 1) (pe_tup (pa_cons pe_str (pa_cons pe_str pa_nil))) rfl) (pa_cons (pv 2) (pa_cons (pv 3) pa_nil)))))))
      (pss_one (ps_fld (pv 0) (pv 1) rfl))), ?_⟩
    have hml := st_len hm
    refine q_when (b := false) (et_is (et_test (ev_op (ev_var rfl) (ev_cval ev_c WR.rd hmt) (rv_niT (hmT H) rfl rfl))) (by rw [st_in hm]; rfl)) (fun h => nomatch h) (fun _ H2 e12 => ?_)
    refine q_in ?_; dsimp only
    refine g_drop ?_
    refine ⟨rfl, ?_⟩
    have c4 : ("answer " : Str).length ≤ 100 := by decide +kernel
    refine (ea_cons (ev_var rfl) (ea_cons (ev_joined (zs := [("answer " : Str), st]) (x := ansL st) (ej_cons ev_c (ej_cons (ev_fmt (ev_var rfl) (by omega)) ej_nil)) (by simp only [List.map_cons, List.map_nil, List.sum_cons, List.sum_nil]; omega) rfl) (ea_cons (ev_niU (ev_var rfl) (eu_tup (ea_cons ev_c (ea_cons ev_c ea_nil)) (by decide)) rfl rfl) (ea_cons (ev_var rfl) (ea_cons (ev_var rfl) ea_nil))))) H2 (Ex.refl H2) _ fun H3 e3 => ?_
    have e13 := e12.trans e3
    refine ⟨a, dx, q, ansL st, b, hasBd st, fs, rfl, e13 _ _ ha, hf.ex e13, hok, hbl, hbb, hbm, fun l H4 nl k4 h4 hl => ?_⟩
    refine ⟨.str st, rfl, .ref a, rfl, a, R, dx, _, rfl, h4, WR.cls, WR.n5, by show 4 < 1000; decide, ?_⟩
    exact k l _ (fresh_back e13 nl) (((Keep.of e13).trans k4).upd) (by rw [upd_same, rs_put]) (hl.updI h4)
theorem ok_Mv (WR : Wm K R) (F : FunD K "all_values" "Message.all_values" (L2.defArgs s_Mv) (L2.defBody s_Mv) (L2.defScope s_Mv) [] [] f fd) : FnOk P w K mg base CX0 1 f fd ["self", "name"] (spAv R) := by
  refine FunD.ok F sc_Mv (fun vs H Q E h => ?_) (fun cdv A outer s H vs Q E hr h => ?_)
  · obtain ⟨v, n, fs, rfl, _⟩ := h
    rfl
  · obtain ⟨v, n, fs, rfl, ⟨a, dx, l, fl, hb, b, s, rfl, ha, hex, xs, hx, hr1⟩, hz, q⟩ := h
    refine ⟨_, pss_one (ps_ret (pe_lc (own := [("own", 2), ("value", 3)]) (g := gTup K 2 (gCons (gName 2) (gCons (gName 3) gNil))) rfl sc_Mv.nd (pi_list (pe_fld (pv 0) rfl)) (blkOk_by (N := ["self", "name", "own", "value"]) (sc := L2.defScope s_Mv) (by decide +kernel)) (fun _ _ _ _ _ => pg_tup rfl (pgs_cons (pg_name (i := 2) sc_Mv.nd rfl (Or.inl rfl)) (pgs_cons (pg_name (i := 3) sc_Mv.nd rfl (Or.inl rfl)) pgs_nil))) (fun _ _ _ _ _ => pts_one (pt_cmpR op_eq (pv 2) (pv 1) (nomark _))) (fun _ _ _ _ _ => pv 3))), ?_⟩
    refine g_ret ?_
    refine ⟨.ref a, rfl, a, R, dx, _, .ref l, rfl, ha, WR.cls, WR.n3, ms_fields, l, rfl, ⟨_, sq_of hx⟩, fun D hD => ?_⟩
    refine lc_rel (α := Str) (fun i => valsF (fs.take i) n) (fun _ v s => v = .str s) (fun _ _ _ _ _ _ h => h) (sq_of hx) hD rfl (by rw [hr1.1]; omega) (fun i x H3 hi e3 k k0 hk hk0 => ?_) (fun H3 ys e3 hy hrel => ?_)
    · obtain ⟨o, ho, t, rfl, ht⟩ := hr1.get hi
      have ht3 := e3 _ _ ht
      have hacc : valsF (fs.take (i + 1)) n = valsF (fs.take i) n ++ (if decide (o.1 = n) = true then [o.2] else []) := by
        unfold valsF
        rw [List.take_add_one, ho, List.filter_append, List.map_append]
        show _ ++ List.map Prod.snd (List.filter _ [o]) = _
        rw [List.filter_cons]
        by_cases h : o.1 = n
        · rw [decide_eq_true h]; rfl
        · rw [decide_eq_false h]; rfl
      refine ⟨t, _, rfl, st_of ht3, rfl, _, _, rfl, _, _, rfl, rfl, rfl, ?_⟩
      refine (et_test (ev_op (ev_var rfl) (ev_var rfl) rv_eqS)) H3 (Ex.refl H3) _ fun H4 e4 => ?_
      cases hb : decide (o.1 = n) with
      | true =>
        rw [if_pos rfl]
        exact (ev_var rfl) H4 (Ex.refl H4) _ fun H5 e5 => hk _ H5 o.2 (e4.trans e5) (by rw [hacc, hb]; rfl) rfl
      | false =>
        rw [if_neg Bool.false_ne_true]
        exact hk0 H4 e4 (by rw [hacc, hb]; exact List.append_nil _)
    · rw [hr1.1, List.take_length] at hrel
      have ey : ys = (valsF fs n).map V.str := by
        refine List.ext_getElem (by rw [hrel.1, List.length_map]) fun i h1 h2 => ?_
        rw [List.getElem_map]
        rw [List.length_map] at h2
        exact hrel.2 i _ _ (List.getElem?_eq_getElem h1) (List.getElem?_eq_getElem h2)
      exact q D H3 hD e3 (by rw [hy, ey])
theorem ok_Mj (WR : Wm K R) (RM : Rm1 P w K mg base R) (F : FunD K "joined" "Message.joined" (L2.defArgs s_Mj) (L2.defBody s_Mj) (L2.defScope s_Mj) [] [] f fd) : FnOk P w K mg base CX0 2 f fd ["self", "name"] (spJn R) := by
  obtain ⟨fv, dv, mv, Fv, bv⟩ := RM.ex
  refine FunD.ok F sc_Mj (fun vs H Q E h => ?_) (fun cdv A outer s H vs Q E hr h => ?_)
  · obtain ⟨v, n, fs, rfl, _⟩ := h
    rfl
  · obtain ⟨v, n, fs, rfl, ⟨a, dx, l, fl, hb0, b, s, rfl, ha, hex, hf⟩, hok, q⟩ := h
    obtain ⟨hn, hv⟩ := vals_len (n := n) hok
    refine ⟨_, pss_cons (ps_set (i := 2) sc_Mj.nd rfl (Or.inl rfl) (pe_meth (pv 0) WR.cls mv Fv (hr.mono (by decide)) bv .nil pass0 (pa_cons (pv 1) pa_nil)))
      (pss_cons (ps_if (pt_not (pt_truth (pv 2) (by intro _; rfl))) (pss_one (ps_ret pe_non)) pss_nil)
      (pss_one (ps_ret (pe_bm PySem.F.plainAttrs_str PySem.F.slot_str_join PySem.F.type_str_join mz_join pe_str (pa_cons (pv 2) pa_nil))))), ?_⟩
    refine q_in ?_; dsimp only
    refine g_asg ?_
    refine ⟨.ref a, rfl, a, dx, _, rfl, ha, (ms_none hex).1, .str n, rfl, .ref a, n, fs, rfl, ⟨a, dx, l, fl, hb0, b, s, rfl, ha, hex, hf⟩, (areB_val hok).1, fun p H2 np e2 hpl => ?_⟩
    refine g_name ?_; dsimp only
    have hemp : ((valsF fs n).map V.str).isEmpty = decide (valsF fs n = []) := by
      cases valsF fs n <;> rfl
    refine q_when (b := decide (valsF fs n = [])) (et_is (et_not (et_truL (ev_var rfl) (sq_of hpl))) (by rw [Bool.not_not, hemp])) (fun hb H3 e3 => ?_) (fun hb H3 e3 => ?_)
    · refine s_ret ev_c fun H4 e4 => ?_
      have g := q H4 ((e2.trans e3).trans e4)
      unfold joinF at g
      rw [if_pos (of_decide_eq_true hb)] at g
      exact g
    · have h3 := sum_most (valsF fs n) 200 hv
      have h5 : (", " : Str).length = 2 := by decide +kernel
      have h6 := Nat.mul_le_mul_right 200 hn
      refine g_ret ⟨rfl, .ref p, rfl, ", ", p, valsF fs n, rfl, rfl, .inl (sq_of (e3 _ _ hpl)), by rw [h5]; omega, ?_⟩
      have g := q H3 (e2.trans e3)
      unfold joinF at g
      rw [if_neg (of_decide_eq_false hb)] at g
      exact g
end
end Z
set_option maxHeartbeats 4000000
namespace Z
open PySem PySem.Spec PyProof.Rows L2 TL Evl NdefX
theorem sc_Ri : FnScope ["self", "method", "path", "fields", "body"] ["self", "method", "path", "fields", "body"] (L2.defScope s_Ri) := ⟨rfl, rfl, rfl, by decide +kernel, rfl, by decide +kernel, by decide +kernel⟩
theorem body0 : ("" : Str).length ≤ 100000 ∧ bodyB ("" : Str) = true := by decide +kernel
theorem m_len {m : Str} (h : m ∈ mdL) : m.length ≤ 10 := by
  simp only [mdL, List.mem_cons, List.not_mem_nil, or_false] at h
  rcases h with rfl | rfl | rfl <;> decide +kernel
section
variable {P : Program} {w : World} {K : PySem.W.Frag} {mg : Str → Option Value} {base : Heap} {f B R C : Addr} {fd : FuncData} {k : Nat}
theorem ok_is_path (T : Mg mg) (c_consists_of : Call P w K mg base 1 "consists_of" ["text", "signs"] (sp2 fun z s => .bl (allIn z s))) (F : FnP K "is_path" s_is_path f fd) (gm : mg "is_path" = some (.ref f)) :
    Call P w K mg base 2 "is_path" ["text"] (sp1 fun z => .bl (pathB z)) := by
  refine mk F gm (fun _ _ _ _ _ _ us hl => match us, hl with | [_], _ => rfl) (fun _ _ _ _ _ _ us hl => match us, hl with | [_], _ => rfl) sc_is_path (fun vs H Q E h => ?_) (fun cdv A outer s H vs Q E hr h => ?_)
  · obtain ⟨z, rfl, _⟩ := h
    rfl
  · obtain ⟨z, rfl, hz, q⟩ := h
    refine ⟨_, (pss_one (ps_ret (pe_and (pe_chain op_le op_le pe_int (pe_callB cz_len (by rfl) T.len (by decide +kernel) (pa_cons (pv 0) pa_nil)) (pe_gc rfl T.MOST_PATH)) (pe_and (pe_cmpR op_eq (pe_ix ix_str (pv 0) pe_int (fun _ _ => rfl)) pe_str (nomark _)) (pe_one (pe_f c_consists_of hr (by decide) rfl (pa_cons (pv 0) (pa_cons (pe_gc rfl T.PATH_SIGNS) pa_nil)))))))), ?_⟩
    refine s_ret (v := .bl (pathB z)) (ev_andV (ev_chain ev_c (ev_lenStr (ev_var rfl) hz) ev_c) fun h1 => ?_) q
    obtain ⟨c, e1, e2⟩ := item0 (z := z) (by have := (pl h1).1; omega)
    have e3 : decide ((⟨#[c]⟩ : Str) = ("/" : Str)) = decide (hd z = some 47) := by
      rw [e1, show ("/" : Str) = ⟨#[47]⟩ by decide +kernel]
      by_cases h : c = 47
      · rw [h]; rfl
      · rw [decide_eq_false fun e => h ((one_eq _ _).mp e), decide_eq_false fun e => h (Option.some.inj e)]
    refine ev_andV (a := decide (hd z = some 47)) (ev_is (ev_op (ev_ixS (ev_var rfl) ev_c hz e2) ev_c rv_eqS) (congrArg V.bl e3)) fun h2 => ev_call (ea_cons (ev_var rfl) (ea_cons ev_c ea_nil)) (sv2 hz)
theorem ok_Ri (T : Mg mg) (WB : Wb K mg B) (WR : Wq K mg R) (MB : Mb P w K mg base B R) (c_is_path : Call P w K mg base 2 "is_path" ["text"] (sp1 fun z => .bl (pathB z)))
    {dvs : List V} (F : FunD K "__init__" "Request.__init__" (L2.defArgs s_Ri) (L2.defBody s_Ri) (L2.defScope s_Ri) dvs [] f fd) : FnOk P w K mg base CX0 6 f fd ["self", "method", "path", "fields", "body"] (spRq R) := by
  obtain ⟨gM, fM, CF, FM, bM⟩ := MB.ex
  refine FunD.ok F sc_Ri (fun vs H Q E h => ?_) (fun cdv A outer s H vs Q E hr h => ?_)
  · obtain ⟨a, dx, q, m, p, fs, rfl, _⟩ := h
    rfl
  · obtain ⟨a, dx, q, m, p, fs, rfl, ha, hf, ⟨hm, hp, hpl, hok⟩, k⟩ := h
    obtain ⟨hbl, hbb⟩ := body0
    obtain ⟨pm, hmt, hmT⟩ := WR.st
    refine ⟨_, pss_cons (ps_if (pt_cmpR op_notIn_seq (pv 1) (ClX.pe_cval (pe_gc (v := .ref R) rfl ⟨_, WR.m, rfl⟩)) rfl) (pss_one ZX.ps_never) pss_nil)
      (pss_cons (ps_if (pt_not (pt_val (pe_f c_is_path hr (by decide) rfl (pa_cons (pv 2) pa_nil)))) (pss_one ZX.ps_never) pss_nil)
      (pss_cons (ps_expr (ZX.pe_clsFn (E := fun _ => E0) (pe_gc (v := .ref B) rfl ⟨_, WB.m, rfl⟩) CF FM bM (hr.mono (by decide)) (fun σ pins H s e s' I c => pass0 pins σ H s e s' I c) (pa_cons (pv 0) (pa_cons (pe_joined (.cons pe_str (.cons (pe_fmt (pv 1)) (.cons pe_str (.cons (pe_fmt (pv 2)) .nil))))) (pa_cons (pe_cmpR op_eq (pv 1) pe_str (nomark _)) (pa_cons (pv 3) (pa_cons (pv 4) pa_nil)))))))
      (pss_cons (ps_fld (pv 0) (pv 1) rfl) (pss_one (ps_fld (pv 0) (pv 2) rfl))))), ?_⟩
    have hml := m_len hm
    refine q_when (b := false) (et_is (et_test (ev_op (ev_var rfl) (ev_cval ev_c WR.rd hmt) (rv_niT (hmT H) rfl rfl))) (by
      have : inV (.str m) (mdL.map V.str) = true := by
        simp only [mdL, List.mem_cons, List.not_mem_nil, or_false] at hm
        rcases hm with rfl | rfl | rfl <;> decide +kernel
      rw [this]; rfl)) (fun h => nomatch h) (fun _ H1 e1 => ?_)
    refine q_when (b := false) (et_is (et_not (et_B (ev_call (ea_cons (ev_var rfl) ea_nil) (sv1 (f := fun z => .bl (pathB z)) (by omega))))) (by rw [hp]; rfl)) (fun h => nomatch h) (fun _ H2 e2 => ?_)
    have e12 := e1.trans e2
    refine q_in ?_; dsimp only
    refine g_drop ?_
    refine ⟨rfl, ?_⟩
    have c4 : ("ask " : Str).length ≤ 100 := by decide +kernel
    have c1 : (" " : Str).length ≤ 100 := by decide +kernel
    refine (ea_cons (ev_var rfl) (ea_cons (ev_joined (zs := [("ask " : Str), m, " ", p]) (x := asL m p) (ej_cons ev_c (ej_cons (ev_fmt (ev_var rfl) (by omega)) (ej_cons ev_c (ej_cons (ev_fmt (ev_var rfl) (by omega)) ej_nil)))) (by simp only [List.map_cons, List.map_nil, List.sum_cons, List.sum_nil]; omega) rfl) (ea_cons (ev_op (ev_var rfl) ev_c rv_eqS) (ea_cons (ev_var rfl) (ea_cons (ev_var rfl) ea_nil))))) H2 (Ex.refl H2) _ fun H3 e3 => ?_
    have e13 := e12.trans e3
    refine ⟨a, dx, q, asL m p, "", decide (m = "put"), fs, rfl, e13 _ _ ha, hf.ex e13, hok, hbl, hbb, ?_, fun l H4 nl k4 h4 hl => ?_⟩
    · exact .inl rfl
    · refine q_in ?_; dsimp only
      refine ⟨.str m, rfl, .ref a, rfl, a, R, dx, _, rfl, h4, WR.wm.cls, WR.n5, by show 4 < 1000; decide, ?_⟩
      refine ⟨.str p, rfl, .ref a, rfl, a, R, dx, _, rfl, upd_same, WR.wm.cls, WR.n6, by show 5 < 1000; decide, ?_⟩
      exact k l _ (fresh_back e13 nl) (((Keep.of e13).trans k4).upd.upd) (by rw [upd_same]; rfl) ((hl.updI h4).updI upd_same)
end
theorem sc_Do : FnScope ["cls", "message"] ["cls", "message"] (L2.defScope s_Do) := ⟨rfl, rfl, rfl, by decide +kernel, rfl, by decide +kernel, by decide +kernel⟩
structure Drd (P : Program) (w : World) (K : PySem.W.Frag) (mg : Str → Option Value) (base : Heap) (D : Addr) : Prop where
  ex : ∃ p g gd, ZX.Stat K D (.type "type") "read" p g ∧ FnOk P w K mg base CX0 7 g gd ["text"] (spDr D) ∧ Binds K gd ["text"] []
structure Rmj (P : Program) (w : World) (K : PySem.W.Frag) (mg : Str → Option Value) (base : Heap) (R : Addr) : Prop where
  ex : ∃ fj dj, Meth K R "joined" fj ∧ FnOk P w K mg base CX0 2 fj dj ["self", "name"] (spJn R) ∧ Binds K dj ["self", "name"] []
theorem optV_oS (o : Option Str) : optV o = oS o := by cases o <;> rfl
def spDo (D R : Addr) : Sp := fun vs H Q _ => ∃ v fs, vs = [.ref D, v] ∧ RsAt R H v fs ∧ areB fs = true ∧ ∀ v' H', Ex H H' → DrAt D H' v' (elO (joinF fs "keep")) → Q v' H'
section
variable {P : Program} {w : World} {K : PySem.W.Frag} {mg : Str → Option Value} {base : Heap} {f D R C MT DV DH : Addr} {fd : FuncData} {k : Nat}
theorem ok_Do (WR : Wm K R) (DR : Drd P w K mg base D) (RJ : Rmj P w K mg base R) (F : FunD K "of" "Directives.of" (L2.defArgs s_Do) (L2.defBody s_Do) (L2.defScope s_Do) [] [] f fd) : FnOk P w K mg base CX0 8 f fd ["cls", "message"] (spDo D R) := by
  obtain ⟨p, g, gd, SD, FD, bD⟩ := DR.ex
  obtain ⟨fj, dj, mj, Fj, bj⟩ := RJ.ex
  refine FunD.ok F sc_Do (fun vs H Q E h => ?_) (fun cdv A outer s H vs Q E hr h => ?_)
  · obtain ⟨v, fs, rfl, _⟩ := h
    rfl
  · obtain ⟨v, fs, rfl, hv, hok, k⟩ := h
    refine ⟨_, pss_one (ps_ret (ZX.pe_statS (E := fun _ => E0) (pv 0) SD FD bD (hr.mono (by decide)) (fun σ pins H s e s' I c => pass0 pins σ H s e s' I c) (pa_cons (pe_meth (pv 1) WR.cls mj Fj (hr.mono (by decide)) bj .nil pass0 (pa_cons pe_str pa_nil)) pa_nil))), ?_⟩
    obtain ⟨a, dx, l, fl, hb, b, s, rfl, ha, hex, hf⟩ := id hv
    refine g_ret ⟨.ref D, rfl, rfl, ?_⟩
    refine ⟨.ref a, rfl, a, dx, _, rfl, ha, (ms_none hex).2, .ref a, "keep", fs, rfl, hv, hok, fun H1 e1 => ?_⟩
    refine ⟨joinF fs "keep", by rw [optV_oS], fun z hz => joinF_len hok hz, fun v' H2 e2 hd => k v' H2 (e1.trans e2) hd⟩
end
end Z
set_option maxHeartbeats 2000000
namespace ZX
open PySem PySem.Spec PyProof.Rows L2 Evl
/-! ### x is True, x of any plain kind -/
def isB : V → Bool → Bool
  | .bl a, b => decide (a = b)
  | _, _ => false
def rIsV : R2 := fun x y H Q => ∃ b : Bool, y = .bl b ∧ (x = .non ∨ (∃ a, x = .bl a) ∨ ∃ i, x = .int i) ∧ Q (.bl (isB x b)) H
theorem op_isV {X : Cx} : OpR X (compareOp .Is) rIsV := by
  intro pins s σ H x y v u Q I rx ry h
  obtain ⟨b, rfl, hx, q⟩ := h
  cases (show u = Value.bool b from ry)
  rcases hx with rfl | ⟨a, rfl⟩ | ⟨i, rfl⟩
  · cases (show v = Value.none from rx)
    exact wpAny_is_other rfl (fun z => by cases z) ⟨.bl false, H, I, rfl, q⟩
  · cases (show v = Value.bool a from rx)
    by_cases e : a = b
    · subst e
      exact wpAny_is_self rfl ⟨.bl true, H, I, rfl, by simpa [isB] using q⟩
    · exact wpAny_is_other rfl (fun z => e (Value.bool.inj z)) ⟨.bl false, H, I, rfl, by simpa [isB, e] using q⟩
  · obtain ⟨t, rfl⟩ := rx
    exact wpAny_is_other rfl (fun z => by cases z) ⟨.bl false, H, I, rfl, q⟩
theorem rv_isV {H : Hp} {x : V} {b : Bool} (h : x = .non ∨ (∃ a, x = .bl a) ∨ ∃ i, x = .int i) : RV rIsV x (.bl b) H (.bl (isB x b)) := fun H1 _ _ q => ⟨b, rfl, h, q H1 (Ex.refl H1)⟩
end ZX
set_option maxHeartbeats 4000000
namespace Z
open PySem PySem.Spec PyProof.Rows L2 TL Evl NdefX
/-! ### sameness of plain values -/
def PlV (x : V) : Prop := x = .non ∨ (∃ a, x = .bl a) ∨ ∃ i, x = .int i
def spSame : Sp := fun vs H Q _ => ∃ x, vs = [x, x] ∧ PlV x ∧ RetV (.bl true) H Q
def spAllS : Sp := fun vs H Q _ => ∃ (a b : Addr) (xs : List V), vs = [.ref a, .ref b] ∧ H a = some (.lst xs) ∧ H b = some (.lst xs) ∧ (∀ x ∈ xs, PlV x) ∧ xs.length ≤ 1000 ∧ RetV (.bl true) H Q
theorem q_forZ {K : PySem.W.Frag} {ta : TA} {g : TG} {tu tz : TS} {D : Ends} {σ : L2.St} {H : Hp} {a b : Addr} {xs ys : List V} (h : EvA ta σ H [.ref a, .ref b]) (ha : H a = some (.lst xs)) (hb : H b = some (.lst ys)) (hl : xs.length = ys.length) (Pv : Nat → L2.St → Hp → Prop) (h0 : ∀ H1, Ex H H1 → Pv 0 σ H1)
    (hG : ∀ i σ' H', Pv i σ' H' → Ex H H') (hs : ∀ i x y T σ' H', xs[i]? = some x → ys[i]? = some y → Pv i σ' H' → H' T = none → g (.ref T) σ' (upd H' T (.tup [x, y])) fun σ2 H2 => tu { D with nx := Pv (i + 1), ct := Pv (i + 1), bk := tz D } σ2 H2) (hd : ∀ σ' H', Pv xs.length σ' H' → tz D σ' H') : tSeq (tFor (iZip K ta) g tu) tz D σ H :=
  h H (Ex.refl H) _ fun H1 e1 => ⟨a, b, xs, ys, rfl, sq_of (e1 _ _ ha), sq_of (e1 _ _ hb), for_it (D := { D with nx := tz D }) (walk_zip (xs := xs) (ys := ys) (n := xs.length) (by omega)) Pv (h0 H1 e1) (fun i σ' H' _ p => ⟨sq_of (hG i σ' H' p _ _ ha), sq_of (hG i σ' H' p _ _ hb)⟩) (fun i v σ' H' H2 hi p y => by
    obtain ⟨T, x, y, rfl, nT, rfl, hx, hy⟩ := y
    exact hs i x y T σ' H' hx hy p nT) hd⟩
section
variable {P : Program} {w : World} {K : PySem.W.Frag} {mg : Str → Option Value} {base : Heap} {f D R C MT DV DH : Addr} {fd : FuncData} {k : Nat}
theorem ok_law_same (T : Mg mg) (F : FnP K "_law_same" s_law_same f fd) (gm : mg "_law_same" = some (.ref f)) : Call P w K mg base 1 "_law_same" ["got", "due"] spSame := by
  refine mk F gm (fun _ _ _ _ _ _ us hl => match us, hl with | [_, _], _ => rfl) (fun _ _ _ _ _ _ us hl => match us, hl with | [_, _], _ => rfl) sc_law_same (fun vs H Q E h => ?_) (fun cdv A outer s H vs Q E hr h => ?_)
  · obtain ⟨x, rfl, _⟩ := h
    rfl
  · obtain ⟨x, rfl, hx, q⟩ := h
    refine ⟨_, (pss_cons (ps_if (pt_cmpR op_isN1 (pv 1) pe_non (nomark _))
      (pss_one (ps_ret (pe_cmpR op_isN1 (pv 0) pe_non (nomark _))))
      pss_nil)
    (pss_cons (ps_if (pt_cmpR ZX.op_isV (pv 1) pe_bl (nomark _))
      (pss_one (ps_ret (pe_cmpR ZX.op_isV (pv 0) pe_bl (nomark _))))
      pss_nil)
    (pss_cons (ps_if (pt_cmpR ZX.op_isV (pv 1) pe_bl (nomark _))
      (pss_one (ps_ret (pe_cmpR ZX.op_isV (pv 0) pe_bl (nomark _))))
      pss_nil)
    (pss_one (ps_ret (pe_and (pe_callB call_isi (by rfl) T.isinstance (by decide +kernel) (pa_cons (pv 0) (pa_cons (pe_bltn (v := .ty "int") (u := .type "int") (by rfl) T.int (by decide +kernel) rfl) pa_nil))) (pe_and (pe_not (pe_callB call_isi (by rfl) T.isinstance (by decide +kernel) (pa_cons (pv 0) (pa_cons (pe_bltn (v := .ty "bool") (u := .type "bool") (by rfl) T.bool (by decide +kernel) rfl) pa_nil)))) (pe_one (pe_cmpR op_eq (pv 0) (pv 1) (nomark _)))))))))), ?_⟩
    rcases hx with rfl | ⟨b, rfl⟩ | ⟨i, rfl⟩
    · refine q_when (b := true) (et_is (et_test (ev_op (ev_var rfl) ev_c rv_isN)) rfl) (fun _ H1 e1 => s_ret (v := .bl true) (ev_is (ev_op (ev_var rfl) ev_c rv_isN) rfl) fun H2 e2 => q H2 (e1.trans e2)) (fun h => nomatch h)
    · refine q_when (b := false) (et_is (et_test (ev_op (ev_var rfl) ev_c rv_isN)) rfl) (fun h => nomatch h) (fun _ H1 e1 => ?_)
      cases b with
      | true => refine q_when (b := true) (et_is (et_test (ev_op (ev_var rfl) ev_c (ZX.rv_isV (.inr (.inl ⟨_, rfl⟩))))) rfl) (fun _ H2 e2 => s_ret (v := .bl true) (ev_is (ev_op (ev_var rfl) ev_c (ZX.rv_isV (.inr (.inl ⟨_, rfl⟩)))) rfl) fun H3 e3 => q H3 ((e1.trans e2).trans e3)) (fun h => nomatch h)
      | false =>
        refine q_when (b := false) (et_is (et_test (ev_op (ev_var rfl) ev_c (ZX.rv_isV (.inr (.inl ⟨_, rfl⟩))))) rfl) (fun h => nomatch h) (fun _ H2 e2 => ?_)
        refine q_when (b := true) (et_is (et_test (ev_op (ev_var rfl) ev_c (ZX.rv_isV (.inr (.inl ⟨_, rfl⟩))))) rfl) (fun _ H3 e3 => s_ret (v := .bl true) (ev_is (ev_op (ev_var rfl) ev_c (ZX.rv_isV (.inr (.inl ⟨_, rfl⟩)))) rfl) fun H4 e4 => q H4 (((e1.trans e2).trans e3).trans e4)) (fun h => nomatch h)
    · refine q_when (b := false) (et_is (et_test (ev_op (ev_var rfl) ev_c rv_isN)) rfl) (fun h => nomatch h) (fun _ H1 e1 => ?_)
      refine q_when (b := false) (et_is (et_test (ev_op (ev_var rfl) ev_c (ZX.rv_isV (.inr (.inr ⟨_, rfl⟩))))) rfl) (fun h => nomatch h) (fun _ H2 e2 => ?_)
      refine q_when (b := false) (et_is (et_test (ev_op (ev_var rfl) ev_c (ZX.rv_isV (.inr (.inr ⟨_, rfl⟩))))) rfl) (fun h => nomatch h) (fun _ H3 e3 => ?_)
      exact s_ret (v := .bl true) (ev_is (ev_andV (ev_isi (b := true) (ev_var rfl) (fun H1 _ => .base (.int i)) (kit_ty (by decide +kernel))) fun _ => ev_andV (ev_notV (ev_isi (b := false) (ev_var rfl) (fun H1 _ => .base (.int i)) (kit_ty (by decide +kernel)))) fun _ => ev_op (ev_var rfl) (ev_var rfl) rv_eqI) (by rw [decide_eq_true rfl]; rfl)) fun H4 e4 => q H4 (((e1.trans e2).trans e3).trans e4)
theorem ok_law_all_same (T : Mg mg) (c_law_same : Call P w K mg base 1 "_law_same" ["got", "due"] spSame) (F : FnP K "_law_all_same" s_law_all_same f fd) (gm : mg "_law_all_same" = some (.ref f)) : Call P w K mg base 2 "_law_all_same" ["got", "due"] spAllS := by
  refine mk F gm (fun _ _ _ _ _ _ us hl => match us, hl with | [_, _], _ => rfl) (fun _ _ _ _ _ _ us hl => match us, hl with | [_, _], _ => rfl) sc_law_all_same (fun vs H Q E h => ?_) (fun cdv A outer s H vs Q E hr h => ?_)
  · obtain ⟨a, b, xs, rfl, _⟩ := h
    rfl
  · obtain ⟨a, b, xs, rfl, ha, hb, hx, hl, q⟩ := h
    refine ⟨_, (pss_cons (ps_for PassesOwn.never rfl (pi_zip rfl T.zip (pa_cons (pv 0) (pa_cons (pv 1) pa_nil))) (pg_tup rfl (pgs_cons (pg_name (i := 2) sc_law_all_same.nd rfl (Or.inl rfl)) (pgs_cons (pg_name (i := 3) sc_law_all_same.nd rfl (Or.inl rfl)) pgs_nil)))
      (pss_one (ps_if (pt_not (pt_val (pe_f c_law_same hr (by decide) rfl (pa_cons (pv 2) (pa_cons (pv 3) pa_nil)))))
        (pss_one (ps_ret pe_bl))
        pss_nil)))
    (pss_one (ps_ret (pe_cmpR op_eq (pe_callB call_len_seq (by rfl) T.len (by decide +kernel) (pa_cons (pv 0) pa_nil)) (pe_callB call_len_seq (by rfl) T.len (by decide +kernel) (pa_cons (pv 1) pa_nil)) (nomark _))))), ?_⟩
    refine q_forZ (ea_cons (ev_var rfl) (ea_cons (ev_var rfl) ea_nil)) ha hb rfl (fun i σ' H' => (∃ v w, σ' = [some (.ref a), some (.ref b), v, w]) ∧ Ex H H') (fun H1 e1 => ⟨⟨none, none, rfl⟩, e1⟩) (fun i σ' H' p => p.2) (fun i x y T0 σ' H' h1 h2 p nT => ?_) (fun σ' H' p => ?_)
    · obtain ⟨⟨v, w, rfl⟩, e1⟩ := p
      have exy : x = y := by rw [h1] at h2; exact Option.some.inj h2
      subst exy
      have eT := Ex.new (o := .tup [x, x]) nT
      refine ⟨T0, _, rfl, st_of (show (upd H' T0 (.tup [x, x])) T0 = _ from upd_same), rfl, _, _, rfl, _, _, rfl, rfl, ?_⟩
      exact s_when (b := false) (et_is (et_not (et_B (ev_call (ea_cons (ev_var rfl) (ea_cons (ev_var rfl) ea_nil)) fun H2 e2 Q' q' E' => ⟨x, rfl, hx x (List.mem_of_getElem? h1), q'⟩))) rfl) (fun h => nomatch h) (fun _ H2 e2 => ⟨⟨_, _, rfl⟩, (e1.trans eT).trans e2⟩)
    · obtain ⟨⟨v, w, rfl⟩, e1⟩ := p
      exact s_ret (v := .bl true) (ev_is (ev_op (ev_len (ev_var rfl) (sq_of (e1 _ _ ha))) (ev_len (ev_var rfl) (sq_of (e1 _ _ hb))) rv_eqI) (by rw [decide_eq_true rfl])) fun H2 e2 => q H2 (e1.trans e2)
end
section
variable {σ : L2.St} {H : Hp} {ta tb te : TE} {tr : TA} {p : Addr} {lim lo hi : Int} {Q : VK} {E : XK} {r : R2} {rc : List V → Hp → VK → Prop} {t1 : TA}
theorem rd_opR (h : ta σ H fun x H1 => tb σ H1 fun y H2 => r x y H2 Q) : tOp r ta tb σ H Q := h
theorem rd_cb1 (h : te σ H fun x H1 => rc [x] H1 Q) : tCB rc (tCons te tNil) σ H Q := h
theorem ea_p {i : Nat} (h : σ[i]? = some (some (.ref p))) : EvA (tCons (tVar i) tNil) σ H [.ref p] := ea_cons (ev_var h) ea_nil
theorem ea_pl {i : Nat} (h : σ[i]? = some (some (.ref p))) : EvA (tCons (tVar i) (tCons (tC (.int lim)) tNil)) σ H [.ref p, .int lim] := ea_cons (ev_var h) (ea_cons ev_c ea_nil)
end
section
variable {σ : L2.St} {H : Hp} {tv t1 : TA} {p l : Addr} {Q : VK} {E : XK} {K : PySem.W.Frag} {xs : List V} {i : Nat} {n : Int}
theorem rd_pickN (hl : EvA tv σ H xs) (hm : xs.length ≤ 1000) (he : ∀ H1, Ex H H1 → EvA t1 σ H1 [.ref p, .int n]) (b : BgA H p) (hn : n = (xs.length : Int)) (h1 : 1 ≤ n) (k : ∀ (x : V) (H' : Hp), x ∈ xs → BgA H' p → Keep p H H' → Q x H') : tOp (rIxL K) (tLst tv) (tCall spTakeA [] E t1) σ H Q := by
  refine rd_opR ((el_lst hl (by omega)) H (Ex.refl H) _ fun l H1 nl e1 hl1 => ?_)
  refine rd_takeA (he H1 e1) (b.ex e1) h1 (by omega) fun d H2 d0 d1 b2 k2 => ?_
  obtain ⟨t, ht, htm⟩ := at_int (xs := xs) (d := d) d0 (by omega)
  exact ⟨l, _, d, _, rfl, rfl, sq_of (k2 _ _ (b.ne nl) hl1), ht, k t H2 htm b2 ((Keep.of e1).trans k2)⟩
theorem rd_pickL (h0 : σ[i]? = some (some (.ref l))) (hl : H l = some (.lst xs)) (hm : xs.length ≤ 1000) (he : EvA t1 σ H [.ref p, .int n]) (b : BgA H p) (nl : l ≠ p) (hn : n = (xs.length : Int)) (h1 : 1 ≤ n) (k : ∀ (x : V) (H' : Hp), x ∈ xs → BgA H' p → Keep p H H' → Q x H') : tOp (rIxL K) (tVar i) (tCall spTakeA [] E t1) σ H Q := by
  refine rd_opR ⟨_, h0, ?_⟩
  refine rd_takeA he b h1 (by omega) fun d H2 d0 d1 b2 k2 => ?_
  obtain ⟨t, ht, htm⟩ := at_int (xs := xs) (d := d) d0 (by omega)
  exact ⟨l, _, d, _, rfl, rfl, sq_of (k2 _ _ nl hl), ht, k t H2 htm b2 k2⟩
theorem s_appR {te : TE} {D : Ends} (hi : σ[i]? = some (some (.ref l))) (hl : H l = some (.lst xs)) (h : te σ H fun v H2 => rAppend (.ref l) [v] H2 fun _ H3 => D.nx σ H3) : tDrop (tBM K "list" rAppend (tVar i) (tCons te tNil)) D σ H := ⟨_, hi, Or.inl ⟨rfl, xs, sq_of hl⟩, h⟩
theorem q_appR {te : TE} {D : Ends} {tz : TS} (hi : σ[i]? = some (some (.ref l))) (hl : H l = some (.lst xs)) (h : te σ H fun v H2 => rAppend (.ref l) [v] H2 fun _ H3 => tz D σ H3) : tSeq (tDrop (tBM K "list" rAppend (tVar i) (tCons te tNil))) tz D σ H := ⟨_, hi, Or.inl ⟨rfl, xs, sq_of hl⟩, h⟩
end
theorem q_st {t : TS} {D : Ends} {σ σ' : L2.St} {H : Hp} (e : σ = σ') (h : t D σ' H) : t D σ H := by
  rw [e]
  exact h
theorem ev_allS {σ : L2.St} {H : Hp} {ta tb : TE} {E : XK} {a : Addr} {xs : List V} (ha : Ev ta σ H (.ref a)) (hx : H a = some (.lst xs)) (hb : EvL tb σ H xs) (hp : ∀ x ∈ xs, PlV x) (hl : xs.length ≤ 1000) : Ev (tCall spAllS [] E (tCons ta (tCons tb tNil))) σ H (.bl true) := fun H1 e Q q =>
  ha H1 e _ fun H2 e2 => hb H2 (e.trans e2) _ fun b H3 nb e3 hb3 => ⟨a, b, xs, rfl, ((e.trans e2).trans e3) _ _ hx, hb3, hp, hl, fun H4 e4 => q H4 ((e2.trans e3).trans e4)⟩
theorem ev_allS2 {σ : L2.St} {H : Hp} {ta tb : TE} {E : XK} {a b : Addr} {xs : List V} (ha : Ev ta σ H (.ref a)) (hx : H a = some (.lst xs)) (hb : Ev tb σ H (.ref b)) (hy : H b = some (.lst xs)) (hp : ∀ x ∈ xs, PlV x) (hl : xs.length ≤ 1000) : Ev (tCall spAllS [] E (tCons ta (tCons tb tNil))) σ H (.bl true) := fun H1 e Q q =>
  ha H1 e _ fun H2 e2 => hb H2 (e.trans e2) _ fun H3 e3 => ⟨a, b, xs, rfl, ((e.trans e2).trans e3) _ _ hx, ((e.trans e2).trans e3) _ _ hy, hp, hl, fun H4 e4 => q H4 ((e2.trans e3).trans e4)⟩
theorem pl_oI {o : Option Int} : PlV (oI o) := by
  cases o with
  | none => exact .inl rfl
  | some i => exact .inr (.inr ⟨i, rfl⟩)
theorem pl_bl {b : Bool} : PlV (.bl b) := .inr (.inl ⟨b, rfl⟩)
theorem pl_int {i : Int} : PlV (.int i) := .inr (.inr ⟨i, rfl⟩)
theorem pl_cons {x : V} {xs : List V} (h : PlV x) (r : ∀ y ∈ xs, PlV y) : ∀ y ∈ x :: xs, PlV y := fun y hy => by
  rcases List.mem_cons.mp hy with rfl | hy
  · exact h
  · exact r y hy
theorem pl_nil : ∀ y ∈ ([] : List V), PlV y := fun y h => nomatch h
theorem el_listE {K : PySem.W.Frag} {σ : L2.St} {H : Hp} {te : TE} {l : Addr} {xs : List V} (h : Ev te σ H (.ref l)) (hl : H l = some (.lst xs)) : EvL (tCB (rListS K) (tCons te tNil)) σ H xs := fun H1 e Q q =>
  h H1 e _ fun H2 e2 => ⟨l, xs, rfl, .inl (sq_of ((e.trans e2) _ _ hl)), fun p hp => q p _ (fresh_back e2 hp) (e2.trans (Ex.new hp)) upd_same⟩
end Z
set_option maxHeartbeats 4000000
namespace Z
open PySem PySem.Spec PyProof.Rows L2 TL Evl NdefX
def digF (z : Str) : Int := if digB z = true then ((NumText.digitsVal (tl z) : Nat) : Int) else -1
theorem digF_is (z : Str) : (digF z ≥ 0 ∧ numO z = some (digF z)) ∨ (digF z = -1 ∧ numO z = none) := by
  unfold digF numO
  cases h : digB z with
  | true => exact .inl ⟨by rw [if_pos rfl]; omega, by rw [if_pos rfl, if_pos rfl]⟩
  | false => exact .inr ⟨by rw [if_neg Bool.false_ne_true], by rw [if_neg Bool.false_ne_true]⟩
theorem log_small {i : Int} (h : i.natAbs < 10 ^ 7) : i.natAbs.log2 < 1920 := by
  by_cases z : i.natAbs = 0
  · rw [z]; decide
  · have h2 : i.natAbs < 2 ^ 24 := Nat.lt_of_lt_of_le h (by decide)
    have := (Nat.log2_lt z).mpr h2
    omega
/-- a text of at most n signs that may stand in a value -/
def SgT (n : Nat) (z : Str) : Prop := z.length ≤ n ∧ ∀ c ∈ tl z, c ∈ tl signs
theorem SgT.mono {n m : Nat} {z : Str} (h : SgT n z) (k : n ≤ m) : SgT m z := ⟨Nat.le_trans h.1 k, h.2⟩
theorem SgT.app {n m : Nat} {a b : Str} (h : SgT n a) (g : SgT m b) : SgT (n + m) (a ++ b) := by
  refine ⟨by rw [Str.length_append]; have := h.1; have := g.1; omega, fun c hc => ?_⟩
  rw [tl_append] at hc
  rcases List.mem_append.mp hc with hc | hc
  · exact h.2 c hc
  · exact g.2 c hc
theorem sg_num {i : Int} (h0 : 0 ≤ i) (h1 : i ≤ 1999999) : SgT 7 (PySem.Str.ofString (toString i)) := by
  cases i with
  | negSucc n => exact absurd h0 (by omega)
  | ofNat n =>
    have h1 : (n : Int) ≤ 1999999 := h1
    have hz : tl (PySem.Str.ofString (toString (Int.ofNat n))) = numL n := tl_num n
    refine ⟨by rw [len_tl, hz]; exact numL_len (by decide) (by omega), fun c hc => ?_⟩
    rw [hz] at hc
    obtain ⟨a, b⟩ := numL_digits n c hc
    have k : ∀ i < 10, 48 + i ∈ tl signs := by decide +kernel
    have := k (c - 48) (by omega)
    rwa [show 48 + (c - 48) = c by omega] at this
def spT (n : Nat) : Sp := fun vs H Q _ => ∃ p : Addr, vs = [.ref p] ∧ BgA H p ∧ ∀ z H', SgT n z → BgA H' p → Keep p H H' → Q (.str z) H'
def sgnA : Str := " !\"#$&'()*+,-./0123456789:;<=>?@ABCDEFGHIJKLMNOPQRSTUVWXYZ[\\]^_`"
def sgnB : Str := "abcdefghijklmnopqrstuvwxyz{|}~"
theorem sgn_all : (sgnA ++ sgnB).length = 94 ∧ ∀ c ∈ tl (sgnA ++ sgnB), c ∈ tl signs := by decide +kernel
section
variable {P : Program} {w : World} {K : PySem.W.Frag} {mg : Str → Option Value} {base : Heap} {f D R C : Addr} {fd : FuncData} {k : Nat}
theorem ok_law_digits (T : Mg mg) (F : FnP K "_law_digits" s_law_digits f fd) (gm : mg "_law_digits" = some (.ref f)) : Call P w K mg base 1 "_law_digits" ["word"] (sp1 fun z => .int (digF z)) := by
  refine mk F gm (fun _ _ _ _ _ _ us hl => match us, hl with | [_], _ => rfl) (fun _ _ _ _ _ _ us hl => match us, hl with | [_], _ => rfl) sc_law_digits (fun vs H Q E h => ?_) (fun cdv A outer s H vs Q E hr h => ?_)
  · obtain ⟨z, rfl, _⟩ := h
    rfl
  · obtain ⟨z, rfl, hz, q⟩ := h
    refine ⟨_, (pss_cons (ps_if (PW.pt (pw_or (pt_not (pt_chain op_le op_le pe_int (pe_callB cz_len (by rfl) T.len (by decide +kernel) (pa_cons (pv 0) pa_nil)) pe_int)) (pw_or1 (PW.pt (pw_and (pt_cmpR op_eq (pe_ix ix_str (pv 0) pe_int (fun _ _ => rfl)) pe_str (nomark _)) (pw_and1 (pt_cmpR op_ne (pv 0) pe_str (nomark _))))))))
      (pss_one (ps_ret (pe_un un_neg pe_int)))
      pss_nil)
    (pss_cons (ps_for PassesOwn.never rfl (pi_str (pv 0)) (pg_name (i := 1) sc_law_digits.nd rfl (Or.inl rfl))
      (pss_one (ps_if (pt_cmpR op_notInS (pv 1) pe_str rfl)
        (pss_one (ps_ret (pe_un un_neg pe_int)))
        pss_nil)))
    (pss_one (ps_ret (pe_callTy cz_int (by rfl) T.int (by decide +kernel) (pa_cons (pv 0) pa_nil)))))), ?_⟩
    have bad : ∀ {H1 : Hp}, Ex H H1 → digB z = false → Q (.int (-1)) H1 := fun {H1} e hd => by
      have g : Q (.int (digF z)) H1 := q H1 e
      unfold digF at g
      rw [if_neg (by rw [hd]; exact Bool.false_ne_true)] at g
      exact g
    refine q_when (b := !(decide ((1 : Int) ≤ z.length) && decide ((z.length : Int) ≤ 6)) || (decide (hd z = some 48) && !decide (z = ("0" : Str)))) (et_or (et_not (et_test (ev_chain ev_c (ev_lenStr (ev_var rfl) hz) ev_c))) fun ha => ?_) (fun hb H1 e1 => ?_) (fun hb H1 e1 => ?_)
    · rw [Bool.not_eq_false'] at ha
      have hl := pl ha
      obtain ⟨c, g1, g2⟩ := item0 (z := z) (by omega)
      have e3 : decide ((⟨#[c]⟩ : Str) = ("0" : Str)) = decide (hd z = some 48) := by
        rw [g1, show ("0" : Str) = ⟨#[48]⟩ by decide +kernel]
        by_cases h : c = 48
        · rw [h]; rfl
        · rw [decide_eq_false fun e => h ((one_eq _ _).mp e), decide_eq_false fun e => h (Option.some.inj e)]
      exact et_and (et_is (et_test (ev_op (ev_ixS (ev_var rfl) ev_c hz g2) ev_c rv_eqS)) e3) fun _ => et_test (ev_op (ev_var rfl) ev_c rv_neS)
    · refine s_ret (ev_un ev_c ru_neg) fun H2 e2 => bad (e1.trans e2) ?_
      cases e : digB z with
      | false => rfl
      | true =>
        exfalso
        unfold digB at e
        rw [Bool.and_eq_true, Bool.and_eq_true, Bool.and_eq_true] at e
        obtain ⟨⟨a1, a2⟩, a3, a4⟩ := e
        rw [a1, a2, Bool.true_and, Bool.not_true, Bool.false_or, Bool.and_eq_true, decide_eq_true_eq, Bool.not_eq_true', decide_eq_false_iff_not] at hb
        rw [Bool.or_eq_true, decide_eq_true_eq, Bool.not_eq_true', decide_eq_false_iff_not] at a4
        rcases a4 with a4 | a4
        · exact hb.2 (zero_text (by omega) hb.1)
        · exact a4 hb.1
    · rw [Bool.or_eq_false_iff, Bool.not_eq_false'] at hb
      obtain ⟨hc, hb⟩ := hb
      have hl := pl hc
      refine q_forS (w := z) (ev_var rfl) (fun i σ' H' => (∃ v, σ' = [some (.str z), v]) ∧ Ex H H' ∧ ((tl z).take i).all (fun c => decide (c ∈ tl ("0123456789" : Str))) = true) (fun H2 e2 => ⟨⟨none, rfl⟩, e1.trans e2, rfl⟩) (fun i c σ' H' hi p => ?_) (fun σ' H' p => ?_)
      · obtain ⟨⟨v, rfl⟩, e2, hp⟩ := p
        refine s_when (et_test (ev_op (ev_var rfl) ev_c rv_notin)) (fun hb H1 e3 => ?_) (fun hb H1 e3 => ?_)
        · refine s_ret (ev_un ev_c ru_neg) fun H2 e4 => bad ((e2.trans e3).trans e4) ?_
          rw [Bool.not_eq_true', decide_eq_false_iff_not] at hb
          cases e : digB z with
          | false => rfl
          | true =>
            unfold digB at e
            rw [Bool.and_eq_true, Bool.and_eq_true, Bool.and_eq_true] at e
            exact absurd (of_decide_eq_true (List.all_eq_true.mp e.2.1 c (List.mem_of_getElem? hi))) hb
        · refine ⟨⟨_, rfl⟩, e2.trans e3, ?_⟩
          rw [Bool.not_eq_false'] at hb
          rw [List.take_add_one, hi, List.all_append, hp]
          show (true && (decide (c ∈ tl ("0123456789" : Str)) && true)) = true
          rw [show decide (c ∈ tl ("0123456789" : Str)) = true from hb]
          rfl
      · obtain ⟨⟨v, rfl⟩, e2, hp⟩ := p
        rw [List.take_length] at hp
        have ha : allIn z "0123456789" = true := hp
        have hd1 : digB z = true := by
          unfold digB
          rw [hc, ha, Bool.true_and, Bool.true_and, Bool.or_eq_true, decide_eq_true_eq, Bool.not_eq_true', decide_eq_false_iff_not]
          rw [Bool.and_eq_false_iff, decide_eq_false_iff_not, Bool.not_eq_false', decide_eq_true_eq] at hb
          rcases hb with hb | hb
          · exact .inr hb
          · have := zero_len hb
            exact .inl (by omega)
        refine s_ret (v := .int (digF z)) (ev_is (ev_intStr (ev_var rfl) (int_digits ha (by omega) (by omega)) (by omega)) ?_) fun H3 e3 => q H3 (e2.trans e3)
        unfold digF
        rw [if_pos hd1]
theorem ok_law_plain (T : Mg mg) (c_law_take : CTakeA P w K mg base) (F : FnP K "_law_plain" s_law_plain f fd) (gm : mg "_law_plain" = some (.ref f)) : Call P w K mg base 2 "_law_plain" ["bag"] (spT 1) := by
  refine mk F gm (fun _ _ _ _ _ _ us hl => match us, hl with | [_], _ => rfl) (fun _ _ _ _ _ _ us hl => match us, hl with | [_], _ => rfl) sc_law_plain (fun vs H Q E h => ?_) (fun cdv A outer s H vs Q E hr h => ?_)
  · obtain ⟨p, rfl, _⟩ := h
    rfl
  · obtain ⟨p, rfl, b, q⟩ := h
    refine ⟨_, (pss_cons (ps_set (i := 1) sc_law_plain.nd rfl (Or.inl rfl) pe_str)
    (pss_cons (ps_set (i := 1) sc_law_plain.nd rfl (Or.inl rfl) (pe_op oz_add (pv 1) pe_str))
    (pss_one (ps_ret (pe_ix ix_str (pv 1) (pe_f c_law_take hr (by decide) rfl (pa_cons (pv 0) (pa_cons (pe_callB cz_len (by rfl) T.len (by decide +kernel) (pa_cons (pv 1) pa_nil)) pa_nil))) (fun _ _ => rfl)))))), ?_⟩
    refine q_asg (v := .str sgnA) ev_c fun H1 e1 => ?_
    try dsimp only
    refine q_asg (v := .str (sgnA ++ sgnB)) (ev_op (ev_var rfl) ev_c (rv_addS (by decide +kernel))) fun H2 e2 => ?_
    try dsimp only
    have b2 := b.ex (e1.trans e2)
    have hz := sgn_all.1
    refine g_ret (rd_opR ⟨_, rfl, rd_takeA (lim := 94) (ea_cons (ev_var rfl) (ea_cons (ev_is (ev_lenStr (ev_var rfl) (by rw [hz]; decide)) (by rw [hz]; rfl)) ea_nil)) b2 (by decide) (by decide) fun d H3 d0 d1 b3 k3 => ?_⟩)
    obtain ⟨c, hc, hcm⟩ := at_int (xs := tl (sgnA ++ sgnB)) (d := d) d0 (by rw [← len_tl, hz]; exact d1)
    refine ⟨_, d, c, rfl, rfl, sz_of (by rw [hz]; decide), hc, q _ H3 ⟨Nat.le_refl 1, fun x hx => ?_⟩ b3 ((Keep.of (e1.trans e2)).trans k3)⟩
    have e : x = c := List.mem_singleton.mp hx
    rw [e]
    exact sgn_all.2 c hcm
def endL : List Str := ["", "05", "00", "-1", "+1", "1a", "a", "1 2", " 1", "1.0", "x", "=3", "12;4"]
theorem end_ok : ∀ z ∈ endL, z.length ≤ 7 ∧ ∀ c ∈ tl z, c ∈ tl signs := by decide +kernel
theorem ok_law_odd (T : Mg mg) (c_law_take : CTakeA P w K mg base) (c_law_number : Call P w K mg base 2 "_law_number" ["bag"] spNumA) (F : FnP K "_law_odd" s_law_odd f fd) (gm : mg "_law_odd" = some (.ref f)) : Call P w K mg base 3 "_law_odd" ["bag"] (spT 7) := by
  refine mk F gm (fun _ _ _ _ _ _ us hl => match us, hl with | [_], _ => rfl) (fun _ _ _ _ _ _ us hl => match us, hl with | [_], _ => rfl) sc_law_odd (fun vs H Q E h => ?_) (fun cdv A outer s H vs Q E hr h => ?_)
  · obtain ⟨p, rfl, _⟩ := h
    rfl
  · obtain ⟨p, rfl, b, q⟩ := h
    refine ⟨_, (pss_cons (ps_set (i := 1) sc_law_odd.nd rfl (Or.inl rfl) (pe_lst (pa_cons pe_str (pa_cons pe_str (pa_cons pe_str (pa_cons pe_str (pa_cons pe_str (pa_cons pe_str (pa_cons pe_str (pa_cons pe_str (pa_cons pe_str (pa_cons pe_str (pa_cons pe_str (pa_cons pe_str (pa_cons pe_str pa_nil)))))))))))))))
    (pss_cons (ps_set (i := 2) sc_law_odd.nd rfl (Or.inl rfl) (pe_f c_law_take hr (by decide) rfl (pa_cons (pv 0) (pa_cons pe_int pa_nil))))
    (pss_cons (ps_if (pt_cmpR op_eq (pv 2) pe_int (nomark _))
      (pss_one (ps_ret (pe_callTy cz_str (by rfl) T.str (by decide +kernel) (pa_cons (pe_op op_add pe_int (pe_f c_law_number hr (by decide) rfl (pa_cons (pv 0) pa_nil))) pa_nil))))
      pss_nil)
    (pss_one (ps_ret (pe_ix ix_list (pv 1) (pv 2) (fun _ _ => rfl))))))), ?_⟩
    refine q_asgL (xs := endL.map V.str) (el_lst (ea_cons ev_c (ea_cons ev_c (ea_cons ev_c (ea_cons ev_c (ea_cons ev_c (ea_cons ev_c (ea_cons ev_c (ea_cons ev_c (ea_cons ev_c (ea_cons ev_c (ea_cons ev_c (ea_cons ev_c (ea_cons ev_c ea_nil))))))))))))) (by decide)) fun l H1 nl e1 hl => ?_
    try dsimp only
    have nlp := b.ne nl
    refine q_asgR (rd_takeA (ea_pl rfl) (b.ex e1) (by decide) (by decide) fun d H2 d0 d1 b2 k2 => ?_)
    try dsimp only
    have kk := (Keep.of e1).trans k2
    have hl := k2 _ _ nlp hl
    refine q_when (et_test (ev_op (ev_var rfl) ev_c rv_eqI)) (fun hb H3 e3 => ?_) (fun hb H3 e3 => ?_)
    · refine g_ret (rd_cb1 (rd_opR (ev_c H3 (Ex.refl H3) _ fun H4 e4 => rd_numA (ea_p rfl) (b2.ex (e3.trans e4)) fun n H5 n0 n1 b5 k5 => ?_)))
      refine ⟨_, _, rfl, rfl, 1000000 + n, rfl, log_small (by omega), ?_⟩
      exact q _ H5 (sg_num (by omega) (by omega)) b5 ((kk.trans (Keep.of (e3.trans e4))).trans k5)
    · have hb := of_decide_eq_false hb
      obtain ⟨v, hv, hvm⟩ := at_int (xs := endL.map V.str) (d := d) d0 (by show d < 13; omega)
      obtain ⟨z, hz, rfl⟩ := List.mem_map.mp hvm
      exact s_ret (ev_ixL (ev_var rfl) (ev_var rfl) (e3 _ _ hl) hv) fun H4 e4 => q z H4 (end_ok z hz) (b2.ex (e3.trans e4)) (kk.trans (Keep.of (e3.trans e4)))
end
end Z
set_option maxHeartbeats 4000000
namespace Z
open PySem PySem.Spec PyProof.Rows L2 TL Evl NdefX
def wdL : List Str := (["lasts", "shared-lasts", "late", "on-error", "age", "fresh"] : List Str) ++ (["strict", "check", "own", "never", "kept"] : List Str)
def nearL (w : Str) : List Str := [("" : Str), ("x" : Str) ++ w, w ++ ("s=5" : Str), Txt.upper w, ("max-" : Str) ++ w ++ ("=5" : Str), w ++ ("-" : Str)] ++ [cutS w (some 1) none, w ++ ("5" : Str)]
theorem wd_ok : ∀ w ∈ wdL, w.length ≤ 12 ∧ (∀ c ∈ tl w, c ∈ tl signs) ∧ ∀ z ∈ nearL w, z.length ≤ 20 ∧ ∀ c ∈ tl z, c ∈ tl signs := by decide +kernel
theorem mz_upper {X : Cx} : MtR X "str.upper" rUpper := mt_upper
def spNear : Sp := fun vs H Q _ => ∃ (w : Str) (i : Int), vs = [.str w, .int i] ∧ w ∈ wdL ∧ 0 ≤ i ∧ i < 8 ∧ ∀ z H', SgT 20 z → Ex H H' → Q (.str z) H'
theorem join_sg {ps : List Str} (h : ∀ z ∈ ps, SgT 1 z) : (ps.map (·.length)).sum ≤ ps.length ∧ ∀ c ∈ tl (Txt.join "" ps), c ∈ tl signs := by
  refine ⟨?_, fun c hc => ?_⟩
  · have := sum_most ps 1 fun z hz => (h z hz).1
    omega
  · cases ps with
    | nil => exact absurd hc (by rw [show Txt.join "" [] = ("" : Str) by decide +kernel, tl_empty]; exact List.not_mem_nil)
    | cons p r =>
      rw [join_tl] at hc
      rcases List.mem_append.mp hc with hc | hc
      · exact (h p List.mem_cons_self).2 c hc
      · obtain ⟨q, hq, hc⟩ := List.mem_flatMap.mp hc
        rw [tl_empty, List.nil_append] at hc
        exact (h q (List.mem_cons_of_mem _ hq)).2 c hc
section
variable {P : Program} {w : World} {K : PySem.W.Frag} {mg : Str → Option Value} {base : Heap} {f D R C : Addr} {fd : FuncData} {k : Nat}
theorem ok_law_near (T : Mg mg) (F : FnP K "_law_near" s_law_near f fd) (gm : mg "_law_near" = some (.ref f)) : Call P w K mg base 1 "_law_near" ["word", "way"] spNear := by
  refine mk F gm (fun _ _ _ _ _ _ us hl => match us, hl with | [_, _], _ => rfl) (fun _ _ _ _ _ _ us hl => match us, hl with | [_, _], _ => rfl) sc_law_near (fun vs H Q E h => ?_) (fun cdv A outer s H vs Q E hr h => ?_)
  · obtain ⟨w, i, rfl, _⟩ := h
    rfl
  · obtain ⟨w, i, rfl, hw, i0, i8, q⟩ := h
    refine ⟨_, (pss_cons (ps_set (i := 2) sc_law_near.nd rfl (Or.inl rfl) (pe_lst (pa_cons pe_str (pa_cons (pe_op oz_add pe_str (pv 0)) (pa_cons (pe_op oz_add (pv 0) pe_str) (pa_cons (pe_bm0 PySem.F.plainAttrs_str PySem.F.slot_str_upper PySem.F.type_str_upper mz_upper (pv 0)) (pa_cons (pe_op oz_add (pe_op oz_add pe_str (pv 0)) pe_str) (pa_cons (pe_op oz_add (pv 0) pe_str) pa_nil))))))))
    (pss_cons (ps_set (i := 2) sc_law_near.nd rfl (Or.inl rfl) (pe_op op_cat (pv 2) (pe_lst (pa_cons (pe_slice sl_str (pv 0) (po_some pe_int) po_none) (pa_cons (pe_op oz_add (pv 0) pe_str) pa_nil)))))
    (pss_one (ps_ret (pe_ix ix_list (pv 2) (pv 1) (fun _ _ => rfl)))))), ?_⟩
    obtain ⟨h1, h2, h3⟩ := wd_ok w hw
    have c : ("x" : Str).length ≤ 10 ∧ ("s=5" : Str).length ≤ 10 ∧ ("max-" : Str).length ≤ 10 ∧ ("=5" : Str).length ≤ 10 ∧ ("-" : Str).length ≤ 10 ∧ ("5" : Str).length ≤ 10 := by decide +kernel
    refine q_asgL (xs := [("" : Str), ("x" : Str) ++ w, w ++ ("s=5" : Str), Txt.upper w, ("max-" : Str) ++ w ++ ("=5" : Str), w ++ ("-" : Str)].map V.str) (el_lst (ea_cons ev_c (ea_cons (ev_op ev_c (ev_var rfl) (rv_addS (by omega))) (ea_cons (ev_op (ev_var rfl) ev_c (rv_addS (by omega))) (ea_cons (fun H1 e Q q => ⟨.str w, rfl, rfl, w, rfl, rfl, by omega, q H1 (Ex.refl H1)⟩) (ea_cons (ev_op (ev_op ev_c (ev_var rfl) (rv_addS (by omega))) ev_c (rv_addS (by rw [Str.length_append]; omega))) (ea_cons (ev_op (ev_var rfl) ev_c (rv_addS (by omega))) ea_nil)))))) (by show 6 ≤ 100000; decide)) fun l H1 nl e1 hl => ?_
    try dsimp only
    refine q_asgL (xs := (nearL w).map V.str) (el_catEL (zs := [cutS w (some 1) none, w ++ ("5" : Str)].map V.str) (ev_var rfl) (el_lst (ea_cons (ev_slS (ev_var rfl) (eo_some ev_c) eo_none (by omega)) (ea_cons (ev_op (ev_var rfl) ev_c (rv_addS (by omega))) ea_nil)) (by show 2 ≤ 100000; decide)) hl (by show 6 + 2 ≤ 100000; decide)) fun l2 H2 nl2 e2 hl2 => ?_
    try dsimp only
    obtain ⟨v, hv, hvm⟩ := at_int (xs := (nearL w).map V.str) (d := i) i0 (by show i < 8; exact i8)
    obtain ⟨z, hz, rfl⟩ := List.mem_map.mp hvm
    exact s_ret (ev_ixL (ev_var rfl) (ev_var rfl) hl2 hv) fun H3 e3 => q z H3 (h3 z hz) ((e1.trans e2).trans e3)
theorem ok_law_element (T : Mg mg) (c_law_take : CTakeA P w K mg base) (c_law_number : Call P w K mg base 2 "_law_number" ["bag"] spNumA) (c_law_plain : Call P w K mg base 2 "_law_plain" ["bag"] (spT 1)) (c_law_odd : Call P w K mg base 3 "_law_odd" ["bag"] (spT 7)) (c_law_near : Call P w K mg base 1 "_law_near" ["word", "way"] spNear) (F : FnP K "_law_element" s_law_element f fd) (gm : mg "_law_element" = some (.ref f)) : Call P w K mg base 4 "_law_element" ["bag"] (spT 20) := by
  refine mk F gm (fun _ _ _ _ _ _ us hl => match us, hl with | [_], _ => rfl) (fun _ _ _ _ _ _ us hl => match us, hl with | [_], _ => rfl) sc_law_element (fun vs H Q E h => ?_) (fun cdv A outer s H vs Q E hr h => ?_)
  · obtain ⟨p, rfl, _⟩ := h
    rfl
  · obtain ⟨p, rfl, b, q⟩ := h
    refine ⟨_, (pss_cons (ps_set (i := 1) sc_law_element.nd rfl (Or.inl rfl) (pe_lst (pa_cons pe_str (pa_cons pe_str (pa_cons pe_str (pa_cons pe_str (pa_cons pe_str (pa_cons pe_str pa_nil))))))))
    (pss_cons (ps_set (i := 1) sc_law_element.nd rfl (Or.inl rfl) (pe_op op_cat (pv 1) (pe_lst (pa_cons pe_str (pa_cons pe_str (pa_cons pe_str (pa_cons pe_str (pa_cons pe_str pa_nil))))))))
    (pss_cons (ps_set (i := 2) sc_law_element.nd rfl (Or.inl rfl) (pe_f c_law_take hr (by decide) rfl (pa_cons (pv 0) (pa_cons pe_int pa_nil))))
    (pss_cons (ps_set (i := 3) sc_law_element.nd rfl (Or.inl rfl) (pe_f c_law_take hr (by decide) rfl (pa_cons (pv 0) (pa_cons pe_int pa_nil))))
    (pss_cons (ps_if (pt_cmpR op_eq (pv 3) pe_int (nomark _))
      (pss_one (ps_ret (pe_op oz_add (pe_op oz_add (pe_ix ix_list (pv 1) (pv 2) (fun _ _ => rfl)) pe_str) (pe_f c_law_odd hr (by decide) rfl (pa_cons (pv 0) pa_nil)))))
      pss_nil)
    (pss_cons (ps_if (pt_cmpR op_eq (pv 3) pe_int (nomark _))
      (pss_one (ps_ret (pe_op oz_add (pe_op oz_add (pe_ix ix_list (pv 1) (pv 2) (fun _ _ => rfl)) pe_str) (pe_callTy cz_str (by rfl) T.str (by decide +kernel) (pa_cons (pe_f c_law_number hr (by decide) rfl (pa_cons (pv 0) pa_nil)) pa_nil)))))
      pss_nil)
    (pss_cons (ps_if (pt_cmpR op_eq (pv 3) pe_int (nomark _))
      (pss_one (ps_ret (pe_f c_law_near hr (by decide) rfl (pa_cons (pe_ix ix_list (pv 1) (pv 2) (fun _ _ => rfl)) (pa_cons (pe_f c_law_take hr (by decide) rfl (pa_cons (pv 0) (pa_cons pe_int pa_nil))) pa_nil)))))
      pss_nil)
    (pss_cons (ps_if (pt_cmpR op_eq (pv 3) pe_int (nomark _))
      (pss_one (ps_ret (pe_ix ix_list (pv 1) (pv 2) (fun _ _ => rfl))))
      pss_nil)
    (pss_cons (ps_if (pt_cmpR op_eq (pv 3) pe_int (nomark _))
      (pss_one (ps_ret (pe_bm PySem.F.plainAttrs_str PySem.F.slot_str_join PySem.F.type_str_join mz_join pe_str (pa_cons (pe_lc (own := [("k", 4)]) (g := gName 4) (tt := tYes) rfl sc_law_element.nd (pi_range1 rfl T.range (pa_cons (pe_op op_add pe_int (pe_f c_law_take hr (by decide) rfl (pa_cons (pv 0) (pa_cons pe_int pa_nil)))) pa_nil)) (blkOk_by (N := ["bag", "words", "at", "way", "k"]) (sc := L2.defScope s_law_element) (by decide +kernel)) (fun _ _ _ _ _ => pg_name (i := 4) sc_law_element.nd rfl (Or.inl rfl)) (fun _ _ _ _ _ => pts_nil) (fun _ _ _ _ _ => (pe_f c_law_plain hr (by decide) rfl (pa_cons (pv 0) pa_nil)))) pa_nil))))
      pss_nil)
    (pss_cons (ps_if (PW.pt (pw_or (pt_cmpR op_eq (pv 3) pe_int (nomark _)) (pw_or1 (pt_cmpR op_lt (pv 2) pe_int (nomark _)))))
      (pss_one (ps_ret (pe_op oz_add (pe_op oz_add (pe_ix ix_list (pv 1) (pv 2) (fun _ _ => rfl)) pe_str) (pe_callTy cz_str (by rfl) T.str (by decide +kernel) (pa_cons (pe_f c_law_number hr (by decide) rfl (pa_cons (pv 0) pa_nil)) pa_nil)))))
      pss_nil)
    (pss_one (ps_ret (pe_ix ix_list (pv 1) (pv 2) (fun _ _ => rfl)))))))))))))), ?_⟩
    refine q_asgL (xs := (["lasts", "shared-lasts", "late", "on-error", "age", "fresh"] : List Str).map V.str) (el_lst (ea_cons ev_c (ea_cons ev_c (ea_cons ev_c (ea_cons ev_c (ea_cons ev_c (ea_cons ev_c ea_nil)))))) (by decide)) fun l H1 nl e1 hl => ?_
    try dsimp only
    refine q_asgL (xs := wdL.map V.str) (el_catEL (zs := (["strict", "check", "own", "never", "kept"] : List Str).map V.str) (ev_var rfl) (el_lst (ea_cons ev_c (ea_cons ev_c (ea_cons ev_c (ea_cons ev_c (ea_cons ev_c ea_nil))))) (by decide)) hl (by decide)) fun l2 H2 nl2 e2 hl2 => ?_
    try dsimp only
    have b2 := b.ex (e1.trans e2)
    have n2 := (b.ex e1).ne nl2
    have k02 := Keep.of (p := p) (e1.trans e2)
    refine q_asgR (rd_takeA (ea_pl rfl) b2 (by decide) (by decide) fun a H3 a0 a1 b3 k3 => ?_)
    try dsimp only
    refine q_asgR (rd_takeA (ea_pl rfl) b3 (by decide) (by decide) fun wy H4 w0 w1 b4 k4 => ?_)
    try dsimp only
    have hl4 := k4 _ _ n2 (k3 _ _ n2 hl2)
    have k04 := (k02.trans k3).trans k4
    clear k02 k3 k4 b3 b2 e1 e2 hl hl2 nl nl2 b
    refine q_st (σ' := [some (.ref p), some (.ref l2), some (.int a), some (.int wy), none]) rfl ?_
    obtain ⟨v, hv, hvm⟩ := at_int (xs := wdL.map V.str) (d := a) a0 (by show a < 11; exact a1)
    obtain ⟨wd, hwd, rfl⟩ := List.mem_map.mp hvm
    obtain ⟨g1, g2, g3⟩ := wd_ok wd hwd
    have sw : SgT 12 wd := ⟨g1, g2⟩
    have W : ∀ {H' : Hp}, Ex H4 H' → Ev (tOp (rIxL K) (tVar 1) (tVar 2)) [some (.ref p), some (.ref l2), some (.int a), some (.int wy), none] H' (.str wd) := fun e => ev_ixL (ev_var rfl) (ev_var rfl) (e _ _ hl4) hv
    have eqS : SgT 1 ("=" : Str) ∧ SgT 2 (" =" : Str) := by
      unfold SgT
      decide +kernel
    have one : ("=" : Str).length ≤ 10 ∧ (" =" : Str).length ≤ 10 := by decide +kernel
    have eqn : ∀ {H' : Hp} {z : Str} {m : Nat}, Ex H4 H' → z.length ≤ 10 → SgT m z → m ≤ 2 → tOp rAddS2 (tOp rAddS2 (tOp (rIxL K) (tVar 1) (tVar 2)) (tC (.str z))) (tCB rStrI (tCons (tCall spNumA [] E0 (tCons (tVar 0) tNil)) tNil)) [some (.ref p), some (.ref l2), some (.int a), some (.int wy), none] H' Q := fun {H' z m} e hz sz hm =>
      rd_opR ((ev_op (W e) ev_c (rv_addS (by omega))) H' (Ex.refl H') _ fun H6 e6 => rd_cb1 (rd_numA (ea_p rfl) (b4.ex (e.trans e6)) fun n H7 n0 n1 b7 k7 => ⟨n, rfl, log_small (by omega), by
        have h6 := (num_len n0 n1).2
        have s6 : SgT 6 (PySem.Str.ofString (toString n)) := ⟨h6, (sg_num n0 (by omega)).2⟩
        exact ⟨_, _, rfl, rfl, sz_of (by have := sw.1; rw [Str.length_append]; show _ + (PySem.Str.ofString (toString n)).length ≤ _; omega), q _ _ (((sw.app sz).app s6).mono (by omega)) b7 ((k04.trans (Keep.of (e.trans e6))).trans k7)⟩⟩))
    refine q_when (et_test (ev_op (ev_var rfl) ev_c rv_eqI)) (fun _ H5 e5 => ?_) (fun _ H5 e5 => ?_)
    · refine g_ret (rd_opR ((ev_op (W e5) ev_c (rv_addS (by omega))) H5 (Ex.refl H5) _ fun H6 e6 => rd_call (ea_p rfl) fun H7 e7 => ⟨p, rfl, b4.ex ((e5.trans e6).trans e7), fun z H8 sz b8 k8 => ⟨_, _, rfl, rfl, sz_of (by have := sw.1; have := sz.1; rw [Str.length_append]; omega), q _ _ (((sw.app eqS.1).app sz).mono (by decide)) b8 ((k04.trans (Keep.of ((e5.trans e6).trans e7))).trans k8)⟩⟩))
    refine q_when (et_test (ev_op (ev_var rfl) ev_c rv_eqI)) (fun _ H6 e6 => g_ret (eqn (e5.trans e6) one.2 eqS.2 (by decide))) (fun _ H6 e6 => ?_)
    have e56 := e5.trans e6
    refine q_when (et_test (ev_op (ev_var rfl) ev_c rv_eqI)) (fun _ H7 e7 => ?_) (fun _ H7 e7 => ?_)
    · refine g_ret (rd_arg2 ((W (e56.trans e7)) H7 (Ex.refl H7) _ fun H8 e8 => rd_takeA (ea_pl rfl) (b4.ex ((e56.trans e7).trans e8)) (by decide) (by decide) fun d H9 d0 d1 b9 k9 => ⟨wd, d, rfl, hwd, d0, d1, fun z HA sz eA => q z HA sz (b9.ex eA) (((k04.trans (Keep.of ((e56.trans e7).trans e8))).trans k9).trans (Keep.of eA))⟩))
    have e57 := e56.trans e7
    refine q_when (et_test (ev_op (ev_var rfl) ev_c rv_eqI)) (fun _ H8 e8 => s_ret (W (e57.trans e8)) fun H9 e9 => q wd H9 (sw.mono (by decide)) (b4.ex ((e57.trans e8).trans e9)) (k04.trans (Keep.of ((e57.trans e8).trans e9)))) (fun _ H8 e8 => ?_)
    have e58 := e57.trans e8
    refine q_when (et_test (ev_op (ev_var rfl) ev_c rv_eqI)) (fun _ H9 e9 => ?_) (fun _ H9 e9 => ?_)
    · have b9 := b4.ex (e58.trans e9)
      have k9 := k04.trans (Keep.of (e58.trans e9))
      refine g_ret ⟨rfl, rd_opR (ev_c H9 (Ex.refl H9) _ fun HA eA => rd_takeA (ea_pl rfl) (b9.ex eA) (by decide) (by decide) fun d HB d0 d1 bB kB => ⟨1, d, rfl, rfl, 1 + d, rfl, by omega, by omega, fun D hD => ?_⟩)⟩
      have kC := (k9.trans (Keep.of eA)).trans kB
      have nD := bB.ne hD
      have hD0 : H D = none := by
        obtain ⟨c0, c1, c2, cs, hx, _⟩ := id bB
        exact kC.non hx hD
      refine lc_range (lo := 0) (n := (1 + d).toNat) (fun i H' => ∃ acc : List Str, H' D = some (.lst (acc.map V.str)) ∧ acc.length = i ∧ (∀ y ∈ acc, SgT 1 y) ∧ BgA H' p ∧ Keep p H H') ⟨[], upd_same, rfl, (fun _ h => nomatch h), bB.upd nD, kC.mut hD0⟩ (fun i H' hi pv => ?_) (fun H' pv => ?_)
      · obtain ⟨acc, hA, hl, hone, hbg, hk⟩ := pv
        refine ⟨rfl, ?_⟩
        unfold tYes
        dsimp only
        rw [if_pos rfl]
        refine rd_call (ea_p rfl) fun HC eC => ⟨p, rfl, hbg.ex eC, fun z HE sz bE kE => ?_⟩
        have hA := kE _ _ nD (eC _ _ hA)
        refine ⟨_, hA, sz_lt (by rw [List.length_map]; omega), acc ++ [z], ?_, ?_, ?_, bE.upd nD, ((hk.trans (Keep.of eC)).trans kE).mut hD0⟩
        · rw [upd_same, List.map_append]
          rfl
        · rw [List.length_append, hl]
          rfl
        · intro y hy
          rcases List.mem_append.mp hy with hy | hy
          · exact hone y hy
          · rw [List.mem_singleton.mp hy]
            exact sz
      · obtain ⟨acc, hA, hl, hone, hbg, hk⟩ := pv
        obtain ⟨j1, j2⟩ := join_sg hone
        have e0 : (("" : Str)).length = 0 := by decide +kernel
        have j3 := join_len "" acc
        rw [e0] at j3
        refine ⟨"", D, acc, rfl, rfl, .inl (sq_of hA), Nat.le_trans (show _ ≤ 1000 by rw [e0]; omega) (by decide), q _ _ ⟨by omega, j2⟩ hbg hk⟩
    have e59 := e58.trans e9
    refine q_when (et_or (et_test (ev_op (ev_var rfl) ev_c rv_eqI)) fun _ => et_test (ev_op (ev_var rfl) ev_c rv_I0)) (fun _ HA eA => g_ret (eqn (e59.trans eA) one.1 eqS.1 (by decide))) (fun _ HA eA => ?_)
    exact s_ret (W (e59.trans eA)) fun HB eB => q wd HB (sw.mono (by decide)) (b4.ex ((e59.trans eA).trans eB)) (k04.trans (Keep.of ((e59.trans eA).trans eB)))
end
end Z
set_option maxHeartbeats 4000000
namespace Z
open PySem PySem.Spec PyProof.Rows L2 TL Evl NdefX
theorem rd_cb2 {rc : List V → Hp → VK → Prop} {ta tb : TE} {σ : L2.St} {H : Hp} {Q : VK} (h : ta σ H fun x H1 => tb σ H1 fun y H2 => rc [x, y] H2 Q) : tCB rc (tCons ta (tCons tb tNil)) σ H Q := h
theorem rep_sg : ∀ n < 8, SgT n (repS " " n) := by
  unfold SgT
  decide +kernel
section
variable {P : Program} {w : World} {K : PySem.W.Frag} {mg : Str → Option Value} {base : Heap} {f D R C : Addr} {fd : FuncData} {k : Nat}
theorem ok_law_padded (T : Mg mg) (c_law_take : CTakeA P w K mg base) (c_law_element : Call P w K mg base 4 "_law_element" ["bag"] (spT 20)) (F : FnP K "_law_padded" s_law_padded f fd) (gm : mg "_law_padded" = some (.ref f)) : Call P w K mg base 5 "_law_padded" ["bag"] (spT 24) := by
  refine mk F gm (fun _ _ _ _ _ _ us hl => match us, hl with | [_], _ => rfl) (fun _ _ _ _ _ _ us hl => match us, hl with | [_], _ => rfl) sc_law_padded (fun vs H Q E h => ?_) (fun cdv A outer s H vs Q E hr h => ?_)
  · obtain ⟨p, rfl, _⟩ := h
    rfl
  · obtain ⟨p, rfl, b, q⟩ := h
    refine ⟨_, (pss_cons (ps_set (i := 1) sc_law_padded.nd rfl (Or.inl rfl) (pe_f c_law_element hr (by decide) rfl (pa_cons (pv 0) pa_nil)))
    (pss_cons (ps_set (i := 2) sc_law_padded.nd rfl (Or.inl rfl) (pe_callB (call_max2 rfl) (by rfl) T.max (by decide +kernel) (pa_cons pe_int (pa_cons (pe_op op_sub (pe_f c_law_take hr (by decide) rfl (pa_cons (pv 0) (pa_cons pe_int pa_nil))) pe_int) pa_nil))))
    (pss_one (ps_ret (pe_op oz_add (pe_op oz_add (pe_op oz_rep pe_str (pe_op op_fdiv (pv 2) pe_int)) (pv 1)) (pe_op oz_rep pe_str (pe_op op_mod (pe_callTy cz_int1 (by rfl) T.int (by decide +kernel) (pa_cons (pv 2) pa_nil)) pe_int))))))), ?_⟩
    refine q_asgR (rd_call (ea_p rfl) fun H1 e1 => ⟨p, rfl, b.ex e1, fun z H2 sz b2 k2 => ?_⟩)
    try dsimp only
    refine q_asgR (rd_cb2 (ev_c H2 (Ex.refl H2) _ fun H3 e3 => rd_opR (rd_takeA (ea_pl rfl) (b2.ex e3) (by decide) (by decide) fun d H4 d0 d1 b4 k4 => ev_c H4 (Ex.refl H4) _ fun H5 e5 => ⟨d, 3, rfl, rfl, 0, d - 3, rfl, ?_⟩)))
    obtain ⟨n, hn, n0, n8⟩ : ∃ n, (if d - 3 > 0 then d - 3 else 0) = n ∧ 0 ≤ n ∧ n ≤ 8 := ⟨_, rfl, by split <;> omega, by split <;> omega⟩
    rw [hn]
    try dsimp only
    have b5 := b4.ex e5
    have kk := (((Keep.of e1).trans k2).trans (Keep.of e3)).trans (k4.trans (Keep.of e5))
    have m3 := Int.emod_nonneg n (show (3 : Int) ≠ 0 by decide)
    have m4 := Int.emod_lt_of_pos n (show (0 : Int) < 3 by decide)
    have sp : (" " : Str).length ≤ 10 := by decide +kernel
    have r1 := rep_sg (n / 3).toNat (by omega)
    have r2 := rep_sg (n % 3).toNat (by omega)
    refine s_ret (v := .str (repS " " (n / 3).toNat ++ z ++ repS " " (n % 3).toNat)) (ev_op (ev_op (ev_op ev_c (ev_op (ev_var rfl) ev_c (rv_I (by show (0 : Int) < 3 ∧ (3 : Int) < 1073741824; decide))) fun H1 _ Q q => ⟨_, _, rfl, rfl, by omega, by omega, by omega, q H1 (Ex.refl H1)⟩) (ev_var rfl) (rv_addS (by have := r1.1; have := sz.1; omega))) (ev_op ev_c (ev_op (ev_int1 (ev_var rfl)) ev_c (rv_I (by show (0 : Int) < 3; decide))) fun H1 _ Q q => ⟨_, _, rfl, rfl, by omega, by omega, by omega, q H1 (Ex.refl H1)⟩) (rv_addS (by have := r1.1; have := sz.1; have := r2.1; rw [Str.length_append]; omega))) fun H6 e6 => q _ H6 (((r1.app sz).app r2).mono (by omega)) (b5.ex e6) (kk.trans (Keep.of e6))
end
end Z
set_option maxHeartbeats 4000000
namespace Z
open PySem PySem.Spec PyProof.Rows L2 TL Evl NdefX
/-- a value of at most n signs -/
def VT (n : Nat) (z : Str) : Prop := SgT n z ∧ Txt.stripChars z " " = z
theorem VT.mono {n m : Nat} {z : Str} (h : VT n z) (k : n ≤ m) : VT m z := ⟨h.1.mono k, h.2⟩
theorem VT.val {n : Nat} {z : Str} (h : VT n z) (k : n ≤ 200) : valueB z = true := by
  unfold valueB
  have := h.1.1
  rw [decide_eq_true (by omega), decide_eq_true h.2, Bool.true_and, Bool.and_true]
  exact List.all_eq_true.mpr fun c hc => decide_eq_true (h.1.2 c hc)
theorem vt_strip {n : Nat} {z : Str} (h : SgT n z) : VT n (Txt.stripChars z " ") := ⟨⟨Nat.le_trans (strip_len _ _) h.1, fun c hc => h.2 c (strip_mem hc)⟩, strip_idem _ _⟩
theorem cut_two {n s g : Nat} {z x : Str} (h : SgT n z) (hx : SgT 1 x) (hs : s ≤ z.length) : SgT (n + 1) (cutS z none (some (s : Int)) ++ x ++ cutS z (some ((s : Int) + (g : Int))) none) := by
  have e : (s : Int) + (g : Int) = ((s + g : Nat) : Int) := by omega
  rw [e, cutTo, cutFrom]
  have h1 : (preT z s).length = s := by
    show ((tl z).take s).toArray.size = s
    rw [List.size_toArray, List.length_take, len_tl']
    omega
  have h2 : (sufT z (s + g)).length = z.length - (s + g) := by
    show ((tl z).drop (s + g)).toArray.size = _
    rw [List.size_toArray, List.length_drop, len_tl']
  refine ⟨by rw [Str.length_append, Str.length_append, h1, h2]; have := h.1; have := hx.1; omega, fun c hc => ?_⟩
  rw [tl_append, tl_append] at hc
  rcases List.mem_append.mp hc with hc | hc
  · rcases List.mem_append.mp hc with hc | hc
    · exact h.2 c (List.mem_of_mem_take hc)
    · exact hx.2 c hc
  · exact h.2 c (List.mem_of_mem_drop hc)
/-- apart from two places all stays -/
def Keep2 (p l : Addr) (H H' : Hp) : Prop := ∀ c o, c ≠ p → c ≠ l → H c = some o → H' c = some o
def spSpoil : Sp := fun vs H Q _ => ∃ (l p : Addr) (n : Nat) (ts : List Str), vs = [.ref l, .ref p] ∧ l ≠ p ∧ BgA H p ∧ H l = some (.lst (ts.map V.str)) ∧ 1 ≤ ts.length ∧ ts.length ≤ 100 ∧ n ≤ 1000 ∧ (∀ t ∈ ts, VT n t) ∧
  ∀ (ts' : List Str) (H' : Hp), ts'.length = ts.length → (∀ t ∈ ts', VT (n + 1) t) → H' l = some (.lst (ts'.map V.str)) → BgA H' p → Keep2 p l H H' → Q .non H'
section
variable {P : Program} {w : World} {K : PySem.W.Frag} {mg : Str → Option Value} {base : Heap} {f D R C : Addr} {fd : FuncData} {k : Nat}
theorem ok_law_spoil (T : Mg mg) (c_law_take : CTakeA P w K mg base) (c_law_plain : Call P w K mg base 2 "_law_plain" ["bag"] (spT 1)) (F : FnP K "_law_spoil" s_law_spoil f fd) (gm : mg "_law_spoil" = some (.ref f)) : Call P w K mg base 3 "_law_spoil" ["texts", "bag"] spSpoil := by
  refine mk F gm (fun _ _ _ _ _ _ us hl => match us, hl with | [_, _], _ => rfl) (fun _ _ _ _ _ _ us hl => match us, hl with | [_, _], _ => rfl) sc_law_spoil (fun vs H Q E h => ?_) (fun cdv A outer s H vs Q E hr h => ?_)
  · obtain ⟨l, p, n, ts, rfl, _⟩ := h
    rfl
  · obtain ⟨l, p, n, ts, rfl, nlp, b, hl, t1, t2, n1, hts, q⟩ := h
    refine ⟨_, (pss_cons (ps_set (i := 2) sc_law_spoil.nd rfl (Or.inl rfl) (pe_f c_law_take hr (by decide) rfl (pa_cons (pv 1) (pa_cons (pe_callB call_len_seq (by rfl) T.len (by decide +kernel) (pa_cons (pv 0) pa_nil)) pa_nil))))
    (pss_cons (ps_set (i := 3) sc_law_spoil.nd rfl (Or.inl rfl) (pe_f c_law_take hr (by decide) rfl (pa_cons (pv 1) (pa_cons (pe_op op_add (pe_callB cz_len (by rfl) T.len (by decide +kernel) (pa_cons (pe_ix ix_list (pv 0) (pv 2) (fun _ _ => rfl)) pa_nil)) pe_int) pa_nil))))
    (pss_cons (ps_set (i := 4) sc_law_spoil.nd rfl (Or.inl rfl) (pe_f c_law_take hr (by decide) rfl (pa_cons (pv 1) (pa_cons pe_int pa_nil))))
    (pss_one (ps_asg (pe_bm PySem.F.plainAttrs_str PySem.F.slot_str_strip PySem.F.type_str_strip mz_strip (pe_op oz_add (pe_op oz_add (pe_slice sl_str (pe_ix ix_list (pv 0) (pv 2) (fun _ _ => rfl)) po_none (po_some (pv 3))) (pe_f c_law_plain hr (by decide) rfl (pa_cons (pv 1) pa_nil))) (pe_slice sl_str (pe_ix ix_list (pv 0) (pv 2) (fun _ _ => rfl)) (po_some (pe_op op_add (pv 3) (pv 4))) po_none)) (pa_cons pe_str pa_nil)) (pg_sub (pv 0) (pv 2) set_list)))))), ?_⟩
    refine q_asgR (rd_takeA (lim := (ts.length : Int)) (ea_cons (ev_var rfl) (ea_cons (ev_is (ev_len (ev_var rfl) (sq_of hl)) (by rw [List.length_map])) ea_nil)) b (by omega) (by omega) fun a H1 a0 a1 b1 k1 => ?_)
    try dsimp only
    have hl1 := k1 _ _ nlp hl
    obtain ⟨v, hv, hvm⟩ := at_int (xs := ts.map V.str) (d := a) a0 (by rw [List.length_map]; exact a1)
    obtain ⟨t, ht, rfl⟩ := List.mem_map.mp hvm
    have vt := hts t ht
    have tn := vt.1.1
    refine q_asgR (rd_takeA (lim := (t.length : Int) + 1) (ea_cons (ev_var rfl) (ea_cons (ev_op (ev_lenStr (ev_ixL (ev_var rfl) (ev_var rfl) hl1 hv) (by omega)) ev_c rv_I0) ea_nil)) b1 (by omega) (by omega) fun sp H2 s0 s1 b2 k2 => ?_)
    try dsimp only
    have hl2 := k2 _ _ nlp hl1
    refine q_asgR (rd_takeA (ea_cons (ev_var rfl) (ea_cons ev_c ea_nil)) b2 (by decide) (by decide) fun g H3 g0 g1 b3 k3 => ?_)
    try dsimp only
    have hl3 := k3 _ _ nlp hl2
    have k03 := (k1.trans k2).trans k3
    obtain ⟨s, rfl⟩ := Int.eq_ofNat_of_zero_le s0
    obtain ⟨j, rfl⟩ := Int.eq_ofNat_of_zero_le g0
    obtain ⟨i, rfl⟩ := Int.eq_ofNat_of_zero_le a0
    have hs : s ≤ t.length := by omega
    have I : ∀ {σ : L2.St} {H' : Hp}, H' l = some (.lst (ts.map V.str)) → σ[0]? = some (some (.ref l)) → σ[2]? = some (some (.int (i : Int))) → Ev (tOp (rIxL K) (tVar 0) (tVar 2)) σ H' (.str t) := fun h h0 h2 => ev_ixL (ev_var h0) (ev_var h2) h hv
    refine g_asg (rd_opR (rd_opR ((ev_slS (I hl3 rfl rfl) eo_none (eo_some (ev_var rfl)) (by omega)) H3 (Ex.refl H3) _ fun H4 e4 => rd_call (ea_cons (ev_var rfl) ea_nil) fun H5 e5 => ⟨p, rfl, b3.ex (e4.trans e5), fun x H6 sx b6 k6 => ⟨_, x, rfl, rfl, sz_of (by have := cut_len t none (some (s : Int)); have := sx.1; omega), ?_⟩⟩)))
    have hl6 := k6 _ _ nlp ((e4.trans e5) _ _ hl3)
    have k06 := (k03.trans (Keep.of (e4.trans e5))).trans k6
    have vz := vt_strip (cut_two (g := j) vt.1 sx hs)
    refine (ev_slS (I hl6 rfl rfl) (eo_some (ev_op (ev_var rfl) (ev_var rfl) rv_I0)) eo_none (by omega)) H6 (Ex.refl H6) _ fun H7 e7 => ⟨_, _, rfl, rfl, sz_of (by have := cut_len t none (some (s : Int)); have := cut_len t (some ((s : Int) + (j : Int))) none; have := sx.1; rw [Str.length_append]; omega), rfl, (ea_cons ev_c ea_nil) H7 (Ex.refl H7) _ fun H8 e8 => ⟨_, _, rfl, rfl, sz_of (by have := (cut_two (g := j) vt.1 sx hs).1; omega), ?_⟩⟩
    refine (ev_var rfl) H8 (Ex.refl H8) _ fun H9 e9 => (ev_var rfl) H9 (Ex.refl H9) _ fun HA eA => ⟨l, ts.map V.str, (i : Int), i, rfl, rfl, ?_, ixN_nat (by rw [List.length_map]; omega), ?_⟩
    · exact (((e7.trans e8).trans e9).trans eA) _ _ hl6
    · have eB := ((e7.trans e8).trans e9).trans eA
      refine q (ts.set i (Txt.stripChars (cutS t none (some (s : Int)) ++ x ++ cutS t (some ((s : Int) + (j : Int))) none) " ")) _ (List.length_set) (fun y hy => ?_) (by rw [upd_same, List.map_set]) ((b6.ex eB).upd nlp) (fun c o h1 h2 hc => by rw [upd_ne h2]; exact eB _ _ (k06 _ _ h1 hc))
      rcases List.mem_or_eq_of_mem_set hy with h | h
      · exact (hts y h).mono (by omega)
      · rw [h]
        exact vz
end
end Z
set_option maxHeartbeats 4000000
namespace Z
open PySem PySem.Spec PyProof.Rows L2 TL Evl NdefX
theorem rv_eqS0 {K : PySem.W.Frag} {H : Hp} {l p : Addr} {xs : List Str} (hl : H l = some (.lst (xs.map V.str))) (h : ∀ x ∈ xs, PyData.strOk x = true) (hp : H p = some (.lst [])) : RV (rEqD K) (.ref l) (.ref p) H (.bl (decide (xs = []))) := fun H1 e Q q => by
  refine ⟨.list (xs.map PyData.str), .list [], .lst (sq_of (e _ _ hl)) (dp_strs xs), .lst (sq_of (e _ _ hp)) .nil, shaped_strs xs h, rfl, ?_⟩
  have e1 : PyData.eqv (.list (xs.map PyData.str)) (.list []) = decide (xs = []) := by
    cases xs with
    | nil => simp [PyData.eqv, PyData.eqvAll]
    | cons o r => simp [PyData.eqv, PyData.eqvAll]
  rw [e1]
  exact q H1 (Ex.refl H1)
theorem sg_ok {n : Nat} {z : Str} (h : SgT n z) : PyData.strOk z = true := ok_text fun c hc => by
  have k : ∀ c ∈ tl signs, c < 128 := by decide +kernel
  exact k c (h.2 c hc)
def joinO (ts : List Str) : Option Str := if ts = [] then none else some (Txt.join ", " ts)
def spJoined : Sp := fun vs H Q _ => ∃ l ts, vs = [.ref l] ∧ H l = some (.lst (ts.map V.str)) ∧ ts.length ≤ 100 ∧ (∀ t ∈ ts, VT 200 t) ∧ RetV (oS (joinO ts)) H Q
def toL (ps : List Str) : List V := [oI (lifeO "lasts" ps), oI (lifeO "shared-lasts" ps), oI (leastO "late" ps), oI (leastO "on-error" ps), oI (leastO "age" ps), oI (leastO "fresh" ps)] ++ [.bl (decide (("strict" : Str) ∈ ps)), .bl (decide (("check" : Str) ∈ ps)), .bl (decide (("own" : Str) ∈ ps)), .bl (decide (("never" : Str) ∈ ps)), .bl (decide (("kept" : Str) ∈ ps)), .bl (decide (("late" : Str) ∈ ps) && (leastO "late" ps).isNone)]
theorem toL_pl (ps : List Str) : ∀ x ∈ toL ps, PlV x := pl_cons pl_oI (pl_cons pl_oI (pl_cons pl_oI (pl_cons pl_oI (pl_cons pl_oI (pl_cons pl_oI (pl_cons pl_bl (pl_cons pl_bl (pl_cons pl_bl (pl_cons pl_bl (pl_cons pl_bl (pl_cons pl_bl pl_nil)))))))))))
def spTo (D : Addr) : Sp := fun vs H Q _ => ∃ v ps, vs = [v] ∧ DrAt D H v ps ∧ RetL (toL ps) H Q
section
variable {P : Program} {w : World} {K : PySem.W.Frag} {mg : Str → Option Value} {base : Heap} {f D R C : Addr} {fd : FuncData} {k : Nat}
theorem ok_law_joined (F : FnP K "_law_joined" s_law_joined f fd) (gm : mg "_law_joined" = some (.ref f)) : Call P w K mg base 1 "_law_joined" ["texts"] spJoined := by
  refine mk F gm (fun _ _ _ _ _ _ us hl => match us, hl with | [_], _ => rfl) (fun _ _ _ _ _ _ us hl => match us, hl with | [_], _ => rfl) sc_law_joined (fun vs H Q E h => ?_) (fun cdv A outer s H vs Q E hr h => ?_)
  · obtain ⟨l, ts, rfl, _⟩ := h
    rfl
  · obtain ⟨l, ts, rfl, hl, hn, hts, q⟩ := h
    refine ⟨_, (pss_cons (ps_if (pt_cmpR (op_eqD hr.units) (pv 0) (pe_lst pa_nil) (nomark _))
      (pss_one (ps_ret pe_non))
      pss_nil)
    (pss_one (ps_ret (pe_bm PySem.F.plainAttrs_str PySem.F.slot_str_join PySem.F.type_str_join mz_join pe_str (pa_cons (pv 0) pa_nil))))), ?_⟩
    unfold joinO at q
    refine q_when (et_test (ev_opL (ev_var rfl) (el_lst ea_nil (by decide)) fun z H1 hz e1 => rv_eqS0 (e1 _ _ hl) (fun x hx => sg_ok (hts x hx).1) hz)) (fun hb H1 e1 => ?_) (fun hb H1 e1 => ?_)
    · rw [if_pos (of_decide_eq_true hb)] at q
      exact s_ret ev_c fun H2 e2 => q H2 (e1.trans e2)
    · rw [if_neg (of_decide_eq_false hb)] at q
      have s1 := sum_most ts 200 fun z hz => (hts z hz).1.1
      have s3 : (", " : Str).length = 2 := by decide +kernel
      have s4 := Nat.mul_le_mul_right 200 hn
      exact g_ret ⟨rfl, .ref l, rfl, ", ", l, ts, rfl, rfl, .inl (sq_of (e1 _ _ hl)), Nat.le_trans (show _ ≤ 100000 by rw [s3]; omega) (by decide), q H1 e1⟩
theorem ok_law_told (WD : Wdr K mg D) (F : FnP K "_law_told" s_law_told f fd) (gm : mg "_law_told" = some (.ref f)) : Call P w K mg base 1 "_law_told" ["one"] (spTo D) := by
  refine mk F gm (fun _ _ _ _ _ _ us hl => match us, hl with | [_], _ => rfl) (fun _ _ _ _ _ _ us hl => match us, hl with | [_], _ => rfl) sc_law_told (fun vs H Q E h => ?_) (fun cdv A outer s H vs Q E hr h => ?_)
  · obtain ⟨v, ps, rfl, _⟩ := h
    rfl
  · obtain ⟨v, ps, rfl, ⟨a, dx, rfl, ha⟩, q⟩ := h
    refine ⟨_, (pss_cons (ps_set (i := 1) sc_law_told.nd rfl (Or.inl rfl) (pe_lst (pa_cons (pe_fld (pv 0) rfl) (pa_cons (pe_fld (pv 0) rfl) (pa_cons (pe_fld (pv 0) rfl) (pa_cons (pe_fld (pv 0) rfl) (pa_cons (pe_fld (pv 0) rfl) (pa_cons (pe_fld (pv 0) rfl) pa_nil))))))))
    (pss_one (ps_ret (pe_op op_cat (pv 1) (pe_lst (pa_cons (pe_fld (pv 0) rfl) (pa_cons (pe_fld (pv 0) rfl) (pa_cons (pe_fld (pv 0) rfl) (pa_cons (pe_fld (pv 0) rfl) (pa_cons (pe_fld (pv 0) rfl) (pa_cons (pe_fld (pv 0) rfl) pa_nil))))))))))), ?_⟩
    refine q_asgL (xs := [oI (lifeO "lasts" ps), oI (lifeO "shared-lasts" ps), oI (leastO "late" ps), oI (leastO "on-error" ps), oI (leastO "age" ps), oI (leastO "fresh" ps)]) (el_lst (ea_cons (ev_fldO WD.cls WD.n0 (ev_var rfl) ha rfl) (ea_cons (ev_fldO WD.cls WD.n1 (ev_var rfl) ha rfl) (ea_cons (ev_fldO WD.cls WD.n2 (ev_var rfl) ha rfl) (ea_cons (ev_fldO WD.cls WD.n3 (ev_var rfl) ha rfl) (ea_cons (ev_fldO WD.cls WD.n4 (ev_var rfl) ha rfl) (ea_cons (ev_fldO WD.cls WD.n5 (ev_var rfl) ha rfl) ea_nil)))))) (by show 6 ≤ 100000; decide)) fun l H1 nl e1 hl => ?_
    try dsimp only
    have ha := e1 _ _ ha
    refine s_retL (xs := toL ps) (el_catEL (ev_var rfl) (el_lst (ea_cons (ev_fldO WD.cls WD.n6 (ev_var rfl) ha rfl) (ea_cons (ev_fldO WD.cls WD.n7 (ev_var rfl) ha rfl) (ea_cons (ev_fldO WD.cls WD.n8 (ev_var rfl) ha rfl) (ea_cons (ev_fldO WD.cls WD.n9 (ev_var rfl) ha rfl) (ea_cons (ev_fldO WD.cls WD.n10 (ev_var rfl) ha rfl) (ea_cons (ev_fldO WD.cls WD.n11 (ev_var rfl) ha rfl) ea_nil)))))) (by show 6 ≤ 100000; decide)) hl (by show 6 + 6 ≤ 100000; decide)) fun r H2 nr e2 hr2 => q r H2 (fresh_back e1 nr) (e1.trans e2) hr2
end
end Z
set_option maxHeartbeats 4000000
namespace Z
open PySem PySem.Spec PyProof.Rows L2 TL Evl NdefX
/-! ### the law's own least number -/
theorem tl_pre (z : Str) (i : Nat) : tl (preT z i) = (tl z).take i := rfl
theorem tl_suf (z : Str) (i : Nat) : tl (sufT z i) = (tl z).drop i := rfl
theorem pre_is (z w : Str) : decide (cutS z none (some ((w.length : Int) + 1)) = sgn w) = Txt.startswith z (sgn w) := by
  rw [show (w.length : Int) + 1 = ((w.length + 1 : Nat) : Int) by omega, cutTo, starts_tl]
  have hl : (tl (sgn w)).length = w.length + 1 := by rw [← len_tl, sgn_len]
  refine decide_eq_decide.mpr ⟨fun h => ?_, fun h => ext_tl ?_⟩
  · rw [hl, ← tl_pre, h]
  · rw [tl_pre, ← hl]
    exact h
theorem pre_split {z w : Str} (h : Txt.startswith z (sgn w) = true) : z = sgn w ++ cutS z (some ((w.length : Int) + 1)) none := by
  rw [starts_tl, decide_eq_true_eq] at h
  have hl : (tl (sgn w)).length = w.length + 1 := by rw [← len_tl, sgn_len]
  rw [show (w.length : Int) + 1 = ((w.length + 1 : Nat) : Int) by omega, cutFrom]
  refine ext_tl ?_
  have e := List.take_append_drop (tl (sgn w)).length (tl z)
  rw [h] at e
  rw [tl_append, tl_suf, ← hl]
  exact e.symm
theorem rmp_cut {z w : Str} (h : Txt.startswith z (sgn w) = true) : Txt.removeprefix z (sgn w) = cutS z (some ((w.length : Int) + 1)) none := by
  have e := pre_split h
  have g := rmp_own (sgn w) (cutS z (some ((w.length : Int) + 1)) none)
  rw [← e] at g
  exact g
/-- what one piece counts for -/
def cnt (w : Str) (life : Bool) (z : Str) : Option Int :=
  if Txt.startswith z (sgn w) = true then (match numO (Txt.removeprefix z (sgn w)) with
    | some n => some n
    | none => if life = true then some 0 else none)
  else if life = true ∧ z = w then some 0 else none
theorem cnt_hz {w z : Str} : (cnt w true z).isSome = true → cnt w true z = some 0 ∨ ∃ n, 0 ≤ n ∧ nums w [z] = [n] ∧ cnt w true z = some n := fun h => by
  unfold cnt at h ⊢
  by_cases hs : Txt.startswith z (sgn w) = true
  · rw [if_pos hs] at h ⊢
    cases hn : numO (Txt.removeprefix z (sgn w)) with
    | none => exact .inl rfl
    | some n =>
      refine .inr ⟨n, ?_, ?_, rfl⟩
      · unfold numO at hn
        split at hn
        · cases hn; omega
        · cases hn
      · unfold nums dirs
        rw [List.filter_cons, if_pos hs]
        show (List.filterMap id [numO (Txt.removeprefix z (sgn w))]) = _
        rw [hn]
        rfl
  · rw [if_neg hs] at h ⊢
    by_cases hc : true = true ∧ z = w
    · rw [if_pos hc]; exact .inl rfl
    · rw [if_neg hc] at h; cases h
theorem nums_cons (w z : Str) (r : List Str) : nums w (z :: r) = nums w [z] ++ nums w r := nums_app w [z] r
theorem cnt_false (w : Str) : ∀ ps : List Str, ps.filterMap (cnt w false) = nums w ps
  | [] => rfl
  | z :: r => by
    rw [nums_cons, ← cnt_false w r, List.filterMap_cons]
    unfold cnt nums dirs
    by_cases hs : Txt.startswith z (sgn w) = true
    · rw [if_pos hs, List.filter_cons, if_pos hs]
      cases hn : numO (Txt.removeprefix z (sgn w)) with
      | none => simp [hn]
      | some n => simp [hn]
    · rw [if_neg hs, List.filter_cons, if_neg hs, if_neg (fun h => Bool.noConfusion h.1)]
      rfl
theorem numO_pos {z : Str} {n : Int} (h : numO z = some n) : 0 ≤ n := by
  unfold numO at h
  split at h
  · cases h; omega
  · cases h
theorem cnt_pos {w z : Str} {b : Bool} {n : Int} (h : cnt w b z = some n) : 0 ≤ n := by
  unfold cnt at h
  split at h
  · cases hn : numO (Txt.removeprefix z (sgn w)) with
    | none =>
      rw [hn] at h
      dsimp only at h
      split at h
      · cases h; omega
      · cases h
    | some m =>
      rw [hn] at h
      cases h
      exact numO_pos hn
  · split at h
    · cases h; omega
    · cases h
theorem starts_self (w : Str) : Txt.startswith w (sgn w) = false := by
  rw [starts_tl, decide_eq_false_iff_not]
  intro h
  have := congrArg List.length h
  rw [List.length_take, ← len_tl, ← len_tl, sgn_len] at this
  omega
theorem cnt_zero {w z : Str} (h : z = w ∨ noNum w z = true) : cnt w true z = some 0 := by
  unfold cnt
  rcases h with rfl | h
  · rw [starts_self, if_neg Bool.false_ne_true, if_pos ⟨rfl, rfl⟩]
  · unfold noNum at h
    rw [Bool.and_eq_true] at h
    rw [if_pos h.1]
    cases hn : numO (Txt.removeprefix z (sgn w)) with
    | none => rfl
    | some m => rw [hn] at h; cases h.2
theorem cnt_same {w z : Str} (h1 : ¬ z = w) (h2 : ¬ noNum w z = true) : cnt w true z = cnt w false z := by
  unfold cnt
  by_cases hs : Txt.startswith z (sgn w) = true
  · rw [if_pos hs, if_pos hs]
    cases hn : numO (Txt.removeprefix z (sgn w)) with
    | none =>
      refine absurd ?_ h2
      unfold noNum
      rw [hs, hn]
      rfl
    | some m => rfl
  · rw [if_neg hs, if_neg hs, if_neg (fun h => h1 h.2), if_neg (fun h => Bool.noConfusion h.1)]
theorem fm_congr {α β : Type} {f g : α → Option β} : ∀ {xs : List α}, (∀ z ∈ xs, f z = g z) → xs.filterMap f = xs.filterMap g
  | [], _ => rfl
  | z :: r, h => by rw [List.filterMap_cons, List.filterMap_cons, h z List.mem_cons_self, fm_congr fun y hy => h y (List.mem_cons_of_mem _ hy)]
theorem cnt_life (w : Str) (ps : List Str) : minL (ps.filterMap (cnt w true)) = lifeO w ps := by
  unfold lifeO
  by_cases h : (decide (w ∈ ps) || ps.any (noNum w)) = true
  · rw [if_pos h]
    obtain ⟨z, hz, hc⟩ : ∃ z ∈ ps, z = w ∨ noNum w z = true := by
      rcases Bool.or_eq_true_iff.mp h with h | h
      · exact ⟨w, of_decide_eq_true h, .inl rfl⟩
      · obtain ⟨z, hz, hn⟩ := List.any_eq_true.mp h
        exact ⟨z, hz, .inr hn⟩
    refine minL_some (List.mem_filterMap.mpr ⟨z, hz, cnt_zero hc⟩) fun y hy => ?_
    obtain ⟨x, _, hx⟩ := List.mem_filterMap.mp hy
    exact cnt_pos hx
  · rw [if_neg h]
    unfold leastO
    rw [← cnt_false w ps]
    have h := Bool.eq_false_iff.mpr h
    rw [Bool.or_eq_false_iff, decide_eq_false_iff_not, List.any_eq_false] at h
    refine congrArg minL (fm_congr fun z hz => cnt_same (fun e => h.1 (e ▸ hz)) (h.2 z hz))
theorem cnt_least (w : Str) (ps : List Str) : minL (ps.filterMap (cnt w false)) = leastO w ps := by rw [cnt_false]; rfl
end Z
set_option maxHeartbeats 4000000
namespace Z
open PySem PySem.Spec PyProof.Rows L2 TL Evl NdefX
theorem lay_ints : ∀ xs : List Int, PyData.canLayAll0 (xs.map PyData.int) = true
  | [] => by simp [PyData.canLayAll0]
  | x :: r => by
    have h2 := lay_ints r
    simp [PyData.canLayAll0, PyData.canLay0, h2]
theorem depth_ints : ∀ xs : List Int, PyData.depthAll (xs.map PyData.int) ≤ 1
  | [] => by simp [PyData.depthAll]
  | x :: r => by
    have := depth_ints r
    simp only [List.map_cons, PyData.depthAll, PyData.depth]
    omega
theorem shaped_ints (xs : List Int) : SeqAt.shaped (.list (xs.map PyData.int)) = true := by
  have h1 := depth_ints xs
  have h2 : PyData.depth (.list (xs.map PyData.int)) ≤ 64 := by simp only [PyData.depth]; omega
  show (PyData.canLay0 (.list (xs.map PyData.int)) && decide (PyData.depth (.list (xs.map PyData.int)) ≤ 64)) = true
  rw [Bool.and_eq_true]
  exact ⟨by simp only [PyData.canLay0]; exact lay_ints xs, decide_eq_true h2⟩
theorem dp_ints {K : PySem.W.Frag} {H : Hp} : ∀ xs : List Int, DpAll K H (xs.map V.int) (xs.map PyData.int)
  | [] => .nil
  | x :: r => .cons (.int x) (dp_ints r)
theorem rv_eqIn {K : PySem.W.Frag} {H : Hp} {l q : Addr} (xs : List Int) (hl : H l = some (.lst (xs.map V.int))) (hq : H q = some (.lst [])) : RV (rEqD K) (.ref l) (.ref q) H (.bl (decide (xs = []))) := fun H1 e Q k => by
  refine ⟨.list (xs.map PyData.int), .list [], .lst (sq_of (e _ _ hl)) (dp_ints _), .lst (sq_of (e _ _ hq)) .nil, shaped_ints _, rfl, ?_⟩
  have e1 : PyData.eqv (.list (xs.map PyData.int)) (.list []) = decide (xs = []) := by
    cases xs with
    | nil => simp [PyData.eqv, PyData.eqvAll]
    | cons o r => simp [PyData.eqv, PyData.eqvAll]
  rw [e1]
  exact k H1 (Ex.refl H1)
theorem ev_minN {K : PySem.W.Frag} {σ : L2.St} {H : Hp} {te : TE} {l : Addr} {ns : List Int} {m : Int} (h : Ev te σ H (.ref l)) (hl : H l = some (.lst (ns.map V.int))) (hm : minL ns = some m) (hp : 0 < ns.length) (hs : ∀ k, k ∈ ns → (∀ y, y ∈ ns → k ≤ y) → k = m) : Ev (tCB (rMin K) (tCons te tNil)) σ H (.int m) := fun H1 e Q q =>
  h H1 e _ fun H2 e2 => ⟨l, ns, rfl, sq_of ((e.trans e2) _ _ hl), hp, fun k hk hy => by rw [hs k hk hy]; exact q H2 e2⟩
def spLst : Sp := fun vs H Q _ => ∃ (l : Addr) (w : Str) (b : Bool) (ps : List Str), vs = [.ref l, .str w, .bl b] ∧ w.length ≤ 100 ∧ H l = some (.lst (ps.map V.str)) ∧ ps.length ≤ 10000 ∧ (∀ z ∈ ps, z.length ≤ 1000) ∧ RetV (oI (minL (ps.filterMap (cnt w b)))) H Q
section
variable {P : Program} {w : World} {K : PySem.W.Frag} {mg : Str → Option Value} {base : Heap} {f D R C : Addr} {fd : FuncData} {k : Nat}
theorem ok_law_least (T : Mg mg) (c_law_digits : Call P w K mg base 1 "_law_digits" ["word"] (sp1 fun z => .int (digF z))) (F : FnP K "_law_least" s_law_least f fd) (gm : mg "_law_least" = some (.ref f)) : Call P w K mg base 2 "_law_least" ["parts", "word", "is_lifetime"] spLst := by
  refine mk F gm (fun _ _ _ _ _ _ us hl => match us, hl with | [_, _, _], _ => rfl) (fun _ _ _ _ _ _ us hl => match us, hl with | [_, _, _], _ => rfl) sc_law_least (fun vs H Q E h => ?_) (fun cdv A outer s H vs Q E hr h => ?_)
  · obtain ⟨l, w, b, ps, rfl, _⟩ := h
    rfl
  · obtain ⟨l, w, b, ps, rfl, hw, hl, hn, hz, q⟩ := h
    refine ⟨_, (pss_cons (ps_set (i := 3) sc_law_least.nd rfl (Or.inl rfl) (pe_lst pa_nil))
    (pss_cons (ps_for PassesOwn.never rfl (pi_list (pv 0)) (pg_name (i := 4) sc_law_least.nd rfl (Or.inl rfl))
      (pss_cons (ps_set (i := 5) sc_law_least.nd rfl (Or.inl rfl) (pe_un un_neg pe_int))
      (pss_cons (ps_if (pt_cmpR op_eq (pe_slice sl_str (pv 4) po_none (po_some (pe_op op_add (pe_callB cz_len (by rfl) T.len (by decide +kernel) (pa_cons (pv 1) pa_nil)) pe_int))) (pe_op oz_add (pv 1) pe_str) (nomark _))
        (pss_one (ps_set (i := 5) sc_law_least.nd rfl (Or.inl rfl) (pe_f c_law_digits hr (by decide) rfl (pa_cons (pe_slice sl_str (pv 4) (po_some (pe_op op_add (pe_callB cz_len (by rfl) T.len (by decide +kernel) (pa_cons (pv 1) pa_nil)) pe_int)) po_none) pa_nil))))
        pss_nil)
      (pss_one (ps_if (pt_cmpR op_ge (pv 5) pe_int (nomark _))
        (pss_one (ps_expr (pe_bm PySem.F.plainAttrs_list PySem.F.slot_list_append PySem.F.type_list_append mt_append (pv 3) (pa_cons (pv 5) pa_nil))))
        (pss_one (ps_if (PW.pt (pw_and (pt_val (pv 2)) (pw_and1 (PW.pt (pw_or (pt_cmpR op_eq (pv 4) (pv 1) (nomark _)) (pw_or1 (pt_cmpR op_eq (pe_slice sl_str (pv 4) po_none (po_some (pe_op op_add (pe_callB cz_len (by rfl) T.len (by decide +kernel) (pa_cons (pv 1) pa_nil)) pe_int))) (pe_op oz_add (pv 1) pe_str) (nomark _))))))))
          (pss_one (ps_expr (pe_bm PySem.F.plainAttrs_list PySem.F.slot_list_append PySem.F.type_list_append mt_append (pv 3) (pa_cons pe_int pa_nil))))
          pss_nil)))))))
    (pss_cons (ps_if (pt_cmpR (op_eqD hr.units) (pv 3) (pe_lst pa_nil) (nomark _))
      (pss_one (ps_ret pe_non))
      pss_nil)
    (pss_one (ps_ret (pe_callB (cr_min rfl) (by rfl) T.min (by decide +kernel) (pa_cons (pv 3) pa_nil))))))), ?_⟩
    refine q_asgL (xs := []) (el_lst ea_nil (by decide)) fun fo H1 no e1 ho => ?_
    try dsimp only
    have nlo : l ≠ fo := ne_of_none hl no
    have c1 : ("=" : Str).length = 1 := by decide +kernel
    refine q_forLn (xs := ps.map V.str) (ev_var rfl) (sq_of (e1 _ _ hl)) (fun i σ' H' => (∃ v u, σ' = [some (.ref l), some (.str w), some (.bl b), some (.ref fo), v, u]) ∧ Keep fo H1 H' ∧ H' fo = some (.lst (((ps.take i).filterMap (cnt w b)).map V.int))) (fun H2 e2 => ⟨⟨none, none, rfl⟩, Keep.of e2, e2 _ _ ho⟩) (fun i σ' H' _ pv => sq_of (pv.2.1 _ _ nlo (e1 _ _ hl))) (fun i x σ' H2 hx pv => ?_) (fun σ' H2 pv => ?_)
    · obtain ⟨⟨v, u, rfl⟩, k2, h2⟩ := pv
      obtain ⟨z, hzi, rfl⟩ : ∃ z, ps[i]? = some z ∧ x = .str z := by
        rw [List.getElem?_map] at hx
        cases hp : ps[i]? with
        | none => rw [hp] at hx; cases hx
        | some z => rw [hp] at hx; exact ⟨z, rfl, (Option.some.inj hx).symm⟩
      have hzl := hz z (List.mem_of_getElem? hzi)
      have hil : i < ps.length := (List.getElem?_eq_some_iff.mp hzi).1
      have al : ((ps.take i).filterMap (cnt w b)).length ≤ 10000 := by
        have h1 := List.length_filterMap_le (cnt w b) (ps.take i)
        rw [List.length_take] at h1
        omega
      generalize hacc : (ps.take i).filterMap (cnt w b) = acc at h2 al
      have nxt : (ps.take (i + 1)).filterMap (cnt w b) = acc ++ (cnt w b z).toList := by
        rw [List.take_add_one, hzi, List.filterMap_append, hacc]
        have e1 : List.filterMap (cnt w b) (some z).toList = (cnt w b z).toList := by
          show List.filterMap (cnt w b) [z] = _
          rw [List.filterMap_cons]
          cases cnt w b z <;> rfl
        rw [e1]
      rw [nxt]
      clear nxt hacc
      try dsimp only
      refine q_asg (ev_un ev_c ru_neg) fun H3 e3 => ?_
      try dsimp only
      refine q_tailIf (fun σ1 Hx => ∃ m : Int, σ1 = [some (.ref l), some (.str w), some (.bl b), some (.ref fo), some (.str z), some (.int m)] ∧ Ex H2 Hx ∧ m = if Txt.startswith z (sgn w) = true then digF (cutS z (some ((w.length : Int) + 1)) none) else -1) (fun σ1 H4 hR => ?_) (fun tail => ?_)
      · obtain ⟨m, rfl, e4, hm⟩ := hR
        have h4 := e4 _ _ h2
        have k4 := k2.trans (Keep.of e4)
        have app : ∀ {n : Int} {H5 : Hp}, Ex H4 H5 → cnt w b z = some n → H5 fo = some (.lst (acc.map V.int)) ∧ (upd H5 fo (.lst (acc.map V.int ++ [.int n]))) fo = some (.lst ((acc ++ (cnt w b z).toList).map V.int)) ∧ Keep fo H1 (upd H5 fo (.lst (acc.map V.int ++ [.int n]))) := fun {n H5} e hc => ⟨e _ _ h4, by rw [upd_same, hc, List.map_append]; rfl, (k4.trans (Keep.of e)).upd⟩
        have dg := digF_is (cutS z (some ((w.length : Int) + 1)) none)
        have dg2 : Txt.startswith z (sgn w) = true → numO (Txt.removeprefix z (sgn w)) = numO (cutS z (some ((w.length : Int) + 1)) none) := fun h => by rw [rmp_cut h]
        refine s_if (et_test (ev_op (ev_var rfl) ev_c rv_I0)) (fun hb H5 e5 => ?_) (fun hb H5 e5 => ?_)
        · have hb : m ≥ 0 := of_decide_eq_true hb
          have hc : cnt w b z = some m := by
            by_cases hs : Txt.startswith z (sgn w) = true
            · rw [if_pos hs] at hm
              unfold cnt
              rw [if_pos hs, dg2 hs]
              rcases dg with ⟨_, h⟩ | ⟨h, _⟩
              · rw [h, hm]
              · omega
            · rw [if_neg hs] at hm
              omega
          refine s_appR rfl (e5 _ _ h4) ((ev_var rfl) H5 (Ex.refl H5) _ fun H6 e6 => ?_)
          obtain ⟨g1, g2, g3⟩ := app (e5.trans e6) hc
          exact ⟨fo, _, .int m, rfl, rfl, g1, sz_lt (by rw [List.length_map]; omega), ⟨_, _, rfl⟩, g3, g2⟩
        · have hb : ¬ m ≥ 0 := of_decide_eq_false hb
          have hn : Txt.startswith z (sgn w) = true → numO (Txt.removeprefix z (sgn w)) = none := fun hs => by
            rw [dg2 hs]
            rw [if_pos hs] at hm
            rcases dg with ⟨h, _⟩ | ⟨_, h⟩
            · omega
            · exact h
          refine s_when (b := b && (decide (z = w) || Txt.startswith z (sgn w))) (et_and (et_B (ev_var rfl)) fun _ => et_or (et_test (ev_op (ev_var rfl) (ev_var rfl) rv_eqS)) fun _ => et_is (et_test (ev_op (ev_slS (ev_var rfl) eo_none (eo_some (ev_op (ev_lenStr (ev_var rfl) (by omega)) ev_c rv_I0)) (by omega)) (ev_op (ev_var rfl) ev_c (rv_addS (by omega))) rv_eqS)) (pre_is z w)) (fun hc H6 e6 => ?_) (fun hc H6 e6 => ?_)
          · rw [Bool.and_eq_true, Bool.or_eq_true, decide_eq_true_eq] at hc
            have hc0 : cnt w b z = some 0 := by
              unfold cnt
              by_cases hs : Txt.startswith z (sgn w) = true
              · rw [if_pos hs, hn hs]
                dsimp only
                rw [if_pos hc.1]
              · rw [if_neg hs, if_pos ⟨hc.1, hc.2.resolve_right hs⟩]
            refine s_appR rfl ((e5.trans e6) _ _ h4) (ev_c H6 (Ex.refl H6) _ fun H7 e7 => ?_)
            obtain ⟨g1, g2, g3⟩ := app ((e5.trans e6).trans e7) hc0
            exact ⟨fo, _, .int 0, rfl, rfl, g1, sz_lt (by rw [List.length_map]; omega), ⟨_, _, rfl⟩, g3, g2⟩
          · have hc0 : cnt w b z = none := by
              unfold cnt
              by_cases hs : Txt.startswith z (sgn w) = true
              · rw [if_pos hs, hn hs]
                dsimp only
                refine if_neg fun h => ?_
                rw [h, hs, Bool.or_true] at hc
                cases hc
              · refine (if_neg hs).trans (if_neg fun h => ?_)
                rw [h.1, decide_eq_true h.2] at hc
                cases hc
            refine ⟨⟨_, _, rfl⟩, k4.trans (Keep.of (e5.trans e6)), ?_⟩
            rw [hc0]
            show _ = some (HO.lst ((acc ++ []).map V.int))
            rw [List.append_nil]
            exact (e5.trans e6) _ _ h4
      · refine q_if (et_is (et_test (ev_op (ev_slS (ev_var rfl) eo_none (eo_some (ev_op (ev_lenStr (ev_var rfl) (by omega)) ev_c rv_I0)) (by omega)) (ev_op (ev_var rfl) ev_c (rv_addS (by omega))) rv_eqS)) (pre_is z w)) (fun hb H4 e4 => ?_) (fun hb H4 e4 => tail _ _ ⟨-1, rfl, e3.trans e4, by rw [if_neg (by rw [hb]; exact Bool.noConfusion)]⟩)
        exact s_asg (ev_call (ea_cons (ev_slS (ev_var rfl) (eo_some (ev_op (ev_lenStr (ev_var rfl) (by omega)) ev_c rv_I0)) eo_none (by omega)) ea_nil) (sv1 (f := fun z => .int (digF z)) (by have := cut_len z (some ((w.length : Int) + 1)) none; omega))) fun H5 e5 => tail _ _ ⟨_, rfl, (e3.trans e4).trans e5, by rw [if_pos hb]⟩
    · obtain ⟨⟨v, u, rfl⟩, k2, h2⟩ := pv
      rw [List.length_map, List.take_length] at h2
      have eF : Ex H H2 := fun c o hc => k2 c o (ne_of_none hc no) (e1 _ _ hc)
      generalize ps.filterMap (cnt w b) = ns at h2 q
      refine q_when (et_test (ev_opL (ev_var rfl) (el_lst ea_nil (by decide)) fun z H3 hz e3 => rv_eqIn ns (e3 _ _ h2) hz)) (fun hb H3 e3 => ?_) (fun hb H3 e3 => ?_)
      · rw [of_decide_eq_true hb] at q
        exact s_ret ev_c fun H4 e4 => q H4 ((eF.trans e3).trans e4)
      · have hne := of_decide_eq_false hb
        exact g_ret ((ea_cons (ev_var rfl) ea_nil) H3 (Ex.refl H3) _ fun H4 e4 => ⟨fo, ns, rfl, sq_of ((e3.trans e4) _ _ h2), List.length_pos_iff.mpr hne, fun m hm hy => by
          rw [minL_some hm hy] at q
          exact q H4 ((eF.trans e3).trans e4)⟩)
end
end Z
set_option maxHeartbeats 4000000
namespace Z
open PySem PySem.Spec PyProof.Rows L2 TL Evl NdefX
theorem s_ifApp {K : PySem.W.Frag} {σ : L2.St} {H : Hp} {te : TE} {tt : TT} {D : Ends} {i : Nat} {l : Addr} {zs P : List Str} {x : Str} {b : Bool} (hc : EvT tt σ H b) (hi : σ[i]? = some (some (.ref l))) (hl : H l = some (.lst (zs.map V.str))) (hz : zs.length ≤ 20000) (hx : b = true → ∀ H1, Ex H H1 → Ev te σ H1 (.str x)) (hP : P = if b = true then [x] else [])
    (k : ∀ H', Keep l H H' → H' l = some (.lst ((zs ++ P).map V.str)) → D.nx σ H') : tIfS tt (tDrop (tBM K "list" rAppend (tVar i) (tCons te tNil))) tNext D σ H := by
  refine s_when hc (fun hb H1 e1 => ?_) (fun hb H1 e1 => ?_)
  · refine s_appR hi (e1 _ _ hl) ((hx hb H1 e1) H1 (Ex.refl H1) _ fun H2 e2 => ?_)
    have e12 := e1.trans e2
    refine ⟨l, _, .str x, rfl, rfl, e12 _ _ hl, sz_lt (by rw [List.length_map]; omega), k _ ?_ ?_⟩
    · exact (Keep.of e12).upd
    · rw [hP, if_pos hb, upd_same, List.map_append]
      rfl
  · refine k H1 (Keep.of e1) ?_
    rw [hP, if_neg (by rw [hb]; exact Bool.noConfusion), List.append_nil]
    exact e1 _ _ hl
theorem q_ifApp {K : PySem.W.Frag} {σ : L2.St} {H : Hp} {te : TE} {tt : TT} {tz : TS} {D : Ends} {i : Nat} {l : Addr} {zs P : List Str} {x : Str} {b : Bool} (hc : EvT tt σ H b) (hi : σ[i]? = some (some (.ref l))) (hl : H l = some (.lst (zs.map V.str))) (hz : zs.length ≤ 20000) (hx : b = true → ∀ H1, Ex H H1 → Ev te σ H1 (.str x)) (hP : P = if b = true then [x] else [])
    (k : ∀ H', Keep l H H' → H' l = some (.lst ((zs ++ P).map V.str)) → tz D σ H') : tSeq (tIfS tt (tDrop (tBM K "list" rAppend (tVar i) (tCons te tNil))) tNext) tz D σ H := s_ifApp (D := { D with nx := tz D }) hc hi hl hz hx hP k
theorem s_forNLn {K : PySem.W.Frag} {tu : TS} {D : Ends} {σ : L2.St} {H : Hp} {xs : List V} {tl : TE} {j : Nat} (h : EvL tl σ H xs) (Pv : Addr → Nat → L2.St → Hp → Prop) (h0 : ∀ p H1, H p = none → Ex H H1 → H1 p = some (.lst xs) → Pv p 0 σ H1) (hl : ∀ p i σ' H', i ≤ xs.length → Pv p i σ' H' → SqL K H' p xs)
    (hs : ∀ p i x σ' H', xs[i]? = some x → Pv p i σ' H' → tu { D with nx := Pv p (i + 1), ct := Pv p (i + 1), bk := D.nx } (σ'.set j (some x)) H') (hd : ∀ p σ' H', Pv p xs.length σ' H' → D.nx σ' H') : tFor (iList K tl) (gName j) tu D σ H :=
  s_forNL h Pv h0 hl hs hd
def elP (ps : List Str) : List Str := (ps.map fun p => Txt.stripChars p " ").filter fun p => !decide (p = ("" : Str))
theorem elems_elP (z : Str) : elems z = elP (Txt.split z ",") := rfl
theorem elP_snoc (ps : List Str) (p : Str) : elP (ps ++ [p]) = elP ps ++ (if (!decide (Txt.stripChars p " " = ("" : Str))) = true then [Txt.stripChars p " "] else []) := by
  unfold elP
  rw [List.map_append, List.filter_append]
  congr 1
  show List.filter _ [Txt.stripChars p " "] = _
  rw [List.filter_cons]
  split <;> rfl
theorem elP_len (ps : List Str) : (elP ps).length ≤ ps.length := by
  unfold elP
  exact Nat.le_trans (List.length_filter_le _ _) (by rw [List.length_map]; exact Nat.le_refl _)
theorem flat_len : ∀ {ts : List Str}, (∀ t ∈ ts, t.length ≤ 200) → (ts.flatMap elems).length ≤ ts.length * 201
  | [], _ => Nat.zero_le _
  | t :: r, h => by
    have h1 := elems_le t
    have h2 := h t List.mem_cons_self
    have h3 := flat_len (ts := r) fun x hx => h x (List.mem_cons_of_mem _ hx)
    rw [List.flatMap_cons, List.length_append, List.length_cons]
    omega
theorem flat_each {ts : List Str} (h : ∀ t ∈ ts, t.length ≤ 200) : ∀ z ∈ ts.flatMap elems, z.length ≤ 1000 := fun z hz => by
  obtain ⟨t, ht, hz⟩ := List.mem_flatMap.mp hz
  have := elem_len hz
  have := h t ht
  omega
def spDue : Sp := fun vs H Q _ => ∃ (l : Addr) (ts : List Str), vs = [.ref l] ∧ H l = some (.lst (ts.map V.str)) ∧ ts.length ≤ 40 ∧ (∀ t ∈ ts, t.length ≤ 200) ∧ RetL (toL (ts.flatMap elems)) H Q
section
variable {P : Program} {w : World} {K : PySem.W.Frag} {mg : Str → Option Value} {base : Heap} {f D R C : Addr} {fd : FuncData} {k : Nat}
theorem ok_law_due (T : Mg mg) (c_law_least : Call P w K mg base 2 "_law_least" ["parts", "word", "is_lifetime"] spLst) (F : FnP K "_law_due" s_law_due f fd) (gm : mg "_law_due" = some (.ref f)) : Call P w K mg base 3 "_law_due" ["texts"] spDue := by
  refine mk F gm (fun _ _ _ _ _ _ us hl => match us, hl with | [_], _ => rfl) (fun _ _ _ _ _ _ us hl => match us, hl with | [_], _ => rfl) sc_law_due (fun vs H Q E h => ?_) (fun cdv A outer s H vs Q E hr h => ?_)
  · obtain ⟨l, ts, rfl, _⟩ := h
    rfl
  · obtain ⟨l, ts, rfl, hl, hn, ht, q⟩ := h
    refine ⟨_, (pss_cons (ps_set (i := 1) sc_law_due.nd rfl (Or.inl rfl) (pe_lst pa_nil))
    (pss_cons (ps_for PassesOwn.never rfl (pi_list (pv 0)) (pg_name (i := 2) sc_law_due.nd rfl (Or.inl rfl))
      (pss_one (ps_for PassesOwn.never rfl (pi_list (pe_bm PySem.F.plainAttrs_str PySem.F.slot_str_split PySem.F.type_str_split mz_split (pv 2) (pa_cons pe_str pa_nil))) (pg_name (i := 3) sc_law_due.nd rfl (Or.inl rfl))
        (pss_one (ps_if (pt_cmpR op_ne (pe_bm PySem.F.plainAttrs_str PySem.F.slot_str_strip PySem.F.type_str_strip mz_strip (pv 3) (pa_cons pe_str pa_nil)) pe_str (nomark _))
          (pss_one (ps_expr (pe_bm PySem.F.plainAttrs_list PySem.F.slot_list_append PySem.F.type_list_append mt_append (pv 1) (pa_cons (pe_bm PySem.F.plainAttrs_str PySem.F.slot_str_strip PySem.F.type_str_strip mz_strip (pv 3) (pa_cons pe_str pa_nil)) pa_nil))))
          pss_nil)))))
    (pss_cons (ps_set (i := 4) sc_law_due.nd rfl (Or.inl rfl) (pe_lst (pa_cons (pe_f c_law_least hr (by decide) rfl (pa_cons (pv 1) (pa_cons pe_str (pa_cons pe_bl pa_nil)))) (pa_cons (pe_f c_law_least hr (by decide) rfl (pa_cons (pv 1) (pa_cons pe_str (pa_cons pe_bl pa_nil)))) pa_nil))))
    (pss_cons (ps_for PassesOwn.never rfl (pi_list (pe_lst (pa_cons pe_str (pa_cons pe_str (pa_cons pe_str (pa_cons pe_str pa_nil)))))) (pg_name (i := 5) sc_law_due.nd rfl (Or.inl rfl))
      (pss_one (ps_expr (pe_bm PySem.F.plainAttrs_list PySem.F.slot_list_append PySem.F.type_list_append mt_append (pv 4) (pa_cons (pe_f c_law_least hr (by decide) rfl (pa_cons (pv 1) (pa_cons (pv 5) (pa_cons pe_bl pa_nil)))) pa_nil)))))
    (pss_cons (ps_for PassesOwn.never rfl (pi_list (pe_lst (pa_cons pe_str (pa_cons pe_str (pa_cons pe_str (pa_cons pe_str (pa_cons pe_str pa_nil))))))) (pg_name (i := 5) sc_law_due.nd rfl (Or.inl rfl))
      (pss_one (ps_expr (pe_bm PySem.F.plainAttrs_list PySem.F.slot_list_append PySem.F.type_list_append mt_append (pv 4) (pa_cons (pe_cmpR op_in_seq (pv 5) (pv 1) rfl) pa_nil)))))
    (pss_cons (ps_expr (pe_bm PySem.F.plainAttrs_list PySem.F.slot_list_append PySem.F.type_list_append mt_append (pv 4) (pa_cons (pe_and (pe_cmpR op_in_seq pe_str (pv 1) rfl) (pe_one (pe_cmpR op_isN1 (pe_ix ix_list (pv 4) pe_int (fun _ _ => rfl)) pe_non (nomark _)))) pa_nil)))
    (pss_one (ps_ret (pv 4))))))))), ?_⟩
    refine q_asgL (xs := []) (el_lst ea_nil (by decide)) fun fo H1 no e1 ho => ?_
    try dsimp only
    have nlo : l ≠ fo := ne_of_none hl no
    refine q_forLn (xs := ts.map V.str) (ev_var rfl) (sq_of (e1 _ _ hl)) (fun i σ' H' => (∃ v u, σ' = [some (.ref l), some (.ref fo), v, u, none, none]) ∧ Keep fo H1 H' ∧ H' fo = some (.lst (((ts.take i).flatMap elems).map V.str))) (fun H2 e2 => ⟨⟨none, none, rfl⟩, Keep.of e2, e2 _ _ ho⟩) (fun i σ' H' _ pv => sq_of (pv.2.1 _ _ nlo (e1 _ _ hl))) (fun i x σ' H2 hx pv => ?_) (fun σ' H2 pv => ?_)
    · obtain ⟨⟨v, u, rfl⟩, k2, h2⟩ := pv
      obtain ⟨z, hzi, rfl⟩ : ∃ z, ts[i]? = some z ∧ x = .str z := by
        rw [List.getElem?_map] at hx
        cases hp : ts[i]? with
        | none => rw [hp] at hx; cases hx
        | some z => rw [hp] at hx; exact ⟨z, rfl, (Option.some.inj hx).symm⟩
      have hzl := ht z (List.mem_of_getElem? hzi)
      have hil : i < ts.length := (List.getElem?_eq_some_iff.mp hzi).1
      have al : ((ts.take i).flatMap elems).length ≤ 10000 := by
        have h1 := flat_len (ts := ts.take i) fun t h => ht t (List.mem_of_mem_take h)
        rw [List.length_take] at h1
        have : min i ts.length ≤ 40 := by omega
        have := Nat.mul_le_mul_right 201 this
        omega
      have nxt : (ts.take (i + 1)).flatMap elems = (ts.take i).flatMap elems ++ elP (Txt.split z ",") := by
        rw [List.take_add_one, hzi, List.flatMap_append]
        show _ ++ List.flatMap elems [z] = _
        rw [List.flatMap_cons, List.flatMap_nil, List.append_nil, elems_elP]
      rw [nxt]
      generalize (ts.take i).flatMap elems = acc at h2 al
      clear nxt
      try dsimp only
      have sl := split_len z
      refine s_forNLn (xs := (Txt.split z ",").map V.str) (el_split (ev_var rfl) ev_c (by decide +kernel) (by omega)) (fun p j σ' H' => (∃ u, σ' = [some (.ref l), some (.ref fo), some (.str z), u, none, none]) ∧ Keep fo H1 H' ∧ p ≠ fo ∧ H' p = some (.lst ((Txt.split z ",").map V.str)) ∧ H' fo = some (.lst ((acc ++ elP ((Txt.split z ",").take j)).map V.str)))
        (fun p H3 np e3 hp => ⟨⟨_, rfl⟩, k2.trans (Keep.of e3), (fun e => by rw [e, h2] at np; cases np), hp, by rw [List.take_zero]; show _ = some (HO.lst ((acc ++ []).map V.str)); rw [List.append_nil]; exact e3 _ _ h2⟩) (fun p j σ' H' _ pv => sq_of pv.2.2.2.1) (fun p j x σ' H3 hx pv => ?_) (fun p σ' H3 pv => ?_)
      · obtain ⟨⟨u, rfl⟩, k3, npf, hp, h3⟩ := pv
        obtain ⟨pc, hpi, rfl⟩ : ∃ pc, (Txt.split z ",")[j]? = some pc ∧ x = .str pc := by
          rw [List.getElem?_map] at hx
          cases hq : (Txt.split z ",")[j]? with
          | none => rw [hq] at hx; cases hx
          | some pc => rw [hq] at hx; exact ⟨pc, rfl, (Option.some.inj hx).symm⟩
        have hpl := split_each (List.mem_of_getElem? hpi)
        have jl : ((Txt.split z ",").take j).length ≤ 300 := by
          rw [List.length_take]
          omega
        have el := elP_len ((Txt.split z ",").take j)
        refine s_ifApp (x := Txt.stripChars pc " ") (b := !decide (Txt.stripChars pc " " = ("" : Str))) (et_test (ev_op (ev_strip (ev_var rfl) ev_c (by omega)) ev_c rv_neS)) rfl h3 (by rw [List.length_append]; omega) (fun _ H4 e4 => ev_strip (ev_var rfl) ev_c (by omega)) rfl fun H4 k4 h4 => ?_
        refine ⟨⟨_, rfl⟩, k3.trans k4, npf, k4 _ _ npf hp, ?_⟩
        rw [h4, List.take_add_one, hpi]
        show _ = some (HO.lst ((acc ++ elP ((Txt.split z ",").take j ++ [pc])).map V.str))
        rw [elP_snoc, List.append_assoc]
      · obtain ⟨⟨u, rfl⟩, k3, npf, hp, h3⟩ := pv
        rw [List.length_map, List.take_length] at h3
        exact ⟨⟨_, _, rfl⟩, k3, h3⟩
    · obtain ⟨⟨v, u, rfl⟩, k2, h2⟩ := pv
      rw [List.length_map, List.take_length] at h2
      have pl := flat_len ht
      have pe := flat_each ht
      have pn : (ts.flatMap elems).length ≤ 10000 := by
        have := Nat.mul_le_mul_right 201 hn
        omega
      have eF : Ex H H2 := fun c o hc => k2 c o (ne_of_none hc no) (e1 _ _ hc)
      generalize ts.flatMap elems = ps at h2 q pl pe pn
      have nf2 : ∀ {H' : Hp} {du : Addr}, fo ≠ du → Keep du H2 H' → H' fo = some (.lst (ps.map V.str)) := fun n k => k _ _ n h2
      have lst : ∀ {σ : L2.St} {H' : Hp} {tw : TE} {wd : Str} {b : Bool}, H' fo = some (.lst (ps.map V.str)) → σ[1]? = some (some (.ref fo)) → Ev tw σ H' (.str wd) → wd.length ≤ 100 → Ev (tCall spLst [] E0 (tCons (tVar 1) (tCons tw (tCons (tC (.bl b)) tNil)))) σ H' (oI (minL (ps.filterMap (cnt wd b)))) := fun {σ H' tw wd b} h h1 hw hl => ev_call (ea_cons (ev_var h1) (ea_cons hw (ea_cons ev_c ea_nil))) fun H1 e Q' q' E' => ⟨fo, wd, b, ps, rfl, hl, e _ _ h, pn, pe, q'⟩
      refine q_asgL (xs := [oI (lifeO "lasts" ps), oI (lifeO "shared-lasts" ps)]) (el_lst (ea_cons (ev_is (lst h2 rfl ev_c (by decide +kernel)) (by rw [cnt_life])) (ea_cons (ev_is (lst h2 rfl ev_c (by decide +kernel)) (by rw [cnt_life])) ea_nil)) (by show 2 ≤ 100000; decide)) fun du H3 nd e3 hd => ?_
      try dsimp only
      have nfd : fo ≠ du := ne_of_none h2 nd
      have hndu : H du = none := fresh_back eF nd
      have h3 := e3 _ _ h2
      refine q_st (σ' := [some (.ref l), some (.ref fo), v, u, some (.ref du), none]) rfl ?_
      refine q_forNLn (xs := (["late", "on-error", "age", "fresh"] : List Str).map V.str) (el_lst (ea_cons ev_c (ea_cons ev_c (ea_cons ev_c (ea_cons ev_c ea_nil)))) (by decide)) (fun p i σ' H' => (∃ x, σ' = [some (.ref l), some (.ref fo), v, u, some (.ref du), x]) ∧ Keep du H3 H' ∧ p ≠ du ∧ H' p = some (.lst ((["late", "on-error", "age", "fresh"] : List Str).map V.str)) ∧ H' du = some (.lst ([oI (lifeO "lasts" ps), oI (lifeO "shared-lasts" ps)] ++ ((["late", "on-error", "age", "fresh"] : List Str).take i).map fun wd => oI (leastO wd ps))))
        (fun p H4 np e4 hp => ⟨⟨_, rfl⟩, Keep.of e4, (ne_of_none hd np).symm, hp, e4 _ _ hd⟩) (fun p i σ' H' _ pv => sq_of pv.2.2.2.1) (fun p i x σ' H4 hx pv => ?_) (fun p σ' H4 pv => ?_)
      · obtain ⟨⟨x0, rfl⟩, k4, npd, hp, h4⟩ := pv
        obtain ⟨wd, hwi, rfl⟩ : ∃ wd, (["late", "on-error", "age", "fresh"] : List Str)[i]? = some wd ∧ x = .str wd := by
          rw [List.getElem?_map] at hx
          cases hq : (["late", "on-error", "age", "fresh"] : List Str)[i]? with
          | none => rw [hq] at hx; cases hx
          | some wd => rw [hq] at hx; exact ⟨wd, rfl, (Option.some.inj hx).symm⟩
        have wl : ∀ wd ∈ (["late", "on-error", "age", "fresh"] : List Str), wd.length ≤ 100 := by decide +kernel
        have h3' := k4 _ _ nfd h3
        refine s_appR rfl h4 ((lst h3' rfl (ev_var rfl) (wl wd (List.mem_of_getElem? hwi))) H4 (Ex.refl H4) _ fun H5 e5 => ?_)
        refine ⟨du, _, _, rfl, rfl, e5 _ _ h4, sz_lt (by rw [List.length_append, List.length_map, List.length_take]; show 2 + min i 4 < _; omega), ⟨_, rfl⟩, (k4.trans (Keep.of e5)).upd, npd, by rw [upd_ne npd]; exact e5 _ _ hp, ?_⟩
        rw [upd_same, List.take_add_one, hwi, List.map_append, List.append_assoc, cnt_least]
        rfl
      · obtain ⟨⟨x0, rfl⟩, k4, npd, hp, h4⟩ := pv
        clear hp npd
        have h34 := k4 _ _ nfd h3
        have h4 : H4 du = some (.lst [oI (lifeO "lasts" ps), oI (lifeO "shared-lasts" ps), oI (leastO "late" ps), oI (leastO "on-error" ps), oI (leastO "age" ps), oI (leastO "fresh" ps)]) := h4
        refine q_forNLn (xs := (["strict", "check", "own", "never", "kept"] : List Str).map V.str) (el_lst (ea_cons ev_c (ea_cons ev_c (ea_cons ev_c (ea_cons ev_c (ea_cons ev_c ea_nil))))) (by decide)) (fun p i σ' H' => (∃ x, σ' = [some (.ref l), some (.ref fo), v, u, some (.ref du), x]) ∧ Keep du H4 H' ∧ p ≠ du ∧ H' p = some (.lst ((["strict", "check", "own", "never", "kept"] : List Str).map V.str)) ∧ H' du = some (.lst ([oI (lifeO "lasts" ps), oI (lifeO "shared-lasts" ps), oI (leastO "late" ps), oI (leastO "on-error" ps), oI (leastO "age" ps), oI (leastO "fresh" ps)] ++ ((["strict", "check", "own", "never", "kept"] : List Str).take i).map fun wd => .bl (decide (wd ∈ ps)))))
          (fun p H5 np e5 hp => ⟨⟨_, rfl⟩, Keep.of e5, (ne_of_none h4 np).symm, hp, e5 _ _ h4⟩) (fun p i σ' H' _ pv => sq_of pv.2.2.2.1) (fun p i x σ' H5 hx pv => ?_) (fun p σ' H5 pv => ?_)
        · obtain ⟨⟨x1, rfl⟩, k5, npd, hp, h5⟩ := pv
          obtain ⟨wd, hwi, rfl⟩ : ∃ wd, (["strict", "check", "own", "never", "kept"] : List Str)[i]? = some wd ∧ x = .str wd := by
            rw [List.getElem?_map] at hx
            cases hq : (["strict", "check", "own", "never", "kept"] : List Str)[i]? with
            | none => rw [hq] at hx; cases hx
            | some wd => rw [hq] at hx; exact ⟨wd, rfl, (Option.some.inj hx).symm⟩
          have h3' := k5 _ _ nfd h34
          refine s_appR rfl h5 ((ev_is (ev_op (ev_var rfl) (ev_var rfl) (rv_isL (sq_of h3') rfl (flatS ps))) (congrArg V.bl (inV_strs wd ps))) H5 (Ex.refl H5) _ fun H6 e6 => ?_)
          refine ⟨du, _, _, rfl, rfl, e6 _ _ h5, sz_lt (by rw [List.length_append, List.length_map, List.length_take]; show 6 + min i 5 < _; omega), ⟨_, rfl⟩, (k5.trans (Keep.of e6)).upd, npd, by rw [upd_ne npd]; exact e6 _ _ hp, ?_⟩
          rw [upd_same, List.take_add_one, hwi, List.map_append, List.append_assoc]
          rfl
        · obtain ⟨⟨x1, rfl⟩, k5, npd, hp, h5⟩ := pv
          have h35 := k5 _ _ nfd h34
          have h5 : H5 du = some (.lst [oI (lifeO "lasts" ps), oI (lifeO "shared-lasts" ps), oI (leastO "late" ps), oI (leastO "on-error" ps), oI (leastO "age" ps), oI (leastO "fresh" ps), .bl (decide (("strict" : Str) ∈ ps)), .bl (decide (("check" : Str) ∈ ps)), .bl (decide (("own" : Str) ∈ ps)), .bl (decide (("never" : Str) ∈ ps)), .bl (decide (("kept" : Str) ∈ ps))]) := h5
          refine q_appR rfl h5 ((ev_andV (ev_is (ev_op ev_c (ev_var rfl) (rv_isL (sq_of h35) rfl (flatS ps))) (congrArg V.bl (inV_strs "late" ps))) fun _ => ev_is (ev_op (ev_ixL (ev_var rfl) ev_c h5 (atI_nat (j := 2) rfl)) ev_c rv_isN) (by rw [oI_non])) H5 (Ex.refl H5) _ fun H6 e6 => ?_)
          refine ⟨du, _, _, rfl, rfl, e6 _ _ h5, by show 11 < sizeLine; decide, ?_⟩
          refine g_ret ⟨_, rfl, q du _ hndu (fun c o hc => ?_) upd_same⟩
          have nc : c ≠ du := ne_of_none hc hndu
          rw [upd_ne nc]
          exact e6 _ _ (k5 _ _ nc (k4 _ _ nc (e3 _ _ (eF _ _ hc))))
end
end Z
set_option maxHeartbeats 4000000
namespace Z
open PySem PySem.Spec PyProof.Rows L2 TL Evl NdefX
/-! ### lists of fields -/
def EvFs (ta : TA) (σ : L2.St) (H : Hp) (fs : Fs) : Prop := ∀ H1, Ex H H1 → ∀ R : List V → Hp → Prop, (∀ xs H2, Ex H1 H2 → Rel (PfAt H2) xs fs → R xs H2) → ta σ H1 R
section
variable {σ : L2.St} {H : Hp} {ta tr : TA} {fs : Fs} {a b : Str} {Q : VK}
theorem efs_nil : EvFs tNil σ H [] := fun H1 _ R q => q [] H1 (Ex.refl H1) Rel.nil
theorem efs_cons (h : EvA ta σ H [.str a, .str b]) (r : EvFs tr σ H fs) : EvFs (tCons (tTup ta) tr) σ H ((a, b) :: fs) := fun H1 e R q =>
  (eu_tup h (by show 2 ≤ 100000; decide)) H1 e _ fun t H2 nt e2 ht => r H2 (e.trans e2) _ fun xs H3 e3 hr => q _ H3 (e2.trans e3) (rel_cons ⟨t, rfl, e3 _ _ ht⟩ hr)
theorem rd_lstF (h : EvFs ta σ H fs) (hl : fs.length ≤ 100000) (k : ∀ p H', H p = none → Ex H H' → FsAt H' p fs → Q (.ref p) H') : tLst ta σ H Q := h H (Ex.refl H) _ fun xs H1 e1 hr =>
  ⟨by rw [hr.1]; exact sz_of hl, fun p hp => k p _ (fresh_back e1 hp) (e1.trans (Ex.new hp)) ⟨xs, upd_same, hr.mono fun _ _ m => TupAt.ex m (Ex.new hp)⟩⟩
end
theorem FsAt.keep2 {p l q : Addr} {H H' : Hp} {fs : Fs} (h : FsAt H q fs) (k : Keep2 p l H H') (hp : ∃ xs, H p = some (.lst xs)) (hl : ∃ xs, H l = some (.lst xs)) (n1 : q ≠ p) (n2 : q ≠ l) : FsAt H' q fs := by
  obtain ⟨xs, hx, hr⟩ := h
  obtain ⟨ps, hp⟩ := hp
  obtain ⟨ls, hl⟩ := hl
  refine ⟨xs, k _ _ n1 n2 hx, hr.mono fun v x m => ?_⟩
  obtain ⟨t, e, ht⟩ := m
  exact ⟨t, e, k _ _ (fun e => by rw [e, hp] at ht; cases ht) (fun e => by rw [e, hl] at ht; cases ht) ht⟩
/-- one more field -/
theorem FsAt.app {H : Hp} {q t : Addr} {xs : List V} {fs : Fs} {n x : Str} (h : H q = some (.lst xs)) (hr : Rel (PfAt H) xs fs) (ht : H t = some (.tup [.str n, .str x])) : FsAt (upd H q (.lst (xs ++ [.ref t]))) q (fs ++ [(n, x)]) := by
  have kp : Keep q H (upd H q (.lst (xs ++ [.ref t]))) := (Keep.of (Ex.refl H)).upd
  exact ⟨_, upd_same, Rel.snoc (hr.mono fun _ _ m => TupAt.keep m kp ⟨_, h⟩) (TupAt.keep ⟨t, rfl, ht⟩ kp ⟨_, h⟩)⟩
def othL : Fs := [("age", "7"), ("keep-x", "strict, lasts=1"), ("eep", "never"), ("x", "")]
theorem oth_ok : ∀ x ∈ othL, fieldB x = true ∧ x.1 ≠ "keep" := by decide +kernel
theorem keep_name : nameB ("keep" : Str) = true := by decide +kernel
theorem vals_app (fs gs : Fs) (n : Str) : valsF (fs ++ gs) n = valsF fs n ++ valsF gs n := by
  unfold valsF
  rw [List.filter_append, List.map_append]
theorem vals_oth {x : Str × Str} (h : x ∈ othL) : valsF [x] "keep" = [] := by
  unfold valsF
  rw [List.filter_cons, if_neg (by rw [decide_eq_true_eq]; exact (oth_ok x h).2)]
  rfl
theorem vals_keep (z : Str) : valsF [(("keep" : Str), z)] "keep" = [z] := by
  unfold valsF
  rw [List.filter_cons, if_pos (decide_eq_true rfl)]
  rfl
def spHeads : Sp := fun vs H Q _ => ∃ (l p : Addr) (ts : List Str), vs = [.ref l, .ref p] ∧ l ≠ p ∧ BgA H p ∧ H l = some (.lst (ts.map V.str)) ∧ ts.length ≤ 10 ∧ (∀ t ∈ ts, VT 200 t) ∧
  ∀ q fs H', q ≠ p → FsAt H' q fs → areB fs = true → valsF fs "keep" = ts → BgA H' p → Keep p H H' → Q (.ref q) H'
end Z
set_option maxHeartbeats 4000000
namespace Z
open PySem PySem.Spec PyProof.Rows L2 TL Evl NdefX
/-- the list of fields being made -/
structure HdI (p lh : Addr) (H0 H : Hp) (n : Nat) (ks : List Str) : Prop where
  bag : BgA H p
  kp : Keep2 p lh H0 H
  fs : ∃ xs fs, H lh = some (.lst xs) ∧ Rel (PfAt H) xs fs ∧ fs.length ≤ n ∧ (∀ x ∈ fs, fieldB x = true) ∧ valsF fs "keep" = ks
theorem Keep2.trans {p l : Addr} {H H1 H2 : Hp} (h : Keep2 p l H H1) (g : Keep2 p l H1 H2) : Keep2 p l H H2 := fun c o a b hc => g c o a b (h c o a b hc)
theorem Keep2.of {p l : Addr} {H H1 : Hp} (k : Keep p H H1) : Keep2 p l H H1 := fun c o a _ hc => k c o a hc
theorem HdI.keep {p lh : Addr} {H0 H H' : Hp} {n : Nat} {ks : List Str} (h : HdI p lh H0 H n ks) (k : Keep p H H') (b : BgA H' p) (nl : lh ≠ p) : HdI p lh H0 H' n ks := by
  obtain ⟨xs, fs, hx, hr, a, c, d⟩ := h.fs
  obtain ⟨c0, c1, c2, cs, hp, _⟩ := h.bag
  refine ⟨b, h.kp.trans (Keep2.of k), xs, fs, k _ _ nl hx, hr.mono fun _ _ m => TupAt.keep m k ⟨_, hp⟩, a, c, d⟩
theorem HdI.mono {p lh : Addr} {H0 H : Hp} {n m : Nat} {ks : List Str} (h : HdI p lh H0 H n ks) (k : n ≤ m) : HdI p lh H0 H m ks := by
  obtain ⟨xs, fs, hx, hr, a, c, d⟩ := h.fs
  exact ⟨h.bag, h.kp, xs, fs, hx, hr, Nat.le_trans a k, c, d⟩
theorem HdI.ex {p lh : Addr} {H0 H H' : Hp} {n : Nat} {ks : List Str} (h : HdI p lh H0 H n ks) (e : Ex H H') (nl : lh ≠ p) : HdI p lh H0 H' n ks := h.keep (Keep.of e) (h.bag.ex e) nl
theorem HdI.app {p lh t : Addr} {H0 H : Hp} {n : Nat} {ks ks' : List Str} {a z : Str} (h : HdI p lh H0 H n ks) (nl : lh ≠ p) (ht : H t = some (.tup [.str a, .str z])) (hf : fieldB (a, z) = true) (hk : ks ++ valsF [(a, z)] "keep" = ks') : ∃ xs, H lh = some (.lst xs) ∧ xs.length ≤ n ∧ HdI p lh H0 (upd H lh (.lst (xs ++ [.ref t]))) (n + 1) ks' := by
  obtain ⟨xs, fs, hx, hr, b, c, d⟩ := h.fs
  refine ⟨xs, hx, by rw [hr.1]; exact b, h.bag.upd nl, fun q o a b hc => by rw [upd_ne b]; exact h.kp _ _ a b hc, ?_⟩
  obtain ⟨ys, hy, hry⟩ := FsAt.app hx hr ht
  refine ⟨ys, fs ++ [(a, z)], hy, hry, by rw [List.length_append]; show fs.length + 1 ≤ n + 1; omega, fun x hx => ?_, by rw [vals_app, d]; exact hk⟩
  rcases List.mem_append.mp hx with hx | hx
  · exact c x hx
  · rw [List.mem_singleton.mp hx]; exact hf
section
variable {P : Program} {w : World} {K : PySem.W.Frag} {mg : Str → Option Value} {base : Heap} {f D R C : Addr} {fd : FuncData} {k : Nat}
theorem rd_oth {σ : L2.St} {H : Hp} {p lo : Addr} {i : Nat} {t1 : TA} {Q : VK} {E : XK} (h0 : σ[i]? = some (some (.ref lo))) (ho : FsAt H lo othL) (he : EvA t1 σ H [.ref p, .int 4]) (b : BgA H p) (nl : lo ≠ p) (k : ∀ t x (H' : Hp), x ∈ othL → H' t = some (.tup [.str x.1, .str x.2]) → BgA H' p → Keep p H H' → Q (.ref t) H') : tOp (rIxL K) (tVar i) (tCall spTakeA [] E t1) σ H Q := by
  refine rd_opR ⟨_, h0, ?_⟩
  refine rd_takeA he b (by decide) (by decide) fun d H2 d0 d1 b2 k2 => ?_
  obtain ⟨xs, hx, hr⟩ := ho
  obtain ⟨c0, c1, c2, cs, hp, _⟩ := b
  obtain ⟨v, hv, _⟩ := at_int (xs := xs) (d := d) d0 (by rw [hr.1]; exact d1)
  have hvi : xs[d.toNat]? = some v := by
    have e : d = ((d.toNat : Nat) : Int) := by omega
    rw [e] at hv
    have hlt : d.toNat < xs.length := by rw [hr.1]; show d.toNat < 4; omega
    obtain ⟨u, hu⟩ : ∃ u, xs[d.toNat]? = some u := ⟨_, List.getElem?_eq_getElem hlt⟩
    have := atI_nat hu
    rw [hv] at this
    rw [hu, this]
  obtain ⟨x, hxo, t, rfl, ht⟩ := hr.get hvi
  exact ⟨lo, xs, d, _, rfl, rfl, sq_of (k2 _ _ nl hx), hv, k t x H2 (List.mem_of_getElem? hxo) (k2 _ _ (fun e => by rw [e, hp] at ht; cases ht) ht) b2 k2⟩
theorem ok_law_heads (T : Mg mg) (c_law_take : CTakeA P w K mg base) (F : FnP K "_law_heads" s_law_heads f fd) (gm : mg "_law_heads" = some (.ref f)) : Call P w K mg base 2 "_law_heads" ["texts", "bag"] spHeads := by
  refine mk F gm (fun _ _ _ _ _ _ us hl => match us, hl with | [_, _], _ => rfl) (fun _ _ _ _ _ _ us hl => match us, hl with | [_, _], _ => rfl) sc_law_heads (fun vs H Q E h => ?_) (fun cdv A outer s H vs Q E hr h => ?_)
  · obtain ⟨l, p, ts, rfl, _⟩ := h
    rfl
  · obtain ⟨l, p, ts, rfl, nlp, b, hl, hn, hts, q⟩ := h
    refine ⟨_, (pss_cons (ps_set (i := 2) sc_law_heads.nd rfl (Or.inl rfl) (pe_lst (pa_cons (pe_tup (pa_cons pe_str (pa_cons pe_str pa_nil))) (pa_cons (pe_tup (pa_cons pe_str (pa_cons pe_str pa_nil))) (pa_cons (pe_tup (pa_cons pe_str (pa_cons pe_str pa_nil))) (pa_cons (pe_tup (pa_cons pe_str (pa_cons pe_str pa_nil))) pa_nil))))))
    (pss_cons (ps_set (i := 3) sc_law_heads.nd rfl (Or.inl rfl) (pe_lst pa_nil))
    (pss_cons (ps_for PassesOwn.never rfl (pi_list (pv 0)) (pg_name (i := 4) sc_law_heads.nd rfl (Or.inl rfl))
      (pss_cons (ps_if (pt_cmpR op_eq (pe_f c_law_take hr (by decide) rfl (pa_cons (pv 1) (pa_cons pe_int pa_nil))) pe_int (nomark _))
        (pss_one (ps_expr (pe_bm PySem.F.plainAttrs_list PySem.F.slot_list_append PySem.F.type_list_append mt_append (pv 3) (pa_cons (pe_ix ix_list (pv 2) (pe_f c_law_take hr (by decide) rfl (pa_cons (pv 1) (pa_cons pe_int pa_nil))) (fun _ _ => rfl)) pa_nil))))
        pss_nil)
      (pss_one (ps_expr (pe_bm PySem.F.plainAttrs_list PySem.F.slot_list_append PySem.F.type_list_append mt_append (pv 3) (pa_cons (pe_tup (pa_cons pe_str (pa_cons (pv 4) pa_nil))) pa_nil))))))
    (pss_cons (ps_expr (pe_bm PySem.F.plainAttrs_list PySem.F.slot_list_append PySem.F.type_list_append mt_append (pv 3) (pa_cons (pe_ix ix_list (pv 2) (pe_f c_law_take hr (by decide) rfl (pa_cons (pv 1) (pa_cons pe_int pa_nil))) (fun _ _ => rfl)) pa_nil)))
    (pss_one (ps_ret (pv 3))))))), ?_⟩
    have s2 : ∀ {σ : L2.St} {H' : Hp} {a z : Str}, EvA (tCons (tC (.str a)) (tCons (tC (.str z)) tNil)) σ H' [.str a, .str z] := ea_cons ev_c (ea_cons ev_c ea_nil)
    refine q_asgR (rd_lstF (fs := othL) (efs_cons s2 (efs_cons s2 (efs_cons s2 (efs_cons s2 efs_nil)))) (by decide) fun lo H1 nlo e1 ho => ?_)
    try dsimp only
    refine q_asgL (xs := []) (el_lst ea_nil (by decide)) fun lh H2 nlh e2 hh => ?_
    try dsimp only
    have n1 : lo ≠ p := b.ne nlo
    have n2 : lh ≠ p := (b.ex e1).ne nlh
    have n3 : lo ≠ lh := by obtain ⟨xs, hx, _⟩ := ho; exact ne_of_none hx nlh
    have n4 : l ≠ lh := ne_of_none (e1 _ _ hl) nlh
    have b2 := b.ex (e1.trans e2)
    have hl2 := (e1.trans e2) _ _ hl
    have ho2 := ho.ex e2
    have i0 : HdI p lh H2 H2 0 [] := ⟨b2, fun c o _ _ hc => hc, [], [], hh, Rel.nil, Nat.le_refl _, (fun _ h => nomatch h), rfl⟩
    have oth : ∀ {H' : Hp}, Keep2 p lh H2 H' → FsAt H' lo othL := fun k => ho2.keep2 k (by obtain ⟨c0, c1, c2, cs, hp, _⟩ := b2; exact ⟨_, hp⟩) ⟨_, hh⟩ n1 n3
    have hnlh : H lh = none := fresh_back e1 nlh
    refine q_forLn (xs := ts.map V.str) (ev_var rfl) (sq_of hl2) (fun i σ' H' => (∃ v, σ' = [some (.ref l), some (.ref p), some (.ref lo), some (.ref lh), v]) ∧ HdI p lh H2 H' (2 * i) (ts.take i)) (fun H3 e3 => ⟨⟨none, rfl⟩, i0.ex e3 n2⟩) (fun i σ' H' _ pv => sq_of (pv.2.kp _ _ nlp n4 hl2)) (fun i x σ' H3 hx pv => ?_) (fun σ' H3 pv => ?_)
    · obtain ⟨⟨v, rfl⟩, I3⟩ := pv
      obtain ⟨z, hzi, rfl⟩ : ∃ z, ts[i]? = some z ∧ x = .str z := by
        rw [List.getElem?_map] at hx
        cases hp : ts[i]? with
        | none => rw [hp] at hx; cases hx
        | some z => rw [hp] at hx; exact ⟨z, rfl, (Option.some.inj hx).symm⟩
      have hil : i < ts.length := (List.getElem?_eq_some_iff.mp hzi).1
      refine q_tail (fun σ1 Hx => σ1 = [some (.ref l), some (.ref p), some (.ref lo), some (.ref lh), some (.str z)] ∧ HdI p lh H2 Hx (2 * i + 1) (ts.take i)) (fun σ1 H4 hR => ?_) (fun tail => ?_)
      · obtain ⟨rfl, I4⟩ := hR
        obtain ⟨xs0, fs0, hx0, _⟩ := id I4.fs
        refine s_appR rfl hx0 (rd_tup (rd_consE ev_c fun H5 e5 => rd_consE (ev_var rfl) fun H6 e6 => rd_nil ⟨by show 2 ≤ sizeLine; decide, fun t nt => ?_⟩))
        have eT := Ex.new (o := .tup [V.str "keep", .str z]) nt
        have I6 := I4.ex ((e5.trans e6).trans eT) n2
        obtain ⟨xs, hx, hlen, I7⟩ := I6.app (t := t) (a := "keep") (z := z) (ks' := ts.take (i + 1)) n2 upd_same (by show (nameB ("keep" : Str) && valueB z) = true; rw [keep_name, (hts z (List.mem_of_getElem? hzi)).val (Nat.le_refl _)]; rfl) (by rw [vals_keep, List.take_add_one, hzi]; rfl)
        exact ⟨lh, xs, .ref t, rfl, rfl, hx, sz_lt (by omega), ⟨_, rfl⟩, I7⟩
      · refine rd_takeA (ea_pl rfl) I3.bag (by decide) (by decide) fun d H4 d0 d1 b4 k4 => ev_c H4 (Ex.refl H4) _ fun H40 e40 => rv_eqI H40 (Ex.refl H40) _ fun H5 e5 => ⟨_, rfl, ?_⟩
        have I5 := (I3.keep k4 b4 n2).ex (e40.trans e5) n2
        dsimp only
        by_cases hd : d = 0
        · rw [if_pos (decide_eq_true hd)]
          obtain ⟨xs0, fs0, hx0, _⟩ := id I5.fs
          refine s_appR rfl hx0 (rd_oth rfl (oth I5.kp) (ea_pl rfl) I5.bag n1 fun t x H6 hx ht b6 k6 => ?_)
          have I6 := I5.keep k6 b6 n2
          obtain ⟨xs, hx1, hlen, I7⟩ := I6.app (t := t) (a := x.1) (z := x.2) (ks' := ts.take i) n2 ht (oth_ok x hx).1 (by rw [vals_oth (x := (x.1, x.2)) hx, List.append_nil])
          exact ⟨lh, xs, .ref t, rfl, rfl, hx1, sz_lt (by omega), tail _ _ ⟨rfl, I7⟩⟩
        · rw [if_neg (by rw [decide_eq_true_eq]; exact hd)]
          exact tail _ _ ⟨rfl, I5.mono (by omega)⟩
    · obtain ⟨⟨v, rfl⟩, I3⟩ := pv
      rw [List.length_map, List.take_length] at I3
      obtain ⟨xs0, fs0, hx0, _⟩ := id I3.fs
      refine q_appR rfl hx0 (rd_oth rfl (oth I3.kp) (ea_pl rfl) I3.bag n1 fun t x H6 hx ht b6 k6 => ?_)
      have I6 := I3.keep k6 b6 n2
      obtain ⟨xs, hx1, hlen, I7⟩ := I6.app (t := t) (a := x.1) (z := x.2) (ks' := ts) n2 ht (oth_ok x hx).1 (by rw [vals_oth (x := (x.1, x.2)) hx, List.append_nil])
      refine ⟨lh, xs, .ref t, rfl, rfl, hx1, sz_lt (by omega), ?_⟩
      refine s_ret (ev_var rfl) fun H8 e8 => ?_
      have I8 := I7.ex e8 n2
      obtain ⟨ys, fs, hy, hr8, hlen8, hf8, hk8⟩ := I8.fs
      refine q lh fs H8 n2 ⟨ys, hy, hr8⟩ ?_ hk8 I8.bag fun c o nc hc => I8.kp c o nc (ne_of_none hc hnlh) ((e1.trans e2) _ _ hc)
      unfold areB
      rw [Bool.and_eq_true, decide_eq_true_eq, List.all_eq_true]
      exact ⟨by omega, hf8⟩
end
end Z
set_option maxHeartbeats 4000000
namespace Z
open PySem PySem.Spec PyProof.Rows L2 TL Evl NdefX PySem.Builtin.Str
theorem glued_mem (sep : Str) : ∀ (ps : List Str) (acc : Array Nat) (c : Nat), c ∈ (ps.foldl (fun (acc : Array Nat) (p : Str) => acc ++ sep.cps ++ p.cps) acc).toList → c ∈ acc.toList ∨ c ∈ tl sep ∨ ∃ p ∈ ps, c ∈ tl p
  | [], acc, c, h => .inl h
  | p :: r, acc, c, h => by
    rw [List.foldl_cons] at h
    rcases glued_mem sep r _ c h with h | h | ⟨q, hq, h⟩
    · rw [Array.toList_append, Array.toList_append] at h
      rcases List.mem_append.mp h with h | h
      · rcases List.mem_append.mp h with h | h
        · exact .inl h
        · exact .inr (.inl h)
      · exact .inr (.inr ⟨p, List.mem_cons_self, h⟩)
    · exact .inr (.inl h)
    · exact .inr (.inr ⟨q, List.mem_cons_of_mem _ hq, h⟩)
theorem join_mem {sep : Str} {ps : List Str} {c : Nat} (h : c ∈ tl (Txt.join sep ps)) : c ∈ tl sep ∨ ∃ p ∈ ps, c ∈ tl p := by
  have h : c ∈ ((ps.drop 1).foldl (fun (acc : Array Nat) (p : Str) => acc ++ sep.cps ++ p.cps) (ps.headD Str.empty).cps).toList := h
  rcases glued_mem sep _ _ c h with h | h | ⟨q, hq, h⟩
  · cases ps with
    | nil => cases h
    | cons p r => exact .inr ⟨p, List.mem_cons_self, h⟩
  · exact .inl h
  · exact .inr ⟨q, List.mem_of_mem_drop hq, h⟩
/-! ### pieces of a list that stands in a longer list -/
theorem fst_uniq {f : Nat → Bool} {n a b : Nat} (a1 : a ≤ n) (a2 : ∀ k, k < a → f k = true) (a3 : a = n ∨ f a = false) (b1 : b ≤ n) (b2 : ∀ k, k < b → f k = true) (b3 : b = n ∨ f b = false) : a = b := by
  rcases Nat.lt_trichotomy a b with h | h | h
  · rcases a3 with e | e
    · omega
    · rw [b2 a h] at e; cases e
  · exact h
  · rcases b3 with e | e
    · omega
    · rw [a2 b h] at e; cases e
theorem lst_uniq {f : Nat → Bool} {n lo a b : Nat} (a1 : lo ≤ a) (a2 : a ≤ n) (a3 : ∀ k, a ≤ k → k < n → f k = true) (a4 : a = lo ∨ f (a - 1) = false) (b1 : lo ≤ b) (b2 : b ≤ n) (b3 : ∀ k, b ≤ k → k < n → f k = true) (b4 : b = lo ∨ f (b - 1) = false) : a = b := by
  rcases Nat.lt_trichotomy a b with h | h | h
  · rcases b4 with e | e
    · omega
    · rw [a3 (b - 1) (by omega) (by omega)] at e; cases e
  · exact h
  · rcases a4 with e | e
    · omega
    · rw [b3 (a - 1) (by omega) (by omega)] at e; cases e
theorem strip_space (l : List Nat) : Txt.stripChars (S' (32 :: l)) " " = Txt.stripChars (S' l) " " := by
  have e0 : ∀ z : Str, Txt.stripChars z " " = strSub z (stripLo (" " : Str).cps.contains true z) (stripHi (" " : Str).cps.contains true z (stripLo (" " : Str).cps.contains true z)) := fun z => stripBy_eq _ _ _ _
  have sp : (" " : Str).cps.contains 32 = true := by decide +kernel
  generalize (" " : Str).cps.contains = g at e0 sp
  have x1 := lo_facts g (S' l)
  have x2 := lo_facts g (S' (32 :: l))
  obtain ⟨l1, l2, l3⟩ := x1
  obtain ⟨m1, m2, m3⟩ := x2
  obtain ⟨h1, h2, h3, h4⟩ := hi_facts g (S' l) _ l1
  obtain ⟨k1, k2, k3, k4⟩ := hi_facts g (S' (32 :: l)) _ m1
  refine ext_tl ?_
  rw [e0, e0, tl_strSub, tl_strSub]
  generalize stripLo g true (S' l) = lo at *
  generalize stripHi g true (S' l) lo = hi at *
  generalize stripLo g true (S' (32 :: l)) = lo' at *
  generalize stripHi g true (S' (32 :: l)) lo' = hi' at *
  have gs : ∀ k, (S' (32 :: l)).cps.getD (k + 1) 0 = (S' l).cps.getD k 0 := fun k => by
    unfold S'
    simp
  have g0 : (S' (32 :: l)).cps.getD 0 0 = 32 := by
    unfold S'
    simp
  have n2 : (S' (32 :: l)).length = (S' l).length + 1 := by rw [len_tl, len_tl]; rfl
  rw [n2] at m1 m3 k2 k3
  obtain ⟨j, rfl⟩ : ∃ j, lo' = j + 1 := by
    cases lo' with
    | zero =>
      rcases m3 with e | e
      · omega
      · rw [g0, sp] at e; cases e
    | succ j => exact ⟨j, rfl⟩
  have ej : lo = j := fst_uniq (f := fun k => g ((S' l).cps.getD k 0)) l1 l2 l3 (by omega) (fun k hk => by have := m2 (k + 1) (by omega); rw [gs] at this; exact this) (by
    rcases m3 with e | e
    · exact .inl (by omega)
    · rw [gs] at e; exact .inr e)
  subst ej
  obtain ⟨i, rfl⟩ : ∃ i, hi' = i + 1 := ⟨hi' - 1, by omega⟩
  have ei : hi = i := lst_uniq (f := fun k => g ((S' l).cps.getD k 0)) h1 h2 h3 h4 (by omega) (by omega) (fun k hk hn => by have := k3 (k + 1) (by omega) (by omega); rw [gs] at this; exact this) (by
    rcases k4 with e | e
    · exact .inl (by omega)
    · cases i with
      | zero => exact .inl (by omega)
      | succ i2 =>
        rw [show i2 + 1 + 1 - 1 = i2 + 1 from rfl, gs] at e
        exact .inr e)
  subst ei
  rw [show hi + 1 - (lo + 1) = hi - lo by omega]
  rfl
theorem glueU (sep : Str) : ∀ (r : List Str) (acc : Array Nat), (r.foldl (fun (acc : Array Nat) (p : Str) => acc ++ sep.cps ++ p.cps) acc).toList = acc.toList ++ r.flatMap fun q => tl sep ++ tl q
  | [], acc => by simp
  | p :: r, acc => by
    rw [List.foldl_cons, glueU sep r, List.flatMap_cons]
    simp [tl, List.append_assoc]
theorem joinU (sep p : Str) (r : List Str) : tl (Txt.join sep (p :: r)) = tl p ++ r.flatMap fun q => tl sep ++ tl q := glueU sep r p.cps
theorem splC_appU : ∀ (a acc l : List Nat), 44 ∉ a → splC acc (a ++ l) = splC (acc ++ a) l
  | [], acc, l, _ => by rw [List.append_nil]; rfl
  | c :: r, acc, l, h => by
    have hc : c ≠ 44 := fun e => h (by rw [e]; exact List.mem_cons_self)
    show (if c = 44 then acc :: splC [] (r ++ l) else splC (acc ++ [c]) (r ++ l)) = _
    rw [if_neg hc, splC_appU r (acc ++ [c]) l fun q => h (List.mem_cons_of_mem _ q), List.append_assoc]
    rfl
/-- the pieces of codes -/
def elC (l : List Nat) : List Str := ((splC [] l).map fun q => Txt.stripChars (S' q) " ").filter fun p => !decide (p = ("" : Str))
theorem elems_eq (z : Str) : elems z = elC (tl z) := by
  unfold elems stripped elC
  rw [split_eq, List.map_map]
  rfl
theorem splC_mid : ∀ (a acc b : List Nat), splC acc (a ++ 44 :: b) = splC acc a ++ splC [] b
  | [], acc, b => by
    show (if (44 : Nat) = 44 then acc :: splC [] b else _) = [acc] ++ splC [] b
    rw [if_pos rfl]; rfl
  | c :: r, acc, b => by
    show (if c = 44 then acc :: splC [] (r ++ 44 :: b) else splC (acc ++ [c]) (r ++ 44 :: b)) = (if c = 44 then acc :: splC [] r else splC (acc ++ [c]) r) ++ splC [] b
    by_cases h : c = 44
    · rw [if_pos h, if_pos h, splC_mid r [] b]; rfl
    · rw [if_neg h, if_neg h, splC_mid r _ b]
theorem splC_head : ∀ (l acc : List Nat), ∃ h t, splC acc l = (acc ++ h) :: t ∧ splC [] l = h :: t
  | [], acc => ⟨[], [], by rw [List.append_nil]; rfl, rfl⟩
  | c :: r, acc => by
    by_cases hc : c = 44
    · refine ⟨[], splC [] r, ?_, ?_⟩
      · show (if c = 44 then acc :: splC [] r else _) = _
        rw [if_pos hc, List.append_nil]
      · show (if c = 44 then [] :: splC [] r else _) = _
        rw [if_pos hc]
    · obtain ⟨h, t, e1, e2⟩ := splC_head r (acc ++ [c])
      obtain ⟨h', t', e3, e4⟩ := splC_head r [c]
      rw [e4] at e2
      obtain ⟨eh, et⟩ := List.cons.inj e2
      subst eh et
      refine ⟨c :: h', t', ?_, ?_⟩
      · show (if c = 44 then acc :: splC [] r else splC (acc ++ [c]) r) = _
        rw [if_neg hc, e1, List.append_assoc]; rfl
      · show (if c = 44 then [] :: splC [] r else splC ([] ++ [c]) r) = _
        rw [if_neg hc, List.nil_append, e3]; rfl
theorem elC_mid (a b : List Nat) : elC (a ++ 44 :: b) = elC a ++ elC b := by
  unfold elC
  rw [splC_mid, List.map_append, List.filter_append]
theorem elC_space (l : List Nat) : elC (32 :: l) = elC l := by
  unfold elC
  obtain ⟨h, t, e1, e2⟩ := splC_head l [32]
  have e3 : splC [] (32 :: l) = splC [32] l := by
    show (if (32 : Nat) = 44 then _ else splC ([] ++ [32]) l) = _
    rw [if_neg (by decide)]; rfl
  rw [e3, e1, e2, List.map_cons, List.map_cons]
  show ((Txt.stripChars (S' (32 :: h)) " ") :: _).filter _ = _
  rw [strip_space]
theorem elC_join : ∀ (r : List Str) (a : List Nat), elC (a ++ r.flatMap fun q => [44, 32] ++ tl q) = elC a ++ r.flatMap elems
  | [], a => by rw [List.flatMap_nil, List.append_nil, List.flatMap_nil, List.append_nil]
  | q :: r, a => by
    have e : a ++ (q :: r).flatMap (fun q => [44, 32] ++ tl q) = a ++ 44 :: (32 :: (tl q ++ r.flatMap fun q => [44, 32] ++ tl q)) := by
      rw [List.flatMap_cons]; rfl
    rw [e, elC_mid, elC_space, elC_join r (tl q), List.flatMap_cons, elems_eq q]
/-- a list that was joined of lists has their pieces -/
theorem elems_joins {xs : List Str} : elems (Txt.join ", " xs) = xs.flatMap elems := by
  cases xs with
  | nil => decide +kernel
  | cons x r =>
    rw [elems_eq, joinU, List.flatMap_cons, elems_eq x]
    exact elC_join r (tl x)
end Z
set_option maxHeartbeats 4000000
namespace Z
open PySem PySem.Spec PyProof.Rows L2 TL Evl NdefX
/-! ### lists of texts in a list, being made -/
structure GrJ (p g : Addr) (H0 H : Hp) (i : Nat) (as : List Addr) : Prop where
  bag : BgA H p
  kp : Keep p H0 H
  at_ : H g = some (.lst (as.map V.ref))
  len : as.length ≤ 3
  each : ∀ a ∈ as, a ≠ p ∧ a ≠ g ∧ H0 a = none ∧ ∃ zs : List Str, H a = some (.lst (zs.map V.str)) ∧ zs.length ≤ i ∧ ∀ z ∈ zs, SgT 24 z
section
variable {p g a : Addr} {H0 H H' : Hp} {i : Nat} {as : List Addr} {z : Str} {zs : List Str}
theorem GrJ.keep (h : GrJ p g H0 H i as) (k : Keep p H H') (b : BgA H' p) (ng : g ≠ p) : GrJ p g H0 H' i as :=
  ⟨b, h.kp.trans k, k _ _ ng h.at_, h.len, fun a ha => by
    obtain ⟨h1, h2, h3, zs, h4, h5⟩ := h.each a ha
    exact ⟨h1, h2, h3, zs, k _ _ h1 h4, h5⟩⟩
theorem GrJ.push (h : GrJ p g H0 H i as) (ng : g ≠ p) (g0 : H0 g = none) (na : H a = none) (e : Ex H H') (ha : H' a = some (.lst [])) (hl : as.length < 3) : GrJ p g H0 (upd H' g (.lst (as.map V.ref ++ [.ref a]))) i (as ++ [a]) := by
  have nga : a ≠ g := fun e => by rw [e, h.at_] at na; cases na
  have h' := h.keep (Keep.of e) (h.bag.ex e) ng
  have nap : a ≠ p := h.bag.ne na
  refine ⟨h'.bag.upd ng, h'.kp.mut g0, by rw [upd_same, List.map_append]; rfl, by rw [List.length_append]; show as.length + 1 ≤ 3; omega, fun b hb => ?_⟩
  rcases List.mem_append.mp hb with hb | hb
  · obtain ⟨h1, h2, h3, zs, h4, h5⟩ := h'.each b hb
    exact ⟨h1, h2, h3, zs, by rw [upd_ne h2]; exact h4, h5⟩
  · rw [List.mem_singleton.mp hb]
    obtain ⟨_, _, _, _, hp, _⟩ := h.bag
    exact ⟨nap, nga, Keep.non h.kp hp na, [], by rw [upd_ne nga]; exact ha, Nat.zero_le _, fun z hz => nomatch hz⟩
theorem GrJ.app (h : GrJ p g H0 H i as) (ha : a ∈ as) (hz : H a = some (.lst (zs.map V.str))) (hn : zs.length ≤ i) (hzs : ∀ y ∈ zs, SgT 24 y) (sz : SgT 24 z) : GrJ p g H0 (upd H a (.lst (zs.map V.str ++ [.str z]))) (i + 1) as := by
  obtain ⟨h1, h2, h3, _⟩ := h.each a ha
  refine ⟨h.bag.upd h1, h.kp.mut h3, by rw [upd_ne (Ne.symm h2)]; exact h.at_, h.len, fun b hb => ?_⟩
  obtain ⟨k1, k2, k3, ys, k4, k5, k6⟩ := h.each b hb
  refine ⟨k1, k2, k3, ?_⟩
  by_cases e : b = a
  · subst e
    refine ⟨zs ++ [z], by rw [upd_same, List.map_append]; rfl, by rw [List.length_append]; show zs.length + 1 ≤ i + 1; omega, fun y hy => ?_⟩
    rcases List.mem_append.mp hy with hy | hy
    · exact hzs y hy
    · rw [List.mem_singleton.mp hy]; exact sz
  · exact ⟨ys, by rw [upd_ne e]; exact k4, by omega, k6⟩
theorem GrJ.pick (h : GrJ p g H0 H i as) : ∃ F : Addr → List Str, ∀ a ∈ as, H a = some (.lst ((F a).map V.str)) ∧ (F a).length ≤ i ∧ ∀ z ∈ F a, SgT 24 z :=
  ⟨fun a => if ha : a ∈ as then Classical.choose (h.each a ha).2.2.2 else [], fun a ha => by dsimp only; rw [dif_pos ha]; exact Classical.choose_spec (h.each a ha).2.2.2⟩
end
theorem at_last {α : Type} (xs : List α) (x : α) : atI (xs ++ [x]) (-1) = some x := by
  unfold atI ixN
  rw [List.length_append, if_neg (by decide), if_pos (by show -((xs.length + 1 : Nat) : Int) ≤ -1; omega)]
  show (xs ++ [x])[((-1 : Int) + ((xs.length + 1 : Nat) : Int)).toNat]? = _
  rw [show ((-1 : Int) + ((xs.length + 1 : Nat) : Int)).toNat = xs.length by omega, List.getElem?_append_right (Nat.le_refl _), Nat.sub_self]
  rfl
/-! ### lists of lists of texts, compared with the empty one -/
def lsD (F : Addr → List Str) (a : Addr) : PyData := .list ((F a).map PyData.str)
theorem dp_lists {K : PySem.W.Frag} {H : Hp} {F : Addr → List Str} : ∀ as : List Addr, (∀ a ∈ as, H a = some (.lst ((F a).map V.str))) → DpAll K H (as.map V.ref) (as.map (lsD F))
  | [], _ => .nil
  | a :: r, h => .cons (.lst (sq_of (h a List.mem_cons_self)) (dp_strs _)) (dp_lists r fun b hb => h b (List.mem_cons_of_mem _ hb))
theorem lay_lists {F : Addr → List Str} : ∀ as : List Addr, (∀ a ∈ as, ∀ z ∈ F a, PyData.strOk z = true) → PyData.canLayAll0 (as.map (lsD F)) = true
  | [], _ => by simp [PyData.canLayAll0]
  | a :: r, h => by
    have h1 := lay_strs (F a) (h a List.mem_cons_self)
    have h2 := lay_lists r fun b hb => h b (List.mem_cons_of_mem _ hb)
    simp [PyData.canLayAll0, PyData.canLay0, lsD, h1]
    exact h2
theorem depth_lists {F : Addr → List Str} : ∀ as : List Addr, PyData.depthAll (as.map (lsD F)) ≤ 2
  | [] => by simp [PyData.depthAll]
  | a :: r => by
    have h1 := depth_strs (F a)
    have h2 := depth_lists (F := F) r
    simp only [List.map_cons, PyData.depthAll, PyData.depth, lsD] at h2 ⊢
    omega
theorem shaped_lists {F : Addr → List Str} (as : List Addr) (h : ∀ a ∈ as, ∀ z ∈ F a, PyData.strOk z = true) : SeqAt.shaped (.list (as.map (lsD F))) = true := by
  have h1 := depth_lists (F := F) as
  have h2 : PyData.depth (.list (as.map (lsD F))) ≤ 64 := by simp only [PyData.depth]; omega
  show (PyData.canLay0 (.list (as.map (lsD F))) && decide (PyData.depth (.list (as.map (lsD F))) ≤ 64)) = true
  rw [Bool.and_eq_true]
  exact ⟨by simp only [PyData.canLay0]; exact lay_lists as h, decide_eq_true h2⟩
theorem rv_eqG0 {K : PySem.W.Frag} {H : Hp} {l p : Addr} {as : List Addr} {F : Addr → List Str} (hl : H l = some (.lst (as.map V.ref))) (h : ∀ a ∈ as, H a = some (.lst ((F a).map V.str))) (hk : ∀ a ∈ as, ∀ z ∈ F a, PyData.strOk z = true) (hp : H p = some (.lst [])) : RV (rEqD K) (.ref l) (.ref p) H (.bl (decide (as = []))) := fun H1 e Q q => by
  refine ⟨.list (as.map (lsD F)), .list [], .lst (sq_of (e _ _ hl)) (dp_lists as fun a ha => e _ _ (h a ha)), .lst (sq_of (e _ _ hp)) .nil, shaped_lists as hk, rfl, ?_⟩
  have e1 : PyData.eqv (.list (as.map (lsD F))) (.list []) = decide (as = []) := by
    cases as with
    | nil => simp [PyData.eqv, PyData.eqvAll]
    | cons o r => simp [PyData.eqv, PyData.eqvAll]
  rw [e1]
  exact q H1 (Ex.refl H1)
theorem rv_neS0 {K : PySem.W.Frag} {H : Hp} {l p : Addr} {xs : List Str} (hl : H l = some (.lst (xs.map V.str))) (h : ∀ x ∈ xs, PyData.strOk x = true) (hp : H p = some (.lst [])) : RV (rNeD K) (.ref l) (.ref p) H (.bl (!decide (xs = []))) := fun H1 e Q q => by
  refine ⟨.list (xs.map PyData.str), .list [], .lst (sq_of (e _ _ hl)) (dp_strs xs), .lst (sq_of (e _ _ hp)) .nil, shaped_strs xs h, rfl, ?_⟩
  have e1 : PyData.eqv (.list (xs.map PyData.str)) (.list []) = decide (xs = []) := by
    cases xs with
    | nil => simp [PyData.eqv, PyData.eqvAll]
    | cons o r => simp [PyData.eqv, PyData.eqvAll]
  rw [e1]
  exact q H1 (Ex.refl H1)
theorem ev_joinE {K : PySem.W.Frag} {σ : L2.St} {H : Hp} {te : TE} {l : Addr} {sep : Str} {zs : List Str} (h : Ev te σ H (.ref l)) (hl : H l = some (.lst (zs.map V.str))) (hb : (zs.map (·.length)).sum + zs.length * sep.length ≤ 100000) : Ev (tBM K "str" (rJoin K) (tC (.str sep)) (tCons te tNil)) σ H (.str (Txt.join sep zs)) := fun H1 e Q q =>
  ⟨rfl, h H1 e _ fun H2 e2 => ⟨sep, l, zs, rfl, rfl, .inl (sq_of ((e.trans e2) _ _ hl)), Nat.le_trans hb (by decide), q H2 e2⟩⟩
theorem join_sgC {zs : List Str} (h : ∀ z ∈ zs, SgT 24 z) (hn : zs.length ≤ 7) : SgT 199 (Txt.join "," zs) := by
  have h1 := join_len "," zs
  have h2 := sum_most zs 24 fun z hz => (h z hz).1
  have c : ("," : Str).length = 1 := by decide +kernel
  rw [c] at h1
  refine ⟨by omega, fun c hc => ?_⟩
  rcases join_mem hc with h1 | ⟨p, hp, h1⟩
  · have : ∀ c ∈ tl ("," : Str), c ∈ tl signs := by decide +kernel
    exact this c h1
  · exact (h p hp).2 c h1
def spTexts : Sp := fun vs H Q _ => ∃ p : Addr, vs = [.ref p] ∧ BgA H p ∧ ∀ (l : Addr) (ts : List Str) (H' : Hp), l ≠ p → H' l = some (.lst (ts.map V.str)) → ts.length ≤ 10 → (∀ t ∈ ts, VT 200 t) → BgA H' p → Keep p H H' → Q (.ref l) H'
/-- the list of texts -/
structure TxI (p l : Addr) (H0 H : Hp) (n : Nat) (ts : List Str) : Prop where
  bag : BgA H p
  kp : Keep p H0 H
  nl : H0 l = none
  at_ : H l = some (.lst (ts.map V.str))
  len : ts.length ≤ 3
  each : ∀ t ∈ ts, VT n t
theorem TxI.keep {p l : Addr} {H0 H H' : Hp} {n : Nat} {ts : List Str} (h : TxI p l H0 H n ts) (k : Keep p H H') (b : BgA H' p) (nl : l ≠ p) : TxI p l H0 H' n ts := ⟨b, h.kp.trans k, h.nl, k _ _ nl h.at_, h.len, h.each⟩
theorem TxI.ex {p l : Addr} {H0 H H' : Hp} {n : Nat} {ts : List Str} (h : TxI p l H0 H n ts) (e : Ex H H') (nl : l ≠ p) : TxI p l H0 H' n ts := h.keep (Keep.of e) (h.bag.ex e) nl
section
variable {P : Program} {w : World} {K : PySem.W.Frag} {mg : Str → Option Value} {base : Heap} {f D R C : Addr} {fd : FuncData} {k : Nat}
theorem ok_law_texts (T : Mg mg) (c_law_take : CTakeA P w K mg base) (c_law_padded : Call P w K mg base 5 "_law_padded" ["bag"] (spT 24)) (c_law_spoil : Call P w K mg base 3 "_law_spoil" ["texts", "bag"] spSpoil) (F : FnP K "_law_texts" s_law_texts f fd) (gm : mg "_law_texts" = some (.ref f)) : Call P w K mg base 6 "_law_texts" ["bag"] spTexts := by
  refine mk F gm (fun _ _ _ _ _ _ us hl => match us, hl with | [_], _ => rfl) (fun _ _ _ _ _ _ us hl => match us, hl with | [_], _ => rfl) sc_law_texts (fun vs H Q E h => ?_) (fun cdv A outer s H vs Q E hr h => ?_)
  · obtain ⟨p, rfl, _⟩ := h
    rfl
  · obtain ⟨p, rfl, b, q⟩ := h
    refine ⟨_, (pss_cons (ps_set (i := 1) sc_law_texts.nd rfl (Or.inl rfl) (pe_lst pa_nil))
    (pss_cons (ps_for PassesOwn.never rfl (pi_range1 rfl T.range (pa_cons (pe_ix ix_list (pe_lst (pa_cons pe_int (pa_cons pe_int (pa_cons pe_int (pa_cons pe_int (pa_cons pe_int (pa_cons pe_int (pa_cons pe_int (pa_cons pe_int pa_nil))))))))) (pe_f c_law_take hr (by decide) rfl (pa_cons (pv 0) (pa_cons pe_int pa_nil))) (fun _ _ => rfl)) pa_nil)) (pg_name (i := 2) sc_law_texts.nd rfl (Or.inl rfl))
      (pss_cons (ps_set (i := 3) sc_law_texts.nd rfl (Or.inl rfl) (pe_f c_law_padded hr (by decide) rfl (pa_cons (pv 0) pa_nil)))
      (pss_cons (ps_set (i := 4) sc_law_texts.nd rfl (Or.inl rfl) (pe_cmpR op_eq (pe_f c_law_take hr (by decide) rfl (pa_cons (pv 0) (pa_cons pe_int pa_nil))) pe_int (nomark _)))
      (pss_cons (ps_if (PW.pt (pw_or (pt_cmpR (op_eqD hr.units) (pv 1) (pe_lst pa_nil) (nomark _)) (pw_or1 (PW.pt (pw_and (pt_truth (pv 4) (by intro _; rfl)) (pw_and1 (pt_cmpR op_lt (pe_callB call_len_seq (by rfl) T.len (by decide +kernel) (pa_cons (pv 1) pa_nil)) pe_int (nomark _))))))))
        (pss_one (ps_expr (pe_bm PySem.F.plainAttrs_list PySem.F.slot_list_append PySem.F.type_list_append mt_append (pv 1) (pa_cons (pe_lst pa_nil) pa_nil))))
        pss_nil)
      (pss_one (ps_expr (pe_bm PySem.F.plainAttrs_list PySem.F.slot_list_append PySem.F.type_list_append mt_append (pe_ix ix_list (pv 1) (pe_un un_neg pe_int) (fun _ _ => rfl)) (pa_cons (pv 3) pa_nil))))))))
    (pss_cons (ps_setLc (i := 5) (own := [("group", 6)]) (g := gName 6) (tt := tYes) rfl sc_law_texts.nd rfl rfl (sw_true rfl rfl rfl (by decide +kernel)) (pi_list (pv 1)) (blkOk_by (N := ["bag", "groups", "k", "element", "opens", "texts", "group"]) (sc := L2.defScope s_law_texts) (by decide +kernel)) (fun _ _ _ _ _ => pg_name (i := 6) sc_law_texts.nd rfl (Or.inl rfl)) (fun _ _ _ _ _ => pts_nil) (fun _ _ _ _ _ => (inK (K := K) (t := fun K => tBM K "str" rStrip _ _) rfl (pe_bm PySem.F.plainAttrs_str PySem.F.slot_str_strip PySem.F.type_str_strip mz_strip (inK (K := K) (t := fun K => tBM K "str" (rJoin K) _ _) rfl (pe_bm PySem.F.plainAttrs_str PySem.F.slot_str_join PySem.F.type_str_join mz_join pe_str (pa_cons (pv 6) pa_nil))) (pa_cons pe_str pa_nil)))))
    (pss_cons (ps_if (PW.pt (pw_and (pt_cmpR (op_eqD hr.units) (pv 5) (pe_lst pa_nil) (nomark _)) (pw_and1 (pt_cmpR op_eq (pe_f c_law_take hr (by decide) rfl (pa_cons (pv 0) (pa_cons pe_int pa_nil))) pe_int (nomark _)))))
      (pss_one (ps_set (i := 5) sc_law_texts.nd rfl (Or.inl rfl) (pe_lst (pa_cons pe_str pa_nil))))
      pss_nil)
    (pss_cons (ps_if (PW.pt (pw_and (pt_cmpR (op_neD hr.units) (pv 5) (pe_lst pa_nil) (nomark _)) (pw_and1 (pt_cmpR op_eq (pe_f c_law_take hr (by decide) rfl (pa_cons (pv 0) (pa_cons pe_int pa_nil))) pe_int (nomark _)))))
      (pss_one (ps_expr (pe_f c_law_spoil hr (by decide) rfl (pa_cons (pv 5) (pa_cons (pv 0) pa_nil)))))
      pss_nil)
    (pss_one (ps_ret (pv 5)))))))), ?_⟩
    refine q_asgL (xs := []) (el_lst ea_nil (by decide)) fun g H1 ng e1 hg => ?_
    try dsimp only
    have ngp : g ≠ p := b.ne ng
    have b1 := b.ex e1
    refine q_forQ (rd_pickN (xs := [.int 3, .int 1, .int 7, .int 2, .int 0, .int 5, .int 4, .int 6]) (ea_cons ev_c (ea_cons ev_c (ea_cons ev_c (ea_cons ev_c (ea_cons ev_c (ea_cons ev_c (ea_cons ev_c (ea_cons ev_c ea_nil)))))))) (by decide) (fun _ _ => ea_pl rfl) b1 rfl (by decide) fun x H2 hx b2 k2 => ?_)
    obtain ⟨n, n0, n7, rfl⟩ : ∃ n : Int, 0 ≤ n ∧ n ≤ 7 ∧ x = .int n := by
      simp only [List.mem_cons, List.not_mem_nil, or_false] at hx
      rcases hx with rfl | rfl | rfl | rfl | rfl | rfl | rfl | rfl <;> exact ⟨_, by decide, by decide, rfl⟩
    have i0 : GrJ p g H H2 0 [] := ⟨b2, (Keep.of e1).trans k2, k2 _ _ ngp hg, Nat.zero_le _, fun a ha => nomatch ha⟩
    refine forQ_of ⟨n0, by omega⟩ (fun i σ' H' => (∃ v w u, σ' = [some (.ref p), some (.ref g), v, w, u, none, none]) ∧ ∃ as, GrJ p g H H' i as) ⟨⟨none, none, none, rfl⟩, [], i0⟩ (fun i σ' H3 hi pv => ?_) (fun σ' H3 pv => ?_)
    · obtain ⟨⟨v, w, u, rfl⟩, as, I3⟩ := pv
      try dsimp only
      refine q_asgR (rd_call (ea_p rfl) fun H4 e4 => ⟨p, rfl, I3.bag.ex e4, fun z H5 sz b5 k5 => ?_⟩)
      try dsimp only
      have I5 := I3.keep ((Keep.of e4).trans k5) b5 ngp
      refine q_asgR (rd_opR (rd_takeA (ea_pl rfl) I5.bag (by decide) (by decide) fun d H6 d0 d1 b6 k6 => ev_c H6 (Ex.refl H6) _ fun H7 e7 => rv_eqI H7 (Ex.refl H7) _ fun H8 e8 => ?_))
      try dsimp only
      have I8 := (I5.keep k6 b6 ngp).keep (Keep.of (e7.trans e8)) (b6.ex (e7.trans e8)) ngp
      generalize decide (d = 0) = op
      refine q_tailIf (fun σ1 Hx => σ1 = [some (.ref p), some (.ref g), some (.int (i : Int)), some (.str z), some (.bl op), none, none] ∧ ∃ as a, GrJ p g H Hx i (as ++ [a])) (fun σ1 H9 hR => ?_) (fun tail => ?_)
      · obtain ⟨rfl, as', a, I9⟩ := hR
        obtain ⟨F, hF⟩ := I9.pick
        have ma : a ∈ as' ++ [a] := List.mem_append.mpr (.inr List.mem_cons_self)
        obtain ⟨f1, f2, f3⟩ := hF a ma
        refine s_app (K := K) f1 (ev_ixL (ev_var rfl) (ev_un ev_c ru_neg) I9.at_ (by rw [List.map_append]; exact at_last _ _)) (ev_var rfl) (by rw [List.length_map]; omega) fun HA eA => ?_
        exact ⟨⟨_, _, _, rfl⟩, _, (I9.keep (Keep.of eA) (I9.bag.ex eA) ngp).app ma (eA _ _ f1) f2 f3 sz⟩
      · obtain ⟨F, hF⟩ := I8.pick
        refine q_when (b := decide (as = []) || (op && decide (as.length < 3))) (et_or (et_test (ev_opL (ev_var rfl) (el_lst ea_nil (by decide)) fun q H1 hq e1 => rv_eqG0 (F := F) (e1 _ _ I8.at_) (fun a ha => e1 _ _ (hF a ha).1) (fun a ha z hz => sg_ok ((hF a ha).2.2 z hz)) hq)) fun _ => et_and (et_truB (ev_var rfl)) fun _ => et_is (et_test (ev_op (ev_len (ev_var rfl) (sq_of I8.at_)) ev_c rv_I0)) (decide_eq_decide.mpr (by rw [List.length_map]; omega))) (fun hb H9 e9 => ?_) (fun hb H9 e9 => ?_)
        · have hlt : as.length < 3 := by
            rw [Bool.or_eq_true, Bool.and_eq_true, decide_eq_true_eq, decide_eq_true_eq] at hb
            rcases hb with hb | hb
            · rw [hb]; decide
            · exact hb.2
          exact s_appL (e9 _ _ I8.at_) (ev_var rfl) (el_lst ea_nil (by decide)) (by rw [List.length_map]; omega) fun a HA na eA ha => tail _ _ ⟨rfl, as, a, (I8.keep (Keep.of e9) (I8.bag.ex e9) ngp).push ngp ng na eA ha hlt⟩
        · have hne : as ≠ [] := fun e => by rw [e] at hb; cases hb
          have I9 := I8.keep (Keep.of e9) (I8.bag.ex e9) ngp
          rw [← List.dropLast_concat_getLast hne] at I9
          exact tail _ _ ⟨rfl, _, _, I9⟩
    · obtain ⟨⟨v, w, u, rfl⟩, as, I3⟩ := pv
      obtain ⟨F, hF⟩ := I3.pick
      have hn7 : n.toNat ≤ 7 := by omega
      refine q_asgL (xs := ((List.range as.length).map fun i => Txt.stripChars (Txt.join "," (F (as.getD i 0))) " ").map V.str) ?_ fun lt HA na eA ht => ?_
      · have e : (((List.range as.length).map fun i => Txt.stripChars (Txt.join "," (F (as.getD i 0))) " ").map V.str) = given (as.map V.ref).length (fun _ => true) (fun i => V.str (Txt.stripChars (Txt.join "," (F (as.getD i 0))) " ")) := by
          unfold given
          rw [List.map_map, List.length_map, List.filter_eq_self.mpr fun _ _ => rfl]
          rfl
        rw [e]
        refine el_lcL (fun _ => true) (fun i => V.str (Txt.stripChars (Txt.join "," (F (as.getD i 0))) " ")) (ev_var rfl) (sq_of I3.at_) (by rw [List.length_map]; have := I3.len; omega) (fun x => rfl) (fun i x H4 e4 hi => et_yes) (fun i x H4 e4 hi _ => ?_)
        rw [List.getElem?_map] at hi
        obtain ⟨a, ha, rfl⟩ : ∃ a, as[i]? = some a ∧ x = .ref a := by
          cases hp : as[i]? with
          | none => rw [hp] at hi; cases hi
          | some a => rw [hp] at hi; exact ⟨a, rfl, (Option.some.inj hi).symm⟩
        have ea : as.getD i 0 = a := by rw [List.getD_eq_getElem?_getD, ha]; rfl
        obtain ⟨f1, f2, f3⟩ := hF a (List.mem_of_getElem? ha)
        have sj := join_sgC f3 (Nat.le_trans f2 hn7)
        have sl := join_len "," (F a)
        have s2 := sum_most (F a) 24 fun z hz => (f3 z hz).1
        have c1 : ("," : Str).length = 1 := by decide +kernel
        rw [ea]
        exact ev_strip (ev_joinE (ev_var rfl) (e4 _ _ f1) (by rw [c1]; omega)) ev_c (by have := sj.1; omega)
      try dsimp only
      have IA : TxI p lt H HA 199 ((List.range as.length).map fun i => Txt.stripChars (Txt.join "," (F (as.getD i 0))) " ") := by
        obtain ⟨_, _, _, _, hp, _⟩ := I3.bag
        refine ⟨I3.bag.ex eA, I3.kp.trans (Keep.of eA), Keep.non I3.kp hp na, ht, by rw [List.length_map, List.length_range]; exact I3.len, fun t ht => ?_⟩
        obtain ⟨i, hi, rfl⟩ := List.mem_map.mp ht
        have hi := List.mem_range.mp hi
        obtain ⟨f1, f2, f3⟩ := hF (as.getD i 0) (by rw [List.getD_eq_getElem?_getD, List.getElem?_eq_getElem hi]; exact List.getElem_mem hi)
        exact vt_strip (join_sgC f3 (Nat.le_trans f2 hn7))
      generalize ((List.range as.length).map fun i => Txt.stripChars (Txt.join "," (F (as.getD i 0))) " ") = ts at ht IA
      clear hF I3 F
      refine q_st (σ' := [some (.ref p), some (.ref g), v, w, u, some (.ref lt), none]) rfl ?_
      refine q_tail (fun σ1 Hx => ∃ lt ts, σ1 = [some (.ref p), some (.ref g), v, w, u, some (.ref lt), none] ∧ TxI p lt H Hx 199 ts) (fun σ1 HB hR => ?_) (fun tail => ?_)
      · obtain ⟨lt, ts, rfl, IB⟩ := hR
        have nlp : lt ≠ p := b.ne IB.nl
        refine q_tail (fun σ1 Hx => ∃ ts, σ1 = [some (.ref p), some (.ref g), v, w, u, some (.ref lt), none] ∧ TxI p lt H Hx 200 ts) (fun σ1 HC hR => ?_) (fun tail => ?_)
        · obtain ⟨ts, rfl, IC⟩ := hR
          exact s_ret (ev_var rfl) fun HD eD => by
            have ID := IC.ex eD nlp
            exact q lt ts HD nlp ID.at_ (by have := ID.len; omega) ID.each ID.bag ID.kp
        · have up : ∀ {Hx : Hp} {ts : List Str}, TxI p lt H Hx 199 ts → TxI p lt H Hx 200 ts := fun h => ⟨h.bag, h.kp, h.nl, h.at_, h.len, fun t ht => (h.each t ht).mono (by decide)⟩
          refine (et_test (ev_opL (ev_var rfl) (el_lst ea_nil (by decide)) fun z H1 hz e1 => rv_neS0 (e1 _ _ IB.at_) (fun x hx => sg_ok (IB.each x hx).1) hz)) HB (Ex.refl HB) _ fun HC eC => ?_
          have IC := IB.ex eC nlp
          by_cases hts : ts = []
          · rw [if_neg (by rw [decide_eq_true hts]; exact Bool.noConfusion)]
            dsimp only
            rw [if_neg Bool.false_ne_true]
            exact tail _ _ ⟨ts, rfl, up IC⟩
          · rw [if_pos (by rw [decide_eq_false hts]; rfl)]
            refine rd_takeA (ea_pl rfl) IC.bag (by decide) (by decide) fun d HD d0 d1 bD kD => ev_c HD (Ex.refl HD) _ fun HE eE => rv_eqI HE (Ex.refl HE) _ fun HF eF => ⟨_, rfl, ?_⟩
            have IF := (IC.keep kD bD nlp).ex (eE.trans eF) nlp
            dsimp only
            by_cases hd : d = 0
            · rw [if_pos (decide_eq_true hd)]
              refine g_drop (rd_call (ea_cons (ev_var rfl) (ea_cons (ev_var rfl) ea_nil)) fun HG eG => ?_)
              have IG := IF.ex eG nlp
              refine ⟨lt, p, 199, ts, rfl, nlp, IG.bag, IG.at_, List.length_pos_iff.mpr hts, by have := IG.len; omega, by decide, IG.each, fun ts' HH hl hv hat bH kH => tail _ _ ⟨ts', rfl, bH, fun c o nc hc => kH c o nc (ne_of_none hc IG.nl) (IG.kp c o nc hc), IG.nl, hat, by rw [hl]; exact IG.len, hv⟩⟩
            · rw [if_neg (by rw [decide_eq_true_eq]; exact hd)]
              exact tail _ _ ⟨ts, rfl, up IF⟩
      · have nlp : lt ≠ p := b.ne IA.nl
        refine (et_test (ev_opL (ev_var rfl) (el_lst ea_nil (by decide)) fun z H1 hz e1 => rv_eqS0 (e1 _ _ IA.at_) (fun x hx => sg_ok (IA.each x hx).1) hz)) HA (Ex.refl HA) _ fun HC eC => ?_
        have IC := IA.ex eC nlp
        by_cases hts : ts = []
        · rw [if_pos (decide_eq_true hts)]
          refine rd_takeA (ea_pl rfl) IC.bag (by decide) (by decide) fun d HD d0 d1 bD kD => ev_c HD (Ex.refl HD) _ fun HE eE => rv_eqI HE (Ex.refl HE) _ fun HF eF => ⟨_, rfl, ?_⟩
          have IF := (IC.keep kD bD nlp).ex (eE.trans eF) nlp
          dsimp only
          by_cases hd : d = 0
          · rw [if_pos (decide_eq_true hd)]
            refine s_asgL (xs := [("" : Str)].map V.str) (el_lst (ea_cons ev_c ea_nil) (by decide)) fun l2 HG n2 eG h2 => tail _ _ ⟨l2, [""], rfl, IF.bag.ex eG, IF.kp.trans (Keep.of eG), ?_, h2, by decide, fun t ht => ?_⟩
            · obtain ⟨_, _, _, _, hp, _⟩ := IF.bag
              exact Keep.non IF.kp hp n2
            · rw [List.mem_singleton.mp ht]
              have : VT 0 ("" : Str) := by unfold VT SgT; decide +kernel
              exact this.mono (by decide)
          · rw [if_neg (by rw [decide_eq_true_eq]; exact hd)]
            exact tail _ _ ⟨lt, ts, rfl, IF⟩
        · rw [if_neg (by rw [decide_eq_false hts]; exact Bool.noConfusion)]
          dsimp only
          rw [if_neg Bool.false_ne_true]
          exact tail _ _ ⟨lt, ts, rfl, IC⟩
end
end Z
set_option maxHeartbeats 4000000
namespace Z
open PySem PySem.Spec PyProof.Rows L2 TL Evl NdefX
/-! ### fields, compared -/
def toF (x : Str × Str) : PyData := .tuple [.str x.1, .str x.2]
theorem sign_ok {z : Str} (h : allIn z signs = true) : PyData.strOk z = true := ok_text fun c hc => signs_lt c (of_decide_eq_true (List.all_eq_true.mp h c hc))
theorem name_ok {z : Str} (h : nameB z = true) : PyData.strOk z = true := by
  unfold nameB wordB at h
  simp only [Bool.and_eq_true] at h
  have h2 := h.1.2.2
  refine ok_text fun c hc => ?_
  have h4 : c ∈ tl "abcdefghijklmnopqrstuvwxyz0123456789-" := of_decide_eq_true (List.all_eq_true.mp h2 c hc)
  have : ∀ c ∈ tl "abcdefghijklmnopqrstuvwxyz0123456789-", c < 128 := by decide +kernel
  exact this c h4
theorem value_ok {z : Str} (h : valueB z = true) : PyData.strOk z = true := by
  unfold valueB at h
  simp only [Bool.and_eq_true] at h
  exact sign_ok h.2.1
def okF (fs : Fs) : Prop := ∀ x ∈ fs, fieldB x = true
theorem areB_ok {fs : Fs} (h : areB fs = true) : okF fs := by
  unfold areB at h
  rw [Bool.and_eq_true, List.all_eq_true] at h
  exact h.2
theorem lay_toF : ∀ fs : Fs, okF fs → PyData.canLayAll0 (fs.map toF) = true
  | [], _ => by simp [PyData.canLayAll0]
  | x :: r, h => by
    have h2 := lay_toF r fun y hy => h y (List.mem_cons_of_mem _ hy)
    obtain ⟨h3, h4⟩ := Bool.and_eq_true_iff.mp (h x List.mem_cons_self)
    simp [PyData.canLayAll0, PyData.canLay0, toF, name_ok h3, value_ok h4, h2]
theorem depth_toF : ∀ fs : Fs, PyData.depthAll (fs.map toF) ≤ 2
  | [] => by simp [PyData.depthAll]
  | x :: r => by
    have := depth_toF r
    simp only [List.map_cons, PyData.depthAll, PyData.depth, toF]
    omega
theorem shaped_toF (fs : Fs) (h : okF fs) : SeqAt.shaped (.list (fs.map toF)) = true := by
  have h1 := depth_toF fs
  have h2 : PyData.depth (.list (fs.map toF)) ≤ 64 := by simp only [PyData.depth]; omega
  show (PyData.canLay0 (.list (fs.map toF)) && decide (PyData.depth (.list (fs.map toF)) ≤ 64)) = true
  rw [Bool.and_eq_true]
  exact ⟨by simp only [PyData.canLay0]; exact lay_toF fs h, decide_eq_true h2⟩
theorem eqv_toF (a b : Str × Str) : PyData.eqv (toF a) (toF b) = decide (a = b) := by
  obtain ⟨x, y⟩ := a
  obtain ⟨z, u⟩ := b
  show PyData.eqv (.tuple [.str x, .str y]) (.tuple [.str z, .str u]) = _
  simp only [PyData.eqv, PyData.eqvAll, Bool.and_true]
  rw [Bool.eq_iff_iff, Bool.and_eq_true, beq_iff_eq, beq_iff_eq, decide_eq_true_eq]
  exact ⟨fun h => by rw [h.1, h.2], fun h => ⟨congrArg Prod.fst h, congrArg Prod.snd h⟩⟩
theorem eqvAll_toF : ∀ fs gs : Fs, PyData.eqvAll (fs.map toF) (gs.map toF) = decide (fs = gs)
  | [], [] => by simp [PyData.eqvAll]
  | [], _ :: _ => by simp [PyData.eqvAll]
  | _ :: _, [] => by simp [PyData.eqvAll]
  | x :: r, y :: s => by
    show (PyData.eqv (toF x) (toF y) && PyData.eqvAll (r.map toF) (s.map toF)) = _
    rw [eqv_toF, eqvAll_toF r s, Bool.eq_iff_iff, Bool.and_eq_true, decide_eq_true_eq, decide_eq_true_eq, decide_eq_true_eq]
    exact ⟨fun h => by rw [h.1, h.2], fun h => by
      injection h with h1 h2
      exact ⟨h1, h2⟩⟩
theorem dpf_all {K : PySem.W.Frag} {H : Hp} : ∀ {xs : List V} {os : Fs}, Rel (PfAt H) xs os → DpAll K H xs (os.map toF)
  | [], [], _ => .nil
  | [], o :: os, h => by have := h.1; cases this
  | x :: xs, [], h => by have := h.1; cases this
  | x :: xs, o :: os, h => by
    obtain ⟨p, rfl, hp⟩ := h.2 0 x o rfl rfl
    exact .cons (.tup (st_of hp) (.cons (.str _) (.cons (.str _) .nil))) (dpf_all ⟨Nat.succ.inj h.1, fun i y u a b => h.2 (i + 1) y u a b⟩)
theorem dpf {K : PySem.W.Frag} {H : Hp} {q : Addr} {fs : Fs} (h : FsAt H q fs) : Dp K H (.ref q) (.list (fs.map toF)) := by
  obtain ⟨xs, h1, h2⟩ := h
  exact .lst (sq_of h1) (dpf_all h2)
theorem rv_eqF {K : PySem.W.Frag} {H : Hp} {p q : Addr} {fs gs : Fs} (h1 : FsAt H p fs) (h2 : FsAt H q gs) (k1 : okF fs) (k2 : okF gs) : RV (rEqD K) (.ref p) (.ref q) H (.bl (decide (fs = gs))) := fun H1 e Q k => by
  refine ⟨_, _, dpf (h1.ex e), dpf (h2.ex e), shaped_toF fs k1, shaped_toF gs k2, ?_⟩
  have e1 : PyData.eqv (.list (fs.map toF)) (.list (gs.map toF)) = decide (fs = gs) := by
    simp only [PyData.eqv]
    exact eqvAll_toF fs gs
  rw [e1]
  exact k H1 (Ex.refl H1)
theorem rv_neF {K : PySem.W.Frag} {H : Hp} {p q : Addr} {fs gs : Fs} (h1 : FsAt H p fs) (h2 : FsAt H q gs) (k1 : okF fs) (k2 : okF gs) : RV (rNeD K) (.ref p) (.ref q) H (.bl (!decide (fs = gs))) := fun H1 e Q k => by
  refine ⟨_, _, dpf (h1.ex e), dpf (h2.ex e), shaped_toF fs k1, shaped_toF gs k2, ?_⟩
  have e1 : PyData.eqv (.list (fs.map toF)) (.list (gs.map toF)) = decide (fs = gs) := by
    simp only [PyData.eqv]
    exact eqvAll_toF fs gs
  rw [e1]
  exact k H1 (Ex.refl H1)
/-! ### messages made, directives of them -/
def joinO_eq : ∀ {fs : Fs} {ts : List Str}, valsF fs "keep" = ts → elO (joinF fs "keep") = ts.flatMap elems := fun {fs ts} h => by
  unfold joinF
  rw [h]
  by_cases hn : ts = []
  · rw [if_pos hn, hn]; rfl
  · rw [if_neg hn]
    exact elems_joins
theorem elO_joinO (ts : List Str) : elO (joinO ts) = ts.flatMap elems := by
  unfold joinO
  by_cases hn : ts = []
  · rw [if_pos hn, hn]; rfl
  · rw [if_neg hn]
    exact elems_joins
section
variable {R q : Addr} {H : Hp} {m p : Str} {fs : Fs} {vs dvs : List V} {Q : VK} {E : XK}
theorem ri_rqF (hv : vs ++ dvs = [.str m, .str p, .ref q, .str ""]) (hf : FsAt H q fs) (hok : okRq m p fs) (k : ∀ v H', Ex H H' → RsAt R H' v fs → Q v H') :
    ∀ x dx, H x = none → H dx = none → dx ≠ x → spRq R (.ref x :: (vs ++ dvs)) (upd (upd H dx (.own x)) x (.ins R dx [])) (fun v H2 => v = .non ∧ Q (.ref x) H2) E := fun x dx hx hd hne => by
  have e0 : Ex H (upd (upd H dx (.own x)) x (.ins R dx [])) := fun c o hc => by
    rw [upd_ne (ne_of_none hc hx), upd_ne (ne_of_none hc hd)]
    exact hc
  exact ⟨x, dx, q, m, p, fs, by rw [hv], upd_same, hf.ex e0, hok, fun l H' nl kp h1 h2 => ⟨rfl, k _ H' (fun c o hc => kp c o (ne_of_none hc hx) (e0 c o hc)) ⟨x, dx, l, _, _, _, _, rfl, h1, Or.inr ⟨_, _, rfl⟩, h2⟩⟩⟩
end
def EvDr (D : Addr) (te : TE) (σ : L2.St) (H : Hp) (ps : List Str) : Prop := ∀ H1, Ex H H1 → ∀ Q : VK, (∀ v H2, Ex H1 H2 → DrAt D H2 v ps → Q v H2) → te σ H1 Q
def EvMs (R : Addr) (te : TE) (σ : L2.St) (H : Hp) (fs : Fs) : Prop := ∀ H1, Ex H H1 → ∀ Q : VK, (∀ v H2, Ex H1 H2 → RsAt R H2 v fs → Q v H2) → te σ H1 Q
def EvFl (te : TE) (σ : L2.St) (H : Hp) (fs : Fs) : Prop := ∀ H1, Ex H H1 → ∀ Q : VK, (∀ q H2, Ex H1 H2 → FsAt H2 q fs → Q (.ref q) H2) → te σ H1 Q
section
variable {K : PySem.W.Frag} {D R : Addr} {te ta ts tm tp tf tb : TE} {σ : L2.St} {H : Hp} {ps : List Str} {fs : Fs} {E : XK} {s m p : Str} {v : V} {q l b : Addr} {o : Option Str} {xs : List V} {ES : L2.St → XK}
theorem ef_var (h : Ev te σ H (.ref q)) (hq : FsAt H q fs) : EvFl te σ H fs := fun H1 e Q k => h H1 e _ fun H2 e2 => k q H2 e2 (hq.ex (e.trans e2))
theorem ef_list (h : Ev te σ H (.ref q)) (hq : FsAt H q fs) : EvFl (tCB (rListS K) (tCons te tNil)) σ H fs := fun H1 e Q k => by
  obtain ⟨xs, hx, hr⟩ := hq
  exact (el_listE (K := K) h hx) H1 e _ fun p H2 np e2 hp => k p H2 e2 ⟨xs, hp, hr.mono fun _ _ m => TupAt.ex m (e.trans e2)⟩
theorem em_rs (hs : Ev ts σ H (.str s)) (hf : EvFl tf σ H fs) (hin : s ∈ stL) (hok : areB fs = true) : EvMs R (tMake R (spRs R) [.str ""] E (tCons ts (tCons tf tNil))) σ H fs := fun H1 e Q k =>
  rd_mk (rd_consE (hs.mono e) fun H2 e2 => rd_consR (hf H2 (e.trans e2) _ fun q H3 e3 hq => rd_nil (ri_rs (s := s) (q := q) (b := "") rfl hq ⟨hin, hok, body0.1, body0.2, .inl rfl⟩ fun v H4 e4 h => k v H4 ((e2.trans e3).trans e4) h)))
theorem em_rq (hm : Ev tm σ H (.str m)) (hp : Ev tp σ H (.str p)) (hf : EvFl tf σ H fs) (hok : okRq m p fs) : EvMs R (tMake R (spRq R) [.str ""] E (tCons tm (tCons tp (tCons tf tNil)))) σ H fs := fun H1 e Q k =>
  rd_mk (rd_consE (hm.mono e) fun H2 e2 => rd_consE (hp.mono (e.trans e2)) fun H3 e3 => rd_consR (hf H3 ((e.trans e2).trans e3) _ fun q H4 e4 hq => rd_nil (ri_rqF (m := m) (p := p) (q := q) rfl hq hok fun v H5 e5 h => k v H5 (((e2.trans e3).trans e4).trans e5) h)))
theorem em_var (h : Ev te σ H v) (hv : RsAt R H v fs) : EvMs R te σ H fs := fun H1 e Q k => h H1 e _ fun H2 e2 => k v H2 e2 (hv.ex (e.trans e2))
theorem ed_of (hm : EvMs R ta σ H fs) (hok : areB fs = true) : EvDr D (ClX.tCMeth D (spDo D R) E (tC (.ref D)) (tCons ta tNil)) σ H (elO (joinF fs "keep")) := fun H1 e Q k =>
  ⟨rfl, rd_consR (hm H1 e _ fun v H2 e2 hv => rd_nil ⟨v, fs, rfl, hv, hok, fun v' H3 e3 hd => k v' H3 (e2.trans e3) hd⟩)⟩
theorem ed_read (h : Ev ta σ H (oS o)) (ho : ∀ z, o = some z → z.length ≤ 10000) : EvDr D (ZX.tStatS D (spDr D) ES (tC (.ref D)) (tCons ta tNil)) σ H (elO o) := fun H1 e Q k =>
  ⟨rfl, rd_consE (h.mono e) fun H2 e2 => rd_nil ⟨o, rfl, ho, fun v H3 e3 hd => k v H3 (e2.trans e3) hd⟩⟩
theorem ed_is {ps' : List Str} (h : EvDr D te σ H ps) (e : ps = ps') : EvDr D te σ H ps' := e ▸ h
theorem ed_var (h : Ev te σ H v) (hv : DrAt D H v ps) : EvDr D te σ H ps := fun H1 e Q k => h H1 e _ fun H2 e2 => k v H2 e2 (hv.ex (e.trans e2))
theorem el_told (h : EvDr D te σ H ps) : EvL (tCall (spTo D) [] E (tCons te tNil)) σ H (toL ps) := fun H1 e Q k =>
  h H1 e _ fun v H2 e2 hd => ⟨v, ps, rfl, hd, fun l H3 nl e3 hl => k l H3 (fresh_back e2 nl) (e2.trans e3) hl⟩
theorem ev_allL (ha : EvL ta σ H xs) (hb : Ev tb σ H (.ref b)) (hy : H b = some (.lst xs)) (hp : ∀ x ∈ xs, PlV x) (hl : xs.length ≤ 1000) : Ev (tCall spAllS [] E (tCons ta (tCons tb tNil))) σ H (.bl true) := fun H1 e Q k =>
  ha H1 e _ fun a H2 na e2 hx => hb H2 (e.trans e2) _ fun H3 e3 => ⟨a, b, xs, rfl, e3 _ _ hx, ((e.trans e2).trans e3) _ _ hy, hp, hl, fun H4 e4 => k H4 ((e2.trans e3).trans e4)⟩
/-- what is told of directives is what is due -/
theorem ev_due (h : EvDr D te σ H ps) (hb : Ev tb σ H (.ref b)) (hy : H b = some (.lst (toL ps))) : Ev (tCall spAllS [] E (tCons (tCall (spTo D) [] E (tCons te tNil)) (tCons tb tNil))) σ H (.bl true) := ev_allL (el_told h) hb hy (toL_pl ps) (by show 12 ≤ 1000; decide)
end
theorem heads_new {K : PySem.W.Frag} {σ : L2.St} {H : Hp} {i j : Nat} {l : Addr} {a : Str} {ts : List Str} {Q : VK} (hi : σ[i]? = some (some (.ref l))) (hl : H l = some (.lst (ts.map V.str))) (hz : ts.length ≤ 40000) (hw : ∀ x, wipe ((wipe σ [j]).set j (some x)) [j] = wipe σ [j])
    (h1 : ∀ x, ((wipe σ [j]).set j (some x))[j]? = some (some x)) (k : ∀ D H', H D = none → Ex H H' → FsAt H' D (ts.map fun z => (a, z)) → Q (.ref D) H') : tLc (iList K (tVar i)) (gName j) tYes (tTup (tCons (tC (.str a)) (tCons (tVar j) tNil))) [j] σ H Q := by
  refine ⟨.ref l, hi, l, rfl, ⟨_, sq_of hl⟩, fun D hD => ?_⟩
  refine lc_rel (α := Str × Str) (fun i => (ts.map fun z => (a, z)).take i) PfAt (fun _ _ _ _ k hD r => TupAt.keep r k hD) (sq_of hl) hD rfl (by rw [List.length_map]; omega) (fun i x H13 hi e13 k k0 hk _ => ?_) (fun H13 ms e13 hy hrel => ?_)
  · obtain ⟨z, hz, rfl⟩ : ∃ z, ts[i]? = some z ∧ x = .str z := by
      rw [List.getElem?_map] at hi
      cases hp : ts[i]? with
      | none => rw [hp] at hi; cases hi
      | some z => rw [hp] at hi; exact ⟨z, rfl, (Option.some.inj hi).symm⟩
    refine ⟨hw _, ?_⟩
    unfold tYes
    dsimp only
    rw [if_pos rfl]
    refine (eu_tup (ea_cons ev_c (ea_cons (ev_var (h1 _)) ea_nil)) (by show 2 ≤ _; decide)) H13 (Ex.refl H13) _ fun p H14 np e14 hp => hk _ H14 (a, z) e14 ?_ ⟨p, rfl, hp⟩
    show (ts.map fun z => (a, z)).take (i + 1) = _
    rw [List.take_add_one, List.getElem?_map, hz]
    rfl
  · have e : (ts.map V.str).length = (ts.map fun z => (a, z)).length := by rw [List.length_map, List.length_map]
    rw [e, List.take_length] at hrel
    exact k D H13 hD e13 ⟨ms, hy, hrel⟩
theorem keeps_ok {ts : List Str} (hn : ts.length ≤ 40) (h : ∀ t ∈ ts, VT 200 t) : areB (ts.map fun z => (("keep" : Str), z)) = true ∧ valsF (ts.map fun z => (("keep" : Str), z)) "keep" = ts := by
  constructor
  · unfold areB
    rw [Bool.and_eq_true, decide_eq_true_eq, List.all_eq_true, List.length_map]
    refine ⟨hn, fun x hx => ?_⟩
    obtain ⟨z, hz, rfl⟩ := List.mem_map.mp hx
    show (nameB ("keep" : Str) && valueB z) = true
    rw [keep_name, (h z hz).val (Nat.le_refl _)]
    rfl
  · clear hn h
    induction ts with
    | nil => rfl
    | cons z r ih =>
      show valsF ([(("keep" : Str), z)] ++ r.map fun z => (("keep" : Str), z)) "keep" = _
      rw [vals_app, vals_keep, ih]
      rfl
structure MkR (P : Program) (w : World) (K : PySem.W.Frag) (mg : Str → Option Value) (base : Heap) (R : Addr) : Prop where
  ex : ∃ fi fd ds, Mk K R fi ∧ FnOk P w K mg base CX0 6 fi fd ["self", "status", "fields", "body"] (spRs R) ∧ Binds K fd ["self", "status", "fields", "body"] ds ∧ Vals [.str ""] ds
structure MkQ (P : Program) (w : World) (K : PySem.W.Frag) (mg : Str → Option Value) (base : Heap) (R : Addr) : Prop where
  ex : ∃ fi fd ds, Mk K R fi ∧ FnOk P w K mg base CX0 6 fi fd ["self", "method", "path", "fields", "body"] (spRq R) ∧ Binds K fd ["self", "method", "path", "fields", "body"] ds ∧ Vals [.str ""] ds
structure Doc (P : Program) (w : World) (K : PySem.W.Frag) (mg : Str → Option Value) (base : Heap) (D R : Addr) : Prop where
  rd : ClX.CRead K D (.type "type")
  ex : ∃ po fo, ClX.CMet K D (.type "type") "of" po fo ∧ FnR P w K mg base CX0 8 fo (spDo D R)
theorem path_a : pathB ("/a" : Str) = true ∧ ("/a" : Str).length ≤ 60 ∧ pathB ("/" : Str) = true ∧ ("/" : Str).length ≤ 60 := by decide +kernel
theorem get_in : ("get" : Str) ∈ mdL := List.mem_cons_self
def spMany : Sp := fun vs H Q _ => ∃ p : Addr, vs = [.ref p] ∧ BgA H p ∧ ∀ H', BgA H' p → Keep p H H' → Q (.bl true) H'
section
variable {P : Program} {w : World} {K : PySem.W.Frag} {mg : Str → Option Value} {base : Heap} {f D R R2 C : Addr} {fd : FuncData} {k : Nat}
theorem ok_law_many_right (T : Mg mg) (WD : Wdr K mg D) (WR : Ws K mg R) (WQ : Wq K mg R2) (IR : MkR P w K mg base R) (IQ : MkQ P w K mg base R2) (DR : Doc P w K mg base D R) (DQ : Doc P w K mg base D R2) (c_law_take : CTakeA P w K mg base) (c_law_element : Call P w K mg base 4 "_law_element" ["bag"] (spT 20)) (c_law_due : Call P w K mg base 3 "_law_due" ["texts"] spDue)
    (c_law_told : Call P w K mg base 1 "_law_told" ["one"] (spTo D)) (c_law_all_same : Call P w K mg base 2 "_law_all_same" ["got", "due"] spAllS) (F : FnP K "_law_many_right" s_law_many_right f fd) (gm : mg "_law_many_right" = some (.ref f)) : Call P w K mg base 9 "_law_many_right" ["bag"] spMany := by
  obtain ⟨fiR, fdR, dsR, MR, FR, bR, vR⟩ := IR.ex
  obtain ⟨fiQ, fdQ, dsQ, MQ, FQ, bQ, vQ⟩ := IQ.ex
  obtain ⟨poR, foR, CR, FDR⟩ := DR.ex
  obtain ⟨poQ, foQ, CQ, FDQ⟩ := DQ.ex
  refine mk F gm (fun _ _ _ _ _ _ us hl => match us, hl with | [_], _ => rfl) (fun _ _ _ _ _ _ us hl => match us, hl with | [_], _ => rfl) sc_law_many_right (fun vs H Q E h => ?_) (fun cdv A outer s H vs Q E hr h => ?_)
  · obtain ⟨p, rfl, _⟩ := h
    rfl
  · obtain ⟨p, rfl, b, q⟩ := h
    refine ⟨_, (pss_cons (ps_if (pt_cmpR op_gt (pe_f c_law_take hr (by decide) rfl (pa_cons (pv 0) (pa_cons pe_int pa_nil))) pe_int (nomark _))
      (pss_one (ps_ret pe_bl))
      pss_nil)
    (pss_cons (ps_set (i := 1) sc_law_many_right.nd rfl (Or.inl rfl) (pe_lst pa_nil))
    (pss_cons (ps_for PassesOwn.never rfl (pi_range1 rfl T.range (pa_cons (pe_op op_add pe_int (pe_f c_law_take hr (by decide) rfl (pa_cons (pv 0) (pa_cons pe_int pa_nil)))) pa_nil)) (pg_name (i := 2) sc_law_many_right.nd rfl (Or.inl rfl))
      (pss_one (ps_expr (pe_bm PySem.F.plainAttrs_list PySem.F.slot_list_append PySem.F.type_list_append mt_append (pv 1) (pa_cons (pe_bm PySem.F.plainAttrs_str PySem.F.slot_str_strip PySem.F.type_str_strip mz_strip (pe_f c_law_element hr (by decide) rfl (pa_cons (pv 0) pa_nil)) (pa_cons pe_str pa_nil)) pa_nil)))))
    (pss_cons (ps_set (i := 3) sc_law_many_right.nd rfl (Or.inl rfl) (pe_f c_law_due hr (by decide) rfl (pa_cons (pv 1) pa_nil)))
    (pss_cons (ps_setLc (i := 4) (own := [("one", 5)]) (g := gName 5) (tt := tYes) rfl sc_law_many_right.nd rfl rfl (sw_true rfl rfl rfl (by decide +kernel)) (pi_list (pv 1)) (blkOk_by (N := ["bag", "texts", "k", "due", "heads", "one"]) (sc := L2.defScope s_law_many_right) (by decide +kernel)) (fun _ _ _ _ _ => pg_name (i := 5) sc_law_many_right.nd rfl (Or.inl rfl)) (fun _ _ _ _ _ => pts_nil) (fun _ _ _ _ _ => (pe_tup (pa_cons pe_str (pa_cons (pv 5) pa_nil)))))
    (pss_cons (ps_if (pt_not (pt_val (pe_f c_law_all_same hr (by decide) rfl (pa_cons (pe_f c_law_told hr (by decide) rfl (pa_cons (ClX.pe_cmeth (pe_gc (v := .ref D) rfl ⟨_, WD.m, rfl⟩) DR.rd CR FDR (hr.mono (by decide)) pass0 (pa_cons (pe_make MR FR (hr.mono (by decide)) rfl WR.m bR vR pass0 (pa_cons pe_str (pa_cons (pv 4) pa_nil))) pa_nil)) pa_nil)) (pa_cons (pv 3) pa_nil)))))
      (pss_one (ps_ret pe_bl))
      pss_nil)
    (pss_one (ps_ret (pe_f c_law_all_same hr (by decide) rfl (pa_cons (pe_f c_law_told hr (by decide) rfl (pa_cons (ClX.pe_cmeth (pe_gc (v := .ref D) rfl ⟨_, WD.m, rfl⟩) DQ.rd CQ FDQ (hr.mono (by decide)) pass0 (pa_cons (pe_make MQ FQ (hr.mono (by decide)) rfl WQ.m bQ vQ pass0 (pa_cons pe_str (pa_cons pe_str (pa_cons (pv 4) pa_nil)))) pa_nil)) pa_nil)) (pa_cons (pv 3) pa_nil))))))))))), ?_⟩
    refine rd_takeA (ea_pl rfl) b (by decide) (by decide) fun d H1 d0 d1 b1 k1 => ev_c H1 (Ex.refl H1) _ fun H2 e2 => rv_I0 H2 (Ex.refl H2) _ fun H3 e3 => ⟨_, rfl, ?_⟩
    have e23 := e2.trans e3
    have b3 := b1.ex e23
    have k3 := k1.trans (Keep.of e23)
    dsimp only
    by_cases hd : d > 0
    · rw [if_pos (decide_eq_true hd)]
      exact s_ret ev_c fun H4 e4 => q H4 (b3.ex e4) (k3.trans (Keep.of e4))
    rw [if_neg (by rw [decide_eq_true_eq]; exact hd)]
    refine q_asgL (xs := []) (el_lst ea_nil (by decide)) fun lt H4 nt e4 ht => ?_
    try dsimp only
    have ntp : lt ≠ p := b3.ne nt
    have nt0 : H lt = none := by
      obtain ⟨_, _, _, _, hp, _⟩ := b3
      exact Keep.non k3 hp nt
    refine q_forQ (rd_opR (ev_c H4 (Ex.refl H4) _ fun H5 e5 => rd_takeA (ea_pl rfl) (b3.ex (e4.trans e5)) (by decide) (by decide) fun n H6 n0 n1 b6 k6 => rv_I0 H6 (Ex.refl H6) _ fun H7 e7 => ?_))
    have b7 := b6.ex e7
    have ht7 := e7 _ _ (k6 _ _ ntp (e5 _ _ ht))
    have k7 := ((k3.trans (Keep.of (e4.trans e5))).trans k6).trans (Keep.of e7)
    refine forQ_of ⟨by omega, by omega⟩ (fun i σ' H' => (∃ v, σ' = [some (.ref p), some (.ref lt), v, none, none, none]) ∧ BgA H' p ∧ Keep p H H' ∧ ∃ ts : List Str, H' lt = some (.lst (ts.map V.str)) ∧ ts.length ≤ i ∧ ∀ t ∈ ts, VT 20 t) ⟨⟨none, rfl⟩, b7, k7, [], ht7, Nat.le_refl _, fun t h => nomatch h⟩ (fun i σ' H8 hi pv => ?_) (fun σ' H8 pv => ?_)
    · obtain ⟨⟨v, rfl⟩, b8, k8, ts, hts, hn, hv⟩ := pv
      refine s_appR rfl hts (rd_call (ea_p rfl) fun H9 e9 => ⟨p, rfl, b8.ex e9, fun z HA sz bA kA => ⟨rfl, (ea_cons ev_c ea_nil) HA (Ex.refl HA) _ fun HB eB => ⟨z, " ", rfl, rfl, sz_of (by have := sz.1; omega), ?_⟩⟩⟩)
      have htB := eB _ _ (kA _ _ ntp (e9 _ _ hts))
      refine ⟨lt, _, _, rfl, rfl, htB, sz_lt (by rw [List.length_map]; omega), ⟨_, rfl⟩, (bA.ex eB).upd ntp, (((k8.trans (Keep.of e9)).trans kA).trans (Keep.of eB)).mut nt0, ts ++ [Txt.stripChars z " "], by rw [upd_same, List.map_append]; rfl, by rw [List.length_append]; show ts.length + 1 ≤ i + 1; omega, fun t ht => ?_⟩
      rcases List.mem_append.mp ht with ht | ht
      · exact hv t ht
      · rw [List.mem_singleton.mp ht]; exact vt_strip sz
    · obtain ⟨⟨v, rfl⟩, b8, k8, ts, hts, hn, hv⟩ := pv
      have hn32 : ts.length ≤ 32 := by omega
      refine q_asgR (rd_call (ea_cons (ev_var rfl) ea_nil) fun H9 e9 => ⟨lt, ts, rfl, e9 _ _ hts, by omega, fun t ht => Nat.le_trans (hv t ht).1.1 (by decide), fun du HA nd eA hdu => ?_⟩)
      try dsimp only
      have e9A := e9.trans eA
      refine q_asgR (heads_new (l := lt) (ts := ts) rfl (e9A _ _ hts) (by omega) (fun _ => rfl) (fun _ => rfl) fun hs HB nb eB hhs => ?_)
      try dsimp only
      obtain ⟨k1', k2'⟩ := keeps_ok (ts := ts) (by omega) (fun t ht => (hv t ht).mono (by decide))
      have hdu := eB _ _ hdu
      have bB := b8.ex (e9A.trans eB)
      have kB := k8.trans (Keep.of (e9A.trans eB))
      refine q_when (b := false) (et_is (et_not (et_B (ev_due (ed_is (ed_of (em_rs ev_c (ef_var (ev_var rfl) hhs) List.mem_cons_self k1') k1') (joinO_eq k2')) (ev_var rfl) hdu))) rfl) (fun h => nomatch h) (fun _ HC eC => ?_)
      exact s_ret (v := .bl true) (ev_due (ed_is (ed_of (em_rq ev_c ev_c (ef_var (ev_var rfl) (hhs.ex eC)) ⟨get_in, path_a.1, path_a.2.1, k1'⟩) k1') (joinO_eq k2')) (ev_var rfl) (eC _ _ hdu)) fun HD eD => q HD (bB.ex (eC.trans eD)) (kB.trans (Keep.of (eC.trans eD)))
end
end Z
set_option maxHeartbeats 8000000
namespace Z
open PySem PySem.Spec PyProof.Rows L2 TL Evl NdefX
def spLawA (K : PySem.W.Frag) : Sp := fun vs H Q _ => ∃ (a : Addr) (ns : List Int), vs = [.ref a] ∧ SqL K H a (ns.map V.int) ∧ ns.length ≤ 63 ∧ ∀ H', Q (.bl true) H'
section
variable {p q : Addr} {H H' : Hp} {fs : Fs} {R D : Addr} {v : V} {ps : List Str}
theorem FsAt.nbag (h : FsAt H q fs) (b : BgA H p) : q ≠ p := fun e => by
  obtain ⟨xs, hx, hr⟩ := h
  obtain ⟨c0, c1, c2, cs, hp, _⟩ := b
  rw [e, hp] at hx
  cases hx
  obtain ⟨o, _, t, ht, _⟩ := hr.get (i := 0) (x := .int c0) rfl
  cases ht
theorem FsAt.keepP (h : FsAt H q fs) (k : Keep p H H') (b : BgA H p) : FsAt H' q fs := by
  have n := h.nbag b
  obtain ⟨xs, hx, hr⟩ := h
  obtain ⟨c0, c1, c2, cs, hp, _⟩ := b
  exact ⟨xs, k _ _ n hx, hr.mono fun _ _ m => TupAt.keep m k ⟨_, hp⟩⟩
theorem RsAt.keepP (h : RsAt R H v fs) (k : Keep p H H') (b : BgA H p) : RsAt R H' v fs := by
  obtain ⟨a, dx, l, fl, hb, bb, ex, rfl, ha, hx, hf⟩ := h
  refine ⟨a, dx, l, fl, hb, bb, ex, rfl, k _ _ (fun e => ?_) ha, hx, hf.keepP k b⟩
  obtain ⟨c0, c1, c2, cs, hp, _⟩ := b
  rw [e, hp] at ha
  cases ha
theorem DrAt.keepP (h : DrAt D H v ps) (k : Keep p H H') (b : BgA H p) : DrAt D H' v ps := by
  obtain ⟨a, dx, rfl, ha⟩ := h
  refine ⟨a, dx, rfl, k _ _ (fun e => ?_) ha⟩
  obtain ⟨c0, c1, c2, cs, hp, _⟩ := b
  rw [e, hp] at ha
  cases ha
end
/-- all that the law has made -/
structure LwG (D R R2 p l1 l2 h1 h2 d1 d2 : Addr) (rq rs : V) (ts1 ts2 : List Str) (fs1 fs2 : Fs) (H : Hp) : Prop where
  b : BgA H p
  t1 : H l1 = some (.lst (ts1.map V.str))
  t2 : H l2 = some (.lst (ts2.map V.str))
  f1 : FsAt H h1 fs1
  f2 : FsAt H h2 fs2
  q : RsAt R2 H rq fs1
  s : RsAt R H rs fs2
  u1 : H d1 = some (.lst (toL (ts1.flatMap elems)))
  u2 : H d2 = some (.lst (toL (ts2.flatMap elems)))
theorem LwG.ex {D R R2 p l1 l2 h1 h2 d1 d2 : Addr} {rq rs : V} {ts1 ts2 : List Str} {fs1 fs2 : Fs} {H H' : Hp} (h : LwG D R R2 p l1 l2 h1 h2 d1 d2 rq rs ts1 ts2 fs1 fs2 H) (e : Ex H H') : LwG D R R2 p l1 l2 h1 h2 d1 d2 rq rs ts1 ts2 fs1 fs2 H' :=
  ⟨h.b.ex e, e _ _ h.t1, e _ _ h.t2, h.f1.ex e, h.f2.ex e, h.q.ex e, h.s.ex e, e _ _ h.u1, e _ _ h.u2⟩
theorem joinO_len {ts : List Str} (hn : ts.length ≤ 10) (hv : ∀ t ∈ ts, VT 200 t) : ∀ z, joinO ts = some z → z.length ≤ 10000 := fun z hz => by
  unfold joinO at hz
  split at hz
  · cases hz
  · cases hz
    have h1 := joined_len (ps := ts) (k := 200) fun p hp => (hv p hp).1.1
    have h2 := Nat.mul_le_mul_right 202 hn
    omega
theorem rd_rsp {K : PySem.W.Frag} {R p q st : Addr} {σ : L2.St} {H : Hp} {fs : Fs} {i j : Nat} {E E2 : XK} {t1 : TA} {Q : VK} (h0 : σ[i]? = some (some (.ref st))) (hst : H st = some (.lst (stL.map V.str))) (he : EvA t1 σ H [.ref p, .int 9]) (b : BgA H p) (nl : st ≠ p) (hj : σ[j]? = some (some (.ref q))) (hf : FsAt H q fs) (hok : areB fs = true) (k : ∀ v H', RsAt R H' v fs → BgA H' p → Keep p H H' → Q v H') :
    tMake R (spRs R) [.str ""] E (tCons (tOp (rIxL K) (tVar i) (tCall spTakeA [] E2 t1)) (tCons (tCB (rListS K) (tCons (tVar j) tNil)) tNil)) σ H Q := by
  refine rd_mk (rd_consR (rd_pickL h0 hst (by decide) he b nl rfl (by decide) fun x HE hx bE kE => rd_consR ((ef_list (ev_var hj) (hf.keepP kE b)) HE (Ex.refl HE) _ fun qf HF eF hqF => rd_nil ?_)))
  obtain ⟨sx, hsx, rfl⟩ := List.mem_map.mp hx
  exact ri_rs (vs := [.str sx, .ref qf]) (dvs := [.str ""]) (s := sx) (q := qf) (b := "") rfl hqF ⟨hsx, hok, body0.1, body0.2, .inl rfl⟩ fun rs HG eG hrs => k rs HG hrs ((bE.ex eF).ex eG) ((kE.trans (Keep.of eF)).trans (Keep.of eG))
section
variable {P : Program} {w : World} {K : PySem.W.Frag} {mg : Str → Option Value} {base : Heap} {f D R R2 C : Addr} {fd : FuncData} {k : Nat}
theorem ok_lawA (T : Mg mg) (WD : Wdr K mg D) (WR : Ws K mg R) (WQ : Wq K mg R2) (IR : MkR P w K mg base R) (IQ : MkQ P w K mg base R2) (DR : Doc P w K mg base D R) (DQ : Doc P w K mg base D R2) (RD : Drd P w K mg base D) (c_law_bag : Call P w K mg base 1 "_law_bag" ["script"] (spBagA K)) (c_law_take : CTakeA P w K mg base)
    (c_law_texts : Call P w K mg base 6 "_law_texts" ["bag"] spTexts) (c_law_heads : Call P w K mg base 2 "_law_heads" ["texts", "bag"] spHeads) (c_law_due : Call P w K mg base 3 "_law_due" ["texts"] spDue) (c_law_joined : Call P w K mg base 1 "_law_joined" ["texts"] spJoined)
    (c_law_told : Call P w K mg base 1 "_law_told" ["one"] (spTo D)) (c_law_all_same : Call P w K mg base 2 "_law_all_same" ["got", "due"] spAllS) (c_law_many_right : Call P w K mg base 9 "_law_many_right" ["bag"] spMany) (F : FnP K "law" s_law f fd) : FnOk P w K mg base CX0 10 f fd ["script"] (spLawA K) := by
  obtain ⟨fiR, fdR, dsR, MR, FR, bR, vR⟩ := IR.ex
  obtain ⟨fiQ, fdQ, dsQ, MQ, FQ, bQ, vQ⟩ := IQ.ex
  obtain ⟨poR, foR, CR, FDR⟩ := DR.ex
  obtain ⟨poQ, foQ, CQ, FDQ⟩ := DQ.ex
  obtain ⟨pp, gg, gd, SD, FD, bD⟩ := RD.ex
  refine mkF F sc_law (fun vs H Q E h => ?_) (fun cdv A outer s H vs Q E hr h => ?_)
  · obtain ⟨a, ns, rfl, _⟩ := h
    rfl
  · obtain ⟨a, ns, rfl, hS, hl, qq⟩ := h
    refine ⟨_, (pss_cons (ps_set (i := 1) sc_law.nd rfl (Or.inl rfl) (pe_f c_law_bag hr (by decide) rfl (pa_cons (pv 0) pa_nil)))
    (pss_cons (ps_set (i := 2) sc_law.nd rfl (Or.inl rfl) (pe_f c_law_texts hr (by decide) rfl (pa_cons (pv 1) pa_nil)))
    (pss_cons (ps_set (i := 3) sc_law.nd rfl (Or.inl rfl) (pe_f c_law_texts hr (by decide) rfl (pa_cons (pv 1) pa_nil)))
    (pss_cons (ps_set (i := 4) sc_law.nd rfl (Or.inl rfl) (pe_f c_law_heads hr (by decide) rfl (pa_cons (pv 2) (pa_cons (pv 1) pa_nil))))
    (pss_cons (ps_set (i := 5) sc_law.nd rfl (Or.inl rfl) (pe_f c_law_heads hr (by decide) rfl (pa_cons (pv 3) (pa_cons (pv 1) pa_nil))))
    (pss_cons (ps_set (i := 6) sc_law.nd rfl (Or.inl rfl) (pe_ix ix_list (pe_lst (pa_cons pe_str (pa_cons pe_str (pa_cons pe_str pa_nil)))) (pe_f c_law_take hr (by decide) rfl (pa_cons (pv 1) (pa_cons pe_int pa_nil))) (fun _ _ => rfl)))
    (pss_cons (ps_set (i := 7) sc_law.nd rfl (Or.inl rfl) (pe_lst (pa_cons pe_str (pa_cons pe_str (pa_cons pe_str (pa_cons pe_str (pa_cons pe_str (pa_cons pe_str (pa_cons pe_str (pa_cons pe_str (pa_cons pe_str pa_nil)))))))))))
    (pss_cons (ps_set (i := 8) sc_law.nd rfl (Or.inl rfl) (pe_make MQ FQ (hr.mono (by decide)) rfl WQ.m bQ vQ pass0 (pa_cons (pv 6) (pa_cons pe_str (pa_cons (pe_callTy call_list_of (by rfl) T.list (by decide +kernel) (pa_cons (pv 4) pa_nil)) pa_nil)))))
    (pss_cons (ps_set (i := 9) sc_law.nd rfl (Or.inl rfl) (pe_make MR FR (hr.mono (by decide)) rfl WR.m bR vR pass0 (pa_cons (pe_ix ix_list (pv 7) (pe_f c_law_take hr (by decide) rfl (pa_cons (pv 1) (pa_cons pe_int pa_nil))) (fun _ _ => rfl)) (pa_cons (pe_callTy call_list_of (by rfl) T.list (by decide +kernel) (pa_cons (pv 5) pa_nil)) pa_nil))))
    (pss_cons (ps_set (i := 10) sc_law.nd rfl (Or.inl rfl) (pe_f c_law_due hr (by decide) rfl (pa_cons (pv 2) pa_nil)))
    (pss_cons (ps_set (i := 11) sc_law.nd rfl (Or.inl rfl) (pe_f c_law_due hr (by decide) rfl (pa_cons (pv 3) pa_nil)))
    (pss_cons (ps_set (i := 12) sc_law.nd rfl (Or.inl rfl) (ZX.pe_statS (E := fun _ => E0) (pe_gc (v := .ref D) rfl ⟨_, WD.m, rfl⟩) SD FD bD (hr.mono (by decide)) (fun σ pins H s e s' I c => pass0 pins σ H s e s' I c) (pa_cons (pe_f c_law_joined hr (by decide) rfl (pa_cons (pv 2) pa_nil)) pa_nil)))
    (pss_cons (ps_if (pt_not (pt_val (pe_f c_law_all_same hr (by decide) rfl (pa_cons (pe_f c_law_told hr (by decide) rfl (pa_cons (pv 12) pa_nil)) (pa_cons (pv 10) pa_nil)))))
      (pss_one (ps_ret pe_bl))
      pss_nil)
    (pss_cons (ps_set (i := 13) sc_law.nd rfl (Or.inl rfl) (ZX.pe_statS (E := fun _ => E0) (pe_gc (v := .ref D) rfl ⟨_, WD.m, rfl⟩) SD FD bD (hr.mono (by decide)) (fun σ pins H s e s' I c => pass0 pins σ H s e s' I c) (pa_cons (pe_f c_law_joined hr (by decide) rfl (pa_cons (pv 3) pa_nil)) pa_nil)))
    (pss_cons (ps_if (pt_not (pt_val (pe_f c_law_all_same hr (by decide) rfl (pa_cons (pe_f c_law_told hr (by decide) rfl (pa_cons (pv 13) pa_nil)) (pa_cons (pv 11) pa_nil)))))
      (pss_one (ps_ret pe_bl))
      pss_nil)
    (pss_cons (ps_if (pt_not (pt_val (pe_f c_law_all_same hr (by decide) rfl (pa_cons (pe_f c_law_told hr (by decide) rfl (pa_cons (ClX.pe_cmeth (pe_gc (v := .ref D) rfl ⟨_, WD.m, rfl⟩) DQ.rd CQ FDQ (hr.mono (by decide)) pass0 (pa_cons (pv 8) pa_nil)) pa_nil)) (pa_cons (pv 10) pa_nil)))))
      (pss_one (ps_ret pe_bl))
      pss_nil)
    (pss_cons (ps_if (pt_not (pt_val (pe_f c_law_all_same hr (by decide) rfl (pa_cons (pe_f c_law_told hr (by decide) rfl (pa_cons (ClX.pe_cmeth (pe_gc (v := .ref D) rfl ⟨_, WD.m, rfl⟩) DR.rd CR FDR (hr.mono (by decide)) pass0 (pa_cons (pv 9) pa_nil)) pa_nil)) (pa_cons (pv 11) pa_nil)))))
      (pss_one (ps_ret pe_bl))
      pss_nil)
    (pss_cons (ps_if (pt_not (pt_val (pe_f c_law_all_same hr (by decide) rfl (pa_cons (pe_f c_law_told hr (by decide) rfl (pa_cons (ClX.pe_cmeth (pe_gc (v := .ref D) rfl ⟨_, WD.m, rfl⟩) DQ.rd CQ FDQ (hr.mono (by decide)) pass0 (pa_cons (pe_make MQ FQ (hr.mono (by decide)) rfl WQ.m bQ vQ pass0 (pa_cons pe_str (pa_cons pe_str (pa_cons (pe_callTy call_list_of (by rfl) T.list (by decide +kernel) (pa_cons (pv 5) pa_nil)) pa_nil)))) pa_nil)) pa_nil)) (pa_cons (pv 11) pa_nil)))))
      (pss_one (ps_ret pe_bl))
      pss_nil)
    (pss_cons (ps_if (pt_not (pt_val (pe_f c_law_all_same hr (by decide) rfl (pa_cons (pe_f c_law_told hr (by decide) rfl (pa_cons (ClX.pe_cmeth (pe_gc (v := .ref D) rfl ⟨_, WD.m, rfl⟩) DR.rd CR FDR (hr.mono (by decide)) pass0 (pa_cons (pe_make MR FR (hr.mono (by decide)) rfl WR.m bR vR pass0 (pa_cons pe_str (pa_cons (pe_callTy call_list_of (by rfl) T.list (by decide +kernel) (pa_cons (pv 4) pa_nil)) pa_nil))) pa_nil)) pa_nil)) (pa_cons (pv 10) pa_nil)))))
      (pss_one (ps_ret pe_bl))
      pss_nil)
    (pss_cons (ps_if (pt_not (pt_val (pe_f c_law_all_same hr (by decide) rfl (pa_cons (pe_f c_law_told hr (by decide) rfl (pa_cons (ZX.pe_statS (E := fun _ => E0) (pe_gc (v := .ref D) rfl ⟨_, WD.m, rfl⟩) SD FD bD (hr.mono (by decide)) (fun σ pins H s e s' I c => pass0 pins σ H s e s' I c) (pa_cons (pe_f c_law_joined hr (by decide) rfl (pa_cons (pv 2) pa_nil)) pa_nil)) pa_nil)) (pa_cons (pv 10) pa_nil)))))
      (pss_one (ps_ret pe_bl))
      pss_nil)
    (pss_cons (ps_if (PW.pt (pw_or (pt_cmpR (op_neD hr.units) (pe_fld (pv 8) rfl) (pv 4) (nomark _)) (pw_or1 (pt_cmpR (op_neD hr.units) (pe_fld (pv 9) rfl) (pv 5) (nomark _)))))
      (pss_one (ps_ret pe_bl))
      pss_nil)
    (pss_cons (ps_if (pt_not (pt_val (pe_f c_law_many_right hr (by decide) rfl (pa_cons (pv 1) pa_nil))))
      (pss_one (ps_ret pe_bl))
      pss_nil)
    (pss_one (ps_ret (pe_and (pe_f c_law_all_same hr (by decide) rfl (pa_cons (pe_f c_law_told hr (by decide) rfl (pa_cons (pv 12) pa_nil)) (pa_cons (pv 10) pa_nil))) (pe_one (pe_f c_law_all_same hr (by decide) rfl (pa_cons (pe_f c_law_told hr (by decide) rfl (pa_cons (pv 13) pa_nil)) (pa_cons (pv 11) pa_nil))))))))))))))))))))))))))))), ?_⟩
    refine q_asgR (rd_call (ea_cons (ev_var rfl) ea_nil) fun H1 e1 => ⟨a, ns, rfl, ex_l e1 hS, hl, fun p H2 np e2 b2 => ?_⟩)
    try dsimp only
    clear hS e1 e2 np
    refine q_asgR (rd_call (ea_p rfl) fun H3 e3 => ⟨p, rfl, b2.ex e3, fun l1 ts1 H4 n1 t1 c1 v1 b4 _ => ?_⟩)
    try dsimp only
    refine q_asgR (rd_call (ea_p rfl) fun H5 e5 => ⟨p, rfl, b4.ex e5, fun l2 ts2 H6 n2 t2 c2 v2 b6 k6 => ?_⟩)
    try dsimp only
    have t1 := k6 _ _ n1 (e5 _ _ t1)
    clear b2 b4 k6 e3 e5
    refine q_asgR (rd_call (ea_cons (ev_var rfl) (ea_cons (ev_var rfl) ea_nil)) fun H7 e7 => ⟨l1, p, ts1, rfl, n1, b6.ex e7, e7 _ _ t1, c1, v1, fun h1 fs1 H8 m1 f1 o1 w1 b8 k8 => ?_⟩)
    try dsimp only
    have t1 := k8 _ _ n1 (e7 _ _ t1)
    have t2 := k8 _ _ n2 (e7 _ _ t2)
    clear b6 k8 e7
    refine q_asgR (rd_call (ea_cons (ev_var rfl) (ea_cons (ev_var rfl) ea_nil)) fun H9 e9 => ⟨l2, p, ts2, rfl, n2, b8.ex e9, e9 _ _ t2, c2, v2, fun h2 fs2 HA m2 f2 o2 w2 bA kA => ?_⟩)
    try dsimp only
    have t1 := kA _ _ n1 (e9 _ _ t1)
    have t2 := kA _ _ n2 (e9 _ _ t2)
    have f1 := (f1.ex e9).keepP kA (b8.ex e9)
    clear b8 kA e9
    refine q_st (σ' := [some (.ref a), some (.ref p), some (.ref l1), some (.ref l2), some (.ref h1), some (.ref h2), none, none, none, none, none, none, none, none]) rfl ?_
    refine q_asgR (rd_pickN (xs := mdL.map V.str) (ea_cons ev_c (ea_cons ev_c (ea_cons ev_c ea_nil))) (by decide) (fun _ _ => ea_pl rfl) bA rfl (by decide) fun x HB hx bB kB => ?_)
    obtain ⟨vb, hvb, rfl⟩ := List.mem_map.mp hx
    try dsimp only
    have t1 := kB _ _ n1 t1
    have t2 := kB _ _ n2 t2
    have f1 := f1.keepP kB bA
    have f2 := f2.keepP kB bA
    clear bA kB hx
    refine q_asgL (xs := stL.map V.str) (el_lst (ea_cons ev_c (ea_cons ev_c (ea_cons ev_c (ea_cons ev_c (ea_cons ev_c (ea_cons ev_c (ea_cons ev_c (ea_cons ev_c (ea_cons ev_c ea_nil))))))))) (by show 9 ≤ 100000; decide)) fun st HC nst eC hst => ?_
    try dsimp only
    have nstp := bB.ne nst
    refine q_asgR ((em_rq (ev_var rfl) ev_c (ef_list (ev_var rfl) (f1.ex eC)) ⟨hvb, path_a.1, path_a.2.1, o1⟩) HC (Ex.refl HC) _ fun rq HD eD hq => ?_)
    try dsimp only
    have eCD := eC.trans eD
    have bD0 := bB.ex eCD
    refine q_asgR (rd_rsp rfl (eD _ _ hst) (ea_pl rfl) bD0 nstp rfl (f2.ex eCD) o2 fun rs HG hrs bG kE => ?_)
    try dsimp only
    refine q_st (σ' := [some (.ref a), some (.ref p), some (.ref l1), some (.ref l2), some (.ref h1), some (.ref h2), some (.str vb), some (.ref st), some rq, some rs, none, none, none, none]) rfl ?_
    have t1 := kE _ _ n1 (eCD _ _ t1)
    have t2 := kE _ _ n2 (eCD _ _ t2)
    have f1 := (f1.ex eCD).keepP kE bD0
    have f2 := (f2.ex eCD).keepP kE bD0
    have hq := hq.keepP kE bD0
    clear eC eD eCD bD0 hst kE bB nst
    refine q_asgR (rd_call (ea_cons (ev_var rfl) ea_nil) fun H9 e9 => ⟨l1, ts1, rfl, e9 _ _ t1, by omega, fun t ht => (v1 t ht).1.1, fun d1 HA nd1 eA hd1 => ?_⟩)
    try dsimp only
    have e := e9.trans eA
    have nd1p := (bG.ex e9).ne nd1
    have t1 := e _ _ t1
    have t2 := e _ _ t2
    have f1 := f1.ex e
    have f2 := f2.ex e
    have hq := hq.ex e
    have hrs := hrs.ex e
    have bG := bG.ex e
    clear e e9 eA nd1
    refine q_asgR (rd_call (ea_cons (ev_var rfl) ea_nil) fun H9 e9 => ⟨l2, ts2, rfl, e9 _ _ t2, by omega, fun t ht => (v2 t ht).1.1, fun d2 HA nd2 eA hd2 => ?_⟩)
    try dsimp only
    have e := e9.trans eA
    have nd2p := (bG.ex e9).ne nd2
    have G0 : LwG D R R2 p l1 l2 h1 h2 d1 d2 rq rs ts1 ts2 fs1 fs2 HA := ⟨bG.ex e, e _ _ t1, e _ _ t2, f1.ex e, f2.ex e, hq.ex e, hrs.ex e, e _ _ hd1, hd2⟩
    clear e e9 eA nd2 t1 t2 f1 f2 hq hrs bG hd1 hd2
    refine q_st (σ' := [some (.ref a), some (.ref p), some (.ref l1), some (.ref l2), some (.ref h1), some (.ref h2), some (.str vb), some (.ref st), some rq, some rs, some (.ref d1), some (.ref d2), none, none]) rfl ?_
    have rd : ∀ {σ : L2.St} {H : Hp} {i : Nat} {l : Addr} {ts : List Str}, H l = some (.lst (ts.map V.str)) → ts.length ≤ 10 → (∀ t ∈ ts, VT 200 t) → σ[i]? = some (some (.ref l)) → EvDr D (ZX.tStatS D (spDr D) (fun _ => E0) (tC (.ref D)) (tCons (tCall spJoined [] E0 (tCons (tVar i) tNil)) tNil)) σ H (ts.flatMap elems) := fun {σ H i l ts} ht hn hv h0 => ed_is (ed_read (ev_call (z := oS (joinO ts)) (ea_cons (ev_var h0) ea_nil) fun H1 e1 Q' q' E' => ⟨l, ts, rfl, e1 _ _ ht, by omega, hv, q'⟩) (joinO_len hn hv)) (elO_joinO ts)
    have te : ∀ {te : TE} {σ : L2.St} {H : Hp} {j : Nat} {b : Addr} {ps : List Str}, EvDr D te σ H ps → H b = some (.lst (toL ps)) → σ[j]? = some (some (.ref b)) → EvT (tNot (tB (tCall spAllS [] E0 (tCons (tCall (spTo D) [] E0 (tCons te tNil)) (tCons (tVar j) tNil))))) σ H false := fun h hb hj => et_is (et_not (et_B (ev_due h (ev_var hj) hb))) rfl
    refine q_asgR ((rd G0.t1 c1 v1 rfl) HA (Ex.refl HA) _ fun x1 H1 e1 dr1 => ?_)
    try dsimp only
    have G1 := G0.ex e1
    refine q_st (σ' := [some (.ref a), some (.ref p), some (.ref l1), some (.ref l2), some (.ref h1), some (.ref h2), some (.str vb), some (.ref st), some rq, some rs, some (.ref d1), some (.ref d2), some x1, none]) rfl ?_
    refine q_when (b := false) (te (ed_var (ev_var rfl) dr1) G1.u1 rfl) (fun h => nomatch h) (fun _ H2 e2 => ?_)
    have G2 := G1.ex e2
    have dr1 := dr1.ex e2
    clear G0 G1 e1 e2
    refine q_asgR ((rd G2.t2 c2 v2 rfl) H2 (Ex.refl H2) _ fun x2 H3 e3 dr2 => ?_)
    try dsimp only
    have G3 := G2.ex e3
    have dr1 := dr1.ex e3
    refine q_st (σ' := [some (.ref a), some (.ref p), some (.ref l1), some (.ref l2), some (.ref h1), some (.ref h2), some (.str vb), some (.ref st), some rq, some rs, some (.ref d1), some (.ref d2), some x1, some x2]) rfl ?_
    refine q_when (b := false) (te (ed_var (ev_var rfl) dr2) G3.u2 rfl) (fun h => nomatch h) (fun _ H4 e4 => ?_)
    have G4 := G3.ex e4
    have dr1 := dr1.ex e4
    have dr2 := dr2.ex e4
    clear G2 G3 e3 e4
    refine q_when (b := false) (te (ed_is (ed_of (em_var (ev_var rfl) G4.q) o1) (joinO_eq w1)) G4.u1 rfl) (fun h => nomatch h) (fun _ H5 e5 => ?_)
    have G5 := G4.ex e5
    refine q_when (b := false) (te (ed_is (ed_of (em_var (ev_var rfl) G5.s) o2) (joinO_eq w2)) G5.u2 rfl) (fun h => nomatch h) (fun _ H6 e6 => ?_)
    have G6 := G5.ex e6
    refine q_when (b := false) (te (ed_is (ed_of (em_rq ev_c ev_c (ef_list (ev_var rfl) G6.f2) ⟨get_in, path_a.2.2.1, path_a.2.2.2, o2⟩) o2) (joinO_eq w2)) G6.u2 rfl) (fun h => nomatch h) (fun _ H7 e7 => ?_)
    have G7 := G6.ex e7
    refine q_when (b := false) (te (ed_is (ed_of (em_rs ev_c (ef_list (ev_var rfl) G7.f1) List.mem_cons_self o1) o1) (joinO_eq w1)) G7.u1 rfl) (fun h => nomatch h) (fun _ H8 e8 => ?_)
    have G8 := G7.ex e8
    refine q_when (b := false) (te (rd G8.t1 c1 v1 rfl) G8.u1 rfl) (fun h => nomatch h) (fun _ H9 e9 => ?_)
    have G9 := G8.ex e9
    have dr1 := dr1.ex ((((e5.trans e6).trans e7).trans e8).trans e9)
    have dr2 := dr2.ex ((((e5.trans e6).trans e7).trans e8).trans e9)
    clear G4 G5 G6 G7 G8 e5 e6 e7 e8 e9
    have fl : ∀ {σ : L2.St} {H : Hp} {i j : Nat} {v : V} {q C : Addr} {fs : Fs}, Cls K C → NoAttr K C "fields" → RsAt C H v fs → FsAt H q fs → areB fs = true → σ[i]? = some (some v) → σ[j]? = some (some (.ref q)) → EvT (tTest (tOp (rNeD K) (tFld K (tVar i) "fields") (tVar j))) σ H false := fun {σ H i j v q C fs} hc hn hv hq ho h0 h1 => by
      obtain ⟨a, dx, l, fl, hb, bb, ex, rfl, ha, hx, hf⟩ := hv
      exact et_is (et_test (ev_op (ev_fldO hc hn (ev_var h0) ha ms_fields) (ev_var h1) (rv_neF hf hq (areB_ok ho) (areB_ok ho)))) (by rw [decide_eq_true rfl]; rfl)
    refine q_when (b := false) (et_is (et_or (fl WQ.wm.cls WQ.wm.n3 G9.q G9.f1 o1 rfl rfl) fun _ => fl WR.cls WR.n3 G9.s G9.f2 o2 rfl rfl) rfl) (fun h => nomatch h) (fun _ HB eB => ?_)
    have GB := G9.ex eB
    have dr1 := dr1.ex eB
    have dr2 := dr2.ex eB
    refine rd_call (ea_p rfl) fun HC eC => ⟨p, rfl, GB.b.ex eC, fun HD bDD kD => ⟨true, rfl, ?_⟩⟩
    have GC := GB.ex eC
    have dr1 := (dr1.ex eC).keepP kD GC.b
    have dr2 := (dr2.ex eC).keepP kD GC.b
    have u1 := kD _ _ nd1p GC.u1
    have u2 := kD _ _ nd2p GC.u2
    refine s_ret (v := .bl true) (ev_andV (a := true) (b := true) (ev_due (ed_var (ev_var rfl) dr1) (ev_var rfl) u1) fun _ => ev_due (ed_var (ev_var rfl) dr2) (ev_var rfl) u2) fun HE _ => qq HE
end
end Z
set_option maxHeartbeats 2000000
namespace ZX
open PySem PySem.Spec PyProof.Rows L2 He
/-! ### the Hook, what is looked at often standing first -/
end ZX
set_option maxHeartbeats 2000000
namespace ZX
open PySem PySem.Spec PyProof.Rows L2 He
/-! ### the run looked at in parts: what one look makes the kernel hold is let go before the next -/
end ZX
set_option maxHeartbeats 0
namespace Z
open PySem PySem.Spec PyProof.Rows L2
theorem rawO {P : Program} {w : World} {K : PySem.W.Frag} {mg : Str → Option Value} {base : Heap} {D R f : Addr} (h : FnR P w K mg base CX0 8 f (fun vs H Q E => spDo D R (vs ++ []) H Q E)) : FnR P w K mg base CX0 8 f (spDo D R) := by
  have e : (fun vs H Q E => spDo D R (vs ++ []) H Q E) = spDo D R := by
    funext vs H Q E
    rw [List.append_nil]
  rw [e] at h
  exact h
theorem facts {P : Program} {w : World} {K : PySem.W.Frag} {h : Heap} {mg : Str → Option Value} {f : Addr} (X : K.In h) (G : h.Ns mainGlobals mg) (hfa : mg ("law" : Str) = some (.ref f)) (c : ZX.SaysA fas exK fns K) :
    ∃ fd : FuncData, (∀ (s : Shared) (v : Value), BindsTo s fd ⟨[v], []⟩ [("script", v)]) ∧ ∀ base : Heap, K.In base → base.Ns mainGlobals mg → FnOk P w K mg base CX0 10 f fd ["script"] (spLawA K) := by
  have x := c.more
  obtain ⟨fd0, F0⟩ := ZX.DefA.funD (c.def_ 0 (d := d_wall) rfl).1 (c.def_ 0 (d := d_wall) rfl).2 rfl
  obtain ⟨fd1, F1⟩ := ZX.DefA.funD (c.def_ 1 (d := d_consists_of) rfl).1 (c.def_ 1 (d := d_consists_of) rfl).2 rfl
  obtain ⟨fd2, F2⟩ := ZX.DefA.funD (c.def_ 2 (d := d_is_plain) rfl).1 (c.def_ 2 (d := d_is_plain) rfl).2 rfl
  obtain ⟨fd3, F3⟩ := ZX.DefA.funD (c.def_ 3 (d := d_is_plain_lines) rfl).1 (c.def_ 3 (d := d_is_plain_lines) rfl).2 rfl
  obtain ⟨fd4, F4⟩ := ZX.DefA.funD (c.def_ 4 (d := d_is_path) rfl).1 (c.def_ 4 (d := d_is_path) rfl).2 rfl
  obtain ⟨fd5, F5⟩ := ZX.DefA.funD (c.def_ 5 (d := d_is_word) rfl).1 (c.def_ 5 (d := d_is_word) rfl).2 rfl
  obtain ⟨fd6, F6⟩ := ZX.DefA.funD (c.def_ 6 (d := d_is_field_name) rfl).1 (c.def_ 6 (d := d_is_field_name) rfl).2 rfl
  obtain ⟨fd7, F7⟩ := ZX.DefA.funD (c.def_ 7 (d := d_is_value) rfl).1 (c.def_ 7 (d := d_is_value) rfl).2 rfl
  obtain ⟨fd8, F8⟩ := ZX.DefA.funD (c.def_ 8 (d := d_list_elements) rfl).1 (c.def_ 8 (d := d_list_elements) rfl).2 rfl
  obtain ⟨fd9, F9⟩ := ZX.DefA.funD (c.def_ 9 (d := d_read_number) rfl).1 (c.def_ 9 (d := d_read_number) rfl).2 rfl
  obtain ⟨fd10, F10⟩ := ZX.DefA.funD (c.def_ 10 (d := d_least_number) rfl).1 (c.def_ 10 (d := d_least_number) rfl).2 rfl
  obtain ⟨fd11, F11⟩ := ZX.DefA.funD (c.def_ 11 (d := d_least_lifetime) rfl).1 (c.def_ 11 (d := d_least_lifetime) rfl).2 rfl
  obtain ⟨fd12, F12⟩ := ZX.DefA.funD (c.def_ 12 (d := d_is_without_number) rfl).1 (c.def_ 12 (d := d_is_without_number) rfl).2 rfl
  obtain ⟨fd13, F13⟩ := ZX.DefA.funD (c.def_ 13 (d := d_are_fields) rfl).1 (c.def_ 13 (d := d_are_fields) rfl).2 rfl
  obtain ⟨fd14, F14⟩ := ZX.DefA.funD (c.def_ 14 (d := d_is_body) rfl).1 (c.def_ 14 (d := d_is_body) rfl).2 rfl
  obtain ⟨fd15, F15⟩ := ZX.DefA.funD (c.def_ 15 (d := d_law_bag) rfl).1 (c.def_ 15 (d := d_law_bag) rfl).2 rfl
  obtain ⟨fd16, F16⟩ := ZX.DefA.funD (c.def_ 16 (d := d_law_take) rfl).1 (c.def_ 16 (d := d_law_take) rfl).2 rfl
  obtain ⟨fd17, F17⟩ := ZX.DefA.funD (c.def_ 17 (d := d_law_number) rfl).1 (c.def_ 17 (d := d_law_number) rfl).2 rfl
  obtain ⟨fd18, F18⟩ := ZX.DefA.funD (c.def_ 18 (d := d_law_plain) rfl).1 (c.def_ 18 (d := d_law_plain) rfl).2 rfl
  obtain ⟨fd19, F19⟩ := ZX.DefA.funD (c.def_ 19 (d := d_law_odd) rfl).1 (c.def_ 19 (d := d_law_odd) rfl).2 rfl
  obtain ⟨fd20, F20⟩ := ZX.DefA.funD (c.def_ 20 (d := d_law_near) rfl).1 (c.def_ 20 (d := d_law_near) rfl).2 rfl
  obtain ⟨fd21, F21⟩ := ZX.DefA.funD (c.def_ 21 (d := d_law_element) rfl).1 (c.def_ 21 (d := d_law_element) rfl).2 rfl
  obtain ⟨fd22, F22⟩ := ZX.DefA.funD (c.def_ 22 (d := d_law_padded) rfl).1 (c.def_ 22 (d := d_law_padded) rfl).2 rfl
  obtain ⟨fd23, F23⟩ := ZX.DefA.funD (c.def_ 23 (d := d_law_spoil) rfl).1 (c.def_ 23 (d := d_law_spoil) rfl).2 rfl
  obtain ⟨fd24, F24⟩ := ZX.DefA.funD (c.def_ 24 (d := d_law_texts) rfl).1 (c.def_ 24 (d := d_law_texts) rfl).2 rfl
  obtain ⟨fd25, F25⟩ := ZX.DefA.funD (c.def_ 25 (d := d_law_heads) rfl).1 (c.def_ 25 (d := d_law_heads) rfl).2 rfl
  obtain ⟨fd26, F26⟩ := ZX.DefA.funD (c.def_ 26 (d := d_law_joined) rfl).1 (c.def_ 26 (d := d_law_joined) rfl).2 rfl
  obtain ⟨fd27, F27⟩ := ZX.DefA.funD (c.def_ 27 (d := d_law_digits) rfl).1 (c.def_ 27 (d := d_law_digits) rfl).2 rfl
  obtain ⟨fd28, F28⟩ := ZX.DefA.funD (c.def_ 28 (d := d_law_least) rfl).1 (c.def_ 28 (d := d_law_least) rfl).2 rfl
  obtain ⟨fd29, F29⟩ := ZX.DefA.funD (c.def_ 29 (d := d_law_due) rfl).1 (c.def_ 29 (d := d_law_due) rfl).2 rfl
  obtain ⟨fd30, F30⟩ := ZX.DefA.funD (c.def_ 30 (d := d_law_told) rfl).1 (c.def_ 30 (d := d_law_told) rfl).2 rfl
  obtain ⟨fd31, F31⟩ := ZX.DefA.funD (c.def_ 31 (d := d_law_same) rfl).1 (c.def_ 31 (d := d_law_same) rfl).2 rfl
  obtain ⟨fd32, F32⟩ := ZX.DefA.funD (c.def_ 32 (d := d_law_all_same) rfl).1 (c.def_ 32 (d := d_law_all_same) rfl).2 rfl
  obtain ⟨fd33, F33⟩ := ZX.DefA.funD (c.def_ 33 (d := d_law_many_right) rfl).1 (c.def_ 33 (d := d_law_many_right) rfl).2 rfl
  obtain ⟨fd34, F34⟩ := ZX.DefA.funD (c.def_ 34 (d := d_law) rfl).1 (c.def_ 34 (d := d_law) rfl).2 rfl
  obtain ⟨fd_Mi, F_Mi⟩ := ZX.DefA.funD (c.def_ 35 (d := d_Mi) rfl).1 (c.def_ 35 (d := d_Mi) rfl).2 rfl
  obtain ⟨fd_Mv, F_Mv⟩ := ZX.DefA.funD (c.def_ 36 (d := d_Mv) rfl).1 (c.def_ 36 (d := d_Mv) rfl).2 rfl
  obtain ⟨fd_Mj, F_Mj⟩ := ZX.DefA.funD (c.def_ 37 (d := d_Mj) rfl).1 (c.def_ 37 (d := d_Mj) rfl).2 rfl
  obtain ⟨fd_Qv, F_Qv⟩ := ZX.DefA.funD (c.def_ 38 (d := d_Qv) rfl).1 (c.def_ 38 (d := d_Qv) rfl).2 rfl
  obtain ⟨fd_Qj, F_Qj⟩ := ZX.DefA.funD (c.def_ 39 (d := d_Qj) rfl).1 (c.def_ 39 (d := d_Qj) rfl).2 rfl
  obtain ⟨fd_Rs, F_Rs⟩ := ZX.DefA.funD (c.def_ 40 (d := d_Rs) rfl).1 (c.def_ 40 (d := d_Rs) rfl).2 rfl
  obtain ⟨fd_Rq, F_Rq⟩ := ZX.DefA.funD (c.def_ 41 (d := d_Rq) rfl).1 (c.def_ 41 (d := d_Rq) rfl).2 rfl
  obtain ⟨fd_Di, F_Di⟩ := ZX.DefA.funD (c.def_ 42 (d := d_Di) rfl).1 (c.def_ 42 (d := d_Di) rfl).2 rfl
  obtain ⟨fd_Dr, F_Dr⟩ := ZX.DefA.funD (c.def_ 43 (d := d_Dr) rfl).1 (c.def_ 43 (d := d_Dr) rfl).2 rfl
  obtain ⟨fd_Do, F_Do⟩ := ZX.DefA.funD (c.def_ 44 (d := d_Do) rfl).1 (c.def_ 44 (d := d_Do) rfl).2 rfl
  have g0 := He.glo_ok X G (c.fact 0 (f := .glo "_wall") rfl)
  have g1 := He.glo_ok X G (c.fact 1 (f := .glo "consists_of") rfl)
  have g2 := He.glo_ok X G (c.fact 2 (f := .glo "is_plain") rfl)
  have g3 := He.glo_ok X G (c.fact 3 (f := .glo "is_plain_lines") rfl)
  have g4 := He.glo_ok X G (c.fact 4 (f := .glo "is_path") rfl)
  have g5 := He.glo_ok X G (c.fact 5 (f := .glo "is_word") rfl)
  have g6 := He.glo_ok X G (c.fact 6 (f := .glo "is_field_name") rfl)
  have g7 := He.glo_ok X G (c.fact 7 (f := .glo "is_value") rfl)
  have g8 := He.glo_ok X G (c.fact 8 (f := .glo "list_elements") rfl)
  have g9 := He.glo_ok X G (c.fact 9 (f := .glo "read_number") rfl)
  have g10 := He.glo_ok X G (c.fact 10 (f := .glo "least_number") rfl)
  have g11 := He.glo_ok X G (c.fact 11 (f := .glo "least_lifetime") rfl)
  have g12 := He.glo_ok X G (c.fact 12 (f := .glo "is_without_number") rfl)
  have g13 := He.glo_ok X G (c.fact 13 (f := .glo "are_fields") rfl)
  have g14 := He.glo_ok X G (c.fact 14 (f := .glo "is_body") rfl)
  have g15 := He.glo_ok X G (c.fact 15 (f := .glo "_law_bag") rfl)
  have g16 := He.glo_ok X G (c.fact 16 (f := .glo "_law_take") rfl)
  have g17 := He.glo_ok X G (c.fact 17 (f := .glo "_law_number") rfl)
  have g18 := He.glo_ok X G (c.fact 18 (f := .glo "_law_plain") rfl)
  have g19 := He.glo_ok X G (c.fact 19 (f := .glo "_law_odd") rfl)
  have g20 := He.glo_ok X G (c.fact 20 (f := .glo "_law_near") rfl)
  have g21 := He.glo_ok X G (c.fact 21 (f := .glo "_law_element") rfl)
  have g22 := He.glo_ok X G (c.fact 22 (f := .glo "_law_padded") rfl)
  have g23 := He.glo_ok X G (c.fact 23 (f := .glo "_law_spoil") rfl)
  have g24 := He.glo_ok X G (c.fact 24 (f := .glo "_law_texts") rfl)
  have g25 := He.glo_ok X G (c.fact 25 (f := .glo "_law_heads") rfl)
  have g26 := He.glo_ok X G (c.fact 26 (f := .glo "_law_joined") rfl)
  have g27 := He.glo_ok X G (c.fact 27 (f := .glo "_law_digits") rfl)
  have g28 := He.glo_ok X G (c.fact 28 (f := .glo "_law_least") rfl)
  have g29 := He.glo_ok X G (c.fact 29 (f := .glo "_law_due") rfl)
  have g30 := He.glo_ok X G (c.fact 30 (f := .glo "_law_told") rfl)
  have g31 := He.glo_ok X G (c.fact 31 (f := .glo "_law_same") rfl)
  have g32 := He.glo_ok X G (c.fact 32 (f := .glo "_law_all_same") rfl)
  have g33 := He.glo_ok X G (c.fact 33 (f := .glo "_law_many_right") rfl)
  have g34 := He.glo_ok X G (c.fact 34 (f := .glo "law") rfl)
  have g35 := He.glo_ok X G (c.fact 35 (f := .glo "Directives") rfl)
  have g36 := He.glo_ok X G (c.fact 36 (f := .glo "Message") rfl)
  have g37 := He.glo_ok X G (c.fact 37 (f := .glo "Response") rfl)
  have g38 := He.glo_ok X G (c.fact 38 (f := .glo "Request") rfl)
  have T : Mg mg := ⟨He.free_ok X G (c.fact 39 (f := .free "len") rfl),
    He.free_ok X G (c.fact 40 (f := .free "all") rfl),
    He.free_ok X G (c.fact 41 (f := .free "any") rfl),
    He.free_ok X G (c.fact 42 (f := .free "abs") rfl),
    He.free_ok X G (c.fact 43 (f := .free "sum") rfl),
    He.free_ok X G (c.fact 44 (f := .free "isinstance") rfl),
    He.free_ok X G (c.fact 45 (f := .free "range") rfl),
    He.free_ok X G (c.fact 46 (f := .free "int") rfl),
    He.free_ok X G (c.fact 47 (f := .free "bool") rfl),
    He.free_ok X G (c.fact 48 (f := .free "str") rfl),
    He.free_ok X G (c.fact 49 (f := .free "min") rfl),
    He.free_ok X G (c.fact 50 (f := .free "max") rfl),
    He.free_ok X G (c.fact 51 (f := .free "list") rfl),
    He.free_ok X G (c.fact 52 (f := .free "zip") rfl),
    (by obtain ⟨t, e⟩ := He.str_ok X G (c.fact 53 (f := .str "LOWER" "abcdefghijklmnopqrstuvwxyz") rfl); exact ⟨_, e, t, rfl⟩),
    (by obtain ⟨t, e⟩ := He.str_ok X G (c.fact 54 (f := .str "DIGITS" "0123456789") rfl); exact ⟨_, e, t, rfl⟩),
    (by obtain ⟨t, e⟩ := He.str_ok X G (c.fact 55 (f := .str "WORD_SIGNS" "abcdefghijklmnopqrstuvwxyz0123456789-") rfl); exact ⟨_, e, t, rfl⟩),
    (by obtain ⟨t, e⟩ := He.str_ok X G (c.fact 56 (f := .str "PATH_SIGNS" "abcdefghijklmnopqrstuvwxyz0123456789/-.") rfl); exact ⟨_, e, t, rfl⟩),
    (by obtain ⟨t, e⟩ := He.int_ok X G (c.fact 57 (f := .int "MOST_PATH" 60) rfl); exact ⟨_, e, t, rfl⟩),
    (by obtain ⟨t, e⟩ := He.int_ok X G (c.fact 58 (f := .int "MOST_NAME" 30) rfl); exact ⟨_, e, t, rfl⟩),
    (by obtain ⟨t, e⟩ := He.int_ok X G (c.fact 59 (f := .int "MOST_VALUE" 200) rfl); exact ⟨_, e, t, rfl⟩),
    (by obtain ⟨t, e⟩ := He.int_ok X G (c.fact 60 (f := .int "MOST_DIGITS" 6) rfl); exact ⟨_, e, t, rfl⟩)⟩
  have WB : Wb K mg (He.ga K "Message") := ⟨g36, ZX.read_ok (exK_at x 1), ZX.cint_ok (exK_at x 2), ZX.cint_ok (exK_at x 3)⟩
  have WR : Ws K mg (He.ga K "Response") := ⟨g37, He.cls_ok (c.fact 75 (f := .cls "Response") rfl), He.noat_ok (c.fact 77 (f := .noat "Response" "_first_line") rfl), He.noat_ok (c.fact 78 (f := .noat "Response" "_has_body") rfl), He.noat_ok (c.fact 79 (f := .noat "Response" "fields") rfl), He.noat_ok (c.fact 80 (f := .noat "Response" "body") rfl), He.noat_ok (c.fact 81 (f := .noat "Response" "status") rfl), ZX.read_ok (exK_at x 4), ⟨_, ZX.ctup_ok (exK_at x 5)⟩⟩
  have WD : Wdr K mg (He.ga K "Directives") := ⟨g35, He.cls_ok (c.fact 61 (f := .cls "Directives") rfl), He.noat_ok (c.fact 63 (f := .noat "Directives" "lasts") rfl), He.noat_ok (c.fact 64 (f := .noat "Directives" "shared_lasts") rfl), He.noat_ok (c.fact 65 (f := .noat "Directives" "late") rfl), He.noat_ok (c.fact 66 (f := .noat "Directives" "on_error") rfl), He.noat_ok (c.fact 67 (f := .noat "Directives" "age") rfl), He.noat_ok (c.fact 68 (f := .noat "Directives" "fresh") rfl), He.noat_ok (c.fact 69 (f := .noat "Directives" "strict") rfl), He.noat_ok (c.fact 70 (f := .noat "Directives" "check") rfl), He.noat_ok (c.fact 71 (f := .noat "Directives" "own") rfl), He.noat_ok (c.fact 72 (f := .noat "Directives" "never") rfl), He.noat_ok (c.fact 73 (f := .noat "Directives" "kept") rfl), He.noat_ok (c.fact 74 (f := .noat "Directives" "any_late") rfl)⟩
  have WQ : Wq K mg (He.ga K "Request") := ⟨g38, ⟨He.cls_ok (c.fact 84 (f := .cls "Request") rfl), He.noat_ok (c.fact 86 (f := .noat "Request" "_first_line") rfl), He.noat_ok (c.fact 87 (f := .noat "Request" "_has_body") rfl), He.noat_ok (c.fact 88 (f := .noat "Request" "fields") rfl), He.noat_ok (c.fact 89 (f := .noat "Request" "body") rfl)⟩, He.noat_ok (c.fact 90 (f := .noat "Request" "method") rfl), He.noat_ok (c.fact 91 (f := .noat "Request" "path") rfl), ZX.read_ok (exK_at x 6), ⟨_, ZX.ctup_ok (exK_at x 7)⟩⟩
  have e := hfa.symm.trans g34
  cases e
  refine ⟨fd34, fun s v => (FunD.bindsA (ps := ["script"]) F34 fun _ _ _ _ _ _ us hl => match us, hl with | [_], _ => rfl) s [v] rfl, fun base _ _ => ?_⟩
  have c_consists_of := ok_consists_of (P := P) (w := w) (base := base) T  F1 g1
  have c_read_number := ok_read_number (P := P) (w := w) (base := base) T c_consists_of F9 g9
  have c_is_plain := ok_is_plain (P := P) (w := w) (base := base) T  F2 g2
  have c_is_plain_lines := ok_is_plain_lines (P := P) (w := w) (base := base) T c_is_plain F3 g3
  have c_is_body := ok_is_body (P := P) (w := w) (base := base) T WB c_is_plain_lines F14 g14
  have c_is_path := ok_is_path (P := P) (w := w) (base := base) T c_consists_of F4 g4
  have c_is_word := ok_is_word (P := P) (w := w) (base := base) T c_consists_of F5 g5
  have c_is_field_name := ok_is_field_name (P := P) (w := w) (base := base) T c_is_word F6 g6
  have c_is_value := ok_is_value (P := P) (w := w) (base := base) T c_is_plain F7 g7
  have c_are_fields := ok_are_fields (P := P) (w := w) (base := base) T WB c_is_field_name c_is_value F13 g13
  have MBR : Mb P w K mg base (He.ga K "Message") (He.ga K "Response") := ⟨_, fd_Mi, ZX.cfn_ok (exK_at x 0), ok_Mi T WR.wm c_are_fields c_is_body F_Mi, (FunD.bindsN (ps := ["self", "first_line", "has_body", "fields", "body"]) F_Mi fun _ _ _ _ _ _ us hl => match us, hl with | [_, _, _, _, _], _ => rfl)⟩
  obtain ⟨dsR, vsR, brR⟩ := FunD.binds1 (ps := ["self", "status", "fields", "body"]) F_Rs 3 1 (by simp [d_Rs, ZX.DefA.dvs]) rfl fun T kV doc pm an cdv ct us its h1 h2 => match us, its, h1, h2 with | [_, _, _], [_, _], _, _ => ⟨_, rfl, rfl⟩
  have IR : MkR P w K mg base (He.ga K "Response") := ⟨_, fd_Rs, dsR, He.mkr_ok (c.fact 76 (f := .mkr "Response") rfl), ok_Rs T WB WR MBR F_Rs, brR, vsR⟩
  have RMR : Rm1 P w K mg base (He.ga K "Response") := ⟨_, fd_Mv, He.meth_ok (c.fact 82 (f := .meth "Response" "all_values") rfl), ok_Mv WR.wm F_Mv, (FunD.bindsN (ps := ["self", "name"]) F_Mv fun _ _ _ _ _ _ us hl => match us, hl with | [_, _], _ => rfl)⟩
  have RJR : Rmj P w K mg base (He.ga K "Response") := ⟨_, fd_Mj, He.meth_ok (c.fact 83 (f := .meth "Response" "joined") rfl), ok_Mj WR.wm RMR F_Mj, (FunD.bindsN (ps := ["self", "name"]) F_Mj fun _ _ _ _ _ _ us hl => match us, hl with | [_, _], _ => rfl)⟩
  have MBQ : Mb P w K mg base (He.ga K "Message") (He.ga K "Request") := ⟨_, fd_Mi, ZX.cfn_ok (exK_at x 0), ok_Mi T WQ.wm c_are_fields c_is_body F_Mi, (FunD.bindsN (ps := ["self", "first_line", "has_body", "fields", "body"]) F_Mi fun _ _ _ _ _ _ us hl => match us, hl with | [_, _, _, _, _], _ => rfl)⟩
  obtain ⟨dsQ, vsQ, brQ⟩ := FunD.binds1 (ps := ["self", "method", "path", "fields", "body"]) F_Rq 4 1 (by simp [d_Rq, ZX.DefA.dvs]) rfl fun T kV doc pm an cdv ct us its h1 h2 => match us, its, h1, h2 with | [_, _, _, _], [_, _], _, _ => ⟨_, rfl, rfl⟩
  have IQ : MkQ P w K mg base (He.ga K "Request") := ⟨_, fd_Rq, dsQ, He.mkr_ok (c.fact 85 (f := .mkr "Request") rfl), ok_Ri T WB WQ MBQ c_is_path F_Rq, brQ, vsQ⟩
  have RMQ : Rm1 P w K mg base (He.ga K "Request") := ⟨_, fd_Qv, He.meth_ok (c.fact 92 (f := .meth "Request" "all_values") rfl), ok_Mv WQ.wm F_Qv, (FunD.bindsN (ps := ["self", "name"]) F_Qv fun _ _ _ _ _ _ us hl => match us, hl with | [_, _], _ => rfl)⟩
  have RJQ : Rmj P w K mg base (He.ga K "Request") := ⟨_, fd_Qj, He.meth_ok (c.fact 93 (f := .meth "Request" "joined") rfl), ok_Mj WQ.wm RMQ F_Qj, (FunD.bindsN (ps := ["self", "name"]) F_Qj fun _ _ _ _ _ _ us hl => match us, hl with | [_, _], _ => rfl)⟩
  have c_list_elements := ok_list_elements (P := P) (w := w) (base := base) T  F8 g8
  have c_iwn := ok_is_without_number (P := P) (w := w) (base := base) c_read_number F12 g12
  have c_ln := ok_least_number (P := P) (w := w) (base := base) T c_read_number F10 g10
  have c_ll := ok_least_lifetime (P := P) (w := w) (base := base) T c_iwn c_ln F11 g11
  have DI : Dini P w K mg base (He.ga K "Directives") := ⟨_, fd_Di, He.mkr_ok (c.fact 62 (f := .mkr "Directives") rfl), ok_Di WD c_ll c_ln F_Di, (FunD.bindsN (ps := ["self", "parts"]) F_Di fun _ _ _ _ _ _ us hl => match us, hl with | [_, _], _ => rfl)⟩
  have RD : Drd P w K mg base (He.ga K "Directives") := ⟨_, _, fd_Dr, ZX.stat_ok (exK_at x 8), ok_Dr WD DI c_list_elements F_Dr, (FunD.bindsN (ps := ["text"]) F_Dr fun _ _ _ _ _ _ us hl => match us, hl with | [_], _ => rfl)⟩
  have DR : Doc P w K mg base (He.ga K "Directives") (He.ga K "Response") := ⟨ZX.read_ok (exK_at x 9), _, _, ZX.cmet_ok (exK_at x 10), rawO (FnOk.raw (ok_Do WR.wm RD RJR F_Do) (FunD.bindsN (ps := ["cls", "message"]) F_Do fun _ _ _ _ _ _ us hl => match us, hl with | [_, _], _ => rfl) .nil)⟩
  have DQ : Doc P w K mg base (He.ga K "Directives") (He.ga K "Request") := ⟨ZX.read_ok (exK_at x 9), _, _, ZX.cmet_ok (exK_at x 10), rawO (FnOk.raw (ok_Do WQ.wm RD RJQ F_Do) (FunD.bindsN (ps := ["cls", "message"]) F_Do fun _ _ _ _ _ _ us hl => match us, hl with | [_, _], _ => rfl) .nil)⟩
  have c_law_bag := ok_law_bagA (P := P) (w := w) (base := base) T  F15 g15
  have c_law_take := ok_law_takeA (P := P) (w := w) (base := base) T  F16 g16
  have c_law_number := ok_law_numberA (P := P) (w := w) (base := base) c_law_take F17 g17
  have c_law_plain := ok_law_plain (P := P) (w := w) (base := base) T c_law_take F18 g18
  have c_law_odd := ok_law_odd (P := P) (w := w) (base := base) T c_law_take c_law_number F19 g19
  have c_law_near := ok_law_near (P := P) (w := w) (base := base) T  F20 g20
  have c_law_element := ok_law_element (P := P) (w := w) (base := base) T c_law_take c_law_number c_law_plain c_law_odd c_law_near F21 g21
  have c_law_padded := ok_law_padded (P := P) (w := w) (base := base) T c_law_take c_law_element F22 g22
  have c_law_spoil := ok_law_spoil (P := P) (w := w) (base := base) T c_law_take c_law_plain F23 g23
  have c_law_texts := ok_law_texts (P := P) (w := w) (base := base) T c_law_take c_law_padded c_law_spoil F24 g24
  have c_law_heads := ok_law_heads (P := P) (w := w) (base := base) T c_law_take F25 g25
  have c_law_joined := ok_law_joined (P := P) (w := w) (base := base)  F26 g26
  have c_law_digits := ok_law_digits (P := P) (w := w) (base := base) T  F27 g27
  have c_law_least := ok_law_least (P := P) (w := w) (base := base) T c_law_digits F28 g28
  have c_law_due := ok_law_due (P := P) (w := w) (base := base) T c_law_least F29 g29
  have c_law_told := ok_law_told (P := P) (w := w) (base := base) WD F30 g30
  have c_law_same := ok_law_same (P := P) (w := w) (base := base) T  F31 g31
  have c_law_all_same := ok_law_all_same (P := P) (w := w) (base := base) T c_law_same F32 g32
  have c_law_many_right := ok_law_many_right (P := P) (w := w) (base := base) T WD WR WQ IR IQ DR DQ c_law_take c_law_element c_law_due c_law_told c_law_all_same F33 g33
  exact ok_lawA T WD WR WQ IR IQ DR DQ RD c_law_bag c_law_take c_law_texts c_law_heads c_law_due c_law_joined c_law_told c_law_all_same c_law_many_right F34
end Z
open PySem PySem.W PySem.Calls PyProof.Rows
set_option maxRecDepth 100000 in
set_option maxHeartbeats 0 in
theorem PySem.Challenge.cw_hopkeep_k26_directives_read_holds : PySem.Challenge.rw_hopkeep_k26_directives_read.Holds := by
  w_on; o_law
  refine HandSHeadRun.head_any (r := Z.R) (q := view Z.R.prog [53]) (H := Z.hk) (ob := Z.ob) (M := 16000) (loose := Z.others) (d := HandSHeadRun.topDef Z.R.prog 53) (kwd := []) Z.ob_eq (by kernel_rfl) (fun s => by kernel_rfl) Z.run
    (by kernel_rfl) (by kernel_rfl) (by kernel_rfl) (by rfl) (by first | assumption | decide +kernel) (by decide +kernel) ⟨rfl, rfl, rfl, rfl, rfl, by decide +kernel⟩ ?hw ?hc
  case hw => w_witness2
  case hc =>
    refine LamX.walk_ofTsE (l := PySem.Challenge.rw_hopkeep_k26_directives_read) (n := 63) (k := 10) (x := "script") (CX := fun _ => L2.CX0) rfl (by decide) (by kernel_rfl) ⟨rfl, by decide, by decide⟩ ?F (fun _ _ _ _ _ z => z)
    intro w mg fa h Y G hmg0
    obtain ⟨K, KX, c⟩ := Y
    have hmg : mg ("law" : PySem.Str) = some (.ref fa) := by
      have e : (HandSHeadRun.topDef Z.R.prog 53).name = ("law" : PySem.Str) := by kernel_rfl
      rw [← e]
      exact hmg0
    obtain ⟨fd, hb, hF⟩ := Z.facts (P := Z.R.prog) (w := w) KX G hmg c
    exact ⟨K, KX, fd, [], Z.spLawA K, (fun p hp => nomatch hp), (fun p hp => nomatch hp), (fun p hp => nomatch hp), hb, fun H a ns hl hz _ hS => ⟨a, ns, rfl, hS, hl, fun _ => rfl⟩, fun base h1 h2 _ => hF base h1 h2⟩
