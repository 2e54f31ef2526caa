import PyProof.Rows.All
import Wide.All
import OpenK.AllK
import Wide.FinOn
import KE.KSuper
import KE.KExcSuper
import HandS.Base
import HandS.Call
import HandS.Exc
import HandS.ExcInit
import HandS.ExcSuper
import HandS.Nested
import HandS.ClsMeth
import HandS.ExcOwn
import HandS.ExcIs
import HandS.ExcField
import HandS.OwnEq
import HandS.More
import HandS.MakeKw
import HandS.Style
import HandS.StrMore
import HandS.SlotsOwn
import KE.KCallOwn
import PyProof.Rows.StrRev
import HandS.HeadHook1
import HandS.HeadHook2
import HandS.ExcCtx
import HandS.HotCalls
import HandS.Words
import HandS.Hot
import HandS.Iter
import PyProof.StrLoop
import OpenK.KOps
import HandS.ListItems
import HandS.ListEq
import HandS.Conv
import KE.KDictList
import PyProof.EqKinds
import HandS.Property
import HandS.Star
import KE.KMinBuiltin
import HandS.FltList
import HandS.SortKw
import HandS.ForMost
import KE.IntTextLaws
import PyProof.MeetsSeq2
import PyProof.DictTable
import HandS.Codes
import HandS.Translate
import HandS.Defaults
import HandS.IsInst
import HandS.Wide
import HandS.WideBits
import HandS.EndBits
import HandS.HeadEnd
import HandS.Flow
import HandS.Steps
import HandS.Evl
import HandS.Walk
import HandS.Replace
import HandS.ReplaceLit
import HandS.ReplaceDef
import HandS.FStr
import HandS.WordsExc
import HandS.Small
import PyProof.Rows.Range3
import HandS.TryOnly
import HandS.RaiseMore
import HandS.Head0
import HandS.Head1
import HandS.Head2
import KE.KStateDown
import HandS.HeadWalk
import PySem.Challenge.RW_hopkeep_k01_messages_made
set_option Elab.async false
set_option linter.all false
set_option maxRecDepth 100000
set_option maxHeartbeats 0
namespace ZX
open PySem PySem.Spec PyProof.Rows L2 He
abbrev FnC : Type := Option (Str × Str × Arguments × FuncBody × Scope × Addr × List Str × Addr)
def fnC (K : PySem.W.Frag) (a : Addr) : FnC := match K.lookup a with
  | some ⟨_, _, .func fd, _⟩ => some (fd.name, fd.qualname, fd.params, fd.body, fd.scope, fd.globals, fd.closure.map (·.1), fd.builtins)
  | _ => none
inductive Pl where
  | glo (x : Str)
  | met (x m : Str)
  | sta (x m : Str)
  | rcd (T : String) (x m : Str)
def Pl.ad (K : PySem.W.Frag) : Pl → Addr
  | .glo x => ga K x
  | .met x m => ma K (ga K x) m
  | .sta x m => match PySem.W.recIn K (ma K (ga K x) m) "staticmethod" with
    | some (.ref g :: _) => g
    | _ => 0
  | .rcd T x m => match PySem.W.recIn K (ma K (ga K x) m) T with
    | some (.ref g :: _) => g
    | _ => 0
structure DefA where
  at_ : Pl
  name : Str
  qual : Str
  params : Arguments
  body : List Stmt
  scope : Scope
  dfl : List Dv
  clo : List Str
def DefA.val (d : DefA) : FnC := some (d.name, d.qual, d.params, .stmts d.body, d.scope, mainGlobals, d.clo, builtinsNs)
def DefA.dvs (K : PySem.W.Frag) (d : DefA) : List V := d.dfl.map (Dv.v K)
def DefA.ok (K : PySem.W.Frag) (d : DefA) : Bool := PySem.W.keepIn K (.ref (d.at_.ad K)) && (match K.lookup (d.at_.ad K) with
  | some ⟨_, _, .func fd, _⟩ => PySem.W.codeIn K fd.code d.qual && dflB K fd.defaults (d.dvs K)
  | _ => false)
def ccOf (K : PySem.W.Frag) (a : Addr) : Addr := match K.lookup a with
  | some ⟨_, _, .func fd, _⟩ => (match fd.closure with
    | [(_, c)] => c
    | _ => 0)
  | _ => 0
def cdOf (K : PySem.W.Frag) (a : Addr) : Addr := match K.lookup a with
  | some ⟨_, _, .func fd, _⟩ => (match fd.code with
    | .ref c => c
    | _ => 0)
  | _ => 0
def oexClsB (K : PySem.W.Frag) (C : Addr) : Bool := match K.lookup C with
  | some ⟨.type "type", _, .cls cd, sl⟩ => (match cd.mro, sl.toList with
    | .ref C' :: bm, [_, _, _, _, some (.builtin n), _] => C' == C && n == "ValueError.__new__" && !cd.hasDel && cd.hasDict && HandSPX.refsVE bm
    | _, _ => false)
  | _ => false
def errB (K : PySem.W.Frag) (fl : Str) (x : Str) : Bool :=
  oexClsB K (ga K x) && (eqO (PySem.W.findIn K (.ref (ga K x)) "__setattr__") (some (some (.builtin "object.__setattr__"))) && (decide (PySem.W.subIn K (.ref (ga K x)) (.type "BaseException") = some true) && (decide (PySem.W.typeIn K (.ref (ga K x)) = some (.type "type")) && (PySem.W.keepIn K (.ref (ga K x)) &&
  (decide (PySem.W.subIn K (.ref (ga K x)) (.type "ValueError") = some true) && (decide (PySem.W.mroIn K (ga K x) (.ref (ga K x)) = some true) && (decide (PySem.W.ks_superIn K (ga K x) (ga K x) "__init__" = some (some (.builtin "ValueError.__init__"))) &&
  (eqO (PySem.W.findIn K (.ref (ga K x)) "__init__") (some (some (.ref (ma K (ga K x) "__init__")))) && (decide (PySem.W.typeIn K (.ref (ma K (ga K x) "__init__")) = some (.type "function")) &&
  ((match K.lookup (ccOf K (ma K (ga K x) "__init__")) with
    | some ⟨_, _, .cell (some v), _⟩ => decide (v = .ref (ga K x))
    | _ => false) && (match K.lookup (cdOf K (ma K (ga K x) "__init__")) with
    | some ⟨_, _, .fields vs, _⟩ => (match (vs[2]? : Option Value) with
      | some (Value.str f _) => decide (fl = f)
      | _ => false)
    | _ => false)))))))))))
def excCB (K : PySem.W.Frag) (D : Addr) : Bool := eqO (PySem.W.findIn K (.ref D) "__getattribute__") (some (some (.builtin "BaseException.__getattribute__"))) && (eqO (PySem.W.findIn K (.ref D) "__getattr__") (some none) && (decide (PySem.W.subIn K (.ref D) (.type "BaseException") = some true) && (PySem.W.hasDictIn K D &&
  (eqO (PySem.W.findIn K (.ref D) "__class__") (some (some (.builtin "object.__class__"))) && (eqO (PySem.W.specialIn K (.builtin "object.__class__") "__get__") (some (some (.builtin "getset_descriptor.__get__"))) && (decide (PySem.W.takesIn K (.builtin "object.__class__") = some true) && decide (PySem.W.mroIn K D (.type "object") = some true)))))))
def insCB (K : PySem.W.Frag) (D : Addr) : Bool := eqO (PySem.W.findIn K (.ref D) "__class__") (some (some (.builtin "object.__class__"))) && (eqO (PySem.W.specialIn K (.builtin "object.__class__") "__get__") (some (some (.builtin "getset_descriptor.__get__"))) && (decide (PySem.W.takesIn K (.builtin "object.__class__") = some true) && decide (PySem.W.mroIn K D (.type "object") = some true)))
def statB (K : PySem.W.Frag) (x m : Str) : Bool := PySem.W.readsIn K (ga K x) (.type "type") && (eqO (PySem.W.specialIn K (.ref (ga K x)) "__getattribute__") (some (some (.builtin "type.__getattribute__"))) &&
  ((match PySem.W.findCls K (.ref (ga K x)) (.type "type") m with
    | some (.get (.builtin n) (.ref p) .none (.ref C)) => decide (n = "staticmethod.__get__") && (decide (p = ma K (ga K x) m) && decide (C = ga K x))
    | _ => false) && ((match PySem.W.recIn K (ma K (ga K x) m) "staticmethod" with
    | some (.ref g :: _) => decide (g = (Pl.sta x m).ad K)
    | _ => false) && PySem.W.keepIn K (.ref ((Pl.sta x m).ad K)))))
def asS (g : Addr → Option Obj) : Nat → List Addr
  | 0 => [mainGlobals, cStatics]
  | n + 1 => growD g (asS g n)
abbrev AlA : Type := Bool × List FnC
def obsA (fa : List Fa) (ex : PySem.W.Frag → Bool) (fn : List DefA) (K : PySem.W.Frag) : AlA := ((fa.all fun f => f.ok K) && (ex K && fn.all fun d => d.ok K), fn.map fun d => fnC K (d.at_.ad K))
def valA (fn : List DefA) : AlA := (true, fn.map DefA.val)
def SaysA (fa : List Fa) (ex : PySem.W.Frag → Bool) (fn : List DefA) (K : PySem.W.Frag) : Prop := obsA fa ex fn K = valA fn
def obsAG (n : Nat) (fa : List Fa) (ex : PySem.W.Frag → Bool) (fn : List DefA) (g : Addr → Option Obj) : AlA := obsA fa ex fn (frG g (asS g n))
def hookA (n : Nat) (fa : List Fa) (ex : PySem.W.Frag → Bool) (fn : List DefA) : PySem.W.Hook where
  α := AlA
  obs := fun s => obsAG n fa ex fn s.heap.get?
  val := fun _ => valA fn
  says := fun _ h => ∃ K : PySem.W.Frag, K.In h ∧ SaysA fa ex fn K
  of := fun _ _ e => ⟨_, frG_in, e⟩
  keeps := fun _ _ _ ⟨K, hK, c⟩ k => ⟨K, PySem.W.Frag.In.keeps hK k, c⟩
theorem obsAG_eq {n : Nat} {fa : List Fa} {ex : PySem.W.Frag → Bool} {fn : List DefA} {g : Addr → Option Obj} {s : Shared} (h : ∀ a, g a = s.heap.get? a) : obsAG n fa ex fn g = (hookA n fa ex fn).obs s := by
  have e : g = s.heap.get? := funext h
  rw [e] <;> rfl
def readB (K : PySem.W.Frag) (x : Str) : Bool := PySem.W.readsIn K (ga K x) (.type "type") && eqO (PySem.W.specialIn K (.ref (ga K x)) "__getattribute__") (some (some (.builtin "type.__getattribute__")))
def cfnB (K : PySem.W.Frag) (x m : Str) : Bool := readB K x && ((match PySem.W.findCls K (.ref (ga K x)) (.type "type") m with
    | some (.val (.ref g)) => decide (g = ma K (ga K x) m)
    | _ => false) && PySem.W.keepIn K (.ref (ma K (ga K x) m)))
def cintB (K : PySem.W.Frag) (x m : Str) (n : Int) : Bool := match PySem.W.findCls K (.ref (ga K x)) (.type "type") m with
    | some (.val (.int i _)) => decide (i = n)
    | _ => false
def ctOf (K : PySem.W.Frag) (x m : Str) : Addr := match PySem.W.findCls K (.ref (ga K x)) (.type "type") m with
    | some (.val (.ref p)) => p
    | _ => 0
def strVs : List Value → List Str → Bool
  | [], [] => true
  | .str z _ :: vs, y :: ys => decide (z = y) && strVs vs ys
  | _, _ => false
def ctupB (K : PySem.W.Frag) (x m : Str) (zs : List Str) : Bool := (match PySem.W.findCls K (.ref (ga K x)) (.type "type") m with
    | some (.val (.ref p)) => decide (p = ctOf K x m)
    | _ => false) && (match K.lookup (ctOf K x m) with
    | some ⟨.type t, _, .seq its _, _⟩ => decide (t = "tuple") && (decide (its.size ≤ 100) && strVs its.toList zs)
    | _ => false)
def cmetB (K : PySem.W.Frag) (x m : Str) : Bool := (match PySem.W.findCls K (.ref (ga K x)) (.type "type") m with
    | some (.get (.builtin n) (.ref p) .none (.ref C)) => decide (n = "classmethod.__get__") && (decide (p = ma K (ga K x) m) && decide (C = ga K x))
    | _ => false) && ((match PySem.W.recIn K (ma K (ga K x) m) "classmethod" with
    | some (.ref g :: _) => decide (g = (Pl.rcd "classmethod" x m).ad K)
    | _ => false) && PySem.W.fnIn K ((Pl.rcd "classmethod" x m).ad K))
def propB (K : PySem.W.Frag) (x m : Str) : Bool := eqO (PySem.W.findIn K (.ref (ga K x)) m) (some (some (.ref (ma K (ga K x) m)))) && (eqO (PySem.W.specialIn K (.ref (ma K (ga K x) m)) "__get__") (some (some (.builtin "property.__get__"))) &&
  (decide (PySem.W.takesIn K (.ref (ma K (ga K x) m)) = some true) && (match PySem.W.recIn K (ma K (ga K x) m) "property" with
    | some (.ref g :: _) => decide (g = (Pl.rcd "property" x m).ad K)
    | _ => false)))
def kwOf (K : PySem.W.Frag) (a : Addr) : Value := match K.lookup a with
  | some ⟨_, _, .func fd, _⟩ => fd.kwdefaults
  | _ => .none
def gtupB (K : PySem.W.Frag) (x : Str) (zs : List Str) : Bool := match K.lookup (ga K x) with
    | some ⟨.type t, _, .seq its _, _⟩ => decide (t = "tuple") && (decide (its.size ≤ 100) && strVs its.toList zs)
    | _ => false
def etupB (K : PySem.W.Frag) (a : Addr) : Bool := match K.lookup a with
  | some ⟨.type t, _, .seq its _, _⟩ => decide (t = "tuple") && decide (its.size = 0)
  | _ => false
def frontOf (g : Addr → Option Obj) (as : List Addr) : List Addr :=
  (mainGlobals :: cStatics :: as.filterMap fun a => match g a with
    | some o => (match o.data with | .cls _ => some a | _ => none)
    | none => none) ++ ((as.filterMap fun a => match g a with
    | some o => (match o.data with | .cls cd => some cd.ns | _ => none)
    | none => none) ++ as.flatMap fun a => match g a with
    | some o => (match o.data with
      | .func fd => (match fd.code with | .ref c => [a, c] | _ => [a])
      | _ => [])
    | none => [])
def asQ (g : Addr → Option Obj) (n : Nat) : List Addr := frontOf g (asS g n) ++ asS g n
def obsBG (n : Nat) (fa : List Fa) (ex : PySem.W.Frag → Bool) (fn : List DefA) (g : Addr → Option Obj) : AlA := obsA fa ex fn (frG g (asQ g n))
def hookB (n : Nat) (fa : List Fa) (ex : PySem.W.Frag → Bool) (fn : List DefA) : PySem.W.Hook where
  α := AlA
  obs := fun s => obsBG n fa ex fn s.heap.get?
  val := fun _ => valA fn
  says := fun _ h => ∃ K : PySem.W.Frag, K.In h ∧ SaysA fa ex fn K
  of := fun _ _ e => ⟨_, frG_in, e⟩
  keeps := fun _ _ _ ⟨K, hK, c⟩ k => ⟨K, PySem.W.Frag.In.keeps hK k, c⟩
theorem obsBG_eq {n : Nat} {fa : List Fa} {ex : PySem.W.Frag → Bool} {fn : List DefA} {g : Addr → Option Obj} {s : Shared} (h : ∀ a, g a = s.heap.get? a) : obsBG n fa ex fn g = (hookB n fa ex fn).obs s := by
  have e : g = s.heap.get? := funext h
  rw [e] <;> rfl
def hookU : PySem.W.Hook where
  α := Unit
  obs := fun _ => ()
  val := fun _ => ()
  says := fun _ _ => True
  of := fun _ _ _ => trivial
  keeps := fun _ _ _ _ _ => trivial
def obU (s : PySem.W.SharedT) : Unit := ()
def obF (n : Nat) (fa : List Fa) (ex : PySem.W.Frag → Bool) (fn : List DefA) (s : PySem.W.SharedT) : Bool := (obsBG n fa ex fn (HandSHeadRun.getT s)).1
def obD (n : Nat) (fa : List Fa) (ex : PySem.W.Frag → Bool) (fn : List DefA) (s : PySem.W.SharedT) : List FnC := (obsBG n fa ex fn (HandSHeadRun.getT s)).2
def RunLooks (r : PySem.W.OpenRow) (M : Nat) (w : World) {β : Type} (f : PySem.W.SharedT → β) (v : β) : Prop := ∀ o : PySem.OsState, (HandSHeadRun.endF (HandSHeadRun.stepQ (HandSHeadRun.denQ HandSHeadRun.tabQ) r.prog w) M r.prog w o).map f = some v
theorem look_three {S A B C D : Type} {x : Option S} {f : S → A} {g : S → B} {c : S → C} {d : S → D} {t : S → Unit} {u : A} {v : B} {i : C} {j : D} (h0 : x.map (fun s => (f s, g s, t s)) = some (u, v, ())) (h1 : x.map c = some i) (h2 : x.map d = some j) : x.map (fun s => (f s, g s, (c s, d s))) = some (u, v, (i, j)) := by
  cases x with
  | none => cases h1
  | some s =>
    have e0 := Option.some.inj h0
    have a1 : f s = u := congrArg (fun z => z.1) e0
    have a2 : g s = v := congrArg (fun z => z.2.1) e0
    have a3 : c s = i := Option.some.inj h1
    have a4 : d s = j := Option.some.inj h2
    show some (f s, g s, (c s, d s)) = _
    rw [a1, a2, a3, a4]
theorem run_three {r : PySem.W.OpenRow} {q : Program} {M n : Nat} {loose : List PySem.Str} {w : World} {fa : List Fa} {ex : PySem.W.Frag → Bool} {fn : List DefA} (h0 : HandSHeadRun.RunEq r q hookU obU M loose w) (h1 : RunLooks r M w (obF n fa ex fn) true) (h2 : RunLooks r M w (obD n fa ex fn) (fn.map DefA.val)) :
    HandSHeadRun.RunEq r q (hookB n fa ex fn) (fun s => obsBG n fa ex fn (HandSHeadRun.getT s)) M loose w := fun o => look_three (h0 o) (h1 o) (h2 o)
def fnP (g : Addr → Option Obj) (a : Addr) : List Addr := match g a with
  | some o => (match o.data with
    | .func fd => refV fd.code ++ (refV fd.defaults ++ (refV fd.kwdefaults ++ fd.closure.flatMap fun c => c.2 :: (match g c.2 with
      | some oc => (match oc.data with | .cell (some v) => refV v | _ => [])
      | none => [])))
    | _ => [])
  | none => []
def memP (g : Addr → Option Obj) (v : Value) : List Addr := match v with
  | .ref b => b :: (match g b with
    | some o => (match o.data with
      | .fields vs => vs.toList.flatMap fun z => match z with
        | .ref r => r :: fnP g r
        | _ => []
      | _ => fnP g b)
    | none => [])
  | _ => []
def nsP (g : Addr → Option Obj) (a : Addr) : List Addr := match g a with
  | some o => (match o.data with
    | .dict es _ => es.toList.flatMap fun e => memP g e.val
    | _ => [])
  | none => []
def clsP (g : Addr → Option Obj) (a : Addr) : List Addr := match g a with
  | some o => (match o.data with
    | .cls cd => [a, cd.ns]
    | _ => [])
  | none => []
def mroP (g : Addr → Option Obj) (a : Addr) : List Addr := match g a with
  | some o => (match o.data with
    | .cls cd => nsP g cd.ns ++ cd.mro.flatMap refV
    | _ => a :: fnP g a)
  | none => []
def topP (g : Addr → Option Obj) : List Addr := match g mainGlobals with
  | some o => (match o.data with
    | .dict es _ => es.toList.flatMap fun e => refV e.val
    | _ => [])
  | none => []
def gathP (g : Addr → Option Obj) : List Addr := mainGlobals :: cStatics :: ((topP g).flatMap (clsP g) ++ (topP g).flatMap (mroP g))
def obsCG (fa : List Fa) (ex : PySem.W.Frag → Bool) (fn : List DefA) (g : Addr → Option Obj) : AlA := obsA fa ex fn (frG g (gathP g))
def hookC (fa : List Fa) (ex : PySem.W.Frag → Bool) (fn : List DefA) : PySem.W.Hook where
  α := AlA
  obs := fun s => obsCG fa ex fn s.heap.get?
  val := fun _ => valA fn
  says := fun _ h => ∃ K : PySem.W.Frag, K.In h ∧ SaysA fa ex fn K
  of := fun _ _ e => ⟨_, frG_in, e⟩
  keeps := fun _ _ _ ⟨K, hK, c⟩ k => ⟨K, PySem.W.Frag.In.keeps hK k, c⟩
theorem obsCG_eq {fa : List Fa} {ex : PySem.W.Frag → Bool} {fn : List DefA} {g : Addr → Option Obj} {s : Shared} (h : ∀ a, g a = s.heap.get? a) : obsCG fa ex fn g = (hookC fa ex fn).obs s := by
  have e : g = s.heap.get? := funext h
  rw [e] <;> rfl
end ZX
set_option maxHeartbeats 0
namespace Z
open PySem PySem.Spec PyProof.Rows L2
def top (i : Nat) : Stmt := PySem.Challenge.pw_hopkeep_k01_messages_made.main.body.getD i (.Pass ⟨0, 0, 0, 0⟩)
def cbody : Stmt → List Stmt
  | .ClassDef _ _ _ b _ _ _ _ _ _ _ => b
  | _ => []
def inC (i j : Nat) : Stmt := (cbody (top i)).getD j (.Pass ⟨0, 0, 0, 0⟩)
abbrev s_consists_of : Stmt := top 13
abbrev s_is_plain : Stmt := top 14
abbrev s_is_plain_lines : Stmt := top 15
abbrev s_is_path : Stmt := top 16
abbrev s_is_word : Stmt := top 17
abbrev s_is_field_name : Stmt := top 18
abbrev s_is_value : Stmt := top 19
abbrev s_are_fields : Stmt := top 24
abbrev s_is_body : Stmt := top 25
abbrev s_law_bag : Stmt := top 27
abbrev s_law_draw : Stmt := top 28
abbrev s_law_pick : Stmt := top 29
abbrev s_law_most : Stmt := top 30
abbrev s_law_word : Stmt := top 31
abbrev s_law_letters : Stmt := top 32
abbrev s_law_signs : Stmt := top 33
abbrev s_law_all_in : Stmt := top 34
abbrev s_law_is_path : Stmt := top 35
abbrev s_law_is_name : Stmt := top 36
abbrev s_law_is_value : Stmt := top 37
abbrev s_law_statuses : Stmt := top 38
abbrev s_law_methods : Stmt := top 39
abbrev s_law_may : Stmt := top 40
abbrev s_law_due : Stmt := top 41
abbrev s_law_name : Stmt := top 42
abbrev s_law_value : Stmt := top 43
abbrev s_law_odd_field : Stmt := top 44
abbrev s_law_fields : Stmt := top 45
abbrev s_law_world : Stmt := top 46
abbrev s_law_request : Stmt := top 47
abbrev s_law_response : Stmt := top 48
abbrev s_law_make : Stmt := top 49
abbrev s_law_start : Stmt := top 50
abbrev s_law_same : Stmt := top 51
abbrev s_law_values_right : Stmt := top 52
abbrev s_law_with_right : Stmt := top 53
abbrev s_law_without_right : Stmt := top 54
abbrev s_law_near : Stmt := top 55
abbrev s_law_equal_right : Stmt := top 56
abbrev s_law_fetch_right : Stmt := top 57
abbrev s_law_made_right : Stmt := top 58
abbrev s_law_right : Stmt := top 59
abbrev s_law : Stmt := top 60
abbrev s_iv : Stmt := inC 2 0
abbrev s_Mi : Stmt := inC 21 2
abbrev s_Rs : Stmt := inC 23 1
abbrev s_Ri : Stmt := inC 22 1
abbrev s_Mu : Stmt := inC 21 3
abbrev s_Mv : Stmt := inC 21 4
abbrev s_Mj : Stmt := inC 21 5
abbrev s_Mw : Stmt := inC 21 6
abbrev s_Mo : Stmt := inC 21 7
abbrev s_Pm : Stmt := inC 21 9
abbrev s_Ps : Stmt := inC 21 10
abbrev s_Mt : Stmt := inC 21 11
abbrev s_Me : Stmt := inC 21 12
abbrev s_Rr : Stmt := inC 22 3
abbrev s_Sr : Stmt := inC 23 2
abbrev s_Fe : Stmt := inC 22 2
def d_iv : ZX.DefA := ⟨.met "InvalidValue" "__init__", "__init__", "InvalidValue.__init__", L2.defArgs s_iv, L2.defBody s_iv, L2.defScope s_iv, [], ["__class__"]⟩
def stL : List Str := ["ok", "part", "same", "done", "missing", "failed", "norange", "unkept", "error"]
def mdL : List Str := ["get", "put", "delete"]
/-! ### the head: facts by names, the run -/
def d_consists_of : ZX.DefA := ⟨.glo "consists_of", "consists_of", "consists_of", L2.defArgs s_consists_of, L2.defBody s_consists_of, L2.defScope s_consists_of, [], []⟩
def d_is_plain : ZX.DefA := ⟨.glo "is_plain", "is_plain", "is_plain", L2.defArgs s_is_plain, L2.defBody s_is_plain, L2.defScope s_is_plain, [], []⟩
def d_is_plain_lines : ZX.DefA := ⟨.glo "is_plain_lines", "is_plain_lines", "is_plain_lines", L2.defArgs s_is_plain_lines, L2.defBody s_is_plain_lines, L2.defScope s_is_plain_lines, [], []⟩
def d_is_path : ZX.DefA := ⟨.glo "is_path", "is_path", "is_path", L2.defArgs s_is_path, L2.defBody s_is_path, L2.defScope s_is_path, [], []⟩
def d_is_word : ZX.DefA := ⟨.glo "is_word", "is_word", "is_word", L2.defArgs s_is_word, L2.defBody s_is_word, L2.defScope s_is_word, [], []⟩
def d_is_field_name : ZX.DefA := ⟨.glo "is_field_name", "is_field_name", "is_field_name", L2.defArgs s_is_field_name, L2.defBody s_is_field_name, L2.defScope s_is_field_name, [], []⟩
def d_is_value : ZX.DefA := ⟨.glo "is_value", "is_value", "is_value", L2.defArgs s_is_value, L2.defBody s_is_value, L2.defScope s_is_value, [], []⟩
def d_are_fields : ZX.DefA := ⟨.glo "are_fields", "are_fields", "are_fields", L2.defArgs s_are_fields, L2.defBody s_are_fields, L2.defScope s_are_fields, [], []⟩
def d_is_body : ZX.DefA := ⟨.glo "is_body", "is_body", "is_body", L2.defArgs s_is_body, L2.defBody s_is_body, L2.defScope s_is_body, [], []⟩
def d_law_bag : ZX.DefA := ⟨.glo "_law_bag", "_law_bag", "_law_bag", L2.defArgs s_law_bag, L2.defBody s_law_bag, L2.defScope s_law_bag, [], []⟩
def d_law_draw : ZX.DefA := ⟨.glo "_law_draw", "_law_draw", "_law_draw", L2.defArgs s_law_draw, L2.defBody s_law_draw, L2.defScope s_law_draw, [], []⟩
def d_law_pick : ZX.DefA := ⟨.glo "_law_pick", "_law_pick", "_law_pick", L2.defArgs s_law_pick, L2.defBody s_law_pick, L2.defScope s_law_pick, [], []⟩
def d_law_most : ZX.DefA := ⟨.glo "_law_most", "_law_most", "_law_most", L2.defArgs s_law_most, L2.defBody s_law_most, L2.defScope s_law_most, [], []⟩
def d_law_word : ZX.DefA := ⟨.glo "_law_word", "_law_word", "_law_word", L2.defArgs s_law_word, L2.defBody s_law_word, L2.defScope s_law_word, [], []⟩
def d_law_letters : ZX.DefA := ⟨.glo "_law_letters", "_law_letters", "_law_letters", L2.defArgs s_law_letters, L2.defBody s_law_letters, L2.defScope s_law_letters, [], []⟩
def d_law_signs : ZX.DefA := ⟨.glo "_law_signs", "_law_signs", "_law_signs", L2.defArgs s_law_signs, L2.defBody s_law_signs, L2.defScope s_law_signs, [], []⟩
def d_law_all_in : ZX.DefA := ⟨.glo "_law_all_in", "_law_all_in", "_law_all_in", L2.defArgs s_law_all_in, L2.defBody s_law_all_in, L2.defScope s_law_all_in, [], []⟩
def d_law_is_path : ZX.DefA := ⟨.glo "_law_is_path", "_law_is_path", "_law_is_path", L2.defArgs s_law_is_path, L2.defBody s_law_is_path, L2.defScope s_law_is_path, [], []⟩
def d_law_is_name : ZX.DefA := ⟨.glo "_law_is_name", "_law_is_name", "_law_is_name", L2.defArgs s_law_is_name, L2.defBody s_law_is_name, L2.defScope s_law_is_name, [], []⟩
def d_law_is_value : ZX.DefA := ⟨.glo "_law_is_value", "_law_is_value", "_law_is_value", L2.defArgs s_law_is_value, L2.defBody s_law_is_value, L2.defScope s_law_is_value, [], []⟩
def d_law_statuses : ZX.DefA := ⟨.glo "_law_statuses", "_law_statuses", "_law_statuses", L2.defArgs s_law_statuses, L2.defBody s_law_statuses, L2.defScope s_law_statuses, [], []⟩
def d_law_methods : ZX.DefA := ⟨.glo "_law_methods", "_law_methods", "_law_methods", L2.defArgs s_law_methods, L2.defBody s_law_methods, L2.defScope s_law_methods, [], []⟩
def d_law_may : ZX.DefA := ⟨.glo "_law_may", "_law_may", "_law_may", L2.defArgs s_law_may, L2.defBody s_law_may, L2.defScope s_law_may, [], []⟩
def d_law_due : ZX.DefA := ⟨.glo "_law_due", "_law_due", "_law_due", L2.defArgs s_law_due, L2.defBody s_law_due, L2.defScope s_law_due, [], []⟩
def d_law_name : ZX.DefA := ⟨.glo "_law_name", "_law_name", "_law_name", L2.defArgs s_law_name, L2.defBody s_law_name, L2.defScope s_law_name, [], []⟩
def d_law_value : ZX.DefA := ⟨.glo "_law_value", "_law_value", "_law_value", L2.defArgs s_law_value, L2.defBody s_law_value, L2.defScope s_law_value, [], []⟩
def d_law_odd_field : ZX.DefA := ⟨.glo "_law_odd_field", "_law_odd_field", "_law_odd_field", L2.defArgs s_law_odd_field, L2.defBody s_law_odd_field, L2.defScope s_law_odd_field, [], []⟩
def d_law_fields : ZX.DefA := ⟨.glo "_law_fields", "_law_fields", "_law_fields", L2.defArgs s_law_fields, L2.defBody s_law_fields, L2.defScope s_law_fields, [], []⟩
def d_law_world : ZX.DefA := ⟨.glo "_law_world", "_law_world", "_law_world", L2.defArgs s_law_world, L2.defBody s_law_world, L2.defScope s_law_world, [], []⟩
def d_law_request : ZX.DefA := ⟨.glo "_law_request", "_law_request", "_law_request", L2.defArgs s_law_request, L2.defBody s_law_request, L2.defScope s_law_request, [], []⟩
def d_law_response : ZX.DefA := ⟨.glo "_law_response", "_law_response", "_law_response", L2.defArgs s_law_response, L2.defBody s_law_response, L2.defScope s_law_response, [], []⟩
def d_law_make : ZX.DefA := ⟨.glo "_law_make", "_law_make", "_law_make", L2.defArgs s_law_make, L2.defBody s_law_make, L2.defScope s_law_make, [], []⟩
def d_law_start : ZX.DefA := ⟨.glo "_law_start", "_law_start", "_law_start", L2.defArgs s_law_start, L2.defBody s_law_start, L2.defScope s_law_start, [], []⟩
def d_law_same : ZX.DefA := ⟨.glo "_law_same", "_law_same", "_law_same", L2.defArgs s_law_same, L2.defBody s_law_same, L2.defScope s_law_same, [], []⟩
def d_law_values_right : ZX.DefA := ⟨.glo "_law_values_right", "_law_values_right", "_law_values_right", L2.defArgs s_law_values_right, L2.defBody s_law_values_right, L2.defScope s_law_values_right, [], []⟩
def d_law_with_right : ZX.DefA := ⟨.glo "_law_with_right", "_law_with_right", "_law_with_right", L2.defArgs s_law_with_right, L2.defBody s_law_with_right, L2.defScope s_law_with_right, [], []⟩
def d_law_without_right : ZX.DefA := ⟨.glo "_law_without_right", "_law_without_right", "_law_without_right", L2.defArgs s_law_without_right, L2.defBody s_law_without_right, L2.defScope s_law_without_right, [], []⟩
def d_law_near : ZX.DefA := ⟨.glo "_law_near", "_law_near", "_law_near", L2.defArgs s_law_near, L2.defBody s_law_near, L2.defScope s_law_near, [], []⟩
def d_law_equal_right : ZX.DefA := ⟨.glo "_law_equal_right", "_law_equal_right", "_law_equal_right", L2.defArgs s_law_equal_right, L2.defBody s_law_equal_right, L2.defScope s_law_equal_right, [], []⟩
def d_law_fetch_right : ZX.DefA := ⟨.glo "_law_fetch_right", "_law_fetch_right", "_law_fetch_right", L2.defArgs s_law_fetch_right, L2.defBody s_law_fetch_right, L2.defScope s_law_fetch_right, [], []⟩
def d_law_made_right : ZX.DefA := ⟨.glo "_law_made_right", "_law_made_right", "_law_made_right", L2.defArgs s_law_made_right, L2.defBody s_law_made_right, L2.defScope s_law_made_right, [], []⟩
def d_law_right : ZX.DefA := ⟨.glo "_law_right", "_law_right", "_law_right", L2.defArgs s_law_right, L2.defBody s_law_right, L2.defScope s_law_right, [], []⟩
def d_law : ZX.DefA := ⟨.glo "law", "law", "law", L2.defArgs s_law, L2.defBody s_law, L2.defScope s_law, [], []⟩
def d_Mi : ZX.DefA := ⟨.met "Message" "__init__", "__init__", "Message.__init__", L2.defArgs s_Mi, L2.defBody s_Mi, L2.defScope s_Mi, [], []⟩
def d_Rq : ZX.DefA := ⟨.met "Request" "__init__", "__init__", "Request.__init__", L2.defArgs s_Ri, L2.defBody s_Ri, L2.defScope s_Ri, [.adr (He.dflAt ("Request", some "__init__") 0), .str ""], []⟩
def d_Rs : ZX.DefA := ⟨.met "Response" "__init__", "__init__", "Response.__init__", L2.defArgs s_Rs, L2.defBody s_Rs, L2.defScope s_Rs, [.adr (He.dflAt ("Response", some "__init__") 0), .str ""], []⟩
def d_Qav : ZX.DefA := ⟨.met "Request" "all_values", "all_values", "Message.all_values", L2.defArgs s_Mv, L2.defBody s_Mv, L2.defScope s_Mv, [], []⟩
def d_Qva : ZX.DefA := ⟨.met "Request" "value", "value", "Message.value", L2.defArgs s_Mu, L2.defBody s_Mu, L2.defScope s_Mu, [], []⟩
def d_Qjn : ZX.DefA := ⟨.met "Request" "joined", "joined", "Message.joined", L2.defArgs s_Mj, L2.defBody s_Mj, L2.defScope s_Mj, [], []⟩
def d_Qwf : ZX.DefA := ⟨.met "Request" "with_field", "with_field", "Message.with_field", L2.defArgs s_Mw, L2.defBody s_Mw, L2.defScope s_Mw, [], []⟩
def d_Qwo : ZX.DefA := ⟨.met "Request" "without", "without", "Message.without", L2.defArgs s_Mo, L2.defBody s_Mo, L2.defScope s_Mo, [], []⟩
def d_Qps : ZX.DefA := ⟨.rcd "property" "Request" "start", "start", "Message.start", L2.defArgs s_Ps, L2.defBody s_Ps, L2.defScope s_Ps, [], []⟩
def d_Qpm : ZX.DefA := ⟨.rcd "property" "Request" "may_have_body", "may_have_body", "Message.may_have_body", L2.defArgs s_Pm, L2.defBody s_Pm, L2.defScope s_Pm, [], []⟩
def d_Qst : ZX.DefA := ⟨.met "Request" "__str__", "__str__", "Message.__str__", L2.defArgs s_Mt, L2.defBody s_Mt, L2.defScope s_Mt, [], []⟩
def d_Qrm : ZX.DefA := ⟨.met "Request" "remade", "remade", "Request.remade", L2.defArgs s_Rr, L2.defBody s_Rr, L2.defScope s_Rr, [], []⟩
def d_Sav : ZX.DefA := ⟨.met "Response" "all_values", "all_values", "Message.all_values", L2.defArgs s_Mv, L2.defBody s_Mv, L2.defScope s_Mv, [], []⟩
def d_Sva : ZX.DefA := ⟨.met "Response" "value", "value", "Message.value", L2.defArgs s_Mu, L2.defBody s_Mu, L2.defScope s_Mu, [], []⟩
def d_Sjn : ZX.DefA := ⟨.met "Response" "joined", "joined", "Message.joined", L2.defArgs s_Mj, L2.defBody s_Mj, L2.defScope s_Mj, [], []⟩
def d_Swf : ZX.DefA := ⟨.met "Response" "with_field", "with_field", "Message.with_field", L2.defArgs s_Mw, L2.defBody s_Mw, L2.defScope s_Mw, [], []⟩
def d_Swo : ZX.DefA := ⟨.met "Response" "without", "without", "Message.without", L2.defArgs s_Mo, L2.defBody s_Mo, L2.defScope s_Mo, [], []⟩
def d_Sps : ZX.DefA := ⟨.rcd "property" "Response" "start", "start", "Message.start", L2.defArgs s_Ps, L2.defBody s_Ps, L2.defScope s_Ps, [], []⟩
def d_Spm : ZX.DefA := ⟨.rcd "property" "Response" "may_have_body", "may_have_body", "Message.may_have_body", L2.defArgs s_Pm, L2.defBody s_Pm, L2.defScope s_Pm, [], []⟩
def d_Sst : ZX.DefA := ⟨.met "Response" "__str__", "__str__", "Message.__str__", L2.defArgs s_Mt, L2.defBody s_Mt, L2.defScope s_Mt, [], []⟩
def d_Srm : ZX.DefA := ⟨.met "Response" "remade", "remade", "Response.remade", L2.defArgs s_Sr, L2.defBody s_Sr, L2.defScope s_Sr, [], []⟩
def d_Eq : ZX.DefA := ⟨.met "Request" "__eq__", "__eq__", "Message.__eq__", L2.defArgs s_Me, L2.defBody s_Me, L2.defScope s_Me, [], []⟩
def d_Fe : ZX.DefA := ⟨.rcd "classmethod" "Request" "fetch", "fetch", "Request.fetch", L2.defArgs s_Fe, L2.defBody s_Fe, L2.defScope s_Fe, [], []⟩
def fns : List ZX.DefA := [d_consists_of, d_is_plain, d_is_plain_lines, d_is_path, d_is_word, d_is_field_name, d_is_value, d_are_fields, d_is_body, d_law_bag, d_law_draw, d_law_pick, d_law_most, d_law_word, d_law_letters, d_law_signs, d_law_all_in, d_law_is_path, d_law_is_name, d_law_is_value, d_law_statuses, d_law_methods, d_law_may, d_law_due, d_law_name, d_law_value, d_law_odd_field, d_law_fields, d_law_world, d_law_request, d_law_response, d_law_make, d_law_start, d_law_same, d_law_values_right, d_law_with_right, d_law_without_right, d_law_near, d_law_equal_right, d_law_fetch_right, d_law_made_right, d_law_right, d_law, d_iv, d_Mi, d_Rq, d_Rs, d_Qav, d_Qva, d_Qjn, d_Qwf, d_Qwo, d_Qps, d_Qpm, d_Qst, d_Qrm, d_Sav, d_Sva, d_Sjn, d_Swf, d_Swo, d_Sps, d_Spm, d_Sst, d_Srm, d_Eq, d_Fe]
def fas : List He.Fa := [.glo "consists_of", .glo "is_plain", .glo "is_plain_lines", .glo "is_path", .glo "is_word", .glo "is_field_name", .glo "is_value", .glo "are_fields", .glo "is_body", .glo "_law_bag", .glo "_law_draw", .glo "_law_pick", .glo "_law_most", .glo "_law_word", .glo "_law_letters", .glo "_law_signs", .glo "_law_all_in", .glo "_law_is_path", .glo "_law_is_name", .glo "_law_is_value", .glo "_law_statuses", .glo "_law_methods", .glo "_law_may", .glo "_law_due", .glo "_law_name", .glo "_law_value", .glo "_law_odd_field", .glo "_law_fields", .glo "_law_world", .glo "_law_request", .glo "_law_response", .glo "_law_make", .glo "_law_start", .glo "_law_same", .glo "_law_values_right", .glo "_law_with_right", .glo "_law_without_right", .glo "_law_near", .glo "_law_equal_right", .glo "_law_fetch_right", .glo "_law_made_right", .glo "_law_right", .glo "law", .glo "Message", .glo "Request", .glo "Response", .glo "InvalidValue", .glo "HopError", .glo "InvalidMessage", .glo "InvalidFraming", .glo "ReaderClosed", .free "len", .free "all", .free "any", .free "abs", .free "sum", .free "isinstance", .free "range", .free "int", .free "bool", .free "str", .free "min", .free "max", .free "list", .free "tuple", .free "ValueError", .free "super", .str "LOWER" "abcdefghijklmnopqrstuvwxyz", .str "WORD_SIGNS" "abcdefghijklmnopqrstuvwxyz0123456789-", .str "PATH_SIGNS" "abcdefghijklmnopqrstuvwxyz0123456789/-.", .int "MOST_PATH" 60, .int "MOST_NAME" 30, .int "MOST_VALUE" 200, .cls "Request", .mkr "Request", .noat "Request" "_first_line", .noat "Request" "_has_body", .noat "Request" "fields", .noat "Request" "body", .noat "Request" "method", .noat "Request" "path", .meth "Request" "all_values", .meth "Request" "value", .meth "Request" "joined", .meth "Request" "with_field", .meth "Request" "without", .meth "Request" "remade", .cls "Response", .mkr "Response", .noat "Response" "_first_line", .noat "Response" "_has_body", .noat "Response" "fields", .noat "Response" "body", .noat "Response" "status", .meth "Response" "all_values", .meth "Response" "value", .meth "Response" "joined", .meth "Response" "with_field", .meth "Response" "without", .meth "Response" "remade", .exm "InvalidValue" "InvalidValue" true]
def flS : Str := "/claim/cut.py"
def exs (K : PySem.W.Frag) : List Bool := [ZX.cfnB K "Message" "__init__",
  ZX.readB K "Message",
  ZX.cintB K "Message" "MOST_FIELDS" 40,
  ZX.cintB K "Message" "MOST_BODY" 100000,
  ZX.readB K "Response",
  ZX.ctupB K "Response" "STATUSES" stL,
  ZX.readB K "Request",
  ZX.ctupB K "Request" "METHODS" mdL,
  ZX.propB K "Request" "start",
  ZX.propB K "Response" "start",
  ZX.propB K "Request" "may_have_body",
  ZX.propB K "Response" "may_have_body",
  ZX.cmetB K "Request" "fetch",
  ZX.etupB K (He.dflAt ("Request", some "__init__") 0 K),
  ZX.etupB K (He.dflAt ("Response", some "__init__") 0 K),
  ZX.insCB K (He.ga K "Request"),
  ZX.insCB K (He.ga K "Response"),
  decide (PySem.W.kitOne K (.ref (He.ga K "Request")) (.ref (He.ga K "Message")) = some true),
  decide (PySem.W.kitOne K (.ref (He.ga K "Response")) (.ref (He.ga K "Message")) = some true),
  decide (PySem.W.kitOne K (.ref (He.ga K "Request")) (.ref (He.ga K "Request")) = some true),
  decide (PySem.W.kitOne K (.ref (He.ga K "Request")) (.ref (He.ga K "Response")) = some false),
  decide (PySem.W.kitOne K (.ref (He.ga K "Response")) (.ref (He.ga K "Request")) = some false),
  decide (PySem.W.kitOne K (.ref (He.ga K "Response")) (.ref (He.ga K "Response")) = some true),
  He.eqO (PySem.W.findIn K (.ref (He.ga K "Request")) "__str__") (some (some (.ref (He.ma K (He.ga K "Request") "__str__")))),
  PySem.W.isFn K (.ref (He.ma K (He.ga K "Request") "__str__")),
  He.eqO (PySem.W.findIn K (.ref (He.ga K "Request")) "__eq__") (some (some (.ref (He.ma K (He.ga K "Request") "__eq__")))),
  He.eqO (PySem.W.findIn K (.ref (He.ga K "Response")) "__str__") (some (some (.ref (He.ma K (He.ga K "Response") "__str__")))),
  PySem.W.isFn K (.ref (He.ma K (He.ga K "Response") "__str__")),
  He.eqO (PySem.W.findIn K (.ref (He.ga K "Response")) "__eq__") (some (some (.ref (He.ma K (He.ga K "Request") "__eq__")))),
  PySem.W.isFn K (.ref (He.ma K (He.ga K "Request") "__eq__")),
  PySem.W.notFirst K (He.ga K "Request") (.ref (He.ga K "Request")),
  PySem.W.notFirst K (He.ga K "Request") (.ref (He.ga K "Response")),
  PySem.W.notFirst K (He.ga K "Response") (.ref (He.ga K "Request")),
  PySem.W.notFirst K (He.ga K "Response") (.ref (He.ga K "Response")),
  ZX.errB K flS "InvalidValue",
  ZX.excCB K (He.ga K "InvalidValue"),
  xfB K (He.ga K "InvalidValue"),
  He.eqO (PySem.W.findIn K (.ref (He.ga K "InvalidValue")) "name") (some none),
  decide (PySem.W.kitOne K (.ref (He.ga K "InvalidValue")) (.ref (He.ga K "HopError")) = some true),
  decide (PySem.W.kitOne K (.ref (He.ga K "InvalidValue")) (.type "ValueError") = some true),
  decide (PySem.W.kitOne K (.ref (He.ga K "InvalidValue")) (.ref (He.ga K "InvalidMessage")) = some false),
  decide (PySem.W.kitOne K (.ref (He.ga K "InvalidValue")) (.ref (He.ga K "InvalidFraming")) = some false),
  decide (PySem.W.kitOne K (.ref (He.ga K "InvalidValue")) (.ref (He.ga K "ReaderClosed")) = some false),
  He.eqO (PySem.W.nsIn K cStatics "thirdparty.any") (some none)]
def exK (K : PySem.W.Frag) : Bool := (exs K).all id
theorem exK_at {K : PySem.W.Frag} (h : exK K = true) (i : Nat) {b : Bool} (e : (exs K)[i]? = some b := by rfl) : b = true := List.all_eq_true.mp h b (List.mem_of_getElem? e)
abbrev R : PySem.W.OpenRow := PySem.W.OpenLaw.row PySem.Challenge.rw_hopkeep_k01_messages_made
abbrev hk : PySem.W.Hook := ZX.hookB 5 fas exK fns
def ob (s : PySem.W.SharedT) : ZX.AlA := ZX.obsBG 5 fas exK fns (HandSHeadRun.getT s)
theorem ob_eq (s : PySem.W.SharedT) : ob s = hk.obs s.abs := ZX.obsBG_eq (HandSHeadRun.getT_eq s)
def others : List Str := (["HopError", "InvalidValue", "InvalidMessage", "InvalidFraming", "ReaderClosed", "Message", "Request", "Response", "LOWER", "WORD_SIGNS", "PATH_SIGNS", "MOST_PATH", "MOST_NAME", "MOST_VALUE", "consists_of", "is_plain", "is_plain_lines", "is_path", "is_word", "is_field_name"] : List Str) ++ (["is_value", "are_fields", "is_body", "_law_bag", "_law_draw", "_law_pick", "_law_most", "_law_word", "_law_letters", "_law_signs", "_law_all_in", "_law_is_path", "_law_is_name", "_law_is_value", "_law_statuses", "_law_methods", "_law_may", "_law_due", "_law_name", "_law_value"] : List Str) ++ (["_law_odd_field", "_law_fields", "_law_world", "_law_request", "_law_response", "_law_make", "_law_start", "_law_same", "_law_values_right", "_law_with_right", "_law_without_right", "_law_near", "_law_equal_right", "_law_fetch_right", "_law_made_right", "_law_right"] : List Str)
theorem run0 (w : World) : HandSHeadRun.RunEq R (PySem.W.view R.prog [60]) ZX.hookU ZX.obU 16000 others w := by
  intro o
  kernel_rfl
theorem run1 (w : World) : ZX.RunLooks R 16000 w (ZX.obF 5 fas exK fns) true := by
  intro o
  kernel_rfl
theorem run2 (w : World) : ZX.RunLooks R 16000 w (ZX.obD 5 fas exK fns) (fns.map ZX.DefA.val) := by
  intro o
  kernel_rfl
theorem run (w : World) : HandSHeadRun.RunEq R (PySem.W.view R.prog [60]) hk ob 16000 others w :=
  have z := ZX.run_three (run0 w) (run1 w) (run2 w)
  z
end Z
set_option maxHeartbeats 2000000
namespace ZX
open PySem PySem.W PySem.Calls PyProof.Rows
section
variable {prog : Program} {w : World} {A : Around} {E : Value → Shared → Prop} {h : Heap} {g : Array GenState} {d : Drawn} {t : Nat} {os : OsState}
variable {nm q : Str} {C N : Addr} {bs bm : List Value} {hdct : Bool} {sn : List Str} {sub : List Value} {ab : Bool} {col : Option Bool} {dd : Option Addr} {k0 k1 k2 k3 k5 : Option Value}
theorem call_mw {u e t0 : Addr} {rest : List Value} {Q : Value → Shared → Prop}
    (hC : h.get? C = some (excClassObj nm q C N bs bm hdct sn sub ab col dd k0 k1 k2 k3 k5 "ValueError.__new__")) (he : h.get? e = some (HandSPX.excO C t0)) (hu : h.get? u = some (kxs_mw "ValueError.__init__" e)) (hrest : rest.length ≤ sizeLine)
    (hq : ∀ h' t1, (∀ b o, b ≠ e → h.get? b = some o → h'.get? b = some o) → h'.get? e = some (HandSPX.excO C t1) → Q .none ⟨h', g, d, t, os⟩) :
    wpAny (model prog w) A (call (.ref u) rest) Q E ⟨h, g, d, t, os⟩ := by
  refine wpAny_call (codeAny_of_tree ?_)
  show wpAny _ A.in1 (callAny (.ref u) ⟨rest, []⟩) _ _ _
  simp only [callAny]
  refine wpAny_bind (wpAny_load hu ?_)
  simp only [kxs_mw, show (Value.type "method-wrapper" == Value.type "method" || Value.type "method-wrapper" == Value.type "builtin_function_or_method" || Value.type "method-wrapper" == Value.type "method-wrapper") = true by decide, if_true]
  refine W.KFB.if_so (by decide) ?_
  refine wpAny_bind (ESX.check_bound F.excBase_ValueError hC he rfl ?_)
  refine wpAny_bind (wpAny_pure (wpAny_pure ?_))
  refine ⟨Code.quiet_builtin _ (by decide +kernel), codeAny_builtin F.excBase_ValueError.initEntry ?_⟩
  rw [Around.under_plainId F.excBase_ValueError.init.plain _]
  wp_walk
  refine hq _ h.objs.size (fun b o hb ho => ?_) ?_
  · rw [Heap.get?_update_other _ _ (Ne.symm hb)]
    exact Heap.get?_push_of_some _ ho
  · rw [Heap.get?_update_self _ (Heap.get?_push_of_some _ he) rfl]
    rfl
end
end ZX
set_option maxHeartbeats 2000000
namespace ZX
open PySem PySem.W PySem.Calls PyProof.Rows L2 NdefX
/-- super().__init__(..) of an exception that is being made -/
theorem init_mw {X : Cx} {pins : List (Addr × Obj)} {σ : L2.St} {H : Hp} {s : Shared} {a C u : Addr} {A : Around} {E : Value → Shared → Prop} {us : List Value} {Q : Value → Shared → Prop} (T : OexC X.K C) (I : Inv X ((u, kxs_mw "ValueError.__init__" a) :: pins) σ H s) (e : H a = some (exo a C none)) (hl : us.length ≤ sizeLine)
    (h : ∀ s', Inv X ((u, kxs_mw "ValueError.__init__" a) :: pins) σ H s' → Q .none s') : wpAny (model X.prog X.w) A (call (.ref u) us) Q E s := by
  obtain ⟨nm, q, N, bs, bm, sn, sub, ab, col, dd, k0, k1, k2, k3, k5, hC, hbm⟩ := T.cls
  obtain ⟨t1, ho⟩ := exo_at I.hok e
  have hu := ClX.pin_at I
  obtain ⟨hp, g, d, t, os⟩ := s
  refine call_mw (I.kIn _ _ hC) ho hu hl fun h' t2 k hx => ?_
  have J := I.write (t' := t) (x := a) (e := a) (o := exo a C none) (by rw [e]; exact True.intro) (.inl rfl) k ⟨_, hx⟩ (exo_ok hx)
  have eu : upd H a (exo a C none) = H := by
    funext b
    by_cases hb : b = a
    · rw [hb, upd_same, e]
    · rw [upd_ne hb]
  rw [eu] at J
  exact h _ J
/-- what stands of an error's class, at D, and of its __init__, at f -/
structure Sup (P : Program) (K : Frag) (D f cc cda : Addr) (fd : FuncData) (name qual : Str) (params : Arguments) (body : List Stmt) (scope : Scope) : Prop where
  fn : ∃ (oc : Value) (od : Option Addr) (osl : Array (Option Value)) (dV kV doc pm ct : Value) (an : Option Addr), fd = fnX name qual params body scope [("__class__", cc)] dV kV doc pm an (.ref cda) ct ∧ K.lookup f = some ⟨oc, od, .func fd, osl⟩
  code : codeIn K (.ref cda) qual = true
  cell : ∃ (cl : Value) (cld : Option Addr) (csl : Array (Option Value)), K.lookup cc = some ⟨cl, cld, .cell (some (.ref D)), csl⟩
  file : ∃ (ccl : Value) (cdd : Option Addr) (vs : Array Value) (ccs : Array (Option Value)) (fl : Str) (tf : Tok), K.lookup cda = some ⟨ccl, cdd, .fields vs, ccs⟩ ∧ vs[2]? = some (.str fl tf) ∧ ((P.main.file : Str) == fl) = true
  sup : nsIn K mainGlobals "super" = some none
  third : nsIn K cStatics "thirdparty.any" = some none
  top : (P.main.scope.names.lookup ("super" : Str)).isSome = false
  along : ks_superIn K D D "__init__" = some (some (.builtin "ValueError.__init__"))
  subV : subIn K (.ref D) (.type "ValueError") = some true
  mro : mroIn K D (.ref D) = some true
  oex : OexC K D
section
variable {CX : CXT} {P : Program} {w : World} {K : Frag} {mg : Str → Option Value} {base : Heap} {N ps : List Str} {k : Nat} {f cc cda D : Addr} {fd : FuncData} {name qual : Str} {params : Arguments} {body rest : List Stmt} {scope : Scope} {sp : Sp} {es : List Expr} {p0 p1 p2 p3 p4 : Pos} {ar : Arg}
abbrev nf (name qual : Str) (params : Arguments) (body : List Stmt) (scope : Scope) (cc cda : Addr) : NF := ⟨name, qual, params, body, scope, [("__class__", cc)], cda⟩
theorem fn_pre (T : Sup P K D f cc cda fd name qual params body scope) (S : NScope N ps ["__class__"] scope) (hsup : scope.names.lookup ("super" : Str) = some .globalImplicit) (hp0 : (params.posonlyargs ++ params.args).head? = some ar) (har : ps[0]? = some ar.arg)
    (hb : body = .Expr (.Call (.Attribute (.Call (.Name "super" p0) [] [] p1) "__init__" p2) es [] p3) p4 :: rest)
    (he : ∀ env : Env, eval (.Call (.Attribute (.Call (.Name "super" p0) [] [] p1) "__init__" p2) es [] p3) env = (do
      let ov ← attributeBase (.Call (.Name "super" p0) [] [] p1) "__init__" env (eval (.Call (.Name "super" p0) [] [] p1) env)
      standAt p2.atName
      let (f, first) ← holding [ov] (getMethod ov "__init__" (pure false))
      callWith p3 f first (backTo p3 (starEach es env)) []))
    (hi : ∀ env : Env, env.scope = scope → interactive env = false) (hsw : ∀ env : Env, env.scope = scope → swapsWith (.Call (.Attribute (.Call (.Name "super" p0) [] [] p1) "__init__" p2) es [] p3) none p4.line env = pure false)
    (len : ∀ vs H Q E, sp vs H Q E → vs.length = ps.length)
    (hbody : ∀ (A : Around) (outer : List Env) (s : Shared) (H : Hp) (vs : List V) (Q : VK) (E : XK), Room k (A.deeper (envF (nf name qual params body scope cc cda) f s.heap.objs.size)) → sp vs H Q E →
      ∃ (a : Addr) (vs' : List V), vs = .ref a :: vs' ∧ H a = some (exo a D none) ∧ ∀ (u : Addr) (s2 : Shared), Inv (ncx CX P w K mg base N (nf name qual params body scope cc cda) f A outer s H E) [(u, kxs_mw "ValueError.__init__" a)] (startF N vs [some (.ref D)]) H s2 →
        wpAny (model P w) (A.deeper (envF (nf name qual params body scope cc cda) f s.heap.objs.size)) (callWith p3 (.ref u) [] (backTo p3 (starEach es (envF (nf name qual params body scope cc cda) f s.heap.objs.size))) [])
          (fun _ s3 => wpAny (model P w) (A.deeper (envF (nf name qual params body scope cc cda) f s.heap.objs.size)) (execs rest (envF (nf name qual params body scope cc cda) f s.heap.objs.size))
            (SP (ncx CX P w K mg base N (nf name qual params body scope cc cda) f A outer s H E) [] { nx := fun _ H' => Q .non H', rt := Q }) (ncx CX P w K mg base N (nf name qual params body scope cc cda) f A outer s H E).xe s3)
          (ncx CX P w K mg base N (nf name qual params body scope cc cda) f A outer s H E).xe s2) :
    FnOk P w K mg base CX (k + 1) f fd ps sp := by
  obtain ⟨⟨oc, od, osl, dV, kV, doc, pm, ct, an, rfl, lk⟩, hcd, ⟨cl, cld, csl, lcell⟩, ⟨ccl, cdd, vc, ccs, fl, tf, lcode, hvs, hfile⟩, hsu, hthird, htop, halong, hB, hmro, TO⟩ := T
  refine ⟨len, fun A outer s H args us vs Q E hr e0 hbi r hsp => ?_⟩
  have hl := len _ _ _ _ hsp
  have KX : K.In s.heap := e0.mod.kin.keeps fun b o e => (e0.bs b o e).1
  have lim : s.heap.NoLimit := e0.mod.nolimit.keeps fun b o e => (e0.bs b o e).1
  obtain ⟨a, vs', rfl, ha, hgo⟩ := hbody A outer s H vs Q E (hr.deeper _) hsp
  refine ks_codeAny_call_defAt (fd := fnX name qual params body scope [("__class__", cc)] dV kV doc pm an (.ref cda) ct) (body := body) (binds := ps.zip us) hr.depth (KX _ _ lk) rfl lim (codeRec_of KX hcd) rfl hbi S.nocell (fun ⟨n, _⟩ hy => S.par n (List.of_mem_zip hy).1) (fun h₁ hns kp => ?_) S.co S.gen S.kind
  have C : CellsAt (nf name qual params body scope cc cda).cl ["__class__"] [some (V.ref D)] s.heap H := by
    have hcc : s.heap.get? cc = some ⟨cl, cld, .cell (some (.ref D)), csl⟩ := KX _ _ lcell
    have look : ∀ {y : Str} {c : Addr}, List.lookup y [(("__class__" : Str), cc)] = some c → y = "__class__" ∧ c = cc := fun {y c} e => by
      by_cases h : y = "__class__"
      · subst h
        have : List.lookup ("__class__" : Str) [(("__class__" : Str), cc)] = some cc := by simp [List.lookup]
        rw [this] at e
        exact ⟨rfl, (Option.some.inj e).symm⟩
      · have q : (y == ("__class__" : Str)) = false := by simpa using h
        simp [List.lookup, q] at e
    refine ⟨rfl, fun y c e => ?_, fun x y c e1 e2 => ?_, fun i y e => ?_⟩
    · obtain ⟨_, rfl⟩ := look e
      exact ⟨(e0.bs _ _ (e0.mod.kin _ _ lcell)).2, _, _, hcc, rfl⟩
    · exact (look e1).1.trans (look e2).1.symm
    · cases i with
      | zero =>
        have ey : y = "__class__" := (Option.some.inj e).symm
        subst ey
        refine ⟨cc, by show List.lookup ("__class__" : Str) [(("__class__" : Str), cc)] = some cc; simp [List.lookup], fun v hv => ?_⟩
        have ev : v = .ref D := (Option.some.inj (Option.some.inj hv)).symm
        subst ev
        exact ⟨_, rfl, _, hcc, rfl⟩
      | succ n => simp at e
  have I : Inv (ncx CX P w K mg base N (nf name qual params body scope cc cda) f A outer s H E) [] (startF N (.ref a :: vs') [some (.ref D)]) H { s with heap := h₁, toks := s.toks + (ps.zip us).length } := inv_startN S hr.hd e0 hl r C hns kp
  have hkc : scope.names.lookup ("__class__" : Str) = some .free := S.frk _ List.mem_cons_self
  have KX1 : K.In h₁ := KX.keeps kp
  obtain ⟨cd, hcl, hcdm⟩ : ∃ cd, clsIn K D = some cd ∧ alongIn K "__init__" ((cd.mro.dropWhile (· != .ref D)).drop 1) = some (some (.builtin "ValueError.__init__")) := by
    unfold ks_superIn at halong
    cases hc : clsIn K D with
    | none => rw [hc] at halong; cases halong
    | some cd => rw [hc] at halong; exact ⟨cd, rfl, halong⟩
  obtain ⟨oD, hD1, hD2⟩ : ∃ oD, h₁.get? D = some oD ∧ oD.data = .cls cd := by
    have hD := hcl
    unfold clsIn at hD
    split at hD
    · rename_i c d cd' sl ho
      cases hD
      exact ⟨_, KX1 _ _ ho, rfl⟩
    · cases hD
  obtain ⟨t1, hoe⟩ := exo_at I.hok ha
  have hoe : h₁.get? a = some ({ cls := .ref D, dict := none, data := .fields #[.ref t1, .none, .none, .none, .bool false, .none] } : Obj) := hoe
  have J : InstAt h₁ a ({ cls := .ref D, dict := none, data := .fields #[.ref t1, .none, .none, .none, .bool false, .none] } : Obj) D none := ⟨hoe, rfl, rfl, trivial⟩
  have u0 : us[0]? = some (.ref a) := by
    cases r with
    | cons ra rr =>
      have ra : _ = _ := ra
      rw [ra]
      rfl
  have ndP : ps.Nodup := by
    have q := S.nd.sublist (List.take_sublist (ps.length + (["__class__"] : List Str).length) N)
    rw [S.pre] at q
    exact (List.nodup_append.mp q).1
  have hself : (ps.zip us).reverse.lookup ar.arg = some (.ref a) := zip_look ndP har u0
  obtain ⟨mb, hbl1, hbl2⟩ := I.mod.blt
  show _root_.PySem.wpAt (model P w) (A.deeper (envF (nf name qual params body scope cc cda) f s.heap.objs.size)) (.func body (envF (nf name qual params body scope cc cda) f s.heap.objs.size)) (execs body (envF (nf name qual params body scope cc cda) f s.heap.objs.size)) _ _ _
  rw [hb]
  refine ks_wpAt_execs_cons (ks_wpAt_Expr_any (ks_wpAt_MethodCall ?_ (he _)) (hi _ rfl) (hsw _ rfl))
  refine ks_wpAt_super_base (env := envF (nf name qual params body scope cc cda) f s.heap.objs.size) hsup hkc rfl rfl (KX1 _ _ lk) rfl hp0 rfl (KX1 _ _ lcode) rfl hvs hfile htop ?_
  refine ks_loadName_global S.kind hsup (loadGlobal_builtin (env := envF (nf name qual params body scope cc cda) f s.heap.objs.size) (I.mod.glob.keeps I.bk) (mg_none_of I.mod.kin I.mod.glob hsu) (hbl1.keeps I.bk) ((hbl2 _ (by decide)).trans (show bootBuiltins "super" = some (.type "super") by decide +kernel)) ⟨rfl, ?_⟩)
  refine wpAny_loadName_free S.kind hkc (by show List.lookup ("__class__" : Str) [(("__class__" : Str), cc)] = some cc; simp [List.lookup]) ⟨_, KX1 _ _ lcell, rfl⟩ ?_
  refine wpAny_loadName_local S.kind (S.par _ (List.mem_of_getElem? har)) hns hself ?_
  refine ks_wpAny_isType_cls hD1 hD2 ⟨rfl, ?_⟩
  refine ks_wpAny_call_super hD1 hD2 J.at_ J.cls (fun c e => by cases e) (looks_mroIn KX1 hmro) (fun h' e kh => ?_)
  have I2 : Inv (ncx CX P w K mg base N (nf name qual params body scope cc cda) f A outer s H E) [] (startF N (.ref a :: vs') [some (.ref D)]) H ⟨h', s.gens, s.drawn, s.toks + (ps.zip us).length, s.os⟩ := I.kept kh
  have J2 : InstAt h' a ({ cls := .ref D, dict := none, data := .fields #[.ref t1, .none, .none, .none, .bool false, .none] } : Obj) D none := ⟨kh _ _ hoe, rfl, rfl, trivial⟩
  have KX2 : K.In h' := KX1.keeps kh
  refine kxs_getMethod kxs_ValueError e (looks_opaque KX2 hthird) (l₀ := cd.mro) (fun A Q E s k q => wpAny_bind ((looks_clsIn KX2 hcl) A _ E s k (wpAny_pure q))) rfl KX2 hcdm (J2.type.andThen (looks_subIn KX2 hB)) (ks_ne KX2 J2 hcl) rfl ?_
  have I3 := ClX.pin_new (o := kxs_mw "ValueError.__init__" a) (a := h'.objs.size) (h' := h'.push (kxs_mw "ValueError.__init__" a)) (t' := s.toks + (ps.zip us).length + 1) I2 (fun b o e => Heap.get?_push_of_some _ e) (Nat.le_refl _) (Heap.get?_push_size _ rfl) (fun v z => by cases z)
  refine wpAny_mono (hgo _ _ I3) (fun v s3 h3 => ?_) (fun e s' h' => h')
  show _root_.PySem.wpAt _ _ _ _ _ _ s3
  refine wpAt_of_wpAny (wpAny_mono h3 (fun fl s' hs => ?_) fun e s' h' => h')
  have fin : ∀ {σ' : L2.St} {H' : Hp} {v : V} {u : Value}, Inv (ncx CX P w K mg base N (nf name qual params body scope cc cda) f A outer s H E) [] σ' H' s' → RelV v u → Q v H' → CE outer P w H s Q u s' :=
    fun {σ' H' v u} J rv q => ⟨v, H', J.os, J.bare, J.base, J.hok, rv, q⟩
  cases fl with
  | ret u =>
    obtain ⟨v, σ', H', J, rv, q⟩ := hs
    exact fin J rv q
  | next =>
    obtain ⟨σ', H', J, q⟩ := hs
    exact fin (v := V.non) (u := Value.none) J rfl q
  | brk =>
    obtain ⟨_, _, _, q⟩ := hs
    exact False.elim q
  | cont =>
    obtain ⟨_, _, _, q⟩ := hs
    exact False.elim q
end
end ZX
set_option maxHeartbeats 2000000
namespace ZX
open PySem PySem.W PySem.Calls PyProof.Rows L2 NdefX
section
variable {CX : CXT} {P : Program} {w : World} {K : Frag} {mg : Str → Option Value} {base : Heap} {N ps : List Str} {k : Nat} {f cc cda D : Addr} {fd : FuncData} {name qual : Str} {params : Arguments} {body rest : List Stmt} {scope : Scope} {sp : Sp} {e : Expr} {p0 p1 p2 p3 p4 : Pos} {ar : Arg}
/-- super().__init__(e), then the rest -/
theorem fn_sup1 (T : Sup P K D f cc cda fd name qual params body scope) (S : NScope N ps ["__class__"] scope) (hsup : scope.names.lookup ("super" : Str) = some .globalImplicit) (hp0 : (params.posonlyargs ++ params.args).head? = some ar) (har : ps[0]? = some ar.arg)
    (hb : body = .Expr (.Call (.Attribute (.Call (.Name "super" p0) [] [] p1) "__init__" p2) [e] [] p3) p4 :: rest)
    (he : ∀ env : Env, eval (.Call (.Attribute (.Call (.Name "super" p0) [] [] p1) "__init__" p2) [e] [] p3) env = (do
      let ov ← attributeBase (.Call (.Name "super" p0) [] [] p1) "__init__" env (eval (.Call (.Name "super" p0) [] [] p1) env)
      standAt p2.atName
      let (f, first) ← holding [ov] (getMethod ov "__init__" (pure false))
      callWith p3 f first (backTo p3 (starEach [e] env)) []))
    (hi : ∀ env : Env, env.scope = scope → interactive env = false) (hsw : ∀ env : Env, env.scope = scope → swapsWith (.Call (.Attribute (.Call (.Name "super" p0) [] [] p1) "__init__" p2) [e] [] p3) none p4.line env = pure false)
    (hse : ∀ env : Env, starEach [e] env = (false, eval e env) :: starEach [] env)
    (len : ∀ vs H Q E, sp vs H Q E → vs.length = ps.length)
    (hbody : ∀ (A : Around) (outer : List Env) (s : Shared) (H : Hp) (vs : List V) (Q : VK) (E : XK), Room k (A.deeper (envF (nf name qual params body scope cc cda) f s.heap.objs.size)) → sp vs H Q E →
      ∃ (a : Addr) (vs' : List V) (te : TE) (tr : TS), vs = .ref a :: vs' ∧ H a = some (exo a D none) ∧ PE (ncx CX P w K mg base N (nf name qual params body scope cc cda) f A outer s H E) e te ∧ PSs (ncx CX P w K mg base N (nf name qual params body scope cc cda) f A outer s H E) rest tr ∧
        te (startF N vs [some (.ref D)]) H fun x H1 => [x].length ≤ 1000 ∧ H1 a = some (exo a D none) ∧ tr { nx := fun _ H' => Q .non H', rt := Q } (startF N vs [some (.ref D)]) H1) :
    FnOk P w K mg base CX (k + 1) f fd ps sp := by
  refine fn_pre T S hsup hp0 har hb he hi hsw len fun A outer s H vs Q E hr hsp => ?_
  obtain ⟨a, vs', te, tr, rfl, ha, hpe, hps, hq⟩ := hbody A outer s H vs Q E hr hsp
  refine ⟨a, vs', rfl, ha, fun u s2 I => ?_⟩
  have hpa : PA (ncx CX P w K mg base N (nf name qual params body scope cc cda) f A outer s H E) [e] (tCons te tNil) := pa_cons hpe pa_nil (hse _)
  have hrun := hpa.run p3 [(u, kxs_mw "ValueError.__init__" a)] s2 (startF N (.ref a :: vs') [some (.ref D)]) H (fun ws H1 => ws.length ≤ 1000 ∧ H1 a = some (exo a D none) ∧ tr { nx := fun _ H' => Q .non H', rt := Q } (startF N (.ref a :: vs') [some (.ref D)]) H1) I hq
  have hrun2 : wpAny (model P w) (A.deeper (envF (nf name qual params body scope cc cda) f s.heap.objs.size)) (spliced (backTo p3 (starEach [e] (envF (nf name qual params body scope cc cda) f s.heap.objs.size)))) (fun us s₁ => KxsAt "ValueError.__init__" u a s₁.heap ∧ wpAny (model P w) (A.deeper (envF (nf name qual params body scope cc cda) f s.heap.objs.size)) (call (.ref u) us)
        (fun _ s3 => wpAny (model P w) (A.deeper (envF (nf name qual params body scope cc cda) f s.heap.objs.size)) (execs rest (envF (nf name qual params body scope cc cda) f s.heap.objs.size))
            (SP (ncx CX P w K mg base N (nf name qual params body scope cc cda) f A outer s H E) [] { nx := fun _ H' => Q .non H', rt := Q }) (ncx CX P w K mg base N (nf name qual params body scope cc cda) f A outer s H E).xe s3)
        (ncx CX P w K mg base N (nf name qual params body scope cc cda) f A outer s H E).xe s₁) (ncx CX P w K mg base N (nf name qual params body scope cc cda) f A outer s H E).xe s2 := by
    refine thn hrun fun us s1 ⟨ws, H1, I1, r, hz, hea, hq1⟩ => ⟨ClX.pin_at I1, ?_⟩
    have T2 : OexC (ncx CX P w K mg base N (nf name qual params body scope cc cda) f A outer s H E).K D := T.oex
    refine init_mw (X := ncx CX P w K mg base N (nf name qual params body scope cc cda) f A outer s H E) T2 I1 hea ?_ fun s' J => ?_
    · rw [← r.length, sizeLine_eq]
      omega
    · exact hps.run [] s' _ H1 _ (ClX.unpin J) hq1
  rw [hse] at hrun2 ⊢
  exact kxs_callWith (i := "ValueError.__init__") (x := a) rfl (evalArgs_plain hrun2)
/-- super().__init__(), then the rest -/
theorem fn_sup0 (T : Sup P K D f cc cda fd name qual params body scope) (S : NScope N ps ["__class__"] scope) (hsup : scope.names.lookup ("super" : Str) = some .globalImplicit) (hp0 : (params.posonlyargs ++ params.args).head? = some ar) (har : ps[0]? = some ar.arg)
    (hb : body = .Expr (.Call (.Attribute (.Call (.Name "super" p0) [] [] p1) "__init__" p2) [] [] p3) p4 :: rest)
    (he : ∀ env : Env, eval (.Call (.Attribute (.Call (.Name "super" p0) [] [] p1) "__init__" p2) [] [] p3) env = (do
      let ov ← attributeBase (.Call (.Name "super" p0) [] [] p1) "__init__" env (eval (.Call (.Name "super" p0) [] [] p1) env)
      standAt p2.atName
      let (f, first) ← holding [ov] (getMethod ov "__init__" (pure false))
      callWith p3 f first (backTo p3 (starEach [] env)) []))
    (hi : ∀ env : Env, env.scope = scope → interactive env = false) (hsw : ∀ env : Env, env.scope = scope → swapsWith (.Call (.Attribute (.Call (.Name "super" p0) [] [] p1) "__init__" p2) [] [] p3) none p4.line env = pure false)
    (len : ∀ vs H Q E, sp vs H Q E → vs.length = ps.length)
    (hbody : ∀ (A : Around) (outer : List Env) (s : Shared) (H : Hp) (vs : List V) (Q : VK) (E : XK), Room k (A.deeper (envF (nf name qual params body scope cc cda) f s.heap.objs.size)) → sp vs H Q E →
      ∃ (a : Addr) (vs' : List V) (tr : TS), vs = .ref a :: vs' ∧ H a = some (exo a D none) ∧ PSs (ncx CX P w K mg base N (nf name qual params body scope cc cda) f A outer s H E) rest tr ∧
        tr { nx := fun _ H' => Q .non H', rt := Q } (startF N vs [some (.ref D)]) H) :
    FnOk P w K mg base CX (k + 1) f fd ps sp := by
  refine fn_pre T S hsup hp0 har hb he hi hsw len fun A outer s H vs Q E hr hsp => ?_
  obtain ⟨a, vs', tr, rfl, ha, hps, hq⟩ := hbody A outer s H vs Q E hr hsp
  refine ⟨a, vs', rfl, ha, fun u s2 I => ?_⟩
  refine kxs_callWith (i := "ValueError.__init__") (x := a) rfl (evalArgs_empty ⟨ClX.pin_at I, ?_⟩)
  have T2 : OexC (ncx CX P w K mg base N (nf name qual params body scope cc cda) f A outer s H E).K D := T.oex
  exact init_mw (X := ncx CX P w K mg base N (nf name qual params body scope cc cda) f A outer s H E) T2 I ha (Nat.zero_le _) fun s' J => hps.run [] s' _ H _ (ClX.unpin J) hq
end
end ZX
set_option maxHeartbeats 2000000
namespace ZX
open PySem PySem.Spec PySem.Calls PyProof.Rows L2
/-! ### == by an own __eq__ -/
def rOwnI (C : Addr) (sp : Sp) (E : XK) : R2 := fun x y H Q => ∃ a dx fs b dy gs, x = .ref a ∧ y = .ref b ∧ H a = some (.ins C dx fs) ∧ H b = some (.ins C dy gs) ∧ sp [x, y] H Q E
theorem op_eqOwn {X : Cx} {CX : CXT} {n : Nat} {C g : Addr} {sp : Sp} {E : XK} (hs : PySem.W.findIn X.K (.ref C) "__eq__" = some (some (.ref g))) (hf : PySem.W.isFn X.K (.ref g) = true) (F : FnR X.prog X.w X.K X.mg X.base CX n g sp) (hr : Room n X.A) (hx : Passes CX X E) :
    OpR X (compareOp .Eq) (rOwnI C sp E) := by
  intro pins s σ H x y v u Q I rx ry h
  obtain ⟨a, dx, fs, b, dy, gs, rfl, rfl, ha, hb, q⟩ := h
  cases (show v = Value.ref a from rx)
  cases (show u = Value.ref b from ry)
  obtain ⟨mA, J, _⟩ := ins_get I.hok ha
  obtain ⟨mB, J', _⟩ := ins_get I.hok hb
  obtain ⟨od, J, _⟩ := J.look
  obtain ⟨od', J', _⟩ := J'.look
  obtain ⟨m, hF⟩ := I.fr
  show wpAny (model X.prog X.w) X.A (richCompare .Eq (.ref a) (.ref b)) (EP X pins σ Q) X.xe s
  refine PySem.W.cmp_K (op := .Eq) (tb := .ref C) hr.units0 hF I.ok.mod.kin J J'.type (by simp [PySem.W.notFirst]) hs hf ?_
  refine wpAny_mono (wpAny_call (run_fnR (us := [.ref a, .ref b]) (vs := [.ref a, .ref b]) F hr hx I (.cons rfl (.cons rfl .nil)) q)) (fun w s' z => ?_) fun _ _ x => x
  obtain ⟨z', H', I', rz, qz⟩ := z
  exact SlX.cmpback rz ⟨z', H', I', rz, qz⟩
/-! ### str(o) by an own __str__ -/
def rStrOwn (C : Addr) (sp : Sp) (E : XK) : List V → Hp → VK → Prop := fun xs H Q => ∃ a dx fs, xs = [.ref a] ∧ H a = some (.ins C dx fs) ∧ sp [.ref a] H (fun v H' => ∃ z : Str, v = .str z ∧ Q v H') E
theorem call_strOwn {X : Cx} {CX : CXT} {n : Nat} {C g : Addr} {sp : Sp} {E : XK} (hs : PySem.W.findIn X.K (.ref C) "__str__" = some (some (.ref g))) (hf : PySem.W.isFn X.K (.ref g) = true) (F : FnR X.prog X.w X.K X.mg X.base CX n g sp) (hr : Room (n + 2) X.A)
    (hx : ∀ (H : Hp) (s : Shared) (e : Value) (s' : Shared), CX X.stack H s E e s' → False) : CallR X (.type "str") (rStrOwn C sp E) := by
  intro pins s σ H xs us Q I r h
  obtain ⟨a, dx, fs, rfl, ha, q⟩ := h
  cases r with
  | cons r1 rs =>
    cases rs
    cases r1
    obtain ⟨mA, J, _⟩ := ins_get I.hok ha
    obtain ⟨od, J, _⟩ := J.look
    refine PySem.W.kso_call (by have := hr.un; show X.A.units + 1 + 1 < _; omega) I.kIn J hs hf ?_
    have hr2 : Room n X.A.in1.in1 := (Room.in1 (k := n) (Room.in1 (k := n + 1) hr))
    refine wpAny_call (codeAny_mono (F X.A.in1.in1 X.stack s H [.ref a] [.ref a] _ E hr2 I.env0.in1.in1 (.cons rfl .nil) q) fun r s' hq => ?_)
    cases r with
    | error e => exact (hx _ _ _ _ hq).elim
    | ok fl =>
      cases fl with
      | ret u =>
        obtain ⟨v, H', I2, rv, z, ev, q2⟩ := I.after hq
        subst ev
        obtain ⟨t, e⟩ := (show ∃ t, u = Value.str z t from rv)
        subst e
        exact ⟨.str z, H', I2, ⟨t, rfl⟩, q2⟩
      | next => exact False.elim hq
      | brk => exact False.elim hq
      | cont => exact False.elim hq
/-! ### C.m(e, ..), m a staticmethod; C(e, ..): what they let out told at the slots -/
structure Stat (K : PySem.W.Frag) (C : Addr) (mc : Value) (m : Str) (p g : Addr) : Prop where
  rd : ClX.CRead K C mc
  at_ : PySem.W.findCls K (.ref C) mc m = some (.get (.builtin "staticmethod.__get__") (.ref p) .none (.ref C))
  rc : ∃ rest, PySem.W.recIn K p "staticmethod" = some (.ref g :: rest)
  kp : PySem.W.keepIn K (.ref g) = true
def tStatS (C : Addr) (sp : Sp) (E : L2.St → XK) (ta : TE) (t : TA) : TE := fun σ H Q => ta σ H fun x H1 => x = .ref C ∧ t σ H1 fun vs H2 => sp vs H2 Q (E σ)
def tMakeS (C : Addr) (sp : Sp) (dvs : List V) (E : L2.St → XK) (t : TA) : TE := fun σ H Q => t σ H fun vs H1 => ∀ x dx, H1 x = none → H1 dx = none → dx ≠ x →
  sp (.ref x :: (vs ++ dvs)) (upd (upd H1 dx (.own x)) x (.ins C dx [])) (fun v H2 => v = .non ∧ Q (.ref x) H2) (E σ)
section
variable {X : Cx} {CX : CXT} {k : Nat} {C p g f : Addr} {mc : Value} {fd : FuncData} {ps : List Str} {sp : Sp} {E : L2.St → XK} {o e : Expr} {es : List Expr} {m x : Str} {pos apos xp : Pos} {ta : TE} {t : TA} {pl : Sem Bool} {dvs : List V} {ds : List Value}
theorem pe_statS (he : PE X o ta) (c : Stat X.K C mc m p g) (F : FnOk X.prog X.w X.K X.mg X.base CX k g fd ps sp) (hb : Binds X.K fd ps []) (hr : Room k X.A) (hx : ∀ σ, PassesAt CX X σ (E σ)) (ha : PA X (e :: es) t)
    (hst : starEach (e :: es) X.env = (false, eval e X.env) :: starEach es X.env := by rfl) (hpl : (backTo pos (starEach es X.env)).any (·.1) = false := by rfl)
    (ht : eval (.Call (.Attribute o m apos) (e :: es) [] pos) X.env = (do
      let ov ← eval o X.env
      standAt apos.atName
      let (f, first) ← holding [ov] (getMethod ov m pl)
      callWith pos f first (backTo pos (starEach (e :: es) X.env)) (backToKw pos (keywordEach [] X.env))) := by rfl) :
    PE X (.Call (.Attribute o m apos) (e :: es) [] pos) (tStatS C sp E ta t) := by
  refine ⟨fun pins s σ H Q I h => ?_⟩
  refine PySem.W.methodCall_KW (pl := pl) (thn (he.run pins s σ H _ I h) fun u s1 ⟨x, H1, I1, rx, ex, q⟩ => ?_) ht
  subst ex
  obtain rfl : u = Value.ref C := rx
  obtain ⟨rest, hp⟩ := c.rc
  refine PySem.W.method_cls I1.kIn c.rd.ga (PySem.W.cls_bind I1.kIn c.rd.rd c.at_ (wpAny_call (PySem.W.sm_get (s := { s1 with toks := s1.toks + 1 }) I1.kIn hp (PySem.W.handed_on rfl ?_))))
  refine PySem.W.callWith_K (h₀ := X.base) I1.ok.mod.kin c.kp (thn (ha.run pos pins _ σ H1 _ (I1.tok _) q) fun us s2 ⟨vs, H2, I2, r, q2⟩ => ⟨I2.kIn, ?_⟩) hst hpl
  exact run_fnS F hr hb (hx σ) I2 r q2
theorem run_makeS {pins : List (Addr × Obj)} {σ : L2.St} {H : Hp} {s : Shared} {Q : VK} {us : List Value} {vs : List V} (M : Mk X.K C f) (F : FnOk X.prog X.w X.K X.mg X.base CX k f fd ps sp) (hr : Room (k + 1) X.A) (hb : Binds X.K fd ps ds) (hd : Vals dvs ds)
    (hx : PassesAt CX X σ (E σ)) (I : Inv X pins σ H s) (r : Vals vs us)
    (h : ∀ x dx, H x = none → H dx = none → dx ≠ x → sp (.ref x :: (vs ++ dvs)) (upd (upd H dx (.own x)) x (.ins C dx [])) (fun v H2 => v = .non ∧ Q (.ref x) H2) (E σ)) :
    wpAny (model X.prog X.w) X.A (call (.ref C) us) (EP X pins σ Q) X.xe s := by
  have hq := h (s.heap.objs.size + 1) s.heap.objs.size (I.hok.fresh (Nat.le_succ _)) (I.hok.fresh (Nat.le_refl _)) (Nat.ne_of_lt (Nat.lt_succ_self _))
  have I2 := Inv.made (C := C) I
  have r2 : Vals (V.ref (s.heap.objs.size + 1) :: (vs ++ dvs)) (Value.ref (s.heap.objs.size + 1) :: (us ++ ds)) := .cons rfl (r.append hd)
  have hl : (Value.ref (s.heap.objs.size + 1) :: us ++ ds).length = ps.length := by
    have e := r2.length
    rw [F.len _ _ _ _ hq] at e
    exact e.symm
  refine wpAny_call (make_map (f := f) I.kIn M.makes M.init (beq_iff_eq.mp M.fn) (codeAny_mono (F.run _ X.stack _ _ ⟨Value.ref (s.heap.objs.size + 1) :: us, []⟩ (Value.ref (s.heap.objs.size + 1) :: (us ++ ds)) _ _ (E σ) (hr.make C us [])
    (I2.env0.make C us []) (hb _ (Value.ref (s.heap.objs.size + 1) :: us) I2.kIn hl) r2 hq) fun r s' hq' => ?_))
  cases r with
  | error e => exact hx pins _ _ e s' I2 hq'
  | ok fl =>
    cases fl with
    | ret u =>
      obtain ⟨v, H', I3, rv, ev, q3⟩ := I2.after hq'
      subst ev
      exact ⟨rv, ⟨V.ref (s.heap.objs.size + 1), H', I3, rfl, q3⟩⟩
    | next => exact False.elim hq'
    | brk => exact False.elim hq'
    | cont => exact False.elim hq'
theorem pe_makeS (M : Mk X.K C f) (F : FnOk X.prog X.w X.K X.mg X.base CX k f fd ps sp) (hr : Room (k + 1) X.A) (hg : Gl X x) (hm : X.mg x = some (.ref C)) (hb : Binds X.K fd ps ds) (hd : Vals dvs ds) (hx : ∀ σ, PassesAt CX X σ (E σ))
    (ha : PA X (e :: es) t) (hdb : (x == ("__debug__" : Str)) = false := by decide) (he : starEach (e :: es) X.env = (false, eval e X.env) :: starEach es X.env := by rfl) (hpl : (backTo pos (starEach es X.env)).any (·.1) = false := by rfl) :
    PE X (.Call (.Name x xp) (e :: es) [] pos) (tMakeS C sp dvs E t) := by
  refine ⟨fun pins s σ H Q I h => ?_⟩
  refine wpAny_Call_Name_kw (ld_glob I hg hm ?_ hdb)
  refine PySem.W.callWith_K (h₀ := X.base) I.ok.mod.kin M.kp (thn (ha.run pos pins s σ H _ I h) fun us s1 ⟨vs, H1, I1, r, q⟩ => ⟨I1.kIn, ?_⟩) he hpl
  exact run_makeS M F hr hb hd (hx σ) I1 r q
end
/-! ### text[::-1] -/
open TL in
def revT (z : Str) : Str := ⟨(tl z).reverse.toArray⟩
open TL in
theorem sliceBy_rev (z : Str) (u : Tok) : Txt.sliceBy z none none (-1, u) = revT z := by
  refine ext_tl ?_
  show (Txt.sliceBy z none none (-1, u)).cps.toList = (tl z).reverse
  rw [step_rev_list]
  have hl : z.length = (tl z).length := len_tl z
  refine List.ext_getElem (by rw [List.length_map, List.length_range, List.length_reverse, hl]) fun i h1 h2 => ?_
  rw [List.length_map, List.length_range] at h1
  rw [List.getElem_map, List.getElem_range, List.getElem_reverse]
  have hi : z.length - 1 - i < z.cps.size := by
    show z.length - 1 - i < z.length
    omega
  have e : z.cps.getD (z.length - 1 - i) 0 = z.cps[z.length - 1 - i] := by simp [Array.getD, hi]
  rw [e]
  have e2 : z.cps[z.length - 1 - i] = (tl z)[z.length - 1 - i]'(by rw [← hl]; exact hi) := by simp [tl]
  rw [e2]
  congr 1
def tRevS (te : TE) : TE := fun σ H Q => te σ H fun x H1 => ∃ z : Str, x = .str z ∧ z.length ≤ sizeLine ∧ Q (.str (revT z)) H1
theorem pe_revS {X : Cx} {e : Expr} {te : TE} {k : Nat} {p1 p2 p3 pos : Pos} (he : PE X e te) : PE X (.Subscript e (.Slice none none (some (.UnaryOp .USub (.Constant (.int 1) k p1) p2)) p3) pos) (tRevS te) := by
  refine ⟨fun pins s σ H Q I h => ?_⟩
  refine Subscript_ (thn (he.run pins s σ H _ I h) fun v s1 ⟨x, H1, I1, r1, q1⟩ => ?_)
  obtain ⟨z, ex, hz, q⟩ := q1
  subst ex
  obtain ⟨t, rfl⟩ := r1
  have hst : PO X (some (.UnaryOp .USub (.Constant (.int 1) k p1) p2)) (tPart (tUn (rU fun i => .int (-i)) (tC (.int 1)))) := po_some (pe_un un_neg pe_int)
  refine wpAny_Slice (thn (po_none.run pins s1 σ H1 (fun o H2 => o = none ∧ H2 = H1) I1 ⟨rfl, rfl⟩) fun vl s2 ⟨l, H2, I2, pl, el, e2⟩ => ?_)
  subst el e2
  refine thn (po_none.run pins s2 σ H2 (fun o H3 => o = none ∧ H3 = H2) I2 ⟨rfl, rfl⟩) fun vu s3 ⟨u, H3, I3, pu, eu, e3⟩ => ?_
  subst eu e3
  refine thn (hst.run pins s3 σ H3 (fun o H4 => o = some (-1) ∧ H4 = H3) I3 ⟨1, rfl, -1, rfl, rfl, rfl⟩) fun vs s4 ⟨o, H4, I4, ps, eo, e4⟩ => ?_
  subst eo e4
  have I5 : Inv X pins σ H4 { s4 with heap := s4.heap.push { cls := .type "slice", data := .fields #[vl, vu, vs] } } := I4.kept (t' := s4.toks) fun b ob q => Heap.get?_push_of_some _ q
  show wpAny (model X.prog X.w) X.A (subscriptTail e (.Slice none none (some (.UnaryOp .USub (.Constant (.int 1) k p1) p2)) p3) (.str z t) (.ref s4.heap.objs.size)) (EP X pins σ Q) X.xe { s4 with heap := s4.heap.push { cls := .type "slice", data := .fields #[vl, vu, vs] } }
  refine tail_any (ops := [.str z t, .ref s4.heap.objs.size]) (typeIs_str _ _ _) (PySem.F.slot_str_getitem.lookup) ?_ (by with_unfolding_all rfl)
  obtain ⟨l, rfl, el⟩ := IsPart.raw pl
  cases l with
  | some l => cases el
  | none =>
    obtain ⟨u', rfl, eu'⟩ := IsPart.raw pu
    cases u' with
    | some u' => cases eu'
    | none =>
      obtain ⟨st, rfl, est⟩ := IsPart.raw ps
      cases st with
      | none => cases est
      | some st =>
        obtain ⟨si, st⟩ := st
        have esi : si = -1 := Option.some.inj est
        subst esi
        refine wpAny_getItem_str_slice (l := none) (u := none) (st := some (-1, st)) ⟨_, Heap.get?_push_size _ rfl, rfl, rfl⟩ rfl ?_
        have hl : (Txt.sliceBy z none none (-1, st)).length ≤ sizeLine := by
          rw [step_rev_len]
          exact hz
        have eq := sliceBy_rev z st
        unfold Txt.sliceBy at eq hl
        have hc : ¬ ((((some ((-1 : Int), st)).map (·.1)).getD 1 == 1 && (slicePicked z none none (some (-1, st))).length == z.length) = true) := by
          have : ((((some ((-1 : Int), st)).map (·.1)).getD 1 == 1)) = false := rfl
          rw [this]; simp
        rw [if_neg hc] at eq hl
        show Made.post (if (((some ((-1 : Int), st)).map (·.1)).getD 1 == 1 && (slicePicked z none none (some (-1, st))).length == z.length) = true then Made.val (.str z t) else Made.str ⟨((slicePicked z none none (some (-1, st))).filterMap (z.cps[·]?)).toArray⟩) (EP X pins σ Q) _
        rw [if_neg hc]
        rw [← eq] at q
        exact ⟨hl, .str _, _, I5.tok _, ⟨_, rfl⟩, q⟩
/-! ### isinstance(e, c), e the exception that the suite holds, with a dict of its own -/
section
open PySem.W
variable {prog : Program} {w : World} {A : Around} {E : Value → Shared → Prop} {s : Shared} {K : Frag} {x D : Addr} {ox od : Obj}
theorem kin_classED {Q : Option Value → Shared → Prop} (hga : findIn K (.ref D) "__getattribute__" = some (some (.builtin "BaseException.__getattribute__"))) (hgt : findIn K (.ref D) "__getattr__" = some none) (hsub : subIn K (.ref D) (.type "BaseException") = some true)
    (hdct : hasDictIn K D = true) (ha : findIn K (.ref D) "__class__" = some (some (.builtin "object.__class__")))
    (hn : specialIn K (.builtin "object.__class__") "__get__" = some (some (.builtin "getset_descriptor.__get__"))) (htk : takesIn K (.builtin "object.__class__") = some true) (hm : mroIn K D (.type "object") = some true)
    (X : K.In s.heap) (I : InstAt s.heap x ox D (some od)) (h : Q (some (.ref D)) { s with toks := s.toks + 1 }) : wpAny (model prog w) A (getAttr? (.ref x) "__class__") Q E s := by
  have hf : findObj K D (some od) "__class__" = some (.bind (.builtin "getset_descriptor.__get__") (.builtin "object.__class__")) := findObj_data (by obtain ⟨cd, hc, _⟩ := any_some hdct; rw [hc]; rfl) ha hn htk
  obtain ⟨hp, g, d, t, os⟩ := s
  have L0 := I.type (M := model prog w)
  have L1 := looks_findIn (M := model prog w) X hga
  have L2 := looks_findIn (M := model prog w) X hgt
  have L3 := looks_find (M := model prog w) X I hf
  have sub : Looks (model prog w) hp (isInstance (.ref x) (.type "BaseException")) true := L0.andThen (looks_subIn X hsub)
  have hx0 : (false && onTheHeap (Value.builtin "BaseException.__getattribute__")) = false := rfl
  have hx2 : (Value.builtin "BaseException.__getattribute__" == Value.builtin "object.__getattribute__") = false := by decide +kernel
  have hx1 : (onTheHeap (Value.ref D) && Value.builtin "BaseException.__getattribute__" == Value.builtin "object.__getattribute__") = false := by rw [hx2]; rfl
  unfold getAttr? getAttrBy? getAttrBy
  refine wpAny_bind (wpAny_mkText (wpAny_bind (wpAny_attempt (wpAny_holding (wpAny_bind (L0.at (wpAny_bind (L1.at ?_))))))))
  show wpAny _ _ (if (onTheHeap (Value.ref D) && Value.builtin "BaseException.__getattribute__" == Value.builtin "object.__getattribute__") = true then _ else _) _ _ _
  rw [hx1, if_neg Bool.false_ne_true]
  unfold getAttrByItsOwn hookBefore
  refine wpAny_bind ?_
  rw [if_pos (show onTheHeap (Value.ref D) = true from rfl)]
  refine L2.at ?_
  refine wpAny_bind (wpAny_attempt (wpAny_holding ?_))
  unfold callGetattribute
  rw [hx0, if_neg Bool.false_ne_true]
  unfold boundAndCalled
  rw [PySem.F.excAttr_ValueError.ga.bind (.ref x)]
  refine wpAny_bind (wpAny_pure ?_)
  show wpAny _ _ (call (.builtin "BaseException.__getattribute__") [.ref x, .str "__class__" t]) _ _ _
  refine wpAny_call (codeAny_call_builtin PySem.F.excAttr_ValueError.ga.plain PySem.F.entry_bexc_ga ?_)
  refine @check_slot (model prog w) _ _ ⟨hp, g, d, t + 1, os⟩ "BaseException.__getattribute__" "BaseException" "__getattribute__" (.ref x) [.str "__class__" t] [] _ (by decide +kernel) (by decide +kernel) sub (PySem.F.args_bexc_ga (.ref x) (.str "__class__" t)) ?_
  unfold Builtin.«object.__getattribute__»
  refine wpAny_bind (wpAny_of_eq (a := ((Value.ref x : Value), [Value.str "__class__" t])) (by first | rfl | (simp only [slotArgs]; rfl)) ?_)
  refine wpAny_bind (wpAny_pure (wpAny_bind (L0.at (wpAny_bind (L3.at ?_)))))
  show wpAny _ _ (holding [Value.builtin "object.__class__"] (call (.builtin "getset_descriptor.__get__") [.builtin "object.__class__", .ref x, .ref D]) >>= ret) _ _ _
  refine wpAny_bind (wpAny_holding (wpAny_call (class_get (s := ⟨hp, g, d, t + 1, os⟩) (ox := ox) (od := some od) X I hm ?_)))
  refine wpAny_pure ?_
  show wpAny _ _ (handedOut (.ref D)) _ _ _
  rw [handedOut_of (v := .ref D) rfl]
  first
    | exact wpAny_pure (wpAny_pure h)
    | exact wpAny_pure h
    | exact wpAny_pure (wpAny_bind (wpAny_pure (wpAny_pure h)))
theorem kitx_excD (hga : findIn K (.ref D) "__getattribute__" = some (some (.builtin "BaseException.__getattribute__"))) (hgt : findIn K (.ref D) "__getattr__" = some none) (hsub : subIn K (.ref D) (.type "BaseException") = some true) (hdct : hasDictIn K D = true) (ha : findIn K (.ref D) "__class__" = some (some (.builtin "object.__class__")))
    (hn : specialIn K (.builtin "object.__class__") "__get__" = some (some (.builtin "getset_descriptor.__get__"))) (htk : takesIn K (.builtin "object.__class__") = some true) (hm : mroIn K D (.type "object") = some true) :
    KitX K (.ref x) (.ref D) (fun h => InstAt h x ox D (some od)) where
  ty := fun _ _ _ I => I.type
  it := fun _ _ X _ => by
    obtain ⟨cdD, hcD, _⟩ := any_some hdct
    unfold clsIn at hcD
    split at hcD
    · rename_i c' d' cd' sl' ho
      intro A' Q' E' s' k q
      unfold isType loadHead
      exact wpAny_bind (wpAny_loadPart (k _ _ (X _ _ ho)) (wpAny_pure q))
    · cases hcD
  ne := fun h tp dd its n sl X htp => by
    obtain ⟨cdD, hcD, _⟩ := any_some hdct
    refine Bool.eq_false_iff.mpr fun q => ?_
    have e : D = tp := Value.ref.inj (beq_iff_eq.mp q)
    subst e
    unfold clsIn at hcD
    split at hcD
    · rename_i c' d' cd' sl' ho
      have z := (X _ _ ho).symm.trans htp
      cases z
    · cases hcD
  ca := fun X I k => kin_classED hga hgt hsub hdct ha hn htk hm X I k
end
def rIsED (K : PySem.W.Frag) (D a dd : Addr) : List V → Hp → VK → Prop := fun xs H Q => ∃ (c : V) (cv : Value) (b : Bool) (fs : List (Str × V)), xs = [.ref a, c] ∧ (∀ u, RelV c u → u = cv) ∧ H dd = some (.xd fs) ∧ PySem.W.kitOne K (.ref D) cv = some b ∧ Q (.bl b) H
theorem call_isED {X : Cx} {a D dd : Addr} {oe : Obj} {pn : List (Addr × Obj)} (C : ExcC X.K D) (hz : Zc (.ref D) (some dd) oe) (hf : ∃ vs, oe.data = .fields vs) : CallR (X.suite a ((a, oe) :: pn)) (.builtin "isinstance") (rIsED X.K D a dd) := by
  intro pins s σ H xs us Q I r h
  obtain ⟨c, cv, b, fs, rfl, hcv, hdd, e, q⟩ := h
  cases r with
  | cons rx rr =>
    cases rr with
    | cons rt rr =>
      cases rr
      cases rx
      have ec := hcv _ rt
      subst ec
      obtain ⟨hget, _⟩ := I.pin (a, oe) (List.mem_append.mpr (.inl List.mem_cons_self))
      obtain ⟨vs, hv⟩ := hf
      have hx : ObjOk X.prog X.w H s.heap dd (.xd fs) := I.hok dd _ hdd
      obtain ⟨mA, ⟨od, es, ep, ho, hns⟩, hr⟩ := hx
      have J : PySem.W.InstAt s.heap a oe D (some od) := by
        obtain ⟨oc, odd, oda, osl⟩ := oe
        obtain ⟨h1, h2⟩ := hz
        dsimp only at h1 h2 hv
        subst h1 h2 hv
        exact ⟨hget, rfl, rfl, ho⟩
      exact PySem.W.kia_one (kitx_excD C.hg C.hk C.hs C.hd C.ha C.hn C.ht C.hm) I.kIn J e (fun z => nomatch z) fun tk => ⟨.bl b, H, I.kept (t' := tk) fun _ _ z => z, rfl, q⟩
end ZX
set_option maxHeartbeats 2000000
namespace ZX
open PySem PySem.Spec PyProof.Rows L2 He
/-! ### the head: defs, methods, staticmethods, errors' __init__s, by one Hook -/
/-- where a def stands -/
theorem DefA.parts {K : PySem.W.Frag} {d : DefA} (e : fnC K (d.at_.ad K) = d.val) (c : d.ok K = true) : PySem.W.keepIn K (.ref (d.at_.ad K)) = true ∧ ∃ (oc : Value) (od : Option Addr) (osl : Array (Option Value)) (fd : FuncData), K.lookup (d.at_.ad K) = some ⟨oc, od, .func fd, osl⟩ ∧
    PySem.W.codeIn K fd.code d.qual = true ∧ DflV K fd.defaults (d.dvs K) ∧ fd.name = d.name ∧ fd.qualname = d.qual ∧ fd.params = d.params ∧ fd.body = .stmts d.body ∧ fd.scope = d.scope ∧ fd.globals = mainGlobals ∧ fd.closure.map (·.1) = d.clo ∧ fd.builtins = builtinsNs := by
  obtain ⟨kp, c2⟩ := ba c
  refine ⟨kp, ?_⟩
  unfold fnC at e
  cases q : K.lookup (d.at_.ad K) with
  | none =>
    rw [q] at c2
    cases c2
  | some o =>
    obtain ⟨oc, od, dt, osl⟩ := o
    rw [q] at c2 e
    cases dt with
    | func fd =>
      have e2 : (some (fd.name, fd.qualname, fd.params, fd.body, fd.scope, fd.globals, fd.closure.map (·.1), fd.builtins) : FnC) = some (d.name, d.qual, d.params, .stmts d.body, d.scope, mainGlobals, d.clo, builtinsNs) := e
      simp only [Option.some.injEq, Prod.mk.injEq] at e2
      obtain ⟨h1, h2, h3, h4, h5, h6, h7, h8⟩ := e2
      have c3 : (PySem.W.codeIn K fd.code d.qual && dflB K fd.defaults (d.dvs K)) = true := c2
      obtain ⟨k1, k2⟩ := ba c3
      exact ⟨oc, od, osl, fd, rfl, k1, dflB_ok k2, h1, h2, h3, h4, h5, h6, h7, h8⟩
    | _ => cases c2
theorem DefA.funD {K : PySem.W.Frag} {d : DefA} (e : fnC K (d.at_.ad K) = d.val) (c : d.ok K = true) (hc : d.clo = []) : ∃ fd, FunD K d.name d.qual d.params d.body d.scope (d.dvs K) [] (d.at_.ad K) fd := by
  obtain ⟨kp, oc, od, osl, fd, q, k1, k2, h1, h2, h3, h4, h5, h6, h7, h8⟩ := d.parts e c
  obtain ⟨n1, n2, n3, n4, n5, n6, n7, n8, n9, n10, n11, n12, n13, n14, n15⟩ := fd
  dsimp only at h1 h2 h3 h4 h5 h6 h7 h8 k1 k2
  rw [hc] at h7
  have h7 := List.map_eq_nil_iff.mp h7
  subst h1 h2 h3 h4 h5 h6 h7 h8
  exact ⟨_, ⟨oc, od, n8, n9, n10, n11, n12, n13, n14, osl, rfl, q, k1, k2, .inl rfl⟩, kp⟩
/-! ### an error's class and its __init__ -/
theorem oexCls_ok {K : PySem.W.Frag} {C : Addr} (q : oexClsB K C = true) : ∃ nm qn N bs bm sn sub ab col dd k0 k1 k2 k3 k5, K.lookup C = some (excClassObj nm qn C N bs bm true sn sub ab col dd k0 k1 k2 k3 k5 "ValueError.__new__") ∧ HandSPX.refsVE bm = true := by
  unfold oexClsB at q
  split at q
  · rename_i dd cd sl ho
    split at q
    · rename_i C' bm k0 k1 k2 k3 n k5 hm hs
      simp only [Bool.and_eq_true, beq_iff_eq, Bool.not_eq_true'] at q
      obtain ⟨⟨⟨⟨rfl, rfl⟩, hdel⟩, hd⟩, hok⟩ := q
      obtain ⟨nm, bs, mro, ns, qn, hd', sn, sub, ab, col, del⟩ := cd
      dsimp only at hm hdel hd
      subst hm hdel hd
      have hsl : sl = #[k0, k1, k2, k3, some (.builtin "ValueError.__new__"), k5] := by
        obtain ⟨l⟩ := sl
        simp only at hs
        rw [hs]
      subst hsl
      exact ⟨nm, qn, ns, bs, bm, sn, sub, ab, col, dd, k0, k1, k2, k3, k5, ho, hok⟩
    · cases q
  · cases q
structure Err (P : Program) (K : PySem.W.Frag) (x : Str) (fd : FuncData) (d : DefA) : Prop where
  sup : Sup P K (ga K x) (ma K (ga K x) "__init__") (ccOf K (ma K (ga K x) "__init__")) (cdOf K (ma K (ga K x) "__init__")) fd d.name d.qual d.params d.body d.scope
  init : PySem.W.findIn K (.ref (ga K x)) "__init__" = some (some (.ref (ma K (ga K x) "__init__")))
  ty : PySem.W.typeIn K (.ref (ma K (ga K x) "__init__")) = some (.type "function")
theorem err_ok {P : Program} {K : PySem.W.Frag} {x fl : Str} {d : DefA} (h : errB K fl x = true) (hfl : ((P.main.file : Str) == fl) = true) (htop : (P.main.scope.names.lookup ("super" : Str)).isSome = false) (hs : PySem.W.nsIn K mainGlobals "super" = some none) (h3 : PySem.W.nsIn K cStatics "thirdparty.any" = some none)
    (hat : d.at_ = .met x "__init__") (e : fnC K (d.at_.ad K) = d.val) (c : d.ok K = true) (hc : d.clo = [("__class__" : Str)]) : ∃ fd, Err P K x fd d := by
  obtain ⟨kp, oc, od, osl, fd, q, k1, k2, g1, g2, g3, g4, g5, g6, g7, g8⟩ := d.parts e c
  obtain ⟨a1, h⟩ := ba h
  obtain ⟨a2, h⟩ := ba h
  obtain ⟨a3, h⟩ := ba h
  obtain ⟨a4, h⟩ := ba h
  obtain ⟨a5, h⟩ := ba h
  obtain ⟨a6, h⟩ := ba h
  obtain ⟨a7, h⟩ := ba h
  obtain ⟨a8, h⟩ := ba h
  obtain ⟨a9, h⟩ := ba h
  obtain ⟨a10, h⟩ := ba h
  obtain ⟨a11, a12⟩ := ba h
  have ead : d.at_.ad K = ma K (ga K x) "__init__" := by rw [hat] <;> rfl
  rw [ead] at q kp
  obtain ⟨n1, n2, n3, n4, n5, n6, n7, n8, n9, n10, n11, n12, n13, n14, n15⟩ := fd
  dsimp only at g1 g2 g3 g4 g5 g6 g7 g8 k1 k2
  rw [hc] at g7
  obtain ⟨cc, ecl⟩ : ∃ cc, n7 = [(("__class__" : Str), cc)] := by
    cases n7 with
    | nil => cases g7
    | cons p r =>
      cases r with
      | nil =>
        obtain ⟨y, z⟩ := p
        have : y = "__class__" := by
          have := List.cons.inj g7
          exact this.1
        exact ⟨z, by rw [this]⟩
      | cons p2 r2 => cases (List.cons.inj g7).2
  obtain ⟨cda, ecd⟩ : ∃ cda, n13 = .ref cda := by
    cases n13 with
    | ref c => exact ⟨c, rfl⟩
    | _ => cases k1
  subst ecl ecd g1 g2 g3 g4 g5 g6 g8
  have ecc : ccOf K (ma K (ga K x) "__init__") = cc := by
    unfold ccOf
    rw [q]
  have ecda : cdOf K (ma K (ga K x) "__init__") = cda := by
    unfold cdOf
    rw [q]
  refine ⟨_, ⟨⟨oc, od, osl, _, _, _, _, _, _, rfl, by rw [ecc, ecda]; exact q⟩, by rw [ecda]; exact k1, ?_, ?_, hs, h3, htop, of_decide_eq_true a8, of_decide_eq_true a6, of_decide_eq_true a7, ⟨oexCls_ok a1, eqO_ok a2, of_decide_eq_true a3, of_decide_eq_true a4, a5⟩⟩, eqO_ok a9, of_decide_eq_true a10⟩
  · cases z : K.lookup (ccOf K (ma K (ga K x) "__init__")) with
    | none => rw [z] at a11; cases a11
    | some o =>
      obtain ⟨o1, o2, o3, o4⟩ := o
      rw [z] at a11
      cases o3 with
      | cell v =>
        cases v with
        | none => cases a11
        | some v =>
          have ev : v = .ref (ga K x) := of_decide_eq_true a11
          rw [ev]
          exact ⟨_, _, _, rfl⟩
      | _ => cases a11
  · cases z : K.lookup (cdOf K (ma K (ga K x) "__init__")) with
    | none => rw [z] at a12; cases a12
    | some o =>
      obtain ⟨o1, o2, o3, o4⟩ := o
      rw [z] at a12
      cases o3 with
      | fields vs =>
        have a12 : (match (vs[2]? : Option Value) with
          | some (Value.str f _) => decide (fl = f)
          | _ => false) = true := a12
        cases y : vs[2]? with
        | none => rw [y] at a12; cases a12
        | some v =>
          rw [y] at a12
          cases v with
          | str f t =>
            have ef : fl = f := of_decide_eq_true a12
            exact ⟨_, _, vs, _, f, t, rfl, y, by rw [← ef]; exact hfl⟩
          | _ => cases a12
      | _ => cases a12
/-- what isinstance and the fields ask of an error's class -/
theorem excC_ok {K : PySem.W.Frag} {D : Addr} (h : excCB K D = true) : ExcC K D := by
  obtain ⟨a1, h⟩ := ba h
  obtain ⟨a2, h⟩ := ba h
  obtain ⟨a3, h⟩ := ba h
  obtain ⟨a4, h⟩ := ba h
  obtain ⟨a5, h⟩ := ba h
  obtain ⟨a6, h⟩ := ba h
  obtain ⟨a7, a8⟩ := ba h
  exact ⟨eqO_ok a1, eqO_ok a2, of_decide_eq_true a3, a4, eqO_ok a5, eqO_ok a6, of_decide_eq_true a7, of_decide_eq_true a8⟩
/-- what isinstance asks of an own object's class -/
structure InsC (K : PySem.W.Frag) (C : Addr) : Prop where
  ha : PySem.W.findIn K (.ref C) "__class__" = some (some (.builtin "object.__class__"))
  hn : PySem.W.specialIn K (.builtin "object.__class__") "__get__" = some (some (.builtin "getset_descriptor.__get__"))
  htk : PySem.W.takesIn K (.builtin "object.__class__") = some true
  hm : PySem.W.mroIn K C (.type "object") = some true
theorem insC_ok {K : PySem.W.Frag} {D : Addr} (h : insCB K D = true) : InsC K D := by
  obtain ⟨a5, h⟩ := ba h
  obtain ⟨a6, h⟩ := ba h
  obtain ⟨a7, a8⟩ := ba h
  exact ⟨eqO_ok a5, eqO_ok a6, of_decide_eq_true a7, of_decide_eq_true a8⟩
/-- a staticmethod -/
theorem stat_ok {K : PySem.W.Frag} {x m : Str} (h : statB K x m = true) : Stat K (ga K x) (.type "type") m (ma K (ga K x) m) ((Pl.sta x m).ad K) := by
  obtain ⟨a1, h⟩ := ba h
  obtain ⟨a2, h⟩ := ba h
  obtain ⟨a3, h⟩ := ba h
  obtain ⟨a4, a5⟩ := ba h
  refine ⟨⟨a1, eqO_ok a2⟩, ?_, ?_, a5⟩
  · split at a3
    · rename_i n p C z
      obtain ⟨b1, b2⟩ := ba a3
      obtain ⟨b3, b4⟩ := ba b2
      rw [z, of_decide_eq_true b1, of_decide_eq_true b3, of_decide_eq_true b4]
    · cases a3
  cases z : PySem.W.recIn K (ma K (ga K x) m) "staticmethod" with
  | none => rw [z] at a4; cases a4
  | some l =>
    cases l with
    | nil => rw [z] at a4; cases a4
    | cons v r =>
      rw [z] at a4
      cases v with
      | ref g =>
        have eg : g = (Pl.sta x m).ad K := of_decide_eq_true a4
        exact ⟨r, by rw [eg]⟩
      | _ => cases a4
/-! ### the Hook -/
section
variable {fa : List Fa} {ex : PySem.W.Frag → Bool} {fn : List DefA} {K : PySem.W.Frag}
theorem SaysA.fact (c : SaysA fa ex fn K) (i : Nat) {f : Fa} (h : fa[i]? = some f := by rfl) : f.ok K = true := by
  have c1 := (ba (show ((fa.all fun f => f.ok K) && (ex K && fn.all fun d => d.ok K)) = true from congrArg (fun z : AlA => z.1) c)).1
  exact List.all_eq_true.mp c1 f (List.mem_of_getElem? h)
theorem SaysA.more (c : SaysA fa ex fn K) : ex K = true := (ba (ba (show ((fa.all fun f => f.ok K) && (ex K && fn.all fun d => d.ok K)) = true from congrArg (fun z : AlA => z.1) c)).2).1
theorem SaysA.def_ (c : SaysA fa ex fn K) (i : Nat) {d : DefA} (h : fn[i]? = some d := by rfl) : fnC K (d.at_.ad K) = d.val ∧ d.ok K = true := by
  have c2 := (ba (ba (show ((fa.all fun f => f.ok K) && (ex K && fn.all fun d => d.ok K)) = true from congrArg (fun z : AlA => z.1) c)).2).2
  have e : fn.map (fun d => fnC K (d.at_.ad K)) = fn.map DefA.val := congrArg (fun z : AlA => z.2) c
  have e2 : (fn.map fun d => fnC K (d.at_.ad K))[i]? = (fn.map DefA.val)[i]? := by rw [e]
  rw [List.getElem?_map, List.getElem?_map, h] at e2
  exact ⟨Option.some.inj e2, List.all_eq_true.mp c2 d (List.mem_of_getElem? h)⟩
end
end ZX
set_option maxHeartbeats 2000000
namespace ZX
open PySem PySem.Spec PyProof.Rows L2 TL
/-- C(e, ..), C an own error with its own __init__, where nothing is handled: the error's context is None -/
theorem pmk_oexN {X : Cx} {CX : CXT} {x : Str} {C fI : Addr} {k : Nat} {fd : FuncData} {ps : List Str} {sp : Sp} {ta : TA} {e : Expr} {es : List Expr} {p pos : Pos} (T : OexC X.K C) (iC : PySem.W.findIn X.K (.ref C) "__init__" = some (some (.ref fI)))
    (tI : PySem.W.typeIn X.K (.ref fI) = some (.type "function")) (F1 : FnOk X.prog X.w X.K X.mg X.base CX k fI fd ps sp) (hr : Room (k + 1) X.A) (hb : Binds X.K fd ps []) (hx : Passes CX X (fun _ _ _ => False)) (hg : Gl X x) (hm : X.mg x = some (.ref C)) (ha : PA X (e :: es) ta)
    (hdb : (x == ("__debug__" : Str)) = false := by decide) (he : starEach (e :: es) X.env = (false, eval e X.env) :: starEach es X.env := by rfl) (hpl : (backTo pos (starEach es X.env)).any (·.1) = false := by rfl) :
    L2N.PMk X (.Call (.Name x p) (e :: es) [] pos) (tMkO C sp [] ta) := by
  intro pins s σ H Q I h
  obtain ⟨nm, q, N, bs, bm, sn, sub, ab, col, dd, k0, k1, k2, k3, k5, hC, hbm⟩ := T.cls
  refine wpAny_Call_Name_kw (ld_glob I hg hm ?_ hdb)
  refine PySem.W.callWith_K (h₀ := X.base) I.ok.mod.kin T.kC (thn (ha.run pos pins s σ H _ I h) fun us s1 ⟨vs, H1, I1, r1, hz, q1⟩ => ⟨I1.kIn, ?_⟩) he hpl
  obtain ⟨hp, g, dr, tk, os⟩ := s1
  have new : H1 (hp.objs.size + 1) = none := I1.hok.fresh (Nat.le_succ _)
  have hq := q1 (hp.objs.size + 1) new
  rw [List.append_nil] at hq
  have grow : ∀ b o, hp.get? b = some o → ((hp.push (PySem.W.kdv_tup us)).push (PySem.HandSPX.excO C hp.objs.size)).get? b = some o := fun b o z => Heap.get?_push_of_some _ (Heap.get?_push_of_some _ z)
  have I2 : Inv X pins σ (upd H1 (hp.objs.size + 1) (exo (hp.objs.size + 1) C none)) ⟨(hp.push (PySem.W.kdv_tup us)).push (PySem.HandSPX.excO C hp.objs.size), g, dr, tk, os⟩ :=
    I1.laid (t' := tk) (a := hp.objs.size + 1) (o := exo (hp.objs.size + 1) C none) (h' := (hp.push (PySem.W.kdv_tup us)).push (PySem.HandSPX.excO C hp.objs.size)) grow (Nat.le_succ _) (exo_ok (by heap_get))
  have r2 : Vals (V.ref (hp.objs.size + 1) :: vs) (Value.ref (hp.objs.size + 1) :: us) := .cons rfl r1
  have lens : (Value.ref (hp.objs.size + 1) :: us).length = ps.length := r2.length.symm.trans (F1.len _ _ _ _ hq)
  have b2 := hb _ (Value.ref (hp.objs.size + 1) :: us) I2.kIn (by rw [List.append_nil]; exact lens)
  rw [List.append_nil] at b2
  have few : us.length ≤ sizeLine := by
    rw [← Paired.length r1, sizeLine_eq]
    omega
  show wpAny _ _ (call (.ref C) us) _ _ _
  refine wpAny_call (PySem.HandSPX.call_own F.excBase_ValueError (fun Y => PySem.HandSPX.refsVE_contains Y bm hbm) (I1.kIn _ _ hC) (PySem.W.looks_findIn I1.kIn iC) (fun self => PySem.W.bind_fn I1.kIn self tI) few
    (codeAny_mono (FnOk.run F1 _ X.stack _ _ ⟨Value.ref (hp.objs.size + 1) :: us, []⟩ (Value.ref (hp.objs.size + 1) :: us) _ _ (fun _ _ _ => False) (hr.make C us []) (I2.env0.make C us []) b2 r2 hq) fun r s' hq' => ?_))
  cases r with
  | error er => exact hx pins σ _ _ er s' I2 hq'
  | ok fl =>
    cases fl with
    | next => exact hq'.elim
    | brk => exact hq'.elim
    | cont => exact hq'.elim
    | ret u =>
      obtain ⟨v, H2, os2, bare, un, hok, rv, ev, d, fs, ea, ed, hd1, q2⟩ := hq'
      subst ev
      obtain ⟨h2, g2, d2, t2, os'⟩ := s'
      obtain ⟨t0, G, J, kG, ge, hoe, na⟩ := mk_end0 (d2 := d2) (t2 := t2) I1 (Nat.le_succ _) grow un hok os2 bare ea ed hd1
      exact ⟨rv, hp.objs.size + 1, _, _, ⟨G, g2, d2, t2, os'⟩, _, .ref C, some d, rfl, J, kG, ge, hoe, ⟨rfl, rfl, fun ws hw => by cases hw; rfl⟩, rfl, rfl, na, rfl, bare, raises_own T.exC T.tyC, q2⟩
/-- nothing is let out -/
theorem passN {X : Cx} : Passes (L2N.CX X.prog X.w) X E0 := fun _ _ _ _ _ _ _ h => by
  obtain ⟨_, _, _, _, _, _, _, _, _, _, _, _, z⟩ := h
  exact False.elim z
theorem takesN {X : Cx} : L2N.Takes X (fun _ _ _ _ => False) := fun _ _ x => by
  obtain ⟨_, _, _, _, _, _, _, _, _, _, _, _, _, _, _, _, z⟩ := x
  exact z.elim
/-- isinstance(e, c) of the error that the suite holds, class and dict told by the reading -/
def rIsEG (K : PySem.W.Frag) (a : Addr) (cls : Value) (d : Option Addr) : List V → Hp → VK → Prop := fun xs H Q => ∃ D dd, cls = .ref D ∧ d = some dd ∧ ExcC K D ∧ rIsED K D a dd xs H Q
theorem call_isEG {X : Cx} {a : Addr} {cls : Value} {d : Option Addr} {oe : Obj} {pn : List (Addr × Obj)} (hz : Zc cls d oe) (hf : ∃ vs, oe.data = .fields vs) : CallR (X.suite a ((a, oe) :: pn)) (.builtin "isinstance") (rIsEG X.K a cls d) := by
  intro pins s σ H xs us Q I r h
  obtain ⟨D, dd, rfl, rfl, c, q⟩ := h
  exact call_isED c hz hf pins s σ H xs us Q I r q
/-- err.f, class and dict told by the reading -/
def tXg (K : PySem.W.Frag) (a : Addr) (cls : Value) (d : Option Addr) (f : Str) (te : TE) : TE := fun σ H Q => te σ H fun x H1 => x = .ref a ∧ ∃ C, cls = .ref C ∧ XfC K C ∧ PySem.W.findIn K (.ref C) f = some none ∧ ∃ (dd : Addr) (fs : List (Str × V)) (v : V), d = some dd ∧ H1 dd = some (.xd fs) ∧ fs.lookup f = some v ∧ Q v H1
theorem pe_xg {X : Cx} {a : Addr} {oe : Obj} {cls : Value} {d : Option Addr} {pn : List (Addr × Obj)} {e : Expr} {te : TE} {pos : Pos} {n : Str} (hz : Zc cls d oe) (hf : ∃ vs, oe.data = .fields vs) (he : PE (X.suite a ((a, oe) :: pn)) e te)
    (hb : attributeBase e n X.env (eval e X.env) = eval e X.env := by rfl) : PE (X.suite a ((a, oe) :: pn)) (.Attribute e n pos) (tXg X.K a cls d n te) := by
  refine ⟨fun pins s σ H Q I h => ?_⟩
  refine attr_of hb (thn (he.run pins s σ H _ I h) fun u s1 hh => ?_)
  obtain ⟨x, H1, I1, rx, ex, C, ec, T, hno, dd, fs, v, ed, ea, l, q⟩ := hh
  subst ex
  obtain rfl : u = Value.ref a := rx
  subst ec
  subst ed
  obtain ⟨ha, _⟩ := I1.pin (a, oe) (List.mem_append_left _ List.mem_cons_self)
  obtain ⟨vs, hd⟩ := hf
  have hx : ObjOk X.prog X.w H1 s1.heap dd (.xd fs) := I1.hok dd _ ea
  obtain ⟨mA, hns, hr⟩ := hx
  obtain ⟨od, ho, hl⟩ := lookIn_ns hns
  obtain ⟨u, hu, ru⟩ := RelO.some_of (v := v) (o := mA n) (by rw [← l]; exact hr n)
  have J : PySem.W.InstAt s1.heap a oe C (some od) := ⟨ha, hz.1, by unfold PySem.W.notCls; rw [hd] <;> rfl, by rw [hz.2]; exact ho⟩
  exact HandSPX.exc_get I1.kIn J T.ga T.gg T.exC (PySem.W.findObj_own T.hdC hno rfl (by rw [hl, hu])) (handed_of ru) ⟨v, H1, I1.tok _, ru, q⟩
end ZX
set_option maxHeartbeats 2000000
namespace ZX
open PySem PySem.Spec PyProof.Rows L2 HotX L2H
/-! ### for over a text while an error is handled -/
section
variable {prog : Program} {w : World} {A : Around} {E : Value → Shared → Prop} {s : Shared} {it x1 : Addr} {x : Str} {t : Tok} {i : Nat} {Q : Option Value → Shared → Prop} {ty : String}
theorem hot_ne (hot : HotAt A x1 s.heap) (hit : s.heap.IsStrIter it ty x t i) : x1 ≠ it := fun e => by
  obtain ⟨o, ho, hc, hd⟩ := hit
  obtain ⟨hh, o1, vs1, h1, d1, c1⟩ := hot
  rw [e, ho] at h1
  cases h1
  rw [hd] at d1
  cases d1
  cases c1
theorem ascii_end_hot (hot : HotAt A x1 s.heap) (hit : s.heap.IsStrIter it "str_ascii_iterator" x t i) (hx : x.cps[i]? = none) (hQ : ∀ h', (∀ b o, b ≠ it → s.heap.get? b = some o → h'.get? b = some o) → Q none { s with heap := h' }) : wpAny (model prog w) A (pyNext (.ref it)) Q E s := by
  have ne := hot_ne hot hit
  obtain ⟨o, ho, hc, hd⟩ := id hit
  obtain ⟨hh, o1, vs1, h1, d1, c1⟩ := hot
  unfold pyNext
  refine wpAny_bind (wpAny_attempt (wpAny_callSpecial?_slot (name := Str.ofString "__next__") hit.typeIs F.slot_str_ascii_iterator_next
    (wpAny_call_entry F.slot_str_ascii_iterator_next hit.typeIs F.entry_str_ascii_iterator_next ?_ (F.args_str_ascii_iterator_next_1 _))))
  show wpAny _ _ (field (.ref it) 0 >>= _) _ _ s
  refine wpAny_bind (wpAny_field ho hd (x := .str x t) rfl ?_)
  show wpAny _ _ (field (.ref it) 1 >>= _) _ _ s
  refine wpAny_bind (wpAny_field ho hd (x := .int i 0) rfl ?_)
  simp only [Int.toNat_natCast, hx]
  refine wpAny_bind (wpAny_rule (wpAny_bind (wpAny_setField ho hd (by simp) (wpAny_bind (wpAny_letGo ?_)))))
  show wpAny _ _ (newExc (.type "StopIteration") [] >>= _) _ _ _
  refine wpAny_bind ?_
  simp only [newExc, newTuple]
  refine wpAny_bind (wpAny_newObj_type ?_ (by size_fits))
  refine wpAny_bind (m := firstArgMember _ _) (wpAny_of_eq (a := Value.none) (by first | rfl | (simp only [firstArgMember]; rfl)) ?_)
  refine wpAny_newObj_type ?_ (by size_fits)
  refine raiseNew_hot ⟨hh, o1, vs1, Heap.get?_push_of_some _ (Heap.get?_push_of_some _ ((Heap.get?_update_other _ _ (Ne.symm ne)).trans h1)), d1, c1⟩ (Nat.ne_of_lt (Heap.lt_size (Heap.get?_push_of_some _ ((Heap.get?_update_other _ _ (Ne.symm ne)).trans h1)))) (Heap.get?_push_size _ rfl) rfl (by first | (simp; done) | (simp; omega) | (simp only [Array.size_append]; simp; omega)) ?_
  refine wpAny_bind (wpAny_isInstance (T := "StopIteration") (b := true) ⟨_, Heap.get?_update_self _ (Heap.get?_push_size _ rfl) rfl, rfl⟩ isSubtype_stop ?_)
  refine wpAny_pure (hQ _ fun b o' hb e => ?_)
  refine (Heap.get?_update_other _ _ ?_).trans (Heap.get?_push_of_some _ (Heap.get?_push_of_some _ ((Heap.get?_update_other _ _ (Ne.symm hb)).trans e)))
  exact Ne.symm (Nat.ne_of_lt (Heap.lt_size (Heap.get?_push_of_some _ ((Heap.get?_update_other _ _ (Ne.symm hb)).trans e))))
theorem wide_end_hot (hot : HotAt A x1 s.heap) (hit : s.heap.IsStrIter it "str_iterator" x t i) (hx : x.cps[i]? = none) (hQ : ∀ h', (∀ b o, b ≠ it → s.heap.get? b = some o → h'.get? b = some o) → Q none { s with heap := h' }) : wpAny (model prog w) A (pyNext (.ref it)) Q E s := by
  have ne := hot_ne hot hit
  obtain ⟨o, ho, hc, hd⟩ := id hit
  obtain ⟨hh, o1, vs1, h1, d1, c1⟩ := hot
  unfold pyNext
  refine wpAny_bind (wpAny_attempt (wpAny_callSpecial?_slot (name := Str.ofString "__next__") hit.typeIs F.slot_str_iterator_next
    (wpAny_call_entry F.slot_str_iterator_next hit.typeIs F.entry_str_iterator_next ?_ (F.args_str_iterator_next_1 _))))
  show wpAny _ _ (field (.ref it) 0 >>= _) _ _ s
  refine wpAny_bind (wpAny_field ho hd (x := .str x t) rfl ?_)
  show wpAny _ _ (field (.ref it) 1 >>= _) _ _ s
  refine wpAny_bind (wpAny_field ho hd (x := .int i 0) rfl ?_)
  simp only [Int.toNat_natCast, hx]
  refine wpAny_bind (wpAny_rule (wpAny_bind (wpAny_setField ho hd (by simp) (wpAny_bind (wpAny_letGo ?_)))))
  show wpAny _ _ (newExc (.type "StopIteration") [] >>= _) _ _ _
  refine wpAny_bind ?_
  simp only [newExc, newTuple]
  refine wpAny_bind (wpAny_newObj_type ?_ (by size_fits))
  refine wpAny_bind (m := firstArgMember _ _) (wpAny_of_eq (a := Value.none) (by first | rfl | (simp only [firstArgMember]; rfl)) ?_)
  refine wpAny_newObj_type ?_ (by size_fits)
  refine raiseNew_hot ⟨hh, o1, vs1, Heap.get?_push_of_some _ (Heap.get?_push_of_some _ ((Heap.get?_update_other _ _ (Ne.symm ne)).trans h1)), d1, c1⟩ (Nat.ne_of_lt (Heap.lt_size (Heap.get?_push_of_some _ ((Heap.get?_update_other _ _ (Ne.symm ne)).trans h1)))) (Heap.get?_push_size _ rfl) rfl (by first | (simp; done) | (simp; omega) | (simp only [Array.size_append]; simp; omega)) ?_
  refine wpAny_bind (wpAny_isInstance (T := "StopIteration") (b := true) ⟨_, Heap.get?_update_self _ (Heap.get?_push_size _ rfl) rfl, rfl⟩ isSubtype_stop ?_)
  refine wpAny_pure (hQ _ fun b o' hb e => ?_)
  refine (Heap.get?_update_other _ _ ?_).trans (Heap.get?_push_of_some _ (Heap.get?_push_of_some _ ((Heap.get?_update_other _ _ (Ne.symm hb)).trans e)))
  exact Ne.symm (Nat.ne_of_lt (Heap.lt_size (Heap.get?_push_of_some _ ((Heap.get?_update_other _ _ (Ne.symm hb)).trans e))))
end
theorem turn_strH {P : Program} {w : World} {K : PySem.W.Frag} {tg : Expr} (it : Addr) (x : Str) (t : Tok) (ty : String) (hty : ty = "str_ascii_iterator" ∨ ty = "str_iterator") : TurnH P w K tg (Its x) [it] it (fun i h => h.IsStrIter it ty x t i) where
  mem := by simp
  obj := fun i h st b hb => by
    have e : b = it := by simpa using hb
    subst e
    obtain ⟨o, e, c, d⟩ := st
    exact ⟨o, e, fun v z => by rw [d] at z; cases z⟩
  keep := fun i h h' st k => let ⟨o, ho, r⟩ := st; ⟨o, k it (by simp) o ho, r⟩
  item := by
    intro X hP hw hK hc i pins s σ H E I hf st hg
    subst hP hw hK
    obtain ⟨f0, f1, f2, f3, f4, f5⟩ := hf it (by simp)
    have hlt : i < x.cps.size := hg
    have hcx : x.cps[i]? = some x.cps[i] := Array.getElem?_eq_getElem hlt
    have hno : ["enumerate", "zip", "dict_itemiterator", "dict_reverseitemiterator", "odict_iterator", "itertools.zip_longest", "itertools.pairwise"].contains ty = false := by
      rcases hty with e | e
      · rw [e]; decide
      · rw [e]; decide
    have fin : ∀ h', h'.IsStrIter it ty x t (i + 1) → Heap.SameBut it s.heap h' → ∃ u, some (Value.str ⟨#[x.cps[i]]⟩ s.toks) = some u ∧ wpAny (model X.prog X.w) X.A (letOwnedTupleGo tg (.ref it) u) (fun _ s2 => ∃ y H', Inv X pins σ H' s2 ∧ RelV y u ∧ (Its x).yld i H y H' ∧ s2.heap.IsStrIter it ty x t (i + 1) ∧ ∀ b ∈ [it], H' b = none) E { s with heap := h', toks := s.toks + 1 } := fun h' st' sb => by
      have I1 : Inv X pins σ H { s with heap := h', toks := s.toks + 1 } := I.turned (fun b o hb e => (sb.2 b hb).trans e) f0 f1 f3 f4 f5
      obtain ⟨oi, e, cc, dd⟩ := id st'
      exact ⟨_, rfl, go_of (s := { s with heap := h', toks := s.toks + 1 }) e cc dd hno ⟨.str ⟨#[x.cps[i]]⟩, H, I1, ⟨_, rfl⟩, ⟨rfl, _, hcx, rfl⟩, st', fun b hb => (hf b hb).1⟩⟩
    rcases hty with e | e
    · subst e
      exact wpAny_pyNext_ascii_item st hcx fun h' st' sb => fin h' st' sb
    · subst e
      exact wpAny_pyNext_wide_item st hcx fun h' st' sb => fin h' st' sb
  done := by
    intro X hP hw hK hc i pins s σ H E I hf st hg
    subst hP hw hK
    obtain ⟨f0, f1, f2, f3, f4, f5⟩ := hf it (by simp)
    obtain ⟨x1, hot⟩ := hc.at I
    have hx : x.cps[i]? = none := Array.getElem?_eq_none hg
    rcases hty with e | e
    · subst e
      exact ascii_end_hot hot st hx fun h' eb => ⟨rfl, I.turned (t' := s.toks) (fun b o hb e => eb b o hb e) f0 f1 f3 f4 f5⟩
    · subst e
      exact wide_end_hot hot st hx fun h' eb => ⟨rfl, I.turned (t' := s.toks) (fun b o hb e => eb b o hb e) f0 f1 f3 f4 f5⟩
  self := fun A i s Q E st h => by
    rcases hty with e | e
    · rw [e] at st; exact wpAny_pyIter_striter_ascii st h
    · rw [e] at st; exact wpAny_pyIter_striter_wide st h
theorem oneH {X : Cx} {tg : Expr} {pins : List (Addr × Obj)} {σ : L2.St} {H : Hp} {s : Shared} {R : It → Hp → Prop} {x : Str} {t : Tok} {ty : String} {tk : Nat} (hty : ty = "str_ascii_iterator" ∨ ty = "str_iterator") (I : Inv X pins σ H s) (q : R (Its x) H) :
    PIEH X pins σ tg R (.ref s.heap.objs.size) { s with heap := s.heap.push { cls := .type ty, data := .fields #[.str x t, .int 0 0] }, toks := tk } := by
  refine ⟨s.heap.objs.size, [s.heap.objs.size], _, _, H, rfl, I.kept fun b o e => Heap.get?_push_of_some _ e, turn_strH _ x t ty hty, ⟨_, Heap.get?_push_size _ rfl, rfl, rfl⟩, fun b hb => ?_, q⟩
  have e : b = s.heap.objs.size := by simpa using hb
  subst e
  exact I.fpOk (Nat.le_refl _) (I.hok.fresh (Nat.le_refl _))
theorem pi_strH {X : Cx} {tg e : Expr} {te : TE} (he : PE X e te) : PIH X tg e (iStr te) := by
  refine ⟨fun pins s σ H R I h => ?_⟩
  refine thn (he.run pins s σ H _ I h) fun v s1 ⟨y, H1, I1, r1, x, ex, q⟩ => ?_
  subst ex
  obtain ⟨t, rfl⟩ := r1
  cases ha : x.cps.all (· < 128)
  · exact wpAny_pyIter_wide ha (oneH (.inr rfl) I1 q)
  · exact wpAny_pyIter_ascii ha (oneH (.inl rfl) I1 q)
end ZX
set_option maxHeartbeats 2000000
namespace ZX
open PySem PySem.Spec PyProof.Rows L2
/-! ### a + b, len(a) by own methods -/
theorem op_binOwn {X : Cx} {CX : CXT} {n : Nat} {C g : Addr} {sp : Sp} {E : XK} {op : Operator} (hc : PySem.W.selfFirst X.K C = true) (hs : PySem.W.findIn X.K (.ref C) (PySem.dunder op.info.2) = some (some (.ref g))) (hf : PySem.W.isFn X.K (.ref g) = true)
    (F : FnR X.prog X.w X.K X.mg X.base CX n g sp) (hr : Room n X.A) (hx : Passes CX X E) : OpR X (binaryOp op) (rOwnI C sp E) := by
  intro pins s σ H x y v u Q I rx ry h
  obtain ⟨a, dx, fs, b, dy, gs, rfl, rfl, ha, hb, q⟩ := h
  cases (show v = Value.ref a from rx)
  cases (show u = Value.ref b from ry)
  obtain ⟨mA, J, _⟩ := ins_get I.hok ha
  obtain ⟨mB, J', _⟩ := ins_get I.hok hb
  obtain ⟨od, J, _⟩ := J.look
  obtain ⟨od', J', _⟩ := J'.look
  obtain ⟨m, hF⟩ := I.fr
  refine PySem.W.binop_K hF I.ok.mod.kin J J'.type hc hs hf ?_
  refine wpAny_mono (wpAny_call (run_fnR (us := [.ref a, .ref b]) (vs := [.ref a, .ref b]) F hr hx I (.cons rfl (.cons rfl .nil)) q)) (fun w s' z => ?_) fun _ _ x => x
  obtain ⟨z', H', I', rz, qz⟩ := z
  exact SlX.cmpback rz ⟨z', H', I', rz, qz⟩
/-- len(o) by an own __len__ -/
def rLenOwn (C : Addr) (sp : Sp) (E : XK) : List V → Hp → VK → Prop := fun xs H Q => ∃ a dx fs, xs = [.ref a] ∧ H a = some (.ins C dx fs) ∧ sp [.ref a] H (fun v H' => ∃ i : Int, v = .int i ∧ 0 ≤ i ∧ i < 2 ^ 63 ∧ Q v H') E
theorem call_lenOwn {X : Cx} {CX : CXT} {n : Nat} {C g : Addr} {sp : Sp} {E : XK} (hs : PySem.W.findIn X.K (.ref C) "__len__" = some (some (.ref g))) (hf : PySem.W.isFn X.K (.ref g) = true) (F : FnR X.prog X.w X.K X.mg X.base CX n g sp) (hr : Room (n + 1) X.A)
    (hx : ∀ (H : Hp) (s : Shared) (e : Value) (s' : Shared), CX X.stack H s E e s' → False) : CallR X (.builtin "len") (rLenOwn C sp E) := by
  intro pins s σ H xs us Q I r h
  obtain ⟨a, dx, fs, rfl, ha, q⟩ := h
  cases r with
  | cons r1 rs =>
    cases rs
    cases r1
    obtain ⟨mA, J, _⟩ := ins_get I.hok ha
    obtain ⟨od, J, _⟩ := J.look
    obtain ⟨m, hF⟩ := I.fr
    refine PySem.W.len_K hF I.ok.mod.kin J hs hf ?_
    refine wpAny_call (codeAny_mono (F X.A.in1 X.stack s H [.ref a] [.ref a] _ E hr.in1 I.env0.in1 (.cons rfl .nil) q) fun r s' hq => ?_)
    cases r with
    | error e => exact (hx _ _ _ _ hq).elim
    | ok fl =>
      cases fl with
      | ret u =>
        obtain ⟨v, H', I2, rv, i, ev, i0, i1, q2⟩ := I.after hq
        subst ev
        obtain ⟨t, rfl⟩ := (show ∃ t, u = Value.int i t from rv)
        exact ⟨⟨i0, i1⟩, .int i, H', I2.tok _, ⟨_, rfl⟩, q2⟩
      | next => exact False.elim hq
      | brk => exact False.elim hq
      | cont => exact False.elim hq
end ZX
set_option maxHeartbeats 2000000
namespace ZX
open PySem PySem.Spec PyProof.Rows L2
/-! ### list(d.values()) -/
def tListVals (te : TE) : TE := fun σ H Q => te σ H fun x H1 => ∃ (d : Addr) (kvs : List (Key × V)), x = .ref d ∧ H1 d = some (.dK kvs) ∧ ∀ p, H1 p = none → Q (.ref p) (upd H1 p (.lst (kvs.map Prod.snd)))
theorem pe_listVals {X : Cx} {e : Expr} {te : TE} {p apos cpos pos : Pos} (hc : X.calm = true) (he : PE X e te) (hg : Gl X "list") (hm : X.mg "list" = none) (hv : bootBuiltins "list" = some (.type "list")) (hbase : attributeBase e "values" X.env (eval e X.env) = eval e X.env := by rfl) (hline : (apos.endLine == cpos.line) = true := by rfl)
    (hs : starEach [.Call (.Attribute e "values" apos) [] [] cpos] X.env = (false, eval (.Call (.Attribute e "values" apos) [] [] cpos) X.env) :: starEach [] X.env := by rfl) :
    PE X (.Call (.Name "list" p) [.Call (.Attribute e "values" apos) [] [] cpos] [] pos) (tListVals te) := by
  refine ⟨fun pins s σ H Q I hq => ?_⟩
  refine wpAny_Call_Name_kw (ld_blt I hg hm hv ?_)
  refine PyProof.Rows.callWith_type1 ?_ hs rfl
  rw [hs]
  show wpAny _ _ (spliced ((false, eval (.Call (.Attribute e "values" apos) [] [] cpos) X.env) :: backTo pos (starEach [] X.env))) _ _ s
  refine Calls.spliced_cons ?_
  refine wpAny_Call_method (T := "dict") (id := "dict.values") hbase rfl hline F.plainAttrs_dict F.slot_dict_values F.type_dict_values (thn (he.run pins s σ H _ I hq) fun u s1 ⟨x, H1, I1, rx, d, kvs, ex, hd, q⟩ => ?_)
  subst ex
  obtain rfl : u = Value.ref d := rx
  obtain ⟨hz, hs0, vs, kv, hdo⟩ := I1.hok d _ hd
  obtain ⟨ep, hat⟩ := hdo.dictAt
  have lk : kvs.length = vs.length := Paired.length kv
  have I2 : Inv X pins σ H1 { s1 with heap := s1.heap.push { cls := .type "dict_values", data := .fields #[.ref d] } } := I1.kept (t' := s1.toks) fun b ob q => Heap.get?_push_of_some _ q
  refine ⟨hdo.typeIs, hdo.mapOf.noDict, ?_⟩
  show wpAny _ _ (callWith cpos (.builtin "dict.values") [.ref d] [] []) _ X.xe s1
  refine method_meetsIn F.slot_dict_values F.entry_dict_values rfl (PySem.evalArgs_none ⟨rfl, hdo.typeIs, F.args_dict_values_1 _, _, meets_dict_values (mixKind X.prog X.w) d hs0, ⟨vs, hdo⟩, ?_⟩)
  refine Calls.spliced_nil ?_
  refine PySem.W.kdl_call (PySem.W.kdl_values (knd := mixKind X.prog X.w) (kvs := vs) (ep := ep)) (I1.ok.hd hc) ⟨⟨_, Heap.get?_push_size _ rfl, rfl, rfl⟩, hat.push _⟩ (by omega) fun h' tk acc' c' hkeep hS hacc => ?_
  refine ⟨.ref _, upd H1 _ (.lst (kvs.map Prod.snd)), I2.laid hkeep (Nat.le_refl _) ⟨?_, acc'.toList, c', ?_, ?_⟩, rfl, q _ (I2.hok.fresh (Nat.le_refl _))⟩
  · rw [List.length_map]; exact hz
  · have el : acc'.toList.length = acc'.size := by simp
    refine vals_of_at (by rw [List.length_map, el, hacc.1, lk]) fun j x v h1 h2 => ?_
    obtain ⟨k, hky⟩ := hacc.2 j v (by rw [← Array.getElem?_toList]; exact h2)
    rw [List.getElem?_map] at h1
    cases hj : kvs[j]? with
    | none => rw [hj] at h1; cases h1
    | some kx =>
      rw [hj] at h1
      cases h1
      obtain ⟨y, e1, e2⟩ := LiI.paired_get kv hj
      rw [hky] at e1
      cases e1
      exact e2.2
  · rw [Array.toArray_toList]; exact hS
/-! ### a list of texts == a list of texts -/
def rEqLS (K : PySem.W.Frag) : R2 := fun x y H Q => ∃ (a b : Addr) (xs ys : List Str), x = .ref a ∧ y = .ref b ∧ SqL K H a (xs.map V.str) ∧ SqL K H b (ys.map V.str) ∧ Q (.bl (decide (xs = ys))) H
theorem strs_at {xs : List Str} {us : List Value} (r : Vals (xs.map V.str) us) {j : Nat} (h1 : j < xs.length) (h2 : j < us.length) : ∃ t, us[j] = .str xs[j] t := by
  obtain ⟨y, e, q⟩ := LiI.paired_get r (i := j) (x := V.str xs[j]) (by rw [List.getElem?_map, List.getElem?_eq_getElem h1]; rfl)
  rw [List.getElem?_eq_getElem h2] at e
  cases e
  exact q
theorem all_eq {xs ys : List Str} (hl : xs.length = ys.length) : ((List.range xs.length).all fun j => xs.getD j "" == ys.getD j "") = decide (xs = ys) := by
  by_cases h : xs = ys
  · rw [decide_eq_true h, h]
    exact List.all_eq_true.mpr fun j _ => beq_self_eq_true _
  · rw [decide_eq_false h]
    refine Bool.eq_false_iff.mpr fun z => h (List.ext_getElem hl fun j h1 h2 => ?_)
    have q := eq_of_beq (List.all_eq_true.mp z j (List.mem_range.mpr h1))
    rw [List.getD_eq_getElem?_getD, List.getD_eq_getElem?_getD, List.getElem?_eq_getElem h1, List.getElem?_eq_getElem h2] at q
    exact q
theorem op_eqLS {X : Cx} (hu : X.A.units < cLine) : OpR X (compareOp .Eq) (rEqLS X.K) := by
  intro pins s σ H x y v u Q I rx ry h
  obtain ⟨a, b, xs, ys, rfl, rfl, ha, hb, q⟩ := h
  obtain rfl : v = Value.ref a := rx
  obtain rfl : u = Value.ref b := ry
  obtain ⟨i1, r1, ⟨o1, m1, g1, c1, d1, p1⟩, _⟩ := I.list ha
  obtain ⟨i2, r2, ⟨o2, m2, g2, c2, d2, p2⟩, _⟩ := I.list hb
  have l1 : s.heap.IsList a i1.toArray := ⟨o1, g1, c1, m1, p1⟩
  have l2 : s.heap.IsList b i2.toArray := ⟨o2, g2, c2, m2, p2⟩
  have n1 : xs.length = i1.length := by have := Paired.length r1; rw [List.length_map] at this; exact this
  have n2 : ys.length = i2.length := by have := Paired.length r2; rw [List.length_map] at this; exact this
  have fin : ∀ k : Bool, k = decide (xs = ys) → ∃ (v' : V) (H' : Hp), Inv X pins σ H' s ∧ RelV v' (Value.bool k) ∧ Q v' H' := fun k hk => ⟨.bl k, H, I, rfl, by rw [hk]; exact q⟩
  show wpAny _ _ (richCompare .Eq (.ref a) (.ref b)) _ _ _
  by_cases hl : xs.length = ys.length
  · refine SeqAt.rcP_lists (e := fun j => xs.getD j "" == ys.getD j "") l1 l2 (by simp; omega) hu (fun j h1 h2 => ?_) _ _ ?_
    · have h1' : j < i1.length := by simpa using h1
      have h2' : j < i2.length := by simpa using h2
      obtain ⟨t, e1⟩ := strs_at r1 (j := j) (by omega) h1'
      obtain ⟨t2, e2⟩ := strs_at r2 (j := j) (by omega) h2'
      rw [show i1.toArray[j] = i1[j] by simp, show i2.toArray[j] = i2[j] by simp, e1, e2]
      rw [show xs.getD j "" = xs[j]'(by omega) by rw [List.getD_eq_getElem?_getD, List.getElem?_eq_getElem (by omega)]; rfl, show ys.getD j "" = ys[j]'(by omega) by rw [List.getD_eq_getElem?_getD, List.getElem?_eq_getElem (by omega)]; rfl, ← SeqAt.str_beq]
      exact SeqAt.EqAt.eqP ((SeqRoads2.EqGives.str _ _ t t2).at _ s)
    · refine fin _ ?_
      rw [show i1.toArray.size = xs.length by simp; omega]
      exact all_eq hl
  · obtain ⟨⟨cls, dd, data, sl⟩, ho, hc, n, hd⟩ := id l1
    obtain ⟨⟨cls2, dd2, data2, sl2⟩, ho2, hc2, n2', hd2⟩ := id l2
    simp only at hc hd hc2 hd2
    subst hc hd hc2 hd2
    have ta : s.TypeIs (.ref a) "list" := ⟨_, ho, rfl⟩
    have tb : s.TypeIs (.ref b) "list" := ⟨_, ho2, rfl⟩
    refine wpAny_richCompare_same_room (op := .Eq) ta tb F.slot_list_eq (call_meets F.slot_list_eq ta F.entry_list_eq (F.args_list_eq_2 _ _) (SeqAt.list_eq_lengthsAt a b i1.toArray i2.toArray n n2' dd dd2 sl sl2 ?_) ⟨ho, ho2, ⟨(fun x => nomatch x), fin _ ?_⟩⟩) hu
    · simp; omega
    · exact (decide_eq_false fun e => hl (by rw [e])).symm
end ZX
set_option maxHeartbeats 2000000
namespace ZX
open PySem PySem.Spec PyProof.Rows L2 He
/-! ### C.m(e, ..), m a def of the class (the object is given); cls(e, ..), cls a local -/
structure CFn (K : PySem.W.Frag) (C : Addr) (mc : Value) (m : Str) (g : Addr) : Prop where
  rd : ClX.CRead K C mc
  at_ : ClX.CVal K C mc m (.ref g) (.ref g)
  kp : PySem.W.keepIn K (.ref g) = true
section
variable {X : Cx} {CX : CXT} {k i : Nat} {C p g f : Addr} {mc : Value} {fd : FuncData} {ps : List Str} {sp : Sp} {E : L2.St → XK} {E1 : XK} {o e : Expr} {es : List Expr} {m x : Str} {pos apos xp : Pos} {ta : TE} {t : TA} {pl : Sem Bool} {dvs : List V} {ds : List Value}
theorem pe_clsFn (he : PE X o ta) (c : CFn X.K C mc m g) (F : FnOk X.prog X.w X.K X.mg X.base CX k g fd ps sp) (hb : Binds X.K fd ps []) (hr : Room k X.A) (hx : ∀ σ, PassesAt CX X σ (E σ)) (ha : PA X (e :: es) t)
    (hst : starEach (e :: es) X.env = (false, eval e X.env) :: starEach es X.env := by rfl) (hpl : (backTo pos (starEach es X.env)).any (·.1) = false := by rfl)
    (ht : eval (.Call (.Attribute o m apos) (e :: es) [] pos) X.env = (do
      let ov ← eval o X.env
      standAt apos.atName
      let (f, first) ← holding [ov] (getMethod ov m pl)
      callWith pos f first (backTo pos (starEach (e :: es) X.env)) (backToKw pos (keywordEach [] X.env))) := by rfl) :
    PE X (.Call (.Attribute o m apos) (e :: es) [] pos) (tStatS C sp E ta t) := by
  refine ⟨fun pins s σ H Q I h => ?_⟩
  refine PySem.W.methodCall_KW (pl := pl) (thn (he.run pins s σ H _ I h) fun u s1 ⟨x, H1, I1, rx, ex, q⟩ => ?_) ht
  subst ex
  obtain rfl : u = Value.ref C := rx
  refine PySem.W.method_cls I1.kIn c.rd.ga (ClX.getcval_ok I1 c.rd c.at_ fun s2 I2 => ?_)
  refine PySem.W.callWith_K (h₀ := X.base) I2.ok.mod.kin c.kp (thn (ha.run pos pins _ σ H1 _ I2 q) fun us s2 ⟨vs, H2, I3, r, q2⟩ => ⟨I3.kIn, ?_⟩) hst hpl
  exact run_fnS F hr hb (hx σ) I3 r q2
/-- cls(e, ..) -/
def tMakeV (i : Nat) (C : Addr) (sp : Sp) (dvs : List V) (E : XK) (t : TA) : TE := fun σ H Q => σ[i]? = some (some (.ref C)) ∧ tMake C sp dvs E t σ H Q
theorem pe_makeV (M : Mk X.K C f) (F : FnOk X.prog X.w X.K X.mg X.base CX k f fd ps sp) (hr : Room (k + 1) X.A) (hN : X.N[i]? = some x) (hv : Vis X.env.scope x) (hb : Binds X.K fd ps ds) (hd : Vals dvs ds) (hx : Passes CX X E1) (ha : PA X (e :: es) t)
    (hdb : (x == ("__debug__" : Str)) = false := by decide) (hcd : (x == ("__classdict__" : Str)) = false := by decide)
    (he : starEach (e :: es) X.env = (false, eval e X.env) :: starEach es X.env := by rfl) (hpl : (backTo pos (starEach es X.env)).any (·.1) = false := by rfl) : PE X (.Call (.Name x xp) (e :: es) [] pos) (tMakeV i C sp dvs E1 t) := by
  refine ⟨fun pins s σ H Q I h => ?_⟩
  obtain ⟨hs, ht⟩ := h
  refine wpAny_Call_Name_kw (thn ((pe_var (pos := xp) hN hv hdb hcd).run pins s σ H (fun v H1 => v = .ref C ∧ H1 = H) I ⟨.ref C, hs, rfl, rfl⟩) fun u s1 ⟨v, H1, I1, r1, q1⟩ => ?_)
  obtain ⟨rfl, rfl⟩ := q1
  cases r1
  refine PySem.W.callWith_K (h₀ := X.base) I1.ok.mod.kin M.kp (thn (ha.run pos pins s1 σ _ _ I1 ht) fun us s2 ⟨vs, H2, I2, r, q⟩ => ⟨I2.kIn, ?_⟩) he hpl
  exact run_make M F hr hb hd hx I2 r q
end
/-! ### facts -/
theorem read_ok {K : PySem.W.Frag} {x : Str} (h : readB K x = true) : ClX.CRead K (ga K x) (.type "type") := by
  obtain ⟨a1, a2⟩ := ba h
  exact ⟨a1, eqO_ok a2⟩
/-- a def of the class x, read off the class y (or one below it) -/
theorem cfn_ok {K : PySem.W.Frag} {x m : Str} (h : cfnB K x m = true) : CFn K (ga K x) (.type "type") m (ma K (ga K x) m) := by
  obtain ⟨a1, h⟩ := ba h
  obtain ⟨a2, a3⟩ := ba h
  refine ⟨read_ok a1, ⟨?_, rfl⟩, a3⟩
  split at a2
  · rename_i g z
    rw [z, of_decide_eq_true a2]
  · cases a2
/-- a class's whole number -/
theorem cint_ok {K : PySem.W.Frag} {x m : Str} {n : Int} (h : cintB K x m n = true) : ∃ u, ClX.CVal K (ga K x) (.type "type") m (.int n) u := by
  unfold cintB at h
  split at h
  · rename_i i t z
    have e : i = n := of_decide_eq_true h
    subst e
    exact ⟨_, z, t, rfl⟩
  · cases h
/-- a class's tuple of texts -/
theorem strVs_ok : ∀ {vs : List Value} {zs : List Str}, strVs vs zs = true → Vals (zs.map V.str) vs
  | [], [], _ => .nil
  | [], _ :: _, h => by cases h
  | v :: vs, [], h => by cases v <;> cases h
  | v :: vs, y :: ys, h => by
    cases v with
    | str z t =>
      obtain ⟨h1, h2⟩ := ba h
      have e : z = y := of_decide_eq_true h1
      exact .cons ⟨t, by rw [e]⟩ (strVs_ok h2)
    | _ => cases h
theorem ctup_ok {K : PySem.W.Frag} {x m : Str} {zs : List Str} (h : ctupB K x m zs = true) : ClX.CVal K (ga K x) (.type "type") m (.ref (ctOf K x m)) (.ref (ctOf K x m)) ∧ ∀ H, SqT K H (ctOf K x m) (zs.map V.str) := by
  obtain ⟨a1, a2⟩ := ba h
  refine ⟨⟨?_, rfl⟩, fun H => ?_⟩
  · split at a1
    · rename_i p z
      rw [z, of_decide_eq_true a1]
    · cases a1
  · split at a2
    · rename_i t d its n sl z
      obtain ⟨b1, b2⟩ := ba a2
      obtain ⟨b3, b4⟩ := ba b2
      have e : t = "tuple" := of_decide_eq_true b1
      subst e
      exact .inr ⟨_, its, n, z, rfl, rfl, Nat.le_trans (of_decide_eq_true b3) (by decide), strVs_ok b4⟩
    · cases a2
/-- a classmethod -/
theorem cmet_ok {K : PySem.W.Frag} {x m : Str} (h : cmetB K x m = true) : ClX.CMet K (ga K x) (.type "type") m (ma K (ga K x) m) ((Pl.rcd "classmethod" x m).ad K) := by
  obtain ⟨a3, h⟩ := ba h
  obtain ⟨a4, a5⟩ := ba h
  refine ⟨?_, ?_, a5⟩
  · split at a3
    · rename_i n p C z
      obtain ⟨b1, b2⟩ := ba a3
      obtain ⟨b3, b4⟩ := ba b2
      rw [z, of_decide_eq_true b1, of_decide_eq_true b3, of_decide_eq_true b4]
    · cases a3
  · split at a4
    · rename_i g r z
      exact ⟨r, by rw [z, of_decide_eq_true a4]⟩
    · cases a4
/-- a property's getter -/
theorem prop_ok {K : PySem.W.Frag} {x m : Str} (h : propB K x m = true) : PropOf K (ga K x) m (ma K (ga K x) m) ((Pl.rcd "property" x m).ad K) := by
  obtain ⟨a1, h⟩ := ba h
  obtain ⟨a2, h⟩ := ba h
  obtain ⟨a3, a4⟩ := ba h
  refine ⟨eqO_ok a1, eqO_ok a2, of_decide_eq_true a3, ?_⟩
  split at a4
  · rename_i g r z
    exact ⟨r, by rw [z, of_decide_eq_true a4]⟩
  · cases a4
end ZX
set_option maxHeartbeats 2000000
namespace ZX
open PySem PySem.Spec PyProof.Rows L2 He
/-! ### keyword-only parameters with defaults, some of them given -/
theorem kb0 {K : PySem.W.Frag} {x qual : Str} {params : Arguments} {body : List Stmt} {scope : Scope} {kws : List (Str × V)} {f : Addr} {fd : FuncData} {ps : List Str} (F : FunD K x qual params body scope [] kws f fd) (n : Nat) (ks : List Str) (ms : List (Str × V))
    (g : {α : Type} → List α → List α → List α → List α) (hk : kws ≠ []) (hms : ∀ q ∈ ms, q ∈ kws)
    (hrel : ∀ {vs mz zs : List V} {us mv ws : List Value}, Vals vs us → Vals mz mv → Vals zs ws → Vals (g vs mz zs) (g us mv ws))
    (h : ∀ (D : Addr) (doc pm : Value) (an : Option Addr) (cdv ct : Value) (us mv ws : List Value), us.length = n → mv.length = ms.length → ws.length = ks.length →
      KwChain D ((ms.map (·.1)).zip mv) (bindArgs (PySem.W.fnOf x qual params body scope .none (.ref D) doc pm an cdv ct) ⟨us, ks.zip ws⟩) (ps.zip (g us mv ws))) :
    ∃ mv : List Value, KBn K fd ps n ks (fun us ws => g us mv ws) (fun vs zs => g vs (ms.map (·.2)) zs) := by
  obtain ⟨oc, od, dV, kV, doc, pm, an, cdv, ct, osl, rfl, lk, hcd, hD, hK⟩ := F.ex
  rcases hD with ⟨_, rfl⟩ | ⟨e, _⟩
  · rcases hK with e | ⟨D, rfl, hq⟩
    · exact absurd e hk
    · obtain ⟨mv, hl, rk, hks⟩ := kwd_vals (ms := ms) fun q hm => hq q (hms q hm)
      exact ⟨mv, ⟨fun s us ws X l1 l2 => L2.BindsTo.of_looks fun M => KwChain.looks X hks (h D doc pm an cdv ct us mv ws l1 hl l2), fun r1 r2 => hrel r1 rk r2⟩⟩
  · exact absurd rfl e
/-- no parameter lacks -/
theorem kbAll {K : PySem.W.Frag} {x qual : Str} {params : Arguments} {body : List Stmt} {scope : Scope} {dvs : List V} {kws : List (Str × V)} {f : Addr} {fd : FuncData} {ps : List Str} (F : FunD K x qual params body scope dvs kws f fd) (n : Nat) (ks : List Str)
    (g : {α : Type} → List α → List α → List α)
    (hrel : ∀ {vs zs : List V} {us ws : List Value}, Vals vs us → Vals zs ws → Vals (g vs zs) (g us ws))
    (h : ∀ (dV kV doc pm : Value) (an : Option Addr) (cdv ct : Value) (us ws : List Value), us.length = n → ws.length = ks.length → (dvs = [] → dV = .none) →
      bindArgs (PySem.W.fnOf x qual params body scope dV kV doc pm an cdv ct) ⟨us, ks.zip ws⟩ = pure (ps.zip (g us ws))) :
    KBn K fd ps n ks (fun us ws => g us ws) (fun vs zs => g vs zs) := by
  obtain ⟨oc, od, dV, kV, doc, pm, an, cdv, ct, osl, rfl, lk, hcd, hD, hK⟩ := F.ex
  exact ⟨fun s us ws X l1 l2 => .of_eq (h dV kV doc pm an cdv ct us ws l1 l2 fun e => by
    rcases hD with ⟨_, e2⟩ | ⟨e2, _⟩
    · exact e2
    · exact absurd e e2), fun r1 r2 => hrel r1 r2⟩
section
variable {X : Cx} {CX : CXT} {k n : Nat} {C g f : Addr} {mc : Value} {fd : FuncData} {ps ks : List Str} {sp : Sp} {E : L2.St → XK} {E1 : XK} {o e : Expr} {es : List Expr} {kws : List Keyword} {m x : Str} {p pos apos : Pos} {ta : TE} {t tk : TA} {pl : Sem Bool}
  {gg : List Value → List Value → List Value} {gV : List V → List V → List V}
/-- C(k = v, ..) -/
theorem pe_makeN0 (M : Mk X.K C f) (F : FnOk X.prog X.w X.K X.mg X.base CX k f fd ps sp) (hr : Room (k + 1) X.A) (hg : Gl X x) (hm : X.mg x = some (.ref C)) (hb : KBn X.K fd ps 1 ks gg gV) (hx : Passes CX X E1)
    (hkw : PK X kws tk) (hall : (backToKw pos (keywordEach kws X.env)).all (·.1.isSome) = true := by rfl) (hks : (backToKw pos (keywordEach kws X.env)).filterMap (·.1) = ks := by rfl)
    (hdb : (x == ("__debug__" : Str)) = false := by decide)
    (hpl : ((backTo pos (starEach [] X.env)).any (·.1) || (backToKw pos (keywordEach kws X.env)).any (·.1.isNone)) = false := by rfl) :
    PE X (.Call (.Name x p) [] kws pos) (tMakeN C 0 ks.length sp gV E1 tNil tk) := by
  refine ⟨fun pins s σ H Q I h => ?_⟩
  refine wpAny_Call_Name_kw (ld_glob I hg hm (PySem.W.callWith_KW0 (h₀ := X.base) I.ok.mod.kin M.kp hall ?_ hpl) hdb)
  refine thn (hkw.run pos pins s σ H _ I h) fun ws s2 ⟨zs, H2, I2, rz, l1, l2, q2⟩ => ⟨I2.kIn, ?_⟩
  rw [hks]
  exact run_makeN (us := []) (vs := []) M F hr hb hx I2 .nil rz l1 l2 q2
/-- a call with keywords, errors at the reading σ -/
theorem run_fnKS {pins : List (Addr × Obj)} {σ : L2.St} {H : Hp} {s : Shared} {Q : VK} {E : XK} {us ws : List Value} {vs zs : List V} (F : FnOk X.prog X.w X.K X.mg X.base CX k f fd ps sp) (hr : Room k X.A) (hb : KBn X.K fd ps n ks gg gV) (hx : PassesAt CX X σ E)
    (I : Inv X pins σ H s) (r : Vals vs us) (rz : Vals zs ws) (l1 : vs.length = n) (l2 : zs.length = ks.length) (h : sp (gV vs zs) H Q E) : wpAny (model X.prog X.w) X.A (call (.ref f) us (ks.zip ws)) (EP X pins σ Q) X.xe s := by
  have r2 := hb.rel r rz
  refine wpAny_call (codeAny_mono (F.run X.A X.stack s H ⟨us, ks.zip ws⟩ (gg us ws) (gV vs zs) Q E hr I.env0 (hb.to s us ws I.kIn (r.length.symm.trans l1) (rz.length.symm.trans l2)) r2 h) fun r s' hq => ?_)
  cases r with
  | error e => exact hx pins H s e s' I hq
  | ok fl =>
    cases fl with
    | ret u => exact I.after hq
    | next => exact False.elim hq
    | brk => exact False.elim hq
    | cont => exact False.elim hq
def tClsK (C : Addr) (n m : Nat) (sp : Sp) (gV : List V → List V → List V) (E : L2.St → XK) (ta : TE) (t tk : TA) : TE := fun σ H Q => ta σ H fun x H1 => x = .ref C ∧ t σ H1 fun vs H2 => tk σ H2 fun zs H3 => vs.length = n ∧ zs.length = m ∧ sp (gV vs zs) H3 Q (E σ)
/-- C.m(e, .., k = v, ..), m a def of the class -/
theorem pe_clsFnK (he : PE X o ta) (c : CFn X.K C mc m g) (F : FnOk X.prog X.w X.K X.mg X.base CX k g fd ps sp) (hb : KBn X.K fd ps n ks gg gV) (hr : Room k X.A) (hx : ∀ σ, PassesAt CX X σ (E σ)) (ha : PA X (e :: es) t) (hkw : PK X kws tk)
    (hall : (backToKw pos (keywordEach kws X.env)).all (·.1.isSome) = true := by rfl) (hks : (backToKw pos (keywordEach kws X.env)).filterMap (·.1) = ks := by rfl)
    (hst : starEach (e :: es) X.env = (false, eval e X.env) :: starEach es X.env := by rfl)
    (hpl : ((backTo pos (starEach (e :: es) X.env)).any (·.1) || (backToKw pos (keywordEach kws X.env)).any (·.1.isNone)) = false := by rfl)
    (ht : eval (.Call (.Attribute o m apos) (e :: es) kws pos) X.env = (do
      let ov ← eval o X.env
      standAt apos.atName
      let (f, first) ← holding [ov] (getMethod ov m pl)
      callWith pos f first (backTo pos (starEach (e :: es) X.env)) (backToKw pos (keywordEach kws X.env))) := by rfl) :
    PE X (.Call (.Attribute o m apos) (e :: es) kws pos) (tClsK C n ks.length sp gV E ta t tk) := by
  refine ⟨fun pins s σ H Q I h => ?_⟩
  refine PySem.W.methodCall_KW (pl := pl) (thn (he.run pins s σ H _ I h) fun u s1 ⟨x, H1, I1, rx, ex, q⟩ => ?_) ht
  subst ex
  obtain rfl : u = Value.ref C := rx
  refine PySem.W.method_cls I1.kIn c.rd.ga (ClX.getcval_ok I1 c.rd c.at_ fun s2 I2 => ?_)
  refine PySem.W.callWith_KW (h₀ := X.base) I2.ok.mod.kin c.kp hall (thn (ha.run pos pins _ σ H1 _ I2 q) fun us s2 ⟨vs, H2, I3, r, q2⟩ => ?_) hpl hst
  refine thn (hkw.run pos pins s2 σ H2 _ I3 q2) fun ws s3 ⟨zs, H3, I4, rz, l1, l2, q3⟩ => ⟨I4.kIn, ?_⟩
  rw [hks]
  exact run_fnKS F hr hb (hx σ) I4 r rz l1 l2 q3
end
end ZX
set_option maxHeartbeats 2000000
namespace ZX
open PySem PySem.Spec PyProof.Rows L2 He
/-! ### min(xs, default=..) of ints, max of several ints -/
section
variable {P : Program} {w : World} {A : Around} {R : Result → Shared → Prop} {I S : Addr} {fp wr : List Addr} {n : Nat} {Pv : Nat → Value → Prop} {St : Nat → Heap → Prop} {kw : List (Str × Value)}
theorem nm_min : (toString "min" ++ toString ".loop" : String) = "min.loop" := by decide
theorem minD_loop (W : Walks P w A.in1 I fp wr n Pv St) (bt : Nat → Nat → Bool) (hc : CmpOf P w A.in1 .Lt Pv bt) (nS : S ∉ fp) :
    ∀ (r i : Nat) (s : Shared) (u : Value) (c : Nat), n - (i + 1) = r → i + 1 ≤ n → St (i + 1) s.heap → Pv (argBest bt i) u →
    s.heap.get? S = some { cls := .type "list", dict := none, data := .seq #[u, u] c, slots := #[] } →
    (∀ v g tk, Pv (argBest bt (n - 1)) v → (∀ b o, b ∉ wr → b ≠ S → s.heap.get? b = some o → g.get? b = some o) → R (.ok (.ret v)) { s with heap := g, toks := tk }) →
    codeAny (model P w) A (.builtin "min.loop" ⟨[.ref I, .none, .ref S], kw⟩) R s := by
  have nW : S ∉ wr := fun h => nS (W.sub _ h)
  intro r
  induction r with
  | zero =>
    intro i s u c hr hi hst hu hS hR
    have e : i + 1 = n := by omega
    refine codeAny_builtin PySem.F.entry_min_loop ?_
    rw [Around.under_plainId PySem.F.plain_min_loop ⟨[.ref I, .none, .ref S], kw⟩]
    show wpAny _ A.in1 (seqItems? (Value.ref S) >>= _) _ _ s
    refine wpAny_bind <| wpAny_seqItems hS rfl ?_
    show wpAny _ A.in1 (tryCatch (pyNext (Value.ref I)) _ >>= _) _ _ s
    refine wpAny_bind <| wpAny_tryCatch <| W.done s _ _ (e ▸ hst) fun g tk keep => ?_
    have hS2 := keep S _ nW hS
    show wpAny _ A.in1 (updateSeq S (fun _ => (#[] : Array Value)) >>= _) _ _ _
    refine wpAny_bind <| wpAny_updateSeq hS2 rfl <| wpAny_bind <| wpAny_letGo <| wpAny_pure ?_
    exact hR u _ tk (by rw [← e]; exact hu) fun b o b1 b2 z => (Heap.get?_update_other _ _ (Ne.symm b2)).trans (keep b o b1 z)
  | succ r ih =>
    intro i s u c hr hi hst hu hS hR
    have lt : i + 1 < n := by omega
    refine codeAny_builtin PySem.F.entry_min_loop ?_
    rw [Around.under_plainId PySem.F.plain_min_loop ⟨[.ref I, .none, .ref S], kw⟩]
    show wpAny _ A.in1 (seqItems? (Value.ref S) >>= _) _ _ s
    refine wpAny_bind <| wpAny_seqItems hS rfl ?_
    show wpAny _ A.in1 (tryCatch (pyNext (Value.ref I)) _ >>= _) _ _ s
    refine wpAny_bind <| wpAny_tryCatch <| W.item (i + 1) s _ _ lt hst fun v g tk hv hst2 keep => ?_
    have hS2 := keep S _ nW hS
    show wpAny _ A.in1 (tryCatch (holding [v, v] (richCompare .Lt v u >>= _)) _ >>= _) _ _ _
    refine wpAny_bind <| wpAny_tryCatch <| wpAny_holding <| wpAny_bind <| hc (i + 1) (argBest bt i) v u _ _ _ hv hu ?_
    refine wpAny_bind <| wpAny_holding <| wpAny_truthy_bool ?_
    refine wpAny_bind <| wpAny_letGo <| wpAny_pure ?_
    cases q : bt (i + 1) (argBest bt i) with
    | true =>
      rw [if_pos rfl]
      refine wpAny_bind ?_
      refine wpAny_updateSeq hS2 rfl <| wpAny_bind <| wpAny_letGo ?_
      rw [nm_min]
      refine wpAny_pure ⟨plainId_quiet PySem.F.plain_min_loop _, ih (i + 1) _ v _ (by omega) lt (W.frame _ _ _ hst2 fun b hb o z => ?_) (by simp only [argBest, q, if_true]; exact hv) (Heap.get?_update_self _ hS2 rfl) fun v2 g2 tk2 h2 k2 => ?_⟩
      · exact (Heap.get?_update_other _ _ (fun h : S = b => nS (h ▸ hb))).trans z
      · exact hR v2 g2 tk2 h2 fun b o b1 b2 z => k2 b o b1 b2 ((Heap.get?_update_other _ _ (Ne.symm b2)).trans (keep b o b1 z))
    | false =>
      rw [if_neg Bool.false_ne_true]
      refine wpAny_bind <| wpAny_letGo ?_
      rw [nm_min]
      exact wpAny_pure ⟨plainId_quiet PySem.F.plain_min_loop _, ih (i + 1) _ u c (by omega) lt hst2 (by simp only [argBest, q, Bool.false_eq_true, if_false]; exact hu) hS2 fun v2 g2 tk2 h2 k2 => hR v2 g2 tk2 h2 fun b o b1 b2 z => k2 b o b1 b2 (keep b o b1 z)⟩
end
theorem args_minD (a v : Value) : argsOk "min" ⟨[a], [(Str.ofString "default", v)]⟩ := by unfold argsOk; kernel_rfl
def rMinD (K : PySem.W.Frag) (d : V) : List V → Hp → VK → Prop := fun vs H Q => ∃ (a : Addr) (ns : List Int), vs = [V.ref a] ∧ SqL K H a (ns.map V.int) ∧ (ns = [] → Q d H) ∧ ∀ m, m ∈ ns → (∀ y, y ∈ ns → m ≤ y) → Q (.int m) H
section
variable {P : Program} {w : World} {A : Around} {E : Value → Shared → Prop} {s : Shared} {l : Addr} {its : List Value} {ns : List Int} {d : Value} {Q : Value → Shared → Prop}
theorem minD_raw (hh : A.handled = none) (hl : s.heap.IsList l its.toArray) (hi : IntsAre its ns)
    (h0 : ns = [] → ∀ g tk, (∀ b o, s.heap.get? b = some o → g.get? b = some o) → Q d { s with heap := g, toks := tk })
    (h1 : ∀ g tk M t, (∀ b o, s.heap.get? b = some o → g.get? b = some o) → M ∈ ns → (∀ a, a ∈ ns → M ≤ a) → Q (.int M t) { s with heap := g, toks := tk }) :
    wpAny (model P w) A (call (.builtin "min") [.ref l] [(Str.ofString "default", d)]) Q E s := by
  obtain ⟨xs, e⟩ := hi.allInts.items
  have hn : numsOf (intItems xs).toList = ns := by rw [← e]; exact hi.numsOf
  rw [nums_intItems] at hn
  subst hn
  rw [e] at hl
  refine kmb_tree PySem.F.kind_min PySem.F.plain_min PySem.F.entry_min (args_minD _ _) ?_
  show wpAny _ A.in1 (Builtin.Builtins.bindParams "min" ["key", "default"] 0 ⟨[], [(Str.ofString "default", d)]⟩ >>= _) _ _ s
  refine wpAny_bind <| wpAny_of_eq (show Builtin.Builtins.bindParams "min" ["key", "default"] 0 ⟨[], [(Str.ofString "default", d)]⟩ = pure [none, some d] from rfl) ?_
  refine wpAny_bind <| wpAny_pure ?_
  refine wpAny_bind <| iter_intList hl fun s2 e2 st hfp ne => ?_
  subst e2
  refine wpAny_bind <| wpAny_newList ?_ (Nat.zero_le _)
  rw [nm_min]
  refine wpAny_pure ⟨plainId_quiet PySem.F.plain_min_loop _, ?_⟩
  have W := Walks.list (prog := P) (w := w) (A := A.in1) hh _ l ne (intItems xs)
  generalize hs2 : ({ s with heap := s.heap.push { cls := .type "list_iterator", data := .fields #[.ref l, .int 0 0] } } : Shared) = s2 at st hfp
  have old : ∀ b o, s.heap.get? b = some o → s2.heap.get? b = some o := fun b o z => by
    rw [← hs2]
    exact Heap.get?_push_of_some _ z
  have nI : ∀ b o, s.heap.get? b = some o → b ∉ [s.heap.objs.size] := fun b o z hb => by
    rw [List.mem_singleton.mp hb] at z
    exact Nat.lt_irrefl _ (Heap.lt_size z)
  have nF : s2.heap.objs.size ∉ [s.heap.objs.size, l] := fun hb => Nat.lt_irrefl _ (hfp _ hb)
  have st2 := W.frame 0 s2.heap (s2.heap.push { cls := .type "list", data := .seq #[] 0 }) st fun b _ o z => Heap.get?_push_of_some _ z
  have hS : (s2.heap.push { cls := .type "list", data := .seq #[] 0 }).get? s2.heap.objs.size = some { cls := .type "list", data := .seq #[] 0 } := Heap.get?_push_size _ rfl
  have old2 : ∀ b o, s.heap.get? b = some o → (s2.heap.push { cls := .type "list", data := .seq #[] 0 }).get? b = some o := fun b o z => Heap.get?_push_of_some _ (old b o z)
  have nSb : ∀ b o, s.heap.get? b = some o → b ≠ s2.heap.objs.size := fun b o z e => by
    have := Heap.lt_size (old b o z)
    rw [e] at this
    exact Nat.lt_irrefl _ this
  show codeAny (model P w) A (.builtin "min.loop" ⟨[.ref s.heap.objs.size, .none, .ref s2.heap.objs.size], [(Str.ofString "default", d)]⟩) _ _
  refine codeAny_builtin PySem.F.entry_min_loop ?_
  rw [Around.under_plainId PySem.F.plain_min_loop ⟨[.ref s.heap.objs.size, .none, .ref s2.heap.objs.size], [(Str.ofString "default", d)]⟩]
  show wpAny _ A.in1 (seqItems? (Value.ref s2.heap.objs.size) >>= _) _ _ _
  refine wpAny_bind <| wpAny_seqItems hS rfl ?_
  show wpAny _ A.in1 (tryCatch (pyNext (Value.ref s.heap.objs.size)) _ >>= _) _ _ _
  have nSw : s2.heap.objs.size ∉ [s.heap.objs.size] := fun hb => nF (List.mem_cons.mpr (.inl (List.mem_singleton.mp hb)))
  by_cases hz : 0 < (intItems xs).size
  · refine wpAny_bind <| wpAny_tryCatch <| W.item 0 _ _ _ hz st2 fun v g tk hv hst2 keep => ?_
    have hS2 := keep _ _ nSw hS
    show wpAny _ A.in1 (updateSeq s2.heap.objs.size (fun _ => (#[v, v] : Array Value)) >>= _) _ _ _
    refine wpAny_bind <| wpAny_updateSeq hS2 rfl ?_
    rw [nm_min]
    refine wpAny_pure ⟨plainId_quiet PySem.F.plain_min_loop _, minD_loop W (fun i j => decide (numAt xs i < numAt xs j)) (CmpOf.ints_lt (numAt xs) (fun _ _ => intItems_at)) nF _ 0 _ v _ rfl hz (W.frame _ _ _ hst2 fun b hb o z => ?_) hv (Heap.get?_update_self _ hS2 rfl) fun v2 g2 tk2 h2 k2 => ?_⟩
    · exact (Heap.get?_update_other _ _ (fun h : s2.heap.objs.size = b => nF (h ▸ hb))).trans z
    · have hsz : (intItems xs).size = xs.size := by simp [intItems]
      rw [hsz] at hz h2
      obtain ⟨t, rfl⟩ := intItems_at h2
      obtain ⟨b1, b2⟩ := argBest_lt (numAt xs) (xs.size - 1)
      subst hs2
      refine h1 g2 tk2 _ t (fun b o z => k2 b o (nI b o z) (nSb b o z) ((Heap.get?_update_other _ _ (Ne.symm (nSb b o z))).trans (keep b o (nI b o z) (old2 b o z)))) ?_ fun a ha => ?_
      · rw [numAt_eq]
        exact PySem.getD_mem (by rw [List.length_map, Array.length_toList]; omega)
      · obtain ⟨j, hj, rfl⟩ := mem_getD ha
        rw [List.length_map, Array.length_toList] at hj
        rw [← numAt_eq]
        exact b2 j (by omega)
  · have e0 : (intItems xs).size = 0 := by omega
    refine wpAny_bind <| wpAny_tryCatch <| W.done _ _ _ (e0 ▸ st2) fun g tk keep => ?_
    show wpAny _ A.in1 (rule _ >>= _) _ _ _
    refine wpAny_bind <| wpAny_rule <| wpAny_pure ?_
    subst hs2
    refine h0 ?_ _ _ fun b o z => keep b o (nI b o z) (old2 b o z)
    have hsz : (intItems xs).size = xs.size := by simp [intItems]
    rw [hsz] at e0
    have : xs.toList = [] := by
      apply List.eq_nil_of_length_eq_zero
      rw [Array.length_toList]
      exact e0
    rw [this]
    rfl
end
end ZX
set_option maxHeartbeats 2000000
namespace ZX
open PySem PySem.Spec PyProof.Rows L2 He
def rMinK (K : PySem.W.Frag) : List V → List V → Hp → VK → Prop := fun vs zs H Q => ∃ (a : Addr) (d : V) (ns : List Int), vs = [V.ref a] ∧ zs = [d] ∧ SqL K H a (ns.map V.int) ∧ (ns = [] → Q d H) ∧ ∀ m, m ∈ ns → (∀ y, y ∈ ns → m ≤ y) → Q (.int m) H
/-- max of several ints -/
def rMaxs : List V → Hp → VK → Prop := fun vs H Q => ∃ ns : List Int, vs = ns.map V.int ∧ 2 ≤ ns.length ∧ ns.length ≤ 1000 ∧ ∀ m, m ∈ ns → (∀ y, y ∈ ns → y ≤ m) → Q (.int m) H
section
variable {X : Cx}
theorem cr_minD (hc : X.calm = true) : CallRK X (.builtin "min") [("default" : Str)] (rMinK X.K) := by
  intro pins s σ H vs zs us ws Q I r rz h
  obtain ⟨a, d, ns, rfl, rfl, hs, h0, h1⟩ := h
  obtain ⟨its, rv, hl, _⟩ := I.list hs
  rw [Vals.ref1 r]
  obtain ⟨u, rfl, ru⟩ := vals1 rz
  exact minD_raw (I.ok.hd hc) hl.isList rv.ints (fun e g tk hk => ⟨d, H, I.kept hk, ru, h0 e⟩) fun g tk m t hk b1 b2 => ⟨.int _, H, I.kept hk, ⟨_, rfl⟩, h1 m b1 b2⟩
end
theorem args_maxN (a b : Value) (r : List Value) : argsOk "max" ⟨a :: b :: r, []⟩ := by unfold argsOk; kernel_rfl
theorem nm_max : (toString "max" ++ toString ".loop" : String) = "max.loop" := by decide
section
variable {P : Program} {w : World} {A : Around} {E : Value → Shared → Prop} {s : Shared} {Q : Value → Shared → Prop}
theorem maxN_call {a b : Value} {r : List Value} (hz : (a :: b :: r).length ≤ sizeLine)
    (h : wpAny (model P w) A.in1 (pyIter (.ref s.heap.objs.size)) (fun it s2 => ∃ I fp wr n Pv St bt, it = .ref I ∧ Walks P w A.in1 I fp wr n Pv St ∧ St 0 s2.heap ∧ (∀ b ∈ fp, b < s2.heap.objs.size) ∧ 0 < n ∧ CmpOf P w A.in1 .Gt Pv bt ∧
      ∀ v g tk, Pv (argBest bt (n - 1)) v → (∀ b o, b ∉ wr → s2.heap.get? b = some o → g.get? b = some o) → Q v { s2 with heap := g, toks := tk }) E
      { s with heap := s.heap.push { cls := .type "tuple", data := .seq (a :: b :: r).toArray } }) : wpAny (model P w) A (call (.builtin "max") (a :: b :: r)) Q E s := by
  refine call_function_tree PySem.F.kind_max PySem.F.plain_max PySem.F.entry_max (args_maxN a b r) ?_
  show wpAny _ A.in1 (Builtin.Builtins.bindParams "max" ["key", "default"] 0 ⟨[], []⟩ >>= _) _ _ s
  refine wpAny_bind <| wpAny_of_eq (show Builtin.Builtins.bindParams "max" ["key", "default"] 0 ⟨[], []⟩ = pure [none, none] from rfl) ?_
  show wpAny _ A.in1 (newTuple (a :: b :: r) >>= _) _ _ s
  refine wpAny_bind <| wpAny_newObj_type (hd := by show (a :: b :: r).toArray.size ≤ sizeLine; rw [List.size_toArray]; exact hz) ?_
  refine wpAny_bind <| wpAny_mono h (fun it s2 z => ?_) fun _ _ e => e
  obtain ⟨I, fp, wr, n, Pv, St, bt, rfl, W, st, hf, hn, hc, hQ⟩ := z
  refine wpAny_bind <| wpAny_newObj_type ?_
  have nS : s2.heap.objs.size ∉ fp := fun hm => Nat.lt_irrefl _ (hf _ hm)
  rw [nm_max]
  exact wpAny_pure ⟨plainId_quiet PySem.F.plain_max_loop _, codeAny_max_loop_first W bt hc s2.heap.objs.size nS hn (W.frame _ _ _ st fun b _ o e => Heap.get?_push_of_some _ e) (Heap.get?_push_size _ rfl) fun v g tk hP hk =>
    hQ v g tk hP fun b o hw e => hk b o hw (Nat.ne_of_lt (Heap.lt_size e)) (Heap.get?_push_of_some _ e)⟩
theorem maxN_ints {us : List Value} {ns : List Int} (hh : A.handled = none) (hi : IntsAre us ns) (h2 : 2 ≤ ns.length) (hz : ns.length ≤ sizeLine)
    (h : ∀ g tk M t, (∀ b o, s.heap.get? b = some o → g.get? b = some o) → M ∈ ns → (∀ y, y ∈ ns → y ≤ M) → Q (.int M t) { s with heap := g, toks := tk }) : wpAny (model P w) A (call (.builtin "max") us) Q E s := by
  have hlen : us.length = ns.length := hi.length
  obtain ⟨a, b, r, rfl⟩ : ∃ a b r, us = a :: b :: r := by
    match us, hlen with
    | a :: b :: r, _ => exact ⟨a, b, r, rfl⟩
    | [a], e =>
      have e : 1 = ns.length := e
      omega
    | [], e =>
      have e : 0 = ns.length := e
      omega
  obtain ⟨xs, e⟩ := hi.allInts.items
  have hn : numsOf (intItems xs).toList = ns := by rw [← e]; exact hi.numsOf
  rw [nums_intItems] at hn
  subst hn
  refine maxN_call (hlen ▸ hz) ?_
  rw [e]
  have hT : (s.heap.push { cls := .type "tuple", data := .seq (intItems xs) }).IsTuple s.heap.objs.size (intItems xs) := ⟨_, Heap.get?_push_size _ rfl, rfl, 0, rfl⟩
  refine wpAny_pyIter_tuple hT ?_
  have hsz : (s.heap.push { cls := .type "tuple", data := .seq (intItems xs) }).objs.size = s.heap.objs.size + 1 := Heap.size_push ..
  have hx : (intItems xs).size = xs.size := by simp [intItems]
  have h2' : 2 ≤ xs.size := by simpa using h2
  refine ⟨_, [_, s.heap.objs.size], [_], _, _, _, _, rfl, Walks.tuple (A := A.in1) hh _ s.heap.objs.size (by rw [hsz]; exact Nat.ne_of_lt (Nat.lt_succ_self _)) (intItems xs),
    ⟨⟨_, Heap.get?_push_size _ rfl, rfl, rfl⟩, hT.push _⟩, fun d hd => ?_, by rw [hx]; omega, CmpOf.ints_gt (numAt xs) (fun _ _ => intItems_at), fun v g tk hP hk => ?_⟩
  · show d < ((s.heap.push _).push _).objs.size
    rw [Heap.size_push, hsz]
    simp only [List.mem_cons, List.not_mem_nil, or_false] at hd
    rcases hd with rfl | rfl
    · rw [hsz]; exact Nat.lt_succ_self _
    · exact Nat.lt_succ_of_lt (Nat.lt_succ_self _)
  · have old : ∀ d o, s.heap.get? d = some o → g.get? d = some o := fun d o z => by
      refine hk d o (fun hm => ?_) (Heap.get?_push_of_some _ (Heap.get?_push_of_some _ z))
      have := Heap.lt_size z
      rw [List.mem_singleton.mp hm, hsz] at this
      exact Nat.lt_irrefl _ (Nat.lt_of_succ_lt this)
    rw [hx] at hP
    obtain ⟨t, rfl⟩ := intItems_at hP
    obtain ⟨b1, b2⟩ := argBest_gt (numAt xs) (xs.size - 1)
    refine h g tk _ t old ?_ fun y hy => ?_
    · rw [numAt_eq]
      exact PySem.getD_mem (by rw [List.length_map, Array.length_toList]; omega)
    · obtain ⟨j, hj, rfl⟩ := mem_getD hy
      rw [List.length_map, Array.length_toList] at hj
      rw [← numAt_eq]
      exact b2 j (by omega)
end
section
variable {X : Cx} {CX : CXT} {k : Nat} {C f : Addr} {fd : FuncData} {ps ks : List Str} {sp : Sp} {E : XK} {o : Expr} {kws : List Keyword} {m : Str} {pos apos : Pos} {ta : TE} {tk : TA} {pl : Sem Bool} {gg : List Value → List Value → List Value} {gV : List V → List V → List V}
theorem call_maxN (hc : X.calm = true) : CallR X (.builtin "max") rMaxs := by
  intro pins s σ H vs us Q I r h
  obtain ⟨ns, rfl, h2, hz, q⟩ := h
  exact maxN_ints (I.ok.hd hc) r.ints h2 (Nat.le_trans hz (by decide)) fun g tk M t hk b1 b2 => ⟨.int _, H, I.kept hk, ⟨_, rfl⟩, q M b1 b2⟩
/-- o.m(k = v, ..) -/
def tMethK (C : Addr) (m : Str) (n : Nat) (sp : Sp) (gV : List V → List V → List V) (E : XK) (ta : TE) (tk : TA) : TE := fun σ H Q => ta σ H fun x H1 => ∃ a dx fs, x = .ref a ∧ H1 a = some (.ins C dx fs) ∧ fs.lookup m = none ∧
  tk σ H1 fun zs H2 => zs.length = n ∧ sp (gV [x] zs) H2 Q E
theorem pe_methK0 (he : PE X o ta) (c : Cls X.K C) (hm : Meth X.K C m f) (F : FnOk X.prog X.w X.K X.mg X.base CX k f fd ps sp) (hr : Room k X.A) (hb : KBn X.K fd ps 1 ks gg gV) (hx : Passes CX X E) (hkw : PK X kws tk)
    (hall : (backToKw pos (keywordEach kws X.env)).all (·.1.isSome) = true := by rfl) (hks : (backToKw pos (keywordEach kws X.env)).filterMap (·.1) = ks := by rfl)
    (hpl : ((backTo pos (starEach [] X.env)).any (·.1) || (backToKw pos (keywordEach kws X.env)).any (·.1.isNone)) = false := by rfl)
    (ht : eval (.Call (.Attribute o m apos) [] kws pos) X.env = (do
      let ov ← eval o X.env
      standAt apos.atName
      let (f, first) ← holding [ov] (getMethod ov m pl)
      callWith pos f first (backTo pos (starEach [] X.env)) (backToKw pos (keywordEach kws X.env))) := by rfl) :
    PE X (.Call (.Attribute o m apos) [] kws pos) (tMethK C m ks.length sp gV E ta tk) := by
  refine ⟨fun pins s σ H Q I h => ?_⟩
  refine PySem.W.methodCall_KW (pl := pl) (thn (he.run pins s σ H _ I h) fun u s1 ⟨x, H1, I1, rx, a, dx, fs, ex, ea, l, q⟩ => ?_) ht
  subst ex
  obtain rfl : u = Value.ref a := rx
  refine getmeth_ok I1 ea c hm l ?_
  refine PySem.W.callWith_KW0 (first := [.ref a]) (h₀ := X.base) I1.ok.mod.kin hm.kp hall ?_ hpl
  refine thn (hkw.run pos pins s1 σ H1 _ I1 q) fun ws s2 ⟨zs, H2, I2, rz, l2, q2⟩ => ⟨I2.kIn, ?_⟩
  rw [hks]
  exact run_fnN (us := [.ref a]) (vs := [.ref a]) F hr hb hx I2 (.cons rfl .nil) rz rfl l2 q2
end
end ZX
namespace Z
open PySem PySem.Spec PyProof.Rows L2 TL PySem.Builtin.Str
/-! ### strings -/
def allIn (z s : Str) : Bool := (tl z).all fun c => decide (c ∈ tl s)
theorem len_tl' (x : Str) : (tl x).length = x.length := (len_tl x).symm
theorem tl_empty : tl ("" : Str) = [] := by decide +kernel
theorem eq_empty {x : Str} : x = ("" : Str) ↔ tl x = [] := by
  constructor
  · intro h; rw [h]; exact tl_empty
  · intro h; exact ext_tl (h.trans tl_empty.symm)
theorem contains_mem (y : Str) (c : Nat) : y.cps.contains c = decide (c ∈ tl y) := by
  have : y.cps.contains c = y.cps.toList.contains c := by
    cases y with | mk a => simp
  rw [this]
  by_cases h : c ∈ tl y
  · rw [decide_eq_true h]; exact List.contains_iff_mem.mpr h
  · rw [decide_eq_false h]
    cases e : y.cps.toList.contains c with
    | false => rfl
    | true => exact absurd (List.contains_iff_mem.mp e) h
/-- strip(signs) leaves nothing exactly if all are among the signs -/
theorem strip_all (z s : Str) : decide (Txt.stripChars z s = ("" : Str)) = allIn z s := by
  have hg : s.cps.contains = fun c => decide (c ∈ tl s) := funext (contains_mem s)
  have e0 : Txt.stripChars z s = strSub z (stripLo s.cps.contains true z) (stripHi s.cps.contains true z (stripLo s.cps.contains true z)) := stripBy_eq _ _ _ _
  obtain ⟨l1, l2, l3⟩ := lo_facts s.cps.contains z
  obtain ⟨h1, h2, h3, h4⟩ := hi_facts s.cps.contains z _ l1
  generalize hlo : stripLo s.cps.contains true z = lo at *
  generalize hhi : stripHi s.cps.contains true z lo = hi at *
  have hlen : (tl z).length = z.length := len_tl' z
  have e1 : tl (Txt.stripChars z s) = ((tl z).drop lo).take (hi - lo) := by rw [e0]; exact tl_strSub _ _ _
  have key : tl (Txt.stripChars z s) = [] ↔ hi = lo := by
    rw [e1]
    constructor
    · intro h
      have := congrArg List.length h
      rw [List.length_take, List.length_drop, hlen] at this
      simp only [List.length_nil] at this
      omega
    · intro h; rw [h]; simp
  have gd : ∀ k, k < z.length → s.cps.contains (z.cps.getD k 0) = true → z.cps.getD k 0 ∈ tl s := fun k _ h => by
    rw [contains_mem] at h; exact of_decide_eq_true h
  have gt : ∀ k (hk : k < z.length), z.cps.getD k 0 = (tl z)[k]'(by rw [hlen]; exact hk) := fun k hk => by
    rw [← getD_list]
    have : k < z.cps.toList.length := by rw [← hlen] at hk; exact hk
    show z.cps.toList.getD k 0 = z.cps.toList[k]
    rw [List.getD_eq_getElem?_getD, List.getElem?_eq_getElem this]
    rfl
  by_cases hh : hi = lo
  · rw [decide_eq_true (eq_empty.mpr (key.mpr hh))]
    symm
    refine List.all_eq_true.mpr fun c hc => decide_eq_true ?_
    obtain ⟨k, hk, e⟩ := List.mem_iff_getElem.mp hc
    have hk' : k < z.length := by rw [← hlen]; exact hk
    have : z.cps.getD k 0 ∈ tl s := by
      by_cases hkl : k < lo
      · exact gd k hk' (l2 k hkl)
      · exact gd k hk' (h3 k (by omega) hk')
    rw [gt k hk', e] at this
    exact this
  · have hne : ¬ Txt.stripChars z s = ("" : Str) := fun h => hh (key.mp (eq_empty.mp h))
    rw [decide_eq_false hne]
    symm
    cases e : allIn z s with
    | false => rfl
    | true =>
      exfalso
      have ha := List.all_eq_true.mp e
      have hlt : lo < z.length := by omega
      rcases l3 with h | h
      · omega
      · have hm : z.cps.getD lo 0 ∈ tl s := by
          rw [gt lo hlt]
          exact of_decide_eq_true (ha _ (List.getElem_mem _))
        rw [contains_mem, decide_eq_true hm] at h
        cases h
theorem strip_len (z s : Str) : (Txt.stripChars z s).length ≤ z.length := by
  have e0 : Txt.stripChars z s = strSub z (stripLo s.cps.contains true z) (stripHi s.cps.contains true z (stripLo s.cps.contains true z)) := stripBy_eq _ _ _ _
  rw [e0, len_tl, tl_strSub, List.length_take, List.length_drop, len_tl]
  omega
/-! ### plain -/
def signs : Str := (" !\"#$&'()*+,-./0123456789:;<=>?@ABCDEFGHIJKLMNOPQRSTUVWXYZ[\\]^_`" : Str) ++ ("abcdefghijklmnopqrstuvwxyz{|}~" : Str)
theorem signs_lt : ∀ c ∈ tl signs, c < 128 := by decide +kernel
theorem signs_128 : ∀ c, c < 128 → (Unicode.isPrintable c && decide (c ≠ 37)) = decide (c ∈ tl signs) := by decide +kernel
theorem filter_eq {l : List Nat} {p : Nat → Bool} : (l.filter p = l) ↔ l.all p = true := by
  rw [List.filter_eq_self, List.all_eq_true]
theorem plain_all (l : List Nat) : (l.all (fun c => decide (c < 128)) && (l.all Unicode.isPrintable && l.all fun c => decide (c ≠ 37))) = l.all fun c => decide (c ∈ tl signs) := by
  induction l with
  | nil => rfl
  | cons a r ih =>
    rw [List.all_cons, List.all_cons, List.all_cons, List.all_cons, ← ih]
    by_cases h : a < 128
    · rw [← signs_128 a h, decide_eq_true h]
      cases Unicode.isPrintable a <;> cases decide (a ≠ 37) <;> cases r.all (fun c => decide (c < 128)) <;> cases r.all Unicode.isPrintable <;> rfl
    · have h2 : ¬ a ∈ tl signs := fun hm => h (signs_lt a hm)
      rw [decide_eq_false h, decide_eq_false h2]
      cases r.all (fun c => decide (c < 128)) <;> cases r.all Unicode.isPrintable <;> rfl
theorem isascii_tl (z : Str) : Txt.isascii z = (tl z).all fun c => decide (c < 128) := by
  unfold Txt.isascii
  rw [← Array.all_toList]
theorem isprintable_tl (z : Str) : Txt.isprintable z = (tl z).all Unicode.isPrintable := by
  unfold Txt.isprintable
  rw [← Array.all_toList]
/-- the text without its percent signs -/
def no37 (z : Str) : Str := ⟨((tl z).filter fun c => decide (c ≠ 37)).toArray⟩
theorem no37_tl (z : Str) : tl (no37 z) = (tl z).filter fun c => decide (c ≠ 37) := rfl
theorem no37_eq (z : Str) : decide (no37 z = z) = (tl z).all fun c => decide (c ≠ 37) := by
  cases e : (tl z).all fun c => decide (c ≠ 37) with
  | true => exact decide_eq_true (ext_tl ((no37_tl z).trans (filter_eq.mpr e)))
  | false =>
    refine decide_eq_false fun h => ?_
    have : (tl z).filter (fun c => decide (c ≠ 37)) = tl z := by rw [← no37_tl, h]
    rw [filter_eq.mp this] at e
    cases e
theorem plain_eq (z : Str) : (Txt.isascii z && (Txt.isprintable z && decide (no37 z = z))) = allIn z signs := by
  rw [isascii_tl, isprintable_tl, no37_eq]
  exact plain_all (tl z)
/-! ### the first sign -/
def hd (z : Str) : Option Nat := (tl z).head?
theorem hd_some {z : Str} (h : 1 ≤ z.length) : ∃ c, hd z = some c ∧ z.cps[0]? = some c := by
  rw [len_tl] at h
  cases e : tl z with
  | nil => rw [e] at h; exact absurd h (by decide)
  | cons c r =>
    refine ⟨c, by unfold hd; rw [e]; rfl, ?_⟩
    have : z.cps.toList[0]? = some c := by show (tl z)[0]? = _; rw [e]; rfl
    simpa using this
theorem cut1_tl (z : Str) : tl (cutS z none (some 1)) = (tl z).take 1 := by
  show ((tl z).drop (HT.sIx z.length 0 none)).take (HT.sIx z.length z.length (some 1) - HT.sIx z.length 0 none) = _
  rw [HT.sIx_none, show HT.sIx z.length z.length (some 1) = min 1 z.length from HT.sIx_nat _ _ 1, List.drop_zero, Nat.sub_zero]
  rw [len_tl]
  cases tl z with
  | nil => rfl
  | cons c r =>
    rw [List.length_cons, show min 1 (r.length + 1) = 1 by omega]
theorem cutFrom1_tl (z : Str) : tl (cutS z (some 1) none) = (tl z).drop 1 := by
  show ((tl z).drop (HT.sIx z.length 0 (some 1))).take (HT.sIx z.length z.length none - HT.sIx z.length 0 (some 1)) = _
  rw [HT.sIx_none, show HT.sIx z.length 0 (some 1) = min 1 z.length from HT.sIx_nat _ _ 1]
  rw [len_tl]
  cases tl z with
  | nil => rfl
  | cons c r =>
    rw [List.length_cons, show min 1 (r.length + 1) = 1 by omega]
    exact List.take_of_length_le (by simp)
theorem cut1_one {z : Str} {c : Nat} (h : hd z = some c) : cutS z none (some 1) = ⟨#[c]⟩ := by
  refine ext_tl ?_
  rw [cut1_tl]
  unfold hd at h
  cases e : tl z with
  | nil => rw [e] at h; cases h
  | cons a r =>
    rw [e] at h
    cases h
    rfl
theorem cut1_nil {z : Str} (h : hd z = none) : cutS z none (some 1) = ("" : Str) := by
  refine eq_empty.mpr ?_
  rw [cut1_tl]
  unfold hd at h
  cases e : tl z with
  | nil => rfl
  | cons a r => rw [e] at h; cases h
theorem one_eq (c d : Nat) : ((⟨#[c]⟩ : Str) = ⟨#[d]⟩) ↔ c = d := by
  constructor
  · intro h
    have := congrArg tl h
    have h2 : ([c] : List Nat) = [d] := this
    cases h2
    rfl
  · intro h; rw [h]
end Z
set_option maxHeartbeats 2000000
namespace Z
open PySem PySem.Spec PyProof.Rows L2 TL PySem.Builtin PySem.Builtin.Str
/-! ### text.translate({37: None}) for a text of ASCII signs: the percent signs go, all others stay -/
/-- nothing that stood in the heap has changed -/
abbrev Old (h h' : Heap) : Prop := ∀ b o, h.get? b = some o → h'.get? b = some o
/-- what the table holds: the key 37 with None, and no other key -/
structure Drops (f : Key → Option Value) : Prop where
  here : f (Sum.inl 37) = some .none
  away : ∀ c : Nat, c ≠ 37 → f (Sum.inl (c : Int)) = none
theorem drops_one : Drops (valueAt [((Sum.inl 37 : Key), Value.none)]) where
  here := rfl
  away := fun c hc => by
    have e : decide ((Sum.inl 37 : Key) = Sum.inl (c : Int)) = false := by
      rw [key_ll]
      exact beq_eq_false_iff_ne.mpr (by omega)
    show ((List.find? _ [((Sum.inl 37 : Key), Value.none)]).map (·.2)) = none
    rw [List.find?_cons, e]
    rfl
section
variable {prog : Program} {w : World} {A : Around} {E : Value → Shared → Prop} {s : Shared} {d : Addr}
/-- the sign 37 is found, with None -/
theorem look_here {f : Key → Option Value} {Q : Mapped → Shared → Prop} (T : Drops f) (hm : s.heap.MapOf (mixKind prog w) d f)
    (q : ∀ k, Q .drop { s with toks := k }) : wpAny (model prog w) A (tableLookup (.ref d) 37) Q E s := by
  unfold tableLookup
  refine wpAny_bind (wpAny_attempt (wpAny_bind (wpAny_mkInt ?_)))
  exact wpAny_getItem_of (knd := mixKind prog w) (k := Sum.inl ((37 : Nat) : Int)) (mixKind_int _ _ _ _) hm T.here (wpAny_pure (q _))
/-- any other sign is not: the KeyError of the look is taken for «keep» -/
theorem look_away {f : Key → Option Value} {Q : Mapped → Shared → Prop} {c : Nat} (hc : c ≠ 37) (calm : A.handled = none) (low : (d == sysModules) = false) (T : Drops f) (hm : s.heap.MapOf (mixKind prog w) d f)
    (q : ∀ h' k, Old s.heap h' → Q .keep { s with heap := h', toks := k }) : wpAny (model prog w) A (tableLookup (.ref d) c) Q E s := by
  unfold tableLookup
  refine wpAny_bind (wpAny_attempt (wpAny_bind (wpAny_mkInt ?_)))
  refine wpAny_getItem_missing_of (knd := mixKind prog w) (k := Sum.inl (c : Int)) (mixKind_int _ _ _ _) low calm hm (T.away c hc) ?_
  intro h' e new
  obtain ⟨eo, _, get, isKey, _⟩ := new.there
  have kin : isSubtype (.type "KeyError") (.type "LookupError") = pure true := key_is_lookup
  refine wpAny_bind (wpAny_isInstance (T := "KeyError") (b := true) ⟨eo, get, isKey⟩ kin ?_)
  exact wpAny_bind (wpAny_rule (wpAny_pure (q h' _ new.keeps)))
end
def left37 (l : List Nat) : List Nat := l.filter fun c => decide (c ≠ 37)
theorem left_nil : left37 [] = [] := rfl
theorem left_here (l : List Nat) : left37 (l ++ [37]) = left37 l := by
  unfold left37
  rw [List.filter_append]
  simp
theorem left_away {c : Nat} (h : c ≠ 37) (l : List Nat) : left37 (l ++ [c]) = left37 l ++ [c] := by
  unfold left37
  rw [List.filter_append]
  simp [h]
theorem left_len (l : List Nat) : (left37 l).length ≤ l.length := List.length_filter_le _ _
def sign (c : Nat) : Str := ⟨#[c]⟩
theorem glue_signs (l : List Nat) : ∀ a : Array Nat, (l.map sign).foldl (fun acc (p : Str) => acc ++ p.cps) a = a ++ l.toArray := by
  induction l with
  | nil => intro a; simp
  | cons c r ih =>
    intro a
    show (r.map sign).foldl (fun acc (p : Str) => acc ++ p.cps) (a ++ #[c]) = _
    rw [ih]
    refine Array.toList_inj.mp ?_
    simp
/-- where a sign of the fast road goes -/
def goes37 (c : Nat) : Option Nat := if c = 37 then none else some c
/-- the memo of the signs asked before -/
def Memo (known : List (Nat × Option Nat)) : Prop := ∀ c a, known.lookup c = some a → a = goes37 c
theorem memo_nil : Memo [] := fun _ _ h => nomatch h
theorem Memo.more {known : List (Nat × Option Nat)} (m : Memo known) (c : Nat) : Memo ((c, goes37 c) :: known) := fun c' a h => by
  rcases lookup_new h with ⟨rfl, e⟩ | h
  · exact e
  · exact m c' a h
abbrev Walk37 : Type := List Str × Nat × Bool × List (Nat × Option Nat) × Bool
/-- the state behind the signs `past`, ahead of `rest` -/
structure Mid37 (x : List Nat) (s : Shared) (rest : List Nat) (past : List Nat) (pieces : List Str) (known : List (Nat × Option Nat)) (h' : Heap) : Prop where
  cut : x = past ++ rest
  made : pieces.reverse = (left37 past).map sign
  memo : Memo known
  old : Old s.heap h'
def At37 (x : List Nat) (s : Shared) (rest : List Nat) (st : Walk37) (s' : Shared) : Prop :=
  ∃ past pieces known h' k, Mid37 x s rest past pieces known h' ∧ st = (pieces, (left37 past).length, true, known, false) ∧ s' = { s with heap := h', toks := k }
section
variable {x rest past : List Nat} {s : Shared} {c : Nat} {pieces : List Str} {known : List (Nat × Option Nat)} {h' : Heap} {k : Nat}
theorem Mid37.away (m : Mid37 x s (c :: rest) past pieces known h') (hc : c ≠ 37) {known' : List (Nat × Option Nat)} (hk : Memo known') {h2 : Heap} (old : Old s.heap h2) :
    At37 x s rest (sign c :: pieces, (left37 past).length + 1, true, known', false) { s with heap := h2, toks := k } := by
  refine ⟨past ++ [c], sign c :: pieces, known', h2, k, ⟨?_, ?_, hk, old⟩, ?_, rfl⟩
  · rw [m.cut, List.append_assoc, List.singleton_append]
  · rw [left_away hc, List.map_append, List.reverse_cons, m.made]
    rfl
  · rw [left_away hc, List.length_append, List.length_singleton]
theorem Mid37.here (m : Mid37 x s (37 :: rest) past pieces known h') {known' : List (Nat × Option Nat)} (hk : Memo known') {h2 : Heap} (old : Old s.heap h2) :
    At37 x s rest (pieces, (left37 past).length, true, known', false) { s with heap := h2, toks := k } := by
  refine ⟨past ++ [37], pieces, known', h2, k, ⟨?_, ?_, hk, old⟩, ?_, rfl⟩
  · rw [m.cut, List.append_assoc, List.singleton_append]
  · rw [left_here, m.made]
  · rw [left_here]
end
theorem meets37 {prog : Program} {w : World} {x : List Nat} {t : Tok} {d : Addr} {f : Key → Option Value} (T : Drops f) (low : (d == sysModules) = false) (few : x.length ≤ 16000000) (ascii : ∀ c ∈ x, c < 128) :
    MeetsIn prog w («str.translate» ⟨[.str (SX.S x) t, .ref d], []⟩) (fun A R s => A.handled = none ∧ s.heap.MapOf (mixKind prog w) d f ∧
      ∀ (v : Value) (h' : Heap) (k : Nat), Old s.heap h' → (∃ t', v = .str (SX.S (left37 x)) t') → R (.ok (.ret v)) { s with heap := h', toks := k }) := by
  refine .of_wp fun A R s hyp => ?_
  obtain ⟨calm, tab, done⟩ := hyp
  have calm1 : A.in1.handled = none := calm
  show wpAny _ _ (if ((SX.S x).length == 0) = true then _ else (do
    let st ← forIn (SX.S x).cps (([], 0, (SX.S x).cps.all fun y => decide (y < 128), [], false) : Walk37) _
    _)) _ _ s
  by_cases empty : x = []
  · rw [if_pos (show ((SX.S x).length == 0) = true by rw [SX.S_len, empty]; rfl)]
    subst empty
    exact wpAny_bind (wpAny_rule (wpAny_pure ⟨_, rfl, done _ s.heap s.toks (fun _ _ e => e) ⟨t, rfl⟩⟩))
  · have full : ¬ ((SX.S x).length == 0) = true := fun h => by
      rw [SX.S_len, beq_iff_eq] at h
      exact empty (List.eq_nil_of_length_eq_zero h)
    have fast : ((SX.S x).cps.all fun y => decide (y < 128)) = true := by
      rw [← Array.all_toList]
      exact List.all_eq_true.mpr fun c hc => decide_eq_true (ascii c hc)
    rw [if_neg full, fast]
    refine wpAny_bind (MeetsSeq2.wpAny_forIn_array _ (At37 x s) _ (fun c rest st s' at_ => ?_) (fun st s' at_ => ?_) (SX.S x).cps ([], 0, true, [], false) ?_)
    · obtain ⟨past, pieces, known, h', k, m, rfl, rfl⟩ := at_
      have short : tooLong (left37 past).length = false := by
        have q := congrArg List.length m.cut
        rw [List.length_append] at q
        have := left_len past
        exact PyProof.Rows.short24 (by omega)
      have tab' : h'.MapOf (mixKind prog w) d f := by
        obtain ⟨o, es, ep, get, r⟩ := tab
        exact ⟨o, es, ep, m.old _ _ get, r⟩
      show wpAny _ _ (if tooLong (left37 past).length = true then _ else (if true = true then _ else _)) _ _ _
      rw [short, if_neg Bool.false_ne_true, if_pos rfl]
      by_cases hc : c = 37
      · subst hc
        cases ask : known.lookup 37 with
        | some a =>
          have ea : a = none := m.memo _ _ ask
          subst ea
          exact wpAny_bind (wpAny_pure (wpAny_pure (m.here m.memo m.old)))
        | none =>
          exact wpAny_bind (look_here T tab' fun k2 => wpAny_bind (wpAny_pure (wpAny_pure (m.here (m.memo.more 37) m.old))))
      · have ego : goes37 c = some c := if_neg hc
        have more := m.memo.more c
        rw [ego] at more
        cases ask : known.lookup c with
        | some a =>
          have ea : a = some c := (m.memo _ _ ask).trans ego
          subst ea
          exact wpAny_bind (wpAny_pure (wpAny_pure (m.away hc m.memo m.old)))
        | none =>
          exact wpAny_bind (look_away hc calm1 low T tab' fun h2 k2 old => wpAny_bind (wpAny_pure (wpAny_pure (m.away hc more fun b o e => old b o (m.old b o e)))))
    · obtain ⟨past, pieces, known, h', k, m, rfl, rfl⟩ := at_
      have ex : past = x := by rw [m.cut, List.append_nil]
      have made := m.made
      rw [ex] at made ⊢
      have := left_len x
      have text : (⟨#[] ++ (left37 x).toArray⟩ : Str) = SX.S (left37 x) := by simp
      show wpAny _ _ (if tooLong (left37 x).length = true then _ else retStr ⟨List.foldl (fun acc (p : Str) => acc ++ p.cps) #[] pieces.reverse⟩) _ _ _
      rw [PyProof.Rows.short24 (n := (left37 x).length) (by omega), if_neg Bool.false_ne_true, made, glue_signs, text]
      exact wpAny_bind (wpAny_mkStr (wpAny_pure ⟨_, rfl, done _ h' _ m.old ⟨_, rfl⟩⟩) (by rw [SX.S_len, sizeLine_eq]; omega))
    · refine ⟨[], [], [], s.heap, s.toks, ⟨?_, rfl, memo_nil, fun _ _ e => e⟩, rfl, rfl⟩
      show x = [] ++ x.toArray.toList
      simp
/-- the rule, over the layer: the table a dict that the call has made -/
theorem mt_translate37 {X : Cx} (hc : X.calm = true) : MtR X "str.translate" (fun x xs H Q => ∃ (z : Str) (d : Addr), x = .str z ∧ xs = [.ref d] ∧ H d = some (.dK [(Sum.inl 37, .non)]) ∧ (∀ c ∈ tl z, c < 128) ∧ z.length ≤ 16000000 ∧ Q (.str (no37 z)) H) := by
  intro pins s σ H x xs v us Q I rx rs ⟨z, d, ex, exs, hd, ascii, few, q⟩
  rw [ex] at rx
  rw [exs] at rs
  obtain ⟨t, ev⟩ := rx
  rw [ev]
  cases rs with
  | cons r1 none_left =>
    cases none_left
    have eu := r1
    rw [show _ = Value.ref d from eu]
    obtain ⟨_, low, vs, kv, is⟩ := I.hok d _ hd
    have evs : vs = [((Sum.inl 37 : Key), Value.none)] := by
      cases kv with
      | cons pq none_left =>
        cases none_left
        exact congrArg (fun p => [p]) (Prod.ext (Eq.symm pq.1) pq.2)
    rw [evs] at is
    have ez : z = SX.S (tl z) := (SX.S_tl z).symm
    rw [ez]
    refine call_meetsIn F.slot_str_translate (typeIs_str _ _ _) F.entry_str_translate (F.args_str_translate_2 _ _) (meets37 (t := t) drops_one low (by rw [len_tl']; exact few) ascii) ⟨I.ok.hd hc, is.mapOf, ?_⟩
    intro v2 h' k old ⟨t', e2⟩
    rw [e2]
    exact ⟨.str _, H, I.kept (t' := k) old, ⟨t', rfl⟩, q⟩
end Z
set_option maxHeartbeats 2000000
namespace Z
open PySem PySem.Spec PyProof.Rows L2 TL
/-! ### defs of the module, called by place or by keywords -/
abbrev FnP (K : PySem.W.Frag) (x : Str) (st : Stmt) (f : Addr) (fd : FuncData) : Prop := FunD K x x (L2.defArgs st) (L2.defBody st) (L2.defScope st) [] [] f fd
structure Call (P : Program) (w : World) (K : PySem.W.Frag) (mg : Str → Option Value) (base : Heap) (k : Nat) (x : Str) (ps : List Str) (sp : Sp) : Prop where
  ex : ∃ (f : Addr) (fd : FuncData), FnOk P w K mg base CX0 k f fd ps sp ∧ mg x = some (.ref f) ∧ PySem.W.keepIn K (.ref f) = true ∧ Binds K fd ps [] ∧ KBn K fd ps 0 ps (fun _ ws => ws) (fun _ zs => zs)
section
variable {P : Program} {w : World} {K : PySem.W.Frag} {mg : Str → Option Value} {base : Heap} {x : Str} {st : Stmt} {f : Addr} {fd : FuncData} {N ps : List Str} {k : Nat} {sp : Sp}
theorem kbn (F : FnP K x st f fd) (h : ∀ (kV doc pm : Value) (an : Option Addr) (cdv ct : Value) (ws : List Value), ws.length = ps.length → bindArgs (PySem.W.fnOf x x (L2.defArgs st) (L2.defBody st) (L2.defScope st) .none kV doc pm an cdv ct) ⟨[], ps.zip ws⟩ = pure (ps.zip ws)) :
    KBn K fd ps 0 ps (fun _ ws => ws) (fun _ zs => zs) := by
  obtain ⟨_, _, dflt, kwd, doc, mod, ann, code, tp, _, isFd, _, _, none_given, _⟩ := F.ex
  have no : dflt = .none := none_given.elim (fun q => q.2) fun q => absurd rfl q.1
  rw [isFd, no]
  refine ⟨fun st0 us ws _ nu nw => ?_, fun _ r => r⟩
  rw [List.eq_nil_of_length_eq_zero nu]
  exact .of_eq (h kwd doc mod ann code tp ws nw)
/-- a def's promise, by its body -/
theorem mkF (F : FnP K x st f fd) (S : FnScope N ps (L2.defScope st)) (len : ∀ vs H Q E, sp vs H Q E → vs.length = ps.length)
    (hbody : ∀ (cdv : Value) (A : Around) (outer : List Env) (s : Shared) (H : Hp) (vs : List V) (Q : VK) (E : XK), Room k (A.deeper (envOfC x (L2.defScope st) s.heap.objs.size f cdv)) → sp vs H Q E →
      ∃ t, PSs (cxOf CX0 P w K mg base N x (L2.defScope st) f cdv A outer s H E).nox (L2.defBody st) t ∧ t { nx := fun _ H' => Q .non H', rt := Q } (start N vs) H) : FnOk P w K mg base CX0 (k + 1) f fd ps sp :=
  F.ok S len fun cdv A outer s H vs Q E hr h => by
    obtain ⟨t, h1, h2⟩ := hbody cdv A outer s H vs Q E hr h
    exact ⟨t, h1.nox, h2⟩
theorem mk (F : FnP K x st f fd) (gm : mg x = some (.ref f))
    (hb : ∀ (kV doc pm : Value) (an : Option Addr) (cdv ct : Value) (us : List Value), us.length = ps.length → bindArgs (PySem.W.fnOf x x (L2.defArgs st) (L2.defBody st) (L2.defScope st) .none kV doc pm an cdv ct) ⟨us, []⟩ = pure (ps.zip us))
    (hk : ∀ (kV doc pm : Value) (an : Option Addr) (cdv ct : Value) (ws : List Value), ws.length = ps.length → bindArgs (PySem.W.fnOf x x (L2.defArgs st) (L2.defBody st) (L2.defScope st) .none kV doc pm an cdv ct) ⟨[], ps.zip ws⟩ = pure (ps.zip ws))
    (S : FnScope N ps (L2.defScope st)) (len : ∀ vs H Q E, sp vs H Q E → vs.length = ps.length)
    (hbody : ∀ (cdv : Value) (A : Around) (outer : List Env) (s : Shared) (H : Hp) (vs : List V) (Q : VK) (E : XK), Room k (A.deeper (envOfC x (L2.defScope st) s.heap.objs.size f cdv)) → sp vs H Q E →
      ∃ t, PSs (cxOf CX0 P w K mg base N x (L2.defScope st) f cdv A outer s H E).nox (L2.defBody st) t ∧ t { nx := fun _ H' => Q .non H', rt := Q } (start N vs) H) : Call P w K mg base (k + 1) x ps sp := by
  exact ⟨f, fd, mkF F S len hbody, gm, F.kp, F.bindsN hb, kbn F hk⟩
end
section
variable {X : Cx} {k j : Nat} {x : Str} {ps : List Str} {sp : Sp} {p pos : Pos} {e : Expr} {es : List Expr} {kws : List Keyword} {t tk : TA}
theorem pe_f (c : Call X.prog X.w X.K X.mg X.base k x ps sp) (hr : Room j X.A) (hk : k ≤ j) (hg : Gl X x) (ha : PA X (e :: es) t)
    (hdb : (x == ("__debug__" : Str)) = false := by decide) (he : starEach (e :: es) X.env = (false, eval e X.env) :: starEach es X.env := by rfl) (hpl : (backTo pos (starEach es X.env)).any (·.1) = false := by rfl) :
    PE X (.Call (.Name x p) (e :: es) [] pos) (tCall sp [] E0 t) := by
  obtain ⟨f, fd, F, hm, kp, b, _⟩ := c.ex
  exact pe_call F (hr.mono hk) hg hm kp b .nil pass0 ha hdb he hpl
theorem pe_f0 (c : Call X.prog X.w X.K X.mg X.base k x ps sp) (hr : Room j X.A) (hk : k ≤ j) (hg : Gl X x) (hdb : (x == ("__debug__" : Str)) = false := by decide) : PE X (.Call (.Name x p) [] [] pos) (tCall sp [] E0 tNil) := by
  obtain ⟨f, fd, F, hm, kp, b, _⟩ := c.ex
  exact pe_call0 F (hr.mono hk) hg hm kp b .nil pass0 hdb
/-- f(k = v, ..), all parameters by keywords, in their order -/
theorem pe_fk (c : Call X.prog X.w X.K X.mg X.base k x ps sp) (hr : Room j X.A) (hj : k ≤ j) (hg : Gl X x) (hkw : PK X kws tk)
    (hks : (backToKw pos (keywordEach kws X.env)).filterMap (·.1) = ps := by rfl) (hall : (backToKw pos (keywordEach kws X.env)).all (·.1.isSome) = true := by rfl)
    (hdb : (x == ("__debug__" : Str)) = false := by decide)
    (hpl : ((backTo pos (starEach [] X.env)).any (·.1) || (backToKw pos (keywordEach kws X.env)).any (·.1.isNone)) = false := by rfl) :
    PE X (.Call (.Name x p) [] kws pos) (tCallN 0 ps.length sp (fun _ zs => zs) E0 tNil tk) where
  run := fun pins s σ H Q I asks => by
    obtain ⟨f, fd, F, named, kept, _, binds⟩ := c.ex
    refine wpAny_Call_Name_kw (ld_glob I hg named (PySem.W.callWith_KW0 (h₀ := X.base) I.ok.mod.kin kept hall ?_ hpl) hdb)
    refine thn (hkw.run pos pins s σ H _ I asks) fun ws s2 told => ?_
    obtain ⟨zs, H2, I2, rz, _, many, wish⟩ := told
    refine ⟨I2.kIn, ?_⟩
    rw [hks]
    exact run_fnN (us := []) (vs := []) F (hr.mono hj) binds pass0 I2 .nil rz rfl many wish
end
section
variable {X : Cx} {x : Str} {pos : Pos}
/-- a module's constant -/
theorem pe_gc {v : V} (hg : Gl X x) (h : ∃ u, X.mg x = some u ∧ RelV v u) (hd : (x == ("__debug__" : Str)) = false := by decide) : PE X (.Name x pos) (tC v) := by
  obtain ⟨u, hm, r⟩ := h
  exact pe_glob hg hm r hd
end
/-- where the context is a comprehension's, its written part is the def's -/
theorem inK {X : Cx} {K : PySem.W.Frag} {e : Expr} {t : PySem.W.Frag → TE} (same : X.K = K) (h : PE X e (t X.K)) : PE X e (t K) := same ▸ h
/-! ### a text times a number -/
def repS (z : Str) (n : Nat) : Str := if n = 0 then Str.empty else if (n == 1 || z.length == 0) = true then z else ⟨(List.replicate n z.cps).foldl (· ++ ·) #[]⟩
theorem rep_size (a : Array Nat) : ∀ (n : Nat) (acc : Array Nat), ((List.replicate n a).foldl (· ++ ·) acc).size = acc.size + n * a.size
  | 0, acc => by simp
  | n + 1, acc => by
    rw [List.replicate_succ, List.foldl_cons, rep_size a n, Array.size_append, Nat.succ_mul]
    omega
theorem repS_len (z : Str) (n : Nat) : (repS z n).length = n * z.length := by
  unfold repS
  split
  · rename_i h
    rw [h, Nat.zero_mul]
    rfl
  · split
    · rename_i h
      simp only [Bool.or_eq_true, beq_iff_eq] at h
      rcases h with h | h
      · rw [h, Nat.one_mul]
      · rw [h, Nat.mul_zero]
    · show ((List.replicate n z.cps).foldl (· ++ ·) #[]).size = n * z.cps.size
      rw [rep_size]
      simp
section
variable {X : Cx}
theorem op_rep_str : OpR X (binaryOp .Mult) (fun x y H Q => ∃ (z : Str) (i : Int), x = .str z ∧ y = .int i ∧ 0 ≤ i ∧ i ≤ 1000 ∧ z.length ≤ 1000 ∧ Q (.str (repS z i.toNat)) H) := by
  intro pins s σ H x y v u Q I rx ry h
  obtain ⟨z, i, rfl, rfl, h0, h1, hz, q⟩ := h
  obtain ⟨t, rfl⟩ := rx
  obtain ⟨t', rfl⟩ := ry
  have hle : z.length * i.toNat ≤ 1000000 := Nat.le_trans (Nat.mul_le_mul hz (show i.toNat ≤ 1000 by omega)) (by decide)
  refine PySem.P.mul_str ?_ (fun hn _ hgt => ?_) (fun _ _ => PyProof.Rows.short24 (by omega)) ?_
  · rw [decide_eq_false (show ¬ i < -(2 ^ 63) by omega), decide_eq_false (show ¬ i ≥ 2 ^ 63 by omega)]
    rfl
  · have h2 : i ∣ i := Int.dvd_refl i
    have h3 : (2 ^ 63 - 1) / (1000 : Int) ≤ (2 ^ 63 - 1) / i := by
      have : (2 ^ 63 - 1) / (1000 : Int) * i ≤ 2 ^ 63 - 1 := by
        have e : (2 ^ 63 - 1) / (1000 : Int) = 9223372036854775 := by decide
        rw [e]
        omega
      exact (Int.le_ediv_iff_mul_le (by omega)).mpr this
    have e : (2 ^ 63 - 1) / (1000 : Int) = 9223372036854775 := by decide
    rw [e] at h3
    omega
  · by_cases hn : i < 1
    · rw [if_pos hn]
      have : repS z i.toNat = Str.empty := by unfold repS; rw [if_pos (show i.toNat = 0 by omega)]
      rw [this] at q
      exact ⟨by decide, ⟨.str Str.empty, H, I.tok _, ⟨_, rfl⟩, q⟩⟩
    · rw [if_neg hn]
      have e1 : (i == 1) = (i.toNat == 1) := by
        by_cases h : i = 1
        · subst h; rfl
        · rw [beq_eq_false_iff_ne.mpr h, beq_eq_false_iff_ne.mpr (show i.toNat ≠ 1 by omega)]
      have e2 : repS z i.toNat = if (i.toNat == 1 || z.length == 0) = true then z else ⟨(List.replicate i.toNat z.cps).foldl (· ++ ·) #[]⟩ := by
        unfold repS
        rw [if_neg (show ¬ i.toNat = 0 by omega)]
      have hl := repS_len z i.toNat
      rw [e2] at q hl
      rw [e1]
      by_cases hc : (i.toNat == 1 || z.length == 0) = true
      · rw [if_pos hc] at q ⊢
        exact ⟨.str z, H, I, ⟨t, rfl⟩, q⟩
      · rw [if_neg hc] at q hl ⊢
        refine ⟨?_, ⟨.str _, H, I.tok _, ⟨_, rfl⟩, q⟩⟩
        rw [hl, sizeLine_eq]
        rw [Nat.mul_comm] at hle
        omega
end
/-! ### the size of a cell -/
theorem bits_lt {z : Int} {n : Nat} (h : Builtin.Int.intBits z ≤ n) : z.natAbs < 2 ^ n := by
  unfold Builtin.Int.intBits at h
  by_cases hz : z = 0
  · rw [hz]
    exact Nat.two_pow_pos n
  · have e : (z == 0) = false := beq_eq_false_iff_ne.mpr hz
    rw [e, if_neg Bool.false_ne_true] at h
    exact Nat.lt_of_lt_of_le (Nat.lt_log2_self) (Nat.pow_le_pow_right (by decide) h)
end Z
set_option maxHeartbeats 2000000
namespace Z
open PySem PySem.Spec PyProof.Rows L2 TL Evl
/-! ### named readings of values -/
def rStrip : V → List V → Hp → VK → Prop := fun x xs H Q => ∃ a b, x = .str a ∧ xs = [.str b] ∧ a.length ≤ sizeLine ∧ Q (.str (Txt.stripChars a b)) H
def rIsascii : V → List V → Hp → VK → Prop := fun x xs H Q => ∃ a, x = .str a ∧ xs = [] ∧ True ∧ Q (.bl (Txt.isascii a)) H
def rIsprint : V → List V → Hp → VK → Prop := fun x xs H Q => ∃ a, x = .str a ∧ xs = [] ∧ True ∧ Q (.bl (Txt.isprintable a)) H
def rTrans : V → List V → Hp → VK → Prop := fun x xs H Q => ∃ (z : Str) (d : Addr), x = .str z ∧ xs = [.ref d] ∧ H d = some (.dK [(Sum.inl 37, .non)]) ∧ (∀ c ∈ tl z, c < 128) ∧ z.length ≤ 16000000 ∧ Q (.str (no37 z)) H
def rAddS2 : R2 := fun x y H Q => ∃ i j, x = .str i ∧ y = .str j ∧ i.length + j.length ≤ sizeLine ∧ Q (.str (i ++ j)) H
def rLenStr : List V → Hp → VK → Prop := fun xs H Q => ∃ z, xs = [.str z] ∧ z.length ≤ sizeLine ∧ Q (.int z.length) H
def rIntStr : List V → Hp → VK → Prop := fun xs H Q => ∃ a n, xs = [.str a] ∧ PySem.intText? a = some n ∧ a.length ≤ 640 ∧ Q (.int n) H
def rStarts : V → List V → Hp → VK → Prop := fun x xs H Q => ∃ a b, x = .str a ∧ xs = [.str b] ∧ Q (.bl (Txt.startswith a b)) H
section
variable {X : Cx}
theorem mz_strip : MtR X "str.strip" rStrip := mt_stripChars
theorem mz_isascii : MtR X "str.isascii" rIsascii := mt_isascii
theorem mz_isprint : MtR X "str.isprintable" rIsprint := mt_isprintable
theorem mz_trans (hc : X.calm = true) : MtR X "str.translate" rTrans := mt_translate37 hc
theorem oz_add : OpR X (binaryOp .Add) rAddS2 := op_add_str
theorem cz_len : CallR X (.builtin "len") rLenStr := call_len_str
theorem cz_int : CallR X (.type "int") rIntStr := call_int_str
theorem mz_starts : MtR X "str.startswith" rStarts := mt_startswith
end
/-! ### what evaluates to what, for texts -/
section
variable {K : PySem.W.Frag} {σ : L2.St} {H H' : Hp} {ta tb tc te to ts : TE} {t u : TT} {x y z v : V} {r : R2} {a b s : Str} {c : Nat}
theorem rv_in {w : Str} : RV rInS (.str ⟨#[c]⟩) (.str w) H (.bl (decide (c ∈ tl w))) := fun H1 _ _ q => ⟨c, w, rfl, rfl, q H1 (Ex.refl H1)⟩
theorem rv_notin {w : Str} : RV rNotInS (.str ⟨#[c]⟩) (.str w) H (.bl (!decide (c ∈ tl w))) := fun H1 _ _ q => ⟨c, w, rfl, rfl, q H1 (Ex.refl H1)⟩
theorem rv_isN : RV rIsN x .non H (.bl (decide (x = .non))) := fun H1 _ _ q => ⟨rfl, q H1 (Ex.refl H1)⟩
theorem rv_notN : RV rNotN x .non H (.bl (!decide (x = .non))) := fun H1 _ _ q => ⟨rfl, q H1 (Ex.refl H1)⟩
theorem rv_addS (h : a.length + b.length ≤ 200000) : RV rAddS2 (.str a) (.str b) H (.str (a ++ b)) := fun H1 _ _ q => ⟨a, b, rfl, rfl, Nat.le_trans h (by decide), q H1 (Ex.refl H1)⟩
theorem decS {a b : Str} : decide (V.str a = V.str b) = decide (a = b) := by
  by_cases h : a = b
  · rw [decide_eq_true h, decide_eq_true (congrArg V.str h)]
  · rw [decide_eq_false h, decide_eq_false fun e => h (V.str.inj e)]
theorem decI {a b : Int} : decide (V.int a = V.int b) = decide (a = b) := by
  by_cases h : a = b
  · rw [decide_eq_true h, decide_eq_true (congrArg V.int h)]
  · rw [decide_eq_false h, decide_eq_false fun e => h (V.int.inj e)]
theorem rv_eqS : RV rEq (.str a) (.str b) H (.bl (decide (a = b))) := by
  rw [← decS]; exact rv_eq rfl
theorem rv_neS : RV rNe (.str a) (.str b) H (.bl (!decide (a = b))) := by
  rw [← decS]; exact rv_ne rfl
theorem rv_eqI {i j : Int} : RV rEq (.int i) (.int j) H (.bl (decide (i = j))) := by
  rw [← decI]; exact rv_eq rfl
theorem rv_neI {i j : Int} : RV rNe (.int i) (.int j) H (.bl (!decide (i = j))) := by
  rw [← decI]; exact rv_ne rfl
theorem ev_strip (h : Ev to σ H (.str a)) (hs : Ev ts σ H (.str s)) (hz : a.length ≤ 100000) : Ev (tBM K "str" rStrip to (tCons ts tNil)) σ H (.str (Txt.stripChars a s)) := fun H1 e Q q =>
  h H1 e _ fun H2 e2 => ⟨rfl, hs H2 (e.trans e2) _ fun H3 e3 => ⟨a, s, rfl, rfl, sz_of hz, q H3 (e2.trans e3)⟩⟩
theorem ev_isascii (h : Ev to σ H (.str a)) : Ev (tBM0 K "str" rIsascii to) σ H (.bl (Txt.isascii a)) := fun H1 e Q q => h H1 e _ fun H2 e2 => ⟨rfl, a, rfl, rfl, trivial, q H2 e2⟩
theorem ev_isprint (h : Ev to σ H (.str a)) : Ev (tBM0 K "str" rIsprint to) σ H (.bl (Txt.isprintable a)) := fun H1 e Q q => h H1 e _ fun H2 e2 => ⟨rfl, a, rfl, rfl, trivial, q H2 e2⟩
theorem ev_starts (h : Ev to σ H (.str a)) (hs : Ev ts σ H (.str s)) : Ev (tBM K "str" rStarts to (tCons ts tNil)) σ H (.bl (Txt.startswith a s)) := fun H1 e Q q =>
  h H1 e _ fun H2 e2 => ⟨rfl, hs H2 (e.trans e2) _ fun H3 e3 => ⟨a, s, rfl, rfl, q H3 (e2.trans e3)⟩⟩
/-- text.translate({37: None}) -/
theorem ev_trans (h : Ev to σ H (.str a)) (ha : ∀ c ∈ tl a, c < 128) (hz : a.length ≤ 100000) : Ev (tBM K "str" rTrans to (tCons (tDisp [(tC (.int 37), tC .non)]) tNil)) σ H (.str (no37 a)) := fun H1 e Q q =>
  h H1 e _ fun H2 e2 => ⟨rfl, fun p hp => ⟨upd_same, [(Sum.inl 37, .non)], rfl, (by decide), ⟨a, p, rfl, rfl, (by rw [upd_same]; rfl), ha, Nat.le_trans hz (by decide), q _ (e2.trans (fun b o hb => by
    rw [upd_ne (ne_of_none hb hp), upd_ne (ne_of_none hb hp)]
    exact hb))⟩⟩⟩
theorem ev_lenStr (h : Ev te σ H (.str a)) (hz : a.length ≤ 100000) : Ev (tCB rLenStr (tCons te tNil)) σ H (.int (a.length : Int)) := fun H1 e Q q => h H1 e _ fun H2 e2 => ⟨a, rfl, sz_of hz, q H2 e2⟩
theorem ev_intStr {n : Int} (h : Ev te σ H (.str a)) (hn : PySem.intText? a = some n) (hl : a.length ≤ 640) : Ev (tCB rIntStr (tCons te tNil)) σ H (.int n) := fun H1 e Q q => h H1 e _ fun H2 e2 => ⟨a, n, rfl, hn, hl, q H2 e2⟩
theorem ev_slS {tl' th : TO} {lo hi : Option Int} (h : Ev te σ H (.str a)) (h1 : EvO tl' σ H lo) (h2 : EvO th σ H hi) (hz : a.length ≤ 100000) : Ev (tSl rSlS te tl' th) σ H (.str (cutS a lo hi)) := fun H1 e Q q =>
  h H1 e _ fun H2 e2 => h1 H2 (e.trans e2) _ fun H3 e3 => h2 H3 ((e.trans e2).trans e3) _ fun H4 e4 => ⟨a, rfl, sz_of hz, q H4 ((e2.trans e3).trans e4)⟩
theorem ev_ixS {i : Int} (h : Ev te σ H (.str a)) (h1 : Ev tb σ H (.int i)) (hz : a.length ≤ 100000) (ha : atI (tl a) i = some c) : Ev (tOp rIxS te tb) σ H (.str ⟨#[c]⟩) := ev_op h h1 (rv_ixS hz ha)
/-- a <= b <= c -/
theorem ev_chain {i j k : Int} (ha : Ev ta σ H (.int i)) (hb : Ev tb σ H (.int j)) (hc : Ev tc σ H (.int k)) :
    Ev (tChain (rI0 fun i j => .bl (decide (i ≤ j))) (rI0 fun i j => .bl (decide (i ≤ j))) ta tb tc) σ H (.bl (decide (i ≤ j) && decide (j ≤ k))) := fun H1 e Q q =>
  ha H1 e _ fun H2 e2 => hb H2 (e.trans e2) _ fun H3 e3 => ⟨i, j, rfl, rfl, _, rfl, by
    cases h : decide (i ≤ j) with
    | true =>
      refine iteT ?_
      refine hc H3 ((e.trans e2).trans e3) _ fun H4 e4 => ⟨j, k, rfl, rfl, ?_⟩
      have g := q H4 ((e2.trans e3).trans e4)
      rw [h] at g
      exact g
    | false =>
      refine iteF ?_
      have g := q H3 (e2.trans e3)
      rw [h] at g
      exact g⟩
/-- the same, where the last part is asked only if the first holds -/
theorem ev_callN {sp : Sp} {vs : List V} {n : Nat} {E : XK} {tk : TA} (h : EvA tk σ H vs) (hl : vs.length = n) (hs : SpV sp vs H z) : Ev (tCallN 0 n sp (fun _ zs => zs) E tNil tk) σ H z := fun H1 e Q q =>
  h H1 e _ fun H2 e2 => ⟨rfl, hl, hs H2 (e.trans e2) Q (fun H3 e3 => q H3 (e2.trans e3)) E⟩
theorem el_callN {sp : Sp} {vs xs : List V} {n : Nat} {E : XK} {tk : TA} (h : EvA tk σ H vs) (hl : vs.length = n) (hs : SpL sp vs H xs) : EvL (tCallN 0 n sp (fun _ zs => zs) E tNil tk) σ H xs := fun H1 e Q q =>
  h H1 e _ fun H2 e2 => ⟨rfl, hl, hs H2 (e.trans e2) Q (fun p H3 hp e3 h3 => q p H3 (fresh_back e2 hp) (e2.trans e3) h3) E⟩
end
/-! ### promises of plain functions of texts -/
def sp1 (f : Str → V) : Sp := fun vs H Q _ => ∃ z : Str, vs = [.str z] ∧ z.length ≤ 100000 ∧ RetV (f z) H Q
def sp2 (f : Str → Str → V) : Sp := fun vs H Q _ => ∃ z s : Str, vs = [.str z, .str s] ∧ z.length ≤ 100000 ∧ RetV (f z s) H Q
def sp0 (v : V) : Sp := fun vs H Q _ => vs = [] ∧ RetV v H Q
def sp1L (f : Str → List V) : Sp := fun vs H Q _ => ∃ z : Str, vs = [.str z] ∧ z.length ≤ 10000 ∧ RetL (f z) H Q
theorem sv1 {f : Str → V} {z : Str} {H : Hp} (h : z.length ≤ 100000) : SpV (sp1 f) [.str z] H (f z) := fun H1 e Q q E => ⟨z, rfl, h, q⟩
theorem sv2 {f : Str → Str → V} {z s : Str} {H : Hp} (h : z.length ≤ 100000) : SpV (sp2 f) [.str z, .str s] H (f z s) := fun H1 e Q q E => ⟨z, s, rfl, h, q⟩
theorem sv0 {v : V} {H : Hp} : SpV (sp0 v) [] H v := fun H1 e Q q E => ⟨rfl, q⟩
theorem sl1 {f : Str → List V} {z : Str} {H : Hp} (h : z.length ≤ 10000) : SpL (sp1L f) [.str z] H (f z) := fun H1 e Q q E => ⟨z, rfl, h, q⟩
end Z
set_option maxHeartbeats 2000000
namespace Z
open PySem PySem.Spec PyProof.Rows L2 TL Evl
/-! ### cut at commas -/
def splC : List Nat → List Nat → List (List Nat)
  | acc, [] => [acc]
  | acc, c :: r => if c = 44 then acc :: splC [] r else splC (acc ++ [c]) r
theorem spl_splC : ∀ (l acc : List Nat), spl [44] 0 acc l = splC acc l
  | [], acc => spl_nil _ _ _
  | c :: r, acc => by
    have hp : pre [44] (c :: r) = decide (c = 44) := by
      show ([c] == [44]) = decide (c = 44)
      by_cases h : c = 44
      · rw [h]; rfl
      · rw [decide_eq_false h]
        exact beq_eq_false_iff_ne.mpr fun e => h (by cases e; rfl)
    show spl [44] 0 acc (c :: r) = if c = 44 then acc :: splC [] r else splC (acc ++ [c]) r
    by_cases h : c = 44
    · rw [spl_hit (by rw [hp, decide_eq_true h]), if_pos h]
      show acc :: spl [44] 0 [] r = _
      rw [spl_splC r []]
    · rw [spl_miss (by rw [hp, decide_eq_false h]), if_neg h]
      exact spl_splC r (acc ++ [c])
theorem splC_len : ∀ (l acc : List Nat), (splC acc l).length ≤ l.length + 1
  | [], acc => Nat.le_refl _
  | c :: r, acc => by
    show (if c = 44 then acc :: splC [] r else splC (acc ++ [c]) r).length ≤ r.length + 1 + 1
    by_cases h : c = 44
    · rw [if_pos h, List.length_cons]; have := splC_len r []; omega
    · rw [if_neg h]; have := splC_len r (acc ++ [c]); omega
theorem splC_each : ∀ (l acc p : List Nat), p ∈ splC acc l → p.length ≤ acc.length + l.length
  | [], acc, p, h => by
    rw [List.mem_singleton.mp h]
    exact Nat.le_add_right _ _
  | c :: r, acc, p, h => by
    have h : p ∈ (if c = 44 then acc :: splC [] r else splC (acc ++ [c]) r) := h
    rw [List.length_cons]
    by_cases hc : c = 44
    · rw [if_pos hc] at h
      rcases List.mem_cons.mp h with e | h
      · rw [e]; omega
      · have := splC_each r [] p h
        rw [List.length_nil] at this
        omega
    · rw [if_neg hc] at h
      have := splC_each r (acc ++ [c]) p h
      rw [List.length_append, List.length_singleton] at this
      omega
theorem comma : tl ("," : Str) = [44] := by decide +kernel
theorem comma_kind {x : Str} : ¬ Builtin.Str.strKind x < Builtin.Str.strKind ("," : Str) := kind_ok (by decide +kernel)
theorem split_tl (z : Str) : (Txt.split z ",").map tl = splC [] (tl z) := by
  rw [split_spl z "," (by rw [comma]; simp) comma_kind, comma]
  exact spl_splC _ _
def S' (l : List Nat) : Str := ⟨l.toArray⟩
theorem S'_tl (x : Str) : S' (tl x) = x := mk_tl x
theorem tl_S' (l : List Nat) : tl (S' l) = l := rfl
theorem split_eq (z : Str) : Txt.split z "," = (splC [] (tl z)).map S' := by
  rw [← split_tl, List.map_map]
  have : (S' ∘ tl) = id := funext S'_tl
  rw [this, List.map_id]
theorem split_len (z : Str) : (Txt.split z ",").length ≤ z.length + 1 := by
  rw [split_eq, List.length_map, len_tl]
  exact splC_len _ _
theorem split_each {z p : Str} (h : p ∈ Txt.split z ",") : p.length ≤ z.length := by
  rw [split_eq] at h
  obtain ⟨l, hl, rfl⟩ := List.mem_map.mp h
  have := splC_each _ _ _ hl
  rw [List.length_nil, Nat.zero_add] at this
  rw [len_tl, len_tl]
  exact this
/-- the elements of a list in a field -/
def stripped (z : Str) : List Str := (Txt.split z ",").map fun p => Txt.stripChars p " "
def elems (z : Str) : List Str := (stripped z).filter fun p => !decide (p = ("" : Str))
/-! ### the same, sign by sign -/
def wstep (st : List Str × Str) (c : Nat) : List Str × Str :=
  if c = 44 then (if Txt.stripChars st.2 " " = ("" : Str) then st.1 else st.1 ++ [Txt.stripChars st.2 " "], "") else (st.1, st.2 ++ ⟨#[c]⟩)
def keepW (p : Str) : List Str := if Txt.stripChars p " " = ("" : Str) then [] else [Txt.stripChars p " "]
theorem keepW_eq (l : List Str) : (l.map fun p => Txt.stripChars p " ").filter (fun p => !decide (p = ("" : Str))) = l.flatMap keepW := by
  induction l with
  | nil => rfl
  | cons p r ih =>
    rw [List.map_cons, List.filter_cons, List.flatMap_cons, ih]
    unfold keepW
    by_cases h : Txt.stripChars p " " = ("" : Str)
    · rw [decide_eq_true h, if_pos h]; rfl
    · rw [decide_eq_false h, if_neg h]; rfl
theorem snoc_S' (l : List Nat) (c : Nat) : S' l ++ (⟨#[c]⟩ : Str) = S' (l ++ [c]) := ext_tl (by rw [tl_append]; rfl)
theorem wfold : ∀ (l : List Nat) (fs : List Str) (w : List Nat), (l ++ [44]).foldl wstep (fs, S' w) = (fs ++ ((splC w l).map S').flatMap keepW, ("" : Str))
  | [], fs, w => by
    show wstep (fs, S' w) 44 = _
    unfold wstep
    rw [if_pos rfl]
    show (if Txt.stripChars (S' w) " " = ("" : Str) then fs else fs ++ [Txt.stripChars (S' w) " "], ("" : Str)) = (fs ++ ([w].map S').flatMap keepW, ("" : Str))
    have : ([w].map S').flatMap keepW = keepW (S' w) := by simp
    rw [this]
    unfold keepW
    by_cases h : Txt.stripChars (S' w) " " = ("" : Str)
    · rw [if_pos h, if_pos h, List.append_nil]
    · rw [if_neg h, if_neg h]
  | c :: r, fs, w => by
    rw [List.cons_append, List.foldl_cons]
    show List.foldl wstep (wstep (fs, S' w) c) (r ++ [44]) = (fs ++ ((if c = 44 then w :: splC [] r else splC (w ++ [c]) r).map S').flatMap keepW, ("" : Str))
    unfold wstep
    by_cases h : c = 44
    · rw [if_pos h, if_pos h]
      have e : ("" : Str) = S' [] := eq_comm.mp (eq_empty.mpr rfl)
      show List.foldl wstep (if Txt.stripChars (S' w) " " = ("" : Str) then fs else fs ++ [Txt.stripChars (S' w) " "], ("" : Str)) (r ++ [44]) = _
      rw [e, wfold r _ [], List.map_cons, List.flatMap_cons, ← e]
      unfold keepW
      by_cases h2 : Txt.stripChars (S' w) " " = ("" : Str)
      · rw [if_pos h2, if_pos h2, List.nil_append]
      · rw [if_neg h2, if_neg h2, List.append_assoc]
    · rw [if_neg h, if_neg h]
      show List.foldl wstep (fs, S' w ++ ⟨#[c]⟩) (r ++ [44]) = _
      rw [snoc_S', wfold r fs (w ++ [c])]
theorem words_elems (z : Str) : ((tl z ++ [44]).foldl wstep ([], ("" : Str))).1 = elems z := by
  have e : ("" : Str) = S' [] := eq_comm.mp (eq_empty.mpr rfl)
  have h := wfold (tl z) [] []
  rw [← e] at h
  rw [h]
  show [] ++ ((splC [] (tl z)).map S').flatMap keepW = elems z
  rw [List.nil_append, ← split_eq]
  unfold elems stripped
  rw [keepW_eq]
/-! ### what a comprehension gives -/
theorem given_take {α : Type} (xs : List α) (d : α) (p : α → Bool) (g : α → V) : ∀ n, n ≤ xs.length → given n (fun i => p (xs.getD i d)) (fun i => g (xs.getD i d)) = ((xs.take n).filter p).map g
  | 0, _ => rfl
  | n + 1, h => by
    have hn : n < xs.length := h
    have e : xs.getD n d = xs[n] := by rw [List.getD_eq_getElem?_getD, List.getElem?_eq_getElem hn]; rfl
    have et : xs.take (n + 1) = xs.take n ++ [xs[n]] := by rw [List.take_add_one, List.getElem?_eq_getElem hn]; rfl
    rw [et, List.filter_append, List.map_append, ← given_take xs d p g n (by omega)]
    by_cases hp : p (xs.getD n d) = true
    · rw [given_yes (f := fun i => p (xs.getD i d)) hp]
      rw [e] at hp ⊢
      rw [List.filter_cons, if_pos hp]
      rfl
    · have hp' : p (xs.getD n d) = false := by
        cases h : p (xs.getD n d) with
        | true => exact absurd h hp
        | false => rfl
      rw [given_no (f := fun i => p (xs.getD i d)) hp']
      rw [e] at hp
      rw [List.filter_cons, if_neg hp]
      show _ = _ ++ []
      rw [List.append_nil]
theorem given_all {α : Type} (xs : List α) (d : α) (p : α → Bool) (g : α → V) : given xs.length (fun i => p (xs.getD i d)) (fun i => g (xs.getD i d)) = (xs.filter p).map g := by
  rw [given_take xs d p g xs.length (Nat.le_refl _), List.take_length]
theorem at_str {xs : List Str} {i : Nat} {x : V} (h : (xs.map V.str)[i]? = some x) (d : Str) : i < xs.length ∧ x = .str (xs.getD i d) ∧ xs.getD i d ∈ xs := by
  rw [List.getElem?_map] at h
  cases e : xs[i]? with
  | none => rw [e] at h; cases h
  | some a =>
    rw [e] at h
    cases h
    have : xs.getD i d = a := by rw [List.getD_eq_getElem?_getD, e]; rfl
    exact ⟨(List.getElem?_eq_some_iff.mp e).1, by rw [this], by rw [this]; exact List.mem_of_getElem? e⟩
/-! ### loops over a text; a text split -/
def rSplit : V → List V → Hp → VK → Prop := fun x xs H Q => ∃ a b, x = .str a ∧ xs = [.str b] ∧ (b.length == 0) = false ∧ a.length + 2 ≤ sizeLine ∧ rNewStrs (Txt.split a b) H Q
theorem mz_split {X : Cx} : MtR X "str.split" rSplit := mt_split
section
variable {K : PySem.W.Frag} {σ : L2.St} {H H' : Hp} {ta tb tc te to ts : TE} {t u : TT} {x y z v : V} {r : R2} {a b s : Str} {c : Nat} {D : Ends} {tu tz : TS}
theorem el_split (h : Ev to σ H (.str a)) (hs : Ev ts σ H (.str s)) (h0 : (s.length == 0) = false) (hz : a.length ≤ 100000) : EvL (tBM K "str" rSplit to (tCons ts tNil)) σ H ((Txt.split a s).map V.str) := fun H1 e Q q =>
  h H1 e _ fun H2 e2 => ⟨rfl, hs H2 (e.trans e2) _ fun H3 e3 => ⟨a, s, rfl, rfl, h0, Nat.le_trans (Nat.add_le_add_right hz 2) (by decide), fun p hp => q p _ (fresh_back (e2.trans e3) hp) ((e2.trans e3).trans (Ex.new hp)) upd_same⟩⟩
theorem s_forS {w : Str} {j : Nat} (h : Ev te σ H (.str w)) (Pv : Nat → L2.St → Hp → Prop) (h0 : ∀ H1, Ex H H1 → Pv 0 σ H1)
    (hs : ∀ i c σ' H', (tl w)[i]? = some c → Pv i σ' H' → tu { D with nx := Pv (i + 1), ct := Pv (i + 1), bk := D.nx } (σ'.set j (some (.str ⟨#[c]⟩))) H') (hd : ∀ σ' H', Pv (tl w).length σ' H' → D.nx σ' H') : tFor (iStr te) (gName j) tu D σ H :=
  h H (Ex.refl H) _ fun H1 e => ⟨w, rfl, for_it (walk_str (z := w)) Pv (h0 H1 e) (fun _ _ _ _ _ => trivial) (fun i x σ' H' H'' hi p y => by
    obtain ⟨rfl, c, hc, rfl⟩ := y
    exact hs i c σ' H'' (by show w.cps.toList[i]? = some c; simpa using hc) p) (fun σ' H' p => hd σ' H' (by
      have : (tl w).length = w.cps.size := by rw [len_tl']; rfl
      rw [this]; exact p))⟩
theorem q_forS {w : Str} {j : Nat} (h : Ev te σ H (.str w)) (Pv : Nat → L2.St → Hp → Prop) (h0 : ∀ H1, Ex H H1 → Pv 0 σ H1)
    (hs : ∀ i c σ' H', (tl w)[i]? = some c → Pv i σ' H' → tu { D with nx := Pv (i + 1), ct := Pv (i + 1), bk := tz D } (σ'.set j (some (.str ⟨#[c]⟩))) H') (hd : ∀ σ' H', Pv (tl w).length σ' H' → tz D σ' H') : tSeq (tFor (iStr te) (gName j) tu) tz D σ H :=
  s_forS (D := { D with nx := tz D }) h Pv h0 hs hd
end
/-! ### numbers -/
open NumText in
theorem digits_all {z : Str} (h : allIn z "0123456789" = true) : AllDigits (tl z) := fun c hc => by
  have h1 := of_decide_eq_true (List.all_eq_true.mp h c hc)
  have e : tl ("0123456789" : Str) = [48, 49, 50, 51, 52, 53, 54, 55, 56, 57] := by decide +kernel
  rw [e] at h1
  simp only [List.mem_cons, List.not_mem_nil, or_false] at h1
  omega
theorem int_digits {z : Str} (h : allIn z "0123456789" = true) (h1 : 1 ≤ z.length) (h2 : z.length ≤ 640) : PySem.intText? z = some ((NumText.digitsVal (tl z) : Nat) : Int) :=
  intText_digits (digits_all h) (fun e => by
    rw [len_tl] at h1
    have : tl z = [] := e
    rw [this] at h1
    exact absurd h1 (by decide)) (by omega)
end Z
set_option maxHeartbeats 4000000
namespace Z
open PySem PySem.Spec PyProof.Rows L2 TL Evl
/-! ### what the functions give -/
def pathB (z : Str) : Bool := (decide ((1 : Int) ≤ z.length) && decide ((z.length : Int) ≤ 60)) && (decide (hd z = some 47) && allIn z "abcdefghijklmnopqrstuvwxyz0123456789/-.")
def hdIn (z s : Str) : Bool := match hd z with | some c => decide (c ∈ tl s) | none => false
def wordB (z : Str) (m : Int) : Bool := (decide ((1 : Int) ≤ z.length) && decide ((z.length : Int) ≤ m)) && (hdIn z "abcdefghijklmnopqrstuvwxyz" && allIn z "abcdefghijklmnopqrstuvwxyz0123456789-")
def nameB (z : Str) : Bool := wordB z 30 && !decide (z = ("length" : Str))
def valueB (z : Str) : Bool := decide ((z.length : Int) ≤ 200) && (allIn z signs && decide (Txt.stripChars z " " = z))
def digB (z : Str) : Bool := (decide ((1 : Int) ≤ z.length) && decide ((z.length : Int) ≤ 6)) && (allIn z "0123456789" && (decide ((z.length : Int) = 1) || !decide (hd z = some 48)))
def numV (z : Str) : V := if digB z = true then .int (((NumText.digitsVal (tl z) : Nat)) : Int) else .non
theorem item0 {z : Str} (h : 1 ≤ z.length) : ∃ c, hd z = some c ∧ atI (tl z) 0 = some c := by
  obtain ⟨c, h1, h2⟩ := hd_some h
  refine ⟨c, h1, ?_⟩
  have : (tl z)[0]? = some c := by
    show z.cps.toList[0]? = some c
    simpa using h2
  exact atI_nat (j := 0) this
theorem pl {a b c : Int} (h : (decide (a ≤ b) && decide (b ≤ c)) = true) : a ≤ b ∧ b ≤ c := by
  rw [Bool.and_eq_true, decide_eq_true_eq, decide_eq_true_eq] at h
  exact h
section
variable {P : Program} {w : World} {K : PySem.W.Frag} {mg : Str → Option Value} {base : Heap} {f : Addr} {fd : FuncData} {k : Nat}
end
end Z

namespace Z
open PySem PySem.Spec PyProof.Rows L2 TL Evl
theorem et_yes {σ : L2.St} {H : Hp} : EvT tYes σ H true := fun H1 e Q q => q H1 (Ex.refl H1)
theorem cut1_eq (z : Str) (c : Nat) : decide (cutS z none (some 1) = (⟨#[c]⟩ : Str)) = decide (hd z = some c) := by
  cases e : hd z with
  | none =>
    rw [cut1_nil e, decide_eq_false (show ¬ (none : Option Nat) = some c from fun h => nomatch h)]
    refine decide_eq_false fun h => ?_
    have := congrArg tl h
    rw [tl_empty] at this
    exact absurd this.symm (by show ¬ [c] = []; simp)
  | some d =>
    rw [cut1_one e]
    by_cases h : d = c
    · rw [h, decide_eq_true rfl, decide_eq_true rfl]
    · rw [decide_eq_false fun x => h ((one_eq _ _).mp x), decide_eq_false fun x => h (Option.some.inj x)]
theorem cut_len (z : Str) (a b : Option Int) : (cutS z a b).length ≤ z.length := cutS_length z a b
def rest (z : Str) : Str := cutS z (some 1) none
def readV (z : Str) : V := if hd z = some 45 then (if digB (rest z) = true ∧ rest z ≠ ("0" : Str) then .int (-((NumText.digitsVal (tl (rest z)) : Nat) : Int)) else .non) else numV z
theorem starts_minus (z : Str) : Txt.startswith z "-" = decide (hd z = some 45) := by
  have e45 : ("-" : Str) = ⟨#[45]⟩ := by decide +kernel
  unfold Txt.startswith Builtin.Str.subAt
  rw [e45]
  show (decide (0 + 1 ≤ z.length) && (z.cps.extract 0 (0 + 1) == #[45])) = _
  have hx : (z.cps.extract 0 (0 + 1) == #[45]) = decide ((tl z).take 1 = [45]) := by
    have : (z.cps.extract 0 (0 + 1)).toList = (tl z).take 1 := by simp [tl]
    by_cases h : (tl z).take 1 = [45]
    · rw [decide_eq_true h]
      refine beq_iff_eq.mpr (Array.toList_inj.mp ?_)
      rw [this, h]
    · rw [decide_eq_false h]
      refine beq_eq_false_iff_ne.mpr fun e => h ?_
      rw [← this, e]
  rw [hx, len_tl]
  unfold hd
  cases e : tl z with
  | nil => rfl
  | cons a r =>
    have h1 : 0 + 1 ≤ (a :: r).length := by rw [List.length_cons]; omega
    rw [decide_eq_true h1, Bool.true_and]
    show decide ([a] = [45]) = decide (some a = some 45)
    by_cases h : a = 45
    · rw [h]; rfl
    · rw [decide_eq_false fun e => h (by cases e; rfl), decide_eq_false fun e => h (Option.some.inj e)]
theorem zero_text {z : Str} (h : z.length = 1) (h48 : hd z = some 48) : z = ("0" : Str) := by
  refine ext_tl ?_
  have e : tl ("0" : Str) = [48] := by decide +kernel
  rw [e]
  unfold hd at h48
  rw [len_tl] at h
  cases q : tl z with
  | nil => rw [q] at h48; cases h48
  | cons a r =>
    rw [q] at h48 h
    cases h48
    cases r with
    | nil => rfl
    | cons b t => rw [List.length_cons, List.length_cons] at h; omega
theorem zero_len {z : Str} (h : z = ("0" : Str)) : z.length = 1 := by rw [h]; decide +kernel
section
variable {P : Program} {w : World} {K : PySem.W.Frag} {mg : Str → Option Value} {base : Heap} {f : Addr} {fd : FuncData} {k : Nat}
abbrev cons_ (P : Program) (w : World) (K : PySem.W.Frag) (mg : Str → Option Value) (base : Heap) : Prop := Call P w K mg base 1 "consists_of" ["text", "signs"] (sp2 fun z s => .bl (allIn z s))
end
end Z

namespace Z
open PySem PySem.Spec PyProof.Rows L2 TL Evl
open NumText in
theorem fold_mono : ∀ (l : List Nat) (a : Nat), 1 ≤ a → 1 ≤ l.foldl (fun acc c => acc * 10 + (c - 48)) a
  | [], a, h => h
  | c :: r, a, h => fold_mono r (a * 10 + (c - 48)) (by omega)
open NumText in
theorem val_pos {z : Str} (hb : digB z = true) (h0 : z ≠ ("0" : Str)) : 1 ≤ digitsVal (tl z) := by
  unfold digB at hb
  obtain ⟨h1, h2⟩ := Bool.and_eq_true_iff.mp hb
  obtain ⟨h3, h4⟩ := Bool.and_eq_true_iff.mp h2
  have hl := pl h1
  have hall := digits_all h3
  have hne : hd z ≠ some 48 := by
    intro h48
    rw [Bool.or_eq_true, decide_eq_true_eq, Bool.not_eq_true', decide_eq_false_iff_not] at h4
    rcases h4 with h | h
    · exact h0 (zero_text (by omega) h48)
    · exact h h48
  unfold hd at hne
  cases q : tl z with
  | nil =>
    have := len_tl z
    rw [q] at this
    have e : ([] : List Nat).length = 0 := rfl
    omega
  | cons c r =>
    rw [q] at hne hall
    have hc := hall c List.mem_cons_self
    have : c ≠ 48 := fun e => hne (by rw [e]; rfl)
    show 1 ≤ (c :: r).foldl (fun acc c => acc * 10 + (c - 48)) 0
    rw [List.foldl_cons]
    exact fold_mono r _ (by omega)
theorem val_zero : NumText.digitsVal (tl ("0" : Str)) = 0 := by decide +kernel
theorem rest_len (z : Str) : (rest z).length ≤ z.length := cut_len z _ _
theorem minus_nodig {z : Str} (h : hd z = some 45) : digB z = false := by
  cases e : digB z with
  | false => rfl
  | true =>
    exfalso
    unfold digB at e
    obtain ⟨h1, h2⟩ := Bool.and_eq_true_iff.mp e
    obtain ⟨h3, h4⟩ := Bool.and_eq_true_iff.mp h2
    have hall := digits_all h3
    unfold hd at h
    cases q : tl z with
    | nil => rw [q] at h; cases h
    | cons c r =>
      rw [q] at h hall
      cases h
      have := hall 45 List.mem_cons_self
      omega
theorem minus_zero {z : Str} (h : hd z = some 45) : decide (z = ("-0" : Str)) = decide (rest z = ("0" : Str)) := by
  have e0 : tl ("-0" : Str) = [45, 48] := by decide +kernel
  have e1 : tl ("0" : Str) = [48] := by decide +kernel
  have er : tl (rest z) = (tl z).drop 1 := cutFrom1_tl z
  unfold hd at h
  by_cases hz : z = ("-0" : Str)
  · rw [decide_eq_true hz]
    symm
    refine decide_eq_true (ext_tl ?_)
    rw [er, e1, hz, e0]
    rfl
  · rw [decide_eq_false hz]
    symm
    refine decide_eq_false fun hr => hz (ext_tl ?_)
    rw [hr, e1] at er
    cases q : tl z with
    | nil => rw [q] at h; cases h
    | cons c r =>
      rw [q] at h er
      cases h
      have er : [48] = r := er
      rw [← er, e0]
theorem numV_form (z : Str) : (digB z = true ∧ numV z = .int ((NumText.digitsVal (tl z) : Nat) : Int)) ∨ (digB z = false ∧ numV z = .non) := by
  unfold numV
  cases h : digB z with
  | true => exact .inl ⟨rfl, if_pos rfl⟩
  | false => exact .inr ⟨rfl, if_neg (by decide)⟩
section
variable {P : Program} {w : World} {K : PySem.W.Frag} {mg : Str → Option Value} {base : Heap} {f : Addr} {fd : FuncData} {k : Nat}
abbrev C1 (P : Program) (w : World) (K : PySem.W.Frag) (mg : Str → Option Value) (base : Heap) (k : Nat) (x : Str) (f : Str → V) : Prop := Call P w K mg base k x ["text"] (sp1 f)
/-! ### the law's own reading -/
def letters : Str := "abcdefghijklmnopqrstuvwxyz"
end
end Z

namespace Z
open PySem PySem.Spec PyProof.Rows L2 TL Evl
/-! ### texts in lists, compared -/
theorem lay_strs : ∀ xs : List Str, (∀ x ∈ xs, PyData.strOk x = true) → PyData.canLayAll0 (xs.map PyData.str) = true
  | [], _ => by simp [PyData.canLayAll0]
  | x :: r, h => by
    have h1 := h x List.mem_cons_self
    have h2 := lay_strs r fun y hy => h y (List.mem_cons_of_mem _ hy)
    simp [PyData.canLayAll0, PyData.canLay0, h1, h2]
theorem depth_strs : ∀ xs : List Str, PyData.depthAll (xs.map PyData.str) ≤ 1
  | [] => by simp [PyData.depthAll]
  | x :: r => by
    have := depth_strs r
    simp only [List.map_cons, PyData.depthAll, PyData.depth]
    omega
theorem shaped_strs (xs : List Str) (h : ∀ x ∈ xs, PyData.strOk x = true) : SeqAt.shaped (.list (xs.map PyData.str)) = true := by
  have h1 := depth_strs xs
  have h2 : PyData.depth (.list (xs.map PyData.str)) ≤ 64 := by simp only [PyData.depth]; omega
  show (PyData.canLay0 (.list (xs.map PyData.str)) && decide (PyData.depth (.list (xs.map PyData.str)) ≤ 64)) = true
  rw [Bool.and_eq_true]
  exact ⟨by simp only [PyData.canLay0]; exact lay_strs xs h, decide_eq_true h2⟩
theorem ok_text {x : Str} (h : ∀ c ∈ tl x, c < 128) : PyData.strOk x = true := by
  unfold PyData.strOk
  rw [← Array.all_toList]
  exact List.all_eq_true.mpr fun c hc => decide_eq_true (Nat.lt_trans (h c hc) (by decide))
theorem splC_mem : ∀ (l acc p : List Nat), p ∈ splC acc l → ∀ c ∈ p, c ∈ acc ∨ c ∈ l
  | [], acc, p, h, c, hc => by
    rw [List.mem_singleton.mp h] at hc
    exact .inl hc
  | a :: r, acc, p, h, c, hc => by
    have h : p ∈ (if a = 44 then acc :: splC [] r else splC (acc ++ [a]) r) := h
    by_cases ha : a = 44
    · rw [if_pos ha] at h
      rcases List.mem_cons.mp h with e | h
      · rw [e] at hc; exact .inl hc
      · rcases splC_mem r [] p h c hc with g | g
        · cases g
        · exact .inr (List.mem_cons_of_mem _ g)
    · rw [if_neg ha] at h
      rcases splC_mem r (acc ++ [a]) p h c hc with g | g
      · rcases List.mem_append.mp g with g | g
        · exact .inl g
        · rw [List.mem_singleton.mp g]; exact .inr List.mem_cons_self
      · exact .inr (List.mem_cons_of_mem _ g)
theorem strip_mem {p s : Str} {c : Nat} (h : c ∈ tl (Txt.stripChars p s)) : c ∈ tl p := by
  have e0 : Txt.stripChars p s = Builtin.Str.strSub p (stripLo s.cps.contains true p) (stripHi s.cps.contains true p (stripLo s.cps.contains true p)) := stripBy_eq _ _ _ _
  rw [e0, tl_strSub] at h
  exact List.mem_of_mem_drop (List.mem_of_mem_take h)
theorem elems_mem {z p : Str} (h : p ∈ elems z) {c : Nat} (hc : c ∈ tl p) : c ∈ tl z := by
  unfold elems stripped at h
  obtain ⟨h1, _⟩ := List.mem_filter.mp h
  obtain ⟨p0, h2, rfl⟩ := List.mem_map.mp h1
  have h3 := strip_mem hc
  rw [split_eq] at h2
  obtain ⟨l, hl, rfl⟩ := List.mem_map.mp h2
  rcases splC_mem _ _ _ hl c h3 with g | g
  · cases g
  · exact g
theorem elems_ok {z : Str} (h : allIn z signs = true) : ∀ p ∈ elems z, PyData.strOk p = true := fun p hp => ok_text fun c hc => signs_lt c (of_decide_eq_true (List.all_eq_true.mp h c (elems_mem hp hc)))
theorem dp_strs {K : PySem.W.Frag} {H : Hp} : ∀ xs : List Str, DpAll K H (xs.map V.str) (xs.map PyData.str)
  | [] => .nil
  | x :: r => .cons (.str x) (dp_strs r)
theorem rv_eqL {K : PySem.W.Frag} {H : Hp} {p p2 : Addr} {xs : List Str} (h1 : SqL K H p (xs.map V.str)) (h2 : SqL K H p2 (xs.map V.str)) (hx : ∀ x ∈ xs, PyData.strOk x = true) : RV (rEqD K) (.ref p) (.ref p2) H (.bl true) := fun H1 e Q q => by
  refine ⟨.list (xs.map .str), .list (xs.map .str), .lst (ex_l e h1) (dp_strs xs), .lst (ex_l e h2) (dp_strs xs), shaped_strs xs hx, shaped_strs xs hx, ?_⟩
  rw [SeqAt.eqv_refl _ (SeqAt.canLay_of_shaped (shaped_strs xs hx))]
  exact q H1 (Ex.refl H1)
section
variable {K : PySem.W.Frag} {σ : L2.St} {H H' : Hp} {ta tb te : TE} {x : V}
theorem ev_isi {n : String} {t : Value} {b : Bool} (h : Ev ta σ H x) (ht : ∀ H1, Ex H H1 → TyX K H1 x t) (hk : PySem.W.kitOne K t (.type n) = some b) : Ev (tCB (rIsi K) (tCons ta (tCons (tC (.ty n)) tNil))) σ H (.bl b) := fun H1 e Q q =>
  h H1 e _ fun H2 e2 => ⟨x, .ty n, t, .type n, b, rfl, .ty n, ht H2 (e.trans e2), hk, q H2 e2⟩
theorem et_truB {b : Bool} (h : Ev te σ H (.bl b)) : EvT (fun σ H Q => te σ H fun x H' => ∃ k, TruV K x H' k ∧ Q k H') σ H b := fun H1 e Q q => h H1 e _ fun H2 e2 => ⟨b, rfl, q H2 e2⟩
theorem rv_eqB {a b : Bool} : RV rEq (.bl a) (.bl b) H (.bl (decide (a = b))) := by
  have : decide (V.bl a = V.bl b) = decide (a = b) := by
    by_cases h : a = b
    · rw [decide_eq_true h, decide_eq_true (congrArg V.bl h)]
    · rw [decide_eq_false h, decide_eq_false fun e => h (V.bl.inj e)]
  rw [← this]
  exact rv_eq rfl
end
section
variable {P : Program} {w : World} {K : PySem.W.Frag} {mg : Str → Option Value} {base : Heap} {f : Addr} {fd : FuncData} {k : Nat}
theorem wd_len (l : List Nat) (fs : List Str) (wd : Str) : (l.foldl wstep (fs, wd)).2.length ≤ wd.length + l.length ∧ (l.foldl wstep (fs, wd)).1.length ≤ fs.length + l.length := by
  induction l generalizing fs wd with
  | nil => exact ⟨Nat.le_refl _, Nat.le_refl _⟩
  | cons c r ih =>
    rw [List.foldl_cons, List.length_cons]
    have e : wstep (fs, wd) c = ((wstep (fs, wd) c).1, (wstep (fs, wd) c).2) := rfl
    rw [e]
    obtain ⟨h1, h2⟩ := ih (wstep (fs, wd) c).1 (wstep (fs, wd) c).2
    have g : (wstep (fs, wd) c).2.length ≤ wd.length + 1 ∧ (wstep (fs, wd) c).1.length ≤ fs.length + 1 := by
      unfold wstep
      by_cases hc : c = 44
      · rw [if_pos hc]
        refine ⟨by show (("" : Str)).length ≤ _; rw [show (("" : Str)).length = 0 by decide +kernel]; omega, ?_⟩
        show (if Txt.stripChars wd " " = ("" : Str) then fs else fs ++ [Txt.stripChars wd " "]).length ≤ _
        by_cases h : Txt.stripChars wd " " = ("" : Str)
        · rw [if_pos h]; omega
        · rw [if_neg h, List.length_append]; exact Nat.le_refl _
      · rw [if_neg hc]
        refine ⟨?_, by show fs.length ≤ _; omega⟩
        show (wd ++ (⟨#[c]⟩ : Str)).length ≤ _
        rw [Str.length_append]
        exact Nat.le_refl _
    omega
theorem take_step {l : List Nat} {i c : Nat} (h : l[i]? = some c) (st : List Str × Str) : (l.take (i + 1)).foldl wstep st = wstep ((l.take i).foldl wstep st) c := by
  rw [List.take_add_one, h, List.foldl_append]
  rfl
def spTruth : Sp := fun vs H Q _ => ∃ a b : Bool, vs = [.bl a, .bl b] ∧ RetV (.bl (decide (a = b))) H Q
theorem svT {a b : Bool} {H : Hp} : SpV spTruth [.bl a, .bl b] H (.bl (decide (a = b))) := fun H1 e Q q E => ⟨a, b, rfl, q⟩
def spInt : Sp := fun vs H Q _ => ∃ z : V, vs = [z, z] ∧ (z = .non ∨ ∃ i, z = .int i) ∧ RetV (.bl true) H Q
theorem numV_kind (z : Str) : numV z = .non ∨ ∃ i, numV z = .int i := by
  rcases numV_form z with ⟨_, h⟩ | ⟨_, h⟩
  · exact .inr ⟨_, h⟩
  · exact .inl h
theorem readV_kind (z : Str) : readV z = .non ∨ ∃ i, readV z = .int i := by
  unfold readV
  by_cases h : hd z = some 45
  · rw [if_pos h]
    by_cases h2 : digB (rest z) = true ∧ rest z ≠ ("0" : Str)
    · rw [if_pos h2]; exact .inr ⟨_, rfl⟩
    · rw [if_neg h2]; exact .inl rfl
  · rw [if_neg h]; exact numV_kind z
theorem svI {v : V} {H : Hp} (h : v = .non ∨ ∃ i, v = .int i) : SpV spInt [v, v] H (.bl true) := fun H1 e Q q E => ⟨v, rfl, h, q⟩
def spRight : Sp := fun vs H Q _ => ∃ z : Str, vs = [.str z] ∧ z.length ≤ 10000 ∧ RetV (.bl true) H Q
theorem dec_self (b : Bool) : decide (b = b) = true := decide_eq_true rfl
end
end Z

namespace Z
open PySem PySem.Spec PyProof.Rows L2 TL Evl
def rRepStr : R2 := fun x y H Q => ∃ (z : Str) (i : Int), x = .str z ∧ y = .int i ∧ 0 ≤ i ∧ i ≤ 1000 ∧ z.length ≤ 1000 ∧ Q (.str (repS z i.toNat)) H
theorem oz_rep {X : Cx} : OpR X (binaryOp .Mult) rRepStr := op_rep_str
def rInt1 : List V → Hp → VK → Prop := fun xs H Q => (∃ i, xs = [.int i] ∧ Q (.int i) H) ∨ ∃ k, xs = [.bl k] ∧ Q (.int (if k then 1 else 0)) H
theorem cz_int1 {X : Cx} : CallR X (.type "int") rInt1 := call_int1
def rJoin (K : PySem.W.Frag) : V → List V → Hp → VK → Prop := fun x xs H Q => ∃ a p, ∃ ys : List Str, x = .str a ∧ xs = [.ref p] ∧ (SqL K H p (ys.map V.str) ∨ SqT K H p (ys.map V.str)) ∧ (ys.map (·.length)).sum + ys.length * a.length ≤ 16777216 ∧ Q (.str (Txt.join a ys)) H
theorem mz_join {X : Cx} : MtR X "str.join" (rJoin X.K) := mt_join
section
variable {K : PySem.W.Frag} {σ : L2.St} {H H' : Hp} {ta tb te : TE} {x : V} {ti : TA}
theorem ev_int1 {i : Int} (h : Ev te σ H (.int i)) : Ev (tCB rInt1 (tCons te tNil)) σ H (.int i) := fun H1 e Q q => h H1 e _ fun H2 e2 => .inl ⟨i, rfl, q H2 e2⟩
theorem rd_call {sp : Sp} {vs : List V} {E : XK} {Q : VK} (h : EvA ti σ H vs) (k : ∀ H1, Ex H H1 → sp (vs ++ []) H1 Q E) : tCall sp [] E ti σ H Q := h H (Ex.refl H) _ k
end
/-! ### the bag of draws -/
def cap : Nat := 1048576
/-- a bag at p, of which at most n were drawn -/
def BagAt (H : Hp) (p : Addr) (n : Nat) : Prop := ∃ (c0 : Int) (cv : V) (c2 : Int), H p = some (.lst [.int c0, cv, .int c2]) ∧ 0 ≤ c2 ∧ c2 ≤ (n : Int) ∧ (cv = .non ∨ ∃ c : Int, cv = .int c ∧ c.natAbs < 2 ^ cap)
/-- all but what stands at p is as it was -/
def Keep (p : Addr) (H H' : Hp) : Prop := ∀ b o, b ≠ p → H b = some o → H' b = some o
theorem Keep.of {p : Addr} {H H' : Hp} (e : Ex H H') : Keep p H H' := fun b o _ h => e b o h
theorem Keep.trans {p : Addr} {H H1 H2 : Hp} (a : Keep p H H1) (b : Keep p H1 H2) : Keep p H H2 := fun c o hc h => b c o hc (a c o hc h)
theorem Keep.upd {p : Addr} {H H1 : Hp} {o : HO} (a : Keep p H H1) : Keep p H (upd H1 p o) := fun c u hc h => by rw [upd_ne hc]; exact a c u hc h
theorem BagAt.ex {H H' : Hp} {p : Addr} {n : Nat} (b : BagAt H p n) (e : Ex H H') : BagAt H' p n := by
  obtain ⟨c0, cv, c2, h, r⟩ := b
  exact ⟨c0, cv, c2, e _ _ h, r⟩
theorem BagAt.mono {H : Hp} {p : Addr} {n m : Nat} (b : BagAt H p n) (h : n ≤ m) : BagAt H p m := by
  obtain ⟨c0, cv, c2, h1, h2, h3, h4⟩ := b
  exact ⟨c0, cv, c2, h1, h2, by omega, h4⟩
theorem BagAt.some {H : Hp} {p : Addr} {n : Nat} (b : BagAt H p n) : ∃ xs, H p = some (.lst xs) := by
  obtain ⟨c0, cv, c2, h, r⟩ := b
  exact ⟨_, h⟩
theorem Keep.free {p : Addr} {H H' : Hp} (a : Keep p H H') {n : Nat} (b : BagAt H' p n) {l : Addr} (h : H' l = none) : H l = none := by
  cases q : H l with
  | none => rfl
  | some o =>
    by_cases e : l = p
    · obtain ⟨xs, g⟩ := b.some
      rw [e, g] at h
      cases h
    · rw [a l o e q] at h
      cases h
def spDraw : Sp := fun vs H Q _ => ∃ (p : Addr) (size : Int) (n : Nat), vs = [.ref p, .int size] ∧ BagAt H p n ∧ n ≤ 100000000 ∧ 1 ≤ size ∧ size ≤ 1000000 ∧
  ∀ (d : Int) (H' : Hp), 0 ≤ d → d < size → BagAt H' p (n + 1) → Keep p H H' → Q (.int d) H'
section
variable {P : Program} {w : World} {K : PySem.W.Frag} {mg : Str → Option Value} {base : Heap} {f : Addr} {fd : FuncData} {k : Nat}
end
end Z

namespace Z
open PySem PySem.Spec PyProof.Rows L2 TL Evl
theorem at_int {α : Type} {xs : List α} {d : Int} (h0 : 0 ≤ d) (h1 : d < (xs.length : Int)) : ∃ v, atI xs d = some v ∧ v ∈ xs := by
  obtain ⟨j, rfl⟩ := Int.eq_ofNat_of_zero_le h0
  have hj : j < xs.length := by omega
  exact ⟨xs[j], atI_nat (List.getElem?_eq_getElem hj), List.getElem_mem hj⟩
abbrev CDraw (P : Program) (w : World) (K : PySem.W.Frag) (mg : Str → Option Value) (base : Heap) : Prop := Call P w K mg base 1 "_law_draw" ["bag", "size"] spDraw
def spPickS : Sp := fun vs H Q _ => ∃ (p : Addr) (n : Nat) (z : Str), vs = [.ref p, .str z] ∧ BagAt H p n ∧ n ≤ 100000000 ∧ 1 ≤ z.length ∧ z.length ≤ 1000 ∧ ∀ (c : Nat) (H' : Hp), BagAt H' p (n + 1) → Keep p H H' → Q (.str ⟨#[c]⟩) H'
def spPickL : Sp := fun vs H Q _ => ∃ (p : Addr) (n : Nat) (l : Addr) (xs : List V), vs = [.ref p, .ref l] ∧ BagAt H p n ∧ n ≤ 100000000 ∧ l ≠ p ∧ H l = some (.lst xs) ∧ 1 ≤ xs.length ∧ xs.length ≤ 1000 ∧ ∀ (v : V) (H' : Hp), v ∈ xs → BagAt H' p (n + 1) → Keep p H H' → Q v H'
def spMost : Sp := fun vs H Q _ => ∃ (p : Addr) (n : Nat) (a b : Int), vs = [.ref p, .int a, .int b] ∧ BagAt H p n ∧ n ≤ 100000000 ∧ ∀ (v : Int) (H' : Hp), v = a ∨ v = b → BagAt H' p (n + 1) → Keep p H H' → Q (.int v) H'
/-- a word of at most `most` signs; at most 1001 draws -/
def spWord : Sp := fun vs H Q _ => ∃ (p : Addr) (n : Nat) (z : Str) (least most : Int), vs = [.ref p, .str z, .int least, .int most] ∧ BagAt H p n ∧ n ≤ 90000000 ∧ 1 ≤ z.length ∧ z.length ≤ 1000 ∧ 0 ≤ least ∧ least ≤ most ∧ most ≤ 1000 ∧
  ∀ (t : Str) (H' : Hp), (t.length : Int) ≤ most → BagAt H' p (n + 1001) → Keep p H H' → Q (.str t) H'
def spBag (K : PySem.W.Frag) : Sp := fun vs H Q _ => ∃ (a : Addr) (ns : List Int) (i : Nat), vs = [.ref a, .int (i : Int)] ∧ SqL K H a (ns.map V.int) ∧ ns.length ≤ 63 ∧ i ≤ 63 ∧ (∀ z ∈ ns, z.natAbs < 2 ^ cap) ∧ ∀ (p : Addr) (H' : Hp), H p = none → Ex H H' → BagAt H' p 0 → Q (.ref p) H'
section
variable {P : Program} {w : World} {K : PySem.W.Frag} {mg : Str → Option Value} {base : Heap} {f : Addr} {fd : FuncData} {k : Nat}
theorem sum_ones : ∀ ys : List Str, (∀ y ∈ ys, y.length = 1) → (ys.map (·.length)).sum = ys.length
  | [], _ => rfl
  | y :: r, h => by
    rw [List.map_cons, List.sum_cons, sum_ones r fun x hx => h x (List.mem_cons_of_mem _ hx), h y List.mem_cons_self, List.length_cons]
    omega
theorem join_len (sep : Str) (ys : List Str) : (Txt.join sep ys).length ≤ (ys.map (·.length)).sum + ys.length * sep.length := by
  rw [join_eq]
  exact StrLaws.join_length_le sep ys
end
end Z

namespace Z
open PySem PySem.Spec PyProof.Rows L2 TL Evl
def spList : Sp := fun vs H Q _ => ∃ (p : Addr) (n : Nat), vs = [.ref p] ∧ BagAt H p n ∧ n ≤ 80000000 ∧ ∀ (t : Str) (H' : Hp), t.length ≤ 100 → BagAt H' p (n + 10000) → Keep p H H' → Q (.str t) H'
def spText : Sp := fun vs H Q _ => ∃ (p : Addr) (n : Nat), vs = [.ref p] ∧ BagAt H p n ∧ n ≤ 1000 ∧ ∀ (t : Str) (H' : Hp), t.length ≤ 1500 → BagAt H' p (n + 100000) → Keep p H H' → Q (.str t) H'
def spSpoilt : Sp := fun vs H Q _ => ∃ (p : Addr) (n : Nat) (z : Str), vs = [.ref p, .str z] ∧ BagAt H p n ∧ n ≤ 1000000 ∧ z.length ≤ 1500 ∧ ∀ (t : Str) (H' : Hp), t.length ≤ 4000 → BagAt H' p (n + 3) → Keep p H H' → Q (.str t) H'
def spLaw (K : PySem.W.Frag) : Sp := fun vs H Q _ => ∃ (a : Addr) (ns : List Int), vs = [.ref a] ∧ SqL K H a (ns.map V.int) ∧ ns.length ≤ 63 ∧ (∀ z ∈ ns, z.natAbs < 2 ^ cap) ∧ ∀ H', Q (.bl true) H'
theorem BagAt.new {H : Hp} {p l : Addr} {n : Nat} {o : HO} (b : BagAt H p n) (h : H l = none) : BagAt (upd H l o) p n ∧ l ≠ p := by
  obtain ⟨xs, g⟩ := b.some
  exact ⟨b.ex (Ex.new h), fun e => by rw [e, g] at h; cases h⟩
theorem strs_in {ss : List Str} {v : V} (h : v ∈ ss.map V.str) : ∃ x, v = .str x ∧ x ∈ ss := by
  obtain ⟨x, hx, e⟩ := List.mem_map.mp h
  exact ⟨x, e.symm, hx⟩
theorem ints_in {ss : List Int} {v : V} (h : v ∈ ss.map V.int) : ∃ x, v = .int x ∧ x ∈ ss := by
  obtain ⟨x, hx, e⟩ := List.mem_map.mp h
  exact ⟨x, e.symm, hx⟩
theorem sum_most : ∀ (ys : List Str) (m : Nat), (∀ y ∈ ys, y.length ≤ m) → (ys.map (·.length)).sum ≤ ys.length * m
  | [], _, _ => Nat.zero_le _
  | y :: r, m, h => by
    have h1 := sum_most r m fun x hx => h x (List.mem_cons_of_mem _ hx)
    have h2 := h y List.mem_cons_self
    rw [List.map_cons, List.sum_cons, List.length_cons, Nat.succ_mul]
    omega
section
variable {P : Program} {w : World} {K : PySem.W.Frag} {mg : Str → Option Value} {base : Heap} {f : Addr} {fd : FuncData} {k : Nat}
abbrev CPickL (P : Program) (w : World) (K : PySem.W.Frag) (mg : Str → Option Value) (base : Heap) : Prop := Call P w K mg base 2 "_law_pick" ["bag", "things"] spPickL
abbrev CPickS (P : Program) (w : World) (K : PySem.W.Frag) (mg : Str → Option Value) (base : Heap) : Prop := Call P w K mg base 2 "_law_pick" ["bag", "things"] spPickS
abbrev CMost (P : Program) (w : World) (K : PySem.W.Frag) (mg : Str → Option Value) (base : Heap) : Prop := Call P w K mg base 2 "_law_most" ["bag", "small", "large"] spMost
abbrev CWord (P : Program) (w : World) (K : PySem.W.Frag) (mg : Str → Option Value) (base : Heap) : Prop := Call P w K mg base 2 "_law_word" ["bag", "signs", "least", "most"] spWord
end
end Z

namespace Z
open PySem PySem.Spec PyProof.Rows L2 TL Evl
theorem short_in {ss : List Str} {m : Nat} (h : ss.all (fun x => decide (x.length ≤ m)) = true) {x : Str} (hx : x ∈ ss) : x.length ≤ m := of_decide_eq_true (List.all_eq_true.mp h x hx)
section
variable {P : Program} {w : World} {K : PySem.W.Frag} {mg : Str → Option Value} {base : Heap} {f : Addr} {fd : FuncData} {k : Nat}
end
end Z
set_option maxHeartbeats 4000000
namespace Z
open PySem PySem.Spec PyProof.Rows L2 TL Evl
/-! ### lists of values, each with what it stands for -/
def Rel {α : Type} (R : V → α → Prop) (xs : List V) (os : List α) : Prop := xs.length = os.length ∧ ∀ (i : Nat) (x : V) (o : α), xs[i]? = some x → os[i]? = some o → R x o
section
variable {α : Type} {R R' : V → α → Prop} {xs : List V} {os : List α} {x : V} {o : α} {i : Nat}
theorem Rel.mono (h : Rel R xs os) (m : ∀ x o, R x o → R' x o) : Rel R' xs os := ⟨h.1, fun i x o a b => m x o (h.2 i x o a b)⟩
theorem Rel.nil : Rel R [] [] := ⟨rfl, fun i x o a => by cases a⟩
theorem Rel.snoc (h : Rel R xs os) (r : R x o) : Rel R (xs ++ [x]) (os ++ [o]) := by
  refine ⟨by rw [List.length_append, List.length_append, h.1]; rfl, fun i y u a b => ?_⟩
  by_cases hi : i < xs.length
  · rw [List.getElem?_append_left hi] at a
    rw [List.getElem?_append_left (by rw [← h.1]; exact hi)] at b
    exact h.2 i y u a b
  · rw [List.getElem?_append_right (by omega)] at a
    rw [List.getElem?_append_right (by rw [← h.1]; omega)] at b
    rw [← h.1] at b
    cases e : i - xs.length with
    | zero =>
      rw [e] at a b
      cases a
      cases b
      exact r
    | succ n =>
      rw [e] at a
      cases a
theorem Rel.get (h : Rel R xs os) (a : xs[i]? = some x) : ∃ o, os[i]? = some o ∧ R x o := by
  have hi : i < xs.length := (List.getElem?_eq_some_iff.mp a).1
  have e := List.getElem?_eq_getElem (h.1 ▸ hi : i < os.length)
  exact ⟨_, e, h.2 i x _ a e⟩
theorem Rel.at (h : Rel R xs os) (b : os[i]? = some o) : ∃ x, xs[i]? = some x ∧ R x o := by
  have hi : i < os.length := (List.getElem?_eq_some_iff.mp b).1
  have e := List.getElem?_eq_getElem (h.1.symm ▸ hi : i < xs.length)
  exact ⟨_, e, h.2 i _ o e b⟩
end
/-- a comprehension over a list whose values stand for things -/
theorem lc_rel {K : PySem.W.Frag} {a : Addr} {xs : List V} {g : TG} {tt : TT} {te : TE} {vs : List Nat} {σ : L2.St} {H0 : Hp} {D : Addr} {Qd : Hp → Prop} {α : Type} (acc : Nat → List α) (R : Hp → V → α → Prop)
    (mono : ∀ H1 H2 x o, (∀ b ob, b ≠ D → H1 b = some ob → H2 b = some ob) → (∃ ys, H1 D = some (.lst ys)) → R H1 x o → R H2 x o)
    (hx : SqL K H0 a xs) (hD : H0 D = none) (h00 : acc 0 = []) (hz : xs.length ≤ 50000)
    (hs : ∀ i x H, xs[i]? = some x → Ex H0 H → ∀ (k : VK) (k0 : Hp → Prop), (∀ y H4 o, Ex H H4 → acc (i + 1) = acc i ++ [o] → R H4 y o → k y H4) → (∀ H3, Ex H H3 → acc (i + 1) = acc i → k0 H3) →
      g x (wipe σ vs) H fun σ2 H2 => wipe σ2 vs = wipe σ vs ∧ tt σ2 H2 fun b H3 => if b = true then te σ2 H3 k else k0 H3)
    (hd : ∀ H ys, Ex H0 H → H D = some (.lst ys) → Rel (R H) ys (acc xs.length) → Qd H) :
    ∃ W : Nat → Nat → Hp → Prop, (∃ m, W 0 m (upd H0 D (.lst []))) ∧ ∀ i m H, W i m H →
      ((Itl K a).stop i H ∧ Qd H) ∨ ((Itl K a).go i H ∧ ∃ Nx : Hp → Prop, (∀ H', Nx H' → ∃ m', m' < m ∧ W (i + 1) m' H') ∧ ∀ x H', (Itl K a).yld i H x H' → g x (wipe σ vs) H' fun σ2 H2 => wipe σ2 vs = wipe σ vs ∧ tt σ2 H2 fun b H3 =>
        if b = true then te σ2 H3 fun y H4 => ∃ acc, H4 D = some (.lst acc) ∧ acc.length < sizeLine ∧ Nx (upd H4 D (.lst (acc ++ [y]))) else Nx H3) := by
  refine lc_list (xs := xs) (fun i H => Ex H0 H ∧ ∃ ys, H D = some (.lst ys) ∧ ys.length ≤ i ∧ Rel (R H) ys (acc i)) ⟨Ex.new hD, [], upd_same, Nat.le_refl _, by rw [h00]; exact Rel.nil⟩ (fun i H _ p => ex_l p.1 hx) (fun i x H hi p => ?_) (fun H p => ?_)
  · obtain ⟨e0, ys, hy, hl, hr⟩ := p
    have hi2 : i < xs.length := (List.getElem?_eq_some_iff.mp hi).1
    refine hs i x H hi e0 _ _ (fun y H4 o e4 ea r => ?_) (fun H3 e3 ea => ?_)
    · refine ⟨ys, e4 _ _ hy, sz_lt (by omega), Ex.mut (e0.trans e4) hD, ys ++ [y], upd_same, by rw [List.length_append]; exact Nat.add_le_add_right hl 1, ?_⟩
      rw [ea]
      refine Rel.snoc (hr.mono fun x o q => ?_) ?_
      · exact mono _ _ x o (fun b ob hb h => by rw [upd_ne hb]; exact h) ⟨ys, e4 _ _ hy⟩ (mono _ _ x o (fun b ob _ h => e4 b ob h) ⟨ys, hy⟩ q)
      · exact mono _ _ y o (fun b ob hb h => by rw [upd_ne hb]; exact h) ⟨ys, e4 _ _ hy⟩ r
    · refine ⟨e0.trans e3, ys, e3 _ _ hy, by omega, ?_⟩
      rw [ea]
      exact hr.mono fun x o q => mono _ _ x o (fun b ob _ h => e3 b ob h) ⟨ys, hy⟩ q
  · obtain ⟨e0, ys, hy, hl, hr⟩ := p
    exact hd H ys e0 hy hr
/-! ### a number that may not be there, pairs of them -/
def num (z : Str) : Option Nat := if digB z = true then some (NumText.digitsVal (tl z)) else none
def ov : Option Nat → V
  | none => .non
  | some n => .int (n : Int)
theorem numV_ov (z : Str) : numV z = ov (num z) := by
  unfold numV num
  cases h : digB z <;> rfl
theorem ov_non (o : Option Nat) : decide (ov o = .non) = o.isNone := by cases o <;> rfl
abbrev Pr := Option Nat × Option Nat
def TupAt (H : Hp) (v : V) (xs : List V) : Prop := ∃ p, v = .ref p ∧ H p = some (.tup xs)
def PrAt (H : Hp) (v : V) (o : Pr) : Prop := TupAt H v [ov o.1, ov o.2]
def OPrAt (H : Hp) (v : V) : Option Pr → Prop
  | none => v = .non
  | some q => PrAt H v q
def IpAt (H : Hp) (v : V) (o : Int × Int) : Prop := TupAt H v [.int o.1, .int o.2]
theorem TupAt.keep {H1 H2 : Hp} {D : Addr} {v : V} {xs : List V} (h : TupAt H1 v xs) (k : ∀ b ob, b ≠ D → H1 b = some ob → H2 b = some ob) (hD : ∃ ys, H1 D = some (.lst ys)) : TupAt H2 v xs := by
  obtain ⟨p, rfl, hp⟩ := h
  obtain ⟨ys, hy⟩ := hD
  exact ⟨p, rfl, k p _ (fun e => by rw [e, hy] at hp; cases hp) hp⟩
theorem TupAt.ex {H1 H2 : Hp} {v : V} {xs : List V} (h : TupAt H1 v xs) (e : Ex H1 H2) : TupAt H2 v xs := by
  obtain ⟨p, rfl, hp⟩ := h
  exact ⟨p, rfl, e _ _ hp⟩
theorem OPrAt.ex {H1 H2 : Hp} {v : V} {o : Option Pr} (h : OPrAt H1 v o) (e : Ex H1 H2) : OPrAt H2 v o := by
  cases o with
  | none => exact h
  | some q => exact TupAt.ex h e
theorem OPrAt.keep {H1 H2 : Hp} {D : Addr} {v : V} {o : Option Pr} (h : OPrAt H1 v o) (k : ∀ b ob, b ≠ D → H1 b = some ob → H2 b = some ob) (hD : ∃ ys, H1 D = some (.lst ys)) : OPrAt H2 v o := by
  cases o with
  | none => exact h
  | some q => exact TupAt.keep h k hD
/-! ### the dash of a text -/
def dashAt (z : Str) : Option Nat := (Builtin.Str.occurrences z "-" 0 z.length 1).head?
theorem find_dash (z : Str) : Txt.find z "-" = (match dashAt z with | some i => (i : Int) | none => -1) := by
  unfold Txt.find dashAt
  cases Builtin.Str.occurrences z "-" 0 z.length 1 <;> rfl
theorem dash_len : ("-" : Str).length = 1 := by decide +kernel
theorem cutTo_tl (z : Str) (i : Nat) : tl (cutS z none (some (i : Int))) = (tl z).take i := by
  show ((tl z).drop (HT.sIx z.length 0 none)).take (HT.sIx z.length z.length (some (i : Int)) - HT.sIx z.length 0 none) = _
  rw [HT.sIx_none, show HT.sIx z.length z.length (some (i : Int)) = min i z.length from HT.sIx_nat _ _ i, List.drop_zero, Nat.sub_zero, len_tl]
  by_cases h : i ≤ (tl z).length
  · rw [Nat.min_eq_left h]
  · rw [Nat.min_eq_right (by omega), List.take_of_length_le (Nat.le_refl _), List.take_of_length_le (by omega)]
theorem cutFrom_tl (z : Str) (i : Nat) : tl (cutS z (some (i : Int)) none) = (tl z).drop i := by
  show ((tl z).drop (HT.sIx z.length 0 (some (i : Int)))).take (HT.sIx z.length z.length none - HT.sIx z.length 0 (some (i : Int))) = _
  rw [HT.sIx_none, show HT.sIx z.length 0 (some (i : Int)) = min i z.length from HT.sIx_nat _ _ i, len_tl]
  by_cases h : i ≤ (tl z).length
  · rw [Nat.min_eq_left h]
    exact List.take_of_length_le (by rw [List.length_drop]; exact Nat.le_refl _)
  · rw [Nat.min_eq_right (by omega), List.drop_of_length_le (Nat.le_refl _), List.drop_of_length_le (by omega), List.take_nil]
/-- what stands ahead of a place, what stands behind -/
def preT (z : Str) (i : Nat) : Str := S' ((tl z).take i)
def sufT (z : Str) (i : Nat) : Str := S' ((tl z).drop i)
theorem cutTo (z : Str) (i : Nat) : cutS z none (some (i : Int)) = preT z i := ext_tl (by rw [cutTo_tl]; rfl)
theorem cutFrom (z : Str) (i : Nat) : cutS z (some (i : Int)) none = sufT z i := ext_tl (by rw [cutFrom_tl]; rfl)
theorem preT_len (z : Str) (i : Nat) : (preT z i).length ≤ z.length := by rw [← cutTo]; exact cut_len z _ _
theorem sufT_len (z : Str) (i : Nat) : (sufT z i).length ≤ z.length := by rw [← cutFrom]; exact cut_len z _ _
theorem part_dash (z : Str) : (∃ i, dashAt z = some i ∧ i + 1 ≤ z.length ∧ Txt.partition z "-" = (preT z i, ("-" : Str), sufT z (i + 1))) ∨ (dashAt z = none ∧ Txt.partition z "-" = (z, ("" : Str), ("" : Str))) := by
  unfold Txt.partition dashAt
  rcases StrLaws.occ_head z "-" 1 (Nat.le_refl 1) with ⟨h0, _⟩ | ⟨i, r, h0, hi, _⟩
  · rw [h0]; exact .inr ⟨rfl, rfl⟩
  · rw [h0]
    have hb : i + ("-" : Str).length ≤ z.length := hi.1
    refine .inl ⟨i, rfl, by rw [dash_len] at hb; exact hb, ?_⟩
    show (Builtin.Str.strSub z 0 i, ("-" : Str), Builtin.Str.strSub z (i + ("-" : Str).length) z.length) = _
    rw [dash_len]
    refine Prod.ext ?_ (Prod.ext rfl ?_)
    · exact ext_tl (by rw [tl_strSub, List.drop_zero, Nat.sub_zero]; rfl)
    · exact ext_tl (by rw [tl_strSub_end]; rfl)
theorem num_empty : num ("" : Str) = none := by decide +kernel
theorem preT0 (z : Str) : preT z 0 = ("" : Str) := eq_empty.mpr (by unfold preT; rw [List.take_zero]; rfl)
theorem preT_ne {z : Str} {i : Nat} (h : 0 < i) (hi : i + 1 ≤ z.length) : preT z i ≠ ("" : Str) := fun e => by
  have e2 := eq_empty.mp e
  have e3 : ((tl z).take i).length = 0 := by rw [show (tl z).take i = [] from e2]; rfl
  rw [List.length_take, len_tl'] at e3
  omega
theorem sufT_empty {z : Str} {i : Nat} (hi : i + 1 ≤ z.length) : decide (sufT z (i + 1) = ("" : Str)) = decide ((i : Int) = (z.length : Int) - 1) := by
  have e : sufT z (i + 1) = ("" : Str) ↔ (i : Int) = (z.length : Int) - 1 := by
    rw [eq_empty]
    show (tl z).drop (i + 1) = [] ↔ _
    rw [List.drop_eq_nil_iff, len_tl']
    omega
  exact decide_eq_decide.mpr e
/-- what a range says -/
def pairO (A B : Option Nat) : Option Pr :=
  match A, B with
  | none, none => none
  | some a, some b => if b < a then none else some (some a, some b)
  | x, y => some (x, y)
def badB (z : Str) (i : Nat) : Bool := ((num (preT z i)).isNone && !decide (preT z i = ("" : Str))) || ((num (sufT z (i + 1))).isNone && !decide (sufT z (i + 1) = ("" : Str)))
def rangeO (z : Str) : Option Pr :=
  match dashAt z with
  | none => none
  | some i => if badB z i = true then none else pairO (num (preT z i)) (num (sufT z (i + 1)))
theorem rangeO_some {z : Str} {i : Nat} (h : dashAt z = some i) : rangeO z = if badB z i = true then none else pairO (num (preT z i)) (num (sufT z (i + 1))) := by
  unfold rangeO
  rw [h]
theorem rangeO_none {z : Str} (h : dashAt z = none) : rangeO z = none := by
  unfold rangeO
  rw [h]
/-! ### the place of a digit -/
theorem occ_none (z : Str) (c : Nat) (h : c ∉ tl z) : Builtin.Str.occurrences z ⟨#[c]⟩ 0 z.length 1 = [] := by
  have e := StrLaws.found_one z c
  rw [decide_eq_false h] at e
  cases ho : Builtin.Str.occurrences z ⟨#[c]⟩ 0 z.length 1 with
  | nil => rfl
  | cons a r =>
    rw [ho] at e
    exact nomatch e
def dg : Str := "0123456789"
theorem find_digit (c : Nat) : Txt.find dg ⟨#[c]⟩ = if c ∈ tl dg then ((c : Int) - 48) else -1 := by
  by_cases h : c ∈ tl dg
  · rw [if_pos h]
    have all : ∀ c ∈ tl dg, Txt.find dg ⟨#[c]⟩ = ((c : Int) - 48) := by decide +kernel
    exact all c h
  · rw [if_neg h]
    unfold Txt.find
    rw [occ_none dg c h]
theorem dig_range : ∀ c ∈ tl dg, 48 ≤ c ∧ c ≤ 57 := by decide +kernel
/-- digits read so far -/
def dval (l : List Nat) : Nat := l.foldl (fun a c => a * 10 + (c - 48)) 0
theorem dval_snoc (l : List Nat) (c : Nat) : dval (l ++ [c]) = dval l * 10 + (c - 48) := by
  unfold dval
  rw [List.foldl_append]
  rfl
theorem dfold_lt : ∀ (l : List Nat) (a : Nat), (∀ c ∈ l, c ∈ tl dg) → l.foldl (fun a c => a * 10 + (c - 48)) a < (a + 1) * 10 ^ l.length
  | [], a, _ => by show a < (a + 1) * 1; omega
  | c :: r, a, h => by
    have h1 := dfold_lt r (a * 10 + (c - 48)) fun x hx => h x (List.mem_cons_of_mem _ hx)
    have h2 := dig_range c (h c List.mem_cons_self)
    rw [List.foldl_cons, List.length_cons, Nat.pow_succ, Nat.mul_comm (10 ^ r.length) 10, ← Nat.mul_assoc]
    exact Nat.lt_of_lt_of_le h1 (Nat.mul_le_mul_right _ (by omega))
theorem dval_lt {l : List Nat} (h : ∀ c ∈ l, c ∈ tl dg) : dval l < 10 ^ l.length := by
  have := dfold_lt l 0 h
  rw [Nat.zero_add, Nat.one_mul] at this
  exact this
/-! ### named readings -/
def rFind : V → List V → Hp → VK → Prop := fun x xs H Q => ∃ a b, x = .str a ∧ xs = [.str b] ∧ Q (.int (Txt.find a b)) H
theorem mz_find {X : Cx} : MtR X "str.find" rFind := mt_find
def rPart : V → List V → Hp → VK → Prop := fun x xs H Q => ∃ a b, x = .str a ∧ xs = [.str b] ∧ (b.length == 0) = false ∧ a.length ≤ sizeLine ∧
    ∀ p, H p = none → Q (.ref p) (upd H p (.tup [.str (Txt.partition a b).1, .str (Txt.partition a b).2.1, .str (Txt.partition a b).2.2]))
theorem mz_part {X : Cx} : MtR X "str.partition" rPart := mt_partition
def rStrI : List V → Hp → VK → Prop := fun xs H Q => ∃ i : Int, xs = [.int i] ∧ i.natAbs.log2 < 1920 ∧ Q (.str (toString i)) H
theorem cz_str {X : Cx} : CallR X (.type "str") rStrI := call_str_int
section
variable {K : PySem.W.Frag} {σ : L2.St} {H H' : Hp} {ta tb te to ts : TE} {a b s : Str} {p : Addr} {xs : List V}
theorem ev_find (h : Ev to σ H (.str a)) (hs : Ev ts σ H (.str s)) : Ev (tBM K "str" rFind to (tCons ts tNil)) σ H (.int (Txt.find a s)) := fun H1 e Q q =>
  h H1 e _ fun H2 e2 => ⟨rfl, hs H2 (e.trans e2) _ fun H3 e3 => ⟨a, s, rfl, rfl, q H3 (e2.trans e3)⟩⟩
theorem eu_part (h : Ev to σ H (.str a)) (hs : Ev ts σ H (.str s)) (h0 : (s.length == 0) = false) (hz : a.length ≤ 100000) : EvU (tBM K "str" rPart to (tCons ts tNil)) σ H [.str (Txt.partition a s).1, .str (Txt.partition a s).2.1, .str (Txt.partition a s).2.2] := fun H1 e Q q =>
  h H1 e _ fun H2 e2 => ⟨rfl, hs H2 (e.trans e2) _ fun H3 e3 => ⟨a, s, rfl, rfl, h0, sz_of hz, fun p hp => q p _ (fresh_back (e2.trans e3) hp) ((e2.trans e3).trans (Ex.new hp)) upd_same⟩⟩
theorem ev_strI {i : Int} (h : Ev te σ H (.int i)) (hi : i.natAbs < 2 ^ 1920) : Ev (tCB rStrI (tCons te tNil)) σ H (.str (toString i)) := fun H1 e Q q => h H1 e _ fun H2 e2 => ⟨i, rfl, by
  by_cases z : i.natAbs = 0
  · rw [z]; decide
  · exact (Nat.log2_lt z).mpr hi, q H2 e2⟩
theorem ev_lenT {p : Addr} {xs : List V} (ha : Ev ta σ H (.ref p)) (h : SqT K H p xs) : Ev (tCB (rLenS K) (tCons ta tNil)) σ H (.int (xs.length : Int)) := fun H1 e Q q =>
  ha H1 e _ fun H2 e2 => ⟨p, xs, rfl, Or.inr (ex_t (e.trans e2) h), q H2 e2⟩
theorem ev_ixT {i : Int} {v : V} (h : Ev ta σ H (.ref p)) (hi : Ev tb σ H (.int i)) (hp : H p = some (.tup xs)) (hv : atI xs i = some v) : Ev (tOp (rIxT K) ta tb) σ H v := ev_op h hi (rv_ixT (st_of hp) hv)
theorem ev_ixL {i : Int} {v : V} (h : Ev ta σ H (.ref p)) (hi : Ev tb σ H (.int i)) (hp : H p = some (.lst xs)) (hv : atI xs i = some v) : Ev (tOp (rIxL K) ta tb) σ H v := ev_op h hi (rv_ixL (sq_of hp) hv)
/-- any of a list of truths -/
theorem ev_any {bs : List Bool} (ha : EvL ta σ H (bs.map V.bl)) : Ev (tCB (L2.rAny K) (tCons ta tNil)) σ H (.bl (bs.any id)) := fun H1 e Q q =>
  ha H1 e _ fun p H2 _ e2 h2 => ⟨p, bs, rfl, sq_of h2, q H2 e2⟩
def rMin2 : List V → Hp → VK → Prop := fun xs H Q => ∃ i j, xs = [.int i, .int j] ∧ Q (.int (if j < i then j else i)) H
theorem ev_min2 {i j : Int} (ha : Ev ta σ H (.int i)) (hb : Ev tb σ H (.int j)) : Ev (tCB rMin2 (tCons ta (tCons tb tNil))) σ H (.int (if j < i then j else i)) := fun H1 e Q q =>
  ha H1 e _ fun H2 e2 => hb H2 (e.trans e2) _ fun H3 e3 => ⟨i, j, rfl, q H3 (e2.trans e3)⟩
end
section
variable {X : Cx}
theorem cz_min2 (h : X.calm = true) : CallR X (.builtin "min") rMin2 := call_min2 h
end
/-! ### numbers' texts are short -/
theorem strI_len {i : Int} (h0 : 0 ≤ i) (h : i < 10 ^ 7) : (PySem.Str.ofString (toString i)).length ≤ 7 := by
  obtain ⟨n, rfl⟩ := Int.eq_ofNat_of_zero_le h0
  rw [len_tl, tl_num]
  exact numL_len (by decide) (by omega)
end Z
set_option maxHeartbeats 4000000
namespace Z
open PySem PySem.Spec PyProof.Rows L2 TL Evl
/-! ### short texts -/
def EvS (te : TE) (σ : L2.St) (H : Hp) (n : Nat) : Prop := ∃ t : Str, t.length ≤ n ∧ Ev te σ H (.str t)
def EvAS (ta : TA) (σ : L2.St) (H : Hp) (n k : Nat) : Prop := ∃ ts : List Str, ts.length = k ∧ (∀ t ∈ ts, t.length ≤ n) ∧ EvA ta σ H (ts.map V.str)
section
variable {K : PySem.W.Frag} {σ : L2.St} {H H' : Hp} {ta tb te to ts : TE} {a b s : Str} {p : Addr} {xs : List V} {n m k : Nat} {tr : TA}  {ta' : TA} {i : Nat} {sp : Sp} {E : XK} {Q : VK} {x v : V} {D : Ends} {t tz tu : TS} {tt : TT} {dvs : List V}
theorem es_c : EvS (tC (.str a)) σ H a.length := ⟨a, Nat.le_refl _, ev_c⟩
theorem es_var (h : σ[i]? = some (some (.str a))) (hn : a.length ≤ n) : EvS (tVar i) σ H n := ⟨a, hn, ev_var h⟩
theorem es_add (h : EvS ta σ H n) (h2 : EvS tb σ H m) (hs : n + m ≤ 200000 := by decide +kernel) : EvS (tOp rAddS2 ta tb) σ H (n + m) := by
  obtain ⟨x, hx, ex⟩ := h
  obtain ⟨y, hy, ey⟩ := h2
  exact ⟨x ++ y, by rw [Str.length_append]; omega, ev_op ex ey (rv_addS (by omega))⟩
theorem eas_nil : EvAS tNil σ H n 0 := ⟨[], rfl, (fun _ h => by cases h), ea_nil⟩
theorem eas_cons (h : EvS te σ H m) (hm : m ≤ n) (hr : EvAS tr σ H n k) : EvAS (tCons te tr) σ H n (k + 1) := by
  obtain ⟨x, hx, ex⟩ := h
  obtain ⟨ts, h1, h2, h3⟩ := hr
  refine ⟨x :: ts, by rw [List.length_cons, h1], fun t ht => ?_, ea_cons ex h3⟩
  rcases List.mem_cons.mp ht with rfl | ht
  · exact Nat.le_trans hx hm
  · exact h2 t ht
theorem es_mono (h : EvS te σ H n) (hm : n ≤ m) : EvS te σ H m := by
  obtain ⟨x, hx, ex⟩ := h
  exact ⟨x, Nat.le_trans hx hm, ex⟩
theorem es_ex (h : EvS te σ H n) (e : Ex H H') : EvS te σ H' n := by
  obtain ⟨x, hx, ex⟩ := h
  exact ⟨x, hx, ex.mono e⟩
theorem es_strI {i : Int} (h : Ev te σ H (.int i)) (h0 : 0 ≤ i) (h1 : i < 10 ^ 7) : EvS (tCB rStrI (tCons te tNil)) σ H 7 :=
  ⟨_, strI_len h0 h1, ev_strI h (Nat.lt_of_lt_of_le (show i.natAbs < 2 ^ 24 by omega) (Nat.pow_le_pow_right (by decide) (by decide)))⟩
/-! ### readings, one after another -/
theorem rd_cons (h : Ev te σ H x) {Q : List V → Hp → Prop} (k : ∀ H1, Ex H H1 → tr σ H1 fun xs H2 => Q (x :: xs) H2) : tCons te tr σ H Q := h H (Ex.refl H) _ k
theorem rd_args (h : ta' σ H fun vs H1 => sp (vs ++ dvs) H1 Q E) : tCall sp dvs E ta' σ H Q := h
theorem rd_ev (h : Ev te σ H x) (k : ∀ H1, Ex H H1 → Q x H1) : te σ H Q := h H (Ex.refl H) _ k
theorem rd_evL (h : EvL te σ H xs) (k : ∀ p H1, H p = none → Ex H H1 → H1 p = some (.lst xs) → Q (.ref p) H1) : te σ H Q := h H (Ex.refl H) _ k
theorem rd_callN {vs : List V} {tk : TA} (h : EvA tk σ H vs) (hl : vs.length = n) (k : ∀ H1, Ex H H1 → sp vs H1 Q E) : tCallN 0 n sp (fun _ zs => zs) E tNil tk σ H Q := h H (Ex.refl H) _ fun H1 e => ⟨rfl, hl, k H1 e⟩
theorem q_tail (R : L2.St → Hp → Prop) (k : ∀ σ1 H1, R σ1 H1 → tz D σ1 H1) (h : (∀ σ1 H1, R σ1 H1 → tz D σ1 H1) → tSeq t tz D σ H) : tSeq t tz D σ H := h k
theorem g_name {R : L2.St → Hp → Prop} (h : R (σ.set i (some v)) H) : gName i v σ H R := h
theorem q_tailIf {tw : TS} (R : L2.St → Hp → Prop) (k : ∀ σ1 H1, R σ1 H1 → tz D σ1 H1) (h : (∀ σ1 H1, R σ1 H1 → tz D σ1 H1) → tSeq (tIfS tt tu tw) tz D σ H) : tSeq (tIfS tt tu tw) tz D σ H := h k
theorem el_listN (h : EvL te σ H xs) : EvL (tCB (rListS K) (tCons te tNil)) σ H xs := fun H1 e Q q =>
  h H1 e _ fun p H2 np e2 h2 => ⟨p, xs, rfl, .inl (sq_of h2), fun l hl => q l _ (fresh_back e2 hl) (e2.trans (Ex.new hl)) upd_same⟩
end
section
variable {K : PySem.W.Frag} {σ : L2.St} {H : Hp} {tb : TE} {ta : TA} {n k : Nat} {D : Ends} {i : Int}
/-- one of a list of short texts -/
theorem ev_pick (hev : EvAS ta σ H n k) (hk : k ≤ 1000) (hi : Ev tb σ H (.int i)) (h0 : 0 ≤ i) (h1 : i < (k : Int)) : EvS (tOp (rIxL K) (tLst ta) tb) σ H n := by
  obtain ⟨ts, hk2, hts, hev⟩ := hev
  obtain ⟨t, ht, htm⟩ := at_int (xs := ts.map V.str) (d := i) h0 (by rw [List.length_map, hk2]; exact h1)
  obtain ⟨x, hx, e⟩ := List.mem_map.mp htm
  subst e
  exact ⟨x, hts x hx, ev_opL1 (el_lst hev (by rw [List.length_map, hk2]; omega)) (fun H1 e => hi.mono e) (fun p H1 hp e => rv_ixL (sq_of hp) ht)⟩
theorem s_retS {te : TE} (h : EvS te σ H n) (q : ∀ x : Str, x.length ≤ n → ∀ H1, Ex H H1 → D.rt (.str x) H1) : tRet te D σ H := by
  obtain ⟨x, hx, ex⟩ := h
  exact s_ret ex (q x hx)
end
section
variable {K : PySem.W.Frag} {σ : L2.St} {H : Hp} {te : TE} {tr : TA} {D : Ends} {xs vs : List V}
/-- a list whose first thing is a new list -/
theorem s_retLL (h : EvL te σ H xs) (hr : ∀ H1, Ex H H1 → EvA tr σ H1 vs) (hz : vs.length + 1 ≤ 1000)
    (q : ∀ p l H1, H p = none → Ex H H1 → H1 l = some (.lst xs) → l ≠ p → H1 p = some (.lst (.ref l :: vs)) → D.rt (.ref p) H1) : tRet (tLst (tCons te tr)) D σ H :=
  h H (Ex.refl H) _ fun l H1 nl e1 h1 => (hr H1 e1) H1 (Ex.refl H1) _ fun H2 e2 => ⟨Nat.le_trans (show vs.length + 1 ≤ 1000 from hz) (by decide), fun p np =>
    q p l _ (fresh_back (e1.trans e2) np) ((e1.trans e2).trans (Ex.new np)) (by rw [upd_ne (ne_of_none (e2 _ _ h1) np)]; exact e2 _ _ h1) (ne_of_none (e2 _ _ h1) np) upd_same⟩
end
/-! ### a source of draws: a list whose first thing is the list l0 of cells -/
def SrcAt (H : Hp) (p l0 : Addr) (n : Nat) : Prop := ∃ (cs : List Int) (c1 c2 c3 sd : Int), H p = some (.lst [.ref l0, .int c1, .int c2, .int c3, .int sd]) ∧ H l0 = some (.lst (cs.map V.int)) ∧ l0 ≠ p ∧ cs.length ≤ 63 ∧ (∀ z ∈ cs, z.natAbs < 2 ^ cap) ∧ 0 ≤ c1 ∧ 0 ≤ c3 ∧ c3 ≤ (n : Int) ∧ 0 ≤ sd ∧ sd < 2147483629
section
variable {H H' : Hp} {p l0 l : Addr} {n m : Nat} {o : HO}
theorem SrcAt.ex (b : SrcAt H p l0 n) (e : Ex H H') : SrcAt H' p l0 n := by
  obtain ⟨cs, c1, c2, c3, sd, h, h2, r⟩ := b
  exact ⟨cs, c1, c2, c3, sd, e _ _ h, e _ _ h2, r⟩
theorem SrcAt.mono (b : SrcAt H p l0 n) (h : n ≤ m) : SrcAt H p l0 m := by
  obtain ⟨cs, c1, c2, c3, sd, h1, h2, h3, h4, h5, h6, h7, h8, r⟩ := b
  exact ⟨cs, c1, c2, c3, sd, h1, h2, h3, h4, h5, h6, h7, by omega, r⟩
theorem SrcAt.has (b : SrcAt H p l0 n) : ∃ xs, H p = some (.lst xs) := by
  obtain ⟨cs, c1, c2, c3, sd, h, r⟩ := b
  exact ⟨_, h⟩
theorem SrcAt.has0 (b : SrcAt H p l0 n) : ∃ xs, H l0 = some (.lst xs) := by
  obtain ⟨cs, c1, c2, c3, sd, h, h2, r⟩ := b
  exact ⟨_, h2⟩
theorem SrcAt.ne (b : SrcAt H p l0 n) (h : H l = none) : l ≠ p ∧ l ≠ l0 := by
  obtain ⟨xs, g⟩ := b.has
  obtain ⟨ys, g2⟩ := b.has0
  exact ⟨(fun e => by rw [e, g] at h; cases h), (fun e => by rw [e, g2] at h; cases h)⟩
theorem SrcAt.upd (b : SrcAt H p l0 n) (h : l ≠ p ∧ l ≠ l0) : SrcAt (upd H l o) p l0 n := by
  obtain ⟨cs, c1, c2, c3, sd, h1, h2, r⟩ := b
  exact ⟨cs, c1, c2, c3, sd, by rw [upd_ne (Ne.symm h.1)]; exact h1, by rw [upd_ne (Ne.symm h.2)]; exact h2, r⟩
theorem Keep.non (a : Keep p H H') {xs : List V} (b : H' p = some (.lst xs)) (h : H' l = none) : H l = none := by
  cases q : H l with
  | none => rfl
  | some o =>
    by_cases e : l = p
    · rw [e, b] at h
      cases h
    · rw [a l o e q] at h
      cases h
theorem Keep.freeS (a : Keep p H H') (b : SrcAt H' p l0 n) (h : H' l = none) : H l = none := by
  obtain ⟨xs, g⟩ := b.has
  exact a.non g h
/-- an object that was not there ahead may change -/
theorem Keep.mut (a : Keep p H H') (h : H l = none) : Keep p H (L2.upd H' l o) := fun b u hb hu => by
  rw [upd_ne (ne_of_none hu h)]
  exact a b u hb hu
theorem Keep.at (a : Keep p H H') (h : H l = some o) (hl : l ≠ p) : H' l = some o := a l o hl h
end
def spSource (K : PySem.W.Frag) : Sp := fun vs H Q _ => ∃ (a : Addr) (ns : List Int), vs = [.ref a] ∧ SqL K H a (ns.map V.int) ∧ ns.length ≤ 63 ∧ (∀ z ∈ ns, z.natAbs < 2 ^ cap) ∧ ∀ (p l0 : Addr) (H' : Hp), H p = none → Ex H H' → SrcAt H' p l0 0 → Q (.ref p) H'
def spMixed : Sp := fun vs H Q _ => ∃ c s lim : Int, vs = [.int c, .int s, .int lim] ∧ c.natAbs < 2 ^ cap ∧ 0 ≤ s ∧ s ≤ 1000000000 ∧ 1 ≤ lim ∧ lim ≤ 1000000 ∧ ∀ d : Int, 0 ≤ d → d < lim → RetV (.int d) H Q
def spSrc : Sp := fun vs H Q _ => ∃ (p l0 : Addr) (lim : Int) (n : Nat), vs = [.ref p, .int lim] ∧ SrcAt H p l0 n ∧ n ≤ 100000000 ∧ 1 ≤ lim ∧ lim ≤ 1000000 ∧ ∀ (d : Int) (H' : Hp), 0 ≤ d → d < lim → SrcAt H' p l0 (n + 1) → Keep p H H' → Q (.int d) H'
theorem cutV_all {xs : List V} (h : xs.length ≤ 63) : cutV xs none (some 63) = xs := by
  unfold cutV
  rw [HT.sIx_none, show HT.sIx xs.length xs.length (some 63) = min 63 xs.length from HT.sIx_nat _ _ 63, List.drop_zero, Nat.sub_zero, Nat.min_eq_right h]
  exact List.take_of_length_le (Nat.le_refl _)
theorem sq_le {x b : Int} (h0 : 0 ≤ x) (h : x ≤ b) : x * x ≤ b * b := Int.mul_le_mul h h h0 (by omega)
end Z
set_option maxHeartbeats 4000000
namespace Z
open PySem PySem.Spec PyProof.Rows L2 TL Evl
/-! ### a bag of draws: a list whose first thing is the list l0 of cells, three numbers -/
def DwAt (H : Hp) (p l0 : Addr) : Prop := ∃ (cs : List Int) (c1 c2 c3 : Int), H p = some (.lst [.ref l0, .int c1, .int c2, .int c3]) ∧ H l0 = some (.lst (cs.map V.int)) ∧ l0 ≠ p ∧ cs.length ≤ 63 ∧ (∀ z ∈ cs, z.natAbs < 2 ^ cap) ∧ 0 ≤ c1 ∧ 0 ≤ c3 ∧ c3 < 2147483647
section
variable {H H' : Hp} {p l0 l : Addr} {o : HO}
theorem DwAt.ex (b : DwAt H p l0) (e : Ex H H') : DwAt H' p l0 := by
  obtain ⟨cs, c1, c2, c3, h, h2, r⟩ := b
  exact ⟨cs, c1, c2, c3, e _ _ h, e _ _ h2, r⟩
theorem DwAt.has (b : DwAt H p l0) : ∃ xs, H p = some (.lst xs) := by
  obtain ⟨cs, c1, c2, c3, h, r⟩ := b
  exact ⟨_, h⟩
theorem DwAt.has0 (b : DwAt H p l0) : ∃ xs, H l0 = some (.lst xs) := by
  obtain ⟨cs, c1, c2, c3, h, h2, r⟩ := b
  exact ⟨_, h2⟩
theorem DwAt.ne (b : DwAt H p l0) (h : H l = none) : l ≠ p ∧ l ≠ l0 := by
  obtain ⟨xs, g⟩ := b.has
  obtain ⟨ys, g2⟩ := b.has0
  exact ⟨(fun e => by rw [e, g] at h; cases h), (fun e => by rw [e, g2] at h; cases h)⟩
theorem DwAt.upd (b : DwAt H p l0) (h : l ≠ p ∧ l ≠ l0) : DwAt (upd H l o) p l0 := by
  obtain ⟨cs, c1, c2, c3, h1, h2, r⟩ := b
  exact ⟨cs, c1, c2, c3, by rw [upd_ne (Ne.symm h.1)]; exact h1, by rw [upd_ne (Ne.symm h.2)]; exact h2, r⟩
theorem Keep.freeB (a : Keep p H H') (b : DwAt H' p l0) (h : H' l = none) : H l = none := by
  obtain ⟨xs, g⟩ := b.has
  exact a.non g h
end
def spBagS (K : PySem.W.Frag) : Sp := fun vs H Q _ => ∃ (a : Addr) (ns : List Int), vs = [.ref a] ∧ SqL K H a (ns.map V.int) ∧ ns.length ≤ 63 ∧ (∀ z ∈ ns, z.natAbs < 2 ^ cap) ∧ ∀ (p l0 : Addr) (H' : Hp), H p = none → Ex H H' → DwAt H' p l0 → Q (.ref p) H'
def spTake : Sp := fun vs H Q _ => ∃ (p l0 : Addr) (lim : Int), vs = [.ref p, .int lim] ∧ DwAt H p l0 ∧ 1 ≤ lim ∧ lim ≤ 1000000 ∧ ∀ (d : Int) (H' : Hp), 0 ≤ d → d < lim → DwAt H' p l0 → Keep p H H' → Q (.int d) H'
/-! ### texts of marks -/
def mkS : Str := "abcdefghijklmnopqrstuvwxyz0123456789-."
def markB (z : Str) : Bool := (decide ((1 : Int) ≤ z.length) && decide ((z.length : Int) ≤ 40)) && allIn z mkS
def plS : Str := (" !\"#$&'()*+,-./0123456789:;<=>?@ABCDEFGHIJKLMNOPQRSTUVWXYZ[\\]^_`" : Str) ++ ("abcdefghijklmnopqrstuvwxyz{|}~" : Str)
def wrZ (z : Str) (b : Bool) : Str := (cond b ("w" : Str) "" ++ ("\"" : Str)) ++ z ++ ("\"" : Str)
def one (c : Nat) : Str := ⟨#[c]⟩
theorem one_len (c : Nat) : (one c).length = 1 := rfl
theorem tl_one (c : Nat) : tl (one c) = [c] := rfl
theorem markB_iff {z : Str} : markB z = true ↔ (1 ≤ z.length ∧ z.length ≤ 40) ∧ allIn z mkS = true := by
  unfold markB
  rw [Bool.and_eq_true, Bool.and_eq_true, decide_eq_true_eq, decide_eq_true_eq]
  constructor
  · rintro ⟨⟨h1, h2⟩, h3⟩
    exact ⟨⟨by omega, by omega⟩, h3⟩
  · rintro ⟨⟨h1, h2⟩, h3⟩
    exact ⟨⟨by omega, by omega⟩, h3⟩
theorem allIn_app (a b s : Str) : allIn (a ++ b) s = (allIn a s && allIn b s) := by
  unfold allIn
  rw [tl_append, List.all_append]
theorem allIn_sub {a b s : Str} (h : allIn b s = true) (hs : ∀ c ∈ tl a, c ∈ tl b) : allIn a s = true := by
  refine List.all_eq_true.mpr fun c hc => List.all_eq_true.mp h c (hs c hc)
theorem allIn_one {c : Nat} {s : Str} (h : c ∈ tl s) : allIn (one c) s = true := by
  refine List.all_eq_true.mpr fun d hd => ?_
  have : d = c := by
    have := List.mem_singleton.mp (show d ∈ [c] from hd)
    exact this
  rw [this]
  exact decide_eq_true h
theorem cut_mem {z : Str} {a b : Option Int} {c : Nat} (h : c ∈ tl (cutS z a b)) : c ∈ tl z := List.mem_of_mem_drop (List.mem_of_mem_take h)
theorem allIn_cut {z s : Str} (a b : Option Int) (h : allIn z s = true) : allIn (cutS z a b) s = true := allIn_sub h fun _ hc => cut_mem hc
/-- z[:i] + c + z[i + 1:] -/
theorem put_len {z : Str} {i : Nat} {c : Nat} (h : i < z.length) : (cutS z none (some (i : Int)) ++ one c ++ cutS z (some ((i : Int) + 1)) none).length = z.length := by
  have e : (i : Int) + 1 = ((i + 1 : Nat) : Int) := by omega
  rw [e, cutTo, cutFrom, Str.length_append, Str.length_append]
  have h1 : (preT z i).length = i := by
    show ((tl z).take i).toArray.size = i
    rw [List.size_toArray, List.length_take, len_tl']
    omega
  have h2 : (sufT z (i + 1)).length = z.length - (i + 1) := by
    show ((tl z).drop (i + 1)).toArray.size = _
    rw [List.size_toArray, List.length_drop, len_tl']
  rw [h1, h2, one_len]
  omega
theorem put_mark {z : Str} {i c : Nat} (h : markB z = true) (hi : i < z.length) (hc : c ∈ tl mkS) : markB (cutS z none (some (i : Int)) ++ one c ++ cutS z (some ((i : Int) + 1)) none) = true := by
  have h2 := markB_iff.mp h
  refine markB_iff.mpr ⟨by rw [put_len hi]; exact h2.1, ?_⟩
  rw [allIn_app, allIn_app, allIn_cut _ _ h2.2, allIn_cut _ _ h2.2, allIn_one hc]
  rfl
theorem wrZ_len (z : Str) (b : Bool) : (wrZ z b).length ≤ z.length + 3 := by
  unfold wrZ
  rw [Str.length_append, Str.length_append, Str.length_append]
  have h1 : (cond b ("w" : Str) "").length ≤ 1 := by cases b <;> decide +kernel
  have h2 : ("\"" : Str).length = 1 := by decide +kernel
  omega
theorem wrZ_pos (z : Str) (b : Bool) : 2 ≤ (wrZ z b).length := by
  unfold wrZ
  rw [Str.length_append, Str.length_append, Str.length_append]
  have h2 : ("\"" : Str).length = 1 := by decide +kernel
  omega
section
variable {K : PySem.W.Frag} {σ : L2.St} {H H' : Hp} {ta tb te to ts : TE} {a b s : Str} {n m k : Nat} {tlo thi : TO} {lo hi : Option Int} {i : Int}
theorem es_sl (h : EvS te σ H n) (h1 : EvO tlo σ H lo) (h2 : EvO thi σ H hi) (hz : n ≤ 100000) : EvS (tSl rSlS te tlo thi) σ H n := by
  obtain ⟨x, hx, ex⟩ := h
  exact ⟨cutS x lo hi, Nat.le_trans (cut_len x _ _) hx, ev_slS ex h1 h2 (by omega)⟩
theorem es_ev (h : Ev te σ H (.str a)) (hn : a.length ≤ n) : EvS te σ H n := ⟨a, hn, h⟩
def rUpper : V → List V → Hp → VK → Prop := fun x xs H Q => ∃ a, x = .str a ∧ xs = [] ∧ a.length ≤ 5592405 ∧ Q (.str (Txt.upper a)) H
end
end Z
namespace Z
open PySem PySem.Spec PyProof.Rows L2 TL Evl
section
variable {K : PySem.W.Frag} {σ : L2.St} {H : Hp} {ta tb tc : TE} {i j k : Int}
/-- a < b < c -/
theorem ev_chainL (ha : Ev ta σ H (.int i)) (hb : Ev tb σ H (.int j)) (hc : Ev tc σ H (.int k)) :
    Ev (tChain (rI0 fun i j => .bl (decide (i < j))) (rI0 fun i j => .bl (decide (i < j))) ta tb tc) σ H (.bl (decide (i < j) && decide (j < k))) := fun H1 e Q q =>
  ha H1 e _ fun H2 e2 => hb H2 (e.trans e2) _ fun H3 e3 => ⟨i, j, rfl, rfl, _, rfl, by
    cases h : decide (i < j) with
    | true =>
      refine iteT ?_
      refine hc H3 ((e.trans e2).trans e3) _ fun H4 e4 => ⟨j, k, rfl, rfl, ?_⟩
      have g := q H4 ((e2.trans e3).trans e4)
      rw [h] at g
      exact g
    | false =>
      refine iteF ?_
      have g := q H3 (e2.trans e3)
      rw [h] at g
      exact g⟩
end
end Z
set_option maxHeartbeats 4000000
namespace Z
open PySem PySem.Spec PyProof.Rows L2 TL Evl
/-! ### a written mark -/
def quo (z : Str) : Str := if decide (hd z = some 119) = true then rest z else z
def inn (q : Str) : Str := cutS q (some 1) (some (-1))
def qut (t : Str) : Str := ("\"" : Str) ++ t ++ ("\"" : Str)
def readZ (z : Str) : Option (Str × Bool) := if quo z = qut (inn (quo z)) ∧ markB (inn (quo z)) = true then some (inn (quo z), decide (hd z = some 119)) else none
theorem q34 : ("\"" : Str) = one 34 := by decide +kernel
theorem w119 : ("w" : Str) = one 119 := by decide +kernel
theorem inn_sub (q : Str) : tl (inn q) = ((tl q).drop (HT.sIx q.length 0 (some 1))).take (HT.sIx q.length q.length (some (-1)) - HT.sIx q.length 0 (some 1)) := rfl
theorem sx1 (n : Nat) : HT.sIx n 0 (some 1) = min 1 n := HT.sIx_nat n 0 1
theorem sxm (n : Nat) : HT.sIx n n (some (-1)) = n - 1 := by
  show (if (-1 : Int) < 0 then ((-1 : Int) + (n : Int)).toNat else min (-1 : Int).toNat n) = n - 1
  rw [if_pos (by decide)]
  omega
theorem inn_short {q : Str} (h : q.length < 3) : markB (inn q) = false := by
  cases e : markB (inn q) with
  | false => rfl
  | true =>
    have h1 := (markB_iff.mp e).1.1
    have h2 := congrArg List.length (inn_sub q)
    rw [len_tl', List.length_take, sx1, sxm] at h2
    omega
theorem split3 {l : List Nat} (h : 3 ≤ l.length) : ∃ a m b, l = a :: (m ++ [b]) := by
  cases l with
  | nil => cases h
  | cons a r =>
    have hr : r ≠ [] := by
      intro e
      rw [e, List.length_singleton] at h
      omega
    exact ⟨a, r.dropLast, r.getLast hr, by rw [List.dropLast_concat_getLast]⟩
theorem inn_mid {q : Str} {a b : Nat} {m : List Nat} (h : tl q = a :: (m ++ [b])) : tl (inn q) = m := by
  have hn : q.length = m.length + 2 := by
    rw [← len_tl', h, List.length_cons, List.length_append]
    rfl
  rw [inn_sub, sx1, sxm, h, Nat.min_eq_left (by omega)]
  show (m ++ [b]).take (q.length - 1 - 1) = m
  rw [show q.length - 1 - 1 = m.length by omega, List.take_left]
theorem qut_tl (t : Str) : tl (qut t) = 34 :: (tl t ++ [34]) := by
  unfold qut
  rw [q34, tl_append, tl_append, tl_one]
  rfl
theorem qut_iff {q : Str} {a b : Nat} {m : List Nat} (h : tl q = a :: (m ++ [b])) : q = qut (inn q) ↔ (a = 34 ∧ b = 34) := by
  have hm := inn_mid h
  constructor
  · intro e
    have e2 := congrArg tl e
    rw [h, qut_tl, hm] at e2
    injection e2 with e3 e4
    have e5 := List.append_cancel_left e4
    injection e5 with e6 _
    exact ⟨e3, e6⟩
  · rintro ⟨rfl, rfl⟩
    refine ext_tl ?_
    rw [qut_tl, hm, h]
theorem hd_q {q : Str} {a : Nat} {m : List Nat} (h : tl q = a :: m) : atI (tl q) 0 = some a := atI_nat (j := 0) (by rw [h]; rfl)
theorem last_q {q : Str} {a b : Nat} {m : List Nat} (h : tl q = a :: (m ++ [b])) : atI (tl q) (-1) = some b := by
  rw [h]
  exact atI_last (a :: m) b
theorem one34 (c : Nat) : decide (one c = ("\"" : Str)) = decide (c = 34) := by
  rw [q34]
  exact decide_eq_decide.mpr (one_eq c 34)
theorem quo_cut (z : Str) : cutS z (some (if decide (hd z = some 119) then 1 else 0)) none = quo z := by
  unfold quo
  cases h : decide (hd z = some 119) with
  | true =>
    rw [if_pos rfl, if_pos rfl]
    rfl
  | false =>
    rw [if_neg (by decide), if_neg (by decide)]
    have e : cutS z (some ((0 : Nat) : Int)) none = z := ext_tl (by rw [cutFrom_tl]; rfl)
    exact e
theorem quo_len (z : Str) : (quo z).length ≤ z.length := by
  unfold quo
  split
  · exact rest_len z
  · exact Nat.le_refl _
theorem inn_len (z : Str) : (inn z).length ≤ z.length := cut_len z _ _
theorem read_none {z : Str} (h : ¬ (quo z = qut (inn (quo z)) ∧ markB (inn (quo z)) = true)) : readZ z = none := if_neg h
theorem read_some {z : Str} (h : quo z = qut (inn (quo z)) ∧ markB (inn (quo z)) = true) : readZ z = some (inn (quo z), decide (hd z = some 119)) := if_pos h
theorem starts_w (z : Str) : Txt.startswith z "w" = decide (hd z = some 119) := by
  unfold Txt.startswith Builtin.Str.subAt
  rw [w119]
  show (decide (0 + 1 ≤ z.length) && (z.cps.extract 0 (0 + 1) == #[119])) = _
  have hx : (z.cps.extract 0 (0 + 1) == #[119]) = decide ((tl z).take 1 = [119]) := by
    have : (z.cps.extract 0 (0 + 1)).toList = (tl z).take 1 := by simp [tl]
    by_cases h : (tl z).take 1 = [119]
    · rw [decide_eq_true h]
      refine beq_iff_eq.mpr (Array.toList_inj.mp ?_)
      rw [this, h]
    · rw [decide_eq_false h]
      refine beq_eq_false_iff_ne.mpr fun e => h ?_
      rw [← this, e]
  rw [hx, len_tl]
  unfold hd
  cases e : tl z with
  | nil => rfl
  | cons a r =>
    have h1 : 0 + 1 ≤ (a :: r).length := by rw [List.length_cons]; omega
    rw [decide_eq_true h1, Bool.true_and]
    show decide ([a] = [119]) = decide (some a = some 119)
    by_cases h : a = 119
    · rw [h]; rfl
    · rw [decide_eq_false fun e => h (by cases e; rfl), decide_eq_false fun e => h (Option.some.inj e)]
/-- the written form of a good mark is read back -/
theorem read_wr {z : Str} {b : Bool} (h : markB z = true) : readZ (wrZ z b) = some (z, b) := by
  have ht : tl (wrZ z b) = (cond b [119] []) ++ (34 :: (tl z ++ [34])) := by
    unfold wrZ
    rw [q34, tl_append, tl_append, tl_append, tl_one]
    cases b with
    | true =>
      show ((tl ("w" : Str) ++ [34]) ++ tl z) ++ [34] = _
      rw [w119, tl_one]
      simp
    | false =>
      show ((tl ("" : Str) ++ [34]) ++ tl z) ++ [34] = _
      rw [tl_empty]
      simp
  have hw : decide (hd (wrZ z b) = some 119) = b := by
    unfold hd
    rw [ht]
    cases b <;> rfl
  have hq : tl (quo (wrZ z b)) = 34 :: (tl z ++ [34]) := by
    unfold quo
    rw [hw]
    cases b with
    | true =>
      rw [if_pos rfl]
      unfold rest
      rw [cutFrom1_tl, ht]
      rfl
    | false =>
      rw [if_neg (by decide), ht]
      rfl
  have hi : inn (quo (wrZ z b)) = z := ext_tl (inn_mid hq)
  have hc : quo (wrZ z b) = qut (inn (quo (wrZ z b))) ∧ markB (inn (quo (wrZ z b))) = true := ⟨(qut_iff hq).mpr ⟨rfl, rfl⟩, by rw [hi]; exact h⟩
  rw [read_some hc, hi, hw]
end Z
namespace Z
open PySem PySem.Spec PyProof.Rows L2 TL Evl
theorem ev_intB {b : Bool} {te : TE} {σ : L2.St} {H : Hp} (h : Ev te σ H (.bl b)) : Ev (tCB rInt1 (tCons te tNil)) σ H (.int (if b then 1 else 0)) := fun H1 e Q q => h H1 e _ fun H2 e2 => .inr ⟨b, rfl, q H2 e2⟩
end Z
set_option maxHeartbeats 2000000
namespace Z
open PySem PySem.Spec PyProof.Rows L2 TL
/-! ### defs with text.replace(y, z) -/
section
variable {P : Program} {w : World} {K : PySem.W.Frag} {mg : Str → Option Value} {base : Heap} {x : Str} {st : Stmt} {f : Addr} {fd : FuncData} {N ps : List Str} {k : Nat} {sp : Sp}
theorem mkT (F : FnP K x st f fd) (gm : mg x = some (.ref f))
    (hb : ∀ (kV doc pm : Value) (an : Option Addr) (cdv ct : Value) (us : List Value), us.length = ps.length → bindArgs (PySem.W.fnOf x x (L2.defArgs st) (L2.defBody st) (L2.defScope st) .none kV doc pm an cdv ct) ⟨us, []⟩ = pure (ps.zip us))
    (hk : ∀ (kV doc pm : Value) (an : Option Addr) (cdv ct : Value) (ws : List Value), ws.length = ps.length → bindArgs (PySem.W.fnOf x x (L2.defArgs st) (L2.defBody st) (L2.defScope st) .none kV doc pm an cdv ct) ⟨[], ps.zip ws⟩ = pure (ps.zip ws))
    (S : FnScope N ps (L2.defScope st)) (hnc : ∀ y ∈ (L2.defScope st).names, y.2 ≠ .cell) (hps : 1 ≤ ps.length) (len : ∀ vs H Q E, sp vs H Q E → vs.length = ps.length)
    (hbody : ∀ (cdv : Value) (A : Around) (outer : List Env) (s : Shared) (H : Hp) (vs : List V) (Q : VK) (E : XK), Room k (A.deeper (envOfC x (L2.defScope st) s.heap.objs.size f cdv)) → sp vs H Q E →
      ∃ t, PSsT (cxOf CX0 P w K mg base N x (L2.defScope st) f cdv A outer s H E) (L2.defBody st) t ∧ t { nx := fun _ H' => Q .non H', rt := Q } (start N vs) H) : Call P w K mg base (k + 1) x ps sp := by
  refine ⟨f, fd, ?_, gm, F.kp, F.bindsN hb, kbn F hk⟩
  obtain ⟨oc, od, dflt, kwd, doc, mod, ann, code, tp, osl, isFd, lk, hcd, none_given, _⟩ := F.ex
  rw [isFd] at lk ⊢
  exact L2.fn_ofT lk hcd S hnc hps len fun A outer s H vs Q E hr h => hbody code A outer s H vs Q E hr h
end
section
variable {X : Cx} {k j : Nat} {x : Str} {ps : List Str} {sp : Sp} {p pos : Pos} {e : Expr} {es : List Expr} {t : TA}
theorem pet_f (c : Call X.prog X.w X.K X.mg X.base k x ps sp) (hr : Room j X.A) (hk : k ≤ j) (hg : Gl X x) (ha : PAT X (e :: es) t)
    (hdb : (x == ("__debug__" : Str)) = false := by decide) (he : starEach (e :: es) X.env = (false, eval e X.env) :: starEach es X.env := by rfl) (hpl : (backTo pos (starEach es X.env)).any (·.1) = false := by rfl) :
    PET X (.Call (.Name x p) (e :: es) [] pos) (tCall sp [] E0 t) := by
  obtain ⟨f, fd, F, hm, kp, b, _⟩ := c.ex
  intro pins s σ H Q h0 I h
  refine wpAny_Call_Name_kw (ld_glob I hg hm ?_ hdb)
  refine PySem.W.callWith_K (h₀ := X.base) I.ok.mod.kin kp (thn (ha pos pins s σ H _ h0 I h) fun us s1 ⟨vs, H1, I1, r, q⟩ => ⟨I1.kIn, ?_⟩) he hpl
  exact run_fn F (hr.mono hk) b .nil pass0 I1 r q
end
end Z
set_option maxHeartbeats 2000000
namespace Z
open PySem PySem.Spec PyProof.Rows L2 TL Evl
/-! ### text.replace(one character, "") -/
def splN (n : Nat) : List Nat → List Nat → List (List Nat)
  | acc, [] => [acc]
  | acc, c :: r => if c = n then acc :: splN n [] r else splN n (acc ++ [c]) r
theorem spl_splN (n : Nat) : ∀ (l acc : List Nat), spl [n] 0 acc l = splN n acc l
  | [], acc => spl_nil _ _ _
  | c :: r, acc => by
    have hp : pre [n] (c :: r) = decide (c = n) := by
      show ([c] == [n]) = decide (c = n)
      by_cases h : c = n
      · rw [h, decide_eq_true rfl]; exact beq_self_eq_true _
      · rw [decide_eq_false h]
        exact beq_eq_false_iff_ne.mpr fun e => h (by cases e; rfl)
    show spl [n] 0 acc (c :: r) = if c = n then acc :: splN n [] r else splN n (acc ++ [c]) r
    by_cases h : c = n
    · rw [spl_hit (by rw [hp, decide_eq_true h]), if_pos h]
      show acc :: spl [n] 0 [] r = _
      rw [spl_splN n r []]
    · rw [spl_miss (by rw [hp, decide_eq_false h]), if_neg h]
      exact spl_splN n r (acc ++ [c])
theorem splN_flat (n : Nat) : ∀ (l acc : List Nat), (splN n acc l).flatten = acc ++ l.filter fun c => !decide (c = n)
  | [], acc => by
    show [acc].flatten = acc ++ []
    rw [List.append_nil]
    exact List.append_nil acc
  | c :: r, acc => by
    show (if c = n then acc :: splN n [] r else splN n (acc ++ [c]) r).flatten = _
    by_cases h : c = n
    · rw [if_pos h, List.flatten_cons, splN_flat n r [], List.filter_cons, decide_eq_true h]
      rfl
    · rw [if_neg h, splN_flat n r (acc ++ [c]), List.filter_cons, decide_eq_false h, List.append_assoc]
      rfl
theorem glued_tl (ps : List Str) : tl (Builtin.Str.glued "" ps) = (ps.map tl).flatten := by
  have key : ∀ (ps : List Str) (acc : Array Nat), (ps.foldl (fun (acc : Array Nat) (p : Str) => acc ++ ("" : Str).cps ++ p.cps) acc).toList = acc.toList ++ (ps.map tl).flatten := by
    intro ps
    induction ps with
    | nil => intro acc; simp
    | cons p r ih =>
      intro acc
      rw [List.foldl_cons, ih]
      simp only [Array.toList_append, List.map_cons, List.flatten_cons, List.append_assoc]
      have : ("" : Str).cps.toList = [] := by decide +kernel
      rw [this]
      rfl
  unfold Builtin.Str.glued
  show (((ps.drop 1).foldl (fun acc p => acc ++ ("" : Str).cps ++ p.cps) (ps.headD Str.empty).cps)).toList = _
  rw [key]
  cases ps with
  | nil => rfl
  | cons p r => rfl
theorem replace_glued (x : Str) : Txt.replace x "\n" "" = Builtin.Str.glued "" (Txt.split x "\n") := by
  by_cases hx : x.length < 1
  · have e : x = Str.empty := by
      obtain ⟨a⟩ := x
      have h0 : a.size = 0 := by
        have : a.size < 1 := hx
        omega
      have : a = #[] := Array.eq_empty_of_size_eq_zero h0
      rw [this]
      rfl
    rw [e]
    decide +kernel
  · unfold Txt.replace Txt.split
    have h1 : ("\n" : Str).length = 1 := by decide +kernel
    have hk : ¬ Builtin.Str.strKind x < Builtin.Str.strKind ("\n" : Str) := kind_ok (by decide +kernel)
    rw [h1, decide_eq_false hx, decide_eq_false hk]
    cases h : (Builtin.Str.occurrences x "\n" 0 x.length (x.length + 1)).isEmpty
    · rfl
    · rfl
theorem nl_tl : tl ("\n" : Str) = [10] := by decide +kernel
theorem replace_nl (z : Str) : tl (Txt.replace z "\n" "") = (tl z).filter fun c => !decide (c = 10) := by
  rw [replace_glued z, glued_tl, split_spl z "\n" (by rw [nl_tl]; simp) (kind_ok (by decide +kernel)), nl_tl, spl_splN, splN_flat]
  rfl
def linesB (z : Str) : Bool := (tl z).all fun c => decide (c = 10) || decide (c ∈ tl signs)
theorem lines_eq (z : Str) : allIn (Txt.replace z "\n" "") signs = linesB z := by
  unfold allIn linesB
  rw [replace_nl, Bool.eq_iff_iff, List.all_eq_true, List.all_eq_true]
  constructor
  · intro h c hc
    by_cases e : c = 10
    · rw [e]; rfl
    · rw [decide_eq_false e, Bool.false_or]
      exact h c (List.mem_filter.mpr ⟨hc, by rw [decide_eq_false e]; rfl⟩)
  · intro h c hc
    obtain ⟨h1, h2⟩ := List.mem_filter.mp hc
    have := h c h1
    rw [Bool.not_eq_true'] at h2
    rw [h2, Bool.false_or] at this
    exact this
end Z
set_option maxHeartbeats 2000000
namespace ZX
open PySem PySem.Spec PyProof.Rows L2
/-! ### C(e, ..) in an except suite; a statement that is never reached -/
theorem ps_never {X : Cx} {st : Stmt} : PS X st (fun _ _ _ => False) := ⟨fun pins s σ H D I h => h.elim⟩
section
variable {X : Cx} {CX : CXT} {k : Nat} {C f : Addr} {fd : FuncData} {ps : List Str} {sp : Sp} {E : XK} {e : Expr} {es : List Expr} {x : Str} {pos p : Pos} {t : TA} {dvs : List V} {ds : List Value}
theorem run_makeH {pins : List (Addr × Obj)} {σ : L2.St} {H : Hp} {s : Shared} {Q : VK} {us : List Value} {vs : List V} (M : Mk X.K C f) (F : L2H.FnH X.prog X.w X.K X.mg X.base CX k f fd ps sp) (hr : L2H.RoomH (k + 1) X.A) (hc : L2H.HotC X) (hb : Binds X.K fd ps ds) (hd : Vals dvs ds)
    (hx : Passes CX X E) (I : Inv X pins σ H s) (r : Vals vs us)
    (h : ∀ x dx, H x = none → H dx = none → dx ≠ x → sp (.ref x :: (vs ++ dvs)) (upd (upd H dx (.own x)) x (.ins C dx [])) (fun v H2 => v = .non ∧ Q (.ref x) H2) E) :
    wpAny (model X.prog X.w) X.A (call (.ref C) us) (EP X pins σ Q) X.xe s := by
  have hq := h (s.heap.objs.size + 1) s.heap.objs.size (I.hok.fresh (Nat.le_succ _)) (I.hok.fresh (Nat.le_refl _)) (Nat.ne_of_lt (Nat.lt_succ_self _))
  have I2 := Inv.made (C := C) I
  obtain ⟨pn, hot, hp⟩ := hc
  have P1 := I2.pin pn (List.mem_append_left _ hp)
  have r2 : Vals (V.ref (s.heap.objs.size + 1) :: (vs ++ dvs)) (Value.ref (s.heap.objs.size + 1) :: (us ++ ds)) := .cons rfl (r.append hd)
  have hl : (Value.ref (s.heap.objs.size + 1) :: us ++ ds).length = ps.length := by
    have e := r2.length
    rw [F.len _ _ _ _ hq] at e
    exact e.symm
  refine wpAny_call (make_map (f := f) I.kIn M.makes M.init (beq_iff_eq.mp M.fn) (codeAny_mono (F.run _ X.stack _ _ ⟨Value.ref (s.heap.objs.size + 1) :: us, []⟩ (Value.ref (s.heap.objs.size + 1) :: (us ++ ds)) _ _ E pn
    ⟨by have := hr.dp; rw [make_depth]; omega, by have := hr.un; rw [make_units]; omega⟩ hot ⟨P1.1, P1.2.1, fun hm => (List.mem_cons.mp (I2.stkSub pn.1 hm)).elim P1.2.2.1 P1.2.2.2.1, P1.2.2.2.2⟩
    (I2.env0.make C us []) (hb _ (Value.ref (s.heap.objs.size + 1) :: us) I2.kIn hl) r2 hq) fun r s' hq' => ?_))
  cases r with
  | error e => exact hx pins σ _ _ e s' I2 hq'
  | ok fl =>
    cases fl with
    | ret u =>
      obtain ⟨v, H', I3, rv, ev, q3⟩ := I2.after hq'
      subst ev
      exact ⟨rv, ⟨V.ref (s.heap.objs.size + 1), H', I3, rfl, q3⟩⟩
    | next => exact False.elim hq'
    | brk => exact False.elim hq'
    | cont => exact False.elim hq'
theorem pe_makeH (M : Mk X.K C f) (F : L2H.FnH X.prog X.w X.K X.mg X.base CX k f fd ps sp) (hr : L2H.RoomH (k + 1) X.A) (hc : L2H.HotC X) (hg : Gl X x) (hm : X.mg x = some (.ref C)) (hb : Binds X.K fd ps ds) (hd : Vals dvs ds) (hx : Passes CX X E)
    (ha : PA X (e :: es) t) (hdb : (x == ("__debug__" : Str)) = false := by decide) (he : starEach (e :: es) X.env = (false, eval e X.env) :: starEach es X.env := by rfl) (hpl : (backTo pos (starEach es X.env)).any (·.1) = false := by rfl) :
    PE X (.Call (.Name x p) (e :: es) [] pos) (tMake C sp dvs E t) := by
  refine ⟨fun pins s σ H Q I h => ?_⟩
  refine wpAny_Call_Name_kw (ld_glob I hg hm ?_ hdb)
  refine PySem.W.callWith_K (h₀ := X.base) I.ok.mod.kin M.kp (thn (ha.run pos pins s σ H _ I h) fun us s1 ⟨vs, H1, I1, r, q⟩ => ⟨I1.kIn, ?_⟩) he hpl
  exact run_makeH M F hr hc hb hd hx I1 r q
end
end ZX
set_option maxHeartbeats 2000000
namespace Z
open PySem PySem.Spec PyProof.Rows L2 TL Evl PySem.Builtin.Str
/-! ### stripped texts -/
theorem getD_tl {z : Str} {k : Nat} (hk : k < z.length) : (tl z)[k]? = some (z.cps.getD k 0) := by
  have hl : k < (tl z).length := by rw [len_tl']; exact hk
  rw [List.getElem?_eq_getElem hl, ← getD_list, List.getD_eq_getElem?_getD]
  show some (z.cps.toList[k]'hl) = some (z.cps.toList[k]?.getD 0)
  rw [List.getElem?_eq_getElem hl]
  rfl
theorem strip_self {w s : Str} (h0 : ∀ c, (tl w)[0]? = some c → c ∉ tl s) (h1 : ∀ c, (tl w)[w.length - 1]? = some c → c ∉ tl s) : Txt.stripChars w s = w := by
  have e0 : Txt.stripChars w s = strSub w (stripLo s.cps.contains true w) (stripHi s.cps.contains true w (stripLo s.cps.contains true w)) := stripBy_eq _ _ _ _
  obtain ⟨l1, l2, l3⟩ := lo_facts s.cps.contains w
  obtain ⟨a1, a2, a3, a4⟩ := hi_facts s.cps.contains w _ l1
  generalize hlo : stripLo s.cps.contains true w = lo at *
  generalize hhi : stripHi s.cps.contains true w lo = hi at *
  have hlen : (tl w).length = w.length := len_tl' w
  have no : ∀ k, k < w.length → s.cps.contains (w.cps.getD k 0) = true → ¬ (w.cps.getD k 0 ∉ tl s) := fun k hk h h2 => by
    rw [contains_mem] at h
    exact h2 (of_decide_eq_true h)
  have z1 : lo = 0 := by
    by_cases h : lo = 0
    · exact h
    · exact absurd (h0 _ (getD_tl (by omega))) (no 0 (by omega) (l2 0 (by omega)))
  have z2 : hi = w.length := by
    by_cases h : hi = w.length
    · exact h
    · exact absurd (h1 _ (getD_tl (by omega))) (no (w.length - 1) (by omega) (a3 (w.length - 1) (by omega) (by omega)))
  refine ext_tl ?_
  rw [e0, tl_strSub, z1, z2, List.drop_zero, Nat.sub_zero, ← hlen, List.take_length]
theorem strip_ends (z s : Str) : (∀ c, (tl (Txt.stripChars z s))[0]? = some c → c ∉ tl s) ∧ ∀ c, (tl (Txt.stripChars z s))[(Txt.stripChars z s).length - 1]? = some c → c ∉ tl s := by
  have e0 : Txt.stripChars z s = strSub z (stripLo s.cps.contains true z) (stripHi s.cps.contains true z (stripLo s.cps.contains true z)) := stripBy_eq _ _ _ _
  obtain ⟨l1, l2, l3⟩ := lo_facts s.cps.contains z
  obtain ⟨h1, h2, h3, h4⟩ := hi_facts s.cps.contains z _ l1
  generalize hlo : stripLo s.cps.contains true z = lo at *
  generalize hhi : stripHi s.cps.contains true z lo = hi at *
  have hlen : (tl z).length = z.length := len_tl' z
  have e1 : tl (Txt.stripChars z s) = ((tl z).drop lo).take (hi - lo) := by rw [e0]; exact tl_strSub _ _ _
  have el : (Txt.stripChars z s).length = hi - lo := by
    rw [← len_tl', e1, List.length_take, List.length_drop, hlen]
    omega
  have gt : ∀ k c, k < hi - lo → (tl (Txt.stripChars z s))[k]? = some c → c = z.cps.getD (lo + k) 0 := fun k c hk h => by
    rw [e1, List.getElem?_take, if_pos hk, List.getElem?_drop, getD_tl (by omega)] at h
    exact (Option.some.inj h).symm
  constructor
  · intro c hc
    have hk : 0 < hi - lo := by
      have := (List.getElem?_eq_some_iff.mp hc).1
      rw [len_tl', el] at this
      exact this
    have := gt 0 c hk hc
    rw [Nat.add_zero] at this
    rcases l3 with h | h
    · omega
    · intro hm
      rw [this] at hm
      rw [contains_mem, decide_eq_true hm] at h
      cases h
  · intro c hc
    rw [el] at hc
    have hk : 0 < hi - lo := by
      have := (List.getElem?_eq_some_iff.mp hc).1
      rw [len_tl', el] at this
      omega
    have := gt (hi - lo - 1) c (by omega) hc
    rw [show lo + (hi - lo - 1) = hi - 1 by omega] at this
    rcases h4 with h | h
    · omega
    · intro hm
      rw [this] at hm
      rw [contains_mem, decide_eq_true hm] at h
      cases h
theorem strip_idem (z s : Str) : Txt.stripChars (Txt.stripChars z s) s = Txt.stripChars z s := strip_self (strip_ends z s).1 (strip_ends z s).2
end Z
set_option maxHeartbeats 4000000
namespace Z
open PySem PySem.Spec PyProof.Rows L2 TL Evl
/-! ### whole numbers or None -/
def oI : Option Int → V
  | none => .non
  | some i => .int i
theorem oI_non {o : Option Int} : decide (oI o = .non) = o.isNone := by
  cases o with
  | none => rfl
  | some i => exact decide_eq_false fun h => nomatch h
def numO (z : Str) : Option Int := if digB z = true then some ((NumText.digitsVal (tl z) : Nat) : Int) else none
theorem numV_oI (z : Str) : numV z = oI (numO z) := by
  unfold numV numO
  cases h : digB z with
  | true => rfl
  | false => rfl
theorem neg_tl (n : Nat) : tl (PySem.Str.ofString (toString (Int.negSucc n))) = 45 :: numL (n + 1) := by
  have e : toString (Int.negSucc n) = "-" ++ toString (n + 1) := rfl
  rw [e, PySem.Str.ofString_eq_toList]
  show (String.toList ("-" ++ toString (n + 1))).map Char.toNat = _
  rw [String.toList_append, List.map_append]
  have h2 := tl_num (n + 1)
  rw [PySem.Str.ofString_eq_toList] at h2
  have h2 : (String.toList (toString (n + 1))).map Char.toNat = numL (n + 1) := h2
  rw [h2]
  rfl
theorem num_head : ∀ n : Nat, 1 ≤ n → ∃ c r, numL n = c :: r ∧ c ≠ 48 := by
  intro n
  induction n using Nat.strongRecOn with
  | _ n ih =>
    intro h
    by_cases h1 : n < 10
    · exact ⟨48 + n, [], numL_lt h1, by omega⟩
    · obtain ⟨c, r, h2, h3⟩ := ih (n / 10) (by omega) (by omega)
      exact ⟨c, r ++ [48 + n % 10], by rw [numL_step (by omega), h2]; rfl, h3⟩
theorem dig_mem {c : Nat} (h1 : 48 ≤ c) (h2 : c ≤ 57) : c ∈ tl ("0123456789" : Str) := by
  have k : ∀ i < 10, 48 + i ∈ tl ("0123456789" : Str) := by decide +kernel
  have := k (c - 48) (by omega)
  rwa [show 48 + (c - 48) = c by omega] at this
theorem num_dig {n : Nat} (h : n < 10 ^ 6) {z : Str} (hz : tl z = numL n) : digB z = true := by
  have hl : z.length ≤ 6 := by rw [len_tl, hz]; exact numL_len (by decide) h
  have hp : 1 ≤ z.length := by rw [len_tl, hz]; exact List.length_pos_iff.mpr (numL_ne n)
  unfold digB
  rw [decide_eq_true (by omega), decide_eq_true (by omega), Bool.true_and, Bool.true_and, Bool.and_eq_true]
  refine ⟨List.all_eq_true.mpr fun c hc => decide_eq_true ?_, ?_⟩
  · rw [hz] at hc
    have := numL_digits n c hc
    exact dig_mem this.1 this.2
  · rw [Bool.or_eq_true, decide_eq_true_eq, Bool.not_eq_true', decide_eq_false_iff_not]
    by_cases h1 : n < 10
    · left
      rw [len_tl, hz, numL_lt h1]
      rfl
    · right
      obtain ⟨c, r, h2, h3⟩ := num_head n (by omega)
      unfold hd
      rw [hz, h2]
      intro e
      exact h3 (Option.some.inj e)

theorem numO_num {i : Int} (h0 : 0 ≤ i) (h1 : i ≤ 999999) : numO (PySem.Str.ofString (toString i)) = some i := by
  cases i with
  | negSucc n => exact absurd h0 (by omega)
  | ofNat n =>
    have h1 : (n : Int) ≤ 999999 := h1
    have hz : tl (PySem.Str.ofString (toString (Int.ofNat n))) = numL n := tl_num n
    unfold numO
    rw [if_pos (num_dig (by omega) hz), hz, numL_val]
    rfl
theorem num_len {i : Int} (h0 : 0 ≤ i) (h1 : i ≤ 999999) : 1 ≤ (PySem.Str.ofString (toString i)).length ∧ (PySem.Str.ofString (toString i)).length ≤ 6 := by
  cases i with
  | negSucc n => exact absurd h0 (by omega)
  | ofNat n =>
    have h1 : (n : Int) ≤ 999999 := h1
    have hz : tl (PySem.Str.ofString (toString (Int.ofNat n))) = numL n := tl_num n
    rw [len_tl, hz]
    exact ⟨List.length_pos_iff.mpr (numL_ne n), numL_len (by decide) (by omega)⟩
theorem num_digs {i : Int} (h0 : 0 ≤ i) (h1 : i ≤ 999999) : ∀ c ∈ tl (PySem.Str.ofString (toString i)), 48 ≤ c ∧ c ≤ 57 := by
  cases i with
  | negSucc n => exact absurd h0 (by omega)
  | ofNat n =>
    have hz : tl (PySem.Str.ofString (toString (Int.ofNat n))) = numL n := tl_num n
    rw [hz]
    exact numL_digits n
/-! ### the least of numbers -/
def minL : List Int → Option Int
  | [] => none
  | x :: r => match minL r with
    | none => some x
    | some y => some (if y < x then y else x)
theorem minL_some : ∀ {ns : List Int} {m : Int}, m ∈ ns → (∀ y ∈ ns, m ≤ y) → minL ns = some m
  | [], _, h, _ => nomatch h
  | x :: r, m, h, hm => by
    unfold minL
    rcases List.mem_cons.mp h with rfl | h
    · cases e : minL r with
      | none => rfl
      | some y =>
        have hy : y ∈ r := by
          clear hm h
          induction r generalizing y with
          | nil => cases e
          | cons z t ih =>
            unfold minL at e
            cases e2 : minL t with
            | none =>
              rw [e2] at e
              cases e
              exact List.mem_cons_self
            | some w =>
              rw [e2] at e
              have e := Option.some.inj e
              by_cases hw : w < z
              · rw [if_pos hw] at e
                rw [← e]
                exact List.mem_cons_of_mem _ (ih w e2)
              · rw [if_neg hw] at e
                rw [← e]
                exact List.mem_cons_self
        have := hm y (List.mem_cons_of_mem _ hy)
        show some (if y < m then y else m) = some m
        rw [if_neg (by omega)]
    · rw [minL_some h fun y hy => hm y (List.mem_cons_of_mem _ hy)]
      have := hm x List.mem_cons_self
      show some (if m < x then m else x) = some m
      by_cases e : m < x
      · rw [if_pos e]
      · rw [if_neg e, show x = m by omega]
theorem minL_none {ns : List Int} (h : ns = []) : minL ns = none := by rw [h]; rfl
/-! ### directives of elements -/
def sgn (nm : Str) : Str := nm ++ "="
def dirs (nm : Str) (ps : List Str) : List (Option Int) := (ps.filter fun p => Txt.startswith p (sgn nm)).map fun p => numO (Txt.removeprefix p (sgn nm))
def nums (nm : Str) (ps : List Str) : List Int := (dirs nm ps).filterMap id
def leastO (nm : Str) (ps : List Str) : Option Int := minL (nums nm ps)
def noNum (nm p : Str) : Bool := Txt.startswith p (sgn nm) && (numO (Txt.removeprefix p (sgn nm))).isNone
def lifeO (nm : Str) (ps : List Str) : Option Int := if (decide (nm ∈ ps) || ps.any (noNum nm)) = true then some 0 else leastO nm ps
theorem dirs_app (nm : Str) (a b : List Str) : dirs nm (a ++ b) = dirs nm a ++ dirs nm b := by
  unfold dirs
  rw [List.filter_append, List.map_append]
theorem nums_app (nm : Str) (a b : List Str) : nums nm (a ++ b) = nums nm a ++ nums nm b := by
  unfold nums
  rw [dirs_app, List.filterMap_append]
theorem keep_ints (os : List (Option Int)) : (os.filter fun o => !decide (oI o = .non)).map oI = (os.filterMap id).map V.int := by
  induction os with
  | nil => rfl
  | cons o r ih =>
    rw [List.filter_cons, List.filterMap_cons]
    cases o with
    | none => exact ih
    | some i =>
      show (some i :: r.filter _).map oI = _
      rw [List.map_cons, ih]
      rfl
theorem at_oI {xs : List (Option Int)} {i : Nat} {x : V} (h : (xs.map oI)[i]? = some x) : i < xs.length ∧ x = oI (xs.getD i none) := by
  rw [List.getElem?_map] at h
  cases e : xs[i]? with
  | none => rw [e] at h; cases h
  | some a =>
    rw [e] at h
    cases h
    have : xs.getD i none = a := by rw [List.getD_eq_getElem?_getD, e]; rfl
    exact ⟨(List.getElem?_eq_some_iff.mp e).1, by rw [this]⟩
theorem inV_strs (z : Str) : ∀ ns : List Str, inV (.str z) (ns.map V.str) = decide (z ∈ ns)
  | [] => rfl
  | n :: r => by
    have ih := inV_strs z r
    unfold inV at ih ⊢
    rw [List.map_cons, List.any_cons, ih]
    by_cases h : z = n
    · subst h
      rw [decide_eq_true (List.mem_cons_self)]
      simp [eqV]
    · have e1 : eqV (.str n) (.str z) = false := by
        show (n == z) = false
        exact beq_eq_false_iff_ne.mpr fun e => h e.symm
      have e2 : decide (z ∈ n :: r) = decide (z ∈ r) := decide_eq_decide.mpr ⟨fun q => (List.mem_cons.mp q).resolve_left h, List.mem_cons_of_mem _⟩
      rw [e2]
      exact (Bool.or_eq_right_iff_imp.mpr fun q => absurd (e1 ▸ q) Bool.false_ne_true)
theorem flatS : ∀ ns : List Str, (ns.map V.str).all flatV = true
  | [] => rfl
  | _ :: r => by rw [List.map_cons, List.all_cons, flatS r]; rfl
end Z
set_option maxHeartbeats 4000000
namespace Z
open PySem PySem.Spec PyProof.Rows L2 TL Evl PySem.Builtin.Str
/-! ### what a text begins with -/
theorem starts_tl (p s : Str) : Txt.startswith p s = decide ((tl p).take (tl s).length = tl s) := by
  unfold Txt.startswith Builtin.Str.subAt
  have hx : (p.cps.extract 0 (0 + s.length) == s.cps) = decide ((tl p).take s.length = tl s) := by
    have e : (p.cps.extract 0 (0 + s.length)).toList = (tl p).take s.length := by simp [tl]
    by_cases h : (tl p).take s.length = tl s
    · rw [decide_eq_true h]
      exact beq_iff_eq.mpr (Array.toList_inj.mp (e.trans h))
    · rw [decide_eq_false h]
      exact beq_eq_false_iff_ne.mpr fun q => h (e.symm.trans (congrArg Array.toList q))
  rw [hx, ← len_tl s]
  by_cases h : (tl p).take s.length = tl s
  · have := congrArg List.length h
    rw [List.length_take, ← len_tl s, ← len_tl p] at this
    rw [decide_eq_true h, decide_eq_true (show 0 + s.length ≤ p.length by omega)]
    rfl
  · rw [decide_eq_false h, Bool.and_false]
theorem starts_own (a x : Str) : Txt.startswith (a ++ x) a = true := by
  rw [starts_tl, tl_append]
  exact decide_eq_true (List.take_left)
theorem rmp_own (a x : Str) : Txt.removeprefix (a ++ x) a = x := by
  have h := starts_own a x
  unfold Txt.startswith at h
  obtain ⟨h1, h2⟩ := Bool.and_eq_true_iff.mp h
  unfold Txt.removeprefix
  rw [if_pos h2]
  show (if ((a ++ x).length - a.length == (a ++ x).length) = true then (a ++ x) else strSub (a ++ x) a.length (a ++ x).length) = x
  have hl : (a ++ x).length = a.length + x.length := Str.length_append ..
  split
  · rename_i q
    have q := beq_iff_eq.mp q
    have h0 : a.length = 0 ∨ x.length = 0 := by omega
    refine ext_tl ?_
    rw [tl_append]
    have z : tl a = [] := by
      apply List.eq_nil_of_length_eq_zero
      rw [← len_tl]
      rw [hl] at q
      omega
    rw [z]
    rfl
  · refine ext_tl ?_
    rw [tl_strSub, tl_append, hl, len_tl a, List.drop_left, Nat.add_sub_cancel_left, len_tl x, List.take_length]
def apart : List Nat → List Nat → Bool
  | x :: a, y :: b => !decide (x = y) || apart a b
  | _, _ => false
theorem apart_no : ∀ {a b : List Nat} (c : List Nat), apart a b = true → ¬ (a ++ c).take b.length = b
  | [], _, _, h, _ => by cases h
  | _ :: _, [], _, h, _ => by cases h
  | x :: a, y :: b, c, h, e => by
    rw [List.cons_append, List.length_cons, List.take_succ_cons] at e
    obtain ⟨e1, e2⟩ := List.cons.inj e
    have h : (!decide (x = y) || apart a b) = true := h
    rw [decide_eq_true e1] at h
    exact apart_no c h e2
theorem starts_apart {a s : Str} (x : Str) (h : apart (tl a) (tl s) = true) : Txt.startswith (a ++ x) s = false := by
  rw [starts_tl, tl_append]
  exact decide_eq_false (apart_no _ h)
theorem nums_own {nm x : Str} {i : Int} (h : numO x = some i) : nums nm [sgn nm ++ x] = [i] := by
  unfold nums dirs
  rw [List.filter_cons, if_pos (starts_own _ _)]
  show (List.filterMap id [numO (Txt.removeprefix (sgn nm ++ x) (sgn nm))]) = _
  rw [rmp_own, h]
  rfl
theorem nums_apart {nm a : Str} (x : Str) (h : apart (tl a) (tl (sgn nm)) = true) : nums nm [a ++ x] = [] := by
  unfold nums dirs
  rw [List.filter_cons, if_neg (by rw [starts_apart x h]; decide)]
  rfl
/-! ### a list of elements, joined and cut -/
structure GoodE (p : Str) : Prop where
  hd : ∃ c, (tl p)[0]? = some c ∧ c ≠ 32
  last : ∀ c, (tl p)[p.length - 1]? = some c → c ≠ 32
  no : 44 ∉ tl p
theorem sp_tl : tl (" " : Str) = [32] := by decide +kernel
theorem cs_tl : tl (", " : Str) = [44, 32] := by decide +kernel
theorem GoodE.strip {p : Str} (h : GoodE p) : Txt.stripChars p " " = p := by
  obtain ⟨c, h1, h2⟩ := h.hd
  refine strip_self (fun d hd => ?_) (fun d hd => ?_)
  · rw [h1] at hd
    rw [sp_tl, ← Option.some.inj hd]
    simpa using h2
  · rw [sp_tl]
    simpa using h.last d hd
theorem GoodE.ne {p : Str} (h : GoodE p) : p ≠ "" := fun e => by
  obtain ⟨c, h1, _⟩ := h.hd
  rw [e] at h1
  have : tl ("" : Str) = [] := tl_empty
  rw [this] at h1
  cases h1
theorem GoodE.strip1 {p : Str} (h : GoodE p) : Txt.stripChars (S' (32 :: tl p)) " " = p := by
  obtain ⟨c, g1, g2⟩ := h.hd
  have hp : 1 ≤ p.length := by
    rw [len_tl]
    have := (List.getElem?_eq_some_iff.mp g1).1
    omega
  generalize hw : S' (32 :: tl p) = w
  have tw : tl w = 32 :: tl p := by rw [← hw]; rfl
  have lw : w.length = p.length + 1 := by rw [len_tl, tw, List.length_cons, ← len_tl]
  have e0 : Txt.stripChars w " " = strSub w (stripLo (" " : Str).cps.contains true w) (stripHi (" " : Str).cps.contains true w (stripLo (" " : Str).cps.contains true w)) := stripBy_eq _ _ _ _
  obtain ⟨l1, l2, l3⟩ := lo_facts (" " : Str).cps.contains w
  obtain ⟨a1, a2, a3, a4⟩ := hi_facts (" " : Str).cps.contains w _ l1
  generalize hlo : stripLo (" " : Str).cps.contains true w = lo at *
  generalize hhi : stripHi (" " : Str).cps.contains true w lo = hi at *
  have at' : ∀ k, k < w.length → (tl w)[k]? = some (w.cps.getD k 0) := fun k hk => getD_tl hk
  have ct : ∀ k, (" " : Str).cps.contains (w.cps.getD k 0) = decide (w.cps.getD k 0 = 32) := fun k => by
    rw [contains_mem, sp_tl]
    exact decide_eq_decide.mpr (by simp)
  have w0 : w.cps.getD 0 0 = 32 := by
    have := at' 0 (by omega)
    rw [tw] at this
    exact (Option.some.inj this).symm
  have w1 : w.cps.getD 1 0 = c := by
    have := at' 1 (by omega)
    rw [tw, List.getElem?_cons_succ, g1] at this
    exact (Option.some.inj this).symm
  have z1 : lo = 1 := by
    rcases Nat.lt_or_ge lo 1 with h0 | h0
    · have : lo = 0 := by omega
      rcases l3 with q | q
      · omega
      · rw [this, ct, w0] at q
        exact absurd q (by decide)
    · rcases Nat.lt_or_ge 1 lo with h1 | h1
      · have := l2 1 h1
        rw [ct, w1] at this
        exact absurd (of_decide_eq_true this) g2
      · omega
  have z2 : hi = w.length := by
    by_cases q : hi = w.length
    · exact q
    · have k := a3 (w.length - 1) (by omega) (by omega)
      rw [ct] at k
      have k2 := at' (w.length - 1) (by omega)
      rw [of_decide_eq_true k, tw, lw, show p.length + 1 - 1 = (p.length - 1) + 1 by omega, List.getElem?_cons_succ] at k2
      exact absurd rfl (h.last 32 k2)
  refine ext_tl ?_
  rw [e0, tl_strSub, z1, z2, tw, lw]
  show ((tl p).take (p.length + 1 - 1)) = tl p
  rw [Nat.add_sub_cancel, len_tl, List.take_length]
theorem glue_tl (sep : Str) : ∀ (r : List Str) (acc : Array Nat), (r.foldl (fun (acc : Array Nat) (p : Str) => acc ++ sep.cps ++ p.cps) acc).toList = acc.toList ++ r.flatMap fun q => tl sep ++ tl q
  | [], acc => by simp
  | p :: r, acc => by
    rw [List.foldl_cons, glue_tl sep r, List.flatMap_cons]
    simp [tl, List.append_assoc]
theorem join_tl (sep p : Str) (r : List Str) : tl (Txt.join sep (p :: r)) = tl p ++ r.flatMap fun q => tl sep ++ tl q := glue_tl sep r p.cps
theorem splC_app : ∀ (a acc l : List Nat), 44 ∉ a → splC acc (a ++ l) = splC (acc ++ a) l
  | [], acc, l, _ => by rw [List.append_nil]; rfl
  | c :: r, acc, l, h => by
    have hc : c ≠ 44 := fun e => h (by rw [e]; exact List.mem_cons_self)
    show (if c = 44 then acc :: splC [] (r ++ l) else splC (acc ++ [c]) (r ++ l)) = _
    rw [if_neg hc, splC_app r (acc ++ [c]) l fun q => h (List.mem_cons_of_mem _ q), List.append_assoc]
    rfl
theorem splC_joined : ∀ (r : List Str) (acc : List Nat), (∀ q ∈ r, 44 ∉ tl q) → splC acc (r.flatMap fun q => [44, 32] ++ tl q) = acc :: r.map fun q => 32 :: tl q
  | [], acc, _ => rfl
  | q :: r, acc, h => by
    rw [List.flatMap_cons, List.map_cons]
    show (if (44 : Nat) = 44 then acc :: splC [] (32 :: (tl q ++ r.flatMap fun q => [44, 32] ++ tl q)) else _) = _
    rw [if_pos rfl]
    have e := splC_app (32 :: tl q) [] (r.flatMap fun q => [44, 32] ++ tl q) fun z => by
      rcases List.mem_cons.mp z with z | z
      · cases z
      · exact h q List.mem_cons_self z
    rw [List.cons_append] at e
    rw [e, List.nil_append, splC_joined r _ fun x hx => h x (List.mem_cons_of_mem _ hx)]
theorem elems_join {ps : List Str} (h : ∀ p ∈ ps, GoodE p) : elems (Txt.join ", " ps) = ps := by
  cases ps with
  | nil => decide +kernel
  | cons p r =>
    unfold elems stripped
    rw [split_eq, join_tl, cs_tl]
    have hp := h p List.mem_cons_self
    rw [splC_app _ _ _ hp.no, List.nil_append, splC_joined r _ fun q hq => (h q (List.mem_cons_of_mem _ hq)).no]
    have e1 : (((tl p :: r.map fun q => 32 :: tl q).map S').map fun q => Txt.stripChars q " ") = p :: r := by
      rw [List.map_cons, List.map_cons, S'_tl, hp.strip, List.map_map, List.map_map]
      congr 1
      refine (List.map_congr_left fun q hq => ?_).trans (List.map_id r)
      exact (h q (List.mem_cons_of_mem _ hq)).strip1
    rw [e1]
    exact List.filter_eq_self.mpr fun q hq => by rw [decide_eq_false (h q hq).ne]; rfl
/-- texts of letters, digits, signs other than the space and the comma -/
theorem goodE_of {p : Str} (h1 : 1 ≤ p.length) (h : ∀ c ∈ tl p, c ≠ 32 ∧ c ≠ 44) : GoodE p := by
  rw [len_tl] at h1
  refine ⟨?_, fun c hc => (h c (List.mem_of_getElem? hc)).1, fun q => (h 44 q).2 rfl⟩
  cases e : tl p with
  | nil => rw [e] at h1; exact absurd h1 (by decide)
  | cons c r => exact ⟨c, rfl, (h c (by rw [e]; exact List.mem_cons_self)).1⟩
def goodB (p : Str) : Bool := decide (1 ≤ p.length) && (tl p).all fun c => !decide (c = 32) && !decide (c = 44)
theorem goodE_b {p : Str} (h : goodB p = true) : GoodE p := by
  unfold goodB at h
  rw [Bool.and_eq_true, decide_eq_true_eq, List.all_eq_true] at h
  exact goodE_of h.1 fun c hc => by
    have := h.2 c hc
    simp only [Bool.and_eq_true, Bool.not_eq_true', decide_eq_false_iff_not] at this
    exact this
theorem goodE_num {a : Str} {i : Int} (h : goodB a = true) (h0 : 0 ≤ i) (h1 : i ≤ 999999) : GoodE (a ++ PySem.Str.ofString (toString i)) := by
  unfold goodB at h
  rw [Bool.and_eq_true, decide_eq_true_eq, List.all_eq_true] at h
  refine goodE_of (by rw [Str.length_append]; omega) fun c hc => ?_
  rw [tl_append] at hc
  rcases List.mem_append.mp hc with hc | hc
  · have := h.2 c hc
    simp only [Bool.and_eq_true, Bool.not_eq_true', decide_eq_false_iff_not] at this
    exact this
  · have := num_digs h0 h1 c hc
    omega
end Z
set_option maxHeartbeats 4000000
namespace Z
open PySem PySem.Spec PyProof.Rows L2 TL Evl
section
variable {σ : L2.St} {H : Hp} {ta tr : TA} {te tb tv : TE} {D : Ends} {C : Addr} {sp : Sp} {dvs xs vs zs : List V} {E : XK} {Q : VK} {x y z v : V} {t tz : TS} {g : TG} {K : PySem.W.Frag} {f : Str} {i : Nat} {R : List V → Hp → Prop}
theorem q_in (h : t { D with nx := tz D } σ H) : tSeq t tz D σ H := h
theorem g_asg (h : te σ H fun v H1 => g v σ H1 D.nx) : tAsg te g D σ H := h
theorem g_ret (h : te σ H fun v H1 => D.rt v H1) : tRet te D σ H := h
theorem g_fld (h : tv σ H fun y H1 => sFld K tb (tC y) f D σ H1) : sFld K tb tv f D σ H := h
theorem g_drop (h : te σ H fun _ H1 => D.nx σ H1) : tDrop te D σ H := h
theorem q_asgR (h : te σ H fun v H1 => tz D (σ.set i (some v)) H1) : tSeq (tAsg te (gName i)) tz D σ H := h
theorem s_asgR (h : te σ H fun v H1 => D.nx (σ.set i (some v)) H1) : tAsg te (gName i) D σ H := h
theorem rd_mk (h : ta σ H fun vs H1 => ∀ x dx, H1 x = none → H1 dx = none → dx ≠ x → sp (.ref x :: (vs ++ dvs)) (upd (upd H1 dx (.own x)) x (.ins C dx [])) (fun v H2 => v = .non ∧ Q (.ref x) H2) E) : tMake C sp dvs E ta σ H Q := h
theorem rd_tup (h : ta σ H fun vs H1 => vs.length ≤ sizeLine ∧ ∀ p, H1 p = none → Q (.ref p) (upd H1 p (.tup vs))) : tTup ta σ H Q := h
theorem rd_lst (h : ta σ H fun vs H1 => vs.length ≤ sizeLine ∧ ∀ p, H1 p = none → Q (.ref p) (upd H1 p (.lst vs))) : tLst ta σ H Q := h
theorem rd_consE (h : Ev te σ H x) (k : ∀ H1, Ex H H1 → tr σ H1 fun ys H2 => R (x :: ys) H2) : tCons te tr σ H R := h H (Ex.refl H) _ k
theorem rd_consR (h : te σ H fun x H1 => tr σ H1 fun ys H2 => R (x :: ys) H2) : tCons te tr σ H R := h
theorem rd_consLs (h : EvL te σ H xs) (k : ∀ p H1, H p = none → Ex H H1 → H1 p = some (.lst xs) → tr σ H1 fun ys H2 => R (.ref p :: ys) H2) : tCons te tr σ H R := h H (Ex.refl H) _ k
theorem rd_nil (h : R [] H) : tNil σ H R := h
theorem rd_arg2 (h : te σ H fun x H1 => tb σ H1 fun y H2 => sp [x, y] H2 Q E) : tCall sp [] E (tCons te (tCons tb tNil)) σ H Q := h
/-- a + b of lists, one new, one new -/
theorem el_catLL (ha : EvL te σ H xs) (hb : EvL tb σ H zs) (hz : xs.length + zs.length ≤ 100000) : EvL (tOp rCat te tb) σ H (xs ++ zs) := fun H1 e Q q =>
  ha H1 e _ fun a H2 na e2 h2 => hb H2 (e.trans e2) _ fun b H3 nb e3 h3 => ⟨a, b, xs, zs, rfl, rfl, e3 _ _ h2, h3, sz_of hz, fun p np => q p _ (fresh_back (e2.trans e3) np) ((e2.trans e3).trans (Ex.new np)) upd_same⟩
theorem el_catEL {l : Addr} (ha : Ev te σ H (.ref l)) (hb : EvL tb σ H zs) (hl : H l = some (.lst xs)) (hz : xs.length + zs.length ≤ 100000) : EvL (tOp rCat te tb) σ H (xs ++ zs) := fun H1 e Q q =>
  ha H1 e _ fun H2 e2 => hb H2 (e.trans e2) _ fun b H3 nb e3 h3 => ⟨l, b, xs, zs, rfl, rfl, ((e.trans e2).trans e3) _ _ hl, h3, sz_of hz, fun p np => q p _ (fresh_back (e2.trans e3) np) ((e2.trans e3).trans (Ex.new np)) upd_same⟩
theorem el_slN {tlo thi : TO} {lo hi : Option Int} (h : EvL te σ H xs) (h1 : EvO tlo σ H lo) (h2 : EvO thi σ H hi) : EvL (tSl (rSlL K) te tlo thi) σ H (cutV xs lo hi) := fun H1 e Q q =>
  h H1 e _ fun a H2 na e2 ha => h1 H2 (e.trans e2) _ fun H3 e3 => h2 H3 ((e.trans e2).trans e3) _ fun H4 e4 => ⟨a, xs, rfl, sq_of ((e3.trans e4) _ _ ha), fun p np => q p _ (fresh_back ((e2.trans e3).trans e4) np) (((e2.trans e3).trans e4).trans (Ex.new np)) upd_same⟩
/-- sum(xs), xs new -/
theorem ev_sumN {ns : List Int} (h : EvL te σ H (ns.map V.int)) : Ev (tCB (rSum K) (tCons te tNil)) σ H (.int ns.sum) := fun H1 e Q q =>
  h H1 e _ fun a H2 na e2 ha => ⟨a, ns, rfl, sq_of ha, q H2 e2⟩
def EvX (te : TE) (σ : L2.St) (H : Hp) (P : V → Hp → Prop) : Prop := ∀ H1, Ex H H1 → ∀ Q : VK, (∀ v H2, Ex H1 H2 → P v H2 → Q v H2) → te σ H1 Q
end
def absI (i : Int) : Int := if i < 0 then -i else i
def rAbs : List V → Hp → VK → Prop := fun xs H Q => ∃ i, xs = [.int i] ∧ Q (.int (if i < 0 then -i else i)) H
theorem cz_abs {X : Cx} : CallR X (.builtin "abs") rAbs := call_abs
theorem ev_abs {te : TE} {σ : L2.St} {H : Hp} {i : Int} (h : Ev te σ H (.int i)) : Ev (tCB rAbs (tCons te tNil)) σ H (.int (absI i)) := fun H1 e Q q => h H1 e _ fun H2 e2 => ⟨i, rfl, q H2 e2⟩
theorem cutV_take {xs : List V} {n : Nat} : cutV xs none (some (n : Int)) = xs.take n := by
  unfold cutV
  rw [HT.sIx_none, List.drop_zero, Nat.sub_zero, HT.sIx_nat]
  rcases Nat.le_total n xs.length with h | h
  · rw [Nat.min_eq_left h]
  · rw [Nat.min_eq_right h, List.take_length, List.take_of_length_le h]
theorem at_intE {xs : List Int} {i : Nat} {x : V} (h : (xs.map V.int)[i]? = some x) : i < xs.length ∧ x = .int (xs.getD i 0) := by
  rw [List.getElem?_map] at h
  cases e : xs[i]? with
  | none => rw [e] at h; cases h
  | some a =>
    rw [e] at h
    cases h
    have : xs.getD i 0 = a := by rw [List.getD_eq_getElem?_getD, e]; rfl
    exact ⟨(List.getElem?_eq_some_iff.mp e).1, by rw [this]⟩
theorem rel_cons {α : Type} {R : V → α → Prop} {x : V} {o : α} {xs : List V} {os : List α} (r : R x o) (h : Rel R xs os) : Rel R (x :: xs) (o :: os) := ⟨by rw [List.length_cons, List.length_cons, h.1], fun i y u a b => by
  cases i with
  | zero =>
    cases a
    cases b
    exact r
  | succ i => exact h.2 i y u a b⟩
end Z
set_option maxHeartbeats 4000000
namespace Z
open PySem PySem.Spec PyProof.Rows L2 TL Evl
theorem putF_new {f : Str} {v : V} : ∀ {gs : List (Str × V)}, gs.lookup f = none → putF f v gs = gs ++ [(f, v)]
  | [], _ => rfl
  | (g, x) :: r, h => by
    have hg : ¬ g = f := fun e => by
      rw [e, List.lookup_cons, beq_self_eq_true] at h
      cases h
    have hr : r.lookup f = none := by
      rw [List.lookup_cons] at h
      have : (f == g) = false := beq_eq_false_iff_ne.mpr fun e => hg e.symm
      rw [this] at h
      exact h
    show (if g = f then (g, v) :: r else (g, x) :: putF f v r) = _
    rw [if_neg hg, putF_new hr]
    rfl
/-- an own object that is being made: what stood before stands, and J holds of the rest -/
structure OwnI (C a dx : Addr) (J : Hp → Prop) (gs : List (Str × V)) (H0 H : Hp) : Prop where
  kp : Keep a H0 H
  ha : H a = some (.ins C dx gs)
  j : J H
/-- J speaks of what making the object leaves alone -/
structure Stay (C a dx : Addr) (J : Hp → Prop) : Prop where
  ex : ∀ {H H' : Hp}, J H → Ex H H' → J H'
  up : ∀ {H : Hp} {gs gs' : List (Str × V)}, J H → H a = some (.ins C dx gs) → J (upd H a (.ins C dx gs'))
theorem OwnI.e {C a dx : Addr} {J : Hp → Prop} {gs : List (Str × V)} {H0 H H' : Hp} (S : Stay C a dx J) (h : OwnI C a dx J gs H0 H) (e : Ex H H') : OwnI C a dx J gs H0 H' := ⟨h.kp.trans (Keep.of e), e _ _ h.ha, S.ex h.j e⟩
theorem OwnI.put {C a dx : Addr} {J : Hp → Prop} {gs gs' : List (Str × V)} {H0 H : Hp} (S : Stay C a dx J) (h : OwnI C a dx J gs H0 H) : OwnI C a dx J gs' H0 (upd H a (.ins C dx gs')) := ⟨h.kp.upd, upd_same, S.up h.j h.ha⟩
section
variable {K : PySem.W.Frag} {C a dx : Addr} {J : Hp → Prop} {gs fs : List (Str × V)} {H0 H : Hp} {te tb : TE} {σ : L2.St} {v : V} {f : Str} {D : Ends} {tz : TS} {o : Option Int}
theorem q_fldS (S : Stay C a dx J) (I : OwnI C a dx J gs H0 H) (c : Cls K C) (n : NoAttr K C f) (hs : σ[0]? = some (some (.ref a))) (h : Ev te σ H v) (k : ∀ H', OwnI C a dx J (gs ++ [(f, v)]) H0 H' → tz D σ H') (hf : gs.lookup f = none := by rfl) (hl : gs.length < 1000 := by simp) : tSeq (sFld K (tVar 0) te f) tz D σ H :=
  h H (Ex.refl H) _ fun H1 e1 => ⟨.ref a, hs, a, C, dx, gs, rfl, (I.e S e1).ha, c, n, hl, k _ (by rw [putF_new hf]; exact (I.e S e1).put S)⟩
theorem s_fldS (S : Stay C a dx J) (I : OwnI C a dx J gs H0 H) (c : Cls K C) (n : NoAttr K C f) (hs : σ[0]? = some (some (.ref a))) (h : Ev te σ H v) (k : ∀ H', OwnI C a dx J (gs ++ [(f, v)]) H0 H' → D.nx σ H') (hf : gs.lookup f = none := by rfl) (hl : gs.length < 1000 := by simp) : sFld K (tVar 0) te f D σ H :=
  h H (Ex.refl H) _ fun H1 e1 => ⟨.ref a, hs, a, C, dx, gs, rfl, (I.e S e1).ha, c, n, hl, k _ (by rw [putF_new hf]; exact (I.e S e1).put S)⟩
theorem ev_fldO (c : Cls K C) (n : NoAttr K C f) (h : Ev te σ H (.ref a)) (ha : H a = some (.ins C dx fs)) (hl : fs.lookup f = some v) : Ev (tFld K te f) σ H v := fun H1 e Q q => h H1 e _ fun H2 e2 => ⟨a, C, dx, fs, v, rfl, e2 _ _ (e _ _ ha), c, n, hl, q H2 e2⟩
/-- x or 0, x an int or None -/
theorem ev_or0 (h : Ev te σ H (oI o)) : Ev (tOrT K te (tC (.int 0))) σ H (.int (o.getD 0)) := fun H1 e Q q => h H1 e _ fun H2 e2 => by
  cases o with
  | none => exact ⟨false, rfl, iteF (q H2 e2)⟩
  | some i =>
    by_cases hi : i = 0
    · subst hi
      exact ⟨false, rfl, iteF (q H2 e2)⟩
    · exact ⟨true, (bne_iff_ne.mpr hi).symm, iteT (q H2 e2)⟩
/-- max of several ints -/
def maxL : List Int → Int
  | [] => 0
  | [x] => x
  | x :: r => if maxL r > x then maxL r else x
theorem maxL_is : ∀ {ns : List Int} {m : Int}, m ∈ ns → (∀ y ∈ ns, y ≤ m) → maxL ns = m
  | [x], m, h, _ => (List.mem_singleton.mp h).symm
  | x :: y :: r, m, h, hm => by
    show (if maxL (y :: r) > x then maxL (y :: r) else x) = m
    have hx := hm x List.mem_cons_self
    rcases List.mem_cons.mp h with rfl | h
    · have h2 : maxL (y :: r) ≤ m := maxL_le fun z hz => hm z (List.mem_cons_of_mem _ hz)
      rw [if_neg (by omega)]
    · rw [maxL_is h fun z hz => hm z (List.mem_cons_of_mem _ hz)]
      by_cases e : m > x
      · rw [if_pos e]
      · rw [if_neg e]
        omega
where
  maxL_le : ∀ {ns : List Int} {x : Int} {m : Int}, (∀ z ∈ x :: ns, z ≤ m) → maxL (x :: ns) ≤ m
  | [], x, m, h => h x List.mem_cons_self
  | y :: r, x, m, h => by
    show (if maxL (y :: r) > x then maxL (y :: r) else x) ≤ m
    have h1 := h x List.mem_cons_self
    have h2 : maxL (y :: r) ≤ m := maxL_le fun z hz => h z (List.mem_cons_of_mem _ hz)
    by_cases e : maxL (y :: r) > x
    · rw [if_pos e]; exact h2
    · rw [if_neg e]; exact h1
theorem ev_maxs {ta : TA} {ns : List Int} (h : EvA ta σ H (ns.map V.int)) (h2 : 2 ≤ ns.length) (h3 : ns.length ≤ 1000) : Ev (tCB ZX.rMaxs ta) σ H (.int (maxL ns)) := fun H1 e Q q => h H1 e _ fun H2 e2 => ⟨ns, rfl, h2, h3, fun m a b => by
  have g := q H2 e2
  rw [maxL_is a b] at g
  exact g⟩
end
end Z
set_option maxHeartbeats 4000000
namespace ZX
open PySem PySem.Spec PyProof.Rows L2 He
/-! ### a def with keyword-only defaults, off the head -/
theorem DefA.funK {K : PySem.W.Frag} {d : DefA} {kws : List (Str × V)} (e : fnC K (d.at_.ad K) = d.val) (c : d.ok K = true) (hc : d.clo = []) (hk : kwdB K (kwOf K (d.at_.ad K)) kws = true) : ∃ fd, FunD K d.name d.qual d.params d.body d.scope (d.dvs K) kws (d.at_.ad K) fd := by
  obtain ⟨kp, oc, od, osl, fd, q, k1, k2, h1, h2, h3, h4, h5, h6, h7, h8⟩ := d.parts e c
  have hk2 : kwdB K fd.kwdefaults kws = true := by
    have : kwOf K (d.at_.ad K) = fd.kwdefaults := by unfold kwOf; rw [q]
    rw [← this]
    exact hk
  obtain ⟨n1, n2, n3, n4, n5, n6, n7, n8, n9, n10, n11, n12, n13, n14, n15⟩ := fd
  dsimp only at h1 h2 h3 h4 h5 h6 h7 h8 k1 k2 hk2
  rw [hc] at h7
  have h7 := List.map_eq_nil_iff.mp h7
  subst h1 h2 h3 h4 h5 h6 h7 h8
  exact ⟨_, ⟨oc, od, n8, n9, n10, n11, n12, n13, n14, osl, rfl, q, k1, k2, kwdB_ok hk2⟩, kp⟩
end ZX
set_option maxHeartbeats 4000000
namespace Z
open PySem PySem.Spec PyProof.Rows L2 TL Evl
/-! ### for k in range(e), e with what it does -/
def ForQ (tu tz : TS) (j : Nat) (D : Ends) (σ : L2.St) : VK := fun v H1 => ∃ i : Int, [v] = [V.int i] ∧ -(2 ^ 62) ≤ i ∧ i < 2 ^ 62 ∧ ∃ W : Nat → Nat → L2.St → Hp → Prop, (∃ m, W 0 m σ H1) ∧ ∀ k m σ H, W k m σ H →
  ((Itr 0 i.toNat).stop k H ∧ tz D σ H) ∨ ((Itr 0 i.toNat).go k H ∧ ∃ N : L2.St → Hp → Prop, (∀ σ' H', N σ' H' → ∃ m', m' < m ∧ W (k + 1) m' σ' H') ∧ ∀ x H', (Itr 0 i.toNat).yld k H x H' → gName j x σ H' fun σ2 H2 => tu { D with nx := N, ct := N, bk := tz D } σ2 H2)
theorem q_forQ {te : TE} {tu tz : TS} {j : Nat} {D : Ends} {σ : L2.St} {H : Hp} (h : te σ H (ForQ tu tz j D σ)) : tSeq (tFor (iRng1 (tCons te tNil)) (gName j) tu) tz D σ H := h
theorem forQ_of {tu tz : TS} {j : Nat} {D : Ends} {σ : L2.St} {H : Hp} {n : Int} (hn : 0 ≤ n ∧ n ≤ 100000) (Pv : Nat → L2.St → Hp → Prop) (h0 : Pv 0 σ H)
    (hs : ∀ (i : Nat) σ' H', (i : Int) < n → Pv i σ' H' → tu { D with nx := Pv (i + 1), ct := Pv (i + 1), bk := tz D } (σ'.set j (some (.int (i : Int)))) H') (hd : ∀ σ' H', Pv n.toNat σ' H' → tz D σ' H') : ForQ tu tz j D σ (.int n) H :=
  ⟨n, rfl, by omega, by omega, for_range (D := { D with nx := tz D }) (lo := 0) (n := n.toNat) Pv h0 (fun i σ' H' hi p => by
    have e0 : (0 : Int) + (i : Int) = (i : Int) := Int.zero_add _
    show tu { D with nx := Pv (i + 1), ct := Pv (i + 1), bk := tz D } (σ'.set j (some (.int ((0 : Int) + (i : Int))))) H'
    rw [e0]
    exact hs i σ' H' (by omega) p) hd⟩
/-! ### pieces of a directives' text -/
theorem opt_swap {a b : List Int} {o : Option Int} (h : a ++ b = o.toList) : b ++ a = o.toList := by
  cases o with
  | none =>
    have h : a ++ b = [] := h
    obtain ⟨rfl, rfl⟩ := List.append_eq_nil_iff.mp h
    rfl
  | some i =>
    have h : a ++ b = [i] := h
    cases a with
    | nil => rw [List.append_nil]; exact h
    | cons x r =>
      rw [List.cons_append] at h
      obtain ⟨rfl, h2⟩ := List.cons.inj h
      obtain ⟨rfl, rfl⟩ := List.append_eq_nil_iff.mp h2
      rfl
theorem nums_rot {nm : Str} {ps : List Str} {o : Option Int} (t : Nat) (h : nums nm ps = o.toList) : nums nm (ps.drop t ++ ps.take t) = o.toList := by
  rw [nums_app]
  refine opt_swap ?_
  rw [← nums_app, List.take_append_drop]
  exact h
theorem mem_rot {x : Str} {ps : List Str} (t : Nat) : (x ∈ ps.drop t ++ ps.take t) ↔ x ∈ ps := by
  rw [List.mem_append]
  constructor
  · rintro (h | h)
    · exact List.mem_of_mem_drop h
    · exact List.mem_of_mem_take h
  · intro h
    rw [← List.take_append_drop t ps, List.mem_append] at h
    exact h.symm
theorem minL_opt (o : Option Int) : minL o.toList = o := by cases o <;> rfl
theorem joined_len {ps : List Str} {k : Nat} (h : ∀ p ∈ ps, p.length ≤ k) : (Txt.join ", " ps).length ≤ ps.length * (k + 2) := by
  cases ps with
  | nil => exact Nat.zero_le _
  | cons p r =>
    rw [len_tl, join_tl, cs_tl, List.length_append, ← len_tl]
    have hp := h p List.mem_cons_self
    have hr : ∀ r : List Str, (∀ q ∈ r, q.length ≤ k) → (r.flatMap fun q => [44, 32] ++ tl q).length ≤ r.length * (k + 2) := by
      intro r
      induction r with
      | nil => intro _; exact Nat.zero_le _
      | cons q t ih =>
        intro hq
        rw [List.flatMap_cons, List.length_append, List.length_append, ← len_tl, show (q :: t).length * (k + 2) = t.length * (k + 2) + (k + 2) from Nat.succ_mul _ _]
        have h1 := hq q List.mem_cons_self
        have h2 := ih fun z hz => hq z (List.mem_cons_of_mem _ hz)
        show 2 + q.length + _ ≤ _
        omega
    have h3 := hr r fun q hq => h q (List.mem_cons_of_mem _ hq)
    rw [show (p :: r).length * (k + 2) = r.length * (k + 2) + (k + 2) from Nat.succ_mul _ _]
    omega
theorem cutV_drop {xs : List V} {n : Nat} : cutV xs (some (n : Int)) none = xs.drop n := by
  unfold cutV
  rw [HT.sIx_none, HT.sIx_nat]
  rcases Nat.le_total n xs.length with h | h
  · rw [Nat.min_eq_left h, List.take_of_length_le (by rw [List.length_drop]; exact Nat.le_refl _)]
  · rw [Nat.min_eq_right h, List.drop_eq_nil_of_le h, List.drop_length, List.take_nil]
theorem join_nil : Txt.join ", " [] = ("" : Str) := by decide +kernel
end Z
set_option maxHeartbeats 4000000
namespace Z
open PySem PySem.Spec PyProof.Rows L2 TL Evl NdefX
/-! ### f-strings, messages' fields (no row) -/
def EvJ (σ : L2.St) (H : Hp) : List TE → List Str → Prop
  | [], [] => True
  | t :: ts, z :: zs => Ev t σ H (.str z) ∧ EvJ σ H ts zs
  | _, _ => False
theorem ej_nil {σ : L2.St} {H : Hp} : EvJ σ H [] [] := trivial
theorem ej_cons {σ : L2.St} {H : Hp} {t : TE} {ts : List TE} {z : Str} {zs : List Str} (h : Ev t σ H (.str z)) (r : EvJ σ H ts zs) : EvJ σ H (t :: ts) (z :: zs) := ⟨h, r⟩
theorem tjs_run {σ : L2.St} {H : Hp} : ∀ (ts : List TE) (zs : List Str) (acc : Str) (H1 : Hp) (Q : Str → Hp → Prop), EvJ σ H ts zs → Ex H H1 → acc.length + (zs.map (·.length)).sum ≤ 200000 → (∀ H2, Ex H1 H2 → Q (zs.foldl (· ++ ·) acc) H2) → tJs ts acc σ H1 Q
  | [], [], acc, H1, Q, _, _, _, q => q H1 (Ex.refl H1)
  | [], z :: zs, acc, H1, Q, h, _, _, q => h.elim
  | t :: ts, [], acc, H1, Q, h, _, _, q => h.elim
  | t :: ts, z :: zs, acc, H1, Q, h, e, hz, q => by
    rw [List.map_cons, List.sum_cons] at hz
    refine h.1 H1 e _ fun H2 e2 => ⟨z, rfl, Nat.le_trans (show (acc ++ z).length ≤ 200000 by rw [Str.length_append]; omega) (by decide), ?_⟩
    exact tjs_run ts zs (acc ++ z) H2 Q h.2 (e.trans e2) (by rw [Str.length_append]; omega) fun H3 e3 => q H3 (e2.trans e3)
theorem ev_joined {σ : L2.St} {H : Hp} {ts : List TE} {zs : List Str} {x : Str} (h : EvJ σ H ts zs) (hz : (zs.map (·.length)).sum ≤ 200000) (hx : zs.foldl (· ++ ·) Str.empty = x) : Ev (fun σ H Q => tJs ts Str.empty σ H fun out H1 => Q (.str out) H1) σ H (.str x) := fun H1 e Q q => by
  refine tjs_run ts zs Str.empty H1 (fun out H1 => Q (.str out) H1) h e ?_ ?_
  · show 0 + _ ≤ _
    rw [Nat.zero_add]
    exact hz
  · rw [hx]
    exact q
theorem rd_joined {σ : L2.St} {H : Hp} {ts : List TE} {Q : Str → Hp → Prop} (zs : List Str) (h : EvJ σ H ts zs) (hz : (zs.map (·.length)).sum ≤ 200000) (k : ∀ H1, Ex H H1 → Q (zs.foldl (· ++ ·) Str.empty) H1) : tJs ts Str.empty σ H Q :=
  tjs_run ts zs Str.empty H Q h (Ex.refl H) (by
    show 0 + _ ≤ _
    rw [Nat.zero_add]
    exact hz) k
theorem ev_fmt {σ : L2.St} {H : Hp} {te : TE} {z : Str} (h : Ev te σ H (.str z)) (hz : z.length ≤ 100000) : Ev (tFmt te) σ H (.str z) := fun H1 e Q q => h H1 e _ fun H2 e2 => .inl ⟨z, rfl, sz_of hz, q H2 e2⟩
abbrev Fs := List (Str × Str)
def PfAt (H : Hp) (v : V) (x : Str × Str) : Prop := TupAt H v [.str x.1, .str x.2]
def FsAt (H : Hp) (q : Addr) (fs : Fs) : Prop := ∃ xs, H q = some (.lst xs) ∧ Rel (PfAt H) xs fs
theorem FsAt.ex {H H' : Hp} {q : Addr} {fs : Fs} (h : FsAt H q fs) (e : Ex H H') : FsAt H' q fs := by
  obtain ⟨xs, h1, h2⟩ := h
  exact ⟨xs, e _ _ h1, h2.mono fun _ _ m => TupAt.ex m e⟩
theorem FsAt.keep {p q : Addr} {H H' : Hp} {fs : Fs} (h : FsAt H q fs) (k : Keep p H H') (hp : ∃ xs, H p = some (.lst xs)) (n : q ≠ p) : FsAt H' q fs := by
  obtain ⟨xs, h1, h2⟩ := h
  exact ⟨xs, k _ _ n h1, h2.mono fun _ _ m => TupAt.keep m k hp⟩
def fieldB (x : Str × Str) : Bool := nameB x.1 && valueB x.2
def lenF (fs : Fs) : Prop := ∀ x ∈ fs, x.1.length ≤ 100000 ∧ x.2.length ≤ 100000
def areB (fs : Fs) : Bool := decide (fs.length ≤ 40) && fs.all fieldB
def bodyB (z : Str) : Bool := decide ((z.length : Int) ≤ 100000) && linesB z
section
variable {K : PySem.W.Frag} {σ : L2.St} {H : Hp} {to te : TE} {B C : Addr} {f z : Str} {v : V} {u mc : Value} {a : Str}
theorem ev_cval (h : Ev te σ H (.ref C)) (r : ClX.CRead K C mc) (k : ClX.CVal K C mc f v u) : Ev (ClX.tCVal K te f) σ H v := fun H1 e Q q => h H1 e _ fun H2 e2 => ⟨C, mc, v, u, rfl, r, k, q H2 e2⟩
end
section
variable {K : PySem.W.Frag} {σ : L2.St} {H : Hp} {to te : TE} {B C : Addr} {f z : Str} {v : V} {u mc : Value} {a : Str}
theorem ev_replC (h : Ev to σ H (.str a)) (hz : a.length ≤ 100000) : Ev (CwR.tReplC to "\n" "") σ H (.str (Txt.replace a "\n" "")) := fun H1 e Q q => h H1 e _ fun H2 e2 => ⟨a, rfl, by
  have : ("" : Str).length = 0 := by decide +kernel
  rw [this]
  omega, q H2 e2⟩
end
theorem repl_len (z : Str) : (Txt.replace z "\n" "").length ≤ z.length := by
  rw [← len_tl', ← len_tl', replace_nl]
  exact List.length_filter_le _ _
theorem rel_bl {ys : List V} {bs : List Bool} (h : Rel (fun v b => v = V.bl b) ys bs) : ys = bs.map V.bl := by
  refine List.ext_getElem (by rw [h.1, List.length_map]) fun i h1 h2 => ?_
  rw [List.getElem_map]
  rw [List.length_map] at h2
  exact h.2 i _ _ (List.getElem?_eq_getElem h1) (List.getElem?_eq_getElem h2)
/-- all([.. for .. in fields]) -/
theorem all_ev {K : PySem.W.Frag} {σ : L2.St} {H : Hp} {te tl : TE} {g : TG} {l : Addr} {vs : List V} {os : Fs} {gB : Str × Str → Bool} {ws : List Nat} (hv : Ev tl σ H (.ref l)) (hl : H l = some (.lst vs)) (hrel : Rel (PfAt H) vs os) (hz : os.length ≤ 40000)
    (hs : ∀ (x : V) (o : Str × Str) H1, o ∈ os → Ex H H1 → PfAt H1 x o → ∀ (k : VK), (∀ H2, Ex H1 H2 → k (.bl (gB o)) H2) → g x (wipe σ ws) H1 fun σ2 H2 => wipe σ2 ws = wipe σ ws ∧ te σ2 H2 k) : Ev (tCB (L2.rAll K) (tCons (tLc (iList K tl) g tYes te ws) tNil)) σ H (.bl (os.all gB)) := fun H1 e Q q =>
  hv H1 e _ fun H2 e2 => ⟨l, rfl, ⟨vs, sq_of ((e.trans e2) _ _ hl)⟩, fun D hD => lc_rel (α := Bool) (fun i => (os.take i).map gB) (fun _ v b => v = .bl b) (fun _ _ _ _ _ _ h => h) (sq_of ((e.trans e2) _ _ hl)) hD rfl (by rw [hrel.1]; omega) (fun i x H3 hi e3 k k0 hk _ => by
    obtain ⟨o, ho, hxo⟩ := hrel.get hi
    have e03 := (e.trans e2).trans e3
    refine hs x o H3 (List.mem_of_getElem? ho) e03 (TupAt.ex hxo e03) k fun H4 e4 => hk _ H4 _ e4 ?_ rfl
    show (os.take (i + 1)).map gB = _
    rw [List.take_add_one, ho, List.map_append]
    rfl) (fun H3 ys e3 hy hr => by
    rw [hrel.1, List.take_length] at hr
    have ey := rel_bl hr
    refine ⟨D, os.map gB, rfl, sq_of (by rw [hy, ey]), ?_⟩
    rw [List.all_map]
    exact q H3 (e2.trans e3))⟩
theorem areB_len {fs : Fs} (h : areB fs = true) : lenF fs ∧ fs.length ≤ 40 := by
  unfold areB at h
  rw [Bool.and_eq_true, decide_eq_true_eq, List.all_eq_true] at h
  refine ⟨fun x hx => ?_, h.1⟩
  obtain ⟨h1, h2⟩ := Bool.and_eq_true_iff.mp (h.2 x hx)
  constructor
  · unfold nameB wordB at h1
    simp only [Bool.and_eq_true, decide_eq_true_eq] at h1
    omega
  · unfold valueB at h2
    simp only [Bool.and_eq_true, decide_eq_true_eq] at h2
    omega
theorem FsAt.updI {H : Hp} {q a C dx : Addr} {fs : Fs} {gs : List (Str × V)} {o : HO} (h : FsAt H q fs) (ha : H a = some (.ins C dx gs)) : FsAt (upd H a o) q fs := by
  obtain ⟨xs, h1, h2⟩ := h
  refine ⟨xs, ?_, h2.mono fun _ x m => ?_⟩
  · rw [upd_ne (fun e => by rw [e, ha] at h1; cases h1)]
    exact h1
  · obtain ⟨t, rfl, ht⟩ := m
    refine ⟨t, rfl, ?_⟩
    rw [upd_ne (fun e => by rw [e, ha] at ht; cases ht)]
    exact ht
/-- [(a, b) for a, b in fields] -/
theorem fields_new {K : PySem.W.Frag} {σ : L2.St} {H : Hp} {i j1 j2 : Nat} {l : Addr} {fs : Fs} {Q : VK} (hi : σ[i]? = some (some (.ref l))) (hl : FsAt H l fs) (hz : fs.length ≤ 40000) (hw : ∀ x y, wipe (((wipe σ [j1, j2]).set j1 (some x)).set j2 (some y)) [j1, j2] = wipe σ [j1, j2])
    (h1 : ∀ x y, (((wipe σ [j1, j2]).set j1 (some x)).set j2 (some y))[j1]? = some (some x)) (h2 : ∀ x y, (((wipe σ [j1, j2]).set j1 (some x)).set j2 (some y))[j2]? = some (some y))
    (k : ∀ D H', H D = none → Ex H H' → FsAt H' D fs → Q (.ref D) H') : tLc (iList K (tVar i)) (gTup K 2 (gCons (gName j1) (gCons (gName j2) gNil))) tYes (tTup (tCons (tVar j1) (tCons (tVar j2) tNil))) [j1, j2] σ H Q := by
  obtain ⟨xs, hx, hr⟩ := hl
  refine ⟨.ref l, hi, l, rfl, ⟨_, sq_of hx⟩, fun D hD => ?_⟩
  refine lc_rel (α := Str × Str) (fun i => fs.take i) PfAt (fun _ _ _ _ k hD r => TupAt.keep r k hD) (sq_of hx) hD rfl (by rw [hr.1]; omega) (fun i x H13 hi e13 k k0 hk _ => ?_) (fun H13 ms e13 hy hrel => ?_)
  · obtain ⟨o, ho, t, rfl, ht⟩ := hr.get hi
    refine ⟨t, _, rfl, st_of (e13 _ _ ht), rfl, _, _, rfl, _, _, rfl, rfl, hw _ _, ?_⟩
    unfold tYes
    dsimp only
    rw [if_pos rfl]
    refine (eu_tup (ea_cons (ev_var (h1 _ _)) (ea_cons (ev_var (h2 _ _)) ea_nil)) (by show 2 ≤ _; decide)) H13 (Ex.refl H13) _ fun p H14 np e14 hp => hk _ H14 o e14 ?_ ⟨p, rfl, hp⟩
    show fs.take (i + 1) = _
    rw [List.take_add_one, ho]
    rfl
  · rw [hr.1, List.take_length] at hrel
    exact k D H13 hD e13 ⟨ms, hy, hrel⟩
def valsF (fs : Fs) (n : Str) : List Str := (fs.filter fun x => decide (x.1 = n)).map Prod.snd
def joinF (fs : Fs) (n : Str) : Option Str := if valsF fs n = [] then none else some (Txt.join ", " (valsF fs n))
def optV : Option Str → V
  | none => .non
  | some z => .str z
theorem areB_val {fs : Fs} (h : areB fs = true) : fs.length ≤ 40 ∧ ∀ x ∈ fs, x.1.length ≤ 30 ∧ x.2.length ≤ 200 := by
  unfold areB at h
  rw [Bool.and_eq_true, decide_eq_true_eq, List.all_eq_true] at h
  refine ⟨h.1, fun x hx => ?_⟩
  obtain ⟨h1, h2⟩ := Bool.and_eq_true_iff.mp (h.2 x hx)
  constructor
  · unfold nameB wordB at h1
    simp only [Bool.and_eq_true, decide_eq_true_eq] at h1
    omega
  · unfold valueB at h2
    simp only [Bool.and_eq_true, decide_eq_true_eq] at h2
    omega
theorem vals_len {fs : Fs} {n : Str} (h : areB fs = true) : (valsF fs n).length ≤ 40 ∧ ∀ y ∈ valsF fs n, y.length ≤ 200 := by
  obtain ⟨h1, h2⟩ := areB_val h
  unfold valsF
  refine ⟨by rw [List.length_map]; exact Nat.le_trans (List.length_filter_le _ _) h1, fun y hy => ?_⟩
  obtain ⟨x, hx, rfl⟩ := List.mem_map.mp hy
  exact (h2 x (List.mem_filter.mp hx).1).2
theorem joinF_len {fs : Fs} {n z : Str} (h : areB fs = true) (hz : joinF fs n = some z) : z.length ≤ 10000 := by
  unfold joinF at hz
  split at hz
  · cases hz
  · cases hz
    obtain ⟨h1, h2⟩ := vals_len (n := n) h
    have h3 := sum_most (valsF fs n) 200 h2
    have h4 := join_len ", " (valsF fs n)
    have h5 : (", " : Str).length = 2 := by decide +kernel
    rw [h5] at h4
    have h6 := Nat.mul_le_mul_right 200 h1
    omega
section
variable {K : PySem.W.Frag} {C L a dx : Addr} {σ : L2.St} {H : Hp} {te : TE} {v : V} {b : Bool}
theorem et_truL {l : Addr} {xs : List V} (h : Ev te σ H (.ref l)) (hl : SqL K H l xs) : EvT (fun σ H Q => te σ H fun x H' => ∃ k, TruV K x H' k ∧ Q k H') σ H (!xs.isEmpty) := fun H1 e Q q => h H1 e _ fun H2 e2 => ⟨_, .inl ⟨xs, ex_l (e.trans e2) hl, rfl⟩, q H2 e2⟩
end
def nsp : Str := "!\"#$&'()*+,-./0123456789:;<=>?@ABCDEFGHIJKLMNOPQRSTUVWXYZ[\\]^_`abcdefghijklmnopqrstuvwxyz{|}~"
theorem nsp_ok : ∀ c ∈ tl nsp, c ∈ tl signs ∧ c ∉ tl (" " : Str) := by decide +kernel
theorem allIn_mono {z s t : Str} (h : allIn z s = true) (k : ∀ c ∈ tl s, c ∈ tl t) : allIn z t = true :=
  List.all_eq_true.mpr fun c hc => decide_eq_true (k c (of_decide_eq_true (List.all_eq_true.mp h c hc)))
theorem value_ns {z : Str} (hl : z.length ≤ 200) (h : allIn z nsp = true) : valueB z = true := by
  have hm : ∀ c ∈ tl z, c ∈ tl nsp := fun c hc => of_decide_eq_true (List.all_eq_true.mp h c hc)
  unfold valueB
  rw [decide_eq_true (by omega), Bool.true_and, Bool.and_eq_true, decide_eq_true_eq]
  exact ⟨List.all_eq_true.mpr fun c hc => decide_eq_true (nsp_ok c (hm c hc)).1, strip_self (fun c hc => (nsp_ok c (hm c (List.mem_of_getElem? hc))).2) (fun c hc => (nsp_ok c (hm c (List.mem_of_getElem? hc))).2)⟩
theorem value_parts {z : Str} (h : valueB z = true) : z.length ≤ 200 ∧ allIn z signs = true := by
  unfold valueB at h
  simp only [Bool.and_eq_true, decide_eq_true_eq] at h
  exact ⟨by omega, h.2.1⟩
theorem value_empty : valueB ("" : Str) = true := by decide +kernel
theorem num_kinds (i : Int) (h1 : -999999 ≤ i) (h2 : i ≤ 999999) : (∃ n : Nat, n < 10 ^ 6 ∧ tl (PySem.Str.ofString (toString i)) = numL n) ∨ ∃ n : Nat, 1 ≤ n ∧ n < 10 ^ 6 ∧ tl (PySem.Str.ofString (toString i)) = 45 :: numL n := by
  cases i with
  | ofNat n =>
    have h2 : (n : Int) ≤ 999999 := h2
    exact .inl ⟨n, by omega, tl_num n⟩
  | negSucc n => exact .inr ⟨n + 1, by omega, by omega, neg_tl n⟩
theorem num_value (i : Int) (h1 : -999999 ≤ i) (h2 : i ≤ 999999) : valueB (PySem.Str.ofString (toString i)) = true := by
  have key : ∀ z : Str, z.length ≤ 7 → (∀ c ∈ tl z, c = 45 ∨ (48 ≤ c ∧ c ≤ 57)) → valueB z = true := fun z hl hc => by
    refine value_ns (by omega) (List.all_eq_true.mpr fun c h => decide_eq_true ?_)
    have d : ∀ c ∈ tl ("0123456789" : Str), c ∈ tl nsp := by decide +kernel
    rcases hc c h with rfl | ⟨g1, g2⟩
    · decide +kernel
    · exact d c (dig_mem g1 g2)
  rcases num_kinds i h1 h2 with ⟨n, hn, hz⟩ | ⟨n, h0, hn, hz⟩
  · refine key _ ?_ fun c hc => ?_
    · rw [len_tl, hz]
      have := numL_len (k := 6) (by decide) hn
      omega
    · rw [hz] at hc
      exact .inr (numL_digits n c hc)
  · refine key _ ?_ fun c hc => ?_
    · rw [len_tl, hz]
      have := numL_len (k := 6) (by decide) hn
      rw [List.length_cons]
      omega
    · rw [hz] at hc
      rcases List.mem_cons.mp hc with rfl | hc
      · exact .inl rfl
      · exact .inr (numL_digits n c hc)
end Z
set_option maxHeartbeats 4000000
namespace ZX
open PySem PySem.Spec PyProof.Rows L2 TL Evl NdefX
/-! ### try, the first clause (with a name) takes what is raised; the clauses behind it are never asked -/
def wFst (K : PySem.W.Frag) (c : Value) (i : Nat) (ts : Addr → Value → Option Addr → TS) (D : Ends) : WX := fun cls d σ H => PySem.W.exmOne K cls c = some true ∧ ∀ a : Addr, H a = none → ts a cls d { nx := fun σ' H' => D.nx (List.set σ' i none) H', rt := D.rt, bk := fun σ' H' => D.bk (List.set σ' i none) H', ct := fun σ' H' => D.ct (List.set σ' i none) H' } (List.set σ i (some (V.ref a))) H
theorem ps_try_fst {X : Cx} {x n : Str} {c : Value} {i : Nat} {body suite : List Stmt} {b₀ : Stmt} {hds : List ExceptHandler} {np pos pos' : Pos} {tb : WX → TS} {ts : Addr → Value → Option Addr → TS}
    (hs : X.stack = X.env :: X.outer) (hf : X.env.frame = some X.env.locals) (hN : X.N.Nodup) (hi : X.N[i]? = some n) (hln : X.env.kindOf n = some NameKind.local) (hc : Names X x c)
    (hb : ∀ (W : WX) (pn : List (Addr × Obj)) (xe : Value → Shared → Prop), L2N.Takes (X.tr pn xe) W → PassesOwn (model X.prog X.w) X.A X.env xe → PSs (X.tr pn xe) body (tb W))
    (hsu : ∀ (a : Addr) (oe : Obj) (cls : Value) (d : Option Addr) (pn : List (Addr × Obj)), L2N.Zn cls d oe → (∃ vs, oe.data = Data.fields vs) → PSs (X.suite a ((a, oe) :: pn)) (b₀ :: suite) (ts a cls d)) :
    PS X (Stmt.Try body (ExceptHandler.ExceptHandler (some (Expr.Name x np)) (some n) (b₀ :: suite) pos' :: hds) [] [] pos) fun D σ H => tb (wFst X.K c i ts D) D σ H := by
  refine ⟨fun pins s σ H D I h => ?_⟩
  have ok := I.ok
  have hfr : X.A.frames = some (X.env :: X.outer) := by
    rw [ok.frames, hs]
  refine wpAny_Try_except (wpAny_mono ((hb (wFst X.K c i ts D) (X.pn ++ pins) (fun e s₁ =>
                  wpAny (model X.prog X.w) X.A (noteFrame e X.env)
                    (fun x_1 s₂ =>
                      wpAny (model X.prog X.w) X.A (setFlight e none)
                        (fun x_2 s₃ =>
                          wpAny (model X.prog X.w) X.A
                            (handleBy e X.env
                              (ExceptHandler.ExceptHandler (some (Expr.Name x np)) (some n) (b₀ :: suite) pos' :: hds))
                            (SP X pins D) X.xe s₃)
                        X.xe s₂)
                    X.xe s₁) (fun u s' xx => ?_) PassesOwn.looking).run [] s σ H D (Inv.toTry I _) h) (fun f s1 hsp => ?_) fun e s1 he => he)
  · obtain ⟨a, B, sI, pins', σ', H', cls, d, left, J', nb, up, sky, na, os, ag, hb1, hyes⟩ := xx
    subst left
    have J := Inv.ofTry J' ok
    have sky' : L2.Sky B (X.env :: X.outer) a (L2N.Zn cls d) X.env.locals s'.heap := by
      rw [← hs]
      exact sky
    refine L2N.Sky.land L2N.Zn.steady hfr hf sky' fun h3 fl3 up3 => ?_
    have J3 : L2.Inv X pins σ' H' { heap := h3, gens := s'.gens, drawn := s'.drawn, toks := s'.toks, os := s'.os } := Inv.landed J nb fl3.left (Heap.UpToSlots.trans up up3) os ag
    obtain ⟨oe3, vs3, he3, hz3, hd3⟩ := HandSPX.FlyingZ.there fl3
    have notFr : ∀ {h : Heap} {o : Obj} {vs : Array Value}, h.FunFrames B (X.env :: X.outer) → h.get? a = some o → o.data = Data.fields vs → ¬ a ∈ List.filterMap (fun x : Env => x.frame) (X.env :: X.outer) := fun ff e dd hm => by
      obtain ⟨_, o', e', hnf⟩ := Heap.FunFrames.mem ff hm
      rw [e] at e'
      cases e'
      exact hnf _ dd
    have nfr := notFr fl3.right.right.left he3 hd3
    have nL : a ≠ X.env.locals := fun z => nfr (List.mem_filterMap.mpr ⟨X.env, List.mem_cons_self, by rw [hf, z]⟩)
    have nF : ¬ a ∈ X.fs := fun hm => by
      obtain ⟨e, he, q⟩ := List.mem_filterMap.mp hm
      exact nfr (List.mem_filterMap.mpr ⟨e, List.mem_cons_of_mem X.env he, q⟩)
    have S3 := Inv.suite J3 he3 hd3 na nL nF
    refine wpAny_handleBy_cons (codeAny_handlers_test ?_) (fun q => nomatch q)
    have LM := PySem.W.exm_one (M := model X.prog X.w) (Inv.kIn J3) (fun A Q E s k q => wpAny_typeOf_ref (k a oe3 he3) (by rw [hz3.left]; exact q)) hb1
    have test : ∀ {Q : Value → Shared → Prop} {E : Value → Shared → Prop}, Q c { heap := h3, gens := s'.gens, drawn := s'.drawn, toks := s'.toks, os := s'.os } → wpAny (model X.prog X.w) (X.suite a ((a, oe3) :: (X.pn ++ pins))).A (eval (Expr.Name x np) X.env) Q E { heap := h3, gens := s'.gens, drawn := s'.drawn, toks := s'.toks, os := s'.os } := fun {Q E} q => by
      obtain ⟨hg, hdbg, hm | ⟨hm, hv, hnn⟩⟩ := hc
      · exact ld_glob (X := X.suite a ((a, oe3) :: (X.pn ++ pins))) S3 hg hm q hdbg
      · exact ld_blt (X := X.suite a ((a, oe3) :: (X.pn ++ pins))) S3 hg hm hv q hnn hdbg
    refine test (Q := fun c' s₁ => wpAny (model X.prog X.w) _ (excMatches (Value.ref a) c') _ _ s₁) (PySem.W.Looks.here LM ?_)
    refine codeAny_handlers_suite_as (HandSPX.lands_againZ fl3 fun h4 fl4 up4 => ?_)
    have J4 : L2.Inv X pins σ' H' { heap := h4, gens := s'.gens, drawn := s'.drawn, toks := s'.toks, os := s'.os } := Inv.landed J nb fl4.left (Heap.UpToSlots.trans (Heap.UpToSlots.trans up up3) up4) os ag
    obtain ⟨oe4, vs4, he4, hz4, hd4⟩ := HandSPX.FlyingZ.there fl4
    have S4 := Inv.suite J4 he4 hd4 na nL nF
    refine store_ok (X := X.suite a ((a, oe4) :: (X.pn ++ pins))) (v := V.ref a) S4 hN hi (Or.inl hln) rfl (fun s5 S5 => wpAny_mono ((hsu a oe4 cls d (X.pn ++ pins) hz4 ⟨vs4, hd4⟩).run [] s5 (List.set σ' i (some (V.ref a))) H' _ S5 (hyes a na)) (fun f s6 hsp => ?_) fun _ _ z => z.elim) (Or.inr hln)
    have end_ : ∀ {σ6 : L2.St} {H6 : Hp} {Q : Unit → Shared → Prop} {s6 : Shared}, L2.Inv (X.suite a ((a, oe4) :: (X.pn ++ pins))) [] σ6 H6 s6 → (∀ s', L2.Inv X pins (List.set σ6 i none) H6 s' → Q () s') → wpAny (model X.prog X.w) X.A (do bindName X.env n Value.none; unbindBehindTheSuite X.env n pos') Q X.xe s6 := fun S6 hq => gone_ok (Inv.unsuite S6 ok) hN hi hln hq
    cases f with
    | next =>
      obtain ⟨σ6, H6, S6, q6⟩ := hsp
      exact end_ S6 fun s7 J7 => ⟨σ6.set i none, H6, J7, q6⟩
    | brk =>
      obtain ⟨σ6, H6, S6, q6⟩ := hsp
      exact end_ S6 fun s7 J7 => ⟨σ6.set i none, H6, J7, q6⟩
    | cont =>
      obtain ⟨σ6, H6, S6, q6⟩ := hsp
      exact end_ S6 fun s7 J7 => ⟨σ6.set i none, H6, J7, q6⟩
    | ret u =>
      obtain ⟨v6, σ6, H6, S6, r6, q6⟩ := hsp
      exact end_ S6 fun s7 J7 => ⟨v6, σ6.set i none, H6, J7, r6, q6⟩
  · cases f with
    | next =>
      obtain ⟨σ', H', J', q⟩ := hsp
      exact wpAny_execs_nil ⟨σ', H', Inv.ofTry J' ok, q⟩
    | brk =>
      obtain ⟨σ', H', J', q⟩ := hsp
      exact ⟨σ', H', Inv.ofTry J' ok, q⟩
    | cont =>
      obtain ⟨σ', H', J', q⟩ := hsp
      exact ⟨σ', H', Inv.ofTry J' ok, q⟩
    | ret u =>
      obtain ⟨v, σ', H', J', r, q⟩ := hsp
      exact ⟨v, σ', H', Inv.ofTry J' ok, r, q⟩
/-! ### isinstance of an error without fields -/
def rIsEN (K : PySem.W.Frag) (a : Addr) (cls : Value) (d : Option Addr) : List V → Hp → VK → Prop := fun xs H Q => ∃ D, cls = .ref D ∧ d = none ∧ ExcC K D ∧ rIsE K D a xs H Q
theorem call_isEN {X : Cx} {a : Addr} {cls : Value} {d : Option Addr} {oe : Obj} {pn : List (Addr × Obj)} (hz : Zc cls d oe) (hf : ∃ vs, oe.data = .fields vs) : CallR (X.suite a ((a, oe) :: pn)) (.builtin "isinstance") (rIsEN X.K a cls d) := by
  intro pins s σ H xs us Q I r h
  obtain ⟨D, rfl, rfl, c, q⟩ := h
  exact call_isE c hz hf pins s σ H xs us Q I r q
/-- isinstance(e, (A, B, ..)) -/
def rIsET (K : PySem.W.Frag) (a : Addr) (cls : Value) (d : Option Addr) : List V → Hp → VK → Prop := fun xs H Q => ∃ (D tp : Addr) (cs : List V) (ws : List Value) (b : Bool), cls = .ref D ∧ d = none ∧ ExcC K D ∧ xs = [.ref a, .ref tp] ∧ H tp = some (.tup cs) ∧ Paired ClsV cs ws ∧ PySem.W.kitAny K (.ref D) ws = some b ∧ Q (.bl b) H
theorem call_isET {X : Cx} {a : Addr} {cls : Value} {d : Option Addr} {oe : Obj} {pn : List (Addr × Obj)} (hz : Zc cls d oe) (hf : ∃ vs, oe.data = .fields vs) : CallR (X.suite a ((a, oe) :: pn)) (.builtin "isinstance") (rIsET X.K a cls d) := by
  intro pins s σ H xs us Q I r h
  obtain ⟨D, tp, cs, ws, b, rfl, rfl, C, rfl, hT, k, e, q⟩ := h
  obtain ⟨u1, u2, rfl, r1, r2⟩ := L2.vals2 r
  obtain rfl : u1 = Value.ref a := r1
  obtain rfl : u2 = Value.ref tp := r2
  obtain ⟨hget, _⟩ := I.pin (a, oe) (List.mem_append.mpr (.inl List.mem_cons_self))
  obtain ⟨vs, hv⟩ := hf
  have J : PySem.W.InstAt s.heap a oe D none := by
    obtain ⟨oc, odd, oda, osl⟩ := oe
    obtain ⟨h1, h2⟩ := hz
    dsimp only at h1 h2 hv
    subst h1 h2 hv
    exact ⟨hget, rfl, rfl, trivial⟩
  have hx : ObjOk X.prog X.w H s.heap tp (.tup cs) := I.hok tp _ hT
  obtain ⟨_, its, rv, o, h1, h2, n, h3⟩ := hx
  have e3 := ClsV.all k rv
  subst e3
  obtain ⟨oc, od, dt, sl⟩ := o
  dsimp only at h2 h3
  subst h2 h3
  exact PySem.W.kia_tup (PySem.W.handS_kitx_exc C.hg C.hk C.hs C.hd C.ha C.hn C.ht C.hm) I.kIn J h1 e (fun z => nomatch z) fun tk => ⟨.bl b, H, I.tok tk, rfl, q⟩
end ZX
set_option maxHeartbeats 4000000
namespace ZX
open PySem PySem.Spec PyProof.Rows L2 TL Evl NdefX
/-! ### an own error whose `__init__` keeps nothing -/
theorem mk_endN {X : Cx} {pins : List (Addr × Obj)} {σ : L2.St} {H1 H2 : Hp} {hp hp2 h2 : Heap} {g1 g2 : Array GenState} {d1 d2 : Drawn} {t1 t2 : Nat} {os1 os2 : OsState} {a C : Addr}
    (I1 : L2.Inv X pins σ H1 { heap := hp, gens := g1, drawn := d1, toks := t1, os := os1 }) (ha : hp.objs.size ≤ a) (k : ∀ (b : Addr) (o : Obj), hp.get? b = some o → hp2.get? b = some o) (un : Un (frs X.stack) [] (upd H1 a (exo a C none)) H2 hp2 h2) (hok : HOk X.prog X.w H2 h2) (ho : os2 = os1) (hb : AllBare g2) (ea : H2 a = some (exo a C none)) :
    ∃ t0 G, L2.Inv X pins σ (del H2 a) { heap := G, gens := g2, drawn := d2, toks := t2, os := os2 } ∧ (∀ (b : Addr) (o : Obj), G.get? b = some o → h2.get? b = some o) ∧ G.get? a = none ∧
      h2.get? a = some { cls := Value.ref C, dict := none, data := Data.fields #[Value.ref t0, Value.none, Value.none, Value.none, Value.bool false, Value.none] } := by
  obtain ⟨t0, hoe⟩ := exo_at hok ea
  have hn := HOk.fresh I1.hok ha
  obtain ⟨G, g1', g2'⟩ := restrict h2 fun b => decide (b ≠ a)
  have gk : ∀ b, b ≠ a → G.get? b = h2.get? b := fun b hb => g1' b (decide_eq_true hb)
  have ge : G.get? a = none := g2' a (by simp)
  have nha : ∀ {b : Addr} {o : Obj}, hp.get? b = some o → b ≠ a := fun {b} {o} z => Nat.ne_of_lt (Nat.lt_of_lt_of_le (Heap.lt_size z) ha)
  have up : ∀ {b : Addr}, b ≠ a → H1 b = none → upd H1 a (exo a C none) b = none := fun {b} hb n => by
    rw [upd_ne hb]
    exact n
  have U : Un (frs X.stack) [] H1 (del H2 a) hp G := {
    keep := fun b o z n hf hx => by
      rw [gk b (nha z)]
      exact un.keep b o (k b o z) (up (nha z) n) hf hx
    slot := fun b o z n hf hx => by
      rw [gk b (nha z)]
      exact un.slot b o (k b o z) (up (nha z) n) hf hx
    free := fun b o z n hx => by
      rw [del_ne (nha z)]
      exact un.free b o (k b o z) (up (nha z) n) hx
    there := fun b o z hx => by
      rw [gk b (nha z)]
      exact un.there b o (k b o z) hx
    tups := fun b xs z => by
      rw [del_ne (ne_of_none z hn)]
      exact un.tups b xs (by rw [upd_ne (ne_of_none z hn)]; exact z)
    frzs := fun b o v z => by
      rw [del_ne (ne_of_none z hn)]
      exact un.frzs b o v (by rw [upd_ne (ne_of_none z hn)]; exact z)
    tbls := fun b ps z => by
      rw [del_ne (ne_of_none z hn)]
      exact un.tbls b ps (by rw [upd_ne (ne_of_none z hn)]; exact z) }
  have hok3 : HOk X.prog X.w (del H2 a) G := fun b o z => by
    have hba : b ≠ a := fun e => by
      rw [e, del_same] at z
      cases z
    rw [del_ne hba] at z
    have noa : ∀ {c : Addr}, H2 c = some (HO.own b) → c ≠ a := fun {c} hc => at_ne ea hc exo_own
    refine ObjOk.stay (hok b o z) (fun c v hc y => ?_) (fun c hc => ?_) fun c xs hc => ?_
    · have hca : c ≠ a := by
        rcases hc with hc | hc
        · rw [hc]; exact hba
        · exact noa hc
      rw [gk c hca]
      exact y
    · rw [del_ne (noa hc)]
      exact hc
    · rw [del_ne (at_ne ea hc exo_tup)]
      exact hc
  have J := Inv.call' (s' := { heap := G, gens := g2, drawn := d2, toks := t2, os := os2 }) I1 ho U hok3 hb fun b z => absurd z List.not_mem_nil
  exact ⟨t0, G, J, fun b o z => by
    by_cases hba : b = a
    · rw [hba, ge] at z
      cases z
    · rw [← gk b hba]
      exact z, ge, hoe⟩
def tMkN (C : Addr) (sp : Sp) : L2N.St → Hp → XK → Prop := fun σ H Q => ∀ a, H a = none → sp [.ref a] (upd H a (exo a C none)) (fun v H2 => v = .non ∧ H2 a = some (exo a C none) ∧ Q (.ref C) none (del H2 a)) (fun _ _ _ => False)
theorem pmk_oex0 {X : Cx} {CX : CXT} {x : Str} {C fI : Addr} {k : Nat} {fd : FuncData} {ps : List Str} {sp : Sp} {p pos : Pos} (T : OexC X.K C) (iC : PySem.W.findIn X.K (.ref C) "__init__" = some (some (.ref fI)))
    (tI : PySem.W.typeIn X.K (.ref fI) = some (.type "function")) (F1 : FnOk X.prog X.w X.K X.mg X.base CX k fI fd ps sp) (hr : Room (k + 1) X.A) (hb : Binds X.K fd ps []) (hx : Passes CX X (fun _ _ _ => False)) (hg : Gl X x) (hm : X.mg x = some (.ref C))
    (hdb : (x == ("__debug__" : Str)) = false := by decide) :
    L2N.PMk X (.Call (.Name x p) [] [] pos) (tMkN C sp) := by
  intro pins s σ H Q I h
  obtain ⟨nm, q, N, bs, bm, sn, sub, ab, col, dd, k0, k1, k2, k3, k5, hC, hbm⟩ := T.cls
  refine wpAny_Call_Name_kw (ld_glob I hg hm ?_ hdb)
  refine PySem.W.callWith_K0 I.kIn T.kC ?_
  obtain ⟨hp, g, dr, tk, os⟩ := s
  have new : H (hp.objs.size + 1) = none := I.hok.fresh (Nat.le_succ _)
  have hq := h (hp.objs.size + 1) new
  have grow : ∀ b o, hp.get? b = some o → ((hp.push (PySem.W.kdv_tup [])).push (PySem.HandSPX.excO C hp.objs.size)).get? b = some o := fun b o z => Heap.get?_push_of_some _ (Heap.get?_push_of_some _ z)
  have I2 : Inv X pins σ (upd H (hp.objs.size + 1) (exo (hp.objs.size + 1) C none)) ⟨(hp.push (PySem.W.kdv_tup [])).push (PySem.HandSPX.excO C hp.objs.size), g, dr, tk, os⟩ :=
    I.laid (t' := tk) (a := hp.objs.size + 1) (o := exo (hp.objs.size + 1) C none) (h' := (hp.push (PySem.W.kdv_tup [])).push (PySem.HandSPX.excO C hp.objs.size)) grow (Nat.le_succ _) (exo_ok (by heap_get))
  have r2 : Vals [V.ref (hp.objs.size + 1)] [Value.ref (hp.objs.size + 1)] := .cons rfl .nil
  have lens : [Value.ref (hp.objs.size + 1)].length = ps.length := r2.length.symm.trans (F1.len _ _ _ _ hq)
  have b2 := hb _ [Value.ref (hp.objs.size + 1)] I2.kIn (by rw [List.append_nil]; exact lens)
  rw [List.append_nil] at b2
  show wpAny _ _ (call (.ref C) []) _ _ _
  refine wpAny_call (PySem.HandSPX.call_own F.excBase_ValueError (fun Y => PySem.HandSPX.refsVE_contains Y bm hbm) (I.kIn _ _ hC) (PySem.W.looks_findIn I.kIn iC) (fun self => PySem.W.bind_fn I.kIn self tI) (Nat.zero_le _)
    (codeAny_mono (FnOk.run F1 _ X.stack _ _ ⟨[Value.ref (hp.objs.size + 1)], []⟩ [Value.ref (hp.objs.size + 1)] _ _ (fun _ _ _ => False) (hr.make C [] []) (I2.env0.make C [] []) b2 r2 hq) fun r s' hq' => ?_))
  cases r with
  | error er => exact hx pins σ _ _ er s' I2 hq'
  | ok fl =>
    cases fl with
    | next => exact hq'.elim
    | brk => exact hq'.elim
    | cont => exact hq'.elim
    | ret u =>
      obtain ⟨v, H2, os2, bare, un, hok, rv, ev, ea, q2⟩ := hq'
      subst ev
      obtain ⟨h2, g2, d2, t2, os'⟩ := s'
      obtain ⟨t0, G, J, kG, ge, hoe⟩ := mk_endN (d2 := d2) (t2 := t2) I (Nat.le_succ _) grow un hok os2 bare ea
      exact ⟨rv, hp.objs.size + 1, _, _, ⟨G, g2, d2, t2, os'⟩, _, .ref C, none, rfl, J, kG, ge, hoe, ⟨rfl, rfl, fun ws hw => by cases hw; rfl⟩, rfl, rfl, del_same, rfl, bare, raises_own T.exC T.tyC, q2⟩
def spErr0 (D : Addr) : Sp := fun vs H Q _ => ∃ a : Addr, vs = [.ref a] ∧ H a = some (exo a D none) ∧ ∀ H1, Ex H H1 → Q .non H1
theorem mk_err0 {D : Addr} {σ : L2.St} {H : Hp} {Q : XK} (k : ∀ H', Ex H H' → Q (.ref D) none H') : tMkN D (spErr0 D) σ H Q := fun a ha => ⟨a, rfl, upd_same, fun H1 e1 => by
  have h1 := e1 a _ upd_same
  refine ⟨rfl, h1, k _ fun b o hb => ?_⟩
  have na : b ≠ a := ne_of_none hb ha
  rw [del_ne na]
  exact e1 b o (by rw [upd_ne na]; exact hb)⟩
end ZX
set_option maxHeartbeats 2000000
namespace ZX
open PySem PySem.Spec PyProof.Rows L2 He
/-! ### a def of the module called with keywords, errors told at the reading -/
section
variable {X : Cx} {CX : CXT} {k n : Nat} {f : Addr} {fd : FuncData} {ps ks : List Str} {sp : Sp} {E : L2.St → XK} {e : Expr} {es : List Expr} {kws : List Keyword} {x : Str} {p pos : Pos} {t tk : TA}
  {gg : List Value → List Value → List Value} {gV : List V → List V → List V}
def tFkE (n m : Nat) (sp : Sp) (gV : List V → List V → List V) (E : L2.St → XK) (t tk : TA) : TE := fun σ H Q => t σ H fun vs H2 => tk σ H2 fun zs H3 => vs.length = n ∧ zs.length = m ∧ sp (gV vs zs) H3 Q (E σ)
theorem pe_fkE (F : FnOk X.prog X.w X.K X.mg X.base CX k f fd ps sp) (hr : Room k X.A) (hg : Gl X x) (hm : X.mg x = some (.ref f)) (hk : PySem.W.keepIn X.K (.ref f) = true) (hb : KBn X.K fd ps n ks gg gV) (hx : ∀ σ, PassesAt CX X σ (E σ)) (ha : PA X (e :: es) t) (hkw : PK X kws tk)
    (hall : (backToKw pos (keywordEach kws X.env)).all (·.1.isSome) = true := by rfl) (hks : (backToKw pos (keywordEach kws X.env)).filterMap (·.1) = ks := by rfl)
    (hdb : (x == ("__debug__" : Str)) = false := by decide)
    (hst : starEach (e :: es) X.env = (false, eval e X.env) :: starEach es X.env := by rfl)
    (hpl : ((backTo pos (starEach (e :: es) X.env)).any (·.1) || (backToKw pos (keywordEach kws X.env)).any (·.1.isNone)) = false := by rfl) :
    PE X (.Call (.Name x p) (e :: es) kws pos) (tFkE n ks.length sp gV E t tk) := by
  refine ⟨fun pins s σ H Q I h => ?_⟩
  refine wpAny_Call_Name_kw (ld_glob I hg hm (PySem.W.callWith_KW (h₀ := X.base) I.ok.mod.kin hk hall (thn (ha.run pos pins _ σ H _ I h) fun us s2 ⟨vs, H2, I3, r, q2⟩ => ?_) hpl hst) hdb)
  refine thn (hkw.run pos pins s2 σ H2 _ I3 q2) fun ws s3 ⟨zs, H3, I4, rz, l1, l2, q3⟩ => ⟨I4.kIn, ?_⟩
  rw [hks]
  exact run_fnKS F hr hb (hx σ) I4 r rz l1 l2 q3
theorem pe_fkE0 (F : FnOk X.prog X.w X.K X.mg X.base CX k f fd ps sp) (hr : Room k X.A) (hg : Gl X x) (hm : X.mg x = some (.ref f)) (hk : PySem.W.keepIn X.K (.ref f) = true) (hb : KBn X.K fd ps 0 ks gg gV) (hx : ∀ σ, PassesAt CX X σ (E σ)) (hkw : PK X kws tk)
    (hall : (backToKw pos (keywordEach kws X.env)).all (·.1.isSome) = true := by rfl) (hks : (backToKw pos (keywordEach kws X.env)).filterMap (·.1) = ks := by rfl)
    (hdb : (x == ("__debug__" : Str)) = false := by decide)
    (hpl : ((backTo pos (starEach [] X.env)).any (·.1) || (backToKw pos (keywordEach kws X.env)).any (·.1.isNone)) = false := by rfl) :
    PE X (.Call (.Name x p) [] kws pos) (tFkE 0 ks.length sp gV E tNil tk) := by
  refine ⟨fun pins s σ H Q I h => ?_⟩
  refine wpAny_Call_Name_kw (ld_glob I hg hm (PySem.W.callWith_KW0 (h₀ := X.base) I.ok.mod.kin hk hall ?_ hpl) hdb)
  refine thn (hkw.run pos pins s σ H _ I h) fun ws s2 ⟨zs, H2, I2, rz, l1, l2, q2⟩ => ⟨I2.kIn, ?_⟩
  rw [hks]
  exact run_fnKS (us := []) (vs := []) F hr hb (hx σ) I2 .nil rz l1 l2 q2
end
end ZX
set_option maxHeartbeats 2000000
namespace ZX
open PySem PySem.Spec PyProof.Rows L2 He
/-! ### x in o by an own `__contains__` -/
def rInOwn (C : Addr) (sp : Sp) (E : XK) : R2 := fun x y H Q => ∃ a dx fs, y = .ref a ∧ H a = some (.ins C dx fs) ∧ sp [y, x] H (fun v H' => ∃ b : Bool, v = .bl b ∧ Q (.bl b) H') E
theorem op_inOwn {X : Cx} {CX : CXT} {n : Nat} {C g : Addr} {sp : Sp} {E : XK} (hs : PySem.W.findIn X.K (.ref C) "__contains__" = some (some (.ref g))) (hf : PySem.W.isFn X.K (.ref g) = true) (F : FnR X.prog X.w X.K X.mg X.base CX n g sp) (hr : Room n X.A) (hx : Passes CX X E) :
    OpR X (compareOp .In) (rInOwn C sp E) := by
  intro pins s σ H x y v u Q I rx ry h
  obtain ⟨a, dx, fs, rfl, ha, q⟩ := h
  cases (show u = Value.ref a from ry)
  obtain ⟨mA, J, _⟩ := ins_get I.hok ha
  obtain ⟨od, J, _⟩ := J.look
  obtain ⟨m, hF⟩ := I.fr
  refine PySem.W.in_K hF I.ok.mod.kin J hs hf ?_
  refine wpAny_mono (wpAny_call (run_fnR (us := [.ref a, v]) (vs := [.ref a, x]) F hr hx I (.cons rfl (.cons rx .nil)) q)) (fun w s' z => ?_) fun _ _ x => x
  obtain ⟨z', H', I', rz, b, eb, qz⟩ := z
  subst eb
  cases (show w = Value.bool b from rz)
  exact wpAny_pure ⟨.bl b, H', I', rfl, qz⟩
end ZX
set_option maxHeartbeats 2000000
namespace ZX
open PySem PySem.Spec PyProof.Rows L2 He
/-- a name of the module that stands for a tuple of texts -/
theorem gtup_ok {K : PySem.W.Frag} {x : Str} {zs : List Str} (h : gtupB K x zs = true) : ∀ H, SqT K H (ga K x) (zs.map V.str) := fun H => by
  unfold gtupB at h
  split at h
  · rename_i t d its n sl z
    obtain ⟨b1, b2⟩ := ba h
    obtain ⟨b3, b4⟩ := ba b2
    have e : t = "tuple" := of_decide_eq_true b1
    subst e
    exact .inr ⟨_, its, n, z, rfl, rfl, Nat.le_trans (of_decide_eq_true b3) (by decide), strVs_ok b4⟩
  · cases h
end ZX
set_option maxHeartbeats 2000000
namespace ZX
open PySem PySem.Spec PyProof.Rows L2 He
/-! ### bool(o) by an own `__bool__` -/
theorem meets_boolOwn {prog : Program} {w : World} {x : Addr} : MeetsIn prog w (Builtin.«bool.__new__» ⟨[.type "bool", .ref x], []⟩) (fun A R s => wpAny (model prog w) A.in1 (truthy (.ref x)) (fun b s' => R (.ok (.ret (.bool b))) s') (fun e s' => R (.error e) s') s) :=
  MeetsIn.of_wp fun A R s hs => by
    have f1 := F.conv_sub_bool
    obtain ⟨hp, g, d, tk, os⟩ := s
    repeat (any_goals (first | assumption | (with_reducible refine wpAny_mono hs ?_ fun _ _ x => x) | wp_step))
    all_goals first | exact ⟨_, rfl, hs⟩ | skip
    intro b s' h
    repeat (any_goals (first | assumption | wp_step))
    all_goals first | exact ⟨_, rfl, h⟩ | skip
def rBoolOwn (C : Addr) (sp : Sp) (E : XK) : List V → Hp → VK → Prop := fun xs H Q => ∃ a dx fs, xs = [.ref a] ∧ H a = some (.ins C dx fs) ∧ sp [.ref a] H (fun v H' => ∃ b : Bool, v = .bl b ∧ Q v H') E
theorem call_boolOwn {X : Cx} {CX : CXT} {n : Nat} {C g : Addr} {sp : Sp} {E : XK} (hs : PySem.W.findIn X.K (.ref C) "__bool__" = some (some (.ref g))) (hf : PySem.W.isFn X.K (.ref g) = true) (Fn : FnR X.prog X.w X.K X.mg X.base CX n g sp) (hr : Room (n + 2) X.A)
    (hx : ∀ (H : Hp) (s : Shared) (e : Value) (s' : Shared), CX X.stack H s E e s' → False) : CallR X (.type "bool") (rBoolOwn C sp E) := by
  intro pins s σ H xs us Q I r h
  obtain ⟨a, dx, fs, rfl, ha, q⟩ := h
  cases r with
  | cons r1 rs =>
    cases rs
    cases r1
    obtain ⟨mA, J, _⟩ := ins_get I.hok ha
    obtain ⟨od, J, _⟩ := J.look
    obtain ⟨m, hF⟩ := I.fr
    refine callType_newIn F.called_bool F.newNe_bool (F.typeCall_bool_1 _) (F.newCall_bool_1 _) (fun obj => F.args_object_init_2 obj _) F.entry_bool_new meets_boolOwn ?_
    refine PySem.W.truthy_K hF I.ok.mod.kin J hs hf ?_
    refine wpAny_call (codeAny_mono (Fn X.A.in1.in1 X.stack s H [.ref a] [.ref a] _ E hr.in1.in1 I.env0.in1.in1 (.cons rfl .nil) q) fun r s' hq => ?_)
    cases r with
    | error e => exact (hx _ _ _ _ hq).elim
    | ok fl =>
      cases fl with
      | ret u =>
        obtain ⟨v, H', I2, rv, b, ev, q2⟩ := I.after hq
        subst ev
        cases (show u = Value.bool b from rv)
        exact ⟨rfl, .bl b, H', I2, rfl, q2⟩
      | next => exact False.elim hq
      | brk => exact False.elim hq
      | cont => exact False.elim hq
/-! ### a default that is an empty tuple; C(k = v) where a default stands -/
theorem etup_ok {K : PySem.W.Frag} {a : Addr} (h : etupB K a = true) : ∀ H, SqT K H a [] := fun H => by
  unfold etupB at h
  split at h
  · rename_i t d its n sl z
    obtain ⟨b1, b2⟩ := Bool.and_eq_true_iff.mp h
    have e : t = "tuple" := of_decide_eq_true b1
    subst e
    have e2 : its = #[] := Array.eq_empty_of_size_eq_zero (of_decide_eq_true b2)
    subst e2
    exact .inr ⟨_, #[], n, z, rfl, rfl, by decide, .nil⟩
  · cases h
theorem kbAllD {K : PySem.W.Frag} {x qual : Str} {params : Arguments} {body : List Stmt} {scope : Scope} {dvs : List V} {kws : List (Str × V)} {f : Addr} {fd : FuncData} {ps : List Str} (F : FunD K x qual params body scope dvs kws f fd) (n : Nat) (ks : List Str)
    (g : {α : Type} → List α → List α → List α) (hd : dvs ≠ [])
    (hrel : ∀ {vs zs : List V} {us ws : List Value}, Vals vs us → Vals zs ws → Vals (g vs zs) (g us ws))
    (h : ∀ (T : Addr) (kV doc pm : Value) (an : Option Addr) (cdv ct : Value) (us its ws : List Value), us.length = n → its.length = dvs.length → ws.length = ks.length →
      ∃ k, bindArgs (PySem.W.fnOf x qual params body scope (.ref T) kV doc pm an cdv ct) ⟨us, ks.zip ws⟩ = seqItems? (.ref T) >>= k ∧ k (some its.toArray) = pure (ps.zip (g us ws))) :
    KBn K fd ps n ks (fun us ws => g us ws) (fun vs zs => g vs zs) := by
  obtain ⟨oc, od, dV, kV, doc, pm, an, cdv, ct, osl, rfl, lk, hcd, hD, hK⟩ := F.ex
  rcases hD with ⟨e, _⟩ | ⟨_, T, o, its, m, rfl, lT, oT, rT⟩
  · exact absurd e hd
  · refine ⟨fun s us ws X l1 l2 => ?_, fun r1 r2 => hrel r1 r2⟩
    obtain ⟨k, e1, e2⟩ := h T kV doc pm an cdv ct us its ws l1 rT.length.symm l2
    refine BindsTo.of_looks fun M => ?_
    rw [e1]
    exact looks_items X lT oT (.of_pure e2)
end ZX
set_option maxHeartbeats 2000000
namespace ZX
open PySem PySem.Spec PyProof.Rows L2 He
/-! ### o.m(e, ..), what it lets out told at the slots -/
def tMethE (C : Addr) (m : Str) (sp : Sp) (E : L2.St → XK) (ta : TE) (t : TA) : TE := fun σ H Q => ta σ H fun x H1 => ∃ a dx fs, x = .ref a ∧ H1 a = some (.ins C dx fs) ∧ fs.lookup m = none ∧ t σ H1 fun vs H2 => sp (x :: vs) H2 Q (E σ)
section
variable {X : Cx} {CX : CXT} {k : Nat} {f C : Addr} {fd : FuncData} {ps : List Str} {sp : Sp} {E : L2.St → XK} {x m : Str} {p pos apos : Pos} {e o : Expr} {es : List Expr} {ta : TE} {t : TA}
theorem pe_methE {pl : Sem Bool} (he : PE X o ta) (c : Cls X.K C) (hm : Meth X.K C m f) (F : FnOk X.prog X.w X.K X.mg X.base CX k f fd ps sp) (hr : Room k X.A) (hb : Binds X.K fd ps []) (hx : ∀ σ, PassesAt CX X σ (E σ)) (ha : PA X (e :: es) t)
    (hst : starEach (e :: es) X.env = (false, eval e X.env) :: starEach es X.env := by rfl) (hpl : (backTo pos (starEach es X.env)).any (·.1) = false := by rfl)
    (ht : eval (.Call (.Attribute o m apos) (e :: es) [] pos) X.env = (do
      let ov ← eval o X.env
      standAt apos.atName
      let (f, first) ← holding [ov] (getMethod ov m pl)
      callWith pos f first (backTo pos (starEach (e :: es) X.env)) (backToKw pos (keywordEach [] X.env))) := by rfl) :
    PE X (.Call (.Attribute o m apos) (e :: es) [] pos) (tMethE C m sp E ta t) := by
  refine ⟨fun pins s σ H Q I h => ?_⟩
  refine PySem.W.methodCall_KW (pl := pl) (thn (he.run pins s σ H _ I h) fun u s1 ⟨x, H1, I1, rx, a, dx, fs, ex, ea, l, q⟩ => ?_) ht
  subst ex
  obtain rfl : u = Value.ref a := rx
  refine getmeth_ok I1 ea c hm l ?_
  refine PySem.W.callWith_K (first := [.ref a]) (h₀ := X.base) I.ok.mod.kin hm.kp (thn (ha.run pos pins s1 σ H1 _ I1 q) fun us s2 ⟨vs, H2, I2, r, q2⟩ => ⟨I2.kIn, ?_⟩) hst hpl
  exact run_fnS (us := .ref a :: us) (vs := .ref a :: vs) F hr hb (hx σ) I2 (.cons rfl r) q2
end
end ZX
set_option maxHeartbeats 4000000
namespace ZX
open PySem PySem.Spec PyProof.Rows L2 TL Evl
/-! ### o.m() by a positional promise; o.m(k = v, ..) whose errors are told at slots; a default tuple of which some are used -/
section
variable {X : Cx} {CX : CXT} {k : Nat} {f C : Addr} {fd : FuncData} {ps ks : List Str} {sp : Sp} {x m : Str} {p pos apos : Pos} {e o : Expr} {es : List Expr} {ta : TE} {t tk : TA} {kws : List Keyword} {gg : List Value → List Value → List Value} {gV : List V → List V → List V}
theorem pe_methR0 {E : XK} {pl : Sem Bool} (he : PE X o ta) (c : Cls X.K C) (hm : Meth X.K C m f) (F : FnR X.prog X.w X.K X.mg X.base CX k f sp) (hr : Room k X.A) (hx : Passes CX X E)
    (ht : eval (.Call (.Attribute o m apos) [] [] pos) X.env = (do
      let ov ← eval o X.env
      standAt apos.atName
      let (f, first) ← holding [ov] (getMethod ov m pl)
      callWith pos f first (backTo pos (starEach [] X.env)) (backToKw pos (keywordEach [] X.env))) := by rfl) :
    PE X (.Call (.Attribute o m apos) [] [] pos) (tMethR C m sp E ta tNil) := by
  refine ⟨fun pins s σ H Q I h => ?_⟩
  refine PySem.W.methodCall_KW (pl := pl) (thn (he.run pins s σ H _ I h) fun u s1 ⟨x, H1, I1, rx, a, dx, fs, ex, ea, l, q⟩ => ?_) ht
  subst ex
  obtain rfl : u = Value.ref a := rx
  refine getmeth_ok I1 ea c hm l ?_
  exact PySem.W.callWith_K0 (first := [.ref a]) I1.kIn hm.kp (wpAny_call (run_fnR (us := [.ref a]) (vs := [.ref a]) F hr hx I1 (.cons rfl .nil) q))
def tMethKE (C : Addr) (m : Str) (n : Nat) (sp : Sp) (gV : List V → List V → List V) (E : L2.St → XK) (ta : TE) (tk : TA) : TE := fun σ H Q => ta σ H fun x H1 => ∃ a dx fs, x = .ref a ∧ H1 a = some (.ins C dx fs) ∧ fs.lookup m = none ∧
  tk σ H1 fun zs H2 => zs.length = n ∧ sp (gV [x] zs) H2 Q (E σ)
theorem pe_methKE {E : L2.St → XK} {pl : Sem Bool} (he : PE X o ta) (c : Cls X.K C) (hm : Meth X.K C m f) (F : FnOk X.prog X.w X.K X.mg X.base CX k f fd ps sp) (hr : Room k X.A) (hb : KBn X.K fd ps 1 ks gg gV) (hx : ∀ σ, PassesAt CX X σ (E σ)) (hkw : PK X kws tk)
    (hall : (backToKw pos (keywordEach kws X.env)).all (·.1.isSome) = true := by rfl) (hks : (backToKw pos (keywordEach kws X.env)).filterMap (·.1) = ks := by rfl)
    (hpl : ((backTo pos (starEach [] X.env)).any (·.1) || (backToKw pos (keywordEach kws X.env)).any (·.1.isNone)) = false := by rfl)
    (ht : eval (.Call (.Attribute o m apos) [] kws pos) X.env = (do
      let ov ← eval o X.env
      standAt apos.atName
      let (f, first) ← holding [ov] (getMethod ov m pl)
      callWith pos f first (backTo pos (starEach [] X.env)) (backToKw pos (keywordEach kws X.env))) := by rfl) :
    PE X (.Call (.Attribute o m apos) [] kws pos) (tMethKE C m ks.length sp gV E ta tk) := by
  refine ⟨fun pins s σ H Q I h => ?_⟩
  refine PySem.W.methodCall_KW (pl := pl) (thn (he.run pins s σ H _ I h) fun u s1 ⟨x, H1, I1, rx, a, dx, fs, ex, ea, l, q⟩ => ?_) ht
  subst ex
  obtain rfl : u = Value.ref a := rx
  refine getmeth_ok I1 ea c hm l ?_
  refine PySem.W.callWith_KW0 (first := [.ref a]) (h₀ := X.base) I1.ok.mod.kin hm.kp hall ?_ hpl
  refine thn (hkw.run pos pins s1 σ H1 _ I1 q) fun ws s2 ⟨zs, H2, I2, rz, l2, q2⟩ => ⟨I2.kIn, ?_⟩
  rw [hks]
  exact run_fnKS (us := [.ref a]) (vs := [.ref a]) F hr hb (hx σ) I2 (.cons rfl .nil) rz rfl l2 q2
end
theorem kbDfl {K : PySem.W.Frag} {x qual : Str} {params : Arguments} {body : List Stmt} {scope : Scope} {dvs : List V} {kws : List (Str × V)} {f : Addr} {fd : FuncData} {ps : List Str} (F : FunD K x qual params body scope dvs kws f fd) (n : Nat) (ks : List Str)
    (g : {α : Type} → List α → List α → List α → List α) (hd : dvs ≠ [])
    (hrel : ∀ {vs ds zs : List V} {us its ws : List Value}, Vals vs us → Vals ds its → Vals zs ws → Vals (g vs ds zs) (g us its ws))
    (h : ∀ (T : Addr) (kV doc pm : Value) (an : Option Addr) (cdv ct : Value) (us its ws : List Value), us.length = n → its.length = dvs.length → ws.length = ks.length →
      ∃ k, bindArgs (PySem.W.fnOf x qual params body scope (.ref T) kV doc pm an cdv ct) ⟨us, ks.zip ws⟩ = seqItems? (.ref T) >>= k ∧ k (some its.toArray) = pure (ps.zip (g us its ws))) :
    ∃ gg, KBn K fd ps n ks gg (fun vs zs => g vs dvs zs) := by
  obtain ⟨oc, od, dV, kV, doc, pm, an, cdv, ct, osl, rfl, lk, hcd, hD, hK⟩ := F.ex
  rcases hD with ⟨e, _⟩ | ⟨_, T, o, its, m, rfl, lT, oT, rT⟩
  · exact absurd e hd
  · refine ⟨fun us ws => g us its ws, fun s us ws X l1 l2 => ?_, fun r1 r2 => hrel r1 rT r2⟩
    obtain ⟨k, e1, e2⟩ := h T kV doc pm an cdv ct us its ws l1 rT.length.symm l2
    refine BindsTo.of_looks fun M => ?_
    rw [e1]
    exact looks_items X lT oT (.of_pure e2)
end ZX
namespace Z
open PySem PySem.Spec PyProof.Rows L2 TL Evl
/-! ### longer texts -/
section
variable {K : PySem.W.Frag} {σ : L2.St} {H : Hp} {te tb : TE} {a : Str}
theorem ev_lenStrW (h : Ev te σ H (.str a)) (hz : a.length ≤ 200000) : Ev (tCB rLenStr (tCons te tNil)) σ H (.int (a.length : Int)) := fun H1 e Q q => h H1 e _ fun H2 e2 => ⟨a, rfl, Nat.le_trans hz (by decide), q H2 e2⟩
theorem ev_slSW {tl' th : TO} {lo hi : Option Int} (h : Ev te σ H (.str a)) (h1 : EvO tl' σ H lo) (h2 : EvO th σ H hi) (hz : a.length ≤ 200000) : Ev (tSl rSlS te tl' th) σ H (.str (cutS a lo hi)) := fun H1 e Q q =>
  h H1 e _ fun H2 e2 => h1 H2 (e.trans e2) _ fun H3 e3 => h2 H3 ((e.trans e2).trans e3) _ fun H4 e4 => ⟨a, rfl, Nat.le_trans hz (by decide), q H4 ((e2.trans e3).trans e4)⟩
end
def rRepW : R2 := fun x y H Q => ∃ (z : Str) (i : Int), x = .str z ∧ y = .int i ∧ 0 ≤ i ∧ i ≤ 200000 ∧ z.length ≤ 1 ∧ Q (.str (repS z i.toNat)) H
theorem op_repW {X : Cx} : OpR X (binaryOp .Mult) rRepW := by
  intro pins s σ H x y v u Q I rx ry h
  obtain ⟨z, i, rfl, rfl, h0, h1, hz, q⟩ := h
  obtain ⟨t, rfl⟩ := rx
  obtain ⟨t', rfl⟩ := ry
  have hle : z.length * i.toNat ≤ 200000 := Nat.le_trans (Nat.mul_le_mul hz (show i.toNat ≤ 200000 by omega)) (by decide)
  refine PySem.P.mul_str ?_ (fun hn _ hgt => ?_) (fun _ _ => PyProof.Rows.short24 (by omega)) ?_
  · rw [decide_eq_false (show ¬ i < -(2 ^ 63) by omega), decide_eq_false (show ¬ i ≥ 2 ^ 63 by omega)]
    rfl
  · have h2 : i ∣ i := Int.dvd_refl i
    have h3 : (2 ^ 63 - 1) / (200000 : Int) ≤ (2 ^ 63 - 1) / i := by
      have : (2 ^ 63 - 1) / (200000 : Int) * i ≤ 2 ^ 63 - 1 := by
        have e : (2 ^ 63 - 1) / (200000 : Int) = 46116860184273 := by decide
        rw [e]
        omega
      exact (Int.le_ediv_iff_mul_le (by omega)).mpr this
    have e : (2 ^ 63 - 1) / (200000 : Int) = 46116860184273 := by decide
    rw [e] at h3
    omega
  · by_cases hn : i < 1
    · rw [if_pos hn]
      have : repS z i.toNat = Str.empty := by unfold repS; rw [if_pos (show i.toNat = 0 by omega)]
      rw [this] at q
      exact ⟨by decide, ⟨.str Str.empty, H, I.tok _, ⟨_, rfl⟩, q⟩⟩
    · rw [if_neg hn]
      have e1 : (i == 1) = (i.toNat == 1) := by
        by_cases h : i = 1
        · subst h; rfl
        · rw [beq_eq_false_iff_ne.mpr h, beq_eq_false_iff_ne.mpr (show i.toNat ≠ 1 by omega)]
      have e2 : repS z i.toNat = if (i.toNat == 1 || z.length == 0) = true then z else ⟨(List.replicate i.toNat z.cps).foldl (· ++ ·) #[]⟩ := by
        unfold repS
        rw [if_neg (show ¬ i.toNat = 0 by omega)]
      have hl := repS_len z i.toNat
      rw [e2] at q hl
      rw [e1]
      by_cases hc : (i.toNat == 1 || z.length == 0) = true
      · rw [if_pos hc] at q ⊢
        exact ⟨.str z, H, I, ⟨t, rfl⟩, q⟩
      · rw [if_neg hc] at q hl ⊢
        refine ⟨?_, ⟨.str _, H, I.tok _, ⟨_, rfl⟩, q⟩⟩
        rw [hl, sizeLine_eq]
        rw [Nat.mul_comm] at hle
        omega
/-- a comprehension over a tuple -/
theorem lc_relT {K : PySem.W.Frag} {a : Addr} {xs : List V} {g : TG} {tt : TT} {te : TE} {vs : List Nat} {σ : L2.St} {H0 : Hp} {D : Addr} {Qd : Hp → Prop} {α : Type} (acc : Nat → List α) (R : Hp → V → α → Prop)
    (mono : ∀ H1 H2 x o, (∀ b ob, b ≠ D → H1 b = some ob → H2 b = some ob) → (∃ ys, H1 D = some (.lst ys)) → R H1 x o → R H2 x o)
    (hx : ∀ H, Ex H0 H → SqT K H a xs) (hD : H0 D = none) (h00 : acc 0 = []) (hz : xs.length ≤ 50000)
    (hs : ∀ i x H, xs[i]? = some x → Ex H0 H → ∀ (k : VK) (k0 : Hp → Prop), (∀ y H4 o, Ex H H4 → acc (i + 1) = acc i ++ [o] → R H4 y o → k y H4) → (∀ H3, Ex H H3 → acc (i + 1) = acc i → k0 H3) →
      g x (wipe σ vs) H fun σ2 H2 => wipe σ2 vs = wipe σ vs ∧ tt σ2 H2 fun b H3 => if b = true then te σ2 H3 k else k0 H3)
    (hd : ∀ H ys, Ex H0 H → H D = some (.lst ys) → Rel (R H) ys (acc xs.length) → Qd H) :
    ∃ W : Nat → Nat → Hp → Prop, (∃ m, W 0 m (upd H0 D (.lst []))) ∧ ∀ i m H, W i m H →
      ((Itt K a).stop i H ∧ Qd H) ∨ ((Itt K a).go i H ∧ ∃ Nx : Hp → Prop, (∀ H', Nx H' → ∃ m', m' < m ∧ W (i + 1) m' H') ∧ ∀ x H', (Itt K a).yld i H x H' → g x (wipe σ vs) H' fun σ2 H2 => wipe σ2 vs = wipe σ vs ∧ tt σ2 H2 fun b H3 =>
        if b = true then te σ2 H3 fun y H4 => ∃ acc, H4 D = some (.lst acc) ∧ acc.length < sizeLine ∧ Nx (upd H4 D (.lst (acc ++ [y]))) else Nx H3) := by
  refine lc_tup (xs := xs) (fun i H => Ex H0 H ∧ ∃ ys, H D = some (.lst ys) ∧ ys.length ≤ i ∧ Rel (R H) ys (acc i)) ⟨Ex.new hD, [], upd_same, Nat.le_refl _, by rw [h00]; exact Rel.nil⟩ (fun i H _ p => hx H p.1) (fun i x H hi p => ?_) (fun H p => ?_)
  · obtain ⟨e0, ys, hy, hl, hr⟩ := p
    have hi2 : i < xs.length := (List.getElem?_eq_some_iff.mp hi).1
    refine hs i x H hi e0 _ _ (fun y H4 o e4 ea r => ?_) (fun H3 e3 ea => ?_)
    · refine ⟨ys, e4 _ _ hy, sz_lt (by omega), Ex.mut (e0.trans e4) hD, ys ++ [y], upd_same, by rw [List.length_append]; exact Nat.add_le_add_right hl 1, ?_⟩
      rw [ea]
      refine Rel.snoc (hr.mono fun x o q => ?_) ?_
      · exact mono _ _ x o (fun b ob hb h => by rw [upd_ne hb]; exact h) ⟨ys, e4 _ _ hy⟩ (mono _ _ x o (fun b ob _ h => e4 b ob h) ⟨ys, hy⟩ q)
      · exact mono _ _ y o (fun b ob hb h => by rw [upd_ne hb]; exact h) ⟨ys, e4 _ _ hy⟩ r
    · refine ⟨e0.trans e3, ys, e3 _ _ hy, by omega, ?_⟩
      rw [ea]
      exact hr.mono fun x o q => mono _ _ x o (fun b ob _ h => e3 b ob h) ⟨ys, hy⟩ q
  · obtain ⟨e0, ys, hy, hl, hr⟩ := p
    exact hd H ys e0 hy hr
end Z
set_option maxHeartbeats 4000000
namespace Z
open PySem PySem.Spec PyProof.Rows L2 TL Evl
theorem sc_consists_of : FnScope ["text", "signs"] ["text", "signs"] (L2.defScope s_consists_of) := ⟨rfl, rfl, rfl, by decide +kernel, rfl, by decide +kernel, by decide +kernel⟩
theorem sc_is_plain : FnScope ["text"] ["text"] (L2.defScope s_is_plain) := ⟨rfl, rfl, rfl, by decide +kernel, rfl, by decide +kernel, by decide +kernel⟩
theorem sc_is_plain_lines : FnScope ["text"] ["text"] (L2.defScope s_is_plain_lines) := ⟨rfl, rfl, rfl, by decide +kernel, rfl, by decide +kernel, by decide +kernel⟩
theorem sc_is_path : FnScope ["text"] ["text"] (L2.defScope s_is_path) := ⟨rfl, rfl, rfl, by decide +kernel, rfl, by decide +kernel, by decide +kernel⟩
theorem sc_is_word : FnScope ["text", "most"] ["text", "most"] (L2.defScope s_is_word) := ⟨rfl, rfl, rfl, by decide +kernel, rfl, by decide +kernel, by decide +kernel⟩
theorem sc_is_field_name : FnScope ["text"] ["text"] (L2.defScope s_is_field_name) := ⟨rfl, rfl, rfl, by decide +kernel, rfl, by decide +kernel, by decide +kernel⟩
theorem sc_is_value : FnScope ["text"] ["text"] (L2.defScope s_is_value) := ⟨rfl, rfl, rfl, by decide +kernel, rfl, by decide +kernel, by decide +kernel⟩
theorem sc_are_fields : FnScope ["fields", "name", "value"] ["fields"] (L2.defScope s_are_fields) := ⟨rfl, rfl, rfl, by decide +kernel, rfl, by decide +kernel, by decide +kernel⟩
theorem sc_is_body : FnScope ["text"] ["text"] (L2.defScope s_is_body) := ⟨rfl, rfl, rfl, by decide +kernel, rfl, by decide +kernel, by decide +kernel⟩
theorem sc_law_bag : FnScope ["script", "k", "cell"] ["script", "k"] (L2.defScope s_law_bag) := ⟨rfl, rfl, rfl, by decide +kernel, rfl, by decide +kernel, by decide +kernel⟩
theorem sc_law_draw : FnScope ["bag", "size", "digit", "one", "two", "three"] ["bag", "size"] (L2.defScope s_law_draw) := ⟨rfl, rfl, rfl, by decide +kernel, rfl, by decide +kernel, by decide +kernel⟩
theorem sc_law_pick : FnScope ["bag", "things"] ["bag", "things"] (L2.defScope s_law_pick) := ⟨rfl, rfl, rfl, by decide +kernel, rfl, by decide +kernel, by decide +kernel⟩
theorem sc_law_most : FnScope ["bag", "small", "large"] ["bag", "small", "large"] (L2.defScope s_law_most) := ⟨rfl, rfl, rfl, by decide +kernel, rfl, by decide +kernel, by decide +kernel⟩
theorem sc_law_word : FnScope ["bag", "signs", "least", "most", "size", "k"] ["bag", "signs", "least", "most"] (L2.defScope s_law_word) := ⟨rfl, rfl, rfl, by decide +kernel, rfl, by decide +kernel, by decide +kernel⟩
theorem sc_law_letters : FnScope [] [] (L2.defScope s_law_letters) := ⟨rfl, rfl, rfl, by decide +kernel, rfl, by decide +kernel, by decide +kernel⟩
theorem sc_law_signs : FnScope ["low"] [] (L2.defScope s_law_signs) := ⟨rfl, rfl, rfl, by decide +kernel, rfl, by decide +kernel, by decide +kernel⟩
theorem sc_law_all_in : FnScope ["text", "signs", "sign"] ["text", "signs"] (L2.defScope s_law_all_in) := ⟨rfl, rfl, rfl, by decide +kernel, rfl, by decide +kernel, by decide +kernel⟩
theorem sc_law_is_path : FnScope ["text", "signs"] ["text"] (L2.defScope s_law_is_path) := ⟨rfl, rfl, rfl, by decide +kernel, rfl, by decide +kernel, by decide +kernel⟩
theorem sc_law_is_name : FnScope ["text"] ["text"] (L2.defScope s_law_is_name) := ⟨rfl, rfl, rfl, by decide +kernel, rfl, by decide +kernel, by decide +kernel⟩
theorem sc_law_is_value : FnScope ["text"] ["text"] (L2.defScope s_law_is_value) := ⟨rfl, rfl, rfl, by decide +kernel, rfl, by decide +kernel, by decide +kernel⟩
theorem sc_law_statuses : FnScope [] [] (L2.defScope s_law_statuses) := ⟨rfl, rfl, rfl, by decide +kernel, rfl, by decide +kernel, by decide +kernel⟩
theorem sc_law_methods : FnScope [] [] (L2.defScope s_law_methods) := ⟨rfl, rfl, rfl, by decide +kernel, rfl, by decide +kernel, by decide +kernel⟩
theorem sc_law_may : FnScope ["side", "first"] ["side", "first"] (L2.defScope s_law_may) := ⟨rfl, rfl, rfl, by decide +kernel, rfl, by decide +kernel, by decide +kernel⟩
theorem sc_law_due : FnScope ["world", "side", "bad", "field"] ["world"] (L2.defScope s_law_due) := ⟨rfl, rfl, rfl, by decide +kernel, rfl, by decide +kernel, by decide +kernel⟩
theorem sc_law_name : FnScope ["bag", "tail", "name"] ["bag"] (L2.defScope s_law_name) := ⟨rfl, rfl, rfl, by decide +kernel, rfl, by decide +kernel, by decide +kernel⟩
theorem sc_law_value : FnScope ["bag"] ["bag"] (L2.defScope s_law_value) := ⟨rfl, rfl, rfl, by decide +kernel, rfl, by decide +kernel, by decide +kernel⟩
theorem sc_law_odd_field : FnScope ["bag", "name", "value", "way", "names", "values"] ["bag", "name", "value"] (L2.defScope s_law_odd_field) := ⟨rfl, rfl, rfl, by decide +kernel, rfl, by decide +kernel, by decide +kernel⟩
theorem sc_law_fields : FnScope ["bag", "names", "count", "fields", "k", "at"] ["bag", "names"] (L2.defScope s_law_fields) := ⟨rfl, rfl, rfl, by decide +kernel, rfl, by decide +kernel, by decide +kernel⟩
theorem sc_law_world : FnScope ["bag", "names", "side", "path", "first", "odd", "fields", "body"] ["bag", "names"] (L2.defScope s_law_world) := ⟨rfl, rfl, rfl, by decide +kernel, rfl, by decide +kernel, by decide +kernel⟩
theorem sc_law_request : FnScope ["way", "world", "given"] ["way", "world", "given"] (L2.defScope s_law_request) := ⟨rfl, rfl, rfl, by decide +kernel, rfl, by decide +kernel, by decide +kernel⟩
theorem sc_law_response : FnScope ["way", "world", "given"] ["way", "world", "given"] (L2.defScope s_law_response) := ⟨rfl, rfl, rfl, by decide +kernel, rfl, by decide +kernel, by decide +kernel⟩
theorem sc_law_make : FnScope ["way", "as_list", "world", "given", "made", "error", "plain"] ["way", "as_list", "world"] (L2.defScope s_law_make) := ⟨rfl, rfl, rfl, by decide +kernel, rfl, by decide +kernel, by decide +kernel⟩
theorem sc_law_start : FnScope ["world"] ["world"] (L2.defScope s_law_start) := ⟨rfl, rfl, rfl, by decide +kernel, rfl, by decide +kernel, by decide +kernel⟩
theorem sc_law_same : FnScope ["told", "world", "may"] ["told", "world"] (L2.defScope s_law_same) := ⟨rfl, rfl, rfl, by decide +kernel, rfl, by decide +kernel, by decide +kernel⟩
theorem sc_law_values_right : FnScope ["told", "fields", "name", "due", "field", "found"] ["told", "fields", "name"] (L2.defScope s_law_values_right) := ⟨rfl, rfl, rfl, by decide +kernel, rfl, by decide +kernel, by decide +kernel⟩
theorem sc_law_with_right : FnScope ["told", "world", "name", "value", "fields", "field", "good", "made", "error"] ["told", "world", "name", "value"] (L2.defScope s_law_with_right) := ⟨rfl, rfl, rfl, by decide +kernel, rfl, by decide +kernel, by decide +kernel⟩
theorem sc_law_without_right : FnScope ["told", "world", "name", "other", "none", "kept", "field", "one"] ["told", "world", "name", "other"] (L2.defScope s_law_without_right) := ⟨rfl, rfl, rfl, by decide +kernel, rfl, by decide +kernel, by decide +kernel⟩
theorem sc_law_near : FnScope ["bag", "world", "near", "way"] ["bag", "world"] (L2.defScope s_law_near) := ⟨rfl, rfl, rfl, by decide +kernel, rfl, by decide +kernel, by decide +kernel⟩
theorem sc_law_equal_right : FnScope ["bag", "told", "world", "near", "other", "twin", "same", "strange", "field"] ["bag", "told", "world"] (L2.defScope s_law_equal_right) := ⟨rfl, rfl, rfl, by decide +kernel, rfl, by decide +kernel, by decide +kernel⟩
theorem sc_law_fetch_right : FnScope ["world"] ["world"] (L2.defScope s_law_fetch_right) := ⟨rfl, rfl, rfl, by decide +kernel, rfl, by decide +kernel, by decide +kernel⟩
theorem sc_law_made_right : FnScope ["bag", "told", "world", "names", "name", "new", "odd"] ["bag", "told", "world", "names"] (L2.defScope s_law_made_right) := ⟨rfl, rfl, rfl, by decide +kernel, rfl, by decide +kernel, by decide +kernel⟩
theorem sc_law_right : FnScope ["bag", "names", "k", "world", "due", "told"] ["bag"] (L2.defScope s_law_right) := ⟨rfl, rfl, rfl, by decide +kernel, rfl, by decide +kernel, by decide +kernel⟩
theorem sc_law : FnScope ["script", "k"] ["script"] (L2.defScope s_law) := ⟨rfl, rfl, rfl, by decide +kernel, rfl, by decide +kernel, by decide +kernel⟩
/-- what the module's names stand for -/
structure Mg (mg : Str → Option Value) : Prop where
  len : mg "len" = none
  all : mg "all" = none
  any : mg "any" = none
  abs : mg "abs" = none
  sum : mg "sum" = none
  isinstance : mg "isinstance" = none
  range : mg "range" = none
  int : mg "int" = none
  bool : mg "bool" = none
  str : mg "str" = none
  min : mg "min" = none
  max : mg "max" = none
  list : mg "list" = none
  tuple : mg "tuple" = none
  LOWER : ∃ u, mg "LOWER" = some u ∧ RelV (.str "abcdefghijklmnopqrstuvwxyz") u
  WORD_SIGNS : ∃ u, mg "WORD_SIGNS" = some u ∧ RelV (.str "abcdefghijklmnopqrstuvwxyz0123456789-") u
  PATH_SIGNS : ∃ u, mg "PATH_SIGNS" = some u ∧ RelV (.str "abcdefghijklmnopqrstuvwxyz0123456789/-.") u
  MOST_PATH : ∃ u, mg "MOST_PATH" = some u ∧ RelV (.int 60) u
  MOST_NAME : ∃ u, mg "MOST_NAME" = some u ∧ RelV (.int 30) u
  MOST_VALUE : ∃ u, mg "MOST_VALUE" = some u ∧ RelV (.int 200) u
  ValueError : mg "ValueError" = none
/-! ### the law's draws -/
def Bg (H : Hp) (p : Addr) : Prop := ∃ (c0 : Int) (cv : V) (c2 : Int), H p = some (.lst [.int c0, cv, .int c2]) ∧ (cv = .non ∨ ∃ c : Int, cv = .int c ∧ c.natAbs < 2 ^ cap)
theorem Bg.ex {H H' : Hp} {p : Addr} (b : Bg H p) (e : Ex H H') : Bg H' p := by
  obtain ⟨c0, cv, c2, h, r⟩ := b
  exact ⟨c0, cv, c2, e _ _ h, r⟩
theorem Bg.has {H : Hp} {p : Addr} (b : Bg H p) : ∃ xs, H p = some (.lst xs) := by
  obtain ⟨c0, cv, c2, h, _⟩ := b
  exact ⟨_, h⟩
theorem Bg.ne {H : Hp} {p l : Addr} (b : Bg H p) (h : H l = none) : l ≠ p := by
  obtain ⟨c0, cv, c2, hb, _⟩ := b
  exact fun e => by rw [e, hb] at h; cases h
theorem Bg.upd {H : Hp} {p l : Addr} {o : HO} (b : Bg H p) (n : l ≠ p) : Bg (upd H l o) p := by
  obtain ⟨c0, cv, c2, h, r⟩ := b
  exact ⟨c0, cv, c2, by rw [upd_ne (Ne.symm n)]; exact h, r⟩
theorem Bg.free {H H' : Hp} {p l : Addr} (b : Bg H' p) (k : Keep p H H') (h : H' l = none) : H l = none := by
  cases q : H l with
  | none => rfl
  | some o => rw [k l o (b.ne h) q] at h; cases h
theorem tlTJ (ps : List Str) : tl (Txt.join "" ps) = ps.flatMap tl := by
  cases ps with
  | nil => decide +kernel
  | cons p r =>
    rw [join_tl, List.flatMap_cons]
    congr 1
theorem lenTJ (ps : List Str) : (Txt.join "" ps).length = (ps.map (·.length)).sum := by
  rw [← len_tl', tlTJ, List.length_flatMap]
  congr 1
def spBg (K : PySem.W.Frag) : Sp := fun vs H Q _ => ∃ (a : Addr) (ns : List Int) (i : Nat), vs = [.ref a, .int (i : Int)] ∧ SqL K H a (ns.map V.int) ∧ ns.length ≤ 63 ∧ i ≤ 63 ∧ (∀ z ∈ ns, z.natAbs < 2 ^ cap) ∧ ∀ (p : Addr) (H' : Hp), H p = none → Ex H H' → Bg H' p → Q (.ref p) H'
def spDr : Sp := fun vs H Q _ => ∃ (p : Addr) (size : Int), vs = [.ref p, .int size] ∧ Bg H p ∧ 1 ≤ size ∧ size ≤ 1000000 ∧ ∀ (d : Int) (H' : Hp), 0 ≤ d → d < size → Bg H' p → Keep p H H' → Q (.int d) H'
def spPk : Sp := fun vs H Q _ => ∃ (p l : Addr) (xs : List V), vs = [.ref p, .ref l] ∧ Bg H p ∧ l ≠ p ∧ H l = some (.lst xs) ∧ 1 ≤ xs.length ∧ xs.length ≤ 1000 ∧ ∀ (v : V) (H' : Hp), v ∈ xs → Bg H' p → Keep p H H' → Q v H'
def spMo : Sp := fun vs H Q _ => ∃ (p : Addr) (a b : Int), vs = [.ref p, .int a, .int b] ∧ Bg H p ∧ ∀ (v : Int) (H' : Hp), v = a ∨ v = b → Bg H' p → Keep p H H' → Q (.int v) H'
/-- a word of `least` to `most` signs of z -/
def spWd : Sp := fun vs H Q _ => ∃ (p : Addr) (z : Str) (least most : Int), vs = [.ref p, .str z, .int least, .int most] ∧ Bg H p ∧ 1 ≤ z.length ∧ z.length ≤ 1000 ∧ 0 ≤ least ∧ least ≤ most ∧ most ≤ 1000 ∧
  ∀ (t : Str) (H' : Hp), least ≤ (t.length : Int) → (t.length : Int) ≤ most → (∀ c ∈ tl t, c ∈ tl z) → Bg H' p → Keep p H H' → Q (.str t) H'
section
variable {P : Program} {w : World} {K : PySem.W.Frag} {mg : Str → Option Value} {base : Heap} {f : Addr} {fd : FuncData} {k : Nat}
abbrev CDr (P : Program) (w : World) (K : PySem.W.Frag) (mg : Str → Option Value) (base : Heap) : Prop := Call P w K mg base 1 "_law_draw" ["bag", "size"] spDr
abbrev CPk (P : Program) (w : World) (K : PySem.W.Frag) (mg : Str → Option Value) (base : Heap) : Prop := Call P w K mg base 2 "_law_pick" ["bag", "things"] spPk
abbrev CMo (P : Program) (w : World) (K : PySem.W.Frag) (mg : Str → Option Value) (base : Heap) : Prop := Call P w K mg base 2 "_law_most" ["bag", "small", "large"] spMo
abbrev CWd (P : Program) (w : World) (K : PySem.W.Frag) (mg : Str → Option Value) (base : Heap) : Prop := Call P w K mg base 2 "_law_word" ["bag", "signs", "least", "most"] spWd
theorem ok_consists_of (T : Mg mg) (F : FnP K "consists_of" s_consists_of f fd) (gm : mg "consists_of" = some (.ref f)) : Call P w K mg base 1 "consists_of" ["text", "signs"] (sp2 fun z s => .bl (allIn z s)) := by
  refine mk F gm (fun _ _ _ _ _ _ us hl => match us, hl with | [_, _], _ => rfl) (fun _ _ _ _ _ _ us hl => match us, hl with | [_, _], _ => rfl) sc_consists_of (fun vs H Q E h => ?_) (fun cdv A outer s H vs Q E hr h => ?_)
  · obtain ⟨z, s, rfl, _⟩ := h
    rfl
  · obtain ⟨z, s, rfl, hz, q⟩ := h
    refine ⟨_, (pss_one (ps_ret (pe_cmpR op_eq (pe_bm PySem.F.plainAttrs_str PySem.F.slot_str_strip PySem.F.type_str_strip mz_strip (pv 0) (pa_cons (pv 1) pa_nil)) pe_str (nomark _)))), ?_⟩
    refine s_ret (v := .bl (allIn z s)) (ev_is (ev_op (ev_strip (ev_var rfl) (ev_var rfl) hz) ev_c rv_eqS) ?_) q
    rw [strip_all]
theorem ok_is_plain (T : Mg mg) (F : FnP K "is_plain" s_is_plain f fd) (gm : mg "is_plain" = some (.ref f)) : Call P w K mg base 1 "is_plain" ["text"] (sp1 fun z => .bl (allIn z signs)) := by
  refine mk F gm (fun _ _ _ _ _ _ us hl => match us, hl with | [_], _ => rfl) (fun _ _ _ _ _ _ us hl => match us, hl with | [_], _ => rfl) sc_is_plain (fun vs H Q E h => ?_) (fun cdv A outer s H vs Q E hr h => ?_)
  · obtain ⟨z, rfl, _⟩ := h
    rfl
  · obtain ⟨z, rfl, hz, q⟩ := h
    refine ⟨_, (pss_one (ps_ret (pe_and (pe_bm0 PySem.F.plainAttrs_str PySem.F.slot_str_isascii PySem.F.type_str_isascii mz_isascii (pv 0)) (pe_and (pe_bm0 PySem.F.plainAttrs_str PySem.F.slot_str_isprintable PySem.F.type_str_isprintable mz_isprint (pv 0)) (pe_one (pe_cmpR op_eq (pe_bm PySem.F.plainAttrs_str PySem.F.slot_str_translate PySem.F.type_str_translate (mz_trans rfl) (pv 0) (pa_cons (pe_disp (pps_cons pe_int pe_non pps_nil) (by rfl) (by rfl) (fun z => by cases z) (by decide)) pa_nil)) (pv 0) (nomark _))))))), ?_⟩
    refine s_ret (v := .bl (allIn z signs)) (ev_is (ev_andV (ev_isascii (ev_var rfl)) fun h1 => ev_andV (ev_isprint (ev_var rfl)) fun h2 => ev_op (ev_trans (ev_var rfl) ?_ hz) (ev_var rfl) rv_eqS) ?_) q
    · rw [isascii_tl] at h1
      exact fun c hc => of_decide_eq_true (List.all_eq_true.mp h1 c hc)
    · rw [plain_eq]
theorem ok_is_word (T : Mg mg) (c_consists_of : Call P w K mg base 1 "consists_of" ["text", "signs"] (sp2 fun z s => .bl (allIn z s))) (F : FnP K "is_word" s_is_word f fd) (gm : mg "is_word" = some (.ref f)) :
    Call P w K mg base 2 "is_word" ["text", "most"] (fun vs H Q _ => ∃ (z : Str) (m : Int), vs = [.str z, .int m] ∧ z.length ≤ 100000 ∧ RetV (.bl (wordB z m)) H Q) := by
  refine mk F gm (fun _ _ _ _ _ _ us hl => match us, hl with | [_, _], _ => rfl) (fun _ _ _ _ _ _ us hl => match us, hl with | [_, _], _ => rfl) sc_is_word (fun vs H Q E h => ?_) (fun cdv A outer s H vs Q E hr h => ?_)
  · obtain ⟨z, m, rfl, _⟩ := h
    rfl
  · obtain ⟨z, m, rfl, hz, q⟩ := h
    refine ⟨_, (pss_one (ps_ret (pe_and (pe_chain op_le op_le pe_int (pe_callB cz_len (by rfl) T.len (by decide +kernel) (pa_cons (pv 0) pa_nil)) (pv 1)) (pe_and (pe_cmpR op_inS (pe_ix ix_str (pv 0) pe_int (fun _ _ => rfl)) (pe_gc rfl T.LOWER) rfl) (pe_one (pe_f c_consists_of hr (by decide) rfl (pa_cons (pv 0) (pa_cons (pe_gc rfl T.WORD_SIGNS) pa_nil)))))))), ?_⟩
    refine s_ret (v := .bl (wordB z m)) (ev_andV (ev_chain ev_c (ev_lenStr (ev_var rfl) hz) (ev_var rfl)) fun h1 => ?_) q
    obtain ⟨c, e1, e2⟩ := item0 (z := z) (by have := (pl h1).1; omega)
    refine ev_andV (ev_is (ev_op (ev_ixS (ev_var rfl) ev_c hz e2) ev_c rv_in) ?_) fun h2 => ev_call (ea_cons (ev_var rfl) (ea_cons ev_c ea_nil)) (sv2 hz)
    unfold hdIn
    rw [e1]
theorem ok_is_field_name (T : Mg mg) (c_is_word : Call P w K mg base 2 "is_word" ["text", "most"] (fun vs H Q _ => ∃ (z : Str) (m : Int), vs = [.str z, .int m] ∧ z.length ≤ 100000 ∧ RetV (.bl (wordB z m)) H Q)) (F : FnP K "is_field_name" s_is_field_name f fd) (gm : mg "is_field_name" = some (.ref f)) :
    Call P w K mg base 3 "is_field_name" ["text"] (sp1 fun z => .bl (nameB z)) := by
  refine mk F gm (fun _ _ _ _ _ _ us hl => match us, hl with | [_], _ => rfl) (fun _ _ _ _ _ _ us hl => match us, hl with | [_], _ => rfl) sc_is_field_name (fun vs H Q E h => ?_) (fun cdv A outer s H vs Q E hr h => ?_)
  · obtain ⟨z, rfl, _⟩ := h
    rfl
  · obtain ⟨z, rfl, hz, q⟩ := h
    refine ⟨_, (pss_one (ps_ret (pe_and (pe_f c_is_word hr (by decide) rfl (pa_cons (pv 0) (pa_cons (pe_gc rfl T.MOST_NAME) pa_nil))) (pe_one (pe_cmpR op_ne (pv 0) pe_str (nomark _)))))), ?_⟩
    exact s_ret (v := .bl (nameB z)) (ev_andV (ev_call (ea_cons (ev_var rfl) (ea_cons ev_c ea_nil)) fun H1 e Q q E => ⟨z, 30, rfl, hz, q⟩) fun h1 => ev_op (ev_var rfl) ev_c rv_neS) q
theorem ok_is_value (T : Mg mg) (c_is_plain : Call P w K mg base 1 "is_plain" ["text"] (sp1 fun z => .bl (allIn z signs))) (F : FnP K "is_value" s_is_value f fd) (gm : mg "is_value" = some (.ref f)) :
    Call P w K mg base 2 "is_value" ["text"] (sp1 fun z => .bl (valueB z)) := by
  refine mk F gm (fun _ _ _ _ _ _ us hl => match us, hl with | [_], _ => rfl) (fun _ _ _ _ _ _ us hl => match us, hl with | [_], _ => rfl) sc_is_value (fun vs H Q E h => ?_) (fun cdv A outer s H vs Q E hr h => ?_)
  · obtain ⟨z, rfl, _⟩ := h
    rfl
  · obtain ⟨z, rfl, hz, q⟩ := h
    refine ⟨_, (pss_one (ps_ret (pe_and (pe_cmpR op_le (pe_callB cz_len (by rfl) T.len (by decide +kernel) (pa_cons (pv 0) pa_nil)) (pe_gc rfl T.MOST_VALUE) (nomark _)) (pe_and (pe_f c_is_plain hr (by decide) rfl (pa_cons (pv 0) pa_nil)) (pe_one (pe_cmpR op_eq (pe_bm PySem.F.plainAttrs_str PySem.F.slot_str_strip PySem.F.type_str_strip mz_strip (pv 0) (pa_cons pe_str pa_nil)) (pv 0) (nomark _))))))), ?_⟩
    exact s_ret (v := .bl (valueB z)) (ev_andV (ev_op (ev_lenStr (ev_var rfl) hz) ev_c rv_I0) fun h1 => ev_andV (ev_call (ea_cons (ev_var rfl) ea_nil) (sv1 hz)) fun h2 => ev_op (ev_strip (ev_var rfl) ev_c hz) (ev_var rfl) rv_eqS) q
theorem ok_law_letters (T : Mg mg) (F : FnP K "_law_letters" s_law_letters f fd) (gm : mg "_law_letters" = some (.ref f)) : Call P w K mg base 1 "_law_letters" [] (sp0 (.str letters)) := by
  refine mk F gm (fun _ _ _ _ _ _ us hl => match us, hl with | [], _ => rfl) (fun _ _ _ _ _ _ us hl => match us, hl with | [], _ => rfl) sc_law_letters (fun vs H Q E h => ?_) (fun cdv A outer s H vs Q E hr h => ?_)
  · obtain ⟨rfl, _⟩ := h
    rfl
  · obtain ⟨rfl, q⟩ := h
    refine ⟨_, (pss_one (ps_ret pe_str)), ?_⟩
    exact s_ret (v := .str letters) ev_c q
theorem ok_law_signs (T : Mg mg) (F : FnP K "_law_signs" s_law_signs f fd) (gm : mg "_law_signs" = some (.ref f)) : Call P w K mg base 1 "_law_signs" [] (sp0 (.str signs)) := by
  refine mk F gm (fun _ _ _ _ _ _ us hl => match us, hl with | [], _ => rfl) (fun _ _ _ _ _ _ us hl => match us, hl with | [], _ => rfl) sc_law_signs (fun vs H Q E h => ?_) (fun cdv A outer s H vs Q E hr h => ?_)
  · obtain ⟨rfl, _⟩ := h
    rfl
  · obtain ⟨rfl, q⟩ := h
    refine ⟨_, (pss_cons (ps_set (i := 0) sc_law_signs.nd rfl (Or.inl rfl) pe_str)
    (pss_one (ps_ret (pe_op oz_add (pv 0) pe_str)))), ?_⟩
    exact q_asg ev_c fun H1 e1 => s_ret (v := .str signs) (ev_op (ev_var rfl) ev_c (rv_addS (by decide +kernel))) fun H2 e2 => q H2 (e1.trans e2)
theorem ok_law_bag (T : Mg mg) (F : FnP K "_law_bag" s_law_bag f fd) (gm : mg "_law_bag" = some (.ref f)) : Call P w K mg base 1 "_law_bag" ["script", "k"] (spBg K) := by
  refine mk F gm (fun _ _ _ _ _ _ us hl => match us, hl with | [_, _], _ => rfl) (fun _ _ _ _ _ _ us hl => match us, hl with | [_, _], _ => rfl) sc_law_bag (fun vs H Q E h => ?_) (fun cdv A outer s H vs Q E hr h => ?_)
  · obtain ⟨a, ns, i, rfl, _⟩ := h
    rfl
  · obtain ⟨a, ns, i, rfl, hS, hl, hi, hb, q⟩ := h
    refine ⟨_, (pss_cons (ps_if (pt_not (pt_truth (pv 0) (by intro _; rfl)))
      (pss_one (ps_ret (pe_lst (pa_cons pe_int (pa_cons pe_non (pa_cons pe_int pa_nil))))))
      pss_nil)
    (pss_cons (ps_set (i := 2) sc_law_bag.nd rfl (Or.inl rfl) (pe_op op_add (pe_op op_mod (pe_callTy cz_int1 (by rfl) T.int (by decide +kernel) (pa_cons (pe_callB (cr_sum rfl) (by rfl) T.sum (by decide +kernel) (pa_cons (pv 0) pa_nil)) pa_nil)) pe_int) (pe_op op_mul pe_int (pv 1))))
    (pss_cons (ps_if (pt_cmpR op_lt (pv 1) (pe_callB call_len_seq (by rfl) T.len (by decide +kernel) (pa_cons (pv 0) pa_nil)) (nomark _))
      (pss_one (ps_set (i := 2) sc_law_bag.nd rfl (Or.inl rfl) (pe_ix ix_list (pv 0) (pv 1) (fun _ _ => rfl))))
      pss_nil)
    (pss_one (ps_ret (pe_lst (pa_cons (pe_op op_sub (pe_callB cz_abs (by rfl) T.abs (by decide +kernel) (pa_cons (pv 2) pa_nil)) (pe_op op_pow pe_int pe_int)) (pa_cons (pv 2) (pa_cons pe_int pa_nil))))))))), ?_⟩
    have hbig : ∀ m : Int, m.natAbs ≤ 2000000 → m.natAbs < 2 ^ cap := fun m hm => Nat.lt_of_le_of_lt hm (Nat.lt_of_lt_of_le (show 2000000 < 2 ^ 64 by decide) (Nat.pow_le_pow_right (by decide) (by unfold cap; decide)))
    have last : ∀ (cell : Int) (H1 : Hp), Ex H H1 → cell.natAbs < 2 ^ cap → (tRet (tLst (tCons (tOp (rI0 fun i j => .int (i - j)) (tCB (fun xs H Q => ∃ i, xs = [.int i] ∧ Q (.int (if i < 0 then -i else i)) H) (tCons (tVar 2) tNil)) (tOp (rI CPow fun i j => .int (i ^ j.toNat)) (tC (.int 10)) (tC (.int 18)))) (tCons (tVar 2) (tCons (tC (.int 0)) tNil))))) { nx := fun _ H' => Q .non H', rt := Q } [some (.ref a), some (.int (i : Int)), some (.int cell)] H1 := fun cell H1 e1 hc => by
      refine ⟨.int cell, rfl, cell, rfl, 10, 18, rfl, rfl, ⟨by decide, by decide, by decide⟩, _, _, rfl, rfl, .int cell, rfl, by show 3 ≤ sizeLine; decide, fun p hp => q p _ (fresh_back e1 hp) (e1.trans (Ex.new hp)) ⟨_, _, 0, upd_same, .inr ⟨cell, rfl, hc⟩⟩⟩
    cases ns with
    | nil =>
      refine ⟨.ref a, rfl, false, .inl ⟨[], hS, rfl⟩, iteT ?_⟩
      exact ⟨by show 3 ≤ sizeLine; decide, fun p hp => q p _ hp (Ex.new hp) ⟨0, .non, 0, upd_same, .inl rfl⟩⟩
    | cons c0 r =>
      refine ⟨.ref a, rfl, true, .inl ⟨_, hS, rfl⟩, iteF ?_⟩
      refine ⟨.ref a, rfl, a, c0 :: r, rfl, hS, .inl ⟨_, rfl, _, _, rfl, rfl, (by show (0 : Int) < 1000003; decide), .int (i : Int), rfl, _, _, rfl, rfl, .inl ⟨by decide, by decide⟩, _, _, rfl, rfl, ?_⟩⟩
      have hm : 0 ≤ (c0 :: r).sum % 1000003 ∧ (c0 :: r).sum % 1000003 < 1000003 := ⟨Int.emod_nonneg _ (by decide), Int.emod_lt_of_pos _ (by decide)⟩
      generalize (c0 :: r).sum % 1000003 = m at hm ⊢
      refine ⟨.int (i : Int), rfl, .ref a, rfl, a, (c0 :: r).map V.int, rfl, .inl hS, _, _, rfl, rfl, _, rfl, ite2 (fun hlt => ?_) (fun hge => ?_)⟩
      · have hlt := of_decide_eq_true hlt
        rw [List.length_map] at hlt
        have hi2 : i < (c0 :: r).length := by omega
        refine ⟨.ref a, rfl, .int (i : Int), rfl, a, (c0 :: r).map V.int, _, .int (c0 :: r)[i], rfl, rfl, hS, atI_nat (by rw [List.getElem?_map, List.getElem?_eq_getElem hi2]; rfl), ?_⟩
        exact last _ H (Ex.refl H) (hb _ (List.getElem_mem hi2))
      · exact last _ H (Ex.refl H) (hbig _ (by omega))
theorem ok_law_draw (T : Mg mg) (F : FnP K "_law_draw" s_law_draw f fd) (gm : mg "_law_draw" = some (.ref f)) : Call P w K mg base 1 "_law_draw" ["bag", "size"] spDr := by
  refine mk F gm (fun _ _ _ _ _ _ us hl => match us, hl with | [_, _], _ => rfl) (fun _ _ _ _ _ _ us hl => match us, hl with | [_, _], _ => rfl) sc_law_draw (fun vs H Q E h => ?_) (fun cdv A outer s H vs Q E hr h => ?_)
  · obtain ⟨p, size, rfl, _⟩ := h
    rfl
  · obtain ⟨p, size, rfl, ⟨c0, cv, c2, hp, hc⟩, hs1, hs2, q⟩ := h
    refine ⟨_, (pss_cons (ps_if (PW.pt (pw_or (pt_cmpR op_lt (pv 1) pe_int (nomark _)) (pw_or1 (pt_cmpR op_isN1 (pe_ix ix_list (pv 0) pe_int (fun _ _ => rfl)) pe_non (nomark _)))))
      (pss_one (ps_ret pe_int))
      pss_nil)
    (pss_cons (ps_asg (pe_op op_add (pe_ix ix_list (pv 0) pe_int (fun _ _ => rfl)) pe_int) (pg_sub (pv 0) pe_int set_list))
    (pss_cons (ps_if (pt_cmpR op_gt (pe_ix ix_list (pv 0) pe_int (fun _ _ => rfl)) pe_int (nomark _))
      (pss_cons (ps_set (i := 2) sc_law_draw.nd rfl (Or.inl rfl) (pe_op op_mod (pe_callTy cz_int1 (by rfl) T.int (by decide +kernel) (pa_cons (pe_ix ix_list (pv 0) pe_int (fun _ _ => rfl)) pa_nil)) (pv 1)))
      (pss_cons (ps_asg (pe_op op_fdivW (pe_ix ix_list (pv 0) pe_int (fun _ _ => rfl)) (pv 1)) (pg_sub (pv 0) pe_int set_list))
      (pss_one (ps_ret (pv 2)))))
      pss_nil)
    (pss_cons (ps_set (i := 3) sc_law_draw.nd rfl (Or.inl rfl) (pe_op op_mod (pe_callTy cz_int1 (by rfl) T.int (by decide +kernel) (pa_cons (pe_op op_add (pe_op op_add (pe_op op_mulX (pe_ix ix_list (pv 0) pe_int (fun _ _ => rfl)) pe_int) (pe_op op_mul (pe_ix ix_list (pv 0) pe_int (fun _ _ => rfl)) pe_int)) pe_int) pa_nil)) pe_int))
    (pss_cons (ps_set (i := 4) sc_law_draw.nd rfl (Or.inl rfl) (pe_op op_mod (pe_callTy cz_int1 (by rfl) T.int (by decide +kernel) (pa_cons (pe_op op_add (pe_op op_mul (pv 3) (pv 3)) (pe_op op_mul (pe_ix ix_list (pv 0) pe_int (fun _ _ => rfl)) pe_int)) pa_nil)) pe_int))
    (pss_cons (ps_set (i := 5) sc_law_draw.nd rfl (Or.inl rfl) (pe_op op_mod (pe_callTy cz_int1 (by rfl) T.int (by decide +kernel) (pa_cons (pe_op op_add (pe_op op_mul (pv 4) (pv 4)) (pe_op op_mul (pv 3) pe_int)) pa_nil)) pe_int))
    (pss_one (ps_ret (pe_op op_mod (pe_callTy cz_int1 (by rfl) T.int (by decide +kernel) (pa_cons (pe_op op_fdiv (pv 5) pe_int) pa_nil)) (pv 1)))))))))), ?_⟩
    by_cases h2 : size < 2
    · refine q_when (b := true) (et_is (et_or (a := true) (et_is (et_test (ev_op (ev_var rfl) ev_c rv_I0)) (decide_eq_true h2)) fun h => nomatch h) (Bool.true_or false)) (fun _ H1 e1 => ?_) (fun h => nomatch h)
      exact s_ret ev_c fun H2 e2 => q 0 H2 (Int.le_refl 0) (by omega) ⟨c0, cv, c2, e2 _ _ (e1 _ _ hp), hc⟩ (Keep.of (e1.trans e2))
    · rcases hc with rfl | ⟨c, rfl, hc⟩
      · refine q_when (b := true) (et_is (et_or (et_test (ev_op (ev_var rfl) ev_c rv_I0)) fun _ => et_test (ev_op (ev_op (ev_var rfl) ev_c (rv_ixL (sq_of hp) (atI_nat (j := 1) rfl))) ev_c rv_isN)) (by rw [decide_eq_true (rfl : V.non = V.non), Bool.or_true])) (fun _ H1 e1 => ?_) (fun h => nomatch h)
        exact s_ret ev_c fun H2 e2 => q 0 H2 (Int.le_refl 0) (by omega) ⟨c0, _, c2, e2 _ _ (e1 _ _ hp), .inl rfl⟩ (Keep.of (e1.trans e2))
      · refine q_when (b := false) (et_is (et_or (et_test (ev_op (ev_var rfl) ev_c rv_I0)) fun _ => et_test (ev_op (ev_op (ev_var rfl) ev_c (rv_ixL (sq_of hp) (atI_nat (j := 1) rfl))) ev_c rv_isN)) (by rw [decide_eq_false h2, decide_eq_false (show ¬ V.int c = V.non from fun h => nomatch h)]; rfl)) (fun h => nomatch h) (fun _ H1 e1 => ?_)
        refine q_setL (j := 2) (e1 _ _ hp) (ev_op (ev_op (ev_var rfl) ev_c (rv_ixL (sq_of (e1 _ _ hp)) (atI_nat (j := 2) rfl))) ev_c rv_I0) (ev_var rfl) ev_c (by show 2 < 3; decide) fun H2 e2 => ?_
        have hp2 : (upd H2 p (.lst ([V.int c0, .int c, .int c2].set 2 (.int (c2 + 1))))) p = some (.lst [.int c0, .int c, .int (c2 + 1)]) := upd_same
        have k2 : Keep p H (upd H2 p (.lst ([V.int c0, .int c, .int c2].set 2 (.int (c2 + 1))))) := (Keep.of (e1.trans e2)).upd
        generalize upd H2 p (.lst ([V.int c0, .int c, .int c2].set 2 (.int (c2 + 1)))) = H3 at hp2 k2 ⊢
        refine q_when (et_test (ev_op (ev_op (ev_var rfl) ev_c (rv_ixL (sq_of hp2) (atI_nat (j := 0) rfl))) ev_c rv_I0)) (fun hb H4 e4 => ?_) (fun hb H4 e4 => ?_)
        · refine q_asg (ev_op (ev_int1 (ev_op (ev_var rfl) ev_c (rv_ixL (sq_of (e4 _ _ hp2)) (atI_nat (j := 0) rfl)))) (ev_var rfl) (rv_I (by show 0 < size; omega))) fun H5 e5 => ?_
          refine q_setL (j := 0) (e5 _ _ (e4 _ _ hp2)) (ev_op (ev_op (ev_var rfl) ev_c (rv_ixL (sq_of (e5 _ _ (e4 _ _ hp2))) (atI_nat (j := 0) rfl))) (ev_var rfl) (rv_I (wide_div (b := 64) (by omega) (by omega) (by decide) (by decide)))) (ev_var rfl) ev_c (by show 0 < 3; decide) fun H6 e6 => ?_
          refine s_ret (ev_var rfl) fun H7 e7 => q _ H7 (Int.emod_nonneg _ (by omega)) (Int.emod_lt_of_pos _ (by omega)) ⟨_, _, _, e7 _ _ upd_same, .inr ⟨c, rfl, hc⟩⟩ ?_
          exact ((k2.trans (Keep.of (e4.trans (e5.trans e6)))).upd).trans (Keep.of e7)
        · have g := hc
          have hp4 := e4 _ _ hp2
          refine q_asg (ev_op (ev_int1 (ev_op (ev_op (ev_op (ev_op (ev_var rfl) ev_c (rv_ixL (sq_of hp4) (atI_nat (j := 1) rfl))) ev_c (rv_I (mulx_ok (a := cap) (b := 64) hc (by decide) (by unfold cap; decide)))) (ev_op (ev_op (ev_var rfl) ev_c (rv_ixL (sq_of hp4) (atI_nat (j := 2) rfl))) ev_c (rv_I (.inr ⟨by decide, by decide⟩))) rv_I0) ev_c rv_I0)) ev_c (rv_I (by show (0 : Int) < 2147483647; decide))) fun H5 e5 => ?_
          have b1 : 0 ≤ (c * 48271 + (c2 + 1) * 69621 + 11) % 2147483647 ∧ (c * 48271 + (c2 + 1) * 69621 + 11) % 2147483647 < 2147483647 := ⟨Int.emod_nonneg _ (by decide), Int.emod_lt_of_pos _ (by decide)⟩
          generalize (c * 48271 + (c2 + 1) * 69621 + 11) % 2147483647 = one at b1 ⊢
          have hp5 := e5 _ _ hp4
          refine q_asg (ev_op (ev_int1 (ev_op (ev_op (ev_var rfl) (ev_var rfl) (rv_I (.inl ⟨by omega, by omega⟩))) (ev_op (ev_op (ev_var rfl) ev_c (rv_ixL (sq_of hp5) (atI_nat (j := 2) rfl))) ev_c (rv_I (.inr ⟨by decide, by decide⟩))) rv_I0)) ev_c (rv_I (by show (0 : Int) < 2147483629; decide))) fun H6 e6 => ?_
          have b2 : 0 ≤ (one * one + (c2 + 1) * 7919) % 2147483629 ∧ (one * one + (c2 + 1) * 7919) % 2147483629 < 2147483629 := ⟨Int.emod_nonneg _ (by decide), Int.emod_lt_of_pos _ (by decide)⟩
          generalize (one * one + (c2 + 1) * 7919) % 2147483629 = two at b2 ⊢
          refine q_asg (ev_op (ev_int1 (ev_op (ev_op (ev_var rfl) (ev_var rfl) (rv_I (.inl ⟨by omega, by omega⟩))) (ev_op (ev_var rfl) ev_c (rv_I (.inr ⟨by decide, by decide⟩))) rv_I0)) ev_c (rv_I (by show (0 : Int) < 2147483587; decide))) fun H7 e7 => ?_
          refine s_ret (ev_op (ev_int1 (ev_op (ev_var rfl) ev_c (rv_I ⟨by decide, by decide⟩))) (ev_var rfl) (rv_I (by show 0 < size; omega))) fun H8 e8 => q _ H8 (Int.emod_nonneg _ (by omega)) (Int.emod_lt_of_pos _ (by omega)) ⟨_, _, _, e8 _ _ (e7 _ _ (e6 _ _ hp5)), .inr ⟨c, rfl, g⟩⟩ ?_
          exact k2.trans (Keep.of (e4.trans (e5.trans (e6.trans (e7.trans e8)))))
theorem ok_law_pick (T : Mg mg) (c_law_draw : CDr P w K mg base) (F : FnP K "_law_pick" s_law_pick f fd) (gm : mg "_law_pick" = some (.ref f)) : Call P w K mg base 2 "_law_pick" ["bag", "things"] spPk := by
  refine mk F gm (fun _ _ _ _ _ _ us hl => match us, hl with | [_, _], _ => rfl) (fun _ _ _ _ _ _ us hl => match us, hl with | [_, _], _ => rfl) sc_law_pick (fun vs H Q E h => ?_) (fun cdv A outer s H vs Q E hr h => ?_)
  · obtain ⟨p, l, xs, rfl, _⟩ := h
    rfl
  · obtain ⟨p, l, xs, rfl, hb, hlp, hl, h1, h2, q⟩ := h
    refine ⟨_, (pss_one (ps_ret (pe_ix ix_list (pv 1) (pe_f c_law_draw hr (by decide) rfl (pa_cons (pv 0) (pa_cons (pe_callB call_len_seq (by rfl) T.len (by decide +kernel) (pa_cons (pv 1) pa_nil)) pa_nil))) (fun _ _ => rfl)))), ?_⟩
    refine ⟨.ref l, rfl, .ref p, rfl, .ref l, rfl, l, xs, rfl, .inl (sq_of hl), p, xs.length, rfl, hb, by omega, by omega, fun d H' d0 d1 b' kp => ?_⟩
    obtain ⟨c, g1, g2⟩ := at_int (xs := xs) d0 d1
    exact ⟨l, xs, d, c, rfl, rfl, sq_of (kp _ _ hlp hl), g1, q c H' g2 b' kp⟩
theorem ok_law_most (T : Mg mg) (c_law_draw : CDr P w K mg base) (F : FnP K "_law_most" s_law_most f fd) (gm : mg "_law_most" = some (.ref f)) : Call P w K mg base 2 "_law_most" ["bag", "small", "large"] spMo := by
  refine mk F gm (fun _ _ _ _ _ _ us hl => match us, hl with | [_, _, _], _ => rfl) (fun _ _ _ _ _ _ us hl => match us, hl with | [_, _, _], _ => rfl) sc_law_most (fun vs H Q E h => ?_) (fun cdv A outer s H vs Q E hr h => ?_)
  · obtain ⟨p, a, b, rfl, _⟩ := h
    rfl
  · obtain ⟨p, a, b, rfl, hb, q⟩ := h
    refine ⟨_, (pss_cons (ps_if (pt_cmpR op_eq (pe_f c_law_draw hr (by decide) rfl (pa_cons (pv 0) (pa_cons pe_int pa_nil))) pe_int (nomark _))
      (pss_one (ps_ret (pv 2)))
      pss_nil)
    (pss_one (ps_ret (pv 1)))), ?_⟩
    refine rd_call (ea_cons (ev_var rfl) (ea_cons ev_c ea_nil)) fun H1 e1 => ⟨p, 8, rfl, hb.ex e1, by decide, by decide, fun d H' d0 d1 b' kp => ⟨rfl, _, rfl, ite2 (fun _ => ?_) (fun _ => ?_)⟩⟩
    · exact ⟨.int b, rfl, q b H' (.inr rfl) b' ((Keep.of e1).trans kp)⟩
    · exact ⟨.int a, rfl, q a H' (.inl rfl) b' ((Keep.of e1).trans kp)⟩
theorem ok_law_word (T : Mg mg) (c_law_draw : CDr P w K mg base) (F : FnP K "_law_word" s_law_word f fd) (gm : mg "_law_word" = some (.ref f)) : Call P w K mg base 2 "_law_word" ["bag", "signs", "least", "most"] spWd := by
  refine mk F gm (fun _ _ _ _ _ _ us hl => match us, hl with | [_, _, _, _], _ => rfl) (fun _ _ _ _ _ _ us hl => match us, hl with | [_, _, _, _], _ => rfl) sc_law_word (fun vs H Q E h => ?_) (fun cdv A outer s H vs Q E hr h => ?_)
  · obtain ⟨p, z, a, b, rfl, _⟩ := h
    rfl
  · obtain ⟨p, z, a, b, rfl, hb, h1, h2, h3, h4, h5, q⟩ := h
    refine ⟨_, (pss_cons (ps_set (i := 4) sc_law_word.nd rfl (Or.inl rfl) (pe_op op_add (pv 2) (pe_f c_law_draw hr (by decide) rfl (pa_cons (pv 0) (pa_cons (pe_op op_add (pe_op op_sub (pv 3) (pv 2)) pe_int) pa_nil)))))
    (pss_one (ps_ret (pe_bm PySem.F.plainAttrs_str PySem.F.slot_str_join PySem.F.type_str_join mz_join pe_str (pa_cons (pe_lc (own := [("k", 5)]) (g := gName 5) (tt := tYes) rfl sc_law_word.nd (pi_range1 rfl T.range (pa_cons (pv 4) pa_nil)) (blkOk_by (N := ["bag", "signs", "least", "most", "size", "k"]) (sc := L2.defScope s_law_word) (by decide +kernel)) (fun _ _ _ _ _ => pg_name (i := 5) sc_law_word.nd rfl (Or.inl rfl)) (fun _ _ _ _ _ => pts_nil) (fun _ _ _ _ _ => (pe_ix ix_str (pv 1) (pe_f c_law_draw hr (by decide) rfl (pa_cons (pv 0) (pa_cons (pe_callB cz_len (by rfl) T.len (by decide +kernel) (pa_cons (pv 1) pa_nil)) pa_nil))) (fun _ _ => rfl)))) pa_nil))))), ?_⟩
    refine ⟨.int a, rfl, rd_call (ea_cons (ev_var rfl) (ea_cons (ev_op (ev_op (ev_var rfl) (ev_var rfl) rv_I0) ev_c rv_I0) ea_nil)) fun H1 e1 => ⟨p, b - a + 1, rfl, hb.ex e1, by omega, by omega, fun d H2 d0 d1 b2 kp => ⟨a, d, rfl, rfl, ?_⟩⟩⟩
    have kp2 := (Keep.of e1).trans kp
    refine ⟨rfl, .int (a + d), rfl, a + d, rfl, by omega, by omega, fun D hD => ?_⟩
    have hDp : D ≠ p := b2.ne hD
    have hD0 : H D = none := b2.free kp2 hD
    refine lc_range (lo := 0) (n := (a + d).toNat) (fun i H' => ∃ acc : List Str, H' D = some (.lst (acc.map V.str)) ∧ acc.length = i ∧ (∀ y ∈ acc, y.length = 1 ∧ ∀ c ∈ tl y, c ∈ tl z) ∧ Bg H' p ∧ Keep p H H') ⟨[], upd_same, rfl, (fun _ h => by cases h), ?_, ?_⟩ (fun i H' hi pv => ?_) (fun H' pv => ?_)
    · exact b2.upd hDp
    · intro c o hc ho
      rw [upd_ne (ne_of_none ho hD0)]
      exact kp2 c o hc ho
    · obtain ⟨acc, hA, hl, hone, hbg, hk⟩ := pv
      refine ⟨rfl, ?_⟩
      unfold tYes
      dsimp only
      rw [if_pos rfl]
      refine ⟨.str z, rfl, rd_call (ea_cons (ev_var rfl) (ea_cons (ev_lenStr (ev_var rfl) (by omega)) ea_nil)) fun H3 e3 => ⟨p, z.length, rfl, hbg.ex e3, by omega, by omega, fun d' H4 d0' d1' b4 kp4 => ?_⟩⟩
      obtain ⟨c, g1, g2⟩ := at_int (xs := tl z) d0' (by rw [len_tl']; exact d1')
      have hA4 : H4 D = some (.lst (acc.map V.str)) := kp4 _ _ hDp (e3 _ _ hA)
      refine ⟨z, d', c, rfl, rfl, sz_of (by omega), g1, _, hA4, sz_lt (by rw [List.length_map]; omega), acc ++ [⟨#[c]⟩], ?_, ?_, ?_, ?_, ?_⟩
      · rw [upd_same, List.map_append]
        rfl
      · rw [List.length_append, hl]
        rfl
      · intro y hy
        rcases List.mem_append.mp hy with hy | hy
        · exact hone y hy
        · rw [List.mem_singleton.mp hy]
          refine ⟨rfl, fun x hx => ?_⟩
          have hx : x ∈ [c] := hx
          rw [List.mem_singleton.mp hx]
          exact g2
      · exact b4.upd hDp
      · intro b o hc ho
        rw [upd_ne (ne_of_none ho hD0)]
        exact kp4 _ _ hc (e3 _ _ (hk _ _ hc ho))
    · obtain ⟨acc, hA, hl, hone, hbg, hk⟩ := pv
      have hsum := sum_ones acc fun y hy => (hone y hy).1
      have e0 : (("" : Str)).length = 0 := by decide +kernel
      refine ⟨"", D, acc, rfl, rfl, .inl (sq_of hA), by rw [hsum, e0]; omega, q _ _ ?_ ?_ ?_ hbg hk⟩
      · have := lenTJ acc
        rw [hsum] at this
        omega
      · have := lenTJ acc
        rw [hsum] at this
        omega
      · intro c hc
        rw [tlTJ] at hc
        obtain ⟨y, hy, hcy⟩ := List.mem_flatMap.mp hc
        exact (hone y hy).2 c hcy
end
end Z
set_option maxHeartbeats 4000000
namespace Z
open PySem PySem.Spec PyProof.Rows L2 TL Evl NdefX
/-! ### an own error that keeps one text -/
def spErr1 (D : Addr) (fld : Str) : Sp := fun vs H Q _ => ∃ (a : Addr) (t : Str), vs = [.ref a, .str t] ∧ t.length ≤ 100000 ∧ H a = some (exo a D none) ∧
  ∀ H1, Ex H H1 → ∀ d, H1 d = none → d ≠ a → Q .non (upd (upd H1 d (exd d [(fld, .str t)])) a (exo a D (some d)))
theorem mk_err1 {D : Addr} {fld t : Str} {ta : TA} {σ : L2.St} {H : Hp} {Q : XK} (h : EvA ta σ H [.str t]) (hl : t.length ≤ 100000)
    (k : ∀ d H', H d = none → Ex H H' → H' d = some (.xd [(fld, .str t)]) → Q (.ref D) (some d) H') : tMkO D (spErr1 D fld) [] ta σ H Q :=
  h H (Ex.refl H) _ fun H1 e1 => ⟨by show 1 ≤ 1000; decide, fun a ha => ⟨a, t, rfl, hl, upd_same, fun H2 e2 d hd hne => by
    have hd1 : H1 d = none := by
      have := fresh_back e2 hd
      rw [upd_ne hne] at this
      exact this
    refine ⟨rfl, d, [(fld, .str t)], upd_same, by rw [upd_ne hne]; exact upd_same, hd1, k d _ (fresh_back e1 hd1) (fun b o hb => ?_) upd_same⟩
    have hb1 := e1 b o hb
    have nd : b ≠ d := ne_of_none hb1 hd1
    have na : b ≠ a := ne_of_none hb1 ha
    rw [upd_ne nd, del_ne na, upd_ne na, upd_ne nd]
    exact e2 b o (by rw [upd_ne na]; exact hb1)⟩⟩
section
variable {P : Program} {w : World} {K : PySem.W.Frag} {mg : Str → Option Value} {base : Heap} {f cc cda D : Addr} {fd : FuncData} {k : Nat} {CX : CXT}
theorem ok_iv (T : ZX.Sup P K D f cc cda fd d_iv.name d_iv.qual d_iv.params d_iv.body d_iv.scope) (hno : PySem.W.findIn K (.ref D) "name" = some none) : FnOk P w K mg base CX 1 f fd ["self", "name"] (spErr1 D "name") := by
  refine ZX.fn_sup1 (k := 0) (N := ["self", "name", "__class__"]) T (nscope_by (by decide +kernel)) (by rfl) (by rfl) (by rfl) (by rfl) (fun _ => by rfl) (fun _ h => by unfold interactive; rw [h] <;> rfl) (fun _ h => by rfl) (fun _ => by rfl) (fun vs H Q E h => ?_) (fun A outer s H vs Q E hr h => ?_)
  · obtain ⟨a, t, rfl, _⟩ := h
    rfl
  · obtain ⟨a, t, rfl, hl, ha, q⟩ := h
    refine ⟨a, [.str t], _, _, rfl, ha, pe_joined (.cons pe_str (.cons (pe_fmt (pv 1)) (.cons pe_str .nil))), pss_one (ps_ost (pv 0) (pv 1)), ?_⟩
    refine rd_joined ["the value of ", t, " is not allowed"] (ej_cons ev_c (ej_cons (ev_fmt (ev_var rfl) hl) (ej_cons ev_c ej_nil))) ?_ fun H1 e1 => ⟨by show 1 ≤ 1000; decide, e1 _ _ ha, .str t, rfl, .ref a, rfl, a, D, rfl, T.oex, hno, .inl ⟨e1 _ _ ha, fun d hd hne => q H1 e1 d hd hne⟩⟩
    have c1 : ("the value of " : Str).length ≤ 100 := by decide +kernel
    have c2 : (" is not allowed" : Str).length ≤ 100 := by decide +kernel
    simp only [List.map_cons, List.map_nil, List.sum_cons, List.sum_nil]
    omega
end
/-! ### an own error raised -/
theorem err_binds {P : Program} {K : PySem.W.Frag} {x : Str} {fd : FuncData} {d : ZX.DefA} {ps : List Str} (E : ZX.Err P K x fd d) (hat : d.at_ = .met x "__init__") (e : ZX.fnC K (d.at_.ad K) = d.val) (c : d.ok K = true) (hdf : d.dfl = [])
    (h : ∀ (cc : Addr) (kV doc pm : Value) (an : Option Addr) (cdv ct : Value) (us : List Value), us.length = ps.length → bindArgs (PySem.W.fnX d.name d.qual d.params d.body d.scope [("__class__", cc)] .none kV doc pm an cdv ct) ⟨us, []⟩ = pure (ps.zip us)) : Binds K fd ps [] := by
  obtain ⟨kp, oc, od, osl, fd', q, k1, k2, _⟩ := d.parts e c
  obtain ⟨oc2, od2, osl2, dV, kV, doc, pm, ct, an, e2, q2⟩ := E.sup.fn
  have ead : d.at_.ad K = He.ma K (He.ga K x) "__init__" := by rw [hat] <;> rfl
  rw [ead] at q
  rw [q] at q2
  have e3 : fd' = fd := by
    have := Option.some.inj q2
    injection this with _ _ h3 _
    injection h3
  subst e3
  have hd : fd'.defaults = .none := by
    rcases k2 with ⟨_, h2⟩ | ⟨h2, _⟩
    · exact h2
    · exact absurd (show d.dvs K = [] by unfold ZX.DefA.dvs; rw [hdf]; rfl) h2
  rw [e2] at hd
  have hd : dV = .none := hd
  subst hd
  rw [e2]
  exact .all (h _ kV doc pm an _ ct)
structure Ef (P : Program) (w : World) (K : PySem.W.Frag) (mg : Str → Option Value) (base : Heap) (D : Addr) (ps : List Str) (fld : Str) : Prop where
  ex : ∃ fI fd, OexC K D ∧ PySem.W.findIn K (.ref D) "__init__" = some (some (.ref fI)) ∧ PySem.W.typeIn K (.ref fI) = some (.type "function") ∧ FnOk P w K mg base CX0 1 fI fd ps (spErr1 D fld) ∧ Binds K fd ps []
theorem ps_raiseE {X : Cx} {W : WX} {D : Addr} {ps : List Str} {fld x : Str} {e : Expr} {ta : TA} {p pos pos' : Pos} (F : Ef X.prog X.w X.K X.mg X.base D ps fld) (hc : X.calm = true) (tk : L2N.Takes X W) (hr : Room 2 X.A) (hg : Gl X x) (hm : X.mg x = some (.ref D)) (ha : PA X [e] ta)
    (hdb : (x == ("__debug__" : Str)) = false := by decide) (he : starEach [e] X.env = (false, eval e X.env) :: starEach [] X.env := by rfl) (hpl : (backTo pos (starEach [] X.env)).any (·.1) = false := by rfl) :
    PS X (.Raise (some (.Call (.Name x p) [e] [] pos)) none pos') (fun _ σ H => tMkO D (spErr1 D fld) [] ta σ H fun cls d H' => W cls d σ H') := by
  obtain ⟨fI, fd, T, h1, h2, h3, h4⟩ := F.ex
  exact L2N.ps_raise hc tk (ZX.pmk_oexN T h1 h2 h3 hr h4 pass0 hg hm ha hdb he hpl)
/-- the class of errors -/
structure We (K : PySem.W.Frag) (mg : Str → Option Value) (DV DH : Addr) : Prop where
  mV : mg "InvalidValue" = some (.ref DV)
  mH : mg "HopError" = some (.ref DH)
  xV : ExcC K DV
  fV : XfC K DV
  nV : PySem.W.findIn K (.ref DV) "name" = some none
  iVH : PySem.W.kitOne K (.ref DV) (.ref DH) = some true
  iVE : PySem.W.kitOne K (.ref DV) (.type "ValueError") = some true
  eVV : PySem.W.exmOne K (.ref DV) (.ref DV) = some true
/-- the base class of messages -/
structure Wb (K : PySem.W.Frag) (mg : Str → Option Value) (B : Addr) : Prop where
  m : mg "Message" = some (.ref B)
  rd : ClX.CRead K B (.type "type")
  mf : ∃ u, ClX.CVal K B (.type "type") "MOST_FIELDS" (.int 40) u
  mb : ∃ u, ClX.CVal K B (.type "type") "MOST_BODY" (.int 100000) u
/-- the class of responses -/
structure Ws (K : PySem.W.Frag) (mg : Str → Option Value) (R : Addr) : Prop where
  m : mg "Response" = some (.ref R)
  cls : Cls K R
  n1 : NoAttr K R "_first_line"
  n2 : NoAttr K R "_has_body"
  n3 : NoAttr K R "fields"
  n4 : NoAttr K R "body"
  n5 : NoAttr K R "status"
  rd : ClX.CRead K R (.type "type")
  st : ∃ p, ClX.CVal K R (.type "type") "STATUSES" (.ref p) (.ref p) ∧ ∀ H, SqT K H p (stL.map V.str)
def msFs (fl : Str) (hb : Bool) (v : V) (b : Str) : List (Str × V) := [("_first_line", .str fl), ("_has_body", .bl hb), ("fields", v), ("body", .str b)]
def rsFs (fl : Str) (hb : Bool) (v : V) (b s : Str) : List (Str × V) := [("_first_line", .str fl), ("_has_body", .bl hb), ("fields", v), ("body", .str b), ("status", .str s)]
theorem ms_put (fl : Str) (hb : Bool) (v : V) (b : Str) : putF "body" (.str b) (putF "fields" v (putF "_has_body" (.bl hb) (putF "_first_line" (.str fl) []))) = msFs fl hb v b := by rfl
theorem rs_put (fl : Str) (hb : Bool) (v : V) (b s : Str) : putF "status" (.str s) (msFs fl hb v b) = rsFs fl hb v b s := by rfl
def ansL (s : Str) : Str := [("answer " : Str), s].foldl (· ++ ·) Str.empty
def hasBd (s : Str) : Bool := !inV (.str s) ([("same" : Str), "done"].map V.str)
/-- an object of the class R with what Message.__init__ looks for -/
structure Wm (K : PySem.W.Frag) (R : Addr) : Prop where
  cls : Cls K R
  n1 : NoAttr K R "_first_line"
  n2 : NoAttr K R "_has_body"
  n3 : NoAttr K R "fields"
  n4 : NoAttr K R "body"
theorem Ws.wm {K : PySem.W.Frag} {mg : Str → Option Value} {R : Addr} (h : Ws K mg R) : Wm K R := ⟨h.cls, h.n1, h.n2, h.n3, h.n4⟩
/-- the class of requests -/
structure Wq (K : PySem.W.Frag) (mg : Str → Option Value) (R : Addr) : Prop where
  m : mg "Request" = some (.ref R)
  wm : Wm K R
  n5 : NoAttr K R "method"
  n6 : NoAttr K R "path"
  rd : ClX.CRead K R (.type "type")
  st : ∃ p, ClX.CVal K R (.type "type") "METHODS" (.ref p) (.ref p) ∧ ∀ H, SqT K H p (mdL.map V.str)
def asL (m p : Str) : Str := [("ask " : Str), m, " ", p].foldl (· ++ ·) Str.empty

/-! ### the fields that are handed in: a list, a tuple, or the default -/
def FqAt (K : PySem.W.Frag) (H : Hp) (q : Addr) (fs : Fs) : Prop := ∃ xs, (H q = some (.lst xs) ∨ SqT K H q xs) ∧ Rel (PfAt H) xs fs
theorem FqAt.ex {K : PySem.W.Frag} {H H' : Hp} {q : Addr} {fs : Fs} (h : FqAt K H q fs) (e : Ex H H') : FqAt K H' q fs := by
  obtain ⟨xs, h1, h2⟩ := h
  exact ⟨xs, h1.imp (fun z => e _ _ z) (fun z => ex_t e z), h2.mono fun _ _ m => TupAt.ex m e⟩
theorem FsAt.fq {K : PySem.W.Frag} {H : Hp} {q : Addr} {fs : Fs} (h : FsAt H q fs) : FqAt K H q fs := by
  obtain ⟨xs, h1, h2⟩ := h
  exact ⟨xs, .inl h1, h2⟩
theorem SqT.updI {K : PySem.W.Frag} {H : Hp} {q a C dx : Addr} {xs : List V} {gs : List (Str × V)} {o : HO} (h : SqT K H q xs) (ha : H a = some (.ins C dx gs)) : SqT K (upd H a o) q xs := by
  rcases h with (h | ⟨oo, h⟩) | h
  · exact .inl (.inl (by rw [upd_ne (fun e => by rw [e, ha] at h; cases h)]; exact h))
  · exact .inl (.inr ⟨oo, by rw [upd_ne (fun e => by rw [e, ha] at h; cases h)]; exact h⟩)
  · exact .inr h
theorem FqAt.updI {K : PySem.W.Frag} {H : Hp} {q a C dx : Addr} {fs : Fs} {gs : List (Str × V)} {o : HO} (h : FqAt K H q fs) (ha : H a = some (.ins C dx gs)) : FqAt K (upd H a o) q fs := by
  obtain ⟨xs, h1, h2⟩ := h
  refine ⟨xs, h1.imp (fun z => ?_) (fun z => SqT.updI z ha), h2.mono fun _ x m => ?_⟩
  · rw [upd_ne (fun e => by rw [e, ha] at z; cases z)]
    exact z
  · obtain ⟨t, rfl, ht⟩ := m
    refine ⟨t, rfl, ?_⟩
    rw [upd_ne (fun e => by rw [e, ha] at ht; cases ht)]
    exact ht
theorem pi_either {X : Cx} {tg e : Expr} {w1 w2 : TI} (h1 : PI X tg e w1) (h2 : PI X tg e w2) : PI X tg e (fun σ H R => w1 σ H R ∨ w2 σ H R) := ⟨fun pins s σ H R I h => h.elim (h1.run pins s σ H R I) (h2.run pins s σ H R I)⟩
def iLT (K : PySem.W.Frag) (tl : TE) : TI := fun σ H R => iList K tl σ H R ∨ iTup K tl σ H R
theorem ev_lenF {K : PySem.W.Frag} {σ : L2.St} {H : Hp} {te : TE} {q : Addr} {fs : Fs} (h : Ev te σ H (.ref q)) (hf : FqAt K H q fs) : Ev (tCB (rLenS K) (tCons te tNil)) σ H (.int (fs.length : Int)) := by
  obtain ⟨xs, h1 | h1, h2⟩ := hf
  · rw [← h2.1]
    exact ev_len h (sq_of h1)
  · rw [← h2.1]
    exact ev_lenT h h1
/-- all([.. for .. in fields]) -/
theorem all_evT {K : PySem.W.Frag} {σ : L2.St} {H : Hp} {te tl : TE} {g : TG} {l : Addr} {os : Fs} {gB : Str × Str → Bool} {ws : List Nat} (hv : Ev tl σ H (.ref l)) (hl : FqAt K H l os) (hz : os.length ≤ 40000)
    (hs : ∀ (x : V) (o : Str × Str) H1, o ∈ os → Ex H H1 → PfAt H1 x o → ∀ (k : VK), (∀ H2, Ex H1 H2 → k (.bl (gB o)) H2) → g x (wipe σ ws) H1 fun σ2 H2 => wipe σ2 ws = wipe σ ws ∧ te σ2 H2 k) : Ev (tCB (L2.rAll K) (tCons (tLc (iLT K tl) g tYes te ws) tNil)) σ H (.bl (os.all gB)) := fun H1 e Q q => by
  obtain ⟨vs, hq, hrel⟩ := hl
  have turn : ∀ (H2 H3 : Hp) (i : Nat) (x : V) (k : VK), Ex H1 H2 → Ex H2 H3 → vs[i]? = some x → (∀ y H4 o, Ex H3 H4 → (os.take (i + 1)).map gB = (os.take i).map gB ++ [o] → y = V.bl o → k y H4) →
      g x (wipe σ ws) H3 fun σ2 H2 => wipe σ2 ws = wipe σ ws ∧ tYes σ2 H2 fun b H3 => if b = true then te σ2 H3 k else True := fun H2 H3 i x k e2 e3 hi hk => by
    obtain ⟨o, ho, hxo⟩ := hrel.get hi
    have e03 := (e.trans e2).trans e3
    refine hs x o H3 (List.mem_of_getElem? ho) e03 (TupAt.ex hxo e03) k fun H4 e4 => hk _ H4 _ e4 ?_ rfl
    rw [List.take_add_one, ho, List.map_append]
    rfl
  have fin : ∀ (H2 H3 : Hp) (D : Addr) ys, Ex H1 H2 → Ex H2 H3 → H3 D = some (.lst ys) → Rel (fun v b => v = V.bl b) ys ((os.take vs.length).map gB) → L2.rAll K [.ref D] H3 Q := fun H2 H3 D ys e2 e3 hy hr => by
    rw [hrel.1, List.take_length] at hr
    have ey := rel_bl hr
    refine ⟨D, os.map gB, rfl, sq_of (by rw [hy, ey]), ?_⟩
    rw [List.all_map]
    exact q H3 (e2.trans e3)
  rcases hq with hq | hq
  · refine Or.inl (hv H1 e _ fun H2 e2 => ⟨l, rfl, ⟨vs, sq_of ((e.trans e2) _ _ hq)⟩, fun D hD => ?_⟩)
    exact lc_rel (α := Bool) (fun i => (os.take i).map gB) (fun _ v b => v = .bl b) (fun _ _ _ _ _ _ h => h) (sq_of ((e.trans e2) _ _ hq)) hD rfl (by rw [hrel.1]; omega) (fun i x H3 hi e3 k k0 hk _ => by
      obtain ⟨o, ho, hxo⟩ := hrel.get hi
      have e03 := (e.trans e2).trans e3
      refine hs x o H3 (List.mem_of_getElem? ho) e03 (TupAt.ex hxo e03) k fun H4 e4 => hk _ H4 _ e4 ?_ rfl
      show (os.take (i + 1)).map gB = _
      rw [List.take_add_one, ho, List.map_append]
      rfl) (fun H3 ys e3 hy hr => fin H2 H3 D ys e2 e3 hy hr)
  · refine Or.inr (hv H1 e _ fun H2 e2 => ⟨l, rfl, ⟨vs, ex_t (e.trans e2) hq⟩, fun D hD => ?_⟩)
    exact lc_relT (α := Bool) (fun i => (os.take i).map gB) (fun _ v b => v = .bl b) (fun _ _ _ _ _ _ h => h) (fun H3 e3 => ex_t ((e.trans e2).trans e3) hq) hD rfl (by rw [hrel.1]; omega) (fun i x H3 hi e3 k k0 hk _ => by
      obtain ⟨o, ho, hxo⟩ := hrel.get hi
      have e03 := (e.trans e2).trans e3
      refine hs x o H3 (List.mem_of_getElem? ho) e03 (TupAt.ex hxo e03) k fun H4 e4 => hk _ H4 _ e4 ?_ rfl
      show (os.take (i + 1)).map gB = _
      rw [List.take_add_one, ho, List.map_append]
      rfl) (fun H3 ys e3 hy hr => fin H2 H3 D ys e2 e3 hy hr)
/-- [(a, b) for a, b in fields] -/
theorem fields_newT {K : PySem.W.Frag} {σ : L2.St} {H : Hp} {i j1 j2 : Nat} {l : Addr} {fs : Fs} {Q : VK} (hi : σ[i]? = some (some (.ref l))) (hl : FqAt K H l fs) (hz : fs.length ≤ 40000) (hw : ∀ x y, wipe (((wipe σ [j1, j2]).set j1 (some x)).set j2 (some y)) [j1, j2] = wipe σ [j1, j2])
    (h1 : ∀ x y, (((wipe σ [j1, j2]).set j1 (some x)).set j2 (some y))[j1]? = some (some x)) (h2 : ∀ x y, (((wipe σ [j1, j2]).set j1 (some x)).set j2 (some y))[j2]? = some (some y))
    (k : ∀ D H', H D = none → Ex H H' → FsAt H' D fs → Q (.ref D) H') : tLc (iLT K (tVar i)) (gTup K 2 (gCons (gName j1) (gCons (gName j2) gNil))) tYes (tTup (tCons (tVar j1) (tCons (tVar j2) tNil))) [j1, j2] σ H Q := by
  obtain ⟨xs, hx | hx, hr⟩ := hl
  · exact Or.inl (fields_new hi ⟨xs, hx, hr⟩ hz hw h1 h2 k)
  · refine Or.inr ⟨.ref l, hi, l, rfl, ⟨_, hx⟩, fun D hD => ?_⟩
    refine lc_relT (α := Str × Str) (fun i => fs.take i) PfAt (fun _ _ _ _ k hD r => TupAt.keep r k hD) (fun H3 e3 => ex_t e3 hx) hD rfl (by rw [hr.1]; omega) (fun i x H13 hi e13 k k0 hk _ => ?_) (fun H13 ms e13 hy hrel => ?_)
    · obtain ⟨o, ho, t, rfl, ht⟩ := hr.get hi
      refine ⟨t, _, rfl, st_of (e13 _ _ ht), rfl, _, _, rfl, _, _, rfl, rfl, hw _ _, ?_⟩
      unfold tYes
      dsimp only
      rw [if_pos rfl]
      refine (eu_tup (ea_cons (ev_var (h1 _ _)) (ea_cons (ev_var (h2 _ _)) ea_nil)) (by show 2 ≤ _; decide)) H13 (Ex.refl H13) _ fun p H14 np e14 hp => hk _ H14 o e14 ?_ ⟨p, rfl, hp⟩
      show fs.take (i + 1) = _
      rw [List.take_add_one, ho]
      rfl
    · rw [hr.1, List.take_length] at hrel
      exact k D H13 hD e13 ⟨ms, hy, hrel⟩
def spAre (K : PySem.W.Frag) : Sp := fun vs H Q _ => ∃ (q : Addr) (fs : Fs), vs = [.ref q] ∧ FqAt K H q fs ∧ lenF fs ∧ fs.length ≤ 40000 ∧ RetV (.bl (areB fs)) H Q
def spIb : Sp := fun vs H Q _ => ∃ z : Str, vs = [.str z] ∧ z.length ≤ 200000 ∧ RetV (.bl (bodyB z)) H Q
/-! ### what is wrong with a message -/
/-- a row of the law: side, method or status, path, fields, body -/
structure Wl where
  q : Bool
  m : Str
  p : Str
  fs : Fs
  b : Str
def badM (fs : Fs) (hb : Bool) (b : Str) : Option Str := if areB fs = false then some "fields" else if bodyB b = false ∨ (b ≠ ("" : Str) ∧ hb = false) then some "body" else none
def stW (w : Wl) : Str := if w.q = true then asL w.m w.p else ansL w.m
def hbW (w : Wl) : Bool := if w.q = true then decide (w.m = ("put" : Str)) else hasBd w.m
def badW (w : Wl) : Option Str := if w.q = true then (if w.m ∉ mdL then some "method" else if pathB w.p = false then some "path" else badM w.fs (decide (w.m = ("put" : Str))) w.b) else (if w.m ∉ stL then some "status" else badM w.fs (hasBd w.m) w.b)
def exW (w : Wl) : List (Str × V) := if w.q = true then [(("method" : Str), V.str w.m), (("path" : Str), V.str w.p)] else [(("status" : Str), V.str w.m)]
def meFs (w : Wl) (l : Addr) : List (Str × V) := msFs (stW w) (hbW w) (.ref l) w.b ++ exW w
def smallF (fs : Fs) : Prop := fs.length ≤ 100 ∧ ∀ x ∈ fs, x.1.length ≤ 300 ∧ x.2.length ≤ 300
theorem smallF.lenF {fs : Fs} (h : smallF fs) : lenF fs := fun x hx => by
  obtain ⟨h1, h2⟩ := h.2 x hx
  exact ⟨by omega, by omega⟩
/-- Message.__init__ on an object of the class R -/
def spMs (K : PySem.W.Frag) (R DV : Addr) : Sp := fun vs H Q E => ∃ (a dx q : Addr) (fl b : Str) (hb : Bool) (fs : Fs), vs = [.ref a, .str fl, .bl hb, .ref q, .str b] ∧ H a = some (.ins R dx []) ∧ FqAt K H q fs ∧ smallF fs ∧ b.length ≤ 200000 ∧
  (badM fs hb b = none → ∀ l H', H l = none → Keep a H H' → H' a = some (.ins R dx (msFs fl hb (.ref l) b)) → FsAt H' l fs → Q .non H') ∧
  (∀ n, badM fs hb b = some n → ∀ d H', H d = none → Ex H H' → H' d = some (.xd [("name", .str n)]) → E (.ref DV) (some d) H')
/-- Request(..), Response(..) on an object of the class R -/
def rowA (w : Wl) (q : Addr) : List V := if w.q = true then [.str w.m, .str w.p, .ref q, .str w.b] else [.str w.m, .ref q, .str w.b]
def smallW (w : Wl) : Prop := w.m.length ≤ 100 ∧ w.p.length ≤ 100 ∧ smallF w.fs ∧ w.b.length ≤ 200000
def spCo (K : PySem.W.Frag) (R DV : Addr) (side : Bool) : Sp := fun vs H Q E => ∃ (a dx q : Addr) (w : Wl), w.q = side ∧ vs = .ref a :: rowA w q ∧ H a = some (.ins R dx []) ∧ FqAt K H q w.fs ∧ smallW w ∧
  (badW w = none → ∀ l H', H l = none → Keep a H H' → H' a = some (.ins R dx (meFs w l)) → FsAt H' l w.fs → Q .non H') ∧
  (∀ n, badW w = some n → ∀ d H', H d = none → Ex H H' → H' d = some (.xd [("name", .str n)]) → E (.ref DV) (some d) H')
structure Mb (P : Program) (w : World) (K : PySem.W.Frag) (mg : Str → Option Value) (base : Heap) (B R DV : Addr) : Prop where
  ex : ∃ g fd, ZX.CFn K B (.type "type") "__init__" g ∧ FnOk P w K mg base (L2N.CX P w) 5 g fd ["self", "first_line", "has_body", "fields", "body"] (spMs K R DV) ∧ Binds K fd ["self", "first_line", "has_body", "fields", "body"] []
theorem sc_Mi : FnScope ["self", "first_line", "has_body", "fields", "body", "name", "value"] ["self", "first_line", "has_body", "fields", "body"] (L2.defScope s_Mi) := ⟨rfl, rfl, rfl, by decide +kernel, rfl, by decide +kernel, by decide +kernel⟩
theorem sc_Rs : FnScope ["self", "status", "fields", "body"] ["self", "status", "fields", "body"] (L2.defScope s_Rs) := ⟨rfl, rfl, rfl, by decide +kernel, rfl, by decide +kernel, by decide +kernel⟩
theorem sc_Ri : FnScope ["self", "method", "path", "fields", "body"] ["self", "method", "path", "fields", "body"] (L2.defScope s_Ri) := ⟨rfl, rfl, rfl, by decide +kernel, rfl, by decide +kernel, by decide +kernel⟩
theorem st_len {s : Str} (h : s ∈ stL) : s.length ≤ 10 := by
  simp only [stL, List.mem_cons, List.not_mem_nil, or_false] at h
  rcases h with rfl | rfl | rfl | rfl | rfl | rfl | rfl | rfl | rfl <;> decide +kernel
section
variable {P : Program} {w : World} {K : PySem.W.Frag} {mg : Str → Option Value} {base : Heap} {f B R C L DV DM DH : Addr} {fd : FuncData} {k : Nat}
theorem ok_is_plain_lines (T : Mg mg) (c_is_plain : Call P w K mg base 1 "is_plain" ["text"] (sp1 fun z => .bl (allIn z signs))) (F : FnP K "is_plain_lines" s_is_plain_lines f fd) (gm : mg "is_plain_lines" = some (.ref f)) : Call P w K mg base 2 "is_plain_lines" ["text"] (sp1 fun z => .bl (linesB z)) := by
  refine mkT F gm (fun _ _ _ _ _ _ us hl => match us, hl with | [_], _ => rfl) (fun _ _ _ _ _ _ us hl => match us, hl with | [_], _ => rfl) sc_is_plain_lines (by decide +kernel) (by decide) (fun vs H Q E h => ?_) (fun cdv A outer s H vs Q E hr h => ?_)
  · obtain ⟨z, rfl, _⟩ := h
    rfl
  · obtain ⟨z, rfl, hz, q⟩ := h
    refine ⟨_, CwR.psst_one (CwR.pst_ret (pet_f c_is_plain hr (by decide) rfl (pat_cons (CwR.pet_replC (pv 0)) pat_nil))), ?_⟩
    refine s_ret (v := .bl (linesB z)) (ev_is (ev_call (ea_cons (ev_replC (ev_var rfl) hz) ea_nil) (sv1 (f := fun z => .bl (allIn z signs)) (Nat.le_trans (repl_len z) hz))) (congrArg V.bl (lines_eq z))) q
theorem ok_is_body (T : Mg mg) (MB : Wb K mg B) (c_is_plain_lines : Call P w K mg base 2 "is_plain_lines" ["text"] (sp1 fun z => .bl (linesB z))) (F : FnP K "is_body" s_is_body f fd) (gm : mg "is_body" = some (.ref f)) : Call P w K mg base 3 "is_body" ["text"] spIb := by
  refine mk F gm (fun _ _ _ _ _ _ us hl => match us, hl with | [_], _ => rfl) (fun _ _ _ _ _ _ us hl => match us, hl with | [_], _ => rfl) sc_is_body (fun vs H Q E h => ?_) (fun cdv A outer s H vs Q E hr h => ?_)
  · obtain ⟨z, rfl, _⟩ := h
    rfl
  · obtain ⟨z, rfl, hz, q⟩ := h
    obtain ⟨u, hu⟩ := MB.mb
    refine ⟨_, (pss_one (ps_ret (pe_and (pe_cmpR op_le (pe_callB cz_len (by rfl) T.len (by decide +kernel) (pa_cons (pv 0) pa_nil)) (ClX.pe_cval (pe_gc (v := .ref B) rfl ⟨_, MB.m, rfl⟩)) (nomark _)) (pe_one (pe_f c_is_plain_lines hr (by decide) rfl (pa_cons (pv 0) pa_nil)))))), ?_⟩
    exact s_ret (v := .bl (bodyB z)) (ev_andV (ev_op (ev_lenStrW (ev_var rfl) hz) (ev_cval ev_c MB.rd hu) rv_I0) fun h => ev_call (ea_cons (ev_var rfl) ea_nil) (sv1 (by have := of_decide_eq_true h; omega))) q
theorem ok_are_fields (T : Mg mg) (MB : Wb K mg B) (c_is_field_name : Call P w K mg base 3 "is_field_name" ["text"] (sp1 fun z => .bl (nameB z))) (c_is_value : Call P w K mg base 2 "is_value" ["text"] (sp1 fun z => .bl (valueB z))) (F : FnP K "are_fields" s_are_fields f fd) (gm : mg "are_fields" = some (.ref f)) :
    Call P w K mg base 4 "are_fields" ["fields"] (spAre K) := by
  refine mk F gm (fun _ _ _ _ _ _ us hl => match us, hl with | [_], _ => rfl) (fun _ _ _ _ _ _ us hl => match us, hl with | [_], _ => rfl) sc_are_fields (fun vs H Q E h => ?_) (fun cdv A outer s H vs Q E hr h => ?_)
  · obtain ⟨q, fs, rfl, _⟩ := h
    rfl
  · obtain ⟨q, fs, rfl, hf, hln, hz, kq⟩ := h
    obtain ⟨u, hu⟩ := MB.mf
    refine ⟨_, (pss_cons (ps_if (pt_cmpR op_gt (pe_callB call_len_seq (by rfl) T.len (by decide +kernel) (pa_cons (pv 0) pa_nil)) (ClX.pe_cval (pe_gc (v := .ref B) rfl ⟨_, MB.m, rfl⟩)) (nomark _))
      (pss_one (ps_ret pe_bl))
      pss_nil)
    (pss_one (ps_ret (pe_callB (cr_all rfl) (by rfl) T.all (by decide +kernel) (pa_cons (pe_lc (own := [("name", 1), ("value", 2)]) (g := (gTup K 2 (gCons (gName 1) (gCons (gName 2) gNil)))) (tt := tYes) rfl sc_are_fields.nd (pi_either (pi_list (pv 0)) (pi_tup (pv 0))) (blkOk_by (N := ["fields", "name", "value"]) (sc := L2.defScope s_are_fields) (by decide +kernel)) (fun _ _ _ _ _ => pg_tup rfl (pgs_cons (pg_name (i := 1) sc_are_fields.nd rfl (Or.inl rfl)) (pgs_cons (pg_name (i := 2) sc_are_fields.nd rfl (Or.inl rfl)) pgs_nil))) (fun _ _ _ _ _ => pts_nil) (fun _ _ _ _ _ => (pe_and (pe_f c_is_field_name hr (by decide) rfl (pa_cons (pv 1) pa_nil)) (pe_one (pe_f c_is_value hr (by decide) rfl (pa_cons (pv 2) pa_nil)))))) pa_nil))))), ?_⟩
    refine q_when (b := decide (¬ fs.length ≤ 40)) (et_is (et_test (ev_op (ev_lenF (ev_var rfl) hf) (ev_cval ev_c MB.rd hu) rv_I0)) (decide_eq_decide.mpr (by omega))) (fun hb H1 e1 => ?_) (fun hb H1 e1 => ?_)
    · have h0 : areB fs = false := by
        unfold areB
        rw [decide_eq_false (of_decide_eq_true hb), Bool.false_and]
      refine s_ret ev_c fun H2 e2 => ?_
      have g := kq H2 (e1.trans e2)
      rw [h0] at g
      exact g
    · have h0 : areB fs = fs.all fieldB := by
        unfold areB
        rw [decide_eq_true (Decidable.not_not.mp (of_decide_eq_false hb)), Bool.true_and]
      refine s_ret (v := .bl (fs.all fieldB)) (all_evT (gB := fieldB) (ev_var rfl) (hf.ex e1) hz fun x o H2 hm e2 hxo k hk => ?_) fun H2 e2 => ?_
      · obtain ⟨t, rfl, ht⟩ := hxo
        obtain ⟨l1, l2⟩ := hln o hm
        refine ⟨t, _, rfl, st_of ht, rfl, _, _, rfl, _, _, rfl, rfl, rfl, ?_⟩
        exact (ev_andV (ev_call (ea_cons (ev_var rfl) ea_nil) (sv1 l1)) fun _ => ev_call (ea_cons (ev_var rfl) ea_nil) (sv1 l2)) H2 (Ex.refl H2) _ fun H3 e3 => hk H3 e3
      · have g := kq H2 (e1.trans e2)
        rw [h0] at g
        exact g
theorem ok_Mi (T : Mg mg) (WR : Wm K R) (WE : We K mg DV DH) (EV : Ef P w K mg base DV ["self", "name"] "name") (c_are_fields : Call P w K mg base 4 "are_fields" ["fields"] (spAre K)) (c_is_body : Call P w K mg base 3 "is_body" ["text"] spIb)
    (F : FunD K "__init__" "Message.__init__" (L2.defArgs s_Mi) (L2.defBody s_Mi) (L2.defScope s_Mi) [] [] f fd) : FnOk P w K mg base (L2N.CX P w) 5 f fd ["self", "first_line", "has_body", "fields", "body"] (spMs K R DV) := by
  refine FunD.ok F sc_Mi (fun vs H Q E h => ?_) (fun cdv A outer s H vs Q E hr h => ?_)
  · obtain ⟨a, dx, q, fl, b, hb, fs, rfl, _⟩ := h
    rfl
  · obtain ⟨a, dx, q, fl, b, hb, fs, rfl, ha, hf, hs, hbl, k, kb⟩ := h
    refine ⟨_, (pss_cons (ps_if (pt_not (pt_val (pe_f c_are_fields hr (by decide) rfl (pa_cons (pv 3) pa_nil))))
      (pss_one (ps_raiseE EV rfl (L2N.takes_of rfl rfl rfl rfl) (hr.mono (by decide)) rfl WE.mV (pa_cons pe_str pa_nil)))
      pss_nil)
    (pss_cons (ps_if (PW.pt (pw_or (pt_not (pt_val (pe_f c_is_body hr (by decide) rfl (pa_cons (pv 4) pa_nil)))) (pw_or1 (PW.pt (pw_and (pt_cmpR op_ne (pv 4) pe_str (nomark _)) (pw_and1 (pt_not (pt_truth (pv 2) (by intro _; rfl)))))))))
      (pss_one (ps_raiseE EV rfl (L2N.takes_of rfl rfl rfl rfl) (hr.mono (by decide)) rfl WE.mV (pa_cons pe_str pa_nil)))
      pss_nil)
    (pss_cons (ps_fld (pv 0) (pv 1) rfl)
    (pss_cons (ps_fld (pv 0) (pv 2) rfl)
    (pss_cons (ps_fld (pv 0) (pe_lc (own := [("name", 5), ("value", 6)]) (g := (gTup K 2 (gCons (gName 5) (gCons (gName 6) gNil)))) (tt := tYes) rfl sc_Mi.nd (pi_either (pi_list (pv 3)) (pi_tup (pv 3))) (blkOk_by (N := ["self", "first_line", "has_body", "fields", "body", "name", "value"]) (sc := L2.defScope s_Mi) (by decide +kernel)) (fun _ _ _ _ _ => pg_tup rfl (pgs_cons (pg_name (i := 5) sc_Mi.nd rfl (Or.inl rfl)) (pgs_cons (pg_name (i := 6) sc_Mi.nd rfl (Or.inl rfl)) pgs_nil))) (fun _ _ _ _ _ => pts_nil) (fun _ _ _ _ _ => (pe_tup (pa_cons (pv 5) (pa_cons (pv 6) pa_nil))))) rfl)
    (pss_one (ps_fld (pv 0) (pv 4) rfl))))))), ?_⟩
    have bad : ∀ {n : Str} {σ : L2.St} {H' : Hp} {te : TE}, badM fs hb b = some n → n.length ≤ 1000 → Ex H H' → Ev te σ H' (.str n) → tMkO DV (spErr1 DV "name") [] (tCons te tNil) σ H' (fun cls d H' => E cls d H') := fun {n σ H' te} hb hl e hv => mk_err1 (ea_cons hv ea_nil) (by omega) fun d H1 hd ex hx => kb n hb d H1 (fresh_back e hd) (e.trans ex) hx
    refine q_when (b := !areB fs) (et_not (et_B (ev_call (ea_cons (ev_var rfl) ea_nil) (z := .bl (areB fs)) fun H1 e Q' q' E' => ⟨q, fs, rfl, hf.ex e, hs.lenF, by have := hs.1; omega, q'⟩))) (fun h H1 e1 => bad (n := "fields") ?_ (by decide +kernel) e1 ev_c) (fun h H1 e1 => ?_)
    · unfold badM
      rw [if_pos ((Bool.not_eq_true' _).mp h)]
    have h0 : areB fs = true := (Bool.not_eq_false' _).mp h
    have hA : ¬ areB fs = false := by rw [h0]; exact Bool.noConfusion
    refine q_when (b := !bodyB b || (!decide (b = "") && !hb)) (et_or (et_not (et_B (ev_call (ea_cons (ev_var rfl) ea_nil) (z := .bl (bodyB b)) fun H1 e Q' q' E' => ⟨b, rfl, hbl, q'⟩))) fun _ => et_and (et_test (ev_op (ev_var rfl) ev_c rv_neS)) fun _ => et_not (et_truB (ev_var rfl))) (fun h H2 e2 => bad (n := "body") ?_ (by decide +kernel) (e1.trans e2) ev_c) (fun h H2 e2 => ?_)
    · unfold badM
      rw [if_neg hA, if_pos]
      rw [Bool.or_eq_true, Bool.and_eq_true, Bool.not_eq_true', Bool.not_eq_true', Bool.not_eq_true', decide_eq_false_iff_not] at h
      exact h
    have good : badM fs hb b = none := by
      unfold badM
      rw [if_neg hA, if_neg]
      rw [Bool.or_eq_false_iff, Bool.not_eq_false', Bool.and_eq_false_iff, Bool.not_eq_false', Bool.not_eq_false', decide_eq_true_eq] at h
      rintro (z | ⟨z1, z2⟩)
      · rw [h.1] at z; cases z
      · rcases h.2 with y | y
        · exact z1 y
        · rw [y] at z2; cases z2
    have k := k good
    clear bad kb
    have e12 := e1.trans e2
    have ha2 := e12 _ _ ha
    refine q_in ?_; dsimp only
    refine ⟨.str fl, rfl, .ref a, rfl, a, R, dx, [], rfl, ha2, WR.cls, WR.n1, by decide, ?_⟩
    refine q_in ?_; dsimp only
    refine ⟨.bl hb, rfl, .ref a, rfl, a, R, dx, _, rfl, upd_same, WR.cls, WR.n2, by show 1 < 1000; decide, ?_⟩
    refine q_in ?_; dsimp only
    have k2 : Keep a H (upd (upd H2 a (.ins R dx (putF "_first_line" (.str fl) []))) a (.ins R dx (putF "_has_body" (.bl hb) (putF "_first_line" (.str fl) [])))) := (Keep.of e12).upd.upd
    have f2 : FqAt K (upd (upd H2 a (.ins R dx (putF "_first_line" (.str fl) []))) a (.ins R dx (putF "_has_body" (.bl hb) (putF "_first_line" (.str fl) [])))) q fs := ((hf.ex e12).updI ha2).updI upd_same
    have a2 : (upd (upd H2 a (.ins R dx (putF "_first_line" (.str fl) []))) a (.ins R dx (putF "_has_body" (.bl hb) (putF "_first_line" (.str fl) [])))) a = some (.ins R dx (putF "_has_body" (.bl hb) (putF "_first_line" (.str fl) []))) := upd_same
    have nl0 : ∀ l, (upd (upd H2 a (.ins R dx (putF "_first_line" (.str fl) []))) a (.ins R dx (putF "_has_body" (.bl hb) (putF "_first_line" (.str fl) [])))) l = none → l ≠ a ∧ H l = none := fun l hl => by
      have na : l ≠ a := fun e => by
        rw [e, a2] at hl
        cases hl
      rw [upd_ne na, upd_ne na] at hl
      exact ⟨na, fresh_back e12 hl⟩
    generalize upd (upd H2 a (.ins R dx (putF "_first_line" (.str fl) []))) a (.ins R dx (putF "_has_body" (.bl hb) (putF "_first_line" (.str fl) []))) = H3 at k2 f2 a2 nl0
    refine g_fld (fields_newT (by rfl) f2 (by have := hs.1; omega) (by intro _ _; rfl) (by intro _ _; rfl) (by intro _ _; rfl) fun l H4 nl e4 hl => ?_)
    obtain ⟨nla, nlH⟩ := nl0 l nl
    have a4 := e4 _ _ a2
    refine ⟨.ref a, rfl, a, R, dx, _, rfl, a4, WR.cls, WR.n3, by show 2 < 1000; decide, ?_⟩
    refine ⟨.str b, rfl, .ref a, rfl, a, R, dx, _, rfl, upd_same, WR.cls, WR.n4, by show 3 < 1000; decide, ?_⟩
    exact k l _ nlH ((k2.trans (Keep.of e4)).upd.upd) (by rw [upd_same, ms_put]) ((hl.updI a4).updI upd_same)
end
end Z
set_option maxHeartbeats 4000000
namespace Z
open PySem PySem.Spec PyProof.Rows L2 TL Evl NdefX
section
variable {P : Program} {w : World} {K : PySem.W.Frag} {mg : Str → Option Value} {base : Heap} {f B R C L DV DM DH : Addr} {fd : FuncData} {k : Nat}
theorem ok_Rs (T : Mg mg) (WB : Wb K mg B) (WR : Ws K mg R) (WE : We K mg DV DH) (EV : Ef P w K mg base DV ["self", "name"] "name") (MB : Mb P w K mg base B R DV) {dvs : List V} (F : FunD K "__init__" "Response.__init__" (L2.defArgs s_Rs) (L2.defBody s_Rs) (L2.defScope s_Rs) dvs [] f fd) : FnOk P w K mg base (L2N.CX P w) 6 f fd ["self", "status", "fields", "body"] (spCo K R DV false) := by
  obtain ⟨gM, fM, CF, FM, bM⟩ := MB.ex
  refine FunD.ok F sc_Rs (fun vs H Q E h => ?_) (fun cdv A outer s H vs Q E hr h => ?_)
  · obtain ⟨a, dx, q, ⟨wq, st, pp, fs, b⟩, hw, rfl, _⟩ := h
    cases (show wq = false from hw)
    rfl
  · obtain ⟨a, dx, q, ⟨wq, st, pp, fs, b⟩, hw, rfl, ha, hf, ⟨sm, sp, sf, sb⟩, k, kb⟩ := h
    cases (show wq = false from hw)
    obtain ⟨pm, hmt, hmT⟩ := WR.st
    refine ⟨_, (pss_cons (ps_if (pt_cmpR op_notIn_seq (pv 1) (ClX.pe_cval (pe_gc (v := .ref R) rfl ⟨_, WR.m, rfl⟩)) rfl)
      (pss_one (ps_raiseE EV rfl (L2N.takes_of rfl rfl rfl rfl) (hr.mono (by decide)) rfl WE.mV (pa_cons pe_str pa_nil)))
      pss_nil)
    (pss_cons (ps_expr (ZX.pe_clsFn (E := fun _ => E) (pe_gc (v := .ref B) rfl ⟨_, WB.m, rfl⟩) CF FM bM (hr.mono (by decide)) (fun σ pins H s e s' I c => L2N.passes_call (L2N.takes_of rfl rfl rfl rfl) (fun _ _ _ _ h => h) pins σ H s e s' I c) (pa_cons (pv 0) (pa_cons (pe_joined (.cons pe_str (.cons (pe_fmt (pv 1)) .nil))) (pa_cons (pe_cmpR op_notIn_seq (pv 1) (pe_tup (pa_cons pe_str (pa_cons pe_str pa_nil))) rfl) (pa_cons (pv 2) (pa_cons (pv 3) pa_nil)))))))
    (pss_one (ps_fld (pv 0) (pv 1) rfl)))), ?_⟩
    refine q_when (b := !decide (st ∈ stL)) (et_is (et_test (ev_op (ev_var rfl) (ev_cval ev_c WR.rd hmt) (rv_niT (hmT H) rfl rfl))) (congrArg (!·) (inV_strs st stL))) (fun h H2 e2 => mk_err1 (ea_cons ev_c ea_nil) (by decide +kernel) fun d H1 hd ex hx => kb "status" ?_ d H1 (fresh_back e2 hd) (e2.trans ex) hx) (fun h H2 e12 => ?_)
    · have := of_decide_eq_false ((Bool.not_eq_true' _).mp h)
      unfold badW
      rw [if_neg Bool.false_ne_true, if_pos this]
    have hm := of_decide_eq_true ((Bool.not_eq_false' _).mp h)
    have hbad : badW ⟨false, st, pp, fs, b⟩ = badM fs (hasBd st) b := by
      unfold badW
      rw [if_neg Bool.false_ne_true, if_neg (fun z => z hm)]
    rw [hbad] at k kb
    have hml := st_len hm
    refine q_in ?_; dsimp only
    refine g_drop ?_
    refine ⟨rfl, ?_⟩
    have c4 : ("answer " : Str).length ≤ 100 := by decide +kernel
    refine (ea_cons (ev_var rfl) (ea_cons (ev_joined (zs := [("answer " : Str), st]) (x := ansL st) (ej_cons ev_c (ej_cons (ev_fmt (ev_var rfl) (by omega)) ej_nil)) (by simp only [List.map_cons, List.map_nil, List.sum_cons, List.sum_nil]; omega) rfl) (ea_cons (ev_niU (ev_var rfl) (eu_tup (ea_cons ev_c (ea_cons ev_c ea_nil)) (by decide)) rfl rfl) (ea_cons (ev_var rfl) (ea_cons (ev_var rfl) ea_nil))))) H2 (Ex.refl H2) _ fun H3 e3 => ?_
    have e13 := e12.trans e3
    refine ⟨a, dx, q, ansL st, b, hasBd st, fs, rfl, e13 _ _ ha, hf.ex e13, sf, sb, fun hg l H4 nl k4 h4 hl => ?_, fun n hn d H4 hd e4 hx => kb n hn d H4 (fresh_back e13 hd) (e13.trans e4) hx⟩
    refine ⟨.str st, rfl, .ref a, rfl, a, R, dx, _, rfl, h4, WR.cls, WR.n5, by show 4 < 1000; decide, ?_⟩
    exact k hg l _ (fresh_back e13 nl) (((Keep.of e13).trans k4).upd) (by rw [upd_same]; rfl) (hl.updI h4)
theorem ok_is_path (T : Mg mg) (c_consists_of : Call P w K mg base 1 "consists_of" ["text", "signs"] (sp2 fun z s => .bl (allIn z s))) (F : FnP K "is_path" s_is_path f fd) (gm : mg "is_path" = some (.ref f)) :
    Call P w K mg base 2 "is_path" ["text"] (sp1 fun z => .bl (pathB z)) := by
  refine mk F gm (fun _ _ _ _ _ _ us hl => match us, hl with | [_], _ => rfl) (fun _ _ _ _ _ _ us hl => match us, hl with | [_], _ => rfl) sc_is_path (fun vs H Q E h => ?_) (fun cdv A outer s H vs Q E hr h => ?_)
  · obtain ⟨z, rfl, _⟩ := h
    rfl
  · obtain ⟨z, rfl, hz, q⟩ := h
    refine ⟨_, (pss_one (ps_ret (pe_and (pe_chain op_le op_le pe_int (pe_callB cz_len (by rfl) T.len (by decide +kernel) (pa_cons (pv 0) pa_nil)) (pe_gc rfl T.MOST_PATH)) (pe_and (pe_cmpR op_eq (pe_ix ix_str (pv 0) pe_int (fun _ _ => rfl)) pe_str (nomark _)) (pe_one (pe_f c_consists_of hr (by decide) rfl (pa_cons (pv 0) (pa_cons (pe_gc rfl T.PATH_SIGNS) pa_nil)))))))), ?_⟩
    refine s_ret (v := .bl (pathB z)) (ev_andV (ev_chain ev_c (ev_lenStr (ev_var rfl) hz) ev_c) fun h1 => ?_) q
    obtain ⟨c, e1, e2⟩ := item0 (z := z) (by have := (pl h1).1; omega)
    have e3 : decide ((⟨#[c]⟩ : Str) = ("/" : Str)) = decide (hd z = some 47) := by
      rw [e1, show ("/" : Str) = ⟨#[47]⟩ by decide +kernel]
      by_cases h : c = 47
      · rw [h]; rfl
      · rw [decide_eq_false fun e => h ((one_eq _ _).mp e), decide_eq_false fun e => h (Option.some.inj e)]
    refine ev_andV (a := decide (hd z = some 47)) (ev_is (ev_op (ev_ixS (ev_var rfl) ev_c hz e2) ev_c rv_eqS) (congrArg V.bl e3)) fun h2 => ev_call (ea_cons (ev_var rfl) (ea_cons ev_c ea_nil)) (sv2 hz)
theorem m_len {m : Str} (h : m ∈ mdL) : m.length ≤ 10 := by
  simp only [mdL, List.mem_cons, List.not_mem_nil, or_false] at h
  rcases h with rfl | rfl | rfl <;> decide +kernel
theorem ok_Ri (T : Mg mg) (WB : Wb K mg B) (WR : Wq K mg R) (WE : We K mg DV DH) (EV : Ef P w K mg base DV ["self", "name"] "name") (MB : Mb P w K mg base B R DV) (c_is_path : Call P w K mg base 2 "is_path" ["text"] (sp1 fun z => .bl (pathB z)))
    {dvs : List V} (F : FunD K "__init__" "Request.__init__" (L2.defArgs s_Ri) (L2.defBody s_Ri) (L2.defScope s_Ri) dvs [] f fd) : FnOk P w K mg base (L2N.CX P w) 6 f fd ["self", "method", "path", "fields", "body"] (spCo K R DV true) := by
  obtain ⟨gM, fM, CF, FM, bM⟩ := MB.ex
  refine FunD.ok F sc_Ri (fun vs H Q E h => ?_) (fun cdv A outer s H vs Q E hr h => ?_)
  · obtain ⟨a, dx, q, ⟨wq, m, p, fs, b⟩, hw, rfl, _⟩ := h
    cases (show wq = true from hw)
    rfl
  · obtain ⟨a, dx, q, ⟨wq, m, p, fs, b⟩, hw, rfl, ha, hf, ⟨sm, sp, sf, sb⟩, k, kb⟩ := h
    cases (show wq = true from hw)
    obtain ⟨pm, hmt, hmT⟩ := WR.st
    have sp : p.length ≤ 100 := sp
    have sm : m.length ≤ 100 := sm
    refine ⟨_, (pss_cons (ps_if (pt_cmpR op_notIn_seq (pv 1) (ClX.pe_cval (pe_gc (v := .ref R) rfl ⟨_, WR.m, rfl⟩)) rfl)
      (pss_one (ps_raiseE EV rfl (L2N.takes_of rfl rfl rfl rfl) (hr.mono (by decide)) rfl WE.mV (pa_cons pe_str pa_nil)))
      pss_nil)
    (pss_cons (ps_if (pt_not (pt_val (pe_f c_is_path hr (by decide) rfl (pa_cons (pv 2) pa_nil))))
      (pss_one (ps_raiseE EV rfl (L2N.takes_of rfl rfl rfl rfl) (hr.mono (by decide)) rfl WE.mV (pa_cons pe_str pa_nil)))
      pss_nil)
    (pss_cons (ps_expr (ZX.pe_clsFn (E := fun _ => E) (pe_gc (v := .ref B) rfl ⟨_, WB.m, rfl⟩) CF FM bM (hr.mono (by decide)) (fun σ pins H s e s' I c => L2N.passes_call (L2N.takes_of rfl rfl rfl rfl) (fun _ _ _ _ h => h) pins σ H s e s' I c) (pa_cons (pv 0) (pa_cons (pe_joined (.cons pe_str (.cons (pe_fmt (pv 1)) (.cons pe_str (.cons (pe_fmt (pv 2)) .nil))))) (pa_cons (pe_cmpR op_eq (pv 1) pe_str (nomark _)) (pa_cons (pv 3) (pa_cons (pv 4) pa_nil)))))))
    (pss_cons (ps_fld (pv 0) (pv 1) rfl)
    (pss_one (ps_fld (pv 0) (pv 2) rfl)))))), ?_⟩
    refine q_when (b := !decide (m ∈ mdL)) (et_is (et_test (ev_op (ev_var rfl) (ev_cval ev_c WR.rd hmt) (rv_niT (hmT H) rfl rfl))) (congrArg (!·) (inV_strs m mdL))) (fun h H2 e2 => mk_err1 (ea_cons ev_c ea_nil) (by decide +kernel) fun d H1 hd ex hx => kb "method" ?_ d H1 (fresh_back e2 hd) (e2.trans ex) hx) (fun h H1 e1 => ?_)
    · have := of_decide_eq_false ((Bool.not_eq_true' _).mp h)
      unfold badW
      rw [if_pos rfl, if_pos this]
    have hm := of_decide_eq_true ((Bool.not_eq_false' _).mp h)
    refine q_when (b := !pathB p) (et_not (et_B (ev_call (ea_cons (ev_var rfl) ea_nil) (sv1 (f := fun z => .bl (pathB z)) (by omega))))) (fun h H2 e2 => mk_err1 (ea_cons ev_c ea_nil) (by decide +kernel) fun d H3 hd ex hx => kb "path" ?_ d H3 (fresh_back (e1.trans e2) hd) ((e1.trans e2).trans ex) hx) (fun h H2 e2 => ?_)
    · unfold badW
      rw [if_pos rfl, if_neg (fun z => z hm), if_pos ((Bool.not_eq_true' _).mp h)]
    have hp := (Bool.not_eq_false' _).mp h
    have hbad : badW ⟨true, m, p, fs, b⟩ = badM fs (decide (m = ("put" : Str))) b := by
      unfold badW
      rw [if_pos rfl, if_neg (fun z => z hm), if_neg (by show ¬ pathB p = false; rw [hp]; exact Bool.noConfusion)]
    rw [hbad] at k kb
    have e12 := e1.trans e2
    refine q_in ?_; dsimp only
    refine g_drop ?_
    refine ⟨rfl, ?_⟩
    have c4 : ("ask " : Str).length ≤ 100 := by decide +kernel
    have c1 : (" " : Str).length ≤ 100 := by decide +kernel
    refine (ea_cons (ev_var rfl) (ea_cons (ev_joined (zs := [("ask " : Str), m, " ", p]) (x := asL m p) (ej_cons ev_c (ej_cons (ev_fmt (ev_var rfl) (by omega)) (ej_cons ev_c (ej_cons (ev_fmt (ev_var rfl) (by omega)) ej_nil)))) (by simp only [List.map_cons, List.map_nil, List.sum_cons, List.sum_nil]; omega) rfl) (ea_cons (ev_op (ev_var rfl) ev_c rv_eqS) (ea_cons (ev_var rfl) (ea_cons (ev_var rfl) ea_nil))))) H2 (Ex.refl H2) _ fun H3 e3 => ?_
    have e13 := e12.trans e3
    refine ⟨a, dx, q, asL m p, b, decide (m = "put"), fs, rfl, e13 _ _ ha, hf.ex e13, sf, sb, fun hg l H4 nl k4 h4 hl => ?_, fun n hn d H4 hd e4 hx => kb n hn d H4 (fresh_back e13 hd) (e13.trans e4) hx⟩
    refine q_in ?_; dsimp only
    refine ⟨.str m, rfl, .ref a, rfl, a, R, dx, _, rfl, h4, WR.wm.cls, WR.n5, by show 4 < 1000; decide, ?_⟩
    refine ⟨.str p, rfl, .ref a, rfl, a, R, dx, _, rfl, upd_same, WR.wm.cls, WR.n6, by show 5 < 1000; decide, ?_⟩
    exact k hg l _ (fresh_back e13 nl) (((Keep.of e13).trans k4).upd.upd) (by rw [upd_same]; rfl) ((hl.updI h4).updI upd_same)
end
end Z
set_option maxHeartbeats 4000000
namespace Z
open PySem PySem.Spec PyProof.Rows L2 TL Evl NdefX
/-! ### messages -/
def MeC (C : Addr) (H : Hp) (v : V) (w : Wl) (l : Addr) : Prop := ∃ a dx, v = .ref a ∧ H a = some (.ins C dx (meFs w l)) ∧ FsAt H l w.fs
theorem MeC.ex {C : Addr} {H H' : Hp} {v : V} {w : Wl} {l : Addr} (h : MeC C H v w l) (e : Ex H H') : MeC C H' v w l := by
  obtain ⟨a, dx, rfl, ha, hf⟩ := h
  exact ⟨a, dx, rfl, e _ _ ha, hf.ex e⟩
theorem MeC.keep {C p : Addr} {H H' : Hp} {v : V} {w : Wl} {l : Addr} (h : MeC C H v w l) (k : Keep p H H') (hp : ∃ xs, H p = some (.lst xs)) (n : l ≠ p) : MeC C H' v w l := by
  obtain ⟨a, dx, rfl, ha, hf⟩ := h
  refine ⟨a, dx, rfl, k _ _ (fun e => ?_) ha, hf.keep k hp n⟩
  obtain ⟨xs, hp⟩ := hp
  rw [e, hp] at ha
  cases ha
def wdW (w : Wl) (fs : Fs) (b : Str) : Wl := ⟨w.q, w.m, w.p, fs, b⟩
section
variable {K : PySem.W.Frag} {R q DV : Addr} {H : Hp} {w : Wl} {side : Bool} {Q : VK} {E : XK}
theorem co_mk (hw : w.q = side) (hf : FqAt K H q w.fs) (hs : smallW w) (kt : badW w = none → ∀ v l H', H l = none → Ex H H' → MeC R H' v w l → Q v H')
    (kf : ∀ n, badW w = some n → ∀ d H', H d = none → Ex H H' → H' d = some (.xd [("name", .str n)]) → E (.ref DV) (some d) H') :
    ∀ x dx, H x = none → H dx = none → dx ≠ x → spCo K R DV side (.ref x :: rowA w q) (upd (upd H dx (.own x)) x (.ins R dx [])) (fun v H2 => v = .non ∧ Q (.ref x) H2) E := fun x dx hx hd hne => by
  have e0 : Ex H (upd (upd H dx (.own x)) x (.ins R dx [])) := fun c o hc => by
    rw [upd_ne (ne_of_none hc hx), upd_ne (ne_of_none hc hd)]
    exact hc
  exact ⟨x, dx, q, w, hw, rfl, upd_same, hf.ex e0, hs, fun hn l H' nl kp h1 h2 => ⟨rfl, kt hn _ l H' (fresh_back e0 nl) (fun c o hc => kp c o (ne_of_none hc hx) (e0 c o hc)) ⟨x, dx, rfl, h1, h2⟩⟩, fun n hb d H' hn ex h => kf n hb d H' (fresh_back e0 hn) (e0.trans ex) h⟩
end
theorem me_first {w : Wl} {l : Addr} : (meFs w l).lookup ("_first_line" : Str) = some (.str (stW w)) := rfl
theorem me_has {w : Wl} {l : Addr} : (meFs w l).lookup ("_has_body" : Str) = some (.bl (hbW w)) := rfl
theorem me_fields {w : Wl} {l : Addr} : (meFs w l).lookup ("fields" : Str) = some (.ref l) := rfl
theorem me_body {w : Wl} {l : Addr} : (meFs w l).lookup ("body" : Str) = some (.str w.b) := rfl
theorem me_method {w : Wl} {l : Addr} (h : w.q = true) : (meFs w l).lookup ("method" : Str) = some (.str w.m) := by
  obtain ⟨q, m, p, fs, b⟩ := w
  cases (show q = true from h)
  rfl
theorem me_path {w : Wl} {l : Addr} (h : w.q = true) : (meFs w l).lookup ("path" : Str) = some (.str w.p) := by
  obtain ⟨q, m, p, fs, b⟩ := w
  cases (show q = true from h)
  rfl
theorem me_status {w : Wl} {l : Addr} (h : w.q = false) : (meFs w l).lookup ("status" : Str) = some (.str w.m) := by
  obtain ⟨q, m, p, fs, b⟩ := w
  cases (show q = false from h)
  rfl
theorem me_no {w : Wl} {l : Addr} : ∀ n ∈ ["all_values", "remade", "joined", "with_field", "without", "value"].map Str.ofString, (meFs w l).lookup n = none := by
  obtain ⟨q, m, p, fs, b⟩ := w
  intro n hn
  simp only [List.map_cons, List.map_nil, List.mem_cons, List.not_mem_nil, or_false] at hn
  cases q <;> rcases hn with rfl | rfl | rfl | rfl | rfl | rfl <;> rfl
section
variable {K : PySem.W.Frag} {C a dx l : Addr} {σ : L2.St} {H : Hp} {te : TE} {w : Wl} {v : V} {f : Str} {gs : List (Str × V)}
theorem ev_mfld (c : Cls K C) (n : NoAttr K C f) (h : Ev te σ H (.ref a)) (ha : H a = some (.ins C dx gs)) (hl : gs.lookup f = some v) : Ev (tFld K te f) σ H v := fun H1 e Q q =>
  h H1 e _ fun H2 e2 => ⟨a, C, dx, _, _, rfl, e2 _ _ (e _ _ ha), c, n, hl, q H2 e2⟩
end
def rStrS : List V → Hp → VK → Prop := fun xs H Q => ∃ a, xs = [.str a] ∧ Q (.str a) H
theorem cz_strS {X : Cx} : CallR X (.type "str") rStrS := SkE.call_str_str
theorem ev_strS {σ : L2.St} {H : Hp} {te : TE} {a : Str} (h : Ev te σ H (.str a)) : Ev (tCB rStrS (tCons te tNil)) σ H (.str a) := fun H1 e Q q => h H1 e _ fun H2 e2 => ⟨a, rfl, q H2 e2⟩
def withF (fs : Fs) (n x : Str) : Fs := (fs.filter fun y => !decide (y.1 = n)) ++ [(n, x)]
def outF (fs : Fs) (ns : List Str) : Fs := fs.filter fun y => !decide (y.1 ∈ ns)
theorem sc_Mu : FnScope ["self", "name", "own", "value"] ["self", "name"] (L2.defScope s_Mu) := ⟨rfl, rfl, rfl, by decide +kernel, rfl, by decide +kernel, by decide +kernel⟩
theorem sc_Mv : FnScope ["self", "name", "own", "value"] ["self", "name"] (L2.defScope s_Mv) := ⟨rfl, rfl, rfl, by decide +kernel, rfl, by decide +kernel, by decide +kernel⟩
theorem sc_Mj : FnScope ["self", "name", "found"] ["self", "name"] (L2.defScope s_Mj) := ⟨rfl, rfl, rfl, by decide +kernel, rfl, by decide +kernel, by decide +kernel⟩
theorem sc_Mw : FnScope ["self", "name", "value", "others", "field"] ["self", "name", "value"] (L2.defScope s_Mw) := ⟨rfl, rfl, rfl, by decide +kernel, rfl, by decide +kernel, by decide +kernel⟩
theorem sc_Mo : FnScope ["self", "names", "field"] ["self", "names"] (L2.defScope s_Mo) := ⟨rfl, rfl, rfl, by decide +kernel, rfl, by decide +kernel, by decide +kernel⟩
theorem sc_Pm : FnScope ["self"] ["self"] (L2.defScope s_Pm) := ⟨rfl, rfl, rfl, by decide +kernel, rfl, by decide +kernel, by decide +kernel⟩
theorem sc_Ps : FnScope ["self"] ["self"] (L2.defScope s_Ps) := ⟨rfl, rfl, rfl, by decide +kernel, rfl, by decide +kernel, by decide +kernel⟩
theorem sc_Mt : FnScope ["self"] ["self"] (L2.defScope s_Mt) := ⟨rfl, rfl, rfl, by decide +kernel, rfl, by decide +kernel, by decide +kernel⟩
theorem sc_Me : FnScope ["self", "other"] ["self", "other"] (L2.defScope s_Me) := ⟨rfl, rfl, rfl, by decide +kernel, rfl, by decide +kernel, by decide +kernel⟩
theorem sc_Rr : FnScope ["self", "fields", "body"] ["self", "fields", "body"] (L2.defScope s_Rr) := ⟨rfl, rfl, rfl, by decide +kernel, rfl, by decide +kernel, by decide +kernel⟩
theorem sc_Sr : FnScope ["self", "fields", "body"] ["self", "fields", "body"] (L2.defScope s_Sr) := ⟨rfl, rfl, rfl, by decide +kernel, rfl, by decide +kernel, by decide +kernel⟩
def spAv (C : Addr) : Sp := fun vs H Q _ => ∃ v n w l, vs = [v, .str n] ∧ MeC C H v w l ∧ w.fs.length ≤ 40 ∧ RetL ((valsF w.fs n).map V.str) H Q
def spJn (C : Addr) : Sp := fun vs H Q _ => ∃ v n w l, vs = [v, .str n] ∧ MeC C H v w l ∧ areB w.fs = true ∧ RetV (optV (joinF w.fs n)) H Q
def spVa (C : Addr) : Sp := fun vs H Q _ => ∃ v n w l, vs = [v, .str n] ∧ MeC C H v w l ∧ w.fs.length ≤ 40 ∧ RetV (optV (valsF w.fs n).head?) H Q
def spPs (C : Addr) : Sp := fun vs H Q _ => ∃ v w l, vs = [v] ∧ MeC C H v w l ∧ RetV (.str (stW w)) H Q
def spPm (C : Addr) : Sp := fun vs H Q _ => ∃ v w l, vs = [v] ∧ MeC C H v w l ∧ RetV (.bl (hbW w)) H Q
def spRm (K : PySem.W.Frag) (C DV : Addr) (side : Bool) : Sp := fun vs H Q E => ∃ v q b fs w l, w.q = side ∧ vs = [v, .ref q, .str b] ∧ MeC C H v w l ∧ FqAt K H q fs ∧ smallW (wdW w fs b) ∧
  (badW (wdW w fs b) = none → ∀ v' l' H', H l' = none → Ex H H' → MeC C H' v' (wdW w fs b) l' → Q v' H') ∧ (∀ n, badW (wdW w fs b) = some n → ∀ d H', H d = none → Ex H H' → H' d = some (.xd [("name", .str n)]) → E (.ref DV) (some d) H')
def spWf (C DV : Addr) (side : Bool) : Sp := fun vs H Q E => ∃ v n x w l, w.q = side ∧ vs = [v, .str n, .str x] ∧ MeC C H v w l ∧ smallW (wdW w (withF w.fs n x) w.b) ∧ w.fs.length ≤ 40 ∧
  (badW (wdW w (withF w.fs n x) w.b) = none → ∀ v' l' H', H l' = none → Ex H H' → MeC C H' v' (wdW w (withF w.fs n x) w.b) l' → Q v' H') ∧ (∀ e, badW (wdW w (withF w.fs n x) w.b) = some e → ∀ d H', H d = none → Ex H H' → H' d = some (.xd [("name", .str e)]) → E (.ref DV) (some d) H')
structure Mkx (P : Program) (w : World) (K : PySem.W.Frag) (mg : Str → Option Value) (base : Heap) (R DV : Addr) (side : Bool) (ps : List Str) : Prop where
  ex : ∃ fi fd, Mk K R fi ∧ FnOk P w K mg base (L2N.CX P w) 6 fi fd ps (spCo K R DV side) ∧ Binds K fd ps []
abbrev rqN : List Str := ["self", "method", "path", "fields", "body"]
abbrev rsN : List Str := ["self", "status", "fields", "body"]
/-- the methods that the others call -/
structure Rmx (P : Program) (w : World) (K : PySem.W.Frag) (mg : Str → Option Value) (base : Heap) (C DV : Addr) (side : Bool) : Prop where
  ex : ∃ fv dv fr dr, Meth K C "all_values" fv ∧ FnOk P w K mg base CX0 1 fv dv ["self", "name"] (spAv C) ∧ Binds K dv ["self", "name"] [] ∧ Meth K C "remade" fr ∧ FnOk P w K mg base (L2N.CX P w) 8 fr dr ["self", "fields", "body"] (spRm K C DV side) ∧ Binds K dr ["self", "fields", "body"] []
theorem rd_mkS {C : Addr} {sp : Sp} {dvs : List V} {E : XK} {ta : TA} {σ : L2.St} {H : Hp} {Q : VK} (h : ta σ H fun vs H1 => ∀ x dx, H1 x = none → H1 dx = none → dx ≠ x → sp (.ref x :: (vs ++ dvs)) (upd (upd H1 dx (.own x)) x (.ins C dx [])) (fun v H2 => v = .non ∧ Q (.ref x) H2) E) : tMake C sp dvs E ta σ H Q := h
section
variable {P : Program} {w : World} {K : PySem.W.Frag} {mg : Str → Option Value} {base : Heap} {f B C DV DH : Addr} {fd : FuncData} {k : Nat} {CX : CXT}
theorem ok_Mv (WR : Wm K C) (F : FunD K "all_values" "Message.all_values" (L2.defArgs s_Mv) (L2.defBody s_Mv) (L2.defScope s_Mv) [] [] f fd) : FnOk P w K mg base CX 1 f fd ["self", "name"] (spAv C) := by
  refine FunD.ok F sc_Mv (fun vs H Q E h => ?_) (fun cdv A outer s H vs Q E hr h => ?_)
  · obtain ⟨v, n, w, l, rfl, _⟩ := h
    rfl
  · obtain ⟨v, n, w, l, rfl, ⟨a, dx, rfl, ha, xs, hx, hr1⟩, hz, q⟩ := h
    refine ⟨_, (pss_one (ps_ret (pe_lc (own := [("own", 2), ("value", 3)]) (g := (gTup K 2 (gCons (gName 2) (gCons (gName 3) gNil)))) rfl sc_Mv.nd (pi_list (pe_fld (pv 0) rfl)) (blkOk_by (N := ["self", "name", "own", "value"]) (sc := L2.defScope s_Mv) (by decide +kernel)) (fun _ _ _ _ _ => pg_tup rfl (pgs_cons (pg_name (i := 2) sc_Mv.nd rfl (Or.inl rfl)) (pgs_cons (pg_name (i := 3) sc_Mv.nd rfl (Or.inl rfl)) pgs_nil))) (fun _ _ _ _ _ => pts_one (pt_cmpR op_eq (pv 2) (pv 1) (nomark _))) (fun _ _ _ _ _ => (pv 3))))), ?_⟩
    refine g_ret ?_
    refine ⟨.ref a, rfl, a, C, dx, _, .ref l, rfl, ha, WR.cls, WR.n3, rfl, l, rfl, ⟨_, sq_of hx⟩, fun D hD => ?_⟩
    refine lc_rel (α := Str) (fun i => valsF (w.fs.take i) n) (fun _ v s => v = .str s) (fun _ _ _ _ _ _ h => h) (sq_of hx) hD rfl (by rw [hr1.1]; omega) (fun i x H3 hi e3 k k0 hk hk0 => ?_) (fun H3 ys e3 hy hrel => ?_)
    · obtain ⟨o, ho, t, rfl, ht⟩ := hr1.get hi
      have ht3 := e3 _ _ ht
      have hacc : valsF (w.fs.take (i + 1)) n = valsF (w.fs.take i) n ++ (if decide (o.1 = n) = true then [o.2] else []) := by
        unfold valsF
        rw [List.take_add_one, ho, List.filter_append, List.map_append]
        show _ ++ List.map Prod.snd (List.filter _ [o]) = _
        rw [List.filter_cons]
        by_cases h : o.1 = n
        · rw [decide_eq_true h]; rfl
        · rw [decide_eq_false h]; rfl
      refine ⟨t, _, rfl, st_of ht3, rfl, _, _, rfl, _, _, rfl, rfl, rfl, ?_⟩
      refine (et_test (ev_op (ev_var rfl) (ev_var rfl) rv_eqS)) H3 (Ex.refl H3) _ fun H4 e4 => ?_
      cases hb : decide (o.1 = n) with
      | true =>
        rw [if_pos rfl]
        exact (ev_var rfl) H4 (Ex.refl H4) _ fun H5 e5 => hk _ H5 o.2 (e4.trans e5) (by rw [hacc, hb]; rfl) rfl
      | false =>
        rw [if_neg Bool.false_ne_true]
        exact hk0 H4 e4 (by rw [hacc, hb]; exact List.append_nil _)
    · rw [hr1.1, List.take_length] at hrel
      have ey : ys = (valsF w.fs n).map V.str := by
        refine List.ext_getElem (by rw [hrel.1, List.length_map]) fun i h1 h2 => ?_
        rw [List.getElem_map]
        rw [List.length_map] at h2
        exact hrel.2 i _ _ (List.getElem?_eq_getElem h1) (List.getElem?_eq_getElem h2)
      exact q D H3 hD e3 (by rw [hy, ey])
theorem ok_Mj (T : Mg mg) (WR : Wm K C) (RM : Rmx P w K mg base C DV side) (F : FunD K "joined" "Message.joined" (L2.defArgs s_Mj) (L2.defBody s_Mj) (L2.defScope s_Mj) [] [] f fd) : FnOk P w K mg base CX 2 f fd ["self", "name"] (spJn C) := by
  obtain ⟨fv, dv, fr, dr, mv, Fv, bv, mr, Fr, br⟩ := RM.ex
  refine FunD.ok F sc_Mj (fun vs H Q E h => ?_) (fun cdv A outer s H vs Q E hr h => ?_)
  · obtain ⟨v, n, w, l, rfl, _⟩ := h
    rfl
  · obtain ⟨v, n, w, l, rfl, hm, hok, q⟩ := h
    obtain ⟨hn, hv⟩ := vals_len (n := n) hok
    refine ⟨_, (pss_cons (ps_set (i := 2) sc_Mj.nd rfl (Or.inl rfl) (pe_meth (pv 0) WR.cls mv Fv (hr.mono (by decide)) bv .nil pass0 (pa_cons (pv 1) pa_nil)))
    (pss_cons (ps_if (pt_not (pt_truth (pv 2) (by intro _; rfl)))
      (pss_one (ps_ret pe_non))
      pss_nil)
    (pss_one (ps_ret (pe_bm PySem.F.plainAttrs_str PySem.F.slot_str_join PySem.F.type_str_join mz_join pe_str (pa_cons (pv 2) pa_nil)))))), ?_⟩
    refine q_in ?_; dsimp only
    refine g_asg ?_
    obtain ⟨a, dx, rfl, ha, hf⟩ := id hm
    refine ⟨.ref a, rfl, a, dx, _, rfl, ha, me_no _ (by simp), .str n, rfl, .ref a, n, w, l, rfl, hm, (areB_val hok).1, fun p H2 np e2 hpl => ?_⟩
    refine g_name ?_; dsimp only
    have hemp : ((valsF w.fs n).map V.str).isEmpty = decide (valsF w.fs n = []) := by
      cases valsF w.fs n <;> rfl
    refine q_when (b := decide (valsF w.fs n = [])) (et_is (et_not (et_truL (ev_var rfl) (sq_of hpl))) (by rw [Bool.not_not, hemp])) (fun hb H3 e3 => ?_) (fun hb H3 e3 => ?_)
    · refine s_ret ev_c fun H4 e4 => ?_
      have g := q H4 ((e2.trans e3).trans e4)
      unfold joinF at g
      rw [if_pos (of_decide_eq_true hb)] at g
      exact g
    · have h3 := sum_most (valsF w.fs n) 200 hv
      have h5 : (", " : Str).length = 2 := by decide +kernel
      have h6 := Nat.mul_le_mul_right 200 hn
      refine g_ret ⟨rfl, .ref p, rfl, ", ", p, valsF w.fs n, rfl, rfl, .inl (sq_of (e3 _ _ hpl)), by rw [h5]; omega, ?_⟩
      have g := q H3 (e2.trans e3)
      unfold joinF at g
      rw [if_neg (of_decide_eq_false hb)] at g
      exact g
theorem ok_Ps (WR : Wm K C) (F : FunD K "start" "Message.start" (L2.defArgs s_Ps) (L2.defBody s_Ps) (L2.defScope s_Ps) [] [] f fd) : FnOk P w K mg base CX0 1 f fd ["self"] (spPs C) := by
  refine FunD.ok F sc_Ps (fun vs H Q E h => ?_) (fun cdv A outer s H vs Q E hr h => ?_)
  · obtain ⟨v, w, l, rfl, _⟩ := h
    rfl
  · obtain ⟨v, w, l, rfl, ⟨a, dx, rfl, ha, hf⟩, q⟩ := h
    refine ⟨_, (pss_one (ps_ret (pe_fld (pv 0) rfl))), ?_⟩
    exact g_ret ⟨.ref a, rfl, a, C, dx, _, .str (stW w), rfl, ha, WR.cls, WR.n1, rfl, q H (Ex.refl H)⟩
theorem ok_Pm (WR : Wm K C) (F : FunD K "may_have_body" "Message.may_have_body" (L2.defArgs s_Pm) (L2.defBody s_Pm) (L2.defScope s_Pm) [] [] f fd) : FnOk P w K mg base CX0 1 f fd ["self"] (spPm C) := by
  refine FunD.ok F sc_Pm (fun vs H Q E h => ?_) (fun cdv A outer s H vs Q E hr h => ?_)
  · obtain ⟨v, w, l, rfl, _⟩ := h
    rfl
  · obtain ⟨v, w, l, rfl, ⟨a, dx, rfl, ha, hf⟩, q⟩ := h
    refine ⟨_, (pss_one (ps_ret (pe_fld (pv 0) rfl))), ?_⟩
    exact g_ret ⟨.ref a, rfl, a, C, dx, _, .bl (hbW w), rfl, ha, WR.cls, WR.n2, rfl, q H (Ex.refl H)⟩
theorem ok_Mt (T : Mg mg) (WR : Wm K C) (F : FunD K "__str__" "Message.__str__" (L2.defArgs s_Mt) (L2.defBody s_Mt) (L2.defScope s_Mt) [] [] f fd) : FnOk P w K mg base CX0 1 f fd ["self"] (spPs C) := by
  refine FunD.ok F sc_Mt (fun vs H Q E h => ?_) (fun cdv A outer s H vs Q E hr h => ?_)
  · obtain ⟨v, w, l, rfl, _⟩ := h
    rfl
  · obtain ⟨v, w, l, rfl, ⟨a, dx, rfl, ha, hf⟩, q⟩ := h
    refine ⟨_, (pss_one (ps_ret (pe_callTy cz_strS (by rfl) T.str (by decide +kernel) (pa_cons (pe_fld (pv 0) rfl) pa_nil)))), ?_⟩
    exact s_ret (v := .str (stW w)) (ev_strS (ev_mfld WR.cls WR.n1 (ev_var rfl) ha me_first)) q
end
end Z
set_option maxHeartbeats 4000000
namespace Z
open PySem PySem.Spec PyProof.Rows L2 TL Evl NdefX
theorem inO {X : Cx} {K : PySem.W.Frag} {op : Value → Value → Sem Value} {r : PySem.W.Frag → R2} (same : X.K = K) (h : OpR X op (r X.K)) : OpR X op (r K) := same ▸ h
theorem rd_star {K : PySem.W.Frag} {σ : L2.St} {H : Hp} {te : TE} {tr : TA} {l : Addr} {xs : List V} {S : List V → Hp → Prop} (h : Ev te σ H (.ref l)) (hl : H l = some (.lst xs)) (k : ∀ H1, Ex H H1 → tr σ H1 fun ys H2 => S (xs ++ ys) H2) : StX.tStar K te tr σ H S :=
  h H (Ex.refl H) _ fun H1 e1 => ⟨l, xs, rfl, .inr (sq_of (e1 _ _ hl)), k H1 e1⟩
theorem rd_consU {σ : L2.St} {H : Hp} {te : TE} {tr : TA} {xs : List V} {Q : List V → Hp → Prop} (h : EvU te σ H xs) (k : ∀ p H1, H p = none → Ex H H1 → H1 p = some (.tup xs) → tr σ H1 fun vs H2 => Q (.ref p :: vs) H2) : tCons te tr σ H Q := h H (Ex.refl H) _ k
theorem rd_consLst {σ : L2.St} {H : Hp} {ta tr : TA} {S : List V → Hp → Prop} (h : ta σ H fun xs H1 => xs.length ≤ sizeLine ∧ ∀ p, H1 p = none → tr σ (upd H1 p (.lst xs)) fun ys H2 => S (.ref p :: ys) H2) : tCons (tLst ta) tr σ H S := h
theorem vals_take {fs : Fs} {n : Str} {i : Nat} {o : Str × Str} (h : fs[i]? = some o) : valsF (fs.take (i + 1)) n = valsF (fs.take i) n ++ (if decide (o.1 = n) = true then [o.2] else []) := by
  unfold valsF
  rw [List.take_add_one, h, List.filter_append, List.map_append]
  show _ ++ List.map Prod.snd (List.filter _ [o]) = _
  rw [List.filter_cons]
  by_cases h : o.1 = n
  · rw [decide_eq_true h]; rfl
  · rw [decide_eq_false h]; rfl
theorem vals_head {fs : Fs} {n : Str} {i : Nat} {o : Str × Str} (h : fs[i]? = some o) (h0 : valsF (fs.take i) n = []) (hn : o.1 = n) : (valsF fs n).head? = some o.2 := by
  have e : fs = fs.take (i + 1) ++ fs.drop (i + 1) := (List.take_append_drop _ _).symm
  have : valsF fs n = valsF (fs.take (i + 1)) n ++ valsF (fs.drop (i + 1)) n := by
    conv => lhs; rw [e]
    unfold valsF
    rw [List.filter_append, List.map_append]
  rw [this, vals_take h, h0, decide_eq_true hn]
  rfl
section
variable {P : Program} {w : World} {K : PySem.W.Frag} {mg : Str → Option Value} {base : Heap} {f B C DV DH : Addr} {fd : FuncData} {k : Nat}
theorem ok_Mu (WR : Wm K C) (F : FunD K "value" "Message.value" (L2.defArgs s_Mu) (L2.defBody s_Mu) (L2.defScope s_Mu) [] [] f fd) : FnOk P w K mg base (L2N.CX P w) 1 f fd ["self", "name"] (spVa C) := by
  refine FunD.ok F sc_Mu (fun vs H Q E h => ?_) (fun cdv A outer s H vs Q E hr h => ?_)
  · obtain ⟨v, n, w, l, rfl, _⟩ := h
    rfl
  · obtain ⟨v, n, w, l, rfl, ⟨a, dx, rfl, ha, xs, hx, hr1⟩, hz, q⟩ := h
    refine ⟨_, (pss_cons (ps_for (passes_of rfl) rfl (pi_list (pe_fld (pv 0) rfl)) (pg_tup rfl (pgs_cons (pg_name (i := 2) sc_Mu.nd rfl (Or.inl rfl)) (pgs_cons (pg_name (i := 3) sc_Mu.nd rfl (Or.inl rfl)) pgs_nil)))
      (pss_one (ps_if (pt_cmpR op_eq (pv 2) (pv 1) (nomark _))
        (pss_one (ps_ret (pv 3)))
        pss_nil)))
    (pss_one (ps_ret pe_non))), ?_⟩
    refine q_forL (ev_mfld WR.cls WR.n3 (ev_var rfl) ha me_fields) (sq_of hx) (fun i σ' H' => (∃ v2 v3, σ' = [some (.ref a), some (.str n), v2, v3]) ∧ Ex H H' ∧ valsF (w.fs.take i) n = []) (fun H1 e1 => ⟨⟨none, none, rfl⟩, e1, rfl⟩) (fun i σ' H' _ pv => sq_of (pv.2.1 _ _ hx)) (fun i x σ' H' hi pv => ?_) (fun σ' H' pv => ?_)
    · obtain ⟨⟨v2, v3, rfl⟩, e, h0⟩ := pv
      obtain ⟨o, ho, t, rfl, ht⟩ := hr1.get hi
      refine ⟨t, _, rfl, st_of (e _ _ ht), rfl, _, _, rfl, _, _, rfl, rfl, ?_⟩
      refine s_when (b := decide (o.1 = n)) (et_test (ev_op (ev_var rfl) (ev_var rfl) rv_eqS)) (fun hb H2 e2 => ?_) (fun hb H2 e2 => ⟨⟨_, _, rfl⟩, e.trans e2, ?_⟩)
      · refine s_ret (ev_var rfl) fun H3 e3 => ?_
        have g := q H3 ((e.trans e2).trans e3)
        rw [vals_head ho h0 (of_decide_eq_true hb)] at g
        exact g
      · rw [vals_take ho, h0, hb]
        rfl
    · obtain ⟨⟨v2, v3, rfl⟩, e, h0⟩ := pv
      rw [hr1.1, List.take_length] at h0
      rw [h0] at q
      exact s_ret ev_c fun H1 e1 => q H1 (e.trans e1)
theorem ok_Rr (WR : Wq K mg C) (RI : Mkx P w K mg base C DV true rqN) (F : FunD K "remade" "Request.remade" (L2.defArgs s_Rr) (L2.defBody s_Rr) (L2.defScope s_Rr) [] [] f fd) : FnOk P w K mg base (L2N.CX P w) 8 f fd ["self", "fields", "body"] (spRm K C DV true) := by
  obtain ⟨fi, fdi, M, Fi, hb0⟩ := RI.ex
  refine FunD.ok F sc_Rr (fun vs H Q E h => ?_) (fun cdv A outer s H vs Q E hr h => ?_)
  · obtain ⟨v, q, b, fs, w, l, hw, rfl, _⟩ := h
    rfl
  · obtain ⟨v, q, b, fs, w, l, hw, rfl, ⟨a, dx, rfl, ha, hf⟩, hq, hs, k, kb⟩ := h
    refine ⟨_, (pss_one (ps_ret (pe_make (E := E) M Fi (hr.mono (by decide)) rfl WR.m hb0 .nil (L2N.passes_call (L2N.takes_of rfl rfl rfl rfl) (fun _ _ _ _ h => h)) (pa_cons (pe_fld (pv 0) rfl) (pa_cons (pe_fld (pv 0) rfl) (pa_cons (pv 1) (pa_cons (pv 2) pa_nil))))))), ?_⟩
    refine g_ret (rd_mkS ?_)
    refine (ea_cons (ev_mfld WR.wm.cls WR.n5 (ev_var rfl) ha (me_method hw)) (ea_cons (ev_mfld WR.wm.cls WR.n6 (ev_var rfl) ha (me_path hw)) (ea_cons (ev_var rfl) (ea_cons (ev_var rfl) ea_nil)))) H (Ex.refl H) _ fun H1 e1 => ?_
    have g := co_mk (E := E) (R := C) (DV := DV) (side := true) (w := wdW w fs b) (Q := Q) hw (hq.ex e1) hs (fun hn v l' H' nl e hm => k hn v l' H' (fresh_back e1 nl) (e1.trans e) hm) (fun n hn d H' hd e hx => kb n hn d H' (fresh_back e1 hd) (e1.trans e) hx)
    have er : rowA (wdW w fs b) q = [.str w.m, .str w.p, .ref q, .str b] := by
      unfold rowA wdW
      rw [if_pos hw]
    rw [er] at g
    exact g
theorem ok_Sr (WR : Ws K mg C) (RI : Mkx P w K mg base C DV false rsN) (F : FunD K "remade" "Response.remade" (L2.defArgs s_Sr) (L2.defBody s_Sr) (L2.defScope s_Sr) [] [] f fd) : FnOk P w K mg base (L2N.CX P w) 8 f fd ["self", "fields", "body"] (spRm K C DV false) := by
  obtain ⟨fi, fdi, M, Fi, hb0⟩ := RI.ex
  refine FunD.ok F sc_Sr (fun vs H Q E h => ?_) (fun cdv A outer s H vs Q E hr h => ?_)
  · obtain ⟨v, q, b, fs, w, l, hw, rfl, _⟩ := h
    rfl
  · obtain ⟨v, q, b, fs, w, l, hw, rfl, ⟨a, dx, rfl, ha, hf⟩, hq, hs, k, kb⟩ := h
    refine ⟨_, (pss_one (ps_ret (pe_make (E := E) M Fi (hr.mono (by decide)) rfl WR.m hb0 .nil (L2N.passes_call (L2N.takes_of rfl rfl rfl rfl) (fun _ _ _ _ h => h)) (pa_cons (pe_fld (pv 0) rfl) (pa_cons (pv 1) (pa_cons (pv 2) pa_nil)))))), ?_⟩
    refine g_ret (rd_mkS ?_)
    refine (ea_cons (ev_mfld WR.cls WR.n5 (ev_var rfl) ha (me_status hw)) (ea_cons (ev_var rfl) (ea_cons (ev_var rfl) ea_nil))) H (Ex.refl H) _ fun H1 e1 => ?_
    have g := co_mk (E := E) (R := C) (DV := DV) (side := false) (w := wdW w fs b) (Q := Q) hw (hq.ex e1) hs (fun hn v l' H' nl e hm => k hn v l' H' (fresh_back e1 nl) (e1.trans e) hm) (fun n hn d H' hd e hx => kb n hn d H' (fresh_back e1 hd) (e1.trans e) hx)
    have er : rowA (wdW w fs b) q = [.str w.m, .ref q, .str b] := by
      unfold rowA wdW
      have hw' : w.q = false := hw
      rw [if_neg (by rw [hw']; exact Bool.false_ne_true)]
    rw [er] at g
    exact g
theorem ok_Mw (WR : Wm K C) (RM : Rmx P w K mg base C DV side) (F : FunD K "with_field" "Message.with_field" (L2.defArgs s_Mw) (L2.defBody s_Mw) (L2.defScope s_Mw) [] [] f fd) : FnOk P w K mg base (L2N.CX P w) 9 f fd ["self", "name", "value"] (spWf C DV side) := by
  obtain ⟨fv, dv, fr, dr, mv, Fv, bv, mr, Fr, br⟩ := RM.ex
  refine FunD.ok F sc_Mw (fun vs H Q E h => ?_) (fun cdv A outer s H vs Q E hr h => ?_)
  · obtain ⟨v, n, x, w, l, hw, rfl, _⟩ := h
    rfl
  · obtain ⟨v, n, x, w, l, hw, rfl, hm, hs, hz, k, kb⟩ := h
    obtain ⟨a, dx, rfl, ha, hf⟩ := id hm
    obtain ⟨xs, hx, hr1⟩ := id hf
    refine ⟨_, (pss_cons (ps_setLc (i := 3) (own := [("field", 4)]) (g := gName 4) rfl sc_Mw.nd rfl rfl (sw_true rfl rfl rfl (by decide +kernel)) (pi_list (pe_fld (pv 0) rfl)) (blkOk_by (N := ["self", "name", "value", "others", "field"]) (sc := L2.defScope s_Mw) (by decide +kernel)) (fun _ _ _ _ _ => pg_name (i := 4) sc_Mw.nd rfl (Or.inl rfl)) (fun _ _ _ _ _ => pts_one (pt_cmpR op_ne (inK (K := K) (t := fun K => tOp (rIxT K) _ _) rfl (pe_ix ix_tup (pv 4) pe_int (fun _ _ => rfl))) (pv 1) (nomark _))) (fun _ _ _ _ _ => (pv 4)))
    (pss_one (ps_ret (pe_meth (E := E) (pv 0) WR.cls mr Fr (hr.mono (by decide)) br .nil (L2N.passes_call (L2N.takes_of rfl rfl rfl rfl) (fun _ _ _ _ h => h)) (pa_cons (pe_lst (StX.pa_star (pv 3) (pa_cons (pe_tup (pa_cons (pv 1) (pa_cons (pv 2) pa_nil))) pa_nil))) (pa_cons (pe_fld (pv 0) rfl) pa_nil)))))), ?_⟩
    refine q_in ?_; dsimp only
    refine g_asg ?_
    refine ⟨.ref a, rfl, a, C, dx, _, .ref l, rfl, ha, WR.cls, WR.n3, rfl, l, rfl, ⟨_, sq_of hx⟩, fun D hD => ?_⟩
    refine lc_rel (α := Str × Str) (fun i => (w.fs.take i).filter fun y => !decide (y.1 = n)) PfAt (fun _ _ _ _ k hD r => TupAt.keep r k hD) (sq_of hx) hD rfl (by rw [hr1.1]; omega) (fun i y H3 hi e3 k k0 hk hk0 => ?_) (fun H3 ys e3 hy hrel => ?_)
    · obtain ⟨o, ho, t, rfl, ht⟩ := hr1.get hi
      have ht3 := e3 _ _ ht
      have hacc : (w.fs.take (i + 1)).filter (fun y => !decide (y.1 = n)) = (w.fs.take i).filter (fun y => !decide (y.1 = n)) ++ (if (!decide (o.1 = n)) = true then [o] else []) := by
        rw [List.take_add_one, ho, List.filter_append]
        show _ ++ List.filter _ [o] = _
        rw [List.filter_cons]
        by_cases h : o.1 = n
        · rw [decide_eq_true h]; rfl
        · rw [decide_eq_false h]; rfl
      refine ⟨rfl, ?_⟩
      refine (et_test (ev_op (ev_ixT (ev_var rfl) ev_c ht3 (atI_nat (j := 0) rfl)) (ev_var rfl) rv_neS)) H3 (Ex.refl H3) _ fun H4 e4 => ?_
      cases hb : !decide (o.1 = n) with
      | true =>
        rw [if_pos rfl]
        exact (ev_var rfl) H4 (Ex.refl H4) _ fun H5 e5 => hk _ H5 o (e4.trans e5) (by rw [hacc, hb]; rfl) ⟨t, rfl, (e4.trans e5) _ _ ht3⟩
      | false =>
        rw [if_neg Bool.false_ne_true]
        exact hk0 H4 e4 (by rw [hacc, hb]; exact List.append_nil _)
    · rw [hr1.1, List.take_length] at hrel
      refine g_name ?_; dsimp only
      refine g_ret ?_
      refine ⟨.ref a, rfl, a, dx, _, rfl, e3 _ _ ha, me_no _ (by simp), ?_⟩
      refine rd_consLst (rd_star (ev_var rfl) hy fun H4 e4 => rd_consU (eu_tup (ea_cons (ev_var rfl) (ea_cons (ev_var rfl) ea_nil)) (by show 2 ≤ _; decide)) fun t H5 nt e5 ht => rd_nil ⟨by rw [List.length_append, hrel.1]; exact sz_of (by have := List.length_filter_le (fun y => !decide (y.1 = n)) w.fs; show _ + 1 ≤ _; omega), fun p np => ?_⟩)
      have e35 := e4.trans e5
      have enp := Ex.new (o := .lst (ys ++ [.ref t])) np
      refine rd_consE (ev_mfld WR.cls WR.n4 (ev_var rfl) ((e3.trans (e35.trans enp)) _ _ ha) me_body) fun H6 e6 => rd_nil ?_
      have e6' := enp.trans e6
      have e06 := e3.trans (e35.trans e6')
      refine ⟨.ref a, p, w.b, withF w.fs n x, w, l, hw, rfl, hm.ex e06, FsAt.fq ⟨_, e6 _ _ upd_same, ?_⟩, hs, fun hg v' l' H' nl e hv => k hg v' l' H' (fresh_back e06 nl) (e06.trans e) hv, fun z hz d H' hd e hx => kb z hz d H' (fresh_back e06 hd) (e06.trans e) hx⟩
      refine Rel.snoc (hrel.mono fun _ _ m => TupAt.ex m (e35.trans e6')) ⟨t, rfl, e6' _ _ ht⟩
def spWo0 (K : PySem.W.Frag) (C : Addr) (side : Bool) : Sp := fun vs H Q _ => ∃ v p ns w l, w.q = side ∧ vs = [v, .ref p] ∧ H p = some (.tup (ns.map V.str)) ∧ MeC C H v w l ∧ smallW (wdW w (outF w.fs ns) w.b) ∧ badW (wdW w (outF w.fs ns) w.b) = none ∧ w.fs.length ≤ 40 ∧ ∀ v' l' H', H l' = none → Ex H H' → MeC C H' v' (wdW w (outF w.fs ns) w.b) l' → Q v' H'
def spWoR (K : PySem.W.Frag) (C : Addr) (side : Bool) : Sp := fun vs H Q E => ∃ v rest, vs = v :: rest ∧ rest.length ≤ 5 ∧ ∀ p, H p = none → spWo0 K C side [v, .ref p] (upd H p (.tup rest)) Q E
theorem flat_strs : ∀ ns : List Str, (ns.map V.str).all flatV = true
  | [] => rfl
  | _ :: r => by rw [List.map_cons, List.all_cons, flat_strs r]; rfl
theorem ok_Mo (WR : Wm K C) (RM : Rmx P w K mg base C DV side) (F : FunD K "without" "Message.without" (L2.defArgs s_Mo) (L2.defBody s_Mo) (L2.defScope s_Mo) [] [] f fd) : FnR P w K mg base CX0 10 f (spWoR K C side) := by
  obtain ⟨fv, dv, fr, dr, mv, Fv, bv, mr, Fr, br⟩ := RM.ex
  obtain ⟨oc, od, dflt, kwd, doc, mod, ann, code, tp, osl, isFd, lk, hcd, none_given, _⟩ := F.ex
  rw [isFd] at lk
  have nd : dflt = .none := none_given.elim (fun q => q.2) fun q => absurd rfl q.1
  subst nd
  refine fn_ofV (pa := "self") (pv := "names") (nmax := 5) (sp := spWo0 K C side) lk hcd sc_Mo (by decide) (bindV_of (fun _ => rfl) (fun _ _ => rfl) (fun _ _ _ => rfl) (fun _ _ _ _ => rfl) (fun _ _ _ _ _ => rfl) (fun _ _ _ _ _ _ => rfl)) (fun _ _ _ _ _ _ _ _ _ _ _ _ z => z) fun A outer s H vs Q E hr h => ?_
  obtain ⟨v, p, ns, w, l, hw, rfl, hp, hm, hs, hg, hz, k⟩ := h
  obtain ⟨a, dx, rfl, ha, hf⟩ := id hm
  obtain ⟨xs, hx, hr1⟩ := id hf
  refine ⟨_, (pss_one (ps_ret (pe_meth (pv 0) WR.cls mr Fr (hr.mono (by decide)) br .nil ZX.passN (pa_cons (pe_lc (own := [("field", 2)]) (g := gName 2) rfl sc_Mo.nd (pi_list (pe_fld (pv 0) rfl)) (blkOk_by (N := ["self", "names", "field"]) (sc := L2.defScope s_Mo) (by decide +kernel)) (fun _ _ _ _ _ => pg_name (i := 2) sc_Mo.nd rfl (Or.inl rfl)) (fun _ _ _ _ _ => pts_one (pt_cmpR (inO (K := K) (r := fun K => rIn K true) rfl op_notIn_seq) (inK (K := K) (t := fun K => tOp (rIxT K) _ _) rfl (pe_ix ix_tup (pv 2) pe_int (fun _ _ => rfl))) (pv 1) rfl)) (fun _ _ _ _ _ => pv 2)) (pa_cons (pe_fld (pv 0) rfl) pa_nil))))), ?_⟩
  refine g_ret ?_
  refine ⟨.ref a, rfl, a, dx, _, rfl, ha, me_no _ (by simp), ?_⟩
  refine ⟨.ref a, rfl, a, C, dx, _, .ref l, rfl, ha, WR.cls, WR.n3, rfl, l, rfl, ⟨_, sq_of hx⟩, fun D hD => ?_⟩
  refine lc_rel (α := Str × Str) (fun i => outF (w.fs.take i) ns) PfAt (fun _ _ _ _ k hD r => TupAt.keep r k hD) (sq_of hx) hD rfl (by rw [hr1.1]; omega) (fun i y H3 hi e3 k k0 hk hk0 => ?_) (fun H3 ys e3 hy hrel => ?_)
  · obtain ⟨o, ho, t, rfl, ht⟩ := hr1.get hi
    have ht3 := e3 _ _ ht
    have hacc : outF (w.fs.take (i + 1)) ns = outF (w.fs.take i) ns ++ (if (!decide (o.1 ∈ ns)) = true then [o] else []) := by
      unfold outF
      rw [List.take_add_one, ho, List.filter_append]
      show _ ++ List.filter _ [o] = _
      rw [List.filter_cons]
      by_cases h : o.1 ∈ ns
      · rw [decide_eq_true h]; rfl
      · rw [decide_eq_false h]; rfl
    refine ⟨rfl, ?_⟩
    refine (et_is (b := !decide (o.1 ∈ ns)) (et_test (ev_op (ev_ixT (ev_var rfl) ev_c ht3 (atI_nat (j := 0) rfl)) (ev_var rfl) (rv_niT (st_of (e3 _ _ hp)) rfl (flat_strs ns)))) (by rw [inV_strs])) H3 (Ex.refl H3) _ fun H4 e4 => ?_
    cases hb : !decide (o.1 ∈ ns) with
    | true =>
      rw [if_pos rfl]
      exact (ev_var rfl) H4 (Ex.refl H4) _ fun H5 e5 => hk _ H5 o (e4.trans e5) (by rw [hacc, hb]; rfl) ⟨t, rfl, (e4.trans e5) _ _ ht3⟩
    | false =>
      rw [if_neg Bool.false_ne_true]
      exact hk0 H4 e4 (by rw [hacc, hb]; exact List.append_nil _)
  · rw [hr1.1, List.take_length] at hrel
    refine rd_consE (ev_mfld WR.cls WR.n4 (ev_var rfl) (e3 _ _ ha) me_body) fun H6 e6 => rd_nil ?_
    have e36 := e3.trans e6
    exact ⟨.ref a, D, w.b, outF w.fs ns, w, l, hw, rfl, hm.ex e36, FsAt.fq ⟨ys, e6 _ _ hy, hrel.mono fun _ _ m => TupAt.ex m e6⟩, hs, fun _ v' l' H' nl e hv => k v' l' H' (fresh_back e36 nl) (e36.trans e) hv, fun z hz => by rw [hg] at hz; cases hz⟩
end
end Z
set_option maxHeartbeats 4000000
namespace ZX
open PySem PySem.Spec PySem.Calls PyProof.Rows L2
/-! ### == by an own __eq__ where the two classes may differ -/
def rEqAny (cl : Bool → Addr) (sp : Sp) (E : XK) : R2 := fun x y H Q => ∃ c d a dx fs b dy gs, x = .ref a ∧ y = .ref b ∧ H a = some (.ins (cl c) dx fs) ∧ H b = some (.ins (cl d) dy gs) ∧ sp [x, y] H Q E
theorem op_eqAny {X : Cx} {CX : CXT} {n : Nat} {cl : Bool → Addr} {g : Addr} {sp : Sp} {E : XK} (hs : ∀ c, PySem.W.findIn X.K (.ref (cl c)) "__eq__" = some (some (.ref g))) (hf : PySem.W.isFn X.K (.ref g) = true) (nf : ∀ c d, PySem.W.notFirst X.K (cl c) (.ref (cl d)) = true)
    (F : FnR X.prog X.w X.K X.mg X.base CX n g sp) (hr : Room n X.A) (hx : Passes CX X E) : OpR X (compareOp .Eq) (rEqAny cl sp E) := by
  intro pins s σ H x y v u Q I rx ry h
  obtain ⟨c, d, a, dx, fs, b, dy, gs, rfl, rfl, ha, hb, q⟩ := h
  cases (show v = Value.ref a from rx)
  cases (show u = Value.ref b from ry)
  obtain ⟨mA, J, _⟩ := ins_get I.hok ha
  obtain ⟨mB, J', _⟩ := ins_get I.hok hb
  obtain ⟨od, J, _⟩ := J.look
  obtain ⟨od', J', _⟩ := J'.look
  obtain ⟨m, hF⟩ := I.fr
  show wpAny (model X.prog X.w) X.A (richCompare .Eq (.ref a) (.ref b)) (EP X pins σ Q) X.xe s
  refine PySem.W.cmp_K (op := .Eq) (tb := .ref (cl d)) hr.units0 hF I.ok.mod.kin J J'.type (nf c d) (hs c) hf ?_
  refine wpAny_mono (wpAny_call (run_fnR (us := [.ref a, .ref b]) (vs := [.ref a, .ref b]) F hr hx I (.cons rfl (.cons rfl .nil)) q)) (fun w s' z => ?_) fun _ _ x => x
  obtain ⟨z', H', I', rz, qz⟩ := z
  exact SlX.cmpback rz ⟨z', H', I', rz, qz⟩
theorem op_either {X : Cx} {op : Value → Value → Sem Value} {r1 r2 : R2} (h1 : OpR X op r1) (h2 : OpR X op r2) : OpR X op (fun x y H Q => r1 x y H Q ∨ r2 x y H Q) := by
  intro pins s σ H x y v u Q I rx ry h
  rcases h with h | h
  · exact h1 pins s σ H x y v u Q I rx ry h
  · exact h2 pins s σ H x y v u Q I rx ry h
theorem call_either {X : Cx} {f : Value} {r1 r2 : List V → Hp → VK → Prop} (h1 : CallR X f r1) (h2 : CallR X f r2) : CallR X f (fun xs H Q => r1 xs H Q ∨ r2 xs H Q) := by
  intro pins s σ H xs us Q I r h
  rcases h with h | h
  · exact h1 pins s σ H xs us Q I r h
  · exact h2 pins s σ H xs us Q I r h
theorem pe_either {X : Cx} {e : Expr} {t1 t2 : TE} (h1 : PE X e t1) (h2 : PE X e t2) : PE X e (fun σ H Q => t1 σ H Q ∨ t2 σ H Q) := ⟨fun pins s σ H Q I h => h.elim (h1.run pins s σ H Q I) (h2.run pins s σ H Q I)⟩
end ZX
set_option maxHeartbeats 4000000
namespace Z
open PySem PySem.Spec PyProof.Rows L2 TL Evl NdefX
/-! ### messages of either class -/
def clB (RQ RS : Addr) (q : Bool) : Addr := if q = true then RQ else RS
def MeQ (RQ RS : Addr) (H : Hp) (v : V) (w : Wl) (l : Addr) : Prop := MeC (clB RQ RS w.q) H v w l
theorem MeQ.ex {RQ RS : Addr} {H H' : Hp} {v : V} {w : Wl} {l : Addr} (h : MeQ RQ RS H v w l) (e : Ex H H') : MeQ RQ RS H' v w l := MeC.ex h e
theorem MeQ.keep {RQ RS p : Addr} {H H' : Hp} {v : V} {w : Wl} {l : Addr} (h : MeQ RQ RS H v w l) (k : Keep p H H') (hp : ∃ xs, H p = some (.lst xs)) (n : l ≠ p) : MeQ RQ RS H' v w l := MeC.keep h k hp n
/-- the two classes -/
structure Wo (K : PySem.W.Frag) (mg : Str → Option Value) (B RQ RS : Addr) : Prop where
  mB : mg "Message" = some (.ref B)
  wq : Wq K mg RQ
  ws : Ws K mg RS
  iq : ZX.InsC K RQ
  is : ZX.InsC K RS
  kqB : PySem.W.kitOne K (.ref RQ) (.ref B) = some true
  ksB : PySem.W.kitOne K (.ref RS) (.ref B) = some true
  kqQ : PySem.W.kitOne K (.ref RQ) (.ref RQ) = some true
  kqS : PySem.W.kitOne K (.ref RQ) (.ref RS) = some false
  ksQ : PySem.W.kitOne K (.ref RS) (.ref RQ) = some false
  ksS : PySem.W.kitOne K (.ref RS) (.ref RS) = some true
section
variable {K : PySem.W.Frag} {mg : Str → Option Value} {B RQ RS D : Addr} {σ : L2.St} {H : Hp} {ta tc te t1 t2 : TE} {v x : V} {w : Wl} {l : Addr} {b : Bool} {f : Str}
theorem Wo.at_ (h : Wo K mg B RQ RS) (q : Bool) : Wm K (clB RQ RS q) := by
  cases q
  · exact h.ws.wm
  · exact h.wq.wm
theorem Wo.ins (h : Wo K mg B RQ RS) (q : Bool) : ZX.InsC K (clB RQ RS q) := by
  cases q
  · exact h.is
  · exact h.iq
theorem Wo.kB (h : Wo K mg B RQ RS) (q : Bool) : PySem.W.kitOne K (.ref (clB RQ RS q)) (.ref B) = some true := by
  cases q
  · exact h.ksB
  · exact h.kqB
theorem Wo.kQ (h : Wo K mg B RQ RS) (q : Bool) : PySem.W.kitOne K (.ref (clB RQ RS q)) (.ref RQ) = some q := by
  cases q
  · exact h.ksQ
  · exact h.kqQ
theorem Wo.kS (h : Wo K mg B RQ RS) (q : Bool) : PySem.W.kitOne K (.ref (clB RQ RS q)) (.ref RS) = some (!q) := by
  cases q
  · exact h.ksS
  · exact h.kqS
/-- isinstance(message, class) -/
theorem ev_isiM (W : Wo K mg B RQ RS) (hm : MeQ RQ RS H v w l) (k : PySem.W.kitOne K (.ref (clB RQ RS w.q)) (.ref D) = some b) (h : Ev ta σ H v) (hc : Ev tc σ H (.ref D)) : Ev (tCB (rIsi K) (tCons ta (tCons tc tNil))) σ H (.bl b) := fun H1 e Q q =>
  h H1 e _ fun H2 e2 => hc H2 (e.trans e2) _ fun H3 e3 => by
    obtain ⟨a, dx, rfl, ha, hf⟩ := hm.ex ((e.trans e2).trans e3)
    exact ⟨.ref a, .ref D, .ref (clB RQ RS w.q), .ref D, b, rfl, .own D, .base (.ins ha (W.at_ w.q).cls (W.ins w.q).ha (W.ins w.q).hn (W.ins w.q).htk (W.ins w.q).hm), k, q H3 (e2.trans e3)⟩
theorem ev_or {te1 te2 : TE} (h1 : b = true → Ev te1 σ H x) (h2 : b = false → Ev te2 σ H x) : Ev (fun σ H Q => te1 σ H Q ∨ te2 σ H Q) σ H x := fun H1 e Q q => by
  cases b with
  | true => exact Or.inl (h1 rfl H1 e Q q)
  | false => exact Or.inr (h2 rfl H1 e Q q)
theorem el_or {te1 te2 : TE} {xs : List V} (h1 : b = true → EvL te1 σ H xs) (h2 : b = false → EvL te2 σ H xs) : EvL (fun σ H Q => te1 σ H Q ∨ te2 σ H Q) σ H xs := fun H1 e Q q => by
  cases b with
  | true => exact Or.inl (h1 rfl H1 e Q q)
  | false => exact Or.inr (h2 rfl H1 e Q q)
end
def eqW (w1 w2 : Wl) : Bool := decide (stW w1 = stW w2) && (decide (w1.fs = w2.fs) && decide (w1.b = w2.b))
def spEqM (RQ RS : Addr) : Sp := fun vs H Q _ => ∃ v u w1 l1 w2 l2, vs = [v, u] ∧ MeQ RQ RS H v w1 l1 ∧ MeQ RQ RS H u w2 l2 ∧ areB w1.fs = true ∧ areB w2.fs = true ∧ RetV (.bl (eqW w1 w2)) H Q
def toF (x : Str × Str) : PyData := .tuple [.str x.1, .str x.2]
theorem sign_ok {z : Str} (h : allIn z signs = true) : PyData.strOk z = true := ok_text fun c hc => signs_lt c (of_decide_eq_true (List.all_eq_true.mp h c hc))
theorem name_ok {z : Str} (h : nameB z = true) : PyData.strOk z = true := by
  unfold nameB wordB at h
  simp only [Bool.and_eq_true] at h
  have h2 := h.1.2.2
  refine ok_text fun c hc => ?_
  have h4 : c ∈ tl "abcdefghijklmnopqrstuvwxyz0123456789-" := of_decide_eq_true (List.all_eq_true.mp h2 c hc)
  have : ∀ c ∈ tl "abcdefghijklmnopqrstuvwxyz0123456789-", c < 128 := by decide +kernel
  exact this c h4
theorem value_ok {z : Str} (h : valueB z = true) : PyData.strOk z = true := by
  unfold valueB at h
  simp only [Bool.and_eq_true] at h
  exact sign_ok h.2.1
def okF (fs : Fs) : Prop := ∀ x ∈ fs, fieldB x = true
theorem areB_ok {fs : Fs} (h : areB fs = true) : okF fs := by
  unfold areB at h
  rw [Bool.and_eq_true, List.all_eq_true] at h
  exact h.2
theorem lay_toF : ∀ fs : Fs, okF fs → PyData.canLayAll0 (fs.map toF) = true
  | [], _ => by simp [PyData.canLayAll0]
  | x :: r, h => by
    have h2 := lay_toF r fun y hy => h y (List.mem_cons_of_mem _ hy)
    obtain ⟨h3, h4⟩ := Bool.and_eq_true_iff.mp (h x List.mem_cons_self)
    simp [PyData.canLayAll0, PyData.canLay0, toF, name_ok h3, value_ok h4, h2]
theorem depth_toF : ∀ fs : Fs, PyData.depthAll (fs.map toF) ≤ 2
  | [] => by simp [PyData.depthAll]
  | x :: r => by
    have := depth_toF r
    simp only [List.map_cons, PyData.depthAll, PyData.depth, toF]
    omega
theorem shaped_toF (fs : Fs) (h : okF fs) : SeqAt.shaped (.list (fs.map toF)) = true := by
  have h1 := depth_toF fs
  have h2 : PyData.depth (.list (fs.map toF)) ≤ 64 := by simp only [PyData.depth]; omega
  show (PyData.canLay0 (.list (fs.map toF)) && decide (PyData.depth (.list (fs.map toF)) ≤ 64)) = true
  rw [Bool.and_eq_true]
  exact ⟨by simp only [PyData.canLay0]; exact lay_toF fs h, decide_eq_true h2⟩
theorem eqv_toF (a b : Str × Str) : PyData.eqv (toF a) (toF b) = decide (a = b) := by
  obtain ⟨x, y⟩ := a
  obtain ⟨z, u⟩ := b
  show PyData.eqv (.tuple [.str x, .str y]) (.tuple [.str z, .str u]) = _
  simp only [PyData.eqv, PyData.eqvAll, Bool.and_true]
  rw [Bool.eq_iff_iff, Bool.and_eq_true, beq_iff_eq, beq_iff_eq, decide_eq_true_eq]
  exact ⟨fun h => by rw [h.1, h.2], fun h => ⟨congrArg Prod.fst h, congrArg Prod.snd h⟩⟩
theorem eqvAll_toF : ∀ fs gs : Fs, PyData.eqvAll (fs.map toF) (gs.map toF) = decide (fs = gs)
  | [], [] => by simp [PyData.eqvAll]
  | [], _ :: _ => by simp [PyData.eqvAll]
  | _ :: _, [] => by simp [PyData.eqvAll]
  | x :: r, y :: s => by
    show (PyData.eqv (toF x) (toF y) && PyData.eqvAll (r.map toF) (s.map toF)) = _
    rw [eqv_toF, eqvAll_toF r s, Bool.eq_iff_iff, Bool.and_eq_true, decide_eq_true_eq, decide_eq_true_eq, decide_eq_true_eq]
    exact ⟨fun h => by rw [h.1, h.2], fun h => by
      injection h with h1 h2
      exact ⟨h1, h2⟩⟩
theorem dpf_all {K : PySem.W.Frag} {H : Hp} : ∀ {xs : List V} {os : Fs}, Rel (PfAt H) xs os → DpAll K H xs (os.map toF)
  | [], [], _ => .nil
  | [], o :: os, h => by have := h.1; cases this
  | x :: xs, [], h => by have := h.1; cases this
  | x :: xs, o :: os, h => by
    obtain ⟨p, rfl, hp⟩ := h.2 0 x o rfl rfl
    exact .cons (.tup (st_of hp) (.cons (.str _) (.cons (.str _) .nil))) (dpf_all ⟨Nat.succ.inj h.1, fun i y u a b => h.2 (i + 1) y u a b⟩)
theorem dpf {K : PySem.W.Frag} {H : Hp} {q : Addr} {fs : Fs} (h : FsAt H q fs) : Dp K H (.ref q) (.list (fs.map toF)) := by
  obtain ⟨xs, h1, h2⟩ := h
  exact .lst (sq_of h1) (dpf_all h2)
theorem rv_eqF {K : PySem.W.Frag} {H : Hp} {p q : Addr} {fs gs : Fs} (h1 : FsAt H p fs) (h2 : FsAt H q gs) (k1 : okF fs) (k2 : okF gs) : RV (rEqD K) (.ref p) (.ref q) H (.bl (decide (fs = gs))) := fun H1 e Q k => by
  refine ⟨_, _, dpf (h1.ex e), dpf (h2.ex e), shaped_toF fs k1, shaped_toF gs k2, ?_⟩
  have e1 : PyData.eqv (.list (fs.map toF)) (.list (gs.map toF)) = decide (fs = gs) := by
    simp only [PyData.eqv]
    exact eqvAll_toF fs gs
  rw [e1]
  exact k H1 (Ex.refl H1)
theorem rv_neF {K : PySem.W.Frag} {H : Hp} {p q : Addr} {fs gs : Fs} (h1 : FsAt H p fs) (h2 : FsAt H q gs) (k1 : okF fs) (k2 : okF gs) : RV (rNeD K) (.ref p) (.ref q) H (.bl (!decide (fs = gs))) := fun H1 e Q k => by
  refine ⟨_, _, dpf (h1.ex e), dpf (h2.ex e), shaped_toF fs k1, shaped_toF gs k2, ?_⟩
  have e1 : PyData.eqv (.list (fs.map toF)) (.list (gs.map toF)) = decide (fs = gs) := by
    simp only [PyData.eqv]
    exact eqvAll_toF fs gs
  rw [e1]
  exact k H1 (Ex.refl H1)

section
variable {K : PySem.W.Frag} {H : Hp} {x y : V} {d e : PyData}
theorem rv_dat (h1 : ∀ H1, Ex H H1 → Dp K H1 x d) (h2 : ∀ H1, Ex H H1 → Dp K H1 y e) (s1 : SeqAt.shaped d = true) (s2 : SeqAt.shaped e = true) : RV (rEqD K) x y H (.bl (d.eqv e)) := fun H1 ex Q k => ⟨d, e, h1 H1 ex, h2 H1 ex, s1, s2, k H1 (Ex.refl H1)⟩
theorem rv_ndat (h1 : ∀ H1, Ex H H1 → Dp K H1 x d) (h2 : ∀ H1, Ex H H1 → Dp K H1 y e) (s1 : SeqAt.shaped d = true) (s2 : SeqAt.shaped e = true) : RV (rNeD K) x y H (.bl (!d.eqv e)) := fun H1 ex Q k => ⟨d, e, h1 H1 ex, h2 H1 ex, s1, s2, k H1 (Ex.refl H1)⟩
end
theorem sc_Fe : FnScope ["cls", "path", "fields"] ["cls", "path", "fields"] (L2.defScope s_Fe) := ⟨rfl, rfl, rfl, by decide +kernel, rfl, by decide +kernel, by decide +kernel⟩
def spFe0 (RQ : Addr) : Sp := fun vs H Q _ => ∃ p pth xs fs, vs = [.ref RQ, .str pth, .ref p] ∧ H p = some (.tup xs) ∧ Rel (PfAt H) xs fs ∧ smallW ⟨true, "get", pth, fs, ""⟩ ∧ badW ⟨true, "get", pth, fs, ""⟩ = none ∧ ∀ v l H', H l = none → Ex H H' → MeC RQ H' v ⟨true, "get", pth, fs, ""⟩ l → Q v H'
def spFe (RQ : Addr) : Sp := fun vs H Q E => ∃ ws rest, vs = ws ++ rest ∧ ws.length = ["cls", "path"].length ∧ rest.length ≤ sizeLine ∧ ∀ p, H p = none → spFe0 RQ (ws ++ [.ref p]) (upd H p (.tup rest)) Q E
structure Mk1 (P : Program) (w : World) (K : PySem.W.Frag) (mg : Str → Option Value) (base : Heap) (R DV : Addr) (side : Bool) (ps : List Str) : Prop where
  ex : ∃ fi fd ds, Mk K R fi ∧ FnOk P w K mg base (L2N.CX P w) 6 fi fd ps (spCo K R DV side) ∧ Vals [.str ""] ds ∧ Binds K fd ps ds
section
variable {P : Program} {w : World} {K : PySem.W.Frag} {mg : Str → Option Value} {base : Heap} {f B RQ RS DV DH : Addr} {fd : FuncData} {k : Nat}
theorem ok_Me (T : Mg mg) (W : Wo K mg B RQ RS) (F : FunD K "__eq__" "Message.__eq__" (L2.defArgs s_Me) (L2.defBody s_Me) (L2.defScope s_Me) [] [] f fd) : FnOk P w K mg base CX0 1 f fd ["self", "other"] (spEqM RQ RS) := by
  refine FunD.ok F sc_Me (fun vs H Q E h => ?_) (fun cdv A outer s H vs Q E hr h => ?_)
  · obtain ⟨v, u, w1, l1, w2, l2, rfl, _⟩ := h
    rfl
  · obtain ⟨v, u, w1, l1, w2, l2, rfl, h1, h2, k1, k2, q⟩ := h
    refine ⟨_, (pss_one (ps_ret (pe_and (pe_callB call_isi (by rfl) T.isinstance (by decide +kernel) (pa_cons (pv 1) (pa_cons (pe_gc (v := .ref B) rfl ⟨_, W.mB, rfl⟩) pa_nil))) (pe_and (pe_cmpR op_eq (pe_fld (pv 0) rfl) (pe_fld (pv 1) rfl) (nomark _)) (pe_and (pe_cmpR (op_eqD hr.units) (pe_fld (pv 0) rfl) (pe_fld (pv 1) rfl) (nomark _)) (pe_one (pe_cmpR op_eq (pe_fld (pv 0) rfl) (pe_fld (pv 1) rfl) (nomark _)))))))), ?_⟩
    obtain ⟨a1, d1, rfl, ha1, hf1⟩ := id h1
    obtain ⟨a2, d2, rfl, ha2, hf2⟩ := id h2
    have W1 := W.at_ w1.q
    have W2 := W.at_ w2.q
    exact s_ret (v := .bl (eqW w1 w2)) (ev_andV (a := true) (b := eqW w1 w2) (ev_isiM W h2 (W.kB w2.q) (ev_var rfl) ev_c) fun _ => ev_andV (ev_op (ev_mfld W1.cls W1.n1 (ev_var rfl) ha1 me_first) (ev_mfld W2.cls W2.n1 (ev_var rfl) ha2 me_first) rv_eqS) fun _ => ev_andV (ev_op (ev_mfld W1.cls W1.n3 (ev_var rfl) ha1 me_fields) (ev_mfld W2.cls W2.n3 (ev_var rfl) ha2 me_fields) (rv_eqF hf1 hf2 (areB_ok k1) (areB_ok k2))) fun _ => ev_op (ev_mfld W1.cls W1.n4 (ev_var rfl) ha1 me_body) (ev_mfld W2.cls W2.n4 (ev_var rfl) ha2 me_body) rv_eqS) q
theorem ok_Fe (MK : Mk1 P w K mg base RQ DV true rqN) (F : FunD K "fetch" "Request.fetch" (L2.defArgs s_Fe) (L2.defBody s_Fe) (L2.defScope s_Fe) [] [] f fd) : FnR P w K mg base CX0 8 f (spFe RQ) := by
  obtain ⟨fi, fdi, ds, M, Fi, vd, bd⟩ := MK.ex
  obtain ⟨oc, od, dflt, kwd, doc, mod, ann, code, tp, osl, isFd, lk, hcd, none_given, _⟩ := F.ex
  rw [isFd] at lk
  have nd : dflt = .none := none_given.elim (fun q => q.2) fun q => absurd rfl q.1
  subst nd
  refine StX.fn_star (ps := ["cls", "path"]) (pv := "fields") (sp := spFe0 RQ) lk hcd sc_Fe (fun _ _ _ _ _ _ _ _ _ _ _ z => z) (StX.bind_star2 (B := fun us => bindArgs _ ⟨us, []⟩) (fun _ _ => rfl) (fun _ _ _ _ => rfl)) fun A outer s H vs Q E hr h => ?_
  obtain ⟨p, pth, xs, fs, rfl, hp, hrel, hs, hg, k⟩ := h
  refine ⟨_, (pss_one (ps_ret (ZX.pe_makeV (E1 := E0) (i := 0) M Fi (hr.mono (by decide)) rfl (.inl rfl) bd vd ZX.passN (pa_cons pe_str (pa_cons (pv 1) (pa_cons (pv 2) pa_nil)))))), ?_⟩
  refine g_ret ⟨rfl, rd_mkS ?_⟩
  refine (ea_cons ev_c (ea_cons (ev_var rfl) (ea_cons (ev_var rfl) ea_nil))) H (Ex.refl H) _ fun H1 e1 => ?_
  exact co_mk (E := E0) (R := RQ) (DV := DV) (side := true) (w := ⟨true, "get", pth, fs, ""⟩) (Q := Q) rfl ⟨xs, .inr (st_of (e1 _ _ hp)), hrel.mono fun _ _ m => TupAt.ex m e1⟩ hs (fun _ v l' H' nl e hm => k v l' H' (fresh_back e1 nl) (e1.trans e) hm) (fun n hn => by rw [hg] at hn; cases hn)
end
end Z
set_option maxHeartbeats 4000000
namespace Z
open PySem PySem.Spec PyProof.Rows L2 TL Evl NdefX
/-! ### rows of the law -/
def sdS (q : Bool) : Str := if q = true then "asks" else "answers"
def WlAt (H : Hp) (v : V) (w : Wl) (l : Addr) : Prop := ∃ a, v = .ref a ∧ H a = some (.lst [.str (sdS w.q), .str w.m, .str w.p, .ref l, .str w.b]) ∧ FsAt H l w.fs
theorem WlAt.ex {H H' : Hp} {v : V} {w : Wl} {l : Addr} (h : WlAt H v w l) (e : Ex H H') : WlAt H' v w l := by
  obtain ⟨a, rfl, ha, hf⟩ := h
  exact ⟨a, rfl, e _ _ ha, hf.ex e⟩
def okS (fs : Fs) : Prop := ∀ x ∈ fs, PyData.strOk x.1 = true ∧ PyData.strOk x.2 = true
theorem okF_okS {fs : Fs} (h : okF fs) : okS fs := fun x hx => by
  obtain ⟨h3, h4⟩ := Bool.and_eq_true_iff.mp (h x hx)
  exact ⟨name_ok h3, value_ok h4⟩
theorem lay_toS : ∀ fs : Fs, okS fs → PyData.canLayAll0 (fs.map toF) = true
  | [], _ => by simp [PyData.canLayAll0]
  | x :: r, h => by
    have h2 := lay_toS r fun y hy => h y (List.mem_cons_of_mem _ hy)
    obtain ⟨h3, h4⟩ := h x List.mem_cons_self
    simp [PyData.canLayAll0, PyData.canLay0, toF, h3, h4, h2]
theorem shaped_toS (fs : Fs) (h : okS fs) : SeqAt.shaped (.list (fs.map toF)) = true := by
  have h1 := depth_toF fs
  have h2 : PyData.depth (.list (fs.map toF)) ≤ 64 := by simp only [PyData.depth]; omega
  show (PyData.canLay0 (.list (fs.map toF)) && decide (PyData.depth (.list (fs.map toF)) ≤ 64)) = true
  rw [Bool.and_eq_true]
  exact ⟨by simp only [PyData.canLay0]; exact lay_toS fs h, decide_eq_true h2⟩
section
variable {K : PySem.W.Frag} {H : Hp} {p q : Addr} {fs gs : Fs}
theorem rv_eqFS (h1 : FsAt H p fs) (h2 : FsAt H q gs) (k1 : okS fs) (k2 : okS gs) : RV (rEqD K) (.ref p) (.ref q) H (.bl (decide (fs = gs))) := by
  have h := rv_dat (K := K) (H := H) (fun H1 e => dpf (h1.ex e)) (fun H1 e => dpf (h2.ex e)) (shaped_toS fs k1) (shaped_toS gs k2)
  have e1 : PyData.eqv (.list (fs.map toF)) (.list (gs.map toF)) = decide (fs = gs) := by
    simp only [PyData.eqv]
    exact eqvAll_toF fs gs
  rw [e1] at h
  exact h
theorem rv_neFS (h1 : FsAt H p fs) (h2 : FsAt H q gs) (k1 : okS fs) (k2 : okS gs) : RV (rNeD K) (.ref p) (.ref q) H (.bl (!decide (fs = gs))) := by
  have h := rv_ndat (K := K) (H := H) (fun H1 e => dpf (h1.ex e)) (fun H1 e => dpf (h2.ex e)) (shaped_toS fs k1) (shaped_toS gs k2)
  have e1 : PyData.eqv (.list (fs.map toF)) (.list (gs.map toF)) = decide (fs = gs) := by
    simp only [PyData.eqv]
    exact eqvAll_toF fs gs
  rw [e1] at h
  exact h
theorem fs_nil (h : H p = some (.lst [])) : FsAt H p [] := ⟨[], h, Rel.nil⟩
theorem okS_nil : okS [] := fun _ h => nomatch h
end
section
variable {σ : L2.St} {H : Hp} {ta : TA} {sp : Sp} {E : XK} {vs xs : List V}
theorem el_callX (h : EvA ta σ H vs) (hs : ∀ H1, Ex H H1 → ∀ (Q : VK) (E : XK), RetL xs H1 Q → sp (vs ++ []) H1 Q E) : EvL (tCall sp [] E ta) σ H xs := fun H1 e Q q =>
  h H1 e _ fun H2 e2 => hs H2 (e.trans e2) _ _ fun p H3 np e3 hp => q p H3 (fresh_back e2 np) (e2.trans e3) hp
end
def spDu : Sp := fun vs H Q _ => ∃ v w l, vs = [v] ∧ WlAt H v w l ∧ smallW w ∧ okS w.fs ∧ RetV (.str ((badW w).getD "")) H Q
def spSrt : Sp := fun vs H Q _ => ∃ v w l, vs = [v] ∧ WlAt H v w l ∧ smallW w ∧ RetV (.str (stW w)) H Q
def spMy : Sp := fun vs H Q _ => ∃ w : Wl, vs = [.str (sdS w.q), .str w.m] ∧ RetV (.bl (hbW w)) H Q
theorem asL_tl (m q : Str) : tl (asL m q) = tl ("ask " : Str) ++ tl m ++ [32] ++ tl q := by
  unfold asL
  simp only [List.foldl_cons, List.foldl_nil, tl_append]
  rw [show tl Str.empty = [] by decide +kernel, List.nil_append, show tl (" " : Str) = [32] by decide +kernel]
theorem ansL_tl (s : Str) : tl (ansL s) = tl ("answer " : Str) ++ tl s := by
  unfold ansL
  simp only [List.foldl_cons, List.foldl_nil, tl_append]
  rw [show tl Str.empty = [] by decide +kernel, List.nil_append]
theorem asL_eq (m q : Str) : ("ask " : Str) ++ m ++ (" " : Str) ++ q = asL m q := ext_tl (by
  rw [asL_tl, tl_append, tl_append, tl_append, show tl (" " : Str) = [32] by decide +kernel])
theorem ansL_eq (s : Str) : ("answer " : Str) ++ s = ansL s := ext_tl (by rw [ansL_tl, tl_append])
theorem lines_in (z : Str) : allIn z (signs ++ ("\n" : Str)) = linesB z := by
  unfold allIn linesB
  refine congrArg (List.all (tl z)) (funext fun c => ?_)
  rw [tl_append, nl_tl, Bool.eq_iff_iff, Bool.or_eq_true, decide_eq_true_eq, decide_eq_true_eq, decide_eq_true_eq, List.mem_append, List.mem_singleton]
  exact Or.comm
theorem has_bd (s : Str) : hasBd s = (!decide (s = ("same" : Str)) && !decide (s = ("done" : Str))) := by
  unfold hasBd
  rw [show inV (.str s) ([("same" : Str), "done"].map V.str) = decide (s ∈ [("same" : Str), "done"]) from inV_strs s _]
  by_cases h : s = ("same" : Str)
  · rw [h]; decide +kernel
  · by_cases h2 : s = ("done" : Str)
    · rw [h2]; decide +kernel
    · rw [decide_eq_false h, decide_eq_false h2, decide_eq_false (fun h3 => by
        simp only [List.mem_cons, List.not_mem_nil, or_false] at h3
        exact h3.elim h h2)]
      rfl
theorem sd_asks (q : Bool) : decide (sdS q = ("asks" : Str)) = q := by cases q <;> decide +kernel
theorem sd_answers (q : Bool) : decide (sdS q = ("answers" : Str)) = !q := by cases q <;> decide +kernel
theorem are_bad (fs : Fs) : areB fs = !(decide (¬ fs.length ≤ 40) || !decide (fs.filter (fun x => !nameB x.1 || !valueB x.2) = [])) := by
  unfold areB
  have e : decide (fs.filter (fun x => !nameB x.1 || !valueB x.2) = []) = fs.all fieldB := by
    rw [Bool.eq_iff_iff, decide_eq_true_eq, List.filter_eq_nil_iff, List.all_eq_true]
    refine forall_congr' fun x => forall_congr' fun _ => ?_
    unfold fieldB
    cases nameB x.1 <;> cases valueB x.2 <;> decide
  rw [e, Bool.not_or, Bool.not_not]
  by_cases h : fs.length ≤ 40
  · rw [decide_eq_true h, decide_eq_false (fun z => z h)]; rfl
  · rw [decide_eq_false h, decide_eq_true h]; rfl
section
variable {P : Program} {w : World} {K : PySem.W.Frag} {mg : Str → Option Value} {base : Heap} {f : Addr} {fd : FuncData} {k : Nat}
theorem ok_law_all_in (T : Mg mg) (F : FnP K "_law_all_in" s_law_all_in f fd) (gm : mg "_law_all_in" = some (.ref f)) : Call P w K mg base 1 "_law_all_in" ["text", "signs"] (sp2 fun z s => .bl (allIn z s)) := by
  refine mk F gm (fun _ _ _ _ _ _ us hl => match us, hl with | [_, _], _ => rfl) (fun _ _ _ _ _ _ us hl => match us, hl with | [_, _], _ => rfl) sc_law_all_in (fun vs H Q E h => ?_) (fun cdv A outer s H vs Q E hr h => ?_)
  · obtain ⟨z, s, rfl, _⟩ := h
    rfl
  · obtain ⟨z, s, rfl, hz, q⟩ := h
    refine ⟨_, (pss_cons (ps_for PassesOwn.never rfl (pi_str (pv 0)) (pg_name (i := 2) sc_law_all_in.nd rfl (Or.inl rfl))
      (pss_one (ps_if (pt_cmpR op_notInS (pv 2) (pv 1) rfl)
        (pss_one (ps_ret pe_bl))
        pss_nil)))
    (pss_one (ps_ret pe_bl))), ?_⟩
    refine q_forS (w := z) (ev_var rfl) (fun i σ' H' => (∃ v, σ' = [some (.str z), some (.str s), v]) ∧ Ex H H' ∧ ((tl z).take i).all (fun c => decide (c ∈ tl s)) = true) (fun H1 e1 => ⟨⟨none, rfl⟩, e1, rfl⟩) (fun i c σ' H' hi p => ?_) (fun σ' H' p => ?_)
    · obtain ⟨⟨v, rfl⟩, e1, hp⟩ := p
      refine s_when (et_test (ev_op (ev_var rfl) (ev_var rfl) rv_notin)) (fun hb H1 e2 => ?_) (fun hb H1 e2 => ?_)
      · refine s_ret (v := .bl (allIn z s)) (ev_is ev_c ?_) fun H2 e3 => q H2 ((e1.trans e2).trans e3)
        rw [Bool.not_eq_true', decide_eq_false_iff_not] at hb
        cases e : allIn z s with
        | false => rfl
        | true => exact absurd (of_decide_eq_true (List.all_eq_true.mp e c (List.mem_of_getElem? hi))) hb
      · refine ⟨⟨_, rfl⟩, e1.trans e2, ?_⟩
        rw [Bool.not_eq_false'] at hb
        rw [List.take_add_one, hi, List.all_append, hp]
        show (true && (decide (c ∈ tl s) && true)) = true
        rw [hb]
        rfl
    · obtain ⟨⟨v, rfl⟩, e1, hp⟩ := p
      rw [List.take_length] at hp
      refine s_ret (v := .bl (allIn z s)) (ev_is ev_c ?_) fun H2 e3 => q H2 (e1.trans e3)
      unfold allIn
      rw [hp]
theorem ok_law_is_path (T : Mg mg) (c_law_letters : Call P w K mg base 1 "_law_letters" [] (sp0 (.str letters))) (c_law_all_in : Call P w K mg base 1 "_law_all_in" ["text", "signs"] (sp2 fun z s => .bl (allIn z s))) (F : FnP K "_law_is_path" s_law_is_path f fd) (gm : mg "_law_is_path" = some (.ref f)) : C1 P w K mg base 2 "_law_is_path" fun z => .bl (pathB z) := by
  refine mk F gm (fun _ _ _ _ _ _ us hl => match us, hl with | [_], _ => rfl) (fun _ _ _ _ _ _ us hl => match us, hl with | [_], _ => rfl) sc_law_is_path (fun vs H Q E h => ?_) (fun cdv A outer s H vs Q E hr h => ?_)
  · obtain ⟨z, rfl, _⟩ := h
    rfl
  · obtain ⟨z, rfl, hz, q⟩ := h
    refine ⟨_, (pss_cons (ps_set (i := 1) sc_law_is_path.nd rfl (Or.inl rfl) (pe_op oz_add (pe_f0 c_law_letters hr (by decide) rfl) pe_str))
    (pss_one (ps_ret (pe_and (pe_chain op_le op_le pe_int (pe_callB cz_len (by rfl) T.len (by decide +kernel) (pa_cons (pv 0) pa_nil)) pe_int) (pe_and (pe_cmpR op_eq (pe_slice sl_str (pv 0) po_none (po_some pe_int)) pe_str (nomark _)) (pe_one (pe_f c_law_all_in hr (by decide) rfl (pa_cons (pv 0) (pa_cons (pv 1) pa_nil))))))))), ?_⟩
    refine q_asg (ev_op (ev_call ea_nil sv0) ev_c (rv_addS (by decide +kernel))) fun H1 e1 => ?_
    refine s_ret (v := .bl (pathB z)) (ev_is (ev_andV (ev_chain ev_c (ev_lenStr (ev_var rfl) hz) ev_c) fun h1 => ev_andV (ev_op (ev_slS (ev_var rfl) eo_none (eo_some ev_c) hz) ev_c rv_eqS) fun h2 => ev_call (ea_cons (ev_var rfl) (ea_cons (ev_var rfl) ea_nil)) (sv2 hz)) ?_) fun H2 e2 => q H2 (e1.trans e2)
    have es : letters ++ ("0123456789/-." : Str) = ("abcdefghijklmnopqrstuvwxyz0123456789/-." : Str) := by decide +kernel
    rw [es, show ("/" : Str) = ⟨#[47]⟩ by decide +kernel, cut1_eq]
    rfl
theorem ok_law_is_name (T : Mg mg) (c_law_letters : Call P w K mg base 1 "_law_letters" [] (sp0 (.str letters))) (c_law_all_in : Call P w K mg base 1 "_law_all_in" ["text", "signs"] (sp2 fun z s => .bl (allIn z s))) (F : FnP K "_law_is_name" s_law_is_name f fd) (gm : mg "_law_is_name" = some (.ref f)) : C1 P w K mg base 2 "_law_is_name" fun z => .bl (nameB z) := by
  refine mk F gm (fun _ _ _ _ _ _ us hl => match us, hl with | [_], _ => rfl) (fun _ _ _ _ _ _ us hl => match us, hl with | [_], _ => rfl) sc_law_is_name (fun vs H Q E h => ?_) (fun cdv A outer s H vs Q E hr h => ?_)
  · obtain ⟨z, rfl, _⟩ := h
    rfl
  · obtain ⟨z, rfl, hz, q⟩ := h
    refine ⟨_, (pss_cons (ps_if (PW.pt (pw_or (pt_cmpR op_eq (pv 0) pe_str (nomark _)) (pw_or1 (pt_not (pt_chain op_le op_le pe_int (pe_callB cz_len (by rfl) T.len (by decide +kernel) (pa_cons (pv 0) pa_nil)) pe_int)))))
      (pss_one (ps_ret pe_bl))
      pss_nil)
    (pss_one (ps_ret (pe_and (pe_cmpR op_inS (pe_slice sl_str (pv 0) po_none (po_some pe_int)) (pe_f0 c_law_letters hr (by decide) rfl) rfl) (pe_one (pe_f c_law_all_in hr (by decide) rfl (pa_cons (pv 0) (pa_cons (pe_op oz_add (pe_f0 c_law_letters hr (by decide) rfl) pe_str) pa_nil)))))))), ?_⟩
    refine q_when (et_or (et_test (ev_op (ev_var rfl) ev_c rv_eqS)) fun _ => et_not (et_test (ev_chain ev_c (ev_lenStr (ev_var rfl) hz) ev_c))) (fun hb H1 e1 => ?_) (fun hb H1 e1 => ?_)
    · refine s_ret (v := .bl (nameB z)) (ev_is ev_c ?_) fun H2 e2 => q H2 (e1.trans e2)
      unfold nameB wordB
      rw [Bool.or_eq_true, Bool.not_eq_true'] at hb
      rcases hb with h | h
      · rw [h]
        cases (decide ((1 : Int) ≤ z.length) && decide ((z.length : Int) ≤ 30)) && (hdIn z "abcdefghijklmnopqrstuvwxyz" && allIn z "abcdefghijklmnopqrstuvwxyz0123456789-") <;> rfl
      · rw [h]
        rfl
    · rw [Bool.or_eq_false_iff, Bool.not_eq_false'] at hb
      obtain ⟨h0, h1⟩ := hb
      obtain ⟨c, g1, g2⟩ := hd_some (z := z) (by have := (pl h1).1; omega)
      have ec := cut1_one g1
      have es : letters ++ ("0123456789-" : Str) = ("abcdefghijklmnopqrstuvwxyz0123456789-" : Str) := by decide +kernel
      refine s_ret (v := .bl (nameB z)) (ev_is (ev_andV (ev_op (ev_is (ev_slS (ev_var rfl) eo_none (eo_some ev_c) hz) (congrArg V.str ec)) (ev_call ea_nil sv0) rv_in) fun h2 => ev_call (ea_cons (ev_var rfl) (ea_cons (ev_op (ev_call ea_nil sv0) ev_c (rv_addS (by decide +kernel))) ea_nil)) (sv2 hz)) ?_) fun H2 e2 => q H2 (e1.trans e2)
      unfold nameB wordB hdIn
      rw [h0, h1, g1, es]
      show V.bl (decide (c ∈ tl letters) && _) = V.bl ((true && (decide (c ∈ tl letters) && _)) && true)
      rw [Bool.true_and, Bool.and_true]
theorem ok_law_is_value (T : Mg mg) (c_law_signs : Call P w K mg base 1 "_law_signs" [] (sp0 (.str signs))) (c_law_all_in : Call P w K mg base 1 "_law_all_in" ["text", "signs"] (sp2 fun z s => .bl (allIn z s))) (F : FnP K "_law_is_value" s_law_is_value f fd) (gm : mg "_law_is_value" = some (.ref f)) : C1 P w K mg base 2 "_law_is_value" fun z => .bl (valueB z) := by
  refine mk F gm (fun _ _ _ _ _ _ us hl => match us, hl with | [_], _ => rfl) (fun _ _ _ _ _ _ us hl => match us, hl with | [_], _ => rfl) sc_law_is_value (fun vs H Q E h => ?_) (fun cdv A outer s H vs Q E hr h => ?_)
  · obtain ⟨z, rfl, _⟩ := h
    rfl
  · obtain ⟨z, rfl, hz, q⟩ := h
    refine ⟨_, (pss_one (ps_ret (pe_and (pe_cmpR op_le (pe_callB cz_len (by rfl) T.len (by decide +kernel) (pa_cons (pv 0) pa_nil)) pe_int (nomark _)) (pe_and (pe_cmpR op_eq (pv 0) (pe_bm PySem.F.plainAttrs_str PySem.F.slot_str_strip PySem.F.type_str_strip mz_strip (pv 0) (pa_cons pe_str pa_nil)) (nomark _)) (pe_one (pe_f c_law_all_in hr (by decide) rfl (pa_cons (pv 0) (pa_cons (pe_f0 c_law_signs hr (by decide) rfl) pa_nil)))))))), ?_⟩
    refine s_ret (v := .bl (valueB z)) (ev_is (ev_andV (ev_op (ev_lenStr (ev_var rfl) hz) ev_c rv_I0) fun h1 => ev_andV (ev_op (ev_var rfl) (ev_strip (ev_var rfl) ev_c hz) rv_eqS) fun h2 => ev_call (ea_cons (ev_var rfl) (ea_cons (ev_call ea_nil sv0) ea_nil)) (sv2 hz)) ?_) q
    unfold valueB
    have : decide (z = Txt.stripChars z " ") = decide (Txt.stripChars z " " = z) := by
      by_cases h : z = Txt.stripChars z " "
      · rw [decide_eq_true h, decide_eq_true h.symm]
      · rw [decide_eq_false h, decide_eq_false fun e => h e.symm]
    rw [this, Bool.and_comm (allIn z signs)]
theorem ok_law_statuses (T : Mg mg) (F : FnP K "_law_statuses" s_law_statuses f fd) (gm : mg "_law_statuses" = some (.ref f)) : Call P w K mg base 1 "_law_statuses" [] (fun vs H Q _ => vs = [] ∧ RetL (stL.map V.str) H Q) := by
  refine mk F gm (fun _ _ _ _ _ _ us hl => match us, hl with | [], _ => rfl) (fun _ _ _ _ _ _ us hl => match us, hl with | [], _ => rfl) sc_law_statuses (fun vs H Q E h => ?_) (fun cdv A outer s H vs Q E hr h => ?_)
  · obtain ⟨rfl, _⟩ := h
    rfl
  · obtain ⟨rfl, q⟩ := h
    refine ⟨_, (pss_one (ps_ret (pe_lst (pa_cons pe_str (pa_cons pe_str (pa_cons pe_str (pa_cons pe_str (pa_cons pe_str (pa_cons pe_str (pa_cons pe_str (pa_cons pe_str (pa_cons pe_str pa_nil)))))))))))), ?_⟩
    exact s_retL (xs := stL.map V.str) (el_lst (ea_cons ev_c (ea_cons ev_c (ea_cons ev_c (ea_cons ev_c (ea_cons ev_c (ea_cons ev_c (ea_cons ev_c (ea_cons ev_c (ea_cons ev_c ea_nil))))))))) (by decide)) q
theorem ok_law_methods (T : Mg mg) (F : FnP K "_law_methods" s_law_methods f fd) (gm : mg "_law_methods" = some (.ref f)) : Call P w K mg base 1 "_law_methods" [] (fun vs H Q _ => vs = [] ∧ RetL (mdL.map V.str) H Q) := by
  refine mk F gm (fun _ _ _ _ _ _ us hl => match us, hl with | [], _ => rfl) (fun _ _ _ _ _ _ us hl => match us, hl with | [], _ => rfl) sc_law_methods (fun vs H Q E h => ?_) (fun cdv A outer s H vs Q E hr h => ?_)
  · obtain ⟨rfl, _⟩ := h
    rfl
  · obtain ⟨rfl, q⟩ := h
    refine ⟨_, (pss_one (ps_ret (pe_lst (pa_cons pe_str (pa_cons pe_str (pa_cons pe_str pa_nil)))))), ?_⟩
    exact s_retL (xs := mdL.map V.str) (el_lst (ea_cons ev_c (ea_cons ev_c (ea_cons ev_c ea_nil))) (by decide)) q
theorem ok_law_may (T : Mg mg) (F : FnP K "_law_may" s_law_may f fd) (gm : mg "_law_may" = some (.ref f)) : Call P w K mg base 1 "_law_may" ["side", "first"] spMy := by
  refine mk F gm (fun _ _ _ _ _ _ us hl => match us, hl with | [_, _], _ => rfl) (fun _ _ _ _ _ _ us hl => match us, hl with | [_, _], _ => rfl) sc_law_may (fun vs H Q E h => ?_) (fun cdv A outer s H vs Q E hr h => ?_)
  · obtain ⟨w, rfl, _⟩ := h
    rfl
  · obtain ⟨⟨wq, m, p, fs, b⟩, rfl, q⟩ := h
    refine ⟨_, (pss_cons (ps_if (pt_cmpR op_eq (pv 0) pe_str (nomark _))
      (pss_one (ps_ret (pe_cmpR op_eq (pv 1) pe_str (nomark _))))
      pss_nil)
    (pss_one (ps_ret (pe_and (pe_cmpR op_ne (pv 1) pe_str (nomark _)) (pe_one (pe_cmpR op_ne (pv 1) pe_str (nomark _))))))), ?_⟩
    refine q_when (b := wq) (et_is (et_test (ev_op (ev_var rfl) ev_c rv_eqS)) (sd_asks wq)) (fun hb H1 e1 => ?_) (fun hb H1 e1 => ?_)
    · cases hb
      exact s_ret (v := .bl (decide (m = ("put" : Str)))) (ev_op (ev_var rfl) ev_c rv_eqS) fun H2 e2 => q H2 (e1.trans e2)
    · cases hb
      refine s_ret (v := .bl (hasBd m)) (ev_is (ev_andV (ev_op (ev_var rfl) ev_c rv_neS) fun _ => ev_op (ev_var rfl) ev_c rv_neS) (congrArg V.bl (has_bd m).symm)) fun H2 e2 => q H2 (e1.trans e2)
theorem ok_law_start (T : Mg mg) (F : FnP K "_law_start" s_law_start f fd) (gm : mg "_law_start" = some (.ref f)) : Call P w K mg base 1 "_law_start" ["world"] spSrt := by
  refine mk F gm (fun _ _ _ _ _ _ us hl => match us, hl with | [_], _ => rfl) (fun _ _ _ _ _ _ us hl => match us, hl with | [_], _ => rfl) sc_law_start (fun vs H Q E h => ?_) (fun cdv A outer s H vs Q E hr h => ?_)
  · obtain ⟨v, w, l, rfl, _⟩ := h
    rfl
  · obtain ⟨v, ⟨wq, m, p, fs, b⟩, l, rfl, ⟨a, rfl, ha, hf⟩, ⟨s1, s2, s3, s4⟩, q⟩ := h
    refine ⟨_, (pss_cons (ps_if (pt_cmpR op_eq (pe_ix ix_list (pv 0) pe_int (fun _ _ => rfl)) pe_str (nomark _))
      (pss_one (ps_ret (pe_op oz_add (pe_op oz_add (pe_op oz_add pe_str (pe_ix ix_list (pv 0) pe_int (fun _ _ => rfl))) pe_str) (pe_ix ix_list (pv 0) pe_int (fun _ _ => rfl)))))
      pss_nil)
    (pss_one (ps_ret (pe_op oz_add pe_str (pe_ix ix_list (pv 0) pe_int (fun _ _ => rfl)))))), ?_⟩
    have I : ∀ {σ : L2.St} {H' : Hp} (j : Nat) {v : V}, Ex H H' → σ[0]? = some (some (.ref a)) → [.str (sdS wq), .str m, .str p, .ref l, .str b][j]? = some v → Ev (tOp (rIxL K) (tVar 0) (tC (.int (j : Int)))) σ H' v := fun j v e h0 hv => ev_ixL (ev_var h0) ev_c (e _ _ ha) (atI_nat hv)
    have c1 : ("ask " : Str).length ≤ 100 := by decide +kernel
    have c2 : (" " : Str).length ≤ 100 := by decide +kernel
    have c3 : ("answer " : Str).length ≤ 100 := by decide +kernel
    have s1 : m.length ≤ 100 := s1
    have s2 : p.length ≤ 100 := s2
    refine q_when (b := wq) (et_is (et_test (ev_op (I 0 (Ex.refl H) rfl rfl) ev_c rv_eqS)) (sd_asks wq)) (fun hb H1 e1 => ?_) (fun hb H1 e1 => ?_)
    · cases hb
      refine s_ret (v := .str (asL m p)) (ev_is (ev_op (ev_op (ev_op ev_c (I 1 e1 rfl rfl) (rv_addS (by omega))) ev_c (rv_addS (by rw [Str.length_append]; omega))) (I 2 e1 rfl rfl) (rv_addS (by rw [Str.length_append, Str.length_append]; omega))) (congrArg V.str (asL_eq m p))) fun H2 e2 => q H2 (e1.trans e2)
    · cases hb
      refine s_ret (v := .str (ansL m)) (ev_is (ev_op ev_c (I 1 e1 rfl rfl) (rv_addS (by omega))) (congrArg V.str (ansL_eq m))) fun H2 e2 => q H2 (e1.trans e2)
theorem ok_law_due (T : Mg mg) (c_law_methods : Call P w K mg base 1 "_law_methods" [] (fun vs H Q _ => vs = [] ∧ RetL (mdL.map V.str) H Q)) (c_law_statuses : Call P w K mg base 1 "_law_statuses" [] (fun vs H Q _ => vs = [] ∧ RetL (stL.map V.str) H Q)) (c_law_is_path : C1 P w K mg base 2 "_law_is_path" fun z => .bl (pathB z)) (c_law_is_name : C1 P w K mg base 2 "_law_is_name" fun z => .bl (nameB z)) (c_law_is_value : C1 P w K mg base 2 "_law_is_value" fun z => .bl (valueB z))
    (c_law_may : Call P w K mg base 1 "_law_may" ["side", "first"] spMy) (c_law_all_in : Call P w K mg base 1 "_law_all_in" ["text", "signs"] (sp2 fun z s => .bl (allIn z s))) (c_law_signs : Call P w K mg base 1 "_law_signs" [] (sp0 (.str signs))) (F : FnP K "_law_due" s_law_due f fd) (gm : mg "_law_due" = some (.ref f)) : Call P w K mg base 3 "_law_due" ["world"] spDu := by
  refine mk F gm (fun _ _ _ _ _ _ us hl => match us, hl with | [_], _ => rfl) (fun _ _ _ _ _ _ us hl => match us, hl with | [_], _ => rfl) sc_law_due (fun vs H Q E h => ?_) (fun cdv A outer s H vs Q E hr h => ?_)
  · obtain ⟨v, w, l, rfl, _⟩ := h
    rfl
  · obtain ⟨v, wl, l, rfl, ⟨a, rfl, ha, hf⟩, ⟨s1, s2, s3, s4⟩, hok, q⟩ := h
    refine ⟨_, (pss_cons (ps_set (i := 1) sc_law_due.nd rfl (Or.inl rfl) (pe_ix ix_list (pv 0) pe_int (fun _ _ => rfl)))
    (pss_cons (ps_if (PW.pt (pw_and (pt_cmpR op_eq (pv 1) pe_str (nomark _)) (pw_and1 (pt_cmpR op_notIn_seq (pe_ix ix_list (pv 0) pe_int (fun _ _ => rfl)) (pe_f0 c_law_methods hr (by decide) rfl) rfl))))
      (pss_one (ps_ret pe_str))
      pss_nil)
    (pss_cons (ps_if (PW.pt (pw_and (pt_cmpR op_eq (pv 1) pe_str (nomark _)) (pw_and1 (pt_cmpR op_notIn_seq (pe_ix ix_list (pv 0) pe_int (fun _ _ => rfl)) (pe_f0 c_law_statuses hr (by decide) rfl) rfl))))
      (pss_one (ps_ret pe_str))
      pss_nil)
    (pss_cons (ps_if (PW.pt (pw_and (pt_cmpR op_eq (pv 1) pe_str (nomark _)) (pw_and1 (pt_not (pt_val (pe_f c_law_is_path hr (by decide) rfl (pa_cons (pe_ix ix_list (pv 0) pe_int (fun _ _ => rfl)) pa_nil)))))))
      (pss_one (ps_ret pe_str))
      pss_nil)
    (pss_cons (ps_setLc (i := 2) (own := [("field", 3)]) (g := gName 3) rfl sc_law_due.nd rfl rfl (sw_true rfl rfl rfl (by decide +kernel)) (pi_list (pe_ix ix_list (pv 0) pe_int (fun _ _ => rfl))) (blkOk_by (N := ["world", "side", "bad", "field"]) (sc := L2.defScope s_law_due) (by decide +kernel)) (fun _ _ _ _ _ => pg_name (i := 3) sc_law_due.nd rfl (Or.inl rfl)) (fun _ _ _ _ _ => pts_one (PW.pt (pw_or (pt_not (pt_val (pe_f c_law_is_name hr (by decide) rfl (pa_cons (inK (K := K) (t := fun K => tOp (rIxT K) _ _) rfl (pe_ix ix_tup (pv 3) pe_int (fun _ _ => rfl))) pa_nil)))) (pw_or1 (pt_not (pt_val (pe_f c_law_is_value hr (by decide) rfl (pa_cons (inK (K := K) (t := fun K => tOp (rIxT K) _ _) rfl (pe_ix ix_tup (pv 3) pe_int (fun _ _ => rfl))) pa_nil)))))))) (fun _ _ _ _ _ => (pv 3)))
    (pss_cons (ps_if (PW.pt (pw_or (pt_cmpR op_gt (pe_callB call_len_seq (by rfl) T.len (by decide +kernel) (pa_cons (pe_ix ix_list (pv 0) pe_int (fun _ _ => rfl)) pa_nil)) pe_int (nomark _)) (pw_or1 (pt_cmpR (op_neD hr.units) (pv 2) (pe_lst pa_nil) (nomark _)))))
      (pss_one (ps_ret pe_str))
      pss_nil)
    (pss_cons (ps_if (PW.pt (pw_and (pt_cmpR op_ne (pe_ix ix_list (pv 0) pe_int (fun _ _ => rfl)) pe_str (nomark _)) (pw_and1 (pt_not (pt_val (pe_f c_law_may hr (by decide) rfl (pa_cons (pv 1) (pa_cons (pe_ix ix_list (pv 0) pe_int (fun _ _ => rfl)) pa_nil))))))))
      (pss_one (ps_ret pe_str))
      pss_nil)
    (pss_cons (ps_if (PW.pt (pw_or (pt_cmpR op_gt (pe_callB cz_len (by rfl) T.len (by decide +kernel) (pa_cons (pe_ix ix_list (pv 0) pe_int (fun _ _ => rfl)) pa_nil)) pe_int (nomark _)) (pw_or1 (pt_not (pt_val (pe_f c_law_all_in hr (by decide) rfl (pa_cons (pe_ix ix_list (pv 0) pe_int (fun _ _ => rfl)) (pa_cons (pe_op oz_add (pe_f0 c_law_signs hr (by decide) rfl) pe_str) pa_nil))))))))
      (pss_one (ps_ret pe_str))
      pss_nil)
    (pss_one (ps_ret pe_str)))))))))), ?_⟩
    obtain ⟨wq, m, p, fs, b⟩ := wl
    have s1 : m.length ≤ 100 := s1
    have s2 : p.length ≤ 100 := s2
    have s4 : b.length ≤ 200000 := s4
    have s3 : smallF fs := s3
    have hf : FsAt H l fs := hf
    have I : ∀ {σ : L2.St} {H' : Hp} (j : Nat) {v : V}, Ex H H' → σ[0]? = some (some (.ref a)) → [.str (sdS wq), .str m, .str p, .ref l, .str b][j]? = some v → Ev (tOp (rIxL K) (tVar 0) (tC (.int (j : Int)))) σ H' v := fun j v e h0 hv => ev_ixL (ev_var h0) ev_c (e _ _ ha) (atI_nat hv)
    refine q_asg (v := .str (sdS wq)) (I 0 (Ex.refl H) rfl rfl) fun H1 e1 => ?_
    refine q_when (b := wq && !decide (m ∈ mdL)) (et_and (et_is (et_test (ev_op (ev_var rfl) ev_c rv_eqS)) (sd_asks wq)) fun _ => et_is (et_test (ev_opL (I 1 e1 rfl rfl) (el_callX (vs := []) ea_nil fun H1 e1 Q' E' q' => ⟨rfl, q'⟩) fun p H1 hp e => rv_niL (sq_of hp) rfl rfl)) (congrArg (!·) (inV_strs m mdL))) (fun hb H2 e2 => ?_) (fun hb H2 e2 => ?_)
    · obtain ⟨h1, h2⟩ := Bool.and_eq_true_iff.mp hb
      refine s_ret (v := .str "method") ev_c fun H3 e3 => ?_
      have g := q H3 ((e1.trans e2).trans e3)
      unfold badW at g
      rw [if_pos h1, if_pos (of_decide_eq_false ((Bool.not_eq_true' _).mp h2))] at g
      exact g
    refine q_when (b := !wq && !decide (m ∈ stL)) (et_and (et_is (et_test (ev_op (ev_var rfl) ev_c rv_eqS)) (sd_answers wq)) fun _ => et_is (et_test (ev_opL (I 1 (e1.trans e2) rfl rfl) (el_callX (vs := []) ea_nil fun H1 e1 Q' E' q' => ⟨rfl, q'⟩) fun p H1 hp e => rv_niL (sq_of hp) rfl rfl)) (congrArg (!·) (inV_strs m stL))) (fun hb2 H3 e3 => ?_) (fun hb2 H3 e3 => ?_)
    · obtain ⟨h1, h2⟩ := Bool.and_eq_true_iff.mp hb2
      refine s_ret (v := .str "status") ev_c fun H4 e4 => ?_
      have g := q H4 (((e1.trans e2).trans e3).trans e4)
      unfold badW at g
      rw [if_neg (by show ¬ wq = true; rw [(Bool.not_eq_true' _).mp h1]; exact Bool.false_ne_true), if_pos (of_decide_eq_false ((Bool.not_eq_true' _).mp h2))] at g
      exact g
    have e13 := (e1.trans e2).trans e3
    refine q_when (b := wq && !pathB p) (et_and (et_is (et_test (ev_op (ev_var rfl) ev_c rv_eqS)) (sd_asks wq)) fun _ => et_not (et_B (ev_call (ea_cons (I 2 e13 rfl rfl) ea_nil) (sv1 (f := fun z => .bl (pathB z)) (by omega))))) (fun hb3 H4 e4 => ?_) (fun hb3 H4 e4 => ?_)
    · obtain ⟨h1, h2⟩ := Bool.and_eq_true_iff.mp hb3
      have hm : m ∈ mdL := by
        rw [h1, Bool.true_and] at hb
        exact of_decide_eq_true ((Bool.not_eq_false' _).mp hb)
      refine s_ret (v := .str "path") ev_c fun H5 e5 => ?_
      have g := q H5 ((e13.trans e4).trans e5)
      unfold badW at g
      rw [if_pos h1, if_neg (fun z => z hm), if_pos ((Bool.not_eq_true' _).mp h2)] at g
      exact g
    have hbad : badW ⟨wq, m, p, fs, b⟩ = badM fs (hbW ⟨wq, m, p, fs, b⟩) b := by
      unfold badW hbW
      cases wq with
      | true =>
        rw [Bool.true_and, Bool.not_eq_false', decide_eq_true_eq] at hb
        rw [Bool.true_and, Bool.not_eq_false'] at hb3
        rw [if_pos rfl, if_neg (fun z => z hb), if_neg (by show ¬ pathB p = false; rw [hb3]; exact Bool.noConfusion), if_pos rfl]
      | false =>
        have hb2' : m ∈ stL := of_decide_eq_true ((Bool.not_eq_false' _).mp hb2)
        rw [if_neg Bool.false_ne_true, if_neg (fun z => z hb2'), if_neg Bool.false_ne_true]
    rw [hbad] at q
    have e14 := e13.trans e4
    obtain ⟨xs, hx, hr1⟩ := id hf
    have nm : ∀ {σ : L2.St} {H' : Hp} {te : TE} {z : Str}, Ev te σ H' (.str z) → z.length ≤ 300 → EvT (tB (tCall (sp1 fun z => .bl (nameB z)) [] E0 (tCons te tNil))) σ H' (nameB z) := fun h hz => et_B (ev_call (ea_cons h ea_nil) (sv1 (f := fun z => .bl (nameB z)) (by omega)))
    have vl : ∀ {σ : L2.St} {H' : Hp} {te : TE} {z : Str}, Ev te σ H' (.str z) → z.length ≤ 300 → EvT (tB (tCall (sp1 fun z => .bl (valueB z)) [] E0 (tCons te tNil))) σ H' (valueB z) := fun h hz => et_B (ev_call (ea_cons h ea_nil) (sv1 (f := fun z => .bl (valueB z)) (by omega)))
    refine q_in ?_; dsimp only
    refine g_asg ?_
    refine (I 3 e14 rfl rfl) H4 (Ex.refl H4) _ fun H5 e5 => ⟨l, rfl, ⟨_, sq_of ((e14.trans e5) _ _ hx)⟩, fun D hD => ?_⟩
    have e15 := e14.trans e5
    have hf5 := hf.ex e15
    obtain ⟨xs5, hx5, hr5⟩ := id hf5
    rw [e15 _ _ hx] at hx5
    cases hx5
    refine lc_rel (α := Str × Str) (fun i => (fs.take i).filter fun x => !nameB x.1 || !valueB x.2) PfAt (fun _ _ _ _ k hD r => TupAt.keep r k hD) (sq_of (e15 _ _ hx)) hD rfl (by have := s3.1; rw [hr1.1]; omega) (fun i y H6 hi e6 k k0 hk hk0 => ?_) (fun H6 ys e6 hy hrel => ?_)
    · obtain ⟨o, ho, t, rfl, ht⟩ := hr5.get hi
      have ht6 := e6 _ _ ht
      obtain ⟨l1, l2⟩ := s3.2 o (List.mem_of_getElem? ho)
      have hacc : (fs.take (i + 1)).filter (fun x => !nameB x.1 || !valueB x.2) = (fs.take i).filter (fun x => !nameB x.1 || !valueB x.2) ++ (if (!nameB o.1 || !valueB o.2) = true then [o] else []) := by
        rw [List.take_add_one, ho, List.filter_append]
        show _ ++ List.filter _ [o] = _
        rw [List.filter_cons]
        rfl
      refine ⟨rfl, ?_⟩
      refine (et_or (et_not (nm (ev_ixT (ev_var rfl) ev_c ht6 (atI_nat (j := 0) rfl)) l1)) fun _ => et_not (vl (ev_ixT (ev_var rfl) ev_c ht6 (atI_nat (j := 1) rfl)) l2)) H6 (Ex.refl H6) _ fun H7 e7 => ?_
      cases hbb : (!nameB o.1 || !valueB o.2) with
      | true =>
        rw [if_pos rfl]
        exact (ev_var rfl) H7 (Ex.refl H7) _ fun H8 e8 => hk _ H8 o (e7.trans e8) (by rw [hacc, hbb]; rfl) ⟨t, rfl, (e7.trans e8) _ _ ht6⟩
      | false =>
        rw [if_neg Bool.false_ne_true]
        exact hk0 H7 e7 (by rw [hacc, hbb]; exact List.append_nil _)
    rw [hr1.1, List.take_length] at hrel
    refine g_name ?_; dsimp only
    have e16 := e15.trans e6
    have hbl : FsAt H6 D (fs.filter fun x => !nameB x.1 || !valueB x.2) := ⟨ys, hy, hrel⟩
    have hokb : okS (fs.filter fun x => !nameB x.1 || !valueB x.2) := fun x hx => hok x ((List.mem_filter.mp hx).1)
    have hA := are_bad fs
    refine q_when (b := !areB fs) (et_is (et_or (a := decide (¬ fs.length ≤ 40)) (b := !decide ((fs.filter fun x => !nameB x.1 || !valueB x.2) = [])) (et_is (et_test (ev_op (ev_lenF (I 3 e16 rfl rfl) (FsAt.fq (hf.ex e16))) ev_c rv_I0)) (decide_eq_decide.mpr (by omega))) fun _ => et_test (ev_opL (ev_var rfl) (el_lst ea_nil (by decide)) fun p H1 hp e => rv_neFS (hbl.ex e) (fs_nil hp) hokb okS_nil)) (by rw [hA, Bool.not_not])) (fun hb4 H7 e7 => ?_) (fun hb4 H7 e7 => ?_)
    · refine s_ret (v := .str "fields") ev_c fun H8 e8 => ?_
      have g := q H8 ((e16.trans e7).trans e8)
      unfold badM at g
      rw [if_pos ((Bool.not_eq_true' _).mp hb4)] at g
      exact g
    have hA2 : ¬ areB fs = false := by rw [(Bool.not_eq_false' _).mp hb4]; exact Bool.noConfusion
    have e17 := e16.trans e7
    generalize hgb : hbW ⟨wq, m, p, fs, b⟩ = hb0 at q
    refine q_when (b := !decide (b = "") && !hb0) (et_and (et_test (ev_op (I 4 e17 rfl rfl) ev_c rv_neS)) fun _ => et_not (et_B (ev_call (ea_cons (ev_var rfl) (ea_cons (I 1 e17 rfl rfl) ea_nil)) fun H1 e Q' q' E' => ⟨⟨wq, m, p, fs, b⟩, rfl, by rw [hgb]; exact q'⟩))) (fun hb5 H8 e8 => ?_) (fun hb5 H8 e8 => ?_)
    · refine s_ret (v := .str "body") ev_c fun H9 e9 => ?_
      have g := q H9 ((e17.trans e8).trans e9)
      unfold badM at g
      rw [Bool.and_eq_true, Bool.not_eq_true', Bool.not_eq_true', decide_eq_false_iff_not] at hb5
      rw [if_neg hA2, if_pos (Or.inr hb5)] at g
      exact g
    have e18 := e17.trans e8
    refine q_when (b := !bodyB b) (et_is (et_or (a := decide ((b.length : Int) > 100000)) (b := !linesB b) (et_test (ev_op (ev_lenStrW (I 4 e18 rfl rfl) s4) ev_c rv_I0)) fun hle => et_is (et_not (et_B (ev_call (ea_cons (I 4 e18 rfl rfl) (ea_cons (ev_op (ev_call ea_nil sv0) ev_c (rv_addS (by decide +kernel))) ea_nil)) (sv2 (f := fun z s => .bl (allIn z s)) (by have := of_decide_eq_false hle; omega))))) (congrArg (!·) (lines_in b))) (by
      unfold bodyB
      by_cases h : (b.length : Int) ≤ 100000
      · rw [decide_eq_true h, decide_eq_false (by omega)]; rfl
      · rw [decide_eq_false h, decide_eq_true (by omega)]; rfl)) (fun hb6 H9 e9 => ?_) (fun hb6 H9 e9 => ?_)
    · refine s_ret (v := .str "body") ev_c fun H10 e10 => ?_
      have g := q H10 ((e18.trans e9).trans e10)
      unfold badM at g
      rw [if_neg hA2, if_pos (Or.inl ((Bool.not_eq_true' _).mp hb6))] at g
      exact g
    · refine s_ret (v := .str "") ev_c fun H10 e10 => ?_
      have g := q H10 ((e18.trans e9).trans e10)
      unfold badM at g
      rw [if_neg hA2, if_neg (by
        rintro (z | ⟨z1, z2⟩)
        · rw [(Bool.not_eq_false' _).mp hb6] at z; cases z
        · rw [z2, decide_eq_false z1] at hb5; cases hb5)] at g
      exact g
end
end Z
set_option maxHeartbeats 4000000
namespace Z
open PySem PySem.Spec PyProof.Rows L2 TL Evl NdefX
/-! ### the law's draws: names, values, odd fields, rows -/
section
variable {σ : L2.St} {H : Hp} {ta tb tc tl' : TE} {td : TA} {p : Addr} {n lo hi c : Int} {z : Str} {xs : List V} {Q : VK} {E E2 : XK}
theorem rd_dr (h : EvA td σ H [.ref p, .int n]) (b : Bg H p) (h1 : 1 ≤ n) (h2 : n ≤ 1000000) (k : ∀ (d : Int) H', 0 ≤ d → d < n → Bg H' p → Keep p H H' → Q (.int d) H') : tCall spDr [] E td σ H Q :=
  rd_call h fun H1 e1 => ⟨p, n, rfl, b.ex e1, h1, h2, fun d H' d0 d1 b' k' => k d H' d0 d1 b' ((Keep.of e1).trans k')⟩
theorem rd_pk (hp : Ev ta σ H (.ref p)) (hl : EvL tl' σ H xs) (b : Bg H p) (h1 : 1 ≤ xs.length) (h2 : xs.length ≤ 1000) (k : ∀ v H', v ∈ xs → Bg H' p → Keep p H H' → Q v H') : tCall spPk [] E (tCons ta (tCons tl' tNil)) σ H Q :=
  hp H (Ex.refl H) _ fun H1 e1 => hl H1 e1 _ fun l H2 nl e2 hl2 => ⟨p, l, xs, rfl, (b.ex e1).ex e2, (b.ex e1).ne nl, hl2, h1, h2, fun v H' hv b' k' => k v H' hv b' (((Keep.of e1).trans (Keep.of e2)).trans k')⟩
theorem rd_mo (h : EvA td σ H [.ref p, .int lo, .int hi]) (b : Bg H p) (k : ∀ (d : Int) H', d = lo ∨ d = hi → Bg H' p → Keep p H H' → Q (.int d) H') : tCall spMo [] E td σ H Q :=
  rd_call h fun H1 e1 => ⟨p, lo, hi, rfl, b.ex e1, fun d H' hd b' k' => k d H' hd b' ((Keep.of e1).trans k')⟩
theorem rd_wd (h : EvA td σ H [.ref p, .str z, .int lo, .int hi]) (b : Bg H p) (z1 : 1 ≤ z.length) (z2 : z.length ≤ 1000) (h0 : 0 ≤ lo) (h1 : lo ≤ hi) (h2 : hi ≤ 1000) (k : ∀ (t : Str) H', lo ≤ (t.length : Int) → (t.length : Int) ≤ hi → (∀ c ∈ tl t, c ∈ tl z) → Bg H' p → Keep p H H' → Q (.str t) H') : tCall spWd [] E td σ H Q :=
  rd_call h fun H1 e1 => ⟨p, z, lo, hi, rfl, b.ex e1, z1, z2, h0, h1, h2, fun t H' t0 t1 ht b' k' => k t H' t0 t1 ht b' ((Keep.of e1).trans k')⟩
theorem rd_wdM (hp : Ev ta σ H (.ref p)) (hz : Ev tb σ H (.str z)) (hc : Ev tc σ H (.int lo)) (hm : ∀ H1, Ex H H1 → EvA td σ H1 [.ref p, .int c, .int hi]) (b : Bg H p) (z1 : 1 ≤ z.length) (z2 : z.length ≤ 1000) (h0 : 0 ≤ lo) (h1 : lo ≤ c) (h2 : c ≤ hi) (h3 : hi ≤ 1000) (k : ∀ (t : Str) H', lo ≤ (t.length : Int) → (t.length : Int) ≤ hi → (∀ c ∈ tl t, c ∈ tl z) → Bg H' p → Keep p H H' → Q (.str t) H') : tCall spWd [] E (tCons ta (tCons tb (tCons tc (tCons (tCall spMo [] E2 td) tNil)))) σ H Q :=
  hp H (Ex.refl H) _ fun H1 e1 => hz H1 e1 _ fun H2 e2 => hc H2 (e1.trans e2) _ fun H3 e3 => rd_mo (hm H3 ((e1.trans e2).trans e3)) (b.ex ((e1.trans e2).trans e3)) fun d H4 hd b4 k4 => ⟨p, z, lo, d, rfl, b4, z1, z2, h0, by omega, by omega, fun t H' t0 t1 ht b' k' => k t H' t0 (by omega) ht b' (((Keep.of ((e1.trans e2).trans e3)).trans k4).trans k')⟩
end
theorem hd_app {a b : Str} (h : a.length = 1) : hd (a ++ b) = hd a := by
  unfold hd
  rw [tl_append]
  cases e : tl a with
  | nil =>
    rw [len_tl, e] at h
    exact absurd h (by decide)
  | cons x r => rfl
def lowS : Str := "abcdefghijklmnopqrstuvwxyz"
def tailS : Str := "abcdefghijklmnopqrstuvwxyz0123456789-"
theorem name_drawn {a t : Str} (ha : a.length = 1) (h1 : ∀ c ∈ tl a, c ∈ tl lowS) (ht : t.length ≤ 29) (h2 : ∀ c ∈ tl t, c ∈ tl tailS) (hn : a ++ t ≠ ("length" : Str)) : nameB (a ++ t) = true := by
  have k : ∀ c ∈ tl lowS, c ∈ tl tailS := by decide +kernel
  have e1 : allIn a tailS = true := List.all_eq_true.mpr fun c hc => decide_eq_true (k c (h1 c hc))
  have e2 : allIn t tailS = true := List.all_eq_true.mpr fun c hc => decide_eq_true (h2 c hc)
  have e3 : hdIn (a ++ t) lowS = true := by
    unfold hdIn
    rw [hd_app ha]
    unfold hd
    cases e : tl a with
    | nil =>
      rw [len_tl, e] at ha
      exact absurd ha (by decide)
    | cons x r =>
      exact decide_eq_true (h1 x (by rw [e]; exact List.mem_cons_self))
  show (((decide ((1 : Int) ≤ (a ++ t).length) && decide (((a ++ t).length : Int) ≤ 30)) && (hdIn (a ++ t) lowS && allIn (a ++ t) tailS)) && !decide (a ++ t = ("length" : Str))) = true
  rw [e3, allIn_app, e1, e2, decide_eq_false hn, Str.length_append, decide_eq_true (by omega), decide_eq_true (by omega)]
  rfl
theorem name_len7 : nameB ("length-" : Str) = true := by decide +kernel
theorem strip_value {z : Str} (h : allIn z signs = true) (hl : z.length ≤ 200) : valueB (Txt.stripChars z " ") = true := by
  have := strip_len z " "
  unfold valueB
  rw [decide_eq_true (by omega), strip_idem, decide_eq_true rfl, Bool.and_true, Bool.true_and]
  exact allIn_sub h fun c hc => strip_mem hc
def spNm : Sp := fun vs H Q _ => ∃ p, vs = [.ref p] ∧ Bg H p ∧ ∀ (t : Str) H', nameB t = true → Bg H' p → Keep p H H' → Q (.str t) H'
def spVl : Sp := fun vs H Q _ => ∃ p, vs = [.ref p] ∧ Bg H p ∧ ∀ (t : Str) H', valueB t = true → Bg H' p → Keep p H H' → Q (.str t) H'
section
variable {P : Program} {w : World} {K : PySem.W.Frag} {mg : Str → Option Value} {base : Heap} {f : Addr} {fd : FuncData} {k : Nat}
theorem ok_law_name (T : Mg mg) (c_law_most : CMo P w K mg base) (c_law_word : CWd P w K mg base) (c_law_letters : Call P w K mg base 1 "_law_letters" [] (sp0 (.str letters))) (F : FnP K "_law_name" s_law_name f fd) (gm : mg "_law_name" = some (.ref f)) : Call P w K mg base 3 "_law_name" ["bag"] spNm := by
  refine mk F gm (fun _ _ _ _ _ _ us hl => match us, hl with | [_], _ => rfl) (fun _ _ _ _ _ _ us hl => match us, hl with | [_], _ => rfl) sc_law_name (fun vs H Q E h => ?_) (fun cdv A outer s H vs Q E hr h => ?_)
  · obtain ⟨p, rfl, _⟩ := h
    rfl
  · obtain ⟨p, rfl, b, q⟩ := h
    refine ⟨_, (pss_cons (ps_set (i := 1) sc_law_name.nd rfl (Or.inl rfl) (pe_op oz_add (pe_f0 c_law_letters hr (by decide) rfl) pe_str))
    (pss_cons (ps_set (i := 2) sc_law_name.nd rfl (Or.inl rfl) (pe_op oz_add (pe_f c_law_word hr (by decide) rfl (pa_cons (pv 0) (pa_cons (pe_f0 c_law_letters hr (by decide) rfl) (pa_cons pe_int (pa_cons pe_int pa_nil))))) (pe_f c_law_word hr (by decide) rfl (pa_cons (pv 0) (pa_cons (pv 1) (pa_cons pe_int (pa_cons (pe_f c_law_most hr (by decide) rfl (pa_cons (pv 0) (pa_cons pe_int (pa_cons pe_int pa_nil)))) pa_nil)))))))
    (pss_cons (ps_if (pt_cmpR op_eq (pv 2) pe_str (nomark _))
      (pss_one (ps_ret pe_str))
      pss_nil)
    (pss_one (ps_ret (pv 2)))))), ?_⟩
    refine q_asg (v := .str tailS) (ev_is (ev_op (ev_call ea_nil sv0) ev_c (rv_addS (by decide +kernel))) (by rw [show letters ++ ("0123456789-" : Str) = tailS by decide +kernel])) fun H1 e1 => ?_
    have l1 : 1 ≤ letters.length ∧ letters.length ≤ 1000 := by decide +kernel
    have l2 : 1 ≤ tailS.length ∧ tailS.length ≤ 1000 := by decide +kernel
    have hlow : letters = lowS := by decide +kernel
    refine q_asgR (rd_wd (ea_cons (ev_var rfl) (ea_cons (ev_call ea_nil sv0) (ea_cons ev_c (ea_cons ev_c ea_nil)))) (b.ex e1) l1.1 l1.2 (by decide) (by decide) (by decide) fun a H2 a0 a1 ha b2 k2 => ?_)
    refine rd_wdM (ev_var rfl) (ev_var rfl) ev_c (fun H1 e1 => ea_cons (ev_var rfl) (ea_cons ev_c (ea_cons ev_c ea_nil))) b2 l2.1 l2.2 (by decide) (by decide) (by decide) (by decide) fun t H3 t0 t1 ht b3 k3 => ?_
    refine ⟨a, t, rfl, rfl, sz_of (show a.length + t.length ≤ 100000 by omega), ?_⟩
    have kk := ((Keep.of e1).trans k2).trans k3
    rw [hlow] at ha
    refine q_when (et_test (ev_op (ev_var rfl) ev_c rv_eqS)) (fun hb H4 e4 => ?_) (fun hb H4 e4 => ?_)
    · exact s_ret ev_c fun H5 e5 => q _ H5 name_len7 (b3.ex (e4.trans e5)) (kk.trans (Keep.of (e4.trans e5)))
    · exact s_ret (ev_var rfl) fun H5 e5 => q _ H5 (name_drawn (by omega) ha (by omega) ht (of_decide_eq_false hb)) (b3.ex (e4.trans e5)) (kk.trans (Keep.of (e4.trans e5)))
theorem ok_law_value (T : Mg mg) (c_law_most : CMo P w K mg base) (c_law_word : CWd P w K mg base) (c_law_signs : Call P w K mg base 1 "_law_signs" [] (sp0 (.str signs))) (F : FnP K "_law_value" s_law_value f fd) (gm : mg "_law_value" = some (.ref f)) : Call P w K mg base 3 "_law_value" ["bag"] spVl := by
  refine mk F gm (fun _ _ _ _ _ _ us hl => match us, hl with | [_], _ => rfl) (fun _ _ _ _ _ _ us hl => match us, hl with | [_], _ => rfl) sc_law_value (fun vs H Q E h => ?_) (fun cdv A outer s H vs Q E hr h => ?_)
  · obtain ⟨p, rfl, _⟩ := h
    rfl
  · obtain ⟨p, rfl, b, q⟩ := h
    refine ⟨_, (pss_one (ps_ret (pe_bm PySem.F.plainAttrs_str PySem.F.slot_str_strip PySem.F.type_str_strip mz_strip (pe_f c_law_word hr (by decide) rfl (pa_cons (pv 0) (pa_cons (pe_f0 c_law_signs hr (by decide) rfl) (pa_cons pe_int (pa_cons (pe_f c_law_most hr (by decide) rfl (pa_cons (pv 0) (pa_cons pe_int (pa_cons pe_int pa_nil)))) pa_nil))))) (pa_cons pe_str pa_nil)))), ?_⟩
    have l1 : 1 ≤ signs.length ∧ signs.length ≤ 1000 := by decide +kernel
    refine g_ret ?_
    refine rd_wdM (ev_var rfl) (ev_call ea_nil sv0) ev_c (fun H1 e1 => ea_cons (ev_var rfl) (ea_cons ev_c (ea_cons ev_c ea_nil))) b l1.1 l1.2 (by decide) (by decide) (by decide) (by decide) fun t H2 t0 t1 ht b2 k2 => ?_
    refine ⟨rfl, ev_c H2 (Ex.refl H2) _ fun H3 e3 => ⟨t, " ", rfl, rfl, sz_of (show t.length ≤ 100000 by omega), ?_⟩⟩
    exact q _ H3 (strip_value (List.all_eq_true.mpr fun c hc => decide_eq_true (ht c hc)) (by omega)) (b2.ex e3) (k2.trans (Keep.of e3))
end
theorem lc_bg {α : Type} {te : TE} {σ : L2.St} {j n : Nat} {vs : List Nat} {lo : Int} {H1 : Hp} {D p : Addr} {Qd : Hp → Prop} (R : Hp → V → α → Prop) (ok : α → Prop)
    (stab : ∀ (H H' : Hp) v x, R H v x → (∀ b xs, H b = some (.tup xs) → H' b = some (.tup xs)) → R H' v x) (hD : H1 D = none) (b1 : Bg H1 p) (hn : n ≤ 1000) (hw : ∀ x, wipe ((wipe σ vs).set j (some x)) vs = wipe σ vs)
    (el : ∀ (i : Nat) (H' : Hp), i < n → Bg H' p → Keep p H1 H' → ∀ k : VK, (∀ v x H2, R H2 v x → ok x → Bg H2 p → Keep p H' H2 → k v H2) → te ((wipe σ vs).set j (some (.int (lo + i)))) H' k)
    (fin : ∀ (H' : Hp) ys xs, H' D = some (.lst ys) → Rel (R H') ys xs → xs.length = n → (∀ x ∈ xs, ok x) → Bg H' p → Keep p H1 H' → Qd H') :
    ∃ W : Nat → Nat → Hp → Prop, (∃ m, W 0 m (upd H1 D (HO.lst []))) ∧ ∀ (i m : Nat) (H : Hp), W i m H → (Itr lo n).stop i H ∧ Qd H ∨ (Itr lo n).go i H ∧ ∃ Nx : Hp → Prop, (∀ (H' : Hp), Nx H' → ∃ m', m' < m ∧ W (i + 1) m' H') ∧ ∀ (x : V) (H' : Hp), (Itr lo n).yld i H x H' →
      gName j x (wipe σ vs) H' fun σ2 H2 => wipe σ2 vs = wipe σ vs ∧ tYes σ2 H2 fun b H3 => if b = true then te σ2 H3 fun y H4 => ∃ acc, H4 D = some (HO.lst acc) ∧ acc.length < sizeLine ∧ Nx (upd H4 D (HO.lst (acc ++ [y]))) else Nx H3 := by
  have hDp : D ≠ p := b1.ne hD
  refine lc_range (lo := lo) (n := n) (fun i H' => ∃ ys xs, H' D = some (.lst ys) ∧ Rel (R H') ys xs ∧ xs.length = i ∧ (∀ x ∈ xs, ok x) ∧ Bg H' p ∧ Keep p H1 H') ⟨[], [], upd_same, ⟨rfl, fun i x y h _ => nomatch h⟩, rfl, (fun _ h => nomatch h), b1.upd hDp, fun c o hc ho => by rw [upd_ne (ne_of_none ho hD)]; exact ho⟩ (fun i H' hi pv => ?_) (fun H' pv => ?_)
  · obtain ⟨ys, xs, h1, h2, h3, h4, h5, h6⟩ := pv
    refine ⟨hw _, ?_⟩
    unfold tYes
    dsimp only
    rw [if_pos rfl]
    refine el i H' hi h5 h6 _ fun v x H2 hv hx b2 k2 => ?_
    have hd2 : H2 D = some (.lst ys) := k2 _ _ hDp h1
    have ht : ∀ b zs, H' b = some (.tup zs) → (upd H2 D (.lst (ys ++ [v]))) b = some (.tup zs) := fun b zs hb => by
      have nD : b ≠ D := fun e => by rw [e, h1] at hb; cases hb
      have np : b ≠ p := fun e => by
        obtain ⟨us, hu⟩ := h5.has
        rw [e, hu] at hb; cases hb
      rw [upd_ne nD]
      exact k2 _ _ np hb
    have ht2 : ∀ b zs, H2 b = some (.tup zs) → (upd H2 D (.lst (ys ++ [v]))) b = some (.tup zs) := fun b zs hb => by
      have nD : b ≠ D := fun e => by rw [e, hd2] at hb; cases hb
      rw [upd_ne nD]
      exact hb
    have hl : ys.length = i := h2.1.trans h3
    refine ⟨ys, hd2, Nat.lt_of_lt_of_le (show ys.length < 100000 by omega) (by decide), ys ++ [v], xs ++ [x], upd_same, ?_, by rw [List.length_append, h3]; rfl, fun z hz => ?_, b2.upd hDp, fun c o hc ho => ?_⟩
    · refine ⟨by rw [List.length_append, List.length_append, h2.1]; rfl, fun m a c ha hc => ?_⟩
      by_cases hm : m < ys.length
      · rw [List.getElem?_append_left hm] at ha
        rw [List.getElem?_append_left (by rw [← h2.1]; exact hm)] at hc
        exact stab _ _ _ _ (h2.2 m a c ha hc) ht
      · rw [List.getElem?_append_right (by omega)] at ha
        rw [List.getElem?_append_right (by rw [← h2.1]; omega), ← h2.1] at hc
        have hz : m - ys.length = 0 := by
          rcases Nat.eq_zero_or_pos (m - ys.length) with h | h
          · exact h
          · rw [List.getElem?_eq_none (by show 1 ≤ _; omega)] at ha
            cases ha
        rw [hz] at ha hc
        cases ha
        cases hc
        exact stab _ _ _ _ hv ht2
    · rcases List.mem_append.mp hz with hz | hz
      · exact h4 z hz
      · rw [List.mem_singleton.mp hz]
        exact hx
    · rw [upd_ne (ne_of_none ho hD)]
      exact k2 _ _ hc (h6 _ _ hc ho)
  · obtain ⟨ys, xs, h1, h2, h3, h4, h5, h6⟩ := pv
    exact fin H' ys xs h1 h2 h3 h4 h5 h6
theorem rel_str {ys : List V} {zs : List Str} (h : Rel (fun v s => v = V.str s) ys zs) : ys = zs.map V.str := by
  refine List.ext_getElem (by rw [h.1, List.length_map]) fun i h1 h2 => ?_
  rw [List.getElem_map]
  rw [List.length_map] at h2
  exact h.2 i _ _ (List.getElem?_eq_getElem h1) (List.getElem?_eq_getElem h2)
theorem foldl_mem (a : Array Nat) : ∀ (n : Nat) (acc : Array Nat) (c : Nat), c ∈ ((List.replicate n a).foldl (· ++ ·) acc).toList → c ∈ acc.toList ∨ c ∈ a.toList
  | 0, acc, c, h => .inl h
  | n + 1, acc, c, h => by
    rw [List.replicate_succ, List.foldl_cons] at h
    rcases foldl_mem a n (acc ++ a) c h with h | h
    · rw [Array.toList_append] at h
      exact List.mem_append.mp h
    · exact .inr h
theorem repS_mem {z : Str} {n c : Nat} (h : c ∈ tl (repS z n)) : c ∈ tl z := by
  unfold repS at h
  split at h
  · have : tl Str.empty = [] := rfl
    rw [this] at h
    cases h
  · split at h
    · exact h
    · rcases foldl_mem z.cps n #[] c h with h | h
      · cases h
      · exact h
theorem pf_stab : ∀ (H H' : Hp) v x, PfAt H v x → (∀ b xs, H b = some (.tup xs) → H' b = some (.tup xs)) → PfAt H' v x := fun H H' v x h k => by
  obtain ⟨t, rfl, ht⟩ := h
  exact ⟨t, rfl, k _ _ ht⟩
theorem FsAt.keepB {p l : Addr} {H H' : Hp} {fs : Fs} (h : FsAt H l fs) (k : Keep p H H') (b : Bg H p) (n : l ≠ p) : FsAt H' l fs := h.keep k b.has n
def patS : Str := "abcdefghijklmnopqrstuvwxyz0123456789/-."
def Asc (z : Str) : Prop := ∀ c ∈ tl z, c < 128
def okT (z : Str) : Prop := z.length ≤ 300 ∧ Asc z
instance (z : Str) : Decidable (Asc z) := by unfold Asc; infer_instance
instance (z : Str) : Decidable (okT z) := by unfold okT; infer_instance
theorem Asc.ok {z : Str} (h : Asc z) : PyData.strOk z = true := ok_text h
theorem asc_in {z s : Str} (hs : ∀ c ∈ tl s, c < 128) (h : allIn z s = true) : Asc z := fun c hc => hs c (of_decide_eq_true (List.all_eq_true.mp h c hc))
theorem name_t {z : Str} (h : nameB z = true) : z.length ≤ 30 ∧ Asc z := by
  unfold nameB wordB at h
  simp only [Bool.and_eq_true, decide_eq_true_eq] at h
  exact ⟨by omega, asc_in (by decide +kernel) h.1.2.2⟩
theorem value_t {z : Str} (h : valueB z = true) : z.length ≤ 200 ∧ Asc z := by
  unfold valueB at h
  simp only [Bool.and_eq_true, decide_eq_true_eq] at h
  exact ⟨by omega, asc_in signs_lt h.2.1⟩
theorem asc_app {a b : Str} (h1 : Asc a) (h2 : Asc b) : Asc (a ++ b) := fun c hc => by
  rw [tl_append] at hc
  exact (List.mem_append.mp hc).elim (h1 c) (h2 c)
theorem rv_rep {H : Hp} {z : Str} {i : Int} (h0 : 0 ≤ i) (h1 : i ≤ 1000) (hz : z.length ≤ 1000) : RV rRepStr (.str z) (.int i) H (.str (repS z i.toNat)) := fun H1 _ _ q => ⟨z, i, rfl, rfl, h0, h1, hz, q H1 (Ex.refl H1)⟩
theorem s_asgSub {te ta tb : TE} {σ : L2.St} {H : Hp} {D : Ends} (h : te σ H fun v H1 => ta σ H1 fun o H2 => tb σ H2 fun i H3 => rSetL o i v H3 fun H4 => D.nx σ H4) : tAsg te (gSub ta tb rSetL) D σ H := h
def spOf : Sp := fun vs H Q _ => ∃ p n x, vs = [.ref p, .str n, .str x] ∧ Bg H p ∧ n.length ≤ 250 ∧ Asc n ∧ x.length ≤ 250 ∧ Asc x ∧ ∀ t n' x' H', H' t = some (.tup [.str n', .str x']) → okT n' → okT x' → Bg H' p → Keep p H H' → Q (.ref t) H'
def spFi : Sp := fun vs H Q _ => ∃ (p qn : Addr) (ns : List Str), vs = [.ref p, .ref qn] ∧ Bg H p ∧ qn ≠ p ∧ H qn = some (.lst (ns.map V.str)) ∧ 1 ≤ ns.length ∧ ns.length ≤ 3 ∧ (∀ t ∈ ns, nameB t = true) ∧
  ∀ (l : Addr) (fs : Fs) (H' : Hp), H l = none → FsAt H' l fs → smallF fs → okS fs → l ≠ p → Bg H' p → Keep p H H' → Q (.ref l) H'
def spWd0 : Sp := fun vs H Q _ => ∃ (p qn : Addr) (ns : List Str), vs = [.ref p, .ref qn] ∧ Bg H p ∧ qn ≠ p ∧ H qn = some (.lst (ns.map V.str)) ∧ 1 ≤ ns.length ∧ ns.length ≤ 3 ∧ (∀ t ∈ ns, nameB t = true) ∧
  ∀ (v : V) (w : Wl) (l : Addr) (H' : Hp), WlAt H' v w l → smallW w → Asc w.p → okS w.fs → v ≠ .ref p → l ≠ p → Bg H' p → Keep p H H' → Q v H'
theorem Rel.set {R : V → Str × Str → Prop} {xs : List V} {fs : Fs} {j : Nat} {v : V} {o : Str × Str} (h : Rel R xs fs) (hv : R v o) : Rel R (xs.set j v) (fs.set j o) := by
  refine ⟨by rw [List.length_set, List.length_set, h.1], fun i x y hx hy => ?_⟩
  rw [List.getElem?_set] at hx hy
  split at hx
  · rename_i e
    rw [if_pos e] at hy
    subst e
    split at hx
    · cases hx
      rw [if_pos (by rw [← h.1]; assumption)] at hy
      cases hy
      exact hv
    · cases hx
  · rename_i e
    rw [if_neg e] at hy
    exact h.2 i x y hx hy
theorem FsAt.nbag {l p : Addr} {H : Hp} {fs : Fs} (h : FsAt H l fs) (b : Bg H p) : l ≠ p := fun e => by
  obtain ⟨xs, hx, hr⟩ := h
  obtain ⟨c0, cv, c2, hb, _⟩ := b
  rw [e, hb] at hx
  cases hx
  cases fs with
  | nil => cases hr.1
  | cons x r =>
    obtain ⟨t, ht, _⟩ := hr.2 0 _ x rfl rfl
    cases ht
theorem FsAt.keepF {p l : Addr} {H H' : Hp} {fs : Fs} (h : FsAt H l fs) (k : Keep p H H') (b : Bg H p) : FsAt H' l fs := h.keep k b.has (h.nbag b)
section
variable {P : Program} {w : World} {K : PySem.W.Frag} {mg : Str → Option Value} {base : Heap} {f : Addr} {fd : FuncData} {k : Nat}
theorem ok_law_odd_field (T : Mg mg) (c_law_draw : CDr P w K mg base) (c_law_pick : CPk P w K mg base) (F : FnP K "_law_odd_field" s_law_odd_field f fd) (gm : mg "_law_odd_field" = some (.ref f)) : Call P w K mg base 3 "_law_odd_field" ["bag", "name", "value"] spOf := by
  refine mk F gm (fun _ _ _ _ _ _ us hl => match us, hl with | [_, _, _], _ => rfl) (fun _ _ _ _ _ _ us hl => match us, hl with | [_, _, _], _ => rfl) sc_law_odd_field (fun vs H Q E h => ?_) (fun cdv A outer s H vs Q E hr h => ?_)
  · obtain ⟨p, n, x, rfl, _⟩ := h
    rfl
  · obtain ⟨p, n, x, rfl, b, n1, n2, x1, x2, q⟩ := h
    refine ⟨_, (pss_cons (ps_set (i := 3) sc_law_odd_field.nd rfl (Or.inl rfl) (pe_f c_law_draw hr (by decide) rfl (pa_cons (pv 0) (pa_cons pe_int pa_nil))))
    (pss_cons (ps_if (pt_cmpR op_eq (pv 3) pe_int (nomark _))
      (pss_cons (ps_set (i := 4) sc_law_odd_field.nd rfl (Or.inl rfl) (pe_lst (pa_cons pe_str (pa_cons pe_str (pa_cons pe_str (pa_cons pe_str (pa_cons pe_str (pa_cons pe_str (pa_cons pe_str (pa_cons pe_str (pa_cons pe_str (pa_cons (pe_op oz_rep pe_str pe_int) (pa_cons (pe_op oz_rep pe_str pe_int) (pa_cons pe_str (pa_cons (pe_op oz_add pe_str (pv 1)) pa_nil)))))))))))))))
      (pss_one (ps_ret (pe_tup (pa_cons (pe_f c_law_pick hr (by decide) rfl (pa_cons (pv 0) (pa_cons (pv 4) pa_nil))) (pa_cons (pv 2) pa_nil))))))
      pss_nil)
    (pss_cons (ps_set (i := 5) sc_law_odd_field.nd rfl (Or.inl rfl) (pe_lst (pa_cons pe_str (pa_cons pe_str (pa_cons pe_str (pa_cons pe_str (pa_cons pe_str (pa_cons pe_str (pa_cons pe_str (pa_cons (pe_op oz_rep pe_str pe_int) (pa_cons (pe_op oz_rep pe_str pe_int) (pa_cons pe_str (pa_cons pe_str (pa_cons (pe_op oz_add pe_str (pv 2)) pa_nil))))))))))))))
    (pss_one (ps_ret (pe_tup (pa_cons (pv 1) (pa_cons (pe_f c_law_pick hr (by decide) rfl (pa_cons (pv 0) (pa_cons (pv 5) pa_nil))) pa_nil)))))))), ?_⟩
    have la : ("a" : Str).length = 1 := by decide +kernel
    have aa : Asc ("a" : Str) := by decide +kernel
    refine q_asgR (rd_dr (Q := fun v H => _) (ea_cons (ev_var rfl) (ea_cons ev_c ea_nil)) b (by decide) (by decide) fun way H1 d0 d1 b1 k1 => ?_)
    refine q_when (et_test (ev_op (ev_var rfl) ev_c rv_eqI)) (fun _ H2 e2 => ?_) (fun _ H2 e2 => ?_)
    · refine q_asgL (xs := [("length" : Str), "", "A", "1a", "-a", "a_b", "a b", "a:", "Length", repS "n" 30, repS "n" 31, "a\n", "a" ++ n].map V.str) (el_lst (ea_cons ev_c (ea_cons ev_c (ea_cons ev_c (ea_cons ev_c (ea_cons ev_c (ea_cons ev_c (ea_cons ev_c (ea_cons ev_c (ea_cons ev_c (ea_cons (ev_op ev_c ev_c (rv_rep (by decide) (by decide) (by decide +kernel))) (ea_cons (ev_op ev_c ev_c (rv_rep (by decide) (by decide) (by decide +kernel))) (ea_cons ev_c (ea_cons (ev_op ev_c (ev_var rfl) (rv_addS (by omega))) ea_nil))))))))))))) (by show 13 ≤ 100000; decide)) fun lp H3 nl e3 hl => ?_
      have b3 := b1.ex (e2.trans e3)
      refine g_ret (rd_call (Q := fun v H => _) (ea_cons (ev_var rfl) (ea_cons (ev_var rfl) ea_nil)) fun H4 e4 => ⟨p, lp, _, rfl, b3.ex e4, (b1.ex e2).ne nl, e4 _ _ hl, by show 1 ≤ 13; decide, by show 13 ≤ 1000; decide, fun v H5 hv b5 k5 => ?_⟩)
      obtain ⟨y, rfl, hy⟩ := strs_in hv
      have hyt : okT y := by
        have hc : ∀ y ∈ [("length" : Str), "", "A", "1a", "-a", "a_b", "a b", "a:", "Length", repS "n" 30, repS "n" 31, "a\n"], okT y := by decide +kernel
        rcases List.mem_append.mp (show y ∈ [("length" : Str), "", "A", "1a", "-a", "a_b", "a b", "a:", "Length", repS "n" 30, repS "n" 31, "a\n"] ++ ["a" ++ n] from hy) with hy | hy
        · exact hc y hy
        · rw [List.mem_singleton.mp hy]
          exact ⟨by rw [Str.length_append]; omega, asc_app aa n2⟩
      refine ⟨.str x, rfl, by show 2 ≤ sizeLine; decide, fun t nt => ?_⟩
      exact q t y x _ upd_same hyt ⟨by omega, x2⟩ (b5.upd (b5.ne nt)) (((k1.trans (Keep.of (e2.trans (e3.trans e4)))).trans k5).trans (Keep.of (Ex.new nt)))
    · refine q_asgL (xs := [(" " : Str), " a", "a ", "a\n", "\n", "\t", "a\tb", repS "v" 200, repS "v" 201, "a  b", "", "a" ++ x].map V.str) (el_lst (ea_cons ev_c (ea_cons ev_c (ea_cons ev_c (ea_cons ev_c (ea_cons ev_c (ea_cons ev_c (ea_cons ev_c (ea_cons (ev_op ev_c ev_c (rv_rep (by decide) (by decide) (by decide +kernel))) (ea_cons (ev_op ev_c ev_c (rv_rep (by decide) (by decide) (by decide +kernel))) (ea_cons ev_c (ea_cons ev_c (ea_cons (ev_op ev_c (ev_var rfl) (rv_addS (by omega))) ea_nil)))))))))))) (by show 12 ≤ 100000; decide)) fun lp H3 nl e3 hl => ?_
      have b3 := b1.ex (e2.trans e3)
      refine g_ret ⟨.str n, rfl, rd_call (Q := fun v H => _) (ea_cons (ev_var rfl) (ea_cons (ev_var rfl) ea_nil)) fun H4 e4 => ⟨p, lp, _, rfl, b3.ex e4, (b1.ex e2).ne nl, e4 _ _ hl, by show 1 ≤ 12; decide, by show 12 ≤ 1000; decide, fun v H5 hv b5 k5 => ?_⟩⟩
      obtain ⟨y, rfl, hy⟩ := strs_in hv
      have hyt : okT y := by
        have hc : ∀ y ∈ [(" " : Str), " a", "a ", "a\n", "\n", "\t", "a\tb", repS "v" 200, repS "v" 201, "a  b", ""], okT y := by decide +kernel
        rcases List.mem_append.mp (show y ∈ [(" " : Str), " a", "a ", "a\n", "\n", "\t", "a\tb", repS "v" 200, repS "v" 201, "a  b", ""] ++ ["a" ++ x] from hy) with hy | hy
        · exact hc y hy
        · rw [List.mem_singleton.mp hy]
          exact ⟨by rw [Str.length_append]; omega, asc_app aa x2⟩
      refine ⟨by show 2 ≤ sizeLine; decide, fun t nt => ?_⟩
      exact q t n y _ upd_same ⟨by omega, n2⟩ hyt (b5.upd (b5.ne nt)) (((k1.trans (Keep.of (e2.trans (e3.trans e4)))).trans k5).trans (Keep.of (Ex.new nt)))
theorem ok_law_fields (T : Mg mg) (c_law_draw : CDr P w K mg base) (c_law_pick : CPk P w K mg base) (c_law_value : Call P w K mg base 3 "_law_value" ["bag"] spVl) (c_law_odd_field : Call P w K mg base 3 "_law_odd_field" ["bag", "name", "value"] spOf) (F : FnP K "_law_fields" s_law_fields f fd) (gm : mg "_law_fields" = some (.ref f)) : Call P w K mg base 4 "_law_fields" ["bag", "names"] spFi := by
  refine mk F gm (fun _ _ _ _ _ _ us hl => match us, hl with | [_, _], _ => rfl) (fun _ _ _ _ _ _ us hl => match us, hl with | [_, _], _ => rfl) sc_law_fields (fun vs H Q E h => ?_) (fun cdv A outer s H vs Q E hr h => ?_)
  · obtain ⟨p, qn, ns, rfl, _⟩ := h
    rfl
  · obtain ⟨p, qn, ns, rfl, b, nqp, hqn, hn1, hn3, hns, q⟩ := h
    refine ⟨_, (pss_cons (ps_set (i := 2) sc_law_fields.nd rfl (Or.inl rfl) (pe_f c_law_pick hr (by decide) rfl (pa_cons (pv 0) (pa_cons (pe_lst (pa_cons pe_int (pa_cons pe_int (pa_cons pe_int (pa_cons pe_int (pa_cons pe_int pa_nil)))))) pa_nil))))
    (pss_cons (ps_if (pt_cmpR op_eq (pe_f c_law_draw hr (by decide) rfl (pa_cons (pv 0) (pa_cons pe_int pa_nil))) pe_int (nomark _))
      (pss_one (ps_set (i := 2) sc_law_fields.nd rfl (Or.inl rfl) (pe_op op_add pe_int (pe_f c_law_draw hr (by decide) rfl (pa_cons (pv 0) (pa_cons pe_int pa_nil))))))
      pss_nil)
    (pss_cons (ps_setLc (i := 3) (own := [("k", 4)]) (g := gName 4) (tt := tYes) rfl sc_law_fields.nd rfl rfl (sw_true rfl rfl rfl (by decide +kernel)) (pi_range1 rfl T.range (pa_cons (pv 2) pa_nil)) (blkOk_by (N := ["bag", "names", "count", "fields", "k", "at"]) (sc := L2.defScope s_law_fields) (by decide +kernel)) (fun _ _ _ _ _ => pg_name (i := 4) sc_law_fields.nd rfl (Or.inl rfl)) (fun _ _ _ _ _ => pts_nil) (fun _ _ _ _ _ => (pe_tup (pa_cons (pe_f c_law_pick hr (by decide) rfl (pa_cons (pv 0) (pa_cons (pv 1) pa_nil))) (pa_cons (pe_f c_law_value hr (by decide) rfl (pa_cons (pv 0) pa_nil)) pa_nil)))))
    (pss_cons (ps_if (PW.pt (pw_and (pt_cmpR op_eq (pe_f c_law_draw hr (by decide) rfl (pa_cons (pv 0) (pa_cons pe_int pa_nil))) pe_int (nomark _)) (pw_and1 (pt_cmpR op_gt (pv 2) pe_int (nomark _)))))
      (pss_cons (ps_set (i := 5) sc_law_fields.nd rfl (Or.inl rfl) (pe_f c_law_draw hr (by decide) rfl (pa_cons (pv 0) (pa_cons (pv 2) pa_nil))))
      (pss_one (ps_asg (pe_f c_law_odd_field hr (by decide) rfl (pa_cons (pv 0) (pa_cons (pe_ix ix_tup (pe_ix ix_list (pv 3) (pv 5) (fun _ _ => rfl)) pe_int (fun _ _ => rfl)) (pa_cons (pe_ix ix_tup (pe_ix ix_list (pv 3) (pv 5) (fun _ _ => rfl)) pe_int (fun _ _ => rfl)) pa_nil)))) (pg_sub (pv 3) (pv 5) set_list))))
      pss_nil)
    (pss_one (ps_ret (pv 3))))))), ?_⟩
    refine q_asgR (rd_pk (Q := fun v H => _) (xs := [2, 1, 0, 3, 4].map V.int) (ev_var rfl) (el_lst (ea_cons ev_c (ea_cons ev_c (ea_cons ev_c (ea_cons ev_c (ea_cons ev_c ea_nil))))) (by decide)) b (by decide) (by decide) fun v H2 hv b2 k2 => ?_)
    obtain ⟨c0, rfl, hc0⟩ := ints_in hv
    have hc3 : 0 ≤ c0 ∧ c0 ≤ 50 := by
      simp only [List.mem_cons, List.not_mem_nil, or_false] at hc0
      omega
    refine q_tailIf (fun σ1 Hx => ∃ cn : Int, σ1 = [some (.ref p), some (.ref qn), some (.int cn), none, none, none] ∧ 0 ≤ cn ∧ cn ≤ 50 ∧ Bg Hx p ∧ Keep p H Hx) (fun σ1 H3 hR => ?_) (fun tail => ?_)
    · obtain ⟨cn, rfl, cn0, cn1, b3, k3⟩ := hR
      refine q_asgR ((ev_var rfl : Ev (tVar 2) _ _ (.int cn)) H3 (Ex.refl H3) _ fun H4 e4 => ⟨cn, rfl, by omega, by omega, fun D hD => ?_⟩)
      have b4 := b3.ex e4
      have k4 := k3.trans (Keep.of e4)
      have hDp : D ≠ p := b4.ne hD
      have hD0 : H D = none := by
        cases hq : H D with
        | none => rfl
        | some o => rw [k4 D o hDp hq] at hD; cases hD
      refine lc_bg (α := Str × Str) PfAt (fun x => fieldB x = true) pf_stab hD b4 (by omega) (fun _ => rfl) (fun i H5 hi b5 k5 kk hk => ?_) (fun H5 ys fs hd hr hl ho b5 k5 => ?_)
      · have hq5 : H5 qn = some (.lst (ns.map V.str)) := k5 _ _ nqp (k4 _ _ nqp hqn)
        refine rd_call (Q := fun v H => _) (ea_cons (ev_var rfl) (ea_cons (ev_var rfl) ea_nil)) fun H6 e6 => ⟨p, qn, ns.map V.str, rfl, b5.ex e6, nqp, e6 _ _ hq5, by rw [List.length_map]; exact hn1, by rw [List.length_map]; omega, fun v H7 hv b7 k7 => ?_⟩
        obtain ⟨x, rfl, hx⟩ := strs_in hv
        refine rd_call (Q := fun v H => _) (ea_cons (ev_var rfl) ea_nil) fun H8 e8 => ⟨p, rfl, b7.ex e8, fun y H9 hy b9 k9 => ⟨by show 2 ≤ sizeLine; decide, fun t nt => ?_⟩⟩
        refine hk (.ref t) (x, y) _ ⟨t, rfl, upd_same⟩ (by unfold fieldB; rw [hns x hx, hy]; rfl) (b9.upd (b9.ne nt)) ?_
        exact ((Keep.of e6).trans (k7.trans ((Keep.of e8).trans k9))).trans (Keep.of (Ex.new nt))
      · have hlen : fs.length = cn.toNat := hl
        have t0 : ∀ x ∈ fs, x.1.length ≤ 30 ∧ Asc x.1 ∧ x.2.length ≤ 200 ∧ Asc x.2 := fun x hx => by
          obtain ⟨g1, g2⟩ := Bool.and_eq_true_iff.mp (ho x hx)
          exact ⟨(name_t g1).1, (name_t g1).2, (value_t g2).1, (value_t g2).2⟩
        have sm : smallF fs := ⟨by omega, fun x hx => by obtain ⟨g1, g2, g3, g4⟩ := t0 x hx; exact ⟨by omega, by omega⟩⟩
        have ok : okS fs := fun x hx => by obtain ⟨g1, g2, g3, g4⟩ := t0 x hx; exact ⟨g2.ok, g4.ok⟩
        have k45 := k4.trans k5
        have fin : ∀ (fs' : Fs) (σ : L2.St) (H6 : Hp), σ[3]? = some (some (.ref D)) → FsAt H6 D fs' → smallF fs' → okS fs' → Bg H6 p → Keep p H H6 → ∀ (D0 : Ends), D0.rt = Q → tRet (tVar 3) D0 σ H6 := fun fs' σ H6 h3 hf hs hk hb kk D0 hD0' => by
          refine g_ret ((ev_var h3) H6 (Ex.refl H6) _ fun H7 e7 => ?_)
          rw [hD0']
          exact q D fs' H7 hD0 (hf.ex e7) hs hk hDp (hb.ex e7) (kk.trans (Keep.of e7))
        refine q_tailIf (fun σ1 Hx => ∃ v4 fs', σ1 = [some (.ref p), some (.ref qn), some (.int cn), some (.ref D), none, v4] ∧ FsAt Hx D fs' ∧ smallF fs' ∧ okS fs' ∧ Bg Hx p ∧ Keep p H Hx) (fun σ1 H6 hR => ?_) (fun tail => ?_)
        · obtain ⟨v4, fs', rfl, f6, s6, o6, b6, k6⟩ := hR
          exact fin fs' _ H6 rfl f6 s6 o6 b6 k6 _ rfl
        · refine rd_dr (Q := fun v H => _) (ea_cons (ev_var rfl) (ea_cons ev_c ea_nil)) b5 (by decide) (by decide) fun d H6 d0 d1 b6 k6 => ?_
          have f6 : FsAt H6 D fs := FsAt.keepF ⟨ys, hd, hr⟩ k6 b5
          have k06 := k45.trans k6
          refine ⟨rfl, _, rfl, ite2 (fun _ => ?_) (fun _ => ?_)⟩
          · refine (et_test (b := decide (cn > 0)) (ev_op (ev_var rfl) ev_c rv_I0)) H6 (Ex.refl H6) _ fun H7 e7 => ite2 (fun hc => ?_) (fun _ => ?_)
            · have hc : cn > 0 := of_decide_eq_true hc
              refine q_asgR (rd_dr (Q := fun v H => _) (ea_cons (ev_var rfl) (ea_cons (ev_var rfl) ea_nil)) (b6.ex e7) (by omega) (by omega) fun at_ H8 a0 a1 b8 k8 => ?_)
              have f8 : FsAt H8 D fs := FsAt.keepF (f6.ex e7) k8 (b6.ex e7)
              obtain ⟨xs8, hx8, hr8⟩ := id f8
              obtain ⟨j, rfl⟩ := Int.eq_ofNat_of_zero_le a0
              have hj : j < fs.length := by omega
              obtain ⟨x, hx, o, ho, hxo⟩ : ∃ x, xs8[j]? = some x ∧ ∃ o, fs[j]? = some o ∧ PfAt H8 x o := by
                have hj8 : j < xs8.length := by rw [hr8.1]; exact hj
                obtain ⟨o, ho, hro⟩ := hr8.get (List.getElem?_eq_getElem hj8)
                exact ⟨_, List.getElem?_eq_getElem hj8, o, ho, hro⟩
              obtain ⟨t, rfl, ht⟩ := hxo
              obtain ⟨g1, g2, g3, g4⟩ := t0 o (List.mem_of_getElem? ho)
              refine s_asgSub ?_
              refine rd_call (Q := fun v H => _) (ea_cons (ev_var rfl) (ea_cons (ev_ixT (ev_ixL (ev_var rfl) (ev_var rfl) hx8 (atI_nat hx)) ev_c ht (atI_nat (j := 0) rfl)) (ea_cons (ev_ixT (ev_ixL (ev_var rfl) (ev_var rfl) hx8 (atI_nat hx)) ev_c ht (atI_nat (j := 1) rfl)) ea_nil))) fun H9 e9 => ⟨p, o.1, o.2, rfl, b8.ex e9, by omega, g2, by omega, g4, fun t' n' x' H10 ht' hn' hx' b10 k10 => ?_⟩
              have k810 := (Keep.of (p := p) e9).trans k10
              obtain ⟨xs10, hx10, hr10⟩ := FsAt.keepF f8 k810 b8
              have hj10 : j < xs10.length := by rw [hr10.1]; exact hj
              refine ⟨.ref D, rfl, .int (j : Int), rfl, D, xs10, (j : Int), j, rfl, rfl, hx10, ixN_nat hj10, ?_⟩
              have nD : ∀ b o', H10 b = some o' → (∀ ys, o' ≠ .lst ys) → b ≠ D := fun b o' hb hn e => by rw [e, hx10] at hb; cases hb; exact hn _ rfl
              refine tail _ _ ⟨some (.int (j : Int)), fs.set j (n', x'), rfl, ⟨xs10.set j (.ref t'), upd_same, Rel.set (hr10.mono fun v y m => ?_) ⟨t', rfl, ?_⟩⟩, ⟨by rw [List.length_set]; exact sm.1, fun y hy => ?_⟩, fun y hy => ?_, b10.upd hDp, ?_⟩
              · obtain ⟨tt, rfl, htt⟩ := m
                exact ⟨tt, rfl, by rw [upd_ne (nD _ _ htt (fun _ h => nomatch h))]; exact htt⟩
              · rw [upd_ne (nD _ _ ht' (fun _ h => nomatch h))]
                exact ht'
              · rcases List.mem_or_eq_of_mem_set hy with hy | rfl
                · exact sm.2 y hy
                · exact ⟨hn'.1, hx'.1⟩
              · rcases List.mem_or_eq_of_mem_set hy with hy | rfl
                · exact ok y hy
                · exact ⟨hn'.2.ok, hx'.2.ok⟩
              · have kk := k06.trans ((Keep.of e7).trans (k8.trans k810))
                exact fun c oo hc ho => by rw [upd_ne (ne_of_none ho hD0)]; exact kk c oo hc ho
            · exact tail _ _ ⟨none, fs, rfl, f6.ex e7, sm, ok, b6.ex e7, k06.trans (Keep.of e7)⟩
          · exact iteF (tail _ _ ⟨none, fs, rfl, f6, sm, ok, b6, k06⟩)
    · refine rd_dr (Q := fun v H => _) (ea_cons (ev_var rfl) (ea_cons ev_c ea_nil)) b2 (by decide) (by decide) fun d H3 d0 d1 b3 k3 => ?_
      refine ⟨rfl, _, rfl, ite2 (fun _ => ?_) (fun _ => ?_)⟩
      · refine s_asgR (rd_dr (Q := fun v H => _) (ea_cons (ev_var rfl) (ea_cons ev_c ea_nil)) b3 (by decide) (by decide) fun d' H4 d0' d1' b4 k4 => ⟨38, d', rfl, rfl, ?_⟩)
        exact tail _ _ ⟨38 + d', rfl, by omega, by omega, b4, (k2.trans k3).trans k4⟩
      · exact tail _ _ ⟨c0, rfl, hc3.1, hc3.2, b3, k2.trans k3⟩
end
end Z
set_option maxHeartbeats 4000000
namespace Z
open PySem PySem.Spec PyProof.Rows L2 TL Evl NdefX
theorem s_ifAnd {ta tb : TT} {u w : TS} {D : Ends} {σ : L2.St} {H : Hp} {a : Bool} (h : EvT ta σ H a) (k1 : a = true → ∀ H1, Ex H H1 → tb σ H1 fun c H2 => if c = true then u D σ H2 else w D σ H2) (k0 : a = false → ∀ H1, Ex H H1 → w D σ H1) : tIfS (tAnd ta tb) u w D σ H := by
  unfold tIfS tAnd
  refine h H (Ex.refl H) _ fun H1 e1 => ?_
  cases a with
  | true =>
    rw [if_pos rfl]
    exact k1 rfl H1 e1
  | false =>
    rw [if_neg Bool.false_ne_true]
    exact iteF (k0 rfl H1 e1)
theorem repS_lenB (n : Nat) : (repS ("b" : Str) n).length = n := by
  rw [repS_len, show ("b" : Str).length = 1 by decide +kernel, Nat.mul_one]
section
variable {P : Program} {w : World} {K : PySem.W.Frag} {mg : Str → Option Value} {base : Heap} {f : Addr} {fd : FuncData} {k : Nat}
theorem ok_law_world (T : Mg mg) (c_law_draw : CDr P w K mg base) (c_law_pick : CPk P w K mg base) (c_law_most : CMo P w K mg base) (c_law_word : CWd P w K mg base) (c_law_letters : Call P w K mg base 1 "_law_letters" [] (sp0 (.str letters))) (c_law_signs : Call P w K mg base 1 "_law_signs" [] (sp0 (.str signs)))
    (c_law_statuses : Call P w K mg base 1 "_law_statuses" [] (fun vs H Q _ => vs = [] ∧ RetL (stL.map V.str) H Q)) (c_law_may : Call P w K mg base 1 "_law_may" ["side", "first"] spMy) (c_law_fields : Call P w K mg base 4 "_law_fields" ["bag", "names"] spFi)
    (F : FnP K "_law_world" s_law_world f fd) (gm : mg "_law_world" = some (.ref f)) : Call P w K mg base 5 "_law_world" ["bag", "names"] spWd0 := by
  refine mk F gm (fun _ _ _ _ _ _ us hl => match us, hl with | [_, _], _ => rfl) (fun _ _ _ _ _ _ us hl => match us, hl with | [_, _], _ => rfl) sc_law_world (fun vs H Q E h => ?_) (fun cdv A outer s H vs Q E hr h => ?_)
  · obtain ⟨p, qn, ns, rfl, _⟩ := h
    rfl
  · obtain ⟨p, qn, ns, rfl, b, nqp, hqn, hn1, hn3, hns, q⟩ := h
    refine ⟨_, (pss_cons (ps_set (i := 2) sc_law_world.nd rfl (Or.inl rfl) (pe_f c_law_pick hr (by decide) rfl (pa_cons (pv 0) (pa_cons (pe_lst (pa_cons pe_str (pa_cons pe_str pa_nil))) pa_nil))))
    (pss_cons (ps_set (i := 3) sc_law_world.nd rfl (Or.inl rfl) (pe_op oz_add pe_str (pe_f c_law_word hr (by decide) rfl (pa_cons (pv 0) (pa_cons (pe_op oz_add (pe_f0 c_law_letters hr (by decide) rfl) pe_str) (pa_cons pe_int (pa_cons (pe_f c_law_most hr (by decide) rfl (pa_cons (pv 0) (pa_cons pe_int (pa_cons pe_int pa_nil)))) pa_nil)))))))
    (pss_cons (ps_if (pt_cmpR op_eq (pv 2) pe_str (nomark _))
      (pss_cons (ps_set (i := 4) sc_law_world.nd rfl (Or.inl rfl) (pe_f c_law_pick hr (by decide) rfl (pa_cons (pv 0) (pa_cons (pe_lst (pa_cons pe_str (pa_cons pe_str (pa_cons pe_str pa_nil)))) pa_nil))))
      (pss_one (ps_set (i := 5) sc_law_world.nd rfl (Or.inl rfl) (pe_lst (pa_cons pe_str (pa_cons pe_str (pa_cons pe_str (pa_cons pe_str (pa_cons pe_str (pa_cons pe_str (pa_cons pe_str (pa_cons pe_str pa_nil))))))))))))
      (pss_cons (ps_set (i := 4) sc_law_world.nd rfl (Or.inl rfl) (pe_f c_law_pick hr (by decide) rfl (pa_cons (pv 0) (pa_cons (pe_f0 c_law_statuses hr (by decide) rfl) pa_nil))))
      (pss_one (ps_set (i := 5) sc_law_world.nd rfl (Or.inl rfl) (pe_lst (pa_cons pe_str (pa_cons pe_str (pa_cons pe_str (pa_cons pe_str (pa_cons pe_str (pa_cons pe_str (pa_cons pe_str (pa_cons pe_str pa_nil)))))))))))))
    (pss_cons (ps_if (pt_cmpR op_eq (pe_f c_law_draw hr (by decide) rfl (pa_cons (pv 0) (pa_cons pe_int pa_nil))) pe_int (nomark _))
      (pss_one (ps_set (i := 4) sc_law_world.nd rfl (Or.inl rfl) (pe_f c_law_pick hr (by decide) rfl (pa_cons (pv 0) (pa_cons (pv 5) pa_nil)))))
      pss_nil)
    (pss_cons (ps_if (pt_cmpR op_eq (pe_f c_law_draw hr (by decide) rfl (pa_cons (pv 0) (pa_cons pe_int pa_nil))) pe_int (nomark _))
      (pss_cons (ps_set (i := 5) sc_law_world.nd rfl (Or.inl rfl) (pe_lst (pa_cons pe_str (pa_cons pe_str (pa_cons pe_str (pa_cons pe_str (pa_cons pe_str (pa_cons pe_str (pa_cons pe_str (pa_cons pe_str (pa_cons (pe_slice sl_str (pv 3) (po_some pe_int) po_none) (pa_cons (pe_op oz_add pe_str (pe_op oz_rep pe_str pe_int)) (pa_cons (pe_op oz_add pe_str (pe_op oz_rep pe_str pe_int)) pa_nil)))))))))))))
      (pss_one (ps_set (i := 3) sc_law_world.nd rfl (Or.inl rfl) (pe_f c_law_pick hr (by decide) rfl (pa_cons (pv 0) (pa_cons (pv 5) pa_nil))))))
      pss_nil)
    (pss_cons (ps_set (i := 6) sc_law_world.nd rfl (Or.inl rfl) (pe_f c_law_fields hr (by decide) rfl (pa_cons (pv 0) (pa_cons (pv 1) pa_nil))))
    (pss_cons (ps_set (i := 7) sc_law_world.nd rfl (Or.inl rfl) (pe_op oz_add (pe_f c_law_pick hr (by decide) rfl (pa_cons (pv 0) (pa_cons (pe_lst (pa_cons pe_str (pa_cons pe_str (pa_cons pe_str (pa_cons pe_str (pa_cons pe_str pa_nil)))))) pa_nil))) (pe_f c_law_word hr (by decide) rfl (pa_cons (pv 0) (pa_cons (pe_op oz_add (pe_f0 c_law_signs hr (by decide) rfl) pe_str) (pa_cons pe_int (pa_cons pe_int pa_nil)))))))
    (pss_cons (ps_if (PW.pt (pw_and (pt_not (pt_val (pe_f c_law_may hr (by decide) rfl (pa_cons (pv 2) (pa_cons (pv 4) pa_nil))))) (pw_and1 (pt_cmpR op_ne (pe_f c_law_draw hr (by decide) rfl (pa_cons (pv 0) (pa_cons pe_int pa_nil))) pe_int (nomark _)))))
      (pss_one (ps_set (i := 7) sc_law_world.nd rfl (Or.inl rfl) pe_str))
      pss_nil)
    (pss_cons (ps_if (pt_cmpR op_eq (pe_f c_law_draw hr (by decide) rfl (pa_cons (pv 0) (pa_cons pe_int pa_nil))) pe_int (nomark _))
      (pss_one (ps_set (i := 7) sc_law_world.nd rfl (Or.inl rfl) (pe_f c_law_pick hr (by decide) rfl (pa_cons (pv 0) (pa_cons (pe_lst (pa_cons pe_str (pa_cons pe_str (pa_cons pe_str (pa_cons pe_str (pa_cons (pe_op oz_add (pv 7) pe_str) pa_nil)))))) pa_nil)))))
      pss_nil)
    (pss_cons (ps_if (pt_cmpR op_eq (pe_f c_law_draw hr (by decide) rfl (pa_cons (pv 0) (pa_cons pe_int pa_nil))) pe_int (nomark _))
      (pss_one (ps_set (i := 7) sc_law_world.nd rfl (Or.inl rfl) (pe_op op_repW pe_str (pe_op op_add pe_int (pe_f c_law_draw hr (by decide) rfl (pa_cons (pv 0) (pa_cons pe_int pa_nil)))))))
      pss_nil)
    (pss_one (ps_ret (pe_lst (pa_cons (pv 2) (pa_cons (pv 4) (pa_cons (pv 3) (pa_cons (pv 6) (pa_cons (pv 7) pa_nil)))))))))))))))))), ?_⟩
    refine q_asgR (rd_pk (Q := fun v H => _) (xs := [("asks" : Str), "answers"].map V.str) (ev_var rfl) (el_lst (ea_cons ev_c (ea_cons ev_c ea_nil)) (by decide)) b (by decide) (by decide) fun sv H1 hsv b1 k1 => ?_)
    obtain ⟨side, rfl, hsd⟩ := strs_in hsv
    obtain ⟨wq, rfl⟩ : ∃ wq, side = sdS wq := by
      simp only [List.mem_cons, List.not_mem_nil, or_false] at hsd
      rcases hsd with rfl | rfl
      · exact ⟨true, rfl⟩
      · exact ⟨false, rfl⟩
    have l1 : 1 ≤ (letters ++ ("0123456789/-." : Str)).length ∧ (letters ++ ("0123456789/-." : Str)).length ≤ 1000 := by decide +kernel
    have s1 : ("/" : Str).length = 1 := by decide +kernel
    refine q_asgR (rd_wdM (Q := fun v H => _) (z := letters ++ ("0123456789/-." : Str)) (ev_var rfl) (ev_op (ev_call ea_nil sv0) ev_c (rv_addS (by decide +kernel))) ev_c (fun H1 e1 => ea_cons (ev_var rfl) (ea_cons ev_c (ea_cons ev_c ea_nil))) b1 l1.1 l1.2 (by decide) (by decide) (by decide) (by decide) fun t H2 t0 t1 ht b2 k2 => ?_)
    refine ⟨"/", t, rfl, rfl, sz_of (show ("/" : Str).length + t.length ≤ 100000 by omega), ?_⟩
    have hpl : (("/" : Str) ++ t).length ≤ 60 := by rw [Str.length_append]; omega
    have hpa : Asc (("/" : Str) ++ t) := asc_app (by decide +kernel) fun c hc => by
      have : ∀ c ∈ tl (letters ++ ("0123456789/-." : Str)), c < 128 := by decide +kernel
      exact this c (ht c hc)
    generalize ("/" : Str) ++ t = path at hpl hpa
    have k02 := k1.trans k2
    clear k1 k2 ht t0 t1 b1 b
    refine q_tailIf (fun σ1 Hx => ∃ (fi : Str) (lo : Addr) (ods : List Str), σ1 = [some (.ref p), some (.ref qn), some (.str (sdS wq)), some (.str path), some (.str fi), some (.ref lo), none, none] ∧ fi.length ≤ 100 ∧ Hx lo = some (.lst (ods.map V.str)) ∧ lo ≠ p ∧ 1 ≤ ods.length ∧ ods.length ≤ 100 ∧ (∀ o ∈ ods, o.length ≤ 100) ∧ Bg Hx p ∧ Keep p H Hx) (fun σ1 H3 hR => ?_) (fun tail => ?_)
    rotate_left
    · refine q_if (b := wq) (et_is (et_test (ev_op (ev_var rfl) ev_c rv_eqS)) (sd_asks wq)) (fun hb H3 e3 => ?_) (fun hb H3 e3 => ?_)
      · refine q_asgR (rd_pk (Q := fun v H => _) (xs := [("put" : Str), "get", "delete"].map V.str) (ev_var rfl) (el_lst (ea_cons ev_c (ea_cons ev_c (ea_cons ev_c ea_nil))) (by decide)) (b2.ex e3) (by decide) (by decide) fun v H4 hv b4 k4 => ?_)
        obtain ⟨m, rfl, hm⟩ := strs_in hv
        have hml : m.length ≤ 100 := by
          have : ∀ m ∈ [("put" : Str), "get", "delete"], m.length ≤ 100 := by decide +kernel
          exact this m hm
        refine s_asgL (xs := [("post" : Str), "", "Get", "GET", "get ", " put", "gets", "ok"].map V.str) (el_lst (ea_cons ev_c (ea_cons ev_c (ea_cons ev_c (ea_cons ev_c (ea_cons ev_c (ea_cons ev_c (ea_cons ev_c (ea_cons ev_c ea_nil)))))))) (by decide)) fun lo H5 nl e5 hl => ?_
        exact tail _ _ ⟨m, lo, _, rfl, hml, hl, b4.ne nl, by decide, by decide, by decide +kernel, b4.ex e5, (k02.trans (Keep.of e3)).trans (k4.trans (Keep.of e5))⟩
      · refine q_asgR (rd_pk (Q := fun v H => _) (xs := stL.map V.str) (ev_var rfl) (el_callX (vs := []) ea_nil fun H1 e1 Q' E' q' => ⟨rfl, q'⟩) (b2.ex e3) (by decide) (by decide) fun v H4 hv b4 k4 => ?_)
        obtain ⟨m, rfl, hm⟩ := strs_in hv
        have hml := st_len hm
        refine s_asgL (xs := [("okay" : Str), "", "Ok", "OK", "ok ", " same", "get", "200"].map V.str) (el_lst (ea_cons ev_c (ea_cons ev_c (ea_cons ev_c (ea_cons ev_c (ea_cons ev_c (ea_cons ev_c (ea_cons ev_c (ea_cons ev_c ea_nil)))))))) (by decide)) fun lo H5 nl e5 hl => ?_
        exact tail _ _ ⟨m, lo, _, rfl, by omega, hl, b4.ne nl, by decide, by decide, by decide +kernel, b4.ex e5, (k02.trans (Keep.of e3)).trans (k4.trans (Keep.of e5))⟩
    obtain ⟨fi, lo, ods, rfl, hfi, hlo, nlo, ho1, ho2, hod, b3, k3⟩ := hR
    clear k02 b2
    refine q_tailIf (fun σ1 Hx => ∃ (fi : Str), σ1 = [some (.ref p), some (.ref qn), some (.str (sdS wq)), some (.str path), some (.str fi), some (.ref lo), none, none] ∧ fi.length ≤ 100 ∧ Bg Hx p ∧ Keep p H Hx) (fun σ1 H4 hR => ?_) (fun tail => ?_)
    rotate_left
    · refine rd_dr (Q := fun v H => _) (ea_cons (ev_var rfl) (ea_cons ev_c ea_nil)) b3 (by decide) (by decide) fun d H4 d0 d1 b4 k4 => ?_
      refine ⟨rfl, _, rfl, ite2 (fun _ => ?_) (fun _ => ?_)⟩
      · refine s_asgR (rd_call (Q := fun v H => _) (ea_cons (ev_var rfl) (ea_cons (ev_var rfl) ea_nil)) fun H5 e5 => ⟨p, lo, ods.map V.str, rfl, b4.ex e5, nlo, e5 _ _ (k4 _ _ nlo hlo), by rw [List.length_map]; exact ho1, by rw [List.length_map]; omega, fun v H6 hv b6 k6 => ?_⟩)
        obtain ⟨y, rfl, hy⟩ := strs_in hv
        exact tail _ _ ⟨y, rfl, hod y hy, b6, k3.trans (k4.trans ((Keep.of e5).trans k6))⟩
      · exact tail _ _ ⟨fi, rfl, hfi, b4, k3.trans k4⟩
    obtain ⟨fi, rfl, hfi, b4, k4⟩ := hR
    clear k3 b3 hlo nlo ho1 ho2 hod
    refine q_tailIf (fun σ1 Hx => ∃ (pt : Str) (lo : Addr), σ1 = [some (.ref p), some (.ref qn), some (.str (sdS wq)), some (.str pt), some (.str fi), some (.ref lo), none, none] ∧ (pt.length ≤ 100 ∧ Asc pt) ∧ Bg Hx p ∧ Keep p H Hx) (fun σ1 H5 hR => ?_) (fun tail => ?_)
    rotate_left
    · refine rd_dr (Q := fun v H => _) (ea_cons (ev_var rfl) (ea_cons ev_c ea_nil)) b4 (by decide) (by decide) fun d H5 d0 d1 b5 k5 => ?_
      refine ⟨rfl, _, rfl, ite2 (fun _ => ?_) (fun _ => ?_)⟩
      · have hcl := cut_len path (some 1) none
        have r1 : (repS ("a" : Str) 59).length ≤ 59 := by decide +kernel
        have r2 : (repS ("a" : Str) 60).length ≤ 60 := by decide +kernel
        refine q_asgL (xs := [("" : Str), "a", "/A", "/a b", "/_", "/a\n", " /a", "/a?", cutS path (some 1) none, "/" ++ repS "a" 59, "/" ++ repS "a" 60].map V.str) (el_lst (ea_cons ev_c (ea_cons ev_c (ea_cons ev_c (ea_cons ev_c (ea_cons ev_c (ea_cons ev_c (ea_cons ev_c (ea_cons ev_c (ea_cons (ev_slS (ev_var rfl) (eo_some ev_c) eo_none (by omega)) (ea_cons (ev_op ev_c (ev_op ev_c ev_c (rv_rep (by decide) (by decide) (by decide +kernel))) (rv_addS (by decide +kernel))) (ea_cons (ev_op ev_c (ev_op ev_c ev_c (rv_rep (by decide) (by decide) (by decide +kernel))) (rv_addS (by decide +kernel))) ea_nil))))))))))) (by show 11 ≤ 100000; decide)) fun lp H6 nl e6 hl => ?_
        refine s_asgR (rd_call (Q := fun v H => _) (ea_cons (ev_var rfl) (ea_cons (ev_var rfl) ea_nil)) fun H7 e7 => ⟨p, lp, _, rfl, b5.ex (e6.trans e7), b5.ne nl, e7 _ _ hl, by show 1 ≤ 11; decide, by show 11 ≤ 1000; decide, fun v H8 hv b8 k8 => ?_⟩)
        obtain ⟨y, rfl, hy⟩ := strs_in hv
        have hyl : y.length ≤ 100 ∧ Asc y := by
          have hc : ∀ y ∈ [("" : Str), "a", "/A", "/a b", "/_", "/a\n", " /a", "/a?", "/" ++ repS "a" 59, "/" ++ repS "a" 60], y.length ≤ 100 ∧ Asc y := by decide +kernel
          by_cases hyc : y = cutS path (some 1) none
          · rw [hyc]
            refine ⟨by omega, fun c hc => ?_⟩
            rw [cutFrom1_tl] at hc
            exact hpa c (List.mem_of_mem_drop hc)
          · refine hc y ?_
            simp only [List.mem_cons, List.not_mem_nil, or_false] at hy ⊢
            rcases hy with h | h | h | h | h | h | h | h | h | h | h
            · exact .inl h
            · exact .inr (.inl h)
            · exact .inr (.inr (.inl h))
            · exact .inr (.inr (.inr (.inl h)))
            · exact .inr (.inr (.inr (.inr (.inl h))))
            · exact .inr (.inr (.inr (.inr (.inr (.inl h)))))
            · exact .inr (.inr (.inr (.inr (.inr (.inr (.inl h))))))
            · exact .inr (.inr (.inr (.inr (.inr (.inr (.inr (.inl h)))))))
            · exact absurd h hyc
            · exact .inr (.inr (.inr (.inr (.inr (.inr (.inr (.inr (.inl h))))))))
            · exact .inr (.inr (.inr (.inr (.inr (.inr (.inr (.inr (.inr h))))))))
        exact tail _ _ ⟨y, lp, rfl, hyl, b8, k4.trans (k5.trans ((Keep.of (e6.trans e7)).trans k8))⟩
      · exact tail _ _ ⟨path, lo, rfl, ⟨by omega, hpa⟩, b5, k4.trans k5⟩
    obtain ⟨pt, lo, rfl, hpt, b5, k5⟩ := hR
    clear k4 b4 hpl
    refine q_asgR (rd_call (Q := fun v H => _) (ea_cons (ev_var rfl) (ea_cons (ev_var rfl) ea_nil)) fun H6 e6 => ⟨p, qn, ns, rfl, b5.ex e6, nqp, e6 _ _ (k5 _ _ nqp hqn), hn1, hn3, hns, fun l fs H7 nl hf sf okf nlp b7 k7 => ?_⟩)
    have k07 := k5.trans ((Keep.of e6).trans k7)
    clear k5 k7 b5
    have l2 : 1 ≤ (signs ++ ("\n" : Str)).length ∧ (signs ++ ("\n" : Str)).length ≤ 1000 := by decide +kernel
    refine q_asgR (rd_pk (Q := fun v H => _) (xs := [("a: b\n" : Str), "", "\n", " ", "ab"].map V.str) (ev_var rfl) (el_lst (ea_cons ev_c (ea_cons ev_c (ea_cons ev_c (ea_cons ev_c (ea_cons ev_c ea_nil))))) (by decide)) b7 (by decide) (by decide) fun v H8 hv b8 k8 => ?_)
    obtain ⟨bo, rfl, hbo⟩ := strs_in hv
    have hbol : bo.length ≤ 10 := by
      have : ∀ m ∈ [("a: b\n" : Str), "", "\n", " ", "ab"], m.length ≤ 10 := by decide +kernel
      exact this bo hbo
    refine rd_wd (Q := fun v H => _) (z := signs ++ ("\n" : Str)) (ea_cons (ev_var rfl) (ea_cons (ev_op (ev_call ea_nil sv0) ev_c (rv_addS (by decide +kernel))) (ea_cons ev_c (ea_cons ev_c ea_nil)))) b8 l2.1 l2.2 (by decide) (by decide) (by decide) fun t H9 t0 t1 ht b9 k9 => ?_
    refine ⟨bo, t, rfl, rfl, sz_of (show bo.length + t.length ≤ 100000 by omega), ?_⟩
    have hbl : (bo ++ t).length ≤ 100 := by rw [Str.length_append]; omega
    generalize bo ++ t = bd at hbl
    have f9 : FsAt H9 l fs := (hf.keepF k8 b7).keepF k9 b8
    have k09 := k07.trans (k8.trans k9)
    clear k07 k8 k9 b8 b7 hf ht t0 t1 hbo
    refine q_tailIf (fun σ1 Hx => ∃ (bd : Str), σ1 = [some (.ref p), some (.ref qn), some (.str (sdS wq)), some (.str pt), some (.str fi), some (.ref lo), some (.ref l), some (.str bd)] ∧ bd.length ≤ 100 ∧ FsAt Hx l fs ∧ Bg Hx p ∧ Keep p H Hx) (fun σ1 H10 hR => ?_) (fun tail => ?_)
    rotate_left
    · have tt : EvT _ [some (.ref p), some (.ref qn), some (.str (sdS wq)), some (.str pt), some (.str fi), some (.ref lo), some (.ref l), some (.str bd)] H9 (!hbW ⟨wq, fi, pt, fs, bd⟩) := et_not (et_B (ev_call (E := E0) (sp := spMy) (z := .bl (hbW ⟨wq, fi, pt, fs, bd⟩)) (ea_cons (ev_var (i := 2) rfl) (ea_cons (ev_var (i := 4) rfl) ea_nil)) fun H1 e Q' q' E' => ⟨⟨wq, fi, pt, fs, bd⟩, rfl, q'⟩))
      refine q_in ?_
      dsimp only
      refine s_ifAnd tt (fun _ H10 e10 => ?_) (fun _ H10 e10 => ?_)
      · refine rd_dr (Q := fun v H => _) (ea_cons (ev_var rfl) (ea_cons ev_c ea_nil)) (b9.ex e10) (by decide) (by decide) fun d H11 d0 d1 b11 k11 => ?_
        have f11 := (f9.ex e10).keepF k11 (b9.ex e10)
        have k0 := k09.trans ((Keep.of e10).trans k11)
        refine ⟨rfl, _, rfl, ite2 (fun _ => ?_) (fun _ => ?_)⟩
        · exact s_asg (v := .str "") ev_c fun H12 e12 => tail _ _ ⟨"", rfl, by decide +kernel, f11.ex e12, b11.ex e12, k0.trans (Keep.of e12)⟩
        · exact tail _ _ ⟨bd, rfl, hbl, f11, b11, k0⟩
      · exact tail _ _ ⟨bd, rfl, hbl, f9.ex e10, b9.ex e10, k09.trans (Keep.of e10)⟩
    obtain ⟨bd, rfl, hbl, f10, b10, k10⟩ := hR
    clear k09 b9 f9
    refine q_tailIf (fun σ1 Hx => ∃ (bd : Str), σ1 = [some (.ref p), some (.ref qn), some (.str (sdS wq)), some (.str pt), some (.str fi), some (.ref lo), some (.ref l), some (.str bd)] ∧ bd.length ≤ 200 ∧ FsAt Hx l fs ∧ Bg Hx p ∧ Keep p H Hx) (fun σ1 H11 hR => ?_) (fun tail => ?_)
    rotate_left
    · refine rd_dr (Q := fun v H => _) (ea_cons (ev_var rfl) (ea_cons ev_c ea_nil)) b10 (by decide) (by decide) fun d H11 d0 d1 b11 k11 => ?_
      have f11 := f10.keepF k11 b10
      refine ⟨rfl, _, rfl, ite2 (fun _ => ?_) (fun _ => ?_)⟩
      · have lt : ("\t" : Str).length = 1 := by decide +kernel
        refine s_asgR (rd_pk (Q := fun v H => _) (xs := [("a\t" : Str), "", "\tb", "a\tb", bd ++ "\t"].map V.str) (ev_var rfl) (el_lst (ea_cons ev_c (ea_cons ev_c (ea_cons ev_c (ea_cons ev_c (ea_cons (ev_op (ev_var rfl) ev_c (rv_addS (by omega))) ea_nil))))) (by show 5 ≤ 100000; decide)) b11 (by show 1 ≤ 5; decide) (by show 5 ≤ 1000; decide) fun v H12 hv b12 k12 => ?_)
        obtain ⟨y, rfl, hy⟩ := strs_in hv
        have hyl : y.length ≤ 200 := by
          have hc : ∀ y ∈ [("a\t" : Str), "", "\tb", "a\tb"], y.length ≤ 200 := by decide +kernel
          rcases List.mem_append.mp (show y ∈ [("a\t" : Str), "", "\tb", "a\tb"] ++ [bd ++ "\t"] from hy) with hy | hy
          · exact hc y hy
          · rw [List.mem_singleton.mp hy, Str.length_append]; omega
        exact tail _ _ ⟨y, rfl, hyl, f11.keepF k12 b11, b12, k10.trans (k11.trans k12)⟩
      · exact tail _ _ ⟨bd, rfl, by omega, f11, b11, k10.trans k11⟩
    obtain ⟨bd, rfl, hbl, f11, b11, k11⟩ := hR
    clear k10 b10 f10
    refine q_tailIf (fun σ1 Hx => ∃ (bd : Str), σ1 = [some (.ref p), some (.ref qn), some (.str (sdS wq)), some (.str pt), some (.str fi), some (.ref lo), some (.ref l), some (.str bd)] ∧ bd.length ≤ 200000 ∧ FsAt Hx l fs ∧ Bg Hx p ∧ Keep p H Hx) (fun σ1 H12 hR => ?_) (fun tail => ?_)
    · obtain ⟨bd, rfl, hbl, f12, b12, k12⟩ := hR
      refine s_retL (el_lst (ea_cons (ev_var rfl) (ea_cons (ev_var rfl) (ea_cons (ev_var rfl) (ea_cons (ev_var rfl) (ea_cons (ev_var rfl) ea_nil))))) (by show 5 ≤ 100000; decide)) fun r H13 nr e13 hr13 => ?_
      exact q (.ref r) ⟨wq, fi, pt, fs, bd⟩ l H13 ⟨r, rfl, hr13, f12.ex e13⟩ ⟨hfi, hpt.1, sf, hbl⟩ hpt.2 okf (fun e => b12.ne nr (V.ref.inj e)) nlp (b12.ex e13) (k12.trans (Keep.of e13))
    · refine rd_dr (Q := fun v H => _) (ea_cons (ev_var rfl) (ea_cons ev_c ea_nil)) b11 (by decide) (by decide) fun d H12 d0 d1 b12 k12 => ?_
      have f12 := f11.keepF k12 b11
      refine ⟨rfl, _, rfl, ite2 (fun _ => ?_) (fun _ => ?_)⟩
      · refine s_asgR (rd_dr (Q := fun v H => _) (ea_cons (ev_var rfl) (ea_cons ev_c ea_nil)) b12 (by decide) (by decide) fun d' H13 d0' d1' b13 k13 => ⟨100000, d', rfl, rfl, ?_⟩)
        refine ⟨"b", 100000 + d', rfl, rfl, by omega, by omega, by decide +kernel, ?_⟩
        exact tail _ _ ⟨repS "b" (100000 + d').toNat, rfl, by rw [repS_lenB]; omega, f12.keepF k13 b12, b13, k11.trans (k12.trans k13)⟩
      · exact tail _ _ ⟨bd, rfl, by omega, f12, b12, k11.trans k12⟩
end
end Z
set_option maxHeartbeats 4000000
namespace ZX
open PySem PySem.Spec PyProof.Rows L2 TL Evl NdefX
/-! ### isinstance(e, (A, B, ..)) of an error with a dict -/
def rIsEU (K : PySem.W.Frag) (a : Addr) (cls : Value) (d : Option Addr) : List V → Hp → VK → Prop := fun xs H Q => ∃ (D dd tp : Addr) (cs : List V) (ws : List Value) (b : Bool) (fs : List (Str × V)), cls = .ref D ∧ d = some dd ∧ ExcC K D ∧ xs = [.ref a, .ref tp] ∧ H tp = some (.tup cs) ∧ Paired ClsV cs ws ∧ H dd = some (.xd fs) ∧ PySem.W.kitAny K (.ref D) ws = some b ∧ Q (.bl b) H
theorem call_isEU {X : Cx} {a : Addr} {cls : Value} {d : Option Addr} {oe : Obj} {pn : List (Addr × Obj)} (hz : Zc cls d oe) (hf : ∃ vs, oe.data = .fields vs) : CallR (X.suite a ((a, oe) :: pn)) (.builtin "isinstance") (rIsEU X.K a cls d) := by
  intro pins s σ H xs us Q I r h
  obtain ⟨D, dd, tp, cs, ws, b, fs, rfl, rfl, C, rfl, hT, k, hdd, e, q⟩ := h
  obtain ⟨u1, u2, rfl, r1, r2⟩ := L2.vals2 r
  obtain rfl : u1 = Value.ref a := r1
  obtain rfl : u2 = Value.ref tp := r2
  obtain ⟨hget, _⟩ := I.pin (a, oe) (List.mem_append.mpr (.inl List.mem_cons_self))
  obtain ⟨vs, hv⟩ := hf
  have hx : ObjOk X.prog X.w H s.heap dd (.xd fs) := I.hok dd _ hdd
  obtain ⟨mA, ⟨od, es, ep, ho, hns⟩, hr⟩ := hx
  have J : PySem.W.InstAt s.heap a oe D (some od) := by
    obtain ⟨oc, odd, oda, osl⟩ := oe
    obtain ⟨h1, h2⟩ := hz
    dsimp only at h1 h2 hv
    subst h1 h2 hv
    exact ⟨hget, rfl, rfl, ho⟩
  have hx : ObjOk X.prog X.w H s.heap tp (.tup cs) := I.hok tp _ hT
  obtain ⟨_, its, rv, o, h1, h2, n, h3⟩ := hx
  have e3 := ClsV.all k rv
  subst e3
  obtain ⟨oc, od2, dt, sl⟩ := o
  dsimp only at h2 h3
  subst h2 h3
  exact PySem.W.kia_tup (kitx_excD C.hg C.hk C.hs C.hd C.ha C.hn C.ht C.hm) I.kIn J h1 e (fun z => nomatch z) fun tk => ⟨.bl b, H, I.tok tk, rfl, q⟩
end ZX
set_option maxHeartbeats 4000000
namespace Z
open PySem PySem.Spec PyProof.Rows L2 TL Evl NdefX
/-! ### requests and responses made in all ways -/
def kaQ (vs zs : List V) : List V := vs ++ zs.drop 3 ++ zs.take 3
def kaS (vs zs : List V) : List V := vs ++ zs.drop 1 ++ zs.take 1
structure Mka (P : Program) (w : World) (K : PySem.W.Frag) (mg : Str → Option Value) (base : Heap) (R DV : Addr) (side : Bool) (ps ks : List Str) (n : Nat) (gV : List V → List V → List V) : Prop where
  ex : ∃ fi fd ds1 ds2 p0 gA gB, Mk K R fi ∧ FnOk P w K mg base (L2N.CX P w) 6 fi fd ps (spCo K R DV side) ∧ Binds K fd ps [] ∧ Vals [.str ""] ds1 ∧ Binds K fd ps ds1 ∧ Vals [.ref p0, .str ""] ds2 ∧ Binds K fd ps ds2 ∧ (∀ H, SqT K H p0 []) ∧ KBn K fd ps 1 ks gA gV ∧ KBn K fd ps n ["body"] gB (fun vs zs => vs ++ [.ref p0] ++ zs)
/-- the classes of errors -/
structure Wx (K : PySem.W.Frag) (mg : Str → Option Value) (DV DH DM DI DR : Addr) : Prop where
  mF : mg "InvalidValue" = some (.ref DV)
  mH : mg "HopError" = some (.ref DH)
  mM : mg "InvalidMessage" = some (.ref DM)
  mI : mg "InvalidFraming" = some (.ref DI)
  mR : mg "ReaderClosed" = some (.ref DR)
  xF : ExcC K DV
  fF : XfC K DV
  nF : PySem.W.findIn K (.ref DV) "name" = some none
  iFH : PySem.W.kitOne K (.ref DV) (.ref DH) = some true
  iFE : PySem.W.kitOne K (.ref DV) (.type "ValueError") = some true
  iFM : PySem.W.kitOne K (.ref DV) (.ref DM) = some false
  iFI : PySem.W.kitOne K (.ref DV) (.ref DI) = some false
  iFR : PySem.W.kitOne K (.ref DV) (.ref DR) = some false
  eFF : PySem.W.exmOne K (.ref DV) (.ref DV) = some true
section
variable {K : PySem.W.Frag} {D a dd : Addr} {σ : L2.St} {H : Hp} {ta tc te : TE} {td : TA} {c v : V} {cv : Value} {b : Bool} {cs : List V} {ws : List Value} {fs : List (Str × V)} {f : Str}
theorem ev_isEG (x : ExcC K D) (h : Ev ta σ H (.ref a)) (hc : Ev tc σ H c) (hcv : ∀ u, RelV c u → u = cv) (hd : H dd = some (.xd fs)) (k : PySem.W.kitOne K (.ref D) cv = some b) : Ev (tCB (ZX.rIsEG K a (.ref D) (some dd)) (tCons ta (tCons tc tNil))) σ H (.bl b) := fun H1 e Q q =>
  h H1 e _ fun H2 e2 => hc H2 (e.trans e2) _ fun H3 e3 => ⟨D, dd, rfl, rfl, x, c, cv, b, fs, rfl, hcv, ((e.trans e2).trans e3) _ _ hd, k, q H3 (e2.trans e3)⟩
theorem ev_isEU (x : ExcC K D) (h : Ev ta σ H (.ref a)) (hu : EvU te σ H cs) (pr : Paired ClsV cs ws) (hd : H dd = some (.xd fs)) (k : PySem.W.kitAny K (.ref D) ws = some b) : Ev (tCB (ZX.rIsEU K a (.ref D) (some dd)) (tCons ta (tCons te tNil))) σ H (.bl b) := fun H1 e Q q =>
  h H1 e _ fun H2 e2 => hu H2 (e.trans e2) _ fun tp H3 np e3 hp => ⟨D, dd, tp, cs, ws, b, fs, rfl, rfl, x, rfl, hp, pr, ((e.trans e2).trans e3) _ _ hd, k, q H3 (e2.trans e3)⟩
theorem ev_xg (x : XfC K D) (hno : PySem.W.findIn K (.ref D) f = some none) (h : Ev te σ H (.ref a)) (hd : H dd = some (.xd fs)) (hl : fs.lookup f = some v) : Ev (ZX.tXg K a (.ref D) (some dd) f te) σ H v := fun H1 e Q q =>
  h H1 e _ fun H2 e2 => ⟨rfl, D, rfl, x, hno, dd, fs, v, rfl, (e.trans e2) _ _ hd, hl, q H2 e2⟩
theorem relT {u : Value} {n : String} (h : RelV (.ty n) u) : u = .type n := h
theorem relC {u : Value} {a : Addr} (h : RelV (.ref a) u) : u = .ref a := h
theorem kit3 {K : PySem.W.Frag} {t a b c : Value} (h1 : PySem.W.kitOne K t a = some false) (h2 : PySem.W.kitOne K t b = some false) (h3 : PySem.W.kitOne K t c = some false) : PySem.W.kitAny K t [a, b, c] = some false := by
  simp [PySem.W.kitAny, h1, h2, h3]
theorem rd_mkN {C : Addr} {n m : Nat} {sp : Sp} {gV : List V → List V → List V} {E : XK} {ta tk : TA} {Q : VK} {vs zs : List V} (h : EvA ta σ H vs) (h2 : EvA tk σ H zs) (hn : vs.length = n) (hm : zs.length = m)
    (k : ∀ H2, Ex H H2 → ∀ x dx, H2 x = none → H2 dx = none → dx ≠ x → sp (gV (.ref x :: vs) zs) (upd (upd H2 dx (.own x)) x (.ins C dx [])) (fun v H2 => v = .non ∧ Q (.ref x) H2) E) : tMakeN C n m sp gV E ta tk σ H Q :=
  h H (Ex.refl H) _ fun H1 e1 => h2 H1 e1 _ fun H2 e2 => ⟨hn, hm, k H2 (e1.trans e2)⟩
theorem rd_callS {sp : Sp} {E : L2.St → XK} {t : TA} {Q : VK} {vs : List V} (h : EvA t σ H vs) (k : ∀ H1, Ex H H1 → sp vs H1 Q (E σ)) : tCallS sp E t σ H Q := h H (Ex.refl H) _ k
end
def spLq (K : PySem.W.Frag) (R DV : Addr) (side : Bool) : Sp := fun vs H Q E => ∃ (way : Int) (v : V) (w : Wl) (l q : Addr), w.q = side ∧ vs = [.int way, v, .ref q] ∧ WlAt H v w l ∧ FqAt K H q w.fs ∧ smallW w ∧ okS w.fs ∧ (badW w = none → ∀ u l' H', H l' = none → Ex H H' → MeC R H' u w l' → Q u H') ∧
  (∀ n, badW w = some n → ∀ d H', H d = none → Ex H H' → H' d = some (.xd [("name", .str n)]) → E (.ref DV) (some d) H')
section
variable {P : Program} {w : World} {K : PySem.W.Frag} {mg : Str → Option Value} {base : Heap} {f B RQ RS DV DH DM DI DR : Addr} {fd : FuncData} {k : Nat}
theorem ok_law_request (T : Mg mg) (W : Wo K mg B RQ RS) (MK : Mka P w K mg base RQ DV true rqN ["path", "fields", "body", "method"] 3 kaQ) (F : FnP K "_law_request" s_law_request f fd) : FnOk P w K mg base (L2N.CX P w) 8 f fd ["way", "world", "given"] (spLq K RQ DV true) := by
  obtain ⟨fi, fdi, ds1, ds2, p0, gA, gB, M, Fi, b0, v1, b1, v2, b2, hp0, kA, kB⟩ := MK.ex
  have gR := W.wq.m
  refine FunD.ok F sc_law_request (fun vs H Q E h => ?_) (fun cdv A outer s H vs Q E hr h => ?_)
  · obtain ⟨way, v, wl, l, q, _, rfl, _⟩ := h
    rfl
  · obtain ⟨way, v, ⟨wq, m, p, fs, b⟩, l, q, hw, rfl, ⟨a, rfl, ha, hf⟩, hq, hs, hok, kt, kf⟩ := h
    cases (show wq = true from hw)
    refine ⟨_, (pss_cons (ps_if (pt_cmpR op_eq (pv 0) pe_int (nomark _))
      (pss_one (ps_ret (ZX.pe_makeN0 (E1 := E) M Fi (hr.mono (by decide)) rfl gR kA (L2N.passes_call (L2N.takes_of rfl rfl rfl rfl) (fun _ _ _ _ h => h)) (pk_cons (pe_ix ix_list (pv 1) pe_int (fun _ _ => rfl)) (pk_cons (pv 2) (pk_cons (pe_ix ix_list (pv 1) pe_int (fun _ _ => rfl)) (pk_cons (pe_ix ix_list (pv 1) pe_int (fun _ _ => rfl)) pk_nil)))))))
      pss_nil)
    (pss_cons (ps_if (PW.pt (pw_and (pt_cmpR op_eq (pv 0) pe_int (nomark _)) (pw_and (pt_cmpR op_eq (pe_ix ix_list (pv 1) pe_int (fun _ _ => rfl)) pe_str (nomark _)) (pw_and1 (pt_cmpR (op_eqD hr.units) (pe_ix ix_list (pv 1) pe_int (fun _ _ => rfl)) (pe_lst pa_nil) (nomark _))))))
      (pss_one (ps_ret (pe_make (E := E) M Fi (hr.mono (by decide)) rfl gR b2 v2 (L2N.passes_call (L2N.takes_of rfl rfl rfl rfl) (fun _ _ _ _ h => h)) (pa_cons (pe_ix ix_list (pv 1) pe_int (fun _ _ => rfl)) (pa_cons (pe_ix ix_list (pv 1) pe_int (fun _ _ => rfl)) pa_nil)))))
      pss_nil)
    (pss_cons (ps_if (PW.pt (pw_and (pt_cmpR op_eq (pv 0) pe_int (nomark _)) (pw_and1 (pt_cmpR op_eq (pe_ix ix_list (pv 1) pe_int (fun _ _ => rfl)) pe_str (nomark _)))))
      (pss_one (ps_ret (pe_make (E := E) M Fi (hr.mono (by decide)) rfl gR b1 v1 (L2N.passes_call (L2N.takes_of rfl rfl rfl rfl) (fun _ _ _ _ h => h)) (pa_cons (pe_ix ix_list (pv 1) pe_int (fun _ _ => rfl)) (pa_cons (pe_ix ix_list (pv 1) pe_int (fun _ _ => rfl)) (pa_cons (pv 2) pa_nil))))))
      pss_nil)
    (pss_cons (ps_if (PW.pt (pw_and (pt_cmpR op_eq (pv 0) pe_int (nomark _)) (pw_and1 (pt_cmpR (op_eqD hr.units) (pe_ix ix_list (pv 1) pe_int (fun _ _ => rfl)) (pe_lst pa_nil) (nomark _)))))
      (pss_one (ps_ret (pe_makeN (E := E) M Fi (hr.mono (by decide)) rfl gR kB (L2N.passes_call (L2N.takes_of rfl rfl rfl rfl) (fun _ _ _ _ h => h)) (pa_cons (pe_ix ix_list (pv 1) pe_int (fun _ _ => rfl)) (pa_cons (pe_ix ix_list (pv 1) pe_int (fun _ _ => rfl)) pa_nil)) (pk_cons (pe_ix ix_list (pv 1) pe_int (fun _ _ => rfl)) pk_nil))))
      pss_nil)
    (pss_one (ps_ret (pe_make (E := E) M Fi (hr.mono (by decide)) rfl gR b0 .nil (L2N.passes_call (L2N.takes_of rfl rfl rfl rfl) (fun _ _ _ _ h => h)) (pa_cons (pe_ix ix_list (pv 1) pe_int (fun _ _ => rfl)) (pa_cons (pe_ix ix_list (pv 1) pe_int (fun _ _ => rfl)) (pa_cons (pv 2) (pa_cons (pe_ix ix_list (pv 1) pe_int (fun _ _ => rfl)) pa_nil))))))))))), ?_⟩
    have I : ∀ {σ : L2.St} {H' : Hp} (j : Nat) {v : V}, Ex H H' → σ[1]? = some (some (.ref a)) → [.str (sdS true), .str m, .str p, .ref l, .str b][j]? = some v → Ev (tOp (rIxL K) (tVar 1) (tC (.int (j : Int)))) σ H' v := fun j v e h0 hv => ev_ixL (ev_var h0) ev_c (e _ _ ha) (atI_nat hv)
    have mkc : ∀ {q' : Addr} {fs' : Fs} {b' : Str} {H2 : Hp}, Ex H H2 → fs' = fs → b' = b → FqAt K H2 q' fs' → ∀ x dx, H2 x = none → H2 dx = none → dx ≠ x → spCo K RQ DV true [.ref x, .str m, .str p, .ref q', .str b'] (upd (upd H2 dx (.own x)) x (.ins RQ dx [])) (fun v H3 => v = .non ∧ Q (.ref x) H3) E := fun {q' fs' b' H2} e e1 e2 hq' => by
      subst e1 e2
      exact co_mk (E := E) (R := RQ) (DV := DV) (side := true) (w := ⟨true, m, p, fs', b'⟩) (Q := Q) rfl hq' hs (fun hn v l' H' nl ex hm => kt hn v l' H' (fresh_back e nl) (e.trans ex) hm) (fun n hn d H' hd ex hx => kf n hn d H' (fresh_back e hd) (e.trans ex) hx)
    have emp : ∀ {σ : L2.St} {H' : Hp}, Ex H H' → σ[1]? = some (some (.ref a)) → EvT (tTest (tOp (rEqD K) (tOp (rIxL K) (tVar 1) (tC (.int (3 : Int)))) (tLst tNil))) σ H' (decide (fs = [])) := fun e h0 => et_test (ev_opL (I 3 e h0 rfl) (el_lst ea_nil (by decide)) fun p H1 hp e1 => rv_eqFS (hf.ex (e.trans e1)) (fs_nil hp) hok okS_nil)
    have bem : ∀ {σ : L2.St} {H' : Hp}, Ex H H' → σ[1]? = some (some (.ref a)) → EvT (tTest (tOp rEq (tOp (rIxL K) (tVar 1) (tC (.int (4 : Int)))) (tC (.str "")))) σ H' (decide (b = "")) := fun e h0 => et_test (ev_op (I 4 e h0 rfl) ev_c rv_eqS)
    refine q_when (et_test (ev_op (ev_var rfl) ev_c rv_eqI)) (fun _ H1 e1 => ?_) (fun _ H1 e1 => ?_)
    · refine g_ret (rd_mkN (vs := []) ea_nil (ea_cons (I 2 e1 rfl rfl) (ea_cons (ev_var rfl) (ea_cons (I 4 e1 rfl rfl) (ea_cons (I 1 e1 rfl rfl) ea_nil)))) rfl rfl fun H2 e2 => ?_)
      exact mkc (e1.trans e2) rfl rfl (hq.ex (e1.trans e2))
    refine q_when (et_and (et_test (ev_op (ev_var rfl) ev_c rv_eqI)) fun _ => et_and (bem e1 rfl) fun _ => emp e1 rfl) (fun hb H2 e2 => ?_) (fun _ H2 e2 => ?_)
    · have hb2 := (Bool.and_eq_true_iff.mp hb).2
      obtain ⟨h1, h2⟩ := Bool.and_eq_true_iff.mp hb2
      have e12 := e1.trans e2
      refine g_ret (rd_mkS ((ea_cons (I 1 e12 rfl rfl) (ea_cons (I 2 e12 rfl rfl) ea_nil)) H2 (Ex.refl H2) _ fun H3 e3 => ?_))
      exact mkc (fs' := []) (b' := "") (e12.trans e3) (of_decide_eq_true h2).symm (of_decide_eq_true h1).symm ⟨[], .inr (hp0 _), Rel.nil⟩
    have e12 := e1.trans e2
    refine q_when (et_and (et_test (ev_op (ev_var rfl) ev_c rv_eqI)) fun _ => bem e12 rfl) (fun hb H3 e3 => ?_) (fun _ H3 e3 => ?_)
    · have h1 := (Bool.and_eq_true_iff.mp hb).2
      have e13 := e12.trans e3
      refine g_ret (rd_mkS ((ea_cons (I 1 e13 rfl rfl) (ea_cons (I 2 e13 rfl rfl) (ea_cons (ev_var rfl) ea_nil))) H3 (Ex.refl H3) _ fun H4 e4 => ?_))
      exact mkc (b' := "") (e13.trans e4) rfl (of_decide_eq_true h1).symm (hq.ex (e13.trans e4))
    have e13 := e12.trans e3
    refine q_when (et_and (et_test (ev_op (ev_var rfl) ev_c rv_eqI)) fun _ => emp e13 rfl) (fun hb H4 e4 => ?_) (fun _ H4 e4 => ?_)
    · have h1 := (Bool.and_eq_true_iff.mp hb).2
      have e14 := e13.trans e4
      refine g_ret (rd_mkN (ea_cons (I 1 e14 rfl rfl) (ea_cons (I 2 e14 rfl rfl) ea_nil)) (ea_cons (I 4 e14 rfl rfl) ea_nil) rfl rfl fun H5 e5 => ?_)
      exact mkc (fs' := []) (e14.trans e5) (of_decide_eq_true h1).symm rfl ⟨[], .inr (hp0 _), Rel.nil⟩
    · have e14 := e13.trans e4
      refine g_ret (rd_mkS ((ea_cons (I 1 e14 rfl rfl) (ea_cons (I 2 e14 rfl rfl) (ea_cons (ev_var rfl) (ea_cons (I 4 e14 rfl rfl) ea_nil)))) H4 (Ex.refl H4) _ fun H5 e5 => ?_))
      exact mkc (e14.trans e5) rfl rfl (hq.ex (e14.trans e5))
theorem ok_law_response (T : Mg mg) (W : Wo K mg B RQ RS) (MK : Mka P w K mg base RS DV false rsN ["body", "status", "fields"] 2 kaS) (F : FnP K "_law_response" s_law_response f fd) : FnOk P w K mg base (L2N.CX P w) 8 f fd ["way", "world", "given"] (spLq K RS DV false) := by
  obtain ⟨fi, fdi, ds1, ds2, p0, gA, gB, M, Fi, b0, v1, b1, v2, b2, hp0, kA, kB⟩ := MK.ex
  have gR := W.ws.m
  refine FunD.ok F sc_law_response (fun vs H Q E h => ?_) (fun cdv A outer s H vs Q E hr h => ?_)
  · obtain ⟨way, v, wl, l, q, _, rfl, _⟩ := h
    rfl
  · obtain ⟨way, v, ⟨wq, m, p, fs, b⟩, l, q, hw, rfl, ⟨a, rfl, ha, hf⟩, hq, hs, hok, kt, kf⟩ := h
    cases (show wq = false from hw)
    refine ⟨_, (pss_cons (ps_if (pt_cmpR op_eq (pv 0) pe_int (nomark _))
      (pss_one (ps_ret (ZX.pe_makeN0 (E1 := E) M Fi (hr.mono (by decide)) rfl gR kA (L2N.passes_call (L2N.takes_of rfl rfl rfl rfl) (fun _ _ _ _ h => h)) (pk_cons (pe_ix ix_list (pv 1) pe_int (fun _ _ => rfl)) (pk_cons (pe_ix ix_list (pv 1) pe_int (fun _ _ => rfl)) (pk_cons (pv 2) pk_nil))))))
      pss_nil)
    (pss_cons (ps_if (PW.pt (pw_and (pt_cmpR op_eq (pv 0) pe_int (nomark _)) (pw_and (pt_cmpR op_eq (pe_ix ix_list (pv 1) pe_int (fun _ _ => rfl)) pe_str (nomark _)) (pw_and1 (pt_cmpR (op_eqD hr.units) (pe_ix ix_list (pv 1) pe_int (fun _ _ => rfl)) (pe_lst pa_nil) (nomark _))))))
      (pss_one (ps_ret (pe_make (E := E) M Fi (hr.mono (by decide)) rfl gR b2 v2 (L2N.passes_call (L2N.takes_of rfl rfl rfl rfl) (fun _ _ _ _ h => h)) (pa_cons (pe_ix ix_list (pv 1) pe_int (fun _ _ => rfl)) pa_nil))))
      pss_nil)
    (pss_cons (ps_if (PW.pt (pw_and (pt_cmpR op_eq (pv 0) pe_int (nomark _)) (pw_and1 (pt_cmpR op_eq (pe_ix ix_list (pv 1) pe_int (fun _ _ => rfl)) pe_str (nomark _)))))
      (pss_one (ps_ret (pe_make (E := E) M Fi (hr.mono (by decide)) rfl gR b1 v1 (L2N.passes_call (L2N.takes_of rfl rfl rfl rfl) (fun _ _ _ _ h => h)) (pa_cons (pe_ix ix_list (pv 1) pe_int (fun _ _ => rfl)) (pa_cons (pv 2) pa_nil)))))
      pss_nil)
    (pss_cons (ps_if (PW.pt (pw_and (pt_cmpR op_eq (pv 0) pe_int (nomark _)) (pw_and1 (pt_cmpR (op_eqD hr.units) (pe_ix ix_list (pv 1) pe_int (fun _ _ => rfl)) (pe_lst pa_nil) (nomark _)))))
      (pss_one (ps_ret (pe_makeN (E := E) M Fi (hr.mono (by decide)) rfl gR kB (L2N.passes_call (L2N.takes_of rfl rfl rfl rfl) (fun _ _ _ _ h => h)) (pa_cons (pe_ix ix_list (pv 1) pe_int (fun _ _ => rfl)) pa_nil) (pk_cons (pe_ix ix_list (pv 1) pe_int (fun _ _ => rfl)) pk_nil))))
      pss_nil)
    (pss_one (ps_ret (pe_make (E := E) M Fi (hr.mono (by decide)) rfl gR b0 .nil (L2N.passes_call (L2N.takes_of rfl rfl rfl rfl) (fun _ _ _ _ h => h)) (pa_cons (pe_ix ix_list (pv 1) pe_int (fun _ _ => rfl)) (pa_cons (pv 2) (pa_cons (pe_ix ix_list (pv 1) pe_int (fun _ _ => rfl)) pa_nil)))))))))), ?_⟩
    have I : ∀ {σ : L2.St} {H' : Hp} (j : Nat) {v : V}, Ex H H' → σ[1]? = some (some (.ref a)) → [.str (sdS false), .str m, .str p, .ref l, .str b][j]? = some v → Ev (tOp (rIxL K) (tVar 1) (tC (.int (j : Int)))) σ H' v := fun j v e h0 hv => ev_ixL (ev_var h0) ev_c (e _ _ ha) (atI_nat hv)
    have mkc : ∀ {q' : Addr} {fs' : Fs} {b' : Str} {H2 : Hp}, Ex H H2 → fs' = fs → b' = b → FqAt K H2 q' fs' → ∀ x dx, H2 x = none → H2 dx = none → dx ≠ x → spCo K RS DV false [.ref x, .str m, .ref q', .str b'] (upd (upd H2 dx (.own x)) x (.ins RS dx [])) (fun v H3 => v = .non ∧ Q (.ref x) H3) E := fun {q' fs' b' H2} e e1 e2 hq' => by
      subst e1 e2
      exact co_mk (E := E) (R := RS) (DV := DV) (side := false) (w := ⟨false, m, p, fs', b'⟩) (Q := Q) rfl hq' hs (fun hn v l' H' nl ex hm => kt hn v l' H' (fresh_back e nl) (e.trans ex) hm) (fun n hn d H' hd ex hx => kf n hn d H' (fresh_back e hd) (e.trans ex) hx)
    have emp : ∀ {σ : L2.St} {H' : Hp}, Ex H H' → σ[1]? = some (some (.ref a)) → EvT (tTest (tOp (rEqD K) (tOp (rIxL K) (tVar 1) (tC (.int (3 : Int)))) (tLst tNil))) σ H' (decide (fs = [])) := fun e h0 => et_test (ev_opL (I 3 e h0 rfl) (el_lst ea_nil (by decide)) fun p H1 hp e1 => rv_eqFS (hf.ex (e.trans e1)) (fs_nil hp) hok okS_nil)
    have bem : ∀ {σ : L2.St} {H' : Hp}, Ex H H' → σ[1]? = some (some (.ref a)) → EvT (tTest (tOp rEq (tOp (rIxL K) (tVar 1) (tC (.int (4 : Int)))) (tC (.str "")))) σ H' (decide (b = "")) := fun e h0 => et_test (ev_op (I 4 e h0 rfl) ev_c rv_eqS)
    refine q_when (et_test (ev_op (ev_var rfl) ev_c rv_eqI)) (fun _ H1 e1 => ?_) (fun _ H1 e1 => ?_)
    · refine g_ret (rd_mkN (vs := []) ea_nil (ea_cons (I 4 e1 rfl rfl) (ea_cons (I 1 e1 rfl rfl) (ea_cons (ev_var rfl) ea_nil))) rfl rfl fun H2 e2 => ?_)
      exact mkc (e1.trans e2) rfl rfl (hq.ex (e1.trans e2))
    refine q_when (et_and (et_test (ev_op (ev_var rfl) ev_c rv_eqI)) fun _ => et_and (bem e1 rfl) fun _ => emp e1 rfl) (fun hb H2 e2 => ?_) (fun _ H2 e2 => ?_)
    · have hb2 := (Bool.and_eq_true_iff.mp hb).2
      obtain ⟨h1, h2⟩ := Bool.and_eq_true_iff.mp hb2
      have e12 := e1.trans e2
      refine g_ret (rd_mkS ((ea_cons (I 1 e12 rfl rfl) ea_nil) H2 (Ex.refl H2) _ fun H3 e3 => ?_))
      exact mkc (fs' := []) (b' := "") (e12.trans e3) (of_decide_eq_true h2).symm (of_decide_eq_true h1).symm ⟨[], .inr (hp0 _), Rel.nil⟩
    have e12 := e1.trans e2
    refine q_when (et_and (et_test (ev_op (ev_var rfl) ev_c rv_eqI)) fun _ => bem e12 rfl) (fun hb H3 e3 => ?_) (fun _ H3 e3 => ?_)
    · have h1 := (Bool.and_eq_true_iff.mp hb).2
      have e13 := e12.trans e3
      refine g_ret (rd_mkS ((ea_cons (I 1 e13 rfl rfl) (ea_cons (ev_var rfl) ea_nil)) H3 (Ex.refl H3) _ fun H4 e4 => ?_))
      exact mkc (b' := "") (e13.trans e4) rfl (of_decide_eq_true h1).symm (hq.ex (e13.trans e4))
    have e13 := e12.trans e3
    refine q_when (et_and (et_test (ev_op (ev_var rfl) ev_c rv_eqI)) fun _ => emp e13 rfl) (fun hb H4 e4 => ?_) (fun _ H4 e4 => ?_)
    · have h1 := (Bool.and_eq_true_iff.mp hb).2
      have e14 := e13.trans e4
      refine g_ret (rd_mkN (ea_cons (I 1 e14 rfl rfl) ea_nil) (ea_cons (I 4 e14 rfl rfl) ea_nil) rfl rfl fun H5 e5 => ?_)
      exact mkc (fs' := []) (e14.trans e5) (of_decide_eq_true h1).symm rfl ⟨[], .inr (hp0 _), Rel.nil⟩
    · have e14 := e13.trans e4
      refine g_ret (rd_mkS ((ea_cons (I 1 e14 rfl rfl) (ea_cons (ev_var rfl) (ea_cons (I 4 e14 rfl rfl) ea_nil))) H4 (Ex.refl H4) _ fun H5 e5 => ?_))
      exact mkc (e14.trans e5) rfl rfl (hq.ex (e14.trans e5))
end
end Z
set_option maxHeartbeats 4000000
namespace Z
open PySem PySem.Spec PyProof.Rows L2 TL Evl NdefX
structure CLq (P : Program) (w : World) (K : PySem.W.Frag) (mg : Str → Option Value) (base : Heap) (x : Str) (R DV : Addr) (side : Bool) : Prop where
  ex : ∃ f fd, FnOk P w K mg base (L2N.CX P w) 8 f fd ["way", "world", "given"] (spLq K R DV side) ∧ mg x = some (.ref f) ∧ PySem.W.keepIn K (.ref f) = true ∧ Binds K fd ["way", "world", "given"] []
def spLm (RQ RS : Addr) : Sp := fun vs H Q _ => ∃ (way : Int) (al : Bool) (v : V) (w : Wl) (l : Addr), vs = [.int way, .bl al, v] ∧ WlAt H v w l ∧ smallW w ∧ okS w.fs ∧
  (badW w = none → ∀ r u l' H', Ex H H' → H' r = some (.lst [.str "made", u]) → H l' = none → MeQ RQ RS H' u w l' → Q (.ref r) H') ∧
  (∀ n, badW w = some n → ∀ r H', Ex H H' → H' r = some (.lst [.str "refused", .str n]) → Q (.ref r) H')
theorem el_listG {K : PySem.W.Frag} {σ : L2.St} {H : Hp} {te : TE} {a : Addr} {xs : List V} (h : Ev te σ H (.ref a)) (hx : H a = some (.lst xs) ∨ SqT K H a xs) : EvL (tCB (rListS K) (tCons te tNil)) σ H xs := fun H1 e Q q =>
  h H1 e _ fun H2 e2 => ⟨a, xs, rfl, hx.imp (fun z => sq_of ((e.trans e2) _ _ z)) (fun z => ex_t (e.trans e2) z), fun p hp => q p _ (fresh_back e2 hp) (e2.trans (Ex.new hp)) upd_same⟩
theorem el_listS {K : PySem.W.Frag} {σ : L2.St} {H : Hp} {te : TE} {l : Addr} {xs : List V} (h : Ev te σ H (.ref l)) (hl : H l = some (.lst xs)) : EvL (tCB (rListS K) (tCons te tNil)) σ H xs := el_listG h (.inl hl)
abbrev tTru (K : PySem.W.Frag) (te : TE) : TT := fun σ H Q => te σ H fun x H' => ∃ k, TruV K x H' k ∧ Q k H'
section
variable {P : Program} {w : World} {K : PySem.W.Frag} {mg : Str → Option Value} {base : Heap} {f B RQ RS DV DH DM DI DR : Addr} {fd : FuncData} {k : Nat}
theorem ok_law_make (T : Mg mg) (W : Wo K mg B RQ RS) (WV : Wx K mg DV DH DM DI DR) (CQ : CLq P w K mg base "_law_request" RQ DV true) (CS : CLq P w K mg base "_law_response" RS DV false) (F : FnP K "_law_make" s_law_make f fd) (gm : mg "_law_make" = some (.ref f)) : Call P w K mg base 9 "_law_make" ["way", "as_list", "world"] (spLm RQ RS) := by
  obtain ⟨fQ, dQ, FQ, mQ, kpQ, bQ⟩ := CQ.ex
  obtain ⟨fS, dS, FS, mS, kpS, bS⟩ := CS.ex
  refine mk F gm (fun _ _ _ _ _ _ us hl => match us, hl with | [_, _, _], _ => rfl) (fun _ _ _ _ _ _ us hl => match us, hl with | [_, _, _], _ => rfl) sc_law_make (fun vs H Q E h => ?_) (fun cdv A outer s H vs Q E hr h => ?_)
  · obtain ⟨way, al, v, wl, l, rfl, _⟩ := h
    rfl
  · obtain ⟨way, al, v, wl, l, rfl, ⟨a, rfl, ha, hf⟩, hs, hok, kt, kf⟩ := h
    refine ⟨_, (pss_cons (ps_set (i := 3) sc_law_make.nd rfl (Or.inl rfl) (pe_callTy call_list_of (by rfl) T.list (by decide +kernel) (pa_cons (pe_ix ix_list (pv 2) pe_int (fun _ _ => rfl)) pa_nil)))
    (pss_cons (ps_if (pt_not (pt_truth (pv 1) (by intro _; rfl)))
      (pss_one (ps_set (i := 3) sc_law_make.nd rfl (Or.inl rfl) (pe_callTy call_tuple_of (by rfl) T.tuple (by decide +kernel) (pa_cons (pe_ix ix_list (pv 2) pe_int (fun _ _ => rfl)) pa_nil))))
      pss_nil)
    (pss_cons (ZX.ps_try_fst (i := 5) rfl rfl sc_law_make.nd rfl rfl ⟨rfl, by decide, .inl WV.mF⟩ (fun W' pn xe tk po => (pss_one (ps_if (pt_cmpR op_eq (inK (K := K) (t := fun K => tOp (rIxL K) _ _) rfl (pe_ix ix_list (pv 2) pe_int (fun _ _ => rfl))) pe_str (nomark _))
        (pss_one (ps_set (i := 4) sc_law_make.nd rfl (Or.inl rfl) (pe_callS (E := WE W') FQ (hr.mono (by decide)) rfl mQ kpQ bQ (fun σ => L2N.passAt tk σ) (pa_cons (pv 0) (pa_cons (pv 2) (pa_cons (pv 3) pa_nil))))))
        (pss_one (ps_set (i := 4) sc_law_make.nd rfl (Or.inl rfl) (pe_callS (E := WE W') FS (hr.mono (by decide)) rfl mS kpS bS (fun σ => L2N.passAt tk σ) (pa_cons (pv 0) (pa_cons (pv 2) (pa_cons (pv 3) pa_nil)))))))))
    (fun a oe cls d pn hz hf => (pss_cons (ps_set (i := 6) sc_law_make.nd rfl (Or.inl rfl) (pe_and (pe_callB (ZX.call_isEG hz.zc hf) (by rfl) T.isinstance (by decide +kernel) (pa_cons (pv 5) (pa_cons (pe_gc (v := .ref DH) rfl ⟨_, WV.mH, rfl⟩) pa_nil))) (pe_one (pe_callB (ZX.call_isEG hz.zc hf) (by rfl) T.isinstance (by decide +kernel) (pa_cons (pv 5) (pa_cons (pe_bltn (v := .ty "ValueError") (u := .type "ValueError") (by rfl) T.ValueError (by decide +kernel) rfl) pa_nil))))))
      (pss_cons (ps_if (PW.pt (pw_or (pt_not (pt_val (pv 6))) (pw_or1 (pt_val (pe_callB (ZX.call_isEU hz.zc hf) (by rfl) T.isinstance (by decide +kernel) (pa_cons (pv 5) (pa_cons (pe_tup (pa_cons (pe_gc (v := .ref DM) rfl ⟨_, WV.mM, rfl⟩) (pa_cons (pe_gc (v := .ref DI) rfl ⟨_, WV.mI, rfl⟩) (pa_cons (pe_gc (v := .ref DR) rfl ⟨_, WV.mR, rfl⟩) pa_nil)))) pa_nil)))))))
        (pss_one (ps_ret (pe_lst (pa_cons pe_str (pa_cons pe_str pa_nil)))))
        pss_nil)
      (pss_one (ps_ret (pe_lst (pa_cons pe_str (pa_cons (ZX.pe_xg hz.zc hf (pv 5)) pa_nil)))))))))
    (pss_cons (ps_if (pt_cmpR (op_neD hr.units) (pe_callTy call_list_of (by rfl) T.list (by decide +kernel) (pa_cons (pv 3) pa_nil)) (pe_ix ix_list (pv 2) pe_int (fun _ _ => rfl)) (nomark _))
      (pss_one (ps_ret (pe_lst (pa_cons pe_str (pa_cons pe_str pa_nil)))))
      pss_nil)
    (pss_cons (ps_if (pt_truth (pv 1) (by intro _; rfl))
      (pss_cons (ps_expr (pe_bm PySem.F.plainAttrs_list PySem.F.slot_list_append PySem.F.type_list_append mt_append (pv 3) (pa_cons (pe_tup (pa_cons pe_str (pa_cons pe_str pa_nil))) pa_nil)))
      (pss_one (ps_asg (pe_tup (pa_cons pe_str (pa_cons pe_str pa_nil))) (pg_sub (pv 3) pe_int set_list))))
      pss_nil)
    (pss_one (ps_ret (pe_lst (pa_cons pe_str (pa_cons (pv 4) pa_nil)))))))))), ?_⟩
    obtain ⟨xs, hx, hr0⟩ := id hf
    have I : ∀ {σ : L2.St} {H' : Hp} (j : Nat) {v : V}, Ex H H' → σ[2]? = some (some (.ref a)) → [.str (sdS wl.q), .str wl.m, .str wl.p, .ref l, .str wl.b][j]? = some v → Ev (tOp (rIxL K) (tVar 2) (tC (.int (j : Int)))) σ H' v := fun j v e h0 hv => ev_ixL (ev_var h0) ev_c (e _ _ ha) (atI_nat hv)
    refine q_asgL (el_listS (I 3 (Ex.refl H) rfl rfl) hx) fun g0 H1 ng0 e1 hg0 => ?_
    refine q_tailIf (fun σ1 Hx => ∃ g : Addr, σ1 = [some (.int way), some (.bl al), some (.ref a), some (.ref g), none, none, none] ∧ H g = none ∧ Ex H Hx ∧ (al = true → Hx g = some (.lst xs)) ∧ (al = false → Hx g = some (.tup xs))) (fun σ1 H2 hR => ?_) (fun tail => ?_)
    rotate_left
    · refine q_if (b := !al) (et_not (et_truB (ev_var rfl))) (fun hb H2 e2 => ?_) (fun hb H2 e2 => ?_)
      · have hal := (Bool.not_eq_true' _).mp hb
        refine s_asgR ((I 3 (e1.trans e2) rfl rfl) H2 (Ex.refl H2) _ fun H3 e3 => ⟨l, xs, rfl, .inl ⟨sq_of (((e1.trans e2).trans e3) _ _ hx), fun g ng => ?_⟩⟩)
        have e13 := (e1.trans e2).trans e3
        refine tail _ _ ⟨g, rfl, fresh_back e13 ng, e13.trans (Ex.new ng), fun h => ?_, fun _ => upd_same⟩
        rw [hal] at h; cases h
      · have hal := (Bool.not_eq_false' _).mp hb
        refine tail _ _ ⟨g0, rfl, ng0, e1.trans e2, fun _ => e2 _ _ hg0, fun h => ?_⟩
        rw [hal] at h; cases h
    obtain ⟨g, rfl, ng, e2, hgL, hgT⟩ := hR
    clear e1 hg0 ng0
    have hgx : H2 g = some (.lst xs) ∨ H2 g = some (.tup xs) := by
      cases al with
      | true => exact .inl (hgL rfl)
      | false => exact .inr (hgT rfl)
    have hq2 : FqAt K H2 g wl.fs := ⟨xs, hgx.imp id (fun z => st_of z), hr0.mono fun _ _ m => TupAt.ex m e2⟩
    have hwa : ∀ {H' : Hp}, Ex H H' → WlAt H' (.ref a) wl l := fun e => ⟨a, rfl, e _ _ ha, hf.ex e⟩
    -- what follows when the message is made
    have fin : ∀ (u : V) (l' : Addr) (H5 : Hp) (D : Ends), H2 l' = none → Ex H2 H5 → MeQ RQ RS H5 u wl l' → badW wl = none → D.rt = Q → tSeq (tIfS (tTest (tOp (rNeD K) (tCB (rListS K) (tCons (tVar 3) tNil)) (tOp (rIxL K) (tVar 2) (tC (.int 3))))) (tRet (tLst (tCons (tC (.str "other")) (tCons (tC (.str "")) tNil)))) tNext)
        (tSeq (tIfS (tTru K (tVar 1)) (tSeq (tDrop (tBM K "list" rAppend (tVar 3) (tCons (tTup (tCons (tC (.str "spoilt")) (tCons (tC (.str "1")) tNil))) tNil))) (tAsg (tTup (tCons (tC (.str "spoilt")) (tCons (tC (.str "2")) tNil))) (gSub (tVar 3) (tC (.int 0)) rSetL))) tNext) (tRet (tLst (tCons (tC (.str "made")) (tCons (tVar 4) tNil))))) D [some (.int way), some (.bl al), some (.ref a), some (.ref g), some u, none, none] H5 := fun u l' H5 D nl' e5 hm hn hD => by
      have e05 := e2.trans e5
      have nlg : l' ≠ g := fun e => by rw [e] at nl'; rcases hgx with z | z <;> (rw [z] at nl'; cases nl')
      have nlH : H l' = none := fresh_back e2 nl'
      have hg5 : H5 g = some (.lst xs) ∨ SqT K H5 g xs := hgx.imp (fun z => e5 _ _ z) (fun z => st_of (e5 _ _ z))
      refine q_when (b := false) (et_is (et_test (ev_opL1 (el_listG (ev_var rfl) hg5) (fun H6 e6 => I 3 (e05.trans e6) rfl rfl) fun p H6 hp e6 => rv_neFS ⟨xs, hp, hr0.mono fun _ _ m => TupAt.ex m (e05.trans e6)⟩ (hf.ex (e05.trans e6)) hok hok)) (by rw [decide_eq_true rfl]; rfl)) (fun h => nomatch h) (fun _ H6 e6 => ?_)
      refine q_tailIf (fun σ1 Hx => σ1 = [some (.int way), some (.bl al), some (.ref a), some (.ref g), some u, none, none] ∧ Ex H Hx ∧ MeQ RQ RS Hx u wl l') (fun σ1 H7 hR => ?_) (fun tail => ?_)
      · obtain ⟨rfl, e7, hm7⟩ := hR
        refine s_retL (el_lst (ea_cons ev_c (ea_cons (ev_var rfl) ea_nil)) (by show 2 ≤ 100000; decide)) fun r H8 nr e8 hr8 => ?_
        rw [hD]
        exact kt hn r u l' H8 (e7.trans e8) hr8 nlH (hm7.ex e8)
      · refine q_if (b := al) (et_truB (ev_var rfl)) (fun hb H7 e7 => ?_) (fun hb H7 e7 => ?_)
        · have hg6 := (e6.trans e7) _ _ (e5 _ _ (hgL hb))
          refine q_appU hg6 (ev_var rfl) (eu_tup (ea_cons ev_c (ea_cons ev_c ea_nil)) (by show 2 ≤ 100000; decide)) (by have := hs.2.2.1.1; rw [hr0.1]; omega) fun t H8 nt e8 ht => ?_
          have k8 : Keep g H5 (upd H8 g (.lst (xs ++ [.ref t]))) := (Keep.of ((e6.trans e7).trans e8)).upd
          have g8 : (upd H8 g (.lst (xs ++ [.ref t]))) g = some (.lst (xs ++ [.ref t])) := upd_same
          generalize upd H8 g (.lst (xs ++ [.ref t])) = H9 at k8 g8
          refine s_asgSub ?_
          refine (eu_tup (ea_cons ev_c (ea_cons ev_c ea_nil)) (by show 2 ≤ 100000; decide)) H9 (Ex.refl H9) _ fun t2 H10 nt2 e10 ht2 => ⟨.ref g, rfl, g, xs ++ [.ref t], 0, 0, rfl, rfl, e10 _ _ g8, ixN_nat (j := 0) (by rw [List.length_append]; exact Nat.succ_pos _), ?_⟩
          refine tail _ _ ⟨rfl, ?_, ?_⟩
          · have kk := (k8.trans (Keep.of e10)).upd (o := HO.lst ((xs ++ [V.ref t]).set 0 (V.ref t2)))
            exact fun c o hc => kk c o (ne_of_none hc ng) (e05 _ _ hc)
          · have kk := (k8.trans (Keep.of e10)).upd (o := HO.lst ((xs ++ [V.ref t]).set 0 (V.ref t2)))
            exact hm.keep kk ⟨xs, e5 _ _ (hgL hb)⟩ nlg
        · exact tail _ _ ⟨rfl, (e05.trans e6).trans e7, hm.ex (e6.trans e7)⟩
    have bad : ∀ (n : Str) (d e : Addr) (H5 : Hp) (D : Ends), badW wl = some n → Ex H2 H5 → H5 d = some (.xd [("name", .str n)]) → D.rt = Q →
        tSeq (tAsg (tAndV (tCB (ZX.rIsEG K e (.ref DV) (some d)) (tCons (tVar 5) (tCons (tC (.ref DH)) tNil))) (tCB (ZX.rIsEG K e (.ref DV) (some d)) (tCons (tVar 5) (tCons (tC (.ty "ValueError")) tNil)))) (gName 6))
        (tSeq (tIfS (tOr (tNot (tB (tVar 6))) (tB (tCB (ZX.rIsEU K e (.ref DV) (some d)) (tCons (tVar 5) (tCons (tTup (tCons (tC (.ref DM)) (tCons (tC (.ref DI)) (tCons (tC (.ref DR)) tNil)))) tNil))))) (tRet (tLst (tCons (tC (.str "other")) (tCons (tC (.str "")) tNil)))) tNext)
        (tRet (tLst (tCons (tC (.str "refused")) (tCons (ZX.tXg K e (.ref DV) (some d) "name" (tVar 5)) tNil))))) D [some (.int way), some (.bl al), some (.ref a), some (.ref g), none, some (.ref e), none] H5 := fun n d e H5 D hn e5 hx5 hD => by
      refine q_asg (v := .bl true) (ev_andV (a := true) (b := true) (ev_isEG WV.xF (ev_var rfl) ev_c (fun _ => relC) hx5 WV.iFH) fun _ => ev_isEG WV.xF (ev_var rfl) ev_c (fun _ => relT) hx5 WV.iFE) fun H6 e6 => ?_
      refine q_when (b := false) (et_is (et_or (a := false) (b := false) (et_not (a := true) (et_B (ev_var rfl))) fun _ => et_B (ev_isEU WV.xF (ev_var rfl) (eu_tup (ea_cons ev_c (ea_cons ev_c (ea_cons ev_c ea_nil))) (by show 3 ≤ 100000; decide)) (.cons (.own DM) (.cons (.own DI) (.cons (.own DR) .nil))) (e6 _ _ hx5) (kit3 WV.iFM WV.iFI WV.iFR))) rfl) (fun h => nomatch h) (fun _ H7 e7 => ?_)
      refine s_retL (el_lst (ea_cons ev_c (ea_cons (ev_xg WV.fF WV.nF (ev_var rfl) ((e6.trans e7) _ _ hx5) (by rfl)) ea_nil)) (by show 2 ≤ 100000; decide)) fun r H8 nr e8 hr8 => ?_
      rw [hD]
      exact kf n hn r H8 ((e2.trans e5).trans ((e6.trans e7).trans e8)) hr8
    refine q_in ?_
    dsimp only
    refine Evl.s_if (b := wl.q) (et_is (et_test (ev_op (I 0 e2 rfl rfl) ev_c rv_eqS)) (sd_asks wl.q)) (fun hb H3 e3 => ?_) (fun hb H3 e3 => ?_)
    · refine s_asgR (rd_callS (ea_cons (ev_var rfl) (ea_cons (ev_var rfl) (ea_cons (ev_var rfl) ea_nil))) fun H4 e4 => ⟨way, .ref a, wl, l, g, hb, rfl, hwa ((e2.trans e3).trans e4), hq2.ex (e3.trans e4), hs, hok, fun hn u l' H5 nl' e5 hm => ?_, fun n hn d H5 nd e5 hx5 => ?_⟩)
      · have e35 := (e3.trans e4).trans e5
        exact fin u l' H5 _ (fresh_back (e3.trans e4) nl') e35 (by unfold MeQ clB; rw [if_pos hb]; exact hm) hn rfl
      · refine ⟨WV.eFF, fun e he => ?_⟩
        exact bad n d e H5 _ hn ((e3.trans e4).trans e5) hx5 rfl
    · refine s_asgR (rd_callS (ea_cons (ev_var rfl) (ea_cons (ev_var rfl) (ea_cons (ev_var rfl) ea_nil))) fun H4 e4 => ⟨way, .ref a, wl, l, g, hb, rfl, hwa ((e2.trans e3).trans e4), hq2.ex (e3.trans e4), hs, hok, fun hn u l' H5 nl' e5 hm => ?_, fun n hn d H5 nd e5 hx5 => ?_⟩)
      · have e35 := (e3.trans e4).trans e5
        exact fin u l' H5 _ (fresh_back (e3.trans e4) nl') e35 (by unfold MeQ clB; rw [if_neg (by rw [hb]; exact Bool.false_ne_true)]; exact hm) hn rfl
      · refine ⟨WV.eFF, fun e he => ?_⟩
        exact bad n d e H5 _ hn ((e3.trans e4).trans e5) hx5 rfl
end
end Z
set_option maxHeartbeats 4000000
namespace Z
open PySem PySem.Spec PyProof.Rows L2 TL Evl NdefX
/-! ### what a message tells -/
structure Pr1 (P : Program) (w : World) (K : PySem.W.Frag) (mg : Str → Option Value) (base : Heap) (R : Addr) (m : Str) (sp : Sp) : Prop where
  ex : ∃ g r fd, PropOf K R m g r ∧ FnOk P w K mg base CX0 1 r fd ["self"] sp ∧ Binds K fd ["self"] []
abbrev snN : List Str := ["self", "name"]
structure Mtd (P : Program) (w : World) (K : PySem.W.Frag) (mg : Str → Option Value) (base : Heap) (C DV : Addr) (side : Bool) : Prop where
  ps : Pr1 P w K mg base C "start" (spPs C)
  pm : Pr1 P w K mg base C "may_have_body" (spPm C)
  st : ∃ g, PySem.W.findIn K (.ref C) "__str__" = some (some (.ref g)) ∧ PySem.W.isFn K (.ref g) = true ∧ FnR P w K mg base CX0 1 g (spPs C)
  av : ∃ f fd, Meth K C "all_values" f ∧ FnOk P w K mg base CX0 1 f fd snN (spAv C) ∧ Binds K fd snN []
  va : ∃ f fd gg, Meth K C "value" f ∧ FnOk P w K mg base (L2N.CX P w) 1 f fd snN (spVa C) ∧ Binds K fd snN [] ∧ KBn K fd snN 1 ["name"] gg (fun vs zs => vs ++ zs)
  jn : ∃ f fd gg, Meth K C "joined" f ∧ FnOk P w K mg base CX0 2 f fd snN (spJn C) ∧ Binds K fd snN [] ∧ KBn K fd snN 1 ["name"] gg (fun vs zs => vs ++ zs)
  wf : ∃ f fd gg, Meth K C "with_field" f ∧ FnOk P w K mg base (L2N.CX P w) 9 f fd ["self", "name", "value"] (spWf C DV side) ∧ KBn K fd ["self", "name", "value"] 1 ["value", "name"] gg (fun vs zs => vs ++ zs.drop 1 ++ zs.take 1)
  wo : ∃ f, Meth K C "without" f ∧ FnR P w K mg base CX0 10 f (spWoR K C side)
section
variable {K : PySem.W.Frag} {C RQ RS : Addr} {σ : L2.St} {H : Hp} {te tn : TE} {v : V} {w : Wl} {l : Addr} {n : Str} {E E1 E2 : XK}
theorem ev_psC (hm : MeC C H v w l) (h : Ev te σ H v) : Ev (tProp C (spPs C) [] E te) σ H (.str (stW w)) := fun H1 e Q q => h H1 e _ fun H2 e2 => by
  obtain ⟨a, dx, rfl, ha, hf⟩ := id (hm.ex (e.trans e2))
  exact ⟨a, dx, _, rfl, ha, .ref a, w, l, rfl, hm.ex (e.trans e2), fun H3 e3 => q H3 (e2.trans e3)⟩
theorem ev_pmC (hm : MeC C H v w l) (h : Ev te σ H v) : Ev (tProp C (spPm C) [] E te) σ H (.bl (hbW w)) := fun H1 e Q q => h H1 e _ fun H2 e2 => by
  obtain ⟨a, dx, rfl, ha, hf⟩ := id (hm.ex (e.trans e2))
  exact ⟨a, dx, _, rfl, ha, .ref a, w, l, rfl, hm.ex (e.trans e2), fun H3 e3 => q H3 (e2.trans e3)⟩
theorem ev_stC (hm : MeC C H v w l) (h : Ev te σ H v) : Ev (tCB (ZX.rStrOwn C (spPs C) E) (tCons te tNil)) σ H (.str (stW w)) := fun H1 e Q q => h H1 e _ fun H2 e2 => by
  obtain ⟨a, dx, rfl, ha, hf⟩ := id (hm.ex (e.trans e2))
  exact ⟨a, dx, _, rfl, ha, .ref a, w, l, rfl, hm.ex (e.trans e2), fun H3 e3 => ⟨_, rfl, q H3 (e2.trans e3)⟩⟩
theorem meq_t (hq : w.q = true) (h : MeQ RQ RS H v w l) : MeC RQ H v w l := by
  unfold MeQ clB at h
  rw [if_pos hq] at h
  exact h
theorem meq_f (hq : w.q = false) (h : MeQ RQ RS H v w l) : MeC RS H v w l := by
  unfold MeQ clB at h
  rw [if_neg (by rw [hq]; exact Bool.false_ne_true)] at h
  exact h
theorem ev_start (hm : MeQ RQ RS H v w l) (h : Ev te σ H v) : Ev (fun σ H Q => tProp RQ (spPs RQ) [] E1 te σ H Q ∨ tProp RS (spPs RS) [] E2 te σ H Q) σ H (.str (stW w)) := ev_or (b := w.q) (fun hq => ev_psC (meq_t hq hm) h) (fun hq => ev_psC (meq_f hq hm) h)
theorem ev_may (hm : MeQ RQ RS H v w l) (h : Ev te σ H v) : Ev (fun σ H Q => tProp RQ (spPm RQ) [] E1 te σ H Q ∨ tProp RS (spPm RS) [] E2 te σ H Q) σ H (.bl (hbW w)) := ev_or (b := w.q) (fun hq => ev_pmC (meq_t hq hm) h) (fun hq => ev_pmC (meq_f hq hm) h)
theorem ev_strM (hm : MeQ RQ RS H v w l) (h : Ev te σ H v) : Ev (tCB (fun xs H Q => ZX.rStrOwn RQ (spPs RQ) E1 xs H Q ∨ ZX.rStrOwn RS (spPs RS) E2 xs H Q) (tCons te tNil)) σ H (.str (stW w)) := fun H1 e Q q => h H1 e _ fun H2 e2 => by
  have hm2 := hm.ex (e.trans e2)
  have q2 : ∀ H3, Ex H2 H3 → Q (.str (stW w)) H3 := fun H3 e3 => q H3 (e2.trans e3)
  cases hq : w.q with
  | true =>
    have hc := meq_t hq hm2
    obtain ⟨a, dx, rfl, ha, hf⟩ := id hc
    exact Or.inl ⟨a, dx, _, rfl, ha, .ref a, w, l, rfl, hc, fun H3 e3 => ⟨_, rfl, q2 H3 e3⟩⟩
  | false =>
    have hc := meq_f hq hm2
    obtain ⟨a, dx, rfl, ha, hf⟩ := id hc
    exact Or.inr ⟨a, dx, _, rfl, ha, .ref a, w, l, rfl, hc, fun H3 e3 => ⟨_, rfl, q2 H3 e3⟩⟩
end
theorem bad_none {w : Wl} (h : badW w = none) : areB w.fs = true ∧ bodyB w.b = true ∧ (w.b = "" ∨ hbW w = true) ∧ (w.q = true → w.m ∈ mdL ∧ pathB w.p = true) ∧ (w.q = false → w.m ∈ stL) := by
  obtain ⟨q, m, p, fs, b⟩ := w
  unfold badW at h
  have hM : ∀ hb, badM fs hb b = none → areB fs = true ∧ bodyB b = true ∧ (b = "" ∨ hb = true) := fun hb h => by
    unfold badM at h
    split at h
    · cases h
    · split at h
      · cases h
      · rename_i h1 h2
        refine ⟨(Bool.not_eq_false _).mp h1, (Bool.not_eq_false _).mp fun z => h2 (.inl z), ?_⟩
        by_cases hb0 : b = ""
        · exact .inl hb0
        · exact .inr ((Bool.not_eq_false _).mp fun z => h2 (.inr ⟨hb0, z⟩))
  cases q with
  | true =>
    rw [if_pos rfl] at h
    split at h
    · cases h
    · split at h
      · cases h
      · rename_i h1 h2
        obtain ⟨g1, g2, g3⟩ := hM _ h
        exact ⟨g1, g2, g3, fun _ => ⟨Decidable.not_not.mp h1, (Bool.not_eq_false _).mp h2⟩, fun z => by cases z⟩
  | false =>
    rw [if_neg Bool.false_ne_true] at h
    split at h
    · cases h
    · rename_i h1
      obtain ⟨g1, g2, g3⟩ := hM _ h
      exact ⟨g1, g2, g3, fun z => by (cases z), fun _ => Decidable.not_not.mp h1⟩
def spSm (RQ RS : Addr) : Sp := fun vs H Q _ => ∃ u v w l l', vs = [u, v] ∧ MeQ RQ RS H u w l' ∧ WlAt H v w l ∧ smallW w ∧ areB w.fs = true ∧ RetV (.bl true) H Q
section
variable {P : Program} {w : World} {K : PySem.W.Frag} {mg : Str → Option Value} {base : Heap} {f B RQ RS DV DH DM DI DR : Addr} {fd : FuncData} {k : Nat}
theorem ok_law_same (T : Mg mg) (W : Wo K mg B RQ RS) (MQ : Mtd P w K mg base RQ DV true) (MS : Mtd P w K mg base RS DV false) (c_law_start : Call P w K mg base 1 "_law_start" ["world"] spSrt) (c_law_may : Call P w K mg base 1 "_law_may" ["side", "first"] spMy)
    (F : FnP K "_law_same" s_law_same f fd) (gm : mg "_law_same" = some (.ref f)) : Call P w K mg base 4 "_law_same" ["told", "world"] (spSm RQ RS) := by
  obtain ⟨gqs, rqs, dqs, oqs, Fqs, bqs⟩ := MQ.ps.ex
  obtain ⟨gss, rss, dss, oss, Fss, bss⟩ := MS.ps.ex
  obtain ⟨gqm, rqm, dqm, oqm, Fqm, bqm⟩ := MQ.pm.ex
  obtain ⟨gsm, rsm, dsm, osm, Fsm, bsm⟩ := MS.pm.ex
  obtain ⟨ftq, hq1, hq2, Ftq⟩ := MQ.st
  obtain ⟨fts, hs1, hs2, Fts⟩ := MS.st
  have cq := W.wq.wm.cls
  have cs := W.ws.cls
  refine mk F gm (fun _ _ _ _ _ _ us hl => match us, hl with | [_, _], _ => rfl) (fun _ _ _ _ _ _ us hl => match us, hl with | [_, _], _ => rfl) sc_law_same (fun vs H Q E h => ?_) (fun cdv A outer s H vs Q E hr h => ?_)
  · obtain ⟨u, v, w, l, l', rfl, _⟩ := h
    rfl
  · obtain ⟨u, v, wl, l, l', rfl, hm, hw, hs, hok, q⟩ := h
    refine ⟨_, (pss_cons (ps_if (pt_not (pt_val (pe_callB call_isi (by rfl) T.isinstance (by decide +kernel) (pa_cons (pv 0) (pa_cons (pe_gc (v := .ref B) rfl ⟨_, W.mB, rfl⟩) pa_nil)))))
      (pss_one (ps_ret pe_bl))
      pss_nil)
    (pss_cons (ps_if (pt_cmpR op_eq (pe_ix ix_list (pv 1) pe_int (fun _ _ => rfl)) pe_str (nomark _))
      (pss_cons (ps_if (PW.pt (pw_or (pt_not (pt_val (pe_callB call_isi (by rfl) T.isinstance (by decide +kernel) (pa_cons (pv 0) (pa_cons (pe_gc (v := .ref RQ) rfl ⟨_, W.wq.m, rfl⟩) pa_nil))))) (pw_or1 (pt_val (pe_callB call_isi (by rfl) T.isinstance (by decide +kernel) (pa_cons (pv 0) (pa_cons (pe_gc (v := .ref RS) rfl ⟨_, W.ws.m, rfl⟩) pa_nil)))))))
        (pss_one (ps_ret pe_bl))
        pss_nil)
      (pss_one (ps_if (PW.pt (pw_or (pt_cmpR op_ne (pe_fld (pv 0) rfl) (pe_ix ix_list (pv 1) pe_int (fun _ _ => rfl)) (nomark _)) (pw_or1 (pt_cmpR op_ne (pe_fld (pv 0) rfl) (pe_ix ix_list (pv 1) pe_int (fun _ _ => rfl)) (nomark _)))))
        (pss_one (ps_ret pe_bl))
        pss_nil)))
      (pss_one (ps_if (PW.pt (pw_or (pt_not (pt_val (pe_callB call_isi (by rfl) T.isinstance (by decide +kernel) (pa_cons (pv 0) (pa_cons (pe_gc (v := .ref RS) rfl ⟨_, W.ws.m, rfl⟩) pa_nil))))) (pw_or (pt_val (pe_callB call_isi (by rfl) T.isinstance (by decide +kernel) (pa_cons (pv 0) (pa_cons (pe_gc (v := .ref RQ) rfl ⟨_, W.wq.m, rfl⟩) pa_nil)))) (pw_or1 (pt_cmpR op_ne (pe_fld (pv 0) rfl) (pe_ix ix_list (pv 1) pe_int (fun _ _ => rfl)) (nomark _))))))
        (pss_one (ps_ret pe_bl))
        pss_nil)))
    (pss_cons (ps_if (PW.pt (pw_or (pt_not (pt_val (pe_callB call_isi (by rfl) T.isinstance (by decide +kernel) (pa_cons (pe_fld (pv 0) rfl) (pa_cons (pe_bltn (v := .ty "list") (u := .type "list") (by rfl) T.list (by decide +kernel) rfl) pa_nil))))) (pw_or1 (pt_cmpR (op_neD hr.units) (pe_fld (pv 0) rfl) (pe_ix ix_list (pv 1) pe_int (fun _ _ => rfl)) (nomark _)))))
      (pss_one (ps_ret pe_bl))
      pss_nil)
    (pss_cons (ps_if (PW.pt (pw_or (pt_cmpR op_ne (ZX.pe_either (pe_prop (pv 0) cq oqs Fqs (hr.mono (by decide)) bqs .nil pass0 rfl) (pe_prop (pv 0) cs oss Fss (hr.mono (by decide)) bss .nil pass0 rfl)) (pe_f c_law_start hr (by decide) rfl (pa_cons (pv 1) pa_nil)) (nomark _)) (pw_or (pt_cmpR op_ne (pe_callTy (ZX.call_either (ZX.call_strOwn (E := E0) hq1 hq2 Ftq (hr.mono (by decide)) (fun _ _ _ _ h => h.elim)) (ZX.call_strOwn (E := E0) hs1 hs2 Fts (hr.mono (by decide)) (fun _ _ _ _ h => h.elim))) (by rfl) T.str (by decide +kernel) (pa_cons (pv 0) pa_nil)) (pe_f c_law_start hr (by decide) rfl (pa_cons (pv 1) pa_nil)) (nomark _)) (pw_or1 (pt_cmpR op_ne (pe_fld (pv 0) rfl) (pe_ix ix_list (pv 1) pe_int (fun _ _ => rfl)) (nomark _))))))
      (pss_one (ps_ret pe_bl))
      pss_nil)
    (pss_cons (ps_set (i := 2) sc_law_same.nd rfl (Or.inl rfl) (ZX.pe_either (pe_prop (pv 0) cq oqm Fqm (hr.mono (by decide)) bqm .nil pass0 rfl) (pe_prop (pv 0) cs osm Fsm (hr.mono (by decide)) bsm .nil pass0 rfl)))
    (pss_one (ps_ret (pe_and (pe_callB call_isi (by rfl) T.isinstance (by decide +kernel) (pa_cons (pv 2) (pa_cons (pe_bltn (v := .ty "bool") (u := .type "bool") (by rfl) T.bool (by decide +kernel) rfl) pa_nil))) (pe_one (pe_cmpR op_eq (pv 2) (pe_f c_law_may hr (by decide) rfl (pa_cons (pe_ix ix_list (pv 1) pe_int (fun _ _ => rfl)) (pa_cons (pe_ix ix_list (pv 1) pe_int (fun _ _ => rfl)) pa_nil))) (nomark _))))))))))), ?_⟩
    obtain ⟨a, rfl, ha, hf⟩ := id hw
    have W1 := W.at_ wl.q
    obtain ⟨am, dm, rfl, ham, hfm⟩ := id hm
    have kB := W.kB wl.q
    have kQ := W.kQ wl.q
    have kS := W.kS wl.q
    have I : ∀ {σ : L2.St} {H' : Hp} (j : Nat) {v : V}, Ex H H' → σ[1]? = some (some (.ref a)) → [.str (sdS wl.q), .str wl.m, .str wl.p, .ref l, .str wl.b][j]? = some v → Ev (tOp (rIxL K) (tVar 1) (tC (.int (j : Int)))) σ H' v := fun j v e h0 hv => ev_ixL (ev_var h0) ev_c (e _ _ ha) (atI_nat hv)
    refine q_when (b := false) (et_not (a := true) (et_B (ev_isiM W hm kB (ev_var rfl) ev_c))) (fun h => nomatch h) (fun _ H1 e1 => ?_)
    refine q_tailIf (fun σ1 Hx => σ1 = [some (.ref am), some (.ref a), none] ∧ Ex H Hx) (fun σ1 H2 hR => ?_) (fun tail => ?_)
    · obtain ⟨rfl, e2⟩ := hR
      have hm2 := hm.ex e2
      have hw2 := hw.ex e2
      refine q_when (b := false) (et_is (et_or (a := false) (et_not (a := true) (et_B (ev_isi (b := true) (ev_mfld W1.cls W1.n3 (ev_var rfl) (e2 _ _ ham) me_fields) (fun H3 e3 => by
        obtain ⟨xs, hx, _⟩ := hfm.ex (e2.trans e3)
        exact .base (.lst hx)) (kit_ty (by decide +kernel))))) fun _ => et_test (ev_op (ev_mfld W1.cls W1.n3 (ev_var rfl) (e2 _ _ ham) me_fields) (I 3 e2 rfl rfl) (rv_neFS (hfm.ex e2) (hf.ex e2) (okF_okS (areB_ok hok)) (okF_okS (areB_ok hok))))) (by rw [decide_eq_true rfl]; rfl)) (fun h => nomatch h) (fun _ H3 e3 => ?_)
      have e03 := e2.trans e3
      refine q_when (b := false) (et_is (et_or (et_test (ev_op (ev_start (hm2.ex e3) (ev_var rfl)) (ev_call (ea_cons (ev_var rfl) ea_nil) fun H4 e4 Q' q' E' => ⟨.ref a, wl, l, rfl, hw.ex (e03.trans e4), hs, q'⟩) rv_neS)) fun _ => et_or (et_test (ev_op (ev_strM (hm2.ex e3) (ev_var rfl)) (ev_call (ea_cons (ev_var rfl) ea_nil) fun H4 e4 Q' q' E' => ⟨.ref a, wl, l, rfl, hw.ex (e03.trans e4), hs, q'⟩) rv_neS)) fun _ => et_test (ev_op (ev_mfld W1.cls W1.n4 (ev_var rfl) (e03 _ _ ham) me_body) (I 4 e03 rfl rfl) rv_neS)) (by rw [decide_eq_true rfl, decide_eq_true rfl]; rfl)) (fun h => nomatch h) (fun _ H4 e4 => ?_)
      refine q_asg (v := .bl (hbW wl)) (ev_may (hm2.ex (e3.trans e4)) (ev_var rfl)) fun H5 e5 => ?_
      have e05 := (e03.trans e4).trans e5
      refine s_ret (v := .bl true) (ev_is (ev_andV (a := true) (b := decide (V.bl (hbW wl) = V.bl (hbW wl))) (ev_isi (b := true) (ev_var rfl) (fun H1 _ => .base (.bl _)) (kit_ty (by decide +kernel))) fun _ => ev_op (ev_var rfl) (ev_call (ea_cons (I 0 e05 rfl rfl) (ea_cons (I 1 e05 rfl rfl) ea_nil)) fun H6 e6 Q' q' E' => ⟨wl, rfl, q'⟩) (rv_eq rfl)) (by rw [decide_eq_true rfl]; rfl)) fun H6 e6 => q H6 (e05.trans e6)
    · refine q_if (b := wl.q) (et_is (et_test (ev_op (I 0 e1 rfl rfl) ev_c rv_eqS)) (sd_asks wl.q)) (fun hb H2 e2 => ?_) (fun hb H2 e2 => ?_)
      · have e12 := e1.trans e2
        have hq := hb
        refine q_when (b := false) (et_is (et_or (a := !wl.q) (b := !wl.q) (et_not (et_B (ev_isiM W (hm.ex e12) kQ (ev_var rfl) ev_c))) fun _ => et_B (ev_isiM W (hm.ex e12) kS (ev_var rfl) ev_c)) (by rw [hb]; rfl)) (fun h => nomatch h) (fun _ H3 e3 => ?_)
        have e13 := e12.trans e3
        have hc := meq_t hb hm
        obtain ⟨a', d', ea, hac, hfc⟩ := hc
        cases ea
        refine s_when (b := false) (et_is (et_or (et_test (ev_op (ev_mfld W.wq.wm.cls W.wq.n5 (ev_var rfl) (e13 _ _ hac) (me_method hb)) (I 1 e13 rfl rfl) rv_neS)) fun _ => et_test (ev_op (ev_mfld W.wq.wm.cls W.wq.n6 (ev_var rfl) (e13 _ _ hac) (me_path hb)) (I 2 e13 rfl rfl) rv_neS)) (by rw [decide_eq_true rfl, decide_eq_true rfl]; rfl)) (fun h => nomatch h) (fun _ H4 e4 => tail _ _ ⟨rfl, e13.trans e4⟩)
      · have e12 := e1.trans e2
        have hc := meq_f hb hm
        obtain ⟨a', d', ea, hac, hfc⟩ := hc
        cases ea
        refine s_when (b := false) (et_is (et_or (a := wl.q) (et_is (et_not (et_B (ev_isiM W (hm.ex e12) kS (ev_var rfl) ev_c))) (Bool.not_not _)) fun _ => et_or (a := wl.q) (et_B (ev_isiM W (hm.ex e12) kQ (ev_var rfl) ev_c)) fun _ => et_test (ev_op (ev_mfld W.ws.cls W.ws.n5 (ev_var rfl) (e12 _ _ hac) (me_status hb)) (I 1 e12 rfl rfl) rv_neS)) (by rw [hb, decide_eq_true rfl]; rfl)) (fun h => nomatch h) (fun _ H4 e4 => tail _ _ ⟨rfl, e12.trans e4⟩)
end
end Z
set_option maxHeartbeats 4000000
namespace Z
open PySem PySem.Spec PyProof.Rows L2 TL Evl NdefX
/-! ### values of a name -/
theorem eqv_strs : ∀ ss : List Str, PyData.eqvAll (ss.map PyData.str) (ss.map PyData.str) = true
  | [] => by simp [PyData.eqvAll]
  | i :: r => by simp [PyData.eqvAll, PyData.eqv, eqv_strs r]
section
variable {K : PySem.W.Frag} {H : Hp} {p q : Addr} {ss : List Str}
theorem rv_neSS (h1 : H p = some (.lst (ss.map V.str))) (h2 : H q = some (.lst (ss.map V.str))) (k : ∀ s ∈ ss, PyData.strOk s = true) : RV (rNeD K) (.ref p) (.ref q) H (.bl false) := by
  have h := rv_ndat (K := K) (H := H) (x := .ref p) (y := .ref q) (fun H1 e => .lst (sq_of (e _ _ h1)) (dp_strs ss)) (fun H1 e => .lst (sq_of (e _ _ h2)) (dp_strs ss)) (shaped_strs _ k) (shaped_strs _ k)
  have e1 : PyData.eqv (.list (ss.map PyData.str)) (.list (ss.map PyData.str)) = true := by
    simp only [PyData.eqv]
    exact eqv_strs ss
  rw [e1] at h
  exact h
theorem rv_eqS0 (h1 : H p = some (.lst (ss.map V.str))) (h2 : H q = some (.lst [])) (k : ∀ s ∈ ss, PyData.strOk s = true) : RV (rEqD K) (.ref p) (.ref q) H (.bl (decide (ss = []))) := by
  have h := rv_dat (K := K) (H := H) (x := .ref p) (y := .ref q) (e := .list []) (fun H1 e => .lst (sq_of (e _ _ h1)) (dp_strs ss)) (fun H1 e => .lst (sq_of (e _ _ h2)) .nil) (shaped_strs _ k) rfl
  have e1 : PyData.eqv (.list (ss.map PyData.str)) (.list []) = decide (ss = []) := by
    cases ss <;> simp [PyData.eqv, PyData.eqvAll]
  rw [e1] at h
  exact h
end
section
variable {K : PySem.W.Frag} {C RQ RS : Addr} {σ : L2.St} {H : Hp} {te tn : TE} {v : V} {w : Wl} {l : Addr} {n : Str} {E E1 E2 : XK}
theorem el_avC (hm : MeC C H v w l) (hz : w.fs.length ≤ 40) (h : Ev te σ H v) (hn : Ev tn σ H (.str n)) : EvL (tMeth C "all_values" (spAv C) [] E te (tCons tn tNil)) σ H ((valsF w.fs n).map V.str) := fun H1 e Q q => h H1 e _ fun H2 e2 => by
  obtain ⟨a, dx, rfl, ha, hf⟩ := id (hm.ex (e.trans e2))
  exact ⟨a, dx, _, rfl, ha, me_no _ (by simp), hn H2 (e.trans e2) _ fun H3 e3 => ⟨.ref a, n, w, l, rfl, hm.ex ((e.trans e2).trans e3), hz, fun p H4 np e4 hp => q p H4 (fresh_back (e2.trans e3) np) ((e2.trans e3).trans e4) hp⟩⟩
theorem el_av (hm : MeQ RQ RS H v w l) (hz : w.fs.length ≤ 40) (h : Ev te σ H v) (hn : Ev tn σ H (.str n)) : EvL (fun σ H Q => tMeth RQ "all_values" (spAv RQ) [] E1 te (tCons tn tNil) σ H Q ∨ tMeth RS "all_values" (spAv RS) [] E2 te (tCons tn tNil) σ H Q) σ H ((valsF w.fs n).map V.str) := el_or (b := w.q) (fun hq => el_avC (meq_t hq hm) hz h hn) (fun hq => el_avC (meq_f hq hm) hz h hn)
theorem ev_vaC (hm : MeC C H v w l) (hz : w.fs.length ≤ 40) (h : Ev te σ H v) (hn : Ev tn σ H (.str n)) : Ev (tMeth C "value" (spVa C) [] E te (tCons tn tNil)) σ H (optV (valsF w.fs n).head?) := fun H1 e Q q => h H1 e _ fun H2 e2 => by
  obtain ⟨a, dx, rfl, ha, hf⟩ := id (hm.ex (e.trans e2))
  exact ⟨a, dx, _, rfl, ha, me_no _ (by simp), hn H2 (e.trans e2) _ fun H3 e3 => ⟨.ref a, n, w, l, rfl, hm.ex ((e.trans e2).trans e3), hz, fun H4 e4 => q H4 ((e2.trans e3).trans e4)⟩⟩
theorem ev_va (hm : MeQ RQ RS H v w l) (hz : w.fs.length ≤ 40) (h : Ev te σ H v) (hn : Ev tn σ H (.str n)) : Ev (fun σ H Q => tMeth RQ "value" (spVa RQ) [] E1 te (tCons tn tNil) σ H Q ∨ tMeth RS "value" (spVa RS) [] E2 te (tCons tn tNil) σ H Q) σ H (optV (valsF w.fs n).head?) := ev_or (b := w.q) (fun hq => ev_vaC (meq_t hq hm) hz h hn) (fun hq => ev_vaC (meq_f hq hm) hz h hn)
theorem ev_jnC (hm : MeC C H v w l) (hz : areB w.fs = true) (h : Ev te σ H v) (hn : Ev tn σ H (.str n)) : Ev (tMeth C "joined" (spJn C) [] E te (tCons tn tNil)) σ H (optV (joinF w.fs n)) := fun H1 e Q q => h H1 e _ fun H2 e2 => by
  obtain ⟨a, dx, rfl, ha, hf⟩ := id (hm.ex (e.trans e2))
  exact ⟨a, dx, _, rfl, ha, me_no _ (by simp), hn H2 (e.trans e2) _ fun H3 e3 => ⟨.ref a, n, w, l, rfl, hm.ex ((e.trans e2).trans e3), hz, fun H4 e4 => q H4 ((e2.trans e3).trans e4)⟩⟩
theorem ev_jn (hm : MeQ RQ RS H v w l) (hz : areB w.fs = true) (h : Ev te σ H v) (hn : Ev tn σ H (.str n)) : Ev (fun σ H Q => tMeth RQ "joined" (spJn RQ) [] E1 te (tCons tn tNil) σ H Q ∨ tMeth RS "joined" (spJn RS) [] E2 te (tCons tn tNil) σ H Q) σ H (optV (joinF w.fs n)) := ev_or (b := w.q) (fun hq => ev_jnC (meq_t hq hm) hz h hn) (fun hq => ev_jnC (meq_f hq hm) hz h hn)
theorem ev_vkC (hm : MeC C H v w l) (hz : w.fs.length ≤ 40) (h : Ev te σ H v) (hn : Ev tn σ H (.str n)) : Ev (ZX.tMethK C "value" 1 (spVa C) (fun vs zs => vs ++ zs) E te (tCons tn tNil)) σ H (optV (valsF w.fs n).head?) := fun H1 e Q q => h H1 e _ fun H2 e2 => by
  obtain ⟨a, dx, rfl, ha, hf⟩ := id (hm.ex (e.trans e2))
  exact ⟨a, dx, _, rfl, ha, me_no _ (by simp), hn H2 (e.trans e2) _ fun H3 e3 => ⟨rfl, .ref a, n, w, l, rfl, hm.ex ((e.trans e2).trans e3), hz, fun H4 e4 => q H4 ((e2.trans e3).trans e4)⟩⟩
theorem ev_vk (hm : MeQ RQ RS H v w l) (hz : w.fs.length ≤ 40) (h : Ev te σ H v) (hn : Ev tn σ H (.str n)) : Ev (fun σ H Q => ZX.tMethK RQ "value" 1 (spVa RQ) (fun vs zs => vs ++ zs) E1 te (tCons tn tNil) σ H Q ∨ ZX.tMethK RS "value" 1 (spVa RS) (fun vs zs => vs ++ zs) E2 te (tCons tn tNil) σ H Q) σ H (optV (valsF w.fs n).head?) := ev_or (b := w.q) (fun hq => ev_vkC (meq_t hq hm) hz h hn) (fun hq => ev_vkC (meq_f hq hm) hz h hn)
theorem ev_jkC (hm : MeC C H v w l) (hz : areB w.fs = true) (h : Ev te σ H v) (hn : Ev tn σ H (.str n)) : Ev (ZX.tMethK C "joined" 1 (spJn C) (fun vs zs => vs ++ zs) E te (tCons tn tNil)) σ H (optV (joinF w.fs n)) := fun H1 e Q q => h H1 e _ fun H2 e2 => by
  obtain ⟨a, dx, rfl, ha, hf⟩ := id (hm.ex (e.trans e2))
  exact ⟨a, dx, _, rfl, ha, me_no _ (by simp), hn H2 (e.trans e2) _ fun H3 e3 => ⟨rfl, .ref a, n, w, l, rfl, hm.ex ((e.trans e2).trans e3), hz, fun H4 e4 => q H4 ((e2.trans e3).trans e4)⟩⟩
theorem ev_jk (hm : MeQ RQ RS H v w l) (hz : areB w.fs = true) (h : Ev te σ H v) (hn : Ev tn σ H (.str n)) : Ev (fun σ H Q => ZX.tMethK RQ "joined" 1 (spJn RQ) (fun vs zs => vs ++ zs) E1 te (tCons tn tNil) σ H Q ∨ ZX.tMethK RS "joined" 1 (spJn RS) (fun vs zs => vs ++ zs) E2 te (tCons tn tNil) σ H Q) σ H (optV (joinF w.fs n)) := ev_or (b := w.q) (fun hq => ev_jkC (meq_t hq hm) hz h hn) (fun hq => ev_jkC (meq_f hq hm) hz h hn)
end
def spVr (RQ RS : Addr) : Sp := fun vs H Q _ => ∃ u l n w l', vs = [u, .ref l, .str n] ∧ MeQ RQ RS H u w l' ∧ FsAt H l w.fs ∧ areB w.fs = true ∧ RetV (.bl true) H Q
theorem ev_joinL {K : PySem.W.Frag} {σ : L2.St} {H : Hp} {te : TE} {q : Addr} {zs : List Str} {sep : Str} (h : Ev te σ H (.ref q)) (hq : H q = some (.lst (zs.map V.str))) (hb : (zs.map (·.length)).sum + zs.length * sep.length ≤ 100000) : Ev (tBM K "str" (rJoin K) (tC (.str sep)) (tCons te tNil)) σ H (.str (Txt.join sep zs)) := fun H1 e Q k =>
  ⟨rfl, h H1 e _ fun H2 e2 => ⟨sep, q, zs, rfl, rfl, .inl (sq_of ((e.trans e2) _ _ hq)), Nat.le_trans hb (by decide), k H2 e2⟩⟩
section
variable {P : Program} {w : World} {K : PySem.W.Frag} {mg : Str → Option Value} {base : Heap} {f B RQ RS DV DH DM DI DR : Addr} {fd : FuncData} {k : Nat}
theorem ok_law_values_right (T : Mg mg) (W : Wo K mg B RQ RS) (MQ : Mtd P w K mg base RQ DV true) (MS : Mtd P w K mg base RS DV false) (F : FnP K "_law_values_right" s_law_values_right f fd) (gm : mg "_law_values_right" = some (.ref f)) : Call P w K mg base 3 "_law_values_right" ["told", "fields", "name"] (spVr RQ RS) := by
  obtain ⟨favq, davq, mavq, Favq, bavq⟩ := MQ.av
  obtain ⟨favs, davs, mavs, Favs, bavs⟩ := MS.av
  obtain ⟨fvaq, dvaq, gvaq, mvaq, Fvaq, bvaq, kvaq⟩ := MQ.va
  obtain ⟨fvas, dvas, gvas, mvas, Fvas, bvas, kvas⟩ := MS.va
  obtain ⟨fjnq, djnq, gjnq, mjnq, Fjnq, bjnq, kjnq⟩ := MQ.jn
  obtain ⟨fjns, djns, gjns, mjns, Fjns, bjns, kjns⟩ := MS.jn
  have cq := W.wq.wm.cls
  have cs := W.ws.cls
  refine mk F gm (fun _ _ _ _ _ _ us hl => match us, hl with | [_, _, _], _ => rfl) (fun _ _ _ _ _ _ us hl => match us, hl with | [_, _, _], _ => rfl) sc_law_values_right (fun vs H Q E h => ?_) (fun cdv A outer s H vs Q E hr h => ?_)
  · obtain ⟨u, l, n, w, l', rfl, _⟩ := h
    rfl
  · obtain ⟨u, l, n, wl, l', rfl, hm, hf, hok, q⟩ := h
    refine ⟨_, (pss_cons (ps_setLc (i := 3) (own := [("field", 4)]) (g := gName 4) rfl sc_law_values_right.nd rfl rfl (sw_true rfl rfl rfl (by decide +kernel)) (pi_list (pv 1)) (blkOk_by (N := ["told", "fields", "name", "due", "field", "found"]) (sc := L2.defScope s_law_values_right) (by decide +kernel)) (fun _ _ _ _ _ => pg_name (i := 4) sc_law_values_right.nd rfl (Or.inl rfl)) (fun _ _ _ _ _ => pts_one (pt_cmpR op_eq (inK (K := K) (t := fun K => tOp (rIxT K) _ _) rfl (pe_ix ix_tup (pv 4) pe_int (fun _ _ => rfl))) (pv 2) (nomark _))) (fun _ _ _ _ _ => (inK (K := K) (t := fun K => tOp (rIxT K) _ _) rfl (pe_ix ix_tup (pv 4) pe_int (fun _ _ => rfl)))))
    (pss_cons (ps_set (i := 5) sc_law_values_right.nd rfl (Or.inl rfl) (ZX.pe_either (pe_meth (pv 0) cq mavq Favq (hr.mono (by decide)) bavq .nil pass0 (pa_cons (pv 2) pa_nil)) (pe_meth (pv 0) cs mavs Favs (hr.mono (by decide)) bavs .nil pass0 (pa_cons (pv 2) pa_nil))))
    (pss_cons (ps_if (PW.pt (pw_or (pt_not (pt_val (pe_callB call_isi (by rfl) T.isinstance (by decide +kernel) (pa_cons (pv 5) (pa_cons (pe_bltn (v := .ty "list") (u := .type "list") (by rfl) T.list (by decide +kernel) rfl) pa_nil))))) (pw_or1 (pt_cmpR (op_neD hr.units) (pv 5) (pv 3) (nomark _)))))
      (pss_one (ps_ret pe_bl))
      pss_nil)
    (pss_cons (ps_expr (pe_bm PySem.F.plainAttrs_list PySem.F.slot_list_append PySem.F.type_list_append mt_append (pv 5) (pa_cons pe_str pa_nil)))
    (pss_cons (ps_if (pt_cmpR (op_neD hr.units) (ZX.pe_either (pe_meth (pv 0) cq mavq Favq (hr.mono (by decide)) bavq .nil pass0 (pa_cons (pv 2) pa_nil)) (pe_meth (pv 0) cs mavs Favs (hr.mono (by decide)) bavs .nil pass0 (pa_cons (pv 2) pa_nil))) (pv 3) (nomark _))
      (pss_one (ps_ret pe_bl))
      pss_nil)
    (pss_cons (ps_if (pt_cmpR (op_eqD hr.units) (pv 3) (pe_lst pa_nil) (nomark _))
      (pss_one (ps_ret (pe_and (pe_cmpR op_isN1 (ZX.pe_either (ZX.pe_methK0 (pv 0) cq mvaq Fvaq (hr.mono (by decide)) kvaq ZX.passN (pk_cons (pv 2) pk_nil)) (ZX.pe_methK0 (pv 0) cs mvas Fvas (hr.mono (by decide)) kvas ZX.passN (pk_cons (pv 2) pk_nil))) pe_non (nomark _)) (pe_one (pe_cmpR op_isN1 (ZX.pe_either (ZX.pe_methK0 (pv 0) cq mjnq Fjnq (hr.mono (by decide)) kjnq pass0 (pk_cons (pv 2) pk_nil)) (ZX.pe_methK0 (pv 0) cs mjns Fjns (hr.mono (by decide)) kjns pass0 (pk_cons (pv 2) pk_nil))) pe_non (nomark _))))))
      pss_nil)
    (pss_one (ps_ret (pe_and (pe_cmpR op_eq (ZX.pe_either (pe_meth (pv 0) cq mvaq Fvaq (hr.mono (by decide)) bvaq .nil ZX.passN (pa_cons (pv 2) pa_nil)) (pe_meth (pv 0) cs mvas Fvas (hr.mono (by decide)) bvas .nil ZX.passN (pa_cons (pv 2) pa_nil))) (pe_ix ix_list (pv 3) pe_int (fun _ _ => rfl)) (nomark _)) (pe_one (pe_cmpR op_eq (ZX.pe_either (pe_meth (pv 0) cq mjnq Fjnq (hr.mono (by decide)) bjnq .nil pass0 (pa_cons (pv 2) pa_nil)) (pe_meth (pv 0) cs mjns Fjns (hr.mono (by decide)) bjns .nil pass0 (pa_cons (pv 2) pa_nil))) (pe_bm PySem.F.plainAttrs_str PySem.F.slot_str_join PySem.F.type_str_join mz_join pe_str (pa_cons (pv 3) pa_nil)) (nomark _)))))))))))), ?_⟩
    obtain ⟨xs, hx, hr1⟩ := id hf
    obtain ⟨hn40, hv200⟩ := vals_len (n := n) hok
    have hz := (areB_val hok).1
    have hso : ∀ s ∈ valsF wl.fs n, PyData.strOk s = true := fun s hs => by
      unfold valsF at hs
      obtain ⟨x, hx, rfl⟩ := List.mem_map.mp hs
      exact (okF_okS (areB_ok hok) x (List.mem_filter.mp hx).1).2
    refine q_in ?_; dsimp only
    refine g_asg ?_
    refine ⟨.ref l, rfl, l, rfl, ⟨_, sq_of hx⟩, fun D hD => ?_⟩
    refine lc_rel (α := Str) (fun i => valsF (wl.fs.take i) n) (fun _ v s => v = .str s) (fun _ _ _ _ _ _ h => h) (sq_of hx) hD rfl (by rw [hr1.1]; omega) (fun i x H3 hi e3 k k0 hk hk0 => ?_) (fun H3 ys e3 hy hrel => ?_)
    · obtain ⟨o, ho, t, rfl, ht⟩ := hr1.get hi
      have ht3 := e3 _ _ ht
      refine ⟨rfl, ?_⟩
      refine (et_test (ev_op (ev_ixT (ev_var rfl) ev_c ht3 (atI_nat (j := 0) rfl)) (ev_var rfl) rv_eqS)) H3 (Ex.refl H3) _ fun H4 e4 => ?_
      cases hb : decide (o.1 = n) with
      | true =>
        rw [if_pos rfl]
        exact (ev_ixT (ev_var rfl) ev_c (e4 _ _ ht3) (atI_nat (j := 1) rfl)) H4 (Ex.refl H4) _ fun H5 e5 => hk _ H5 o.2 (e4.trans e5) (by rw [vals_take ho, hb]; rfl) rfl
      | false =>
        rw [if_neg Bool.false_ne_true]
        exact hk0 H4 e4 (by rw [vals_take ho, hb]; exact List.append_nil _)
    rw [hr1.1, List.take_length] at hrel
    have ey : ys = (valsF wl.fs n).map V.str := by
      refine List.ext_getElem (by rw [hrel.1, List.length_map]) fun i h1 h2 => ?_
      rw [List.getElem_map]
      rw [List.length_map] at h2
      exact hrel.2 i _ _ (List.getElem?_eq_getElem h1) (List.getElem?_eq_getElem h2)
    rw [ey] at hy
    refine g_name ?_; dsimp only
    have hm3 := hm.ex e3
    refine q_asgL (el_av hm3 hz (ev_var rfl) (ev_var rfl)) fun fo H4 nf e4 hfo => ?_
    have hDf : D ≠ fo := fun e => by rw [← e, hy] at nf; cases nf
    refine q_when (b := false) (et_is (et_or (a := false) (et_not (a := true) (et_B (ev_isi (b := true) (ev_var rfl) (fun H5 e5 => .base (.lst (e5 _ _ hfo))) (kit_ty (by decide +kernel))))) fun _ => et_test (ev_op (ev_var rfl) (ev_var rfl) (rv_neSS hfo (e4 _ _ hy) hso))) rfl) (fun h => nomatch h) (fun _ H5 e5 => ?_)
    refine q_app (e5 _ _ hfo) (ev_var rfl) ev_c (by rw [List.length_map]; omega) fun H6 e6 => ?_
    have k46 : Ex H3 (upd H6 fo (.lst ((valsF wl.fs n).map V.str ++ [.str "spoilt"]))) := fun c o hc => by
      rw [upd_ne (ne_of_none hc nf)]
      exact ((e4.trans e5).trans e6) _ _ hc
    generalize upd H6 fo (.lst ((valsF wl.fs n).map V.str ++ [.str "spoilt"])) = H7 at k46 ⊢
    have hy7 := k46 _ _ hy
    have hm7 := hm3.ex k46
    have e07 := e3.trans k46
    refine q_when (b := false) (et_test (ev_opL1 (el_av hm7 hz (ev_var rfl) (ev_var rfl)) (fun H8 e8 => ev_var rfl) fun p H8 hp e8 => rv_neSS hp (e8 _ _ hy7) hso)) (fun h => nomatch h) (fun _ H8 e8 => ?_)
    have hy8 := e8 _ _ hy7
    have hm8 := hm7.ex e8
    refine q_when (b := decide (valsF wl.fs n = [])) (et_test (ev_opL (ev_var rfl) (el_lst ea_nil (by decide)) fun p H9 hp e9 => rv_eqS0 (e9 _ _ hy8) hp hso)) (fun hb H9 e9 => ?_) (fun hb H9 e9 => ?_)
    · have hv := of_decide_eq_true hb
      have v1 : optV (valsF wl.fs n).head? = .non := by rw [hv]; rfl
      have v2 : optV (joinF wl.fs n) = .non := by unfold joinF; rw [if_pos hv]; rfl
      refine s_ret (v := .bl true) (ev_is (ev_andV (a := true) (b := true) (ev_is (ev_op (ev_vk (hm8.ex e9) hz (ev_var rfl) (ev_var rfl)) ev_c rv_isN) (by rw [v1, decide_eq_true rfl])) fun _ => ev_is (ev_op (ev_jk (hm8.ex e9) hok (ev_var rfl) (ev_var rfl)) ev_c rv_isN) (by rw [v2, decide_eq_true rfl])) rfl) fun H10 e10 => q H10 (((e07.trans e8).trans e9).trans e10)
    · have hne := of_decide_eq_false hb
      have hy9 := e9 _ _ hy8
      have h3 := sum_most (valsF wl.fs n) 200 hv200
      have h5 : (", " : Str).length = 2 := by decide +kernel
      have h6 := Nat.mul_le_mul_right 200 hn40
      obtain ⟨y, hy0⟩ : ∃ y, (valsF wl.fs n).head? = some y := by
        cases hv : valsF wl.fs n with
        | nil => exact absurd hv hne
        | cons y r => exact ⟨y, rfl⟩
      have hi0 : atI ((valsF wl.fs n).map V.str) ((0 : Nat) : Int) = some (.str y) := atI_nat (by
        rw [List.getElem?_map, ← List.head?_eq_getElem?, hy0]
        rfl)
      have v2 : optV (joinF wl.fs n) = .str (Txt.join ", " (valsF wl.fs n)) := by unfold joinF; rw [if_neg hne]; rfl
      refine s_ret (v := .bl true) (ev_is (ev_andV (a := true) (b := true) (ev_is (ev_op (ev_va (hm8.ex e9) hz (ev_var rfl) (ev_var rfl)) (ev_ixL (ev_var rfl) ev_c hy9 hi0) (rv_eq (by rw [hy0]; rfl))) (by rw [hy0]; show V.bl (decide (V.str y = V.str y)) = _; rw [decide_eq_true rfl])) fun _ => ev_is (ev_op (ev_jn (hm8.ex e9) hok (ev_var rfl) (ev_var rfl)) (ev_joinL (ev_var rfl) hy9 (by rw [h5]; omega)) (rv_eq (by rw [v2]; rfl))) (by rw [v2, decide_eq_true rfl])) rfl) fun H10 e10 => q H10 (((e07.trans e8).trans e9).trans e10)
end
end Z
set_option maxHeartbeats 4000000
namespace Z
open PySem PySem.Spec PyProof.Rows L2 TL Evl NdefX
/-! ### messages with and without fields -/
theorem meq_mkt {RQ RS : Addr} {H : Hp} {v : V} {w : Wl} {l : Addr} (hq : w.q = true) (h : MeC RQ H v w l) : MeQ RQ RS H v w l := by
  unfold MeQ clB
  rw [if_pos hq]
  exact h
theorem meq_mkf {RQ RS : Addr} {H : Hp} {v : V} {w : Wl} {l : Addr} (hq : w.q = false) (h : MeC RS H v w l) : MeQ RQ RS H v w l := by
  unfold MeQ clB
  rw [if_neg (by rw [hq]; exact Bool.false_ne_true)]
  exact h
theorem rd_opR {ta tb : TE} {r : R2} {σ : L2.St} {H : Hp} {Q : VK} (h : ta σ H fun x H1 => tb σ H1 fun y H2 => r x y H2 Q) : tOp r ta tb σ H Q := h
theorem bad_fields {w : Wl} {fs : Fs} (h : badW w = none) : badW (wdW w fs w.b) = if areB fs = true then none else some ("fields" : Str) := by
  obtain ⟨g1, g2, g3, g4, g5⟩ := bad_none h
  obtain ⟨q, m, p, fs0, b⟩ := w
  have hM : ∀ hb, (b = "" ∨ hb = true) → badM fs hb b = if areB fs = true then none else some ("fields" : Str) := fun hb hh => by
    unfold badM
    cases ha : areB fs with
    | false => rfl
    | true =>
      rw [if_neg (fun z => nomatch z), if_neg, if_pos rfl]
      rintro (z | ⟨z1, z2⟩)
      · rw [show bodyB b = true from g2] at z; cases z
      · rcases hh with hh | hh
        · exact z1 hh
        · rw [hh] at z2; cases z2
  unfold badW wdW
  cases q with
  | true =>
    obtain ⟨k1, k2⟩ := g4 rfl
    rw [if_pos rfl, if_neg (fun z => z k1), if_neg (by show ¬ pathB p = false; rw [show pathB p = true from k2]; exact Bool.noConfusion)]
    exact hM _ g3
  | false =>
    rw [if_neg Bool.false_ne_true, if_neg (fun z => z (g5 rfl))]
    exact hM _ g3
theorem are_filter {fs : Fs} (h : areB fs = true) (c : Str × Str → Bool) : areB (fs.filter c) = true := by
  unfold areB at h ⊢
  rw [Bool.and_eq_true, decide_eq_true_eq, List.all_eq_true] at h ⊢
  exact ⟨Nat.le_trans (List.length_filter_le _ _) h.1, fun x hx => h.2 x (List.mem_filter.mp hx).1⟩
theorem are_with {fs : Fs} {n x : Str} (h : areB fs = true) : areB (withF fs n x) = (decide (((withF fs n x).length : Int) ≤ 40) && (nameB n && valueB x)) := by
  have h2 := are_filter h (fun y => !decide (y.1 = n))
  unfold areB at h2 ⊢
  rw [Bool.and_eq_true] at h2
  have e : (withF fs n x).all fieldB = (nameB n && valueB x) := by
    unfold withF
    rw [List.all_append, h2.2, Bool.true_and]
    show (fieldB (n, x) && true) = _
    rw [Bool.and_true]
    rfl
  rw [e]
  congr 1
  exact decide_eq_decide.mpr (by omega)
theorem small_with {fs : Fs} {n x : Str} (h : areB fs = true) (hn : n.length ≤ 300) (hx : x.length ≤ 300) : smallF (withF fs n x) := by
  obtain ⟨h1, h2⟩ := areB_val h
  have h3 := List.length_filter_le (fun y => !decide (y.1 = n)) fs
  refine ⟨by unfold withF; rw [List.length_append]; show _ + 1 ≤ 100; omega, fun y hy => ?_⟩
  unfold withF at hy
  rcases List.mem_append.mp hy with hy | hy
  · obtain ⟨g1, g2⟩ := h2 y (List.mem_filter.mp hy).1
    exact ⟨by omega, by omega⟩
  · rw [List.mem_singleton.mp hy]
    exact ⟨hn, hx⟩
theorem small_filter {fs : Fs} (h : smallF fs) (c : Str × Str → Bool) : smallF (fs.filter c) := ⟨Nat.le_trans (List.length_filter_le _ _) h.1, fun x hx => h.2 x (List.mem_filter.mp hx).1⟩
def spWr (RQ RS : Addr) : Sp := fun vs H Q _ => ∃ u v n x w l l', vs = [u, v, .str n, .str x] ∧ MeQ RQ RS H u w l' ∧ WlAt H v w l ∧ smallW w ∧ badW w = none ∧ okT n ∧ okT x ∧ RetV (.bl true) H Q
def spWo (RQ RS : Addr) : Sp := fun vs H Q _ => ∃ u v n x w l l', vs = [u, v, .str n, .str x] ∧ MeQ RQ RS H u w l' ∧ WlAt H v w l ∧ smallW w ∧ badW w = none ∧ RetV (.bl true) H Q
/-- fields filtered by their name -/
theorem el_out {K : PySem.W.Frag} {σ : L2.St} {H : Hp} {tl tn : TE} {j : Nat} {l : Addr} {fs : Fs} {n : Str} {Q : VK} (hv : Ev tl σ H (.ref l)) (hf : FsAt H l fs) (hz : fs.length ≤ 40000) (hw : ∀ x, wipe ((wipe σ [j]).set j (some x)) [j] = wipe σ [j]) (h1 : ∀ x, ((wipe σ [j]).set j (some x))[j]? = some (some x)) (hn : ∀ x H1, Ex H H1 → Ev tn ((wipe σ [j]).set j (some x)) H1 (.str n))
    (k : ∀ D H', H D = none → Ex H H' → FsAt H' D (fs.filter fun y => !decide (y.1 = n)) → Q (.ref D) H') : tLc (iList K tl) (gName j) (tTest (tOp rNe (tOp (rIxT K) (tVar j) (tC (.int 0))) tn)) (tVar j) [j] σ H Q := by
  refine hv H (Ex.refl H) _ fun H2 e2 => ?_
  obtain ⟨xs, hx, hr1⟩ := hf.ex e2
  refine ⟨l, rfl, ⟨_, sq_of hx⟩, fun D hD => ?_⟩
  refine lc_rel (α := Str × Str) (fun i => (fs.take i).filter fun y => !decide (y.1 = n)) PfAt (fun _ _ _ _ k hD r => TupAt.keep r k hD) (sq_of hx) hD rfl (by rw [hr1.1]; omega) (fun i y H3 hi e3 k k0 hk hk0 => ?_) (fun H3 ys e3 hy hrel => ?_)
  · obtain ⟨o, ho, t, rfl, ht⟩ := hr1.get hi
    have ht3 := e3 _ _ ht
    have hacc : (fs.take (i + 1)).filter (fun y => !decide (y.1 = n)) = (fs.take i).filter (fun y => !decide (y.1 = n)) ++ (if (!decide (o.1 = n)) = true then [o] else []) := by
      rw [List.take_add_one, ho, List.filter_append]
      show _ ++ List.filter _ [o] = _
      rw [List.filter_cons]
      by_cases h : o.1 = n
      · rw [decide_eq_true h]; rfl
      · rw [decide_eq_false h]; rfl
    refine ⟨hw _, ?_⟩
    refine (et_test (ev_op (ev_ixT (ev_var (h1 _)) ev_c ht3 (atI_nat (j := 0) rfl)) (hn _ _ (e2.trans e3)) rv_neS)) H3 (Ex.refl H3) _ fun H4 e4 => ?_
    cases hb : !decide (o.1 = n) with
    | true =>
      rw [if_pos rfl]
      exact (ev_var (h1 _)) H4 (Ex.refl H4) _ fun H5 e5 => hk _ H5 o (e4.trans e5) (by rw [hacc, hb]; rfl) ⟨t, rfl, (e4.trans e5) _ _ ht3⟩
    | false =>
      rw [if_neg Bool.false_ne_true]
      exact hk0 H4 e4 (by rw [hacc, hb]; exact List.append_nil _)
  · rw [hr1.1, List.take_length] at hrel
    exact k D H3 (fresh_back e2 hD) (e2.trans e3) ⟨ys, hy, hrel⟩
section
variable {K : PySem.W.Frag} {C RQ RS DV : Addr} {σ : L2.St} {H : Hp} {te tn tx : TE} {ta : TA} {v : V} {w : Wl} {l : Addr} {n x : Str} {Q : VK} {E : L2.St → XK} {E0' E1 E2 : XK} {side : Bool} {ns : List Str}
theorem rd_wfC (hq : w.q = side) (hm : MeC C H v w l) (hs : smallW (wdW w (withF w.fs n x) w.b)) (hz : w.fs.length ≤ 40) (h : Ev te σ H v) (hx : Ev tx σ H (.str x)) (hn : Ev tn σ H (.str n))
    (kt : badW (wdW w (withF w.fs n x) w.b) = none → ∀ v' l' H', H l' = none → Ex H H' → MeC C H' v' (wdW w (withF w.fs n x) w.b) l' → Q v' H') (kf : ∀ e, badW (wdW w (withF w.fs n x) w.b) = some e → ∀ d H', H d = none → Ex H H' → H' d = some (.xd [("name", .str e)]) → E σ (.ref DV) (some d) H') :
    ZX.tMethKE C "with_field" 2 (spWf C DV side) (fun vs zs => vs ++ zs.drop 1 ++ zs.take 1) E te (tCons tx (tCons tn tNil)) σ H Q := h H (Ex.refl H) _ fun H2 e2 => by
  obtain ⟨a, dx, rfl, ha, hf⟩ := id (hm.ex e2)
  refine ⟨a, dx, _, rfl, ha, me_no _ (by simp), hx H2 e2 _ fun H3 e3 => hn H3 (e2.trans e3) _ fun H4 e4 => ⟨rfl, ?_⟩⟩
  have e24 := (e2.trans e3).trans e4
  exact ⟨.ref a, n, x, w, l, hq, rfl, hm.ex e24, hs, hz, fun hb v' l' H' nl e hm' => kt hb v' l' H' (fresh_back e24 nl) (e24.trans e) hm', fun z hb d H' nd e hd => kf z hb d H' (fresh_back e24 nd) (e24.trans e) hd⟩
theorem rd_woC (hq : w.q = side) (hm : MeC C H v w l) (hs : smallW (wdW w (outF w.fs ns) w.b)) (hg : badW (wdW w (outF w.fs ns) w.b) = none) (hz : w.fs.length ≤ 40) (h : Ev te σ H v) (hn : EvA ta σ H (ns.map V.str)) (hl : ns.length ≤ 5)
    (kt : ∀ v' l' H', H l' = none → Ex H H' → MeC C H' v' (wdW w (outF w.fs ns) w.b) l' → Q v' H') : tMethR C "without" (spWoR K C side) E0' te ta σ H Q := h H (Ex.refl H) _ fun H2 e2 => by
  obtain ⟨a, dx, rfl, ha, hf⟩ := id (hm.ex e2)
  refine ⟨a, dx, _, rfl, ha, me_no _ (by simp), hn H2 e2 _ fun H3 e3 => ⟨.ref a, ns.map V.str, rfl, by rw [List.length_map]; exact hl, fun p np => ?_⟩⟩
  have e23 := e2.trans e3
  have ep := e23.trans (Ex.new (o := .tup (ns.map V.str)) np)
  exact ⟨.ref a, p, ns, w, l, hq, rfl, upd_same, hm.ex ep, hs, hg, hz, fun v' l' H' nl e hm' => kt v' l' H' (fresh_back ep nl) (ep.trans e) hm'⟩
theorem rd_wo (hm : MeQ RQ RS H v w l) (hs : smallW (wdW w (outF w.fs ns) w.b)) (hg : badW (wdW w (outF w.fs ns) w.b) = none) (hz : w.fs.length ≤ 40) (h : Ev te σ H v) (hn : EvA ta σ H (ns.map V.str)) (hl : ns.length ≤ 5)
    (kt : ∀ v' l' H', Ex H H' → MeQ RQ RS H' v' (wdW w (outF w.fs ns) w.b) l' → Q v' H') : tMethR RQ "without" (spWoR K RQ true) E1 te ta σ H Q ∨ tMethR RS "without" (spWoR K RS false) E2 te ta σ H Q := by
  cases hq : w.q with
  | true => exact Or.inl (rd_woC hq (meq_t hq hm) hs hg hz h hn hl fun v' l' H' _ e hm' => kt v' l' H' e (by unfold MeQ clB; rw [if_pos (show (wdW w (outF w.fs ns) w.b).q = true from hq)]; exact hm'))
  | false => exact Or.inr (rd_woC hq (meq_f hq hm) hs hg hz h hn hl fun v' l' H' _ e hm' => kt v' l' H' e (by unfold MeQ clB; rw [if_neg (by show ¬ w.q = true; rw [hq]; exact Bool.false_ne_true)]; exact hm'))
end
section
variable {P : Program} {w : World} {K : PySem.W.Frag} {mg : Str → Option Value} {base : Heap} {f B RQ RS DV DH DM DI DR : Addr} {fd : FuncData} {k : Nat}
theorem ok_law_with_right (T : Mg mg) (W : Wo K mg B RQ RS) (WV : Wx K mg DV DH DM DI DR) (MQ : Mtd P w K mg base RQ DV true) (MS : Mtd P w K mg base RS DV false) (c_law_is_name : C1 P w K mg base 2 "_law_is_name" fun z => .bl (nameB z)) (c_law_is_value : C1 P w K mg base 2 "_law_is_value" fun z => .bl (valueB z)) (c_law_same : Call P w K mg base 4 "_law_same" ["told", "world"] (spSm RQ RS))
    (F : FnP K "_law_with_right" s_law_with_right f fd) (gm : mg "_law_with_right" = some (.ref f)) : Call P w K mg base 11 "_law_with_right" ["told", "world", "name", "value"] (spWr RQ RS) := by
  obtain ⟨fwq, dwq, gwq, mwq, Fwq, kwq⟩ := MQ.wf
  obtain ⟨fws, dws, gws, mws, Fws, kws⟩ := MS.wf
  have cq := W.wq.wm.cls
  have cs := W.ws.cls
  refine mk F gm (fun _ _ _ _ _ _ us hl => match us, hl with | [_, _, _, _], _ => rfl) (fun _ _ _ _ _ _ us hl => match us, hl with | [_, _, _, _], _ => rfl) sc_law_with_right (fun vs H Q E h => ?_) (fun cdv A outer s H vs Q E hr h => ?_)
  · obtain ⟨u, v, n, x, w, l, l', rfl, _⟩ := h
    rfl
  · obtain ⟨u, v, n, x, wl, l, l', rfl, hm, hw, hs, hg, hn, hx, q⟩ := h
    refine ⟨_, (pss_cons (ps_set (i := 4) sc_law_with_right.nd rfl (Or.inl rfl) (pe_op op_cat (pe_lc (own := [("field", 5)]) (g := gName 5) rfl sc_law_with_right.nd (pi_list (pe_ix ix_list (pv 1) pe_int (fun _ _ => rfl))) (blkOk_by (N := ["told", "world", "name", "value", "fields", "field", "good", "made", "error"]) (sc := L2.defScope s_law_with_right) (by decide +kernel)) (fun _ _ _ _ _ => pg_name (i := 5) sc_law_with_right.nd rfl (Or.inl rfl)) (fun _ _ _ _ _ => pts_one (pt_cmpR op_ne (inK (K := K) (t := fun K => tOp (rIxT K) _ _) rfl (pe_ix ix_tup (pv 5) pe_int (fun _ _ => rfl))) (pv 2) (nomark _))) (fun _ _ _ _ _ => (pv 5))) (pe_lst (pa_cons (pe_tup (pa_cons (pv 2) (pa_cons (pv 3) pa_nil))) pa_nil))))
    (pss_cons (ps_set (i := 6) sc_law_with_right.nd rfl (Or.inl rfl) (pe_and (pe_cmpR op_le (pe_callB call_len_seq (by rfl) T.len (by decide +kernel) (pa_cons (pv 4) pa_nil)) pe_int (nomark _)) (pe_and (pe_f c_law_is_name hr (by decide) rfl (pa_cons (pv 2) pa_nil)) (pe_one (pe_f c_law_is_value hr (by decide) rfl (pa_cons (pv 3) pa_nil))))))
    (pss_cons (ZX.ps_try_fst (i := 8) rfl rfl sc_law_with_right.nd rfl rfl ⟨rfl, by decide, .inl WV.mF⟩ (fun W' pn xe tk po => (pss_one (ps_set (i := 7) sc_law_with_right.nd rfl (Or.inl rfl) (ZX.pe_either (ZX.pe_methKE (E := WE W') (pv 0) cq mwq Fwq (hr.mono (by decide)) kwq (fun σ => L2N.passAt tk σ) (pk_cons (pv 3) (pk_cons (pv 2) pk_nil))) (ZX.pe_methKE (E := WE W') (pv 0) cs mws Fws (hr.mono (by decide)) kws (fun σ => L2N.passAt tk σ) (pk_cons (pv 3) (pk_cons (pv 2) pk_nil)))))))
    (fun a oe cls d pn hz hf => (pss_one (ps_ret (pe_and (pe_not (pv 6)) (pe_one (pe_cmpR op_eq (ZX.pe_xg hz.zc hf (pv 8)) pe_str (nomark _))))))))
    (pss_one (ps_ret (pe_and (pv 6) (pe_one (pe_f c_law_same hr (by decide) rfl (pa_cons (pv 7) (pa_cons (pe_lst (pa_cons (pe_ix ix_list (pv 1) pe_int (fun _ _ => rfl)) (pa_cons (pe_ix ix_list (pv 1) pe_int (fun _ _ => rfl)) (pa_cons (pe_ix ix_list (pv 1) pe_int (fun _ _ => rfl)) (pa_cons (pv 4) (pa_cons (pe_ix ix_list (pv 1) pe_int (fun _ _ => rfl)) pa_nil)))))) pa_nil)))))))))), ?_⟩
    obtain ⟨a, rfl, ha, hf⟩ := id hw
    obtain ⟨gok, gb, gm', gq, gs⟩ := bad_none hg
    have hz := (areB_val gok).1
    have sw := small_with (n := n) (x := x) gok hn.1 hx.1
    have sW : smallW (wdW wl (withF wl.fs n x) wl.b) := ⟨hs.1, hs.2.1, sw, hs.2.2.2⟩
    have hbf := bad_fields (fs := withF wl.fs n x) hg
    have hI : ∀ {σ : L2.St} {H' : Hp} (j : Nat) {v : V}, Ex H H' → σ[1]? = some (some (.ref a)) → [.str (sdS wl.q), .str wl.m, .str wl.p, .ref l, .str wl.b][j]? = some v → Ev (tOp (rIxL K) (tVar 1) (tC (.int (j : Int)))) σ H' v := fun j v e h0 hv => ev_ixL (ev_var h0) ev_c (e _ _ ha) (atI_nat hv)
    refine q_asgR (rd_opR (el_out (Q := fun v H => _) (n := n) (hI 3 (Ex.refl H) rfl rfl) hf (by omega) (fun _ => rfl) (fun _ => rfl) (fun _ _ _ => ev_var rfl) fun D H1 nD e1 hD => ?_))
    obtain ⟨ys, hy, hr1⟩ := id hD
    refine rd_consU (eu_tup (ea_cons (ev_var rfl) (ea_cons (ev_var rfl) ea_nil)) (by show 2 ≤ _; decide)) fun t H2 nt e2 ht => rd_nil ⟨by show 1 ≤ sizeLine; decide, fun p np => ?_⟩
    have hlf := List.length_filter_le (fun y => !decide (y.1 = n)) wl.fs
    have ep := Ex.new (o := .lst [V.ref t]) np
    refine ⟨D, p, ys, [.ref t], rfl, rfl, ep _ _ (e2 _ _ hy), upd_same, sz_of (by rw [hr1.1]; show _ + 1 ≤ 100000; omega), fun fl nfl => ?_⟩
    have efl := Ex.new (o := .lst (ys ++ [V.ref t])) nfl
    have e1f := e1.trans ((e2.trans ep).trans efl)
    have hF : FsAt (upd (upd H2 p (.lst [.ref t])) fl (.lst (ys ++ [.ref t]))) fl (withF wl.fs n x) := ⟨_, upd_same, Rel.snoc (hr1.mono fun _ _ m => TupAt.ex m ((e2.trans ep).trans efl)) ⟨t, rfl, (ep.trans efl) _ _ ht⟩⟩
    generalize upd (upd H2 p (.lst [.ref t])) fl (.lst (ys ++ [.ref t])) = H3 at e1f hF ⊢
    clear efl ep nfl np
    have hgood : areB (withF wl.fs n x) = (decide (((withF wl.fs n x).length : Int) ≤ 40) && (nameB n && valueB x)) := are_with gok
    obtain ⟨zs, hzs, hzr⟩ := id hF
    refine q_asg (v := .bl (areB (withF wl.fs n x))) (ev_is (ev_andV (ev_op (ev_lenF (ev_var rfl) (FsAt.fq hF)) ev_c rv_I0) fun _ => ev_andV (ev_call (ea_cons (ev_var rfl) ea_nil) (sv1 (f := fun z => .bl (nameB z)) (by have := hn.1; omega))) fun _ => ev_call (ea_cons (ev_var rfl) ea_nil) (sv1 (f := fun z => .bl (valueB z)) (by have := hx.1; omega))) (by rw [hgood])) fun H4 e4 => ?_
    have e04 := e1f.trans e4
    have hF4 := hF.ex e4
    have fin : ∀ (u' : V) (l'' : Addr) (H5 : Hp) (D0 : Ends), Ex H4 H5 → MeQ RQ RS H5 u' (wdW wl (withF wl.fs n x) wl.b) l'' → areB (withF wl.fs n x) = true → D0.rt = Q →
        tRet (tAndV (tVar 6) (tCall (spSm RQ RS) [] E0 (tCons (tVar 7) (tCons (tLst (tCons (tOp (rIxL K) (tVar 1) (tC (.int 0))) (tCons (tOp (rIxL K) (tVar 1) (tC (.int 1))) (tCons (tOp (rIxL K) (tVar 1) (tC (.int 2))) (tCons (tVar 4) (tCons (tOp (rIxL K) (tVar 1) (tC (.int 4))) tNil)))))) tNil)))) D0 [some u, some (.ref a), some (.str n), some (.str x), some (.ref fl), none, some (.bl (areB (withF wl.fs n x))), some u', none] H5 := fun u' l'' H5 D0 e5 hm5 hb hD => by
      have e05 := e04.trans e5
      refine s_ret (v := .bl true) (ev_is (ev_andV (a := true) (b := true) (ev_is (ev_var rfl) (by rw [hb])) fun _ => fun H6 e6 Q' q' => rd_args (rd_consE (ev_var rfl) fun H7 e7 => rd_consLs (el_lst (ea_cons (hI 0 (e05.trans (e6.trans e7)) rfl rfl) (ea_cons (hI 1 (e05.trans (e6.trans e7)) rfl rfl) (ea_cons (hI 2 (e05.trans (e6.trans e7)) rfl rfl) (ea_cons (ev_var rfl) (ea_cons (hI 4 (e05.trans (e6.trans e7)) rfl rfl) ea_nil))))) (by show 5 ≤ 100000; decide)) fun r H8 nr e8 hr8 => rd_nil ?_)) rfl) fun H6 e6 => by rw [hD]; exact q H6 (e05.trans e6)
      have e68 := (e6.trans e7).trans e8
      exact ⟨u', .ref r, wdW wl (withF wl.fs n x) wl.b, fl, l'', rfl, hm5.ex e68, ⟨r, rfl, hr8, hF4.ex (e5.trans e68)⟩, sW, hb, fun H9 e9 => q' H9 ((e7.trans e8).trans e9)⟩
    have bad : ∀ (d e : Addr) (H5 : Hp) (D0 : Ends), areB (withF wl.fs n x) = false → Ex H4 H5 → H5 d = some (.xd [("name", .str "fields")]) → D0.rt = Q →
        tRet (tAndV (tNotV (tVar 6)) (tOp rEq (ZX.tXg K e (.ref DV) (some d) "name" (tVar 8)) (tC (.str "fields")))) D0 [some u, some (.ref a), some (.str n), some (.str x), some (.ref fl), none, some (.bl (areB (withF wl.fs n x))), none, some (.ref e)] H5 := fun d e H5 D0 hb e5 hx5 hD => by
      refine s_ret (v := .bl true) (ev_is (ev_andV (a := true) (b := true) (ev_is (ev_notV (ev_var rfl)) (by rw [hb]; rfl)) fun _ => ev_is (ev_op (ev_xg WV.fF WV.nF (ev_var rfl) hx5 (by rfl)) ev_c rv_eqS) (by rw [decide_eq_true rfl])) rfl) fun H6 e6 => by rw [hD]; exact q H6 ((e04.trans e5).trans e6)
    refine q_in ?_
    dsimp only
    have gt : badW (wdW wl (withF wl.fs n x) wl.b) = none → areB (withF wl.fs n x) = true := fun hb => by
      rw [hbf] at hb
      split at hb
      · assumption
      · cases hb
    have gf : ∀ z, badW (wdW wl (withF wl.fs n x) wl.b) = some z → areB (withF wl.fs n x) = false ∧ z = ("fields" : Str) := fun z hb => by
      rw [hbf] at hb
      split at hb
      · cases hb
      · rename_i h1
        exact ⟨(Bool.not_eq_true _).mp h1, (Option.some.inj hb).symm⟩
    refine s_asgR ?_
    cases hq : wl.q with
    | false =>
      refine Or.inr (rd_wfC (side := false) hq (meq_f hq (hm.ex e04)) sW hz (ev_var rfl) (ev_var rfl) (ev_var rfl) (fun hb v' l'' H5 nl e5 hm5 => ?_) (fun z hz' d H5 nd e5 hx5 => ?_))
      · exact fin v' l'' H5 _ e5 (meq_mkf (w := wdW wl (withF wl.fs n x) wl.b) hq hm5) (gt hb) rfl
      · obtain ⟨g1, rfl⟩ := gf z hz'
        exact ⟨WV.eFF, fun e he => bad d e H5 _ g1 e5 hx5 rfl⟩
    | true =>
      refine Or.inl (rd_wfC (side := true) hq (meq_t hq (hm.ex e04)) sW hz (ev_var rfl) (ev_var rfl) (ev_var rfl) (fun hb v' l'' H5 nl e5 hm5 => ?_) (fun z hz' d H5 nd e5 hx5 => ?_))
      · exact fin v' l'' H5 _ e5 (meq_mkt (w := wdW wl (withF wl.fs n x) wl.b) hq hm5) (gt hb) rfl
      · obtain ⟨g1, rfl⟩ := gf z hz'
        exact ⟨WV.eFF, fun e he => bad d e H5 _ g1 e5 hx5 rfl⟩
theorem ok_law_without_right (T : Mg mg) (W : Wo K mg B RQ RS) (MQ : Mtd P w K mg base RQ DV true) (MS : Mtd P w K mg base RS DV false) (c_law_same : Call P w K mg base 4 "_law_same" ["told", "world"] (spSm RQ RS))
    (F : FnP K "_law_without_right" s_law_without_right f fd) (gm : mg "_law_without_right" = some (.ref f)) : Call P w K mg base 11 "_law_without_right" ["told", "world", "name", "other"] (spWo RQ RS) := by
  obtain ⟨fwq, mwq, Fwq⟩ := MQ.wo
  obtain ⟨fws, mws, Fws⟩ := MS.wo
  have cq := W.wq.wm.cls
  have cs := W.ws.cls
  refine mk F gm (fun _ _ _ _ _ _ us hl => match us, hl with | [_, _, _, _], _ => rfl) (fun _ _ _ _ _ _ us hl => match us, hl with | [_, _, _, _], _ => rfl) sc_law_without_right (fun vs H Q E h => ?_) (fun cdv A outer s H vs Q E hr h => ?_)
  · obtain ⟨u, v, n, x, w, l, l', rfl, _⟩ := h
    rfl
  · obtain ⟨u, v, n, x, wl, l, l', rfl, hm, hw, hs, hg, q⟩ := h
    refine ⟨_, (pss_cons (ps_set (i := 4) sc_law_without_right.nd rfl (Or.inl rfl) (pe_f c_law_same hr (by decide) rfl (pa_cons (ZX.pe_either (ZX.pe_methR0 (E := E0) (pv 0) cq mwq Fwq (hr.mono (by decide)) pass0) (ZX.pe_methR0 (E := E0) (pv 0) cs mws Fws (hr.mono (by decide)) pass0)) (pa_cons (pv 1) pa_nil))))
    (pss_cons (ps_setLc (i := 5) (own := [("field", 6)]) (g := gName 6) rfl sc_law_without_right.nd rfl rfl (sw_true rfl rfl rfl (by decide +kernel)) (pi_list (pe_ix ix_list (pv 1) pe_int (fun _ _ => rfl))) (blkOk_by (N := ["told", "world", "name", "other", "none", "kept", "field", "one"]) (sc := L2.defScope s_law_without_right) (by decide +kernel)) (fun _ _ _ _ _ => pg_name (i := 6) sc_law_without_right.nd rfl (Or.inl rfl)) (fun _ _ _ _ _ => pts_one (pt_cmpR op_ne (inK (K := K) (t := fun K => tOp (rIxT K) _ _) rfl (pe_ix ix_tup (pv 6) pe_int (fun _ _ => rfl))) (pv 2) (nomark _))) (fun _ _ _ _ _ => (pv 6)))
    (pss_cons (ps_set (i := 7) sc_law_without_right.nd rfl (Or.inl rfl) (pe_f c_law_same hr (by decide) rfl (pa_cons (ZX.pe_either (pe_methR (E := E0) (pv 0) cq mwq Fwq (hr.mono (by decide)) pass0 (pa_cons (pv 2) pa_nil)) (pe_methR (E := E0) (pv 0) cs mws Fws (hr.mono (by decide)) pass0 (pa_cons (pv 2) pa_nil))) (pa_cons (pe_lst (pa_cons (pe_ix ix_list (pv 1) pe_int (fun _ _ => rfl)) (pa_cons (pe_ix ix_list (pv 1) pe_int (fun _ _ => rfl)) (pa_cons (pe_ix ix_list (pv 1) pe_int (fun _ _ => rfl)) (pa_cons (pv 5) (pa_cons (pe_ix ix_list (pv 1) pe_int (fun _ _ => rfl)) pa_nil)))))) pa_nil))))
    (pss_cons (ps_setLc (i := 5) (own := [("field", 6)]) (g := gName 6) rfl sc_law_without_right.nd rfl rfl (sw_true rfl rfl rfl (by decide +kernel)) (pi_list (pv 5)) (blkOk_by (N := ["told", "world", "name", "other", "none", "kept", "field", "one"]) (sc := L2.defScope s_law_without_right) (by decide +kernel)) (fun _ _ _ _ _ => pg_name (i := 6) sc_law_without_right.nd rfl (Or.inl rfl)) (fun _ _ _ _ _ => pts_one (pt_cmpR op_ne (inK (K := K) (t := fun K => tOp (rIxT K) _ _) rfl (pe_ix ix_tup (pv 6) pe_int (fun _ _ => rfl))) (pv 3) (nomark _))) (fun _ _ _ _ _ => (pv 6)))
    (pss_one (ps_ret (pe_and (pv 4) (pe_and (pv 7) (pe_one (pe_f c_law_same hr (by decide) rfl (pa_cons (ZX.pe_either (pe_methR (E := E0) (pv 0) cq mwq Fwq (hr.mono (by decide)) pass0 (pa_cons (pv 2) (pa_cons (pv 3) pa_nil))) (pe_methR (E := E0) (pv 0) cs mws Fws (hr.mono (by decide)) pass0 (pa_cons (pv 2) (pa_cons (pv 3) pa_nil)))) (pa_cons (pe_lst (pa_cons (pe_ix ix_list (pv 1) pe_int (fun _ _ => rfl)) (pa_cons (pe_ix ix_list (pv 1) pe_int (fun _ _ => rfl)) (pa_cons (pe_ix ix_list (pv 1) pe_int (fun _ _ => rfl)) (pa_cons (pv 5) (pa_cons (pe_ix ix_list (pv 1) pe_int (fun _ _ => rfl)) pa_nil)))))) pa_nil)))))))))))), ?_⟩
    obtain ⟨a, rfl, ha, hf⟩ := id hw
    obtain ⟨gok, gb, gm', gq, gs⟩ := bad_none hg
    have hz := (areB_val gok).1
    have hI : ∀ {σ : L2.St} {H' : Hp} (j : Nat) {v : V}, Ex H H' → σ[1]? = some (some (.ref a)) → [.str (sdS wl.q), .str wl.m, .str wl.p, .ref l, .str wl.b][j]? = some v → Ev (tOp (rIxL K) (tVar 1) (tC (.int (j : Int)))) σ H' v := fun j v e h0 hv => ev_ixL (ev_var h0) ev_c (e _ _ ha) (atI_nat hv)
    have sO : ∀ ns, smallW (wdW wl (outF wl.fs ns) wl.b) := fun ns => ⟨hs.1, hs.2.1, small_filter hs.2.2.1 _, hs.2.2.2⟩
    have aO : ∀ ns, areB (outF wl.fs ns) = true := fun ns => are_filter gok _
    have bO : ∀ ns, badW (wdW wl (outF wl.fs ns) wl.b) = none := fun ns => by rw [bad_fields hg, if_pos (aO ns)]
    have o0 : outF wl.fs [] = wl.fs := by
      unfold outF
      refine List.filter_eq_self.mpr fun x hx => ?_
      rw [decide_eq_false (fun h => nomatch h)]
      rfl
    have o1 : outF wl.fs [n] = wl.fs.filter fun y => !decide (y.1 = n) := by
      unfold outF
      refine congrArg (fun c => List.filter c wl.fs) (funext fun y => ?_)
      rw [decide_eq_decide.mpr List.mem_singleton]
    have o2 : outF wl.fs [n, x] = (wl.fs.filter fun y => !decide (y.1 = n)).filter fun y => !decide (y.1 = x) := by
      unfold outF
      rw [List.filter_filter]
      refine congrArg (fun c => List.filter c wl.fs) (funext fun y => ?_)
      by_cases h1 : y.1 = n
      · rw [decide_eq_true (show y.1 ∈ [n, x] by rw [h1]; exact List.mem_cons_self), decide_eq_true h1]
        cases decide (y.1 = x) <;> rfl
      · by_cases h2 : y.1 = x
        · rw [decide_eq_true (show y.1 ∈ [n, x] by rw [h2]; exact List.mem_cons_of_mem _ List.mem_cons_self), decide_eq_true h2]
          rfl
        · rw [decide_eq_false (show ¬ y.1 ∈ [n, x] by simp [h1, h2]), decide_eq_false h1, decide_eq_false h2]
          rfl
    -- _law_same(told.without(..), [.., kept, ..])
    have e0w : wdW wl wl.fs wl.b = wl := rfl
    refine q_asgR (rd_args (rd_consR (rd_wo (ns := []) hm (sO []) (bO []) hz (ev_var rfl) ea_nil (by decide) fun u1 l1 H1 e1 hm1 => rd_consE (ev_var rfl) fun H2 e2 => rd_nil ?_)))
    refine ⟨u1, .ref a, wl, l, l1, rfl, ?_, hw.ex (e1.trans e2), hs, gok, fun H3 e3 => ?_⟩
    · rw [o0, e0w] at hm1
      exact hm1.ex e2
    have e03 := (e1.trans e2).trans e3
    clear e1 e2 e3 hm1
    refine q_asgR (el_out (Q := fun v H => _) (n := n) (hI 3 e03 rfl rfl) (hf.ex e03) (by omega) (fun _ => rfl) (fun _ => rfl) (fun _ _ _ => ev_var rfl) fun D H4 nD e4 hD => ?_)
    have e04 := e03.trans e4
    refine q_asgR (rd_args (rd_consR (rd_wo (ns := [n]) (hm.ex e04) (sO [n]) (bO [n]) hz (ev_var rfl) (ea_cons (ev_var rfl) ea_nil) (by show 1 ≤ 5; decide) fun u1 l1 H5 e5 hm1 => rd_consLs (el_lst (ea_cons (hI 0 (e04.trans e5) rfl rfl) (ea_cons (hI 1 (e04.trans e5) rfl rfl) (ea_cons (hI 2 (e04.trans e5) rfl rfl) (ea_cons (ev_var rfl) (ea_cons (hI 4 (e04.trans e5) rfl rfl) ea_nil))))) (by show 5 ≤ 100000; decide)) fun r H6 nr e6 hr6 => rd_nil ?_)))
    refine ⟨u1, .ref r, wdW wl (outF wl.fs [n]) wl.b, D, l1, rfl, hm1.ex e6, ⟨r, rfl, hr6, ?_⟩, sO [n], aO [n], fun H7 e7 => ?_⟩
    · show FsAt H6 D (outF wl.fs [n])
      rw [o1]
      exact hD.ex (e5.trans e6)
    have e47 := (e5.trans e6).trans e7
    have e07 := e04.trans e47
    clear e5 e6 e7 hm1 hr6
    refine q_asgR (el_out (Q := fun v H => _) (n := x) (ev_var rfl) (hD.ex e47) (by have := List.length_filter_le (fun y => !decide (y.1 = n)) wl.fs; omega) (fun _ => rfl) (fun _ => rfl) (fun _ _ _ => ev_var rfl) fun D2 H8 nD2 e8 hD2 => ?_)
    have e08 := e07.trans e8
    refine s_ret (v := .bl true) (ev_is (ev_andV (a := true) (b := true) (ev_var rfl) fun _ => ev_andV (a := true) (b := true) (ev_var rfl) fun _ => fun H9 e9 Q' q' => rd_args (rd_consR (rd_wo (ns := [n, x]) (hm.ex (e08.trans e9)) (sO [n, x]) (bO [n, x]) hz (ev_var rfl) (ea_cons (ev_var rfl) (ea_cons (ev_var rfl) ea_nil)) (by show 2 ≤ 5; decide) fun u1 l1 H5 e5 hm1 => rd_consLs (el_lst (ea_cons (hI 0 ((e08.trans e9).trans e5) rfl rfl) (ea_cons (hI 1 ((e08.trans e9).trans e5) rfl rfl) (ea_cons (hI 2 ((e08.trans e9).trans e5) rfl rfl) (ea_cons (ev_var rfl) (ea_cons (hI 4 ((e08.trans e9).trans e5) rfl rfl) ea_nil))))) (by show 5 ≤ 100000; decide)) fun r H6 nr e6 hr6 => rd_nil ?_))) rfl) fun H9 e9 => q H9 (e08.trans e9)
    refine ⟨u1, .ref r, wdW wl (outF wl.fs [n, x]) wl.b, D2, l1, rfl, hm1.ex e6, ⟨r, rfl, hr6, ?_⟩, sO [n, x], aO [n, x], fun H7 e7 => q' H7 ((e5.trans e6).trans e7)⟩
    show FsAt H6 D2 (outF wl.fs [n, x])
    rw [o2]
    exact hD2.ex (e9.trans (e5.trans e6))
end
end Z
set_option maxHeartbeats 4000000
namespace Z
open PySem PySem.Spec PyProof.Rows L2 TL Evl NdefX
/-! ### a row near another -/
theorem path_near {p : Str} (h : pathB p = true) : pathB (cutS (p ++ "-") none (some 60)) = true := by
  have hb : pathB p = ((decide ((1 : Int) ≤ p.length) && decide ((p.length : Int) ≤ 60)) && (decide (hd p = some 47) && allIn p patS)) := rfl
  rw [hb] at h
  simp only [Bool.and_eq_true, decide_eq_true_eq] at h
  obtain ⟨⟨h1, h2⟩, h3, h4⟩ := h
  have e : tl (cutS (p ++ "-") none (some 60)) = (tl p ++ [45]).take 60 := by
    rw [show (60 : Int) = ((60 : Nat) : Int) from rfl, cutTo_tl, tl_append]
    rfl
  have hl := len_tl' (cutS (p ++ "-") none (some 60))
  rw [e, List.length_take, List.length_append, len_tl'] at hl
  have hl1 : [45].length = 1 := rfl
  rw [hl1] at hl
  show ((decide ((1 : Int) ≤ (cutS (p ++ "-") none (some 60)).length) && decide (((cutS (p ++ "-") none (some 60)).length : Int) ≤ 60)) && (decide (hd (cutS (p ++ "-") none (some 60)) = some 47) && allIn (cutS (p ++ "-") none (some 60)) patS)) = true
  have hh : hd (cutS (p ++ "-") none (some 60)) = some 47 := by
    unfold hd at h3 ⊢
    rw [e]
    cases hp : tl p with
    | nil => rw [hp] at h3; cases h3
    | cons c r =>
      rw [hp] at h3
      exact h3
  have ha : allIn (cutS (p ++ "-") none (some 60)) patS = true := by
    refine List.all_eq_true.mpr fun c hc => ?_
    rw [e] at hc
    rcases List.mem_append.mp (List.mem_of_mem_take hc) with hc | hc
    · exact List.all_eq_true.mp h4 c hc
    · rw [List.mem_singleton.mp hc]
      decide +kernel
  rw [hh, ha, decide_eq_true (by omega), decide_eq_true (by omega)]
  rfl
theorem body_near {b : Str} (h : bodyB b = true) : bodyB (cutS (b ++ "b") (some 1) none) = true := by
  unfold bodyB at h ⊢
  obtain ⟨h1, h2⟩ := Bool.and_eq_true_iff.mp h
  have h1 := of_decide_eq_true h1
  have e : tl (cutS (b ++ "b") (some 1) none) = (tl b ++ [98]).drop 1 := by
    rw [cutFrom1_tl, tl_append]
    rfl
  have hl := len_tl' (cutS (b ++ "b") (some 1) none)
  rw [e, List.length_drop, List.length_append, len_tl'] at hl
  have hl1 : [98].length = 1 := rfl
  rw [hl1] at hl
  rw [decide_eq_true (by omega), Bool.true_and]
  refine List.all_eq_true.mpr fun c hc => ?_
  rw [e] at hc
  rcases List.mem_append.mp (List.mem_of_mem_drop hc) with hc | hc
  · exact List.all_eq_true.mp h2 c hc
  · rw [List.mem_singleton.mp hc]
    decide +kernel
theorem bad_of {w : Wl} (h1 : areB w.fs = true) (h2 : bodyB w.b = true) (h3 : w.b = "" ∨ hbW w = true) (h4 : w.q = true → w.m ∈ mdL ∧ pathB w.p = true) (h5 : w.q = false → w.m ∈ stL) : badW w = none := by
  obtain ⟨q, m, p, fs, b⟩ := w
  have hM : ∀ hb, (b = "" ∨ hb = true) → badM fs hb b = none := fun hb hh => by
    unfold badM
    rw [if_neg (by rw [show areB fs = true from h1]; exact Bool.noConfusion), if_neg]
    rintro (z | ⟨z1, z2⟩)
    · rw [show bodyB b = true from h2] at z; cases z
    · rcases hh with hh | hh
      · exact z1 hh
      · rw [hh] at z2; cases z2
  unfold badW
  cases q with
  | true =>
    obtain ⟨k1, k2⟩ := h4 rfl
    rw [if_pos rfl, if_neg (fun z => z k1), if_neg (by show ¬ pathB p = false; rw [show pathB p = true from k2]; exact Bool.noConfusion)]
    exact hM _ h3
  | false =>
    rw [if_neg Bool.false_ne_true, if_neg (fun z => z (h5 rfl))]
    exact hM _ h3
theorem are_perm {fs gs : Fs} (h : areB fs = true) (hl : gs.length ≤ fs.length) (hm : ∀ x ∈ gs, x ∈ fs) : areB gs = true := by
  unfold areB at h ⊢
  rw [Bool.and_eq_true, decide_eq_true_eq, List.all_eq_true] at h ⊢
  exact ⟨Nat.le_trans hl h.1, fun x hx => h.2 x (hm x hx)⟩
theorem path60 {q : Str} (h : pathB q = true) : q.length ≤ 60 := by
  unfold pathB at h
  simp only [Bool.and_eq_true, decide_eq_true_eq] at h
  omega
theorem cutV_from {xs : List V} {i : Nat} (h : i ≤ xs.length) : cutV xs (some (i : Int)) none = xs.drop i := by
  unfold cutV
  rw [HT.sIx_none, show HT.sIx xs.length 0 (some (i : Int)) = min i xs.length from HT.sIx_nat _ _ i, Nat.min_eq_left h]
  exact List.take_of_length_le (by rw [List.length_drop]; exact Nat.le_refl _)
theorem cutV_to {xs : List V} {i : Nat} (h : i ≤ xs.length) : cutV xs none (some (i : Int)) = xs.take i := by
  unfold cutV
  rw [HT.sIx_none, show HT.sIx xs.length xs.length (some (i : Int)) = min i xs.length from HT.sIx_nat _ _ i, Nat.min_eq_left h, List.drop_zero, Nat.sub_zero]
theorem rel_cat {R : V → Str × Str → Prop} {xs ys : List V} {fs gs : Fs} (h : Rel R xs fs) (k : Rel R ys gs) : Rel R (xs ++ ys) (fs ++ gs) := by
  refine ⟨by rw [List.length_append, List.length_append, h.1, k.1], fun i x y hx hy => ?_⟩
  by_cases hi : i < xs.length
  · rw [List.getElem?_append_left hi] at hx
    rw [List.getElem?_append_left (by rw [← h.1]; exact hi)] at hy
    exact h.2 i x y hx hy
  · rw [List.getElem?_append_right (by omega)] at hx
    rw [List.getElem?_append_right (by rw [← h.1]; omega), ← h.1] at hy
    exact k.2 _ x y hx hy
theorem rel_erase {R : V → Str × Str → Prop} {xs : List V} {fs : Fs} (h : Rel R xs fs) (j : Nat) : Rel R (xs.eraseIdx j) (fs.eraseIdx j) := by
  refine ⟨by rw [List.length_eraseIdx, List.length_eraseIdx, h.1], fun i x y hx hy => ?_⟩
  rw [List.getElem?_eraseIdx] at hx hy
  split at hx
  · rename_i hi
    rw [if_pos hi] at hy
    exact h.2 i x y hx hy
  · rename_i hi
    rw [if_neg hi] at hy
    exact h.2 _ x y hx hy
theorem Rel.takes {R : V → Str × Str → Prop} {xs : List V} {ys : Fs} (h : Rel R xs ys) (n : Nat) : Rel R (xs.take n) (ys.take n) ∧ Rel R (xs.drop n) (ys.drop n) := by
  refine ⟨⟨by rw [List.length_take, List.length_take, h.1], fun i x y hx hy => ?_⟩, ⟨by rw [List.length_drop, List.length_drop, h.1], fun i x y hx hy => ?_⟩⟩
  · rw [List.getElem?_take] at hx hy
    split at hx
    · rename_i hi
      rw [if_pos hi] at hy
      exact h.2 i x y hx hy
    · cases hx
  · rw [List.getElem?_drop] at hx hy
    exact h.2 _ x y hx hy
def spNr : Sp := fun vs H Q _ => ∃ p v w l, vs = [.ref p, v] ∧ Bg H p ∧ WlAt H v w l ∧ v ≠ .ref p ∧ smallW w ∧ badW w = none ∧
  ∀ v' w' l' H', WlAt H' v' w' l' → w'.q = w.q → (w.q = false → w'.p = w.p) → smallW w' → badW w' = none → v' ≠ .ref p → l' ≠ p → Bg H' p → Keep p H H' → Q v' H'
/-- the row that is being changed: at a, its fields at l, both new since H0 -/
def NrAt (H0 H : Hp) (p a l : Addr) (wl w : Wl) (way j : Int) : Prop := H0 a = none ∧ H a = some (.lst [.str (sdS w.q), .str w.m, .str w.p, .ref l, .str w.b]) ∧ FsAt H l w.fs ∧ H0 l = none ∧ a ≠ p ∧ l ≠ p ∧ a ≠ l ∧ w.q = wl.q ∧ (wl.q = false → w.p = wl.p) ∧ smallW w ∧ badW w = none ∧ (j < way → w = wl)
theorem NrAt.ex {H0 H H' : Hp} {p a l : Addr} {wl w : Wl} {way j : Int} (h : NrAt H0 H p a l wl w way j) (e : Ex H H') : NrAt H0 H' p a l wl w way j := by
  obtain ⟨h1, h2, h3, h4⟩ := h
  exact ⟨h1, e _ _ h2, h3.ex e, h4⟩
theorem NrAt.keep {H0 H H' : Hp} {p a l : Addr} {wl w : Wl} {way j : Int} (h : NrAt H0 H p a l wl w way j) (k : Keep p H H') (b : Bg H p) : NrAt H0 H' p a l wl w way j := by
  obtain ⟨h1, h2, h3, h4, h5, h6⟩ := h
  exact ⟨h1, k _ _ h5 h2, h3.keepF k b, h4, h5, h6⟩
theorem NrAt.up {H0 H : Hp} {p a l : Addr} {wl w : Wl} {way j j' : Int} (h : NrAt H0 H p a l wl w way j) (hj : j ≤ j') : NrAt H0 H p a l wl w way j' := by
  obtain ⟨h1, h2, h3, h4, h5, h6, h7, h8, h9, h10, h11, h12⟩ := h
  exact ⟨h1, h2, h3, h4, h5, h6, h7, h8, h9, h10, h11, fun z => h12 (by omega)⟩
theorem Keep.new {p a : Addr} {H H' : Hp} {o : HO} (k : Keep p H H') (h : H a = none) : Keep p H (L2.upd H' a o) := fun c x hc hx => by
  rw [upd_ne (ne_of_none hx h)]
  exact k c x hc hx
theorem FsAt.updL {H : Hp} {l a : Addr} {fs : Fs} {o : HO} {xs : List V} (h : FsAt H l fs) (n : l ≠ a) (ha : H a = some (.lst xs)) : FsAt (upd H a o) l fs := by
  obtain ⟨ys, h1, h2⟩ := h
  refine ⟨ys, by rw [upd_ne n]; exact h1, h2.mono fun v x m => ?_⟩
  obtain ⟨t, rfl, ht⟩ := m
  exact ⟨t, rfl, by rw [upd_ne (fun e => by rw [e, ha] at ht; cases ht)]; exact ht⟩
theorem NrAt.put {H0 H : Hp} {p a l : Addr} {wl w w' : Wl} {way j j' : Int} {o : List V} (h : NrAt H0 H p a l wl w way j) (ho : o = [.str (sdS w'.q), .str w'.m, .str w'.p, .ref l, .str w'.b]) (hfs : w'.fs = w.fs) (hq : w'.q = wl.q) (hp : wl.q = false → w'.p = wl.p) (hs : smallW w') (hb : badW w' = none) (hj : ¬ j' < way) : NrAt H0 (L2.upd H a (.lst o)) p a l wl w' way j' := by
  obtain ⟨h1, h2, h3, h4, h5, h6, h7, h8⟩ := h
  refine ⟨h1, by rw [← ho]; exact upd_same, ?_, h4, h5, h6, h7, hq, hp, hs, hb, fun z => absurd z hj⟩
  rw [hfs]
  exact FsAt.updL h3 (Ne.symm h7) h2
theorem el_slE {K : PySem.W.Frag} {σ : L2.St} {H : Hp} {te : TE} {tlo thi : TO} {lo hi : Option Int} {l : Addr} {xs : List V} (h : Ev te σ H (.ref l)) (hl : H l = some (.lst xs)) (h1 : EvO tlo σ H lo) (h2 : EvO thi σ H hi) : EvL (tSl (rSlL K) te tlo thi) σ H (cutV xs lo hi) := fun H1 e Q q =>
  h H1 e _ fun H2 e2 => h1 H2 (e.trans e2) _ fun H3 e3 => h2 H3 ((e.trans e2).trans e3) _ fun H4 e4 => ⟨l, xs, rfl, sq_of ((((e.trans e2).trans e3).trans e4) _ _ hl), fun p np => q p _ (fresh_back ((e2.trans e3).trans e4) np) (((e2.trans e3).trans e4).trans (Ex.new np)) upd_same⟩
section
variable {P : Program} {w : World} {K : PySem.W.Frag} {mg : Str → Option Value} {base : Heap} {f B RQ RS DV DH DM DI DR : Addr} {fd : FuncData} {k : Nat}
theorem ok_law_near (T : Mg mg) (c_law_draw : CDr P w K mg base) (c_law_pick : CPk P w K mg base) (c_law_statuses : Call P w K mg base 1 "_law_statuses" [] (fun vs H Q _ => vs = [] ∧ RetL (stL.map V.str) H Q)) (c_law_may : Call P w K mg base 1 "_law_may" ["side", "first"] spMy)
    (F : FnP K "_law_near" s_law_near f fd) (gm : mg "_law_near" = some (.ref f)) : Call P w K mg base 3 "_law_near" ["bag", "world"] spNr := by
  refine mk F gm (fun _ _ _ _ _ _ us hl => match us, hl with | [_, _], _ => rfl) (fun _ _ _ _ _ _ us hl => match us, hl with | [_, _], _ => rfl) sc_law_near (fun vs H Q E h => ?_) (fun cdv A outer s H vs Q E hr h => ?_)
  · obtain ⟨p, v, w, l, rfl, _⟩ := h
    rfl
  · obtain ⟨p, v, wl, l, rfl, b, ⟨aw, rfl, haw, hf⟩, nv, hs, hg, q⟩ := h
    refine ⟨_, (pss_cons (ps_set (i := 2) sc_law_near.nd rfl (Or.inl rfl) (pe_callTy call_list_of (by rfl) T.list (by decide +kernel) (pa_cons (pv 1) pa_nil)))
    (pss_cons (ps_asg (pe_callTy call_list_of (by rfl) T.list (by decide +kernel) (pa_cons (pe_ix ix_list (pv 1) pe_int (fun _ _ => rfl)) pa_nil)) (pg_sub (pv 2) pe_int set_list))
    (pss_cons (ps_set (i := 3) sc_law_near.nd rfl (Or.inl rfl) (pe_f c_law_draw hr (by decide) rfl (pa_cons (pv 0) (pa_cons pe_int pa_nil))))
    (pss_cons (ps_if (PW.pt (pw_and (pt_cmpR op_eq (pv 3) pe_int (nomark _)) (pw_and1 (pt_cmpR op_eq (pe_ix ix_list (pv 1) pe_int (fun _ _ => rfl)) pe_str (nomark _)))))
      (pss_one (ps_asg (pe_slice sl_str (pe_op oz_add (pe_ix ix_list (pv 1) pe_int (fun _ _ => rfl)) pe_str) po_none (po_some pe_int)) (pg_sub (pv 2) pe_int set_list)))
      pss_nil)
    (pss_cons (ps_if (PW.pt (pw_and (pt_cmpR op_eq (pv 3) pe_int (nomark _)) (pw_and1 (pt_cmpR op_eq (pe_ix ix_list (pv 1) pe_int (fun _ _ => rfl)) pe_str (nomark _)))))
      (pss_cons (ps_asg (pe_f c_law_pick hr (by decide) rfl (pa_cons (pv 0) (pa_cons (pe_lst (pa_cons pe_str (pa_cons pe_str (pa_cons pe_str pa_nil)))) pa_nil))) (pg_sub (pv 2) pe_int set_list))
      (pss_one (ps_if (pt_cmpR op_eq (pe_ix ix_list (pv 1) pe_int (fun _ _ => rfl)) pe_str (nomark _))
        (pss_one (ps_asg (pe_f c_law_pick hr (by decide) rfl (pa_cons (pv 0) (pa_cons (pe_f0 c_law_statuses hr (by decide) rfl) pa_nil))) (pg_sub (pv 2) pe_int set_list)))
        pss_nil)))
      pss_nil)
    (pss_cons (ps_if (PW.pt (pw_and (pt_cmpR op_eq (pv 3) pe_int (nomark _)) (pw_and1 (pt_cmpR (op_neD hr.units) (pe_ix ix_list (pv 2) pe_int (fun _ _ => rfl)) (pe_lst pa_nil) (nomark _)))))
      (pss_one (ps_asg (pe_op op_cat (pe_slice sl_list (pe_ix ix_list (pv 2) pe_int (fun _ _ => rfl)) (po_some pe_int) po_none) (pe_slice sl_list (pe_ix ix_list (pv 2) pe_int (fun _ _ => rfl)) po_none (po_some pe_int))) (pg_sub (pv 2) pe_int set_list)))
      pss_nil)
    (pss_cons (ps_if (PW.pt (pw_and (pt_cmpR op_eq (pv 3) pe_int (nomark _)) (pw_and1 (pt_cmpR (op_neD hr.units) (pe_ix ix_list (pv 2) pe_int (fun _ _ => rfl)) (pe_lst pa_nil) (nomark _)))))
      (pss_one (ps_expr (pe_bm PySem.F.plainAttrs_list PySem.F.slot_list_pop PySem.F.type_list_pop mt_popAt (pe_ix ix_list (pv 2) pe_int (fun _ _ => rfl)) (pa_cons (pe_f c_law_draw hr (by decide) rfl (pa_cons (pv 0) (pa_cons (pe_callB call_len_seq (by rfl) T.len (by decide +kernel) (pa_cons (pe_ix ix_list (pv 2) pe_int (fun _ _ => rfl)) pa_nil)) pa_nil))) pa_nil))))
      pss_nil)
    (pss_cons (ps_if (PW.pt (pw_and (pt_cmpR op_eq (pv 3) pe_int (nomark _)) (pw_and1 (pt_val (pe_f c_law_may hr (by decide) rfl (pa_cons (pe_ix ix_list (pv 1) pe_int (fun _ _ => rfl)) (pa_cons (pe_ix ix_list (pv 1) pe_int (fun _ _ => rfl)) pa_nil)))))))
      (pss_one (ps_asg (pe_slice sl_str (pe_op oz_add (pe_ix ix_list (pv 1) pe_int (fun _ _ => rfl)) pe_str) (po_some pe_int) po_none) (pg_sub (pv 2) pe_int set_list)))
      pss_nil)
    (pss_one (ps_ret (pv 2))))))))))), ?_⟩
    obtain ⟨gok, gb, gm', gq, gs⟩ := bad_none hg
    obtain ⟨xs, hx, hr1⟩ := id hf
    have naw : aw ≠ p := fun e => nv (by rw [e])
    have nl : l ≠ p := hf.nbag b
    have hI : ∀ {σ : L2.St} {H' : Hp} (j : Nat) {v : V}, Keep p H H' → σ[1]? = some (some (.ref aw)) → [.str (sdS wl.q), .str wl.m, .str wl.p, .ref l, .str wl.b][j]? = some v → Ev (tOp (rIxL K) (tVar 1) (tC (.int (j : Int)))) σ H' v := fun j v e h0 hv => ev_ixL (ev_var h0) ev_c (e _ _ naw haw) (atI_nat hv)
    refine q_asgL (el_listS (ev_var rfl) haw) fun a H1 na e1 ha => ?_
    have npa : a ≠ p := b.ne na
    -- near[3] = list(world[3])
    refine q_in ?_; dsimp only
    refine s_asgSub ?_
    refine (el_listS (hI 3 (Keep.of e1) rfl rfl) (e1 _ _ hx)) H1 (Ex.refl H1) _ fun l2 H2 nl2 e2 hl2 => ?_
    have na0 := na
    have nl20 := fresh_back e1 nl2
    have nal : a ≠ l2 := fun e => by rw [← e, ha] at nl2; cases nl2
    refine ⟨.ref a, rfl, a, _, 3, 3, rfl, rfl, e2 _ _ ha, ixN_nat (j := 3) (by show 3 < 5; decide), ?_⟩
    have k2 : Keep p H (upd H2 a (.lst ([V.str (sdS wl.q), .str wl.m, .str wl.p, .ref l, .str wl.b].set 3 (.ref l2)))) := Keep.new (Keep.of (e1.trans e2)) na0
    have b2 : Bg (upd H2 a (.lst ([V.str (sdS wl.q), .str wl.m, .str wl.p, .ref l, .str wl.b].set 3 (.ref l2)))) p := (b.ex (e1.trans e2)).upd npa
    have n2 : ∀ way : Int, NrAt H (upd H2 a (.lst ([V.str (sdS wl.q), .str wl.m, .str wl.p, .ref l, .str wl.b].set 3 (.ref l2)))) p a l2 wl wl way 0 := fun way => ⟨na0, upd_same, FsAt.updL ⟨xs, hl2, hr1.mono fun _ _ m => TupAt.ex m (e1.trans e2)⟩ (Ne.symm nal) (e2 _ _ ha), nl20, npa, (b.ex e1).ne nl2, nal, rfl, fun _ => rfl, hs, hg, fun _ => rfl⟩
    generalize upd H2 a (.lst ([V.str (sdS wl.q), .str wl.m, .str wl.p, .ref l, .str wl.b].set 3 (.ref l2))) = H3 at k2 b2 n2
    clear e1 e2 ha hl2 nl2
    refine q_asgR (rd_dr (Q := fun v H => _) (ea_cons (ev_var rfl) (ea_cons ev_c ea_nil)) b2 (by decide) (by decide) fun way H4 d0 d1 b4 k4 => ?_)
    have n4 := (n2 way).keep k4 b2
    have k04 := k2.trans k4
    clear k2 b2 n2 k4
    have hme : ∀ {H' : Hp} {l' : Addr} {w' : Wl} {j : Int}, NrAt H H' p a l' wl w' way j → ∀ {σ : L2.St} {H'' : Hp}, Ex H' H'' → σ[2]? = some (some (.ref a)) → Ev (tOp (rIxL K) (tVar 2) (tC (.int 3))) σ H'' (.ref l') := fun {H' l' w' j} hn {σ H''} e h0 => ev_ixL (ev_var h0) ev_c (e _ _ hn.2.1) (atI_nat (j := 3) rfl)
    refine q_tailIf (fun σ1 Hx => ∃ w' l', σ1 = [some (.ref p), some (.ref aw), some (.ref a), some (.int way)] ∧ NrAt H Hx p a l' wl w' way 1 ∧ Bg Hx p ∧ Keep p H Hx) (fun σ1 H5 hR => ?_) (fun tail => ?_)
    rotate_left
    · refine q_if (b := decide (way = 1) && wl.q) (et_and (et_test (ev_op (ev_var rfl) ev_c rv_eqI)) fun _ => et_is (et_test (ev_op (hI 0 k04 rfl rfl) ev_c rv_eqS)) (sd_asks wl.q)) (fun hb H5 e5 => ?_) (fun hb H5 e5 => ?_)
      · obtain ⟨hb1, hb2⟩ := Bool.and_eq_true_iff.mp hb
        have hw1 := of_decide_eq_true hb1
        obtain ⟨g1, g2⟩ := gq hb2
        have g60 := path60 g2
        have lm : ("-" : Str).length = 1 := by decide +kernel
        have n5 := n4.ex e5
        refine s_setL (j := 2) n5.2.1 (ev_slS (ev_op (hI 2 (k04.trans (Keep.of e5)) rfl rfl) ev_c (rv_addS (by omega))) eo_none (eo_some ev_c) (by rw [Str.length_append]; omega)) (ev_var rfl) ev_c (by show 2 < 5; decide) fun H6 e6 => ?_
        have k06 := (k04.trans (Keep.of (e5.trans e6))).new (o := .lst ([V.str (sdS wl.q), .str wl.m, .str wl.p, .ref l2, .str wl.b].set 2 (.str (cutS (wl.p ++ "-") none (some 60))))) na0
        refine tail _ _ ⟨⟨wl.q, wl.m, cutS (wl.p ++ "-") none (some 60), wl.fs, wl.b⟩, l2, rfl, (n5.ex e6).put rfl rfl rfl (fun h => by rw [hb2] at h; cases h) ⟨hs.1, by have := cut_len (wl.p ++ "-") none (some 60); have hh := Str.length_append wl.p "-"; show (cutS (wl.p ++ "-") none (some 60)).length ≤ 100; omega, hs.2.2⟩ (bad_of gok gb gm' (fun _ => ⟨g1, path_near g2⟩) gs) (by omega), (b4.ex (e5.trans e6)).upd npa, k06⟩
      · exact tail _ _ ⟨wl, l2, rfl, (n4.ex e5).up (by decide), b4.ex e5, k04.trans (Keep.of e5)⟩
    obtain ⟨w5, l5, rfl, n5, b5, k05⟩ := hR
    clear n4 b4 k04
    refine q_tailIf (fun σ1 Hx => ∃ w' l', σ1 = [some (.ref p), some (.ref aw), some (.ref a), some (.int way)] ∧ NrAt H Hx p a l' wl w' way 2 ∧ Bg Hx p ∧ Keep p H Hx) (fun σ1 H6 hR => ?_) (fun tail => ?_)
    rotate_left
    · refine q_if (b := decide (way = 2) && decide (wl.b = "")) (et_and (et_test (ev_op (ev_var rfl) ev_c rv_eqI)) fun _ => et_test (ev_op (hI 4 k05 rfl rfl) ev_c rv_eqS)) (fun hb H6 e6 => ?_) (fun hb H6 e6 => ?_)
      · obtain ⟨hb1, hb2⟩ := Bool.and_eq_true_iff.mp hb
        have hw1 := of_decide_eq_true hb1
        have hbe := of_decide_eq_true hb2
        have ew : w5 = wl := n5.2.2.2.2.2.2.2.2.2.2.2 (by omega)
        subst ew
        have n6 := n5.ex e6
        refine q_in ?_; dsimp only
        refine s_asgSub ?_
        refine rd_pk (Q := fun v H => _) (xs := mdL.map V.str) (ev_var rfl) (el_lst (ea_cons ev_c (ea_cons ev_c (ea_cons ev_c ea_nil))) (by decide)) (b5.ex e6) (by decide) (by decide) fun v H7 hv b7 k7 => ?_
        obtain ⟨m1, rfl, hm1⟩ := strs_in hv
        have n7 := n6.keep k7 (b5.ex e6)
        refine ⟨.ref a, rfl, a, _, 1, 1, rfl, rfl, n7.2.1, ixN_nat (j := 1) (by show 1 < 5; decide), ?_⟩
        have k07 : Keep p H (L2.upd H7 a (.lst ([V.str (sdS w5.q), .str w5.m, .str w5.p, .ref l5, .str w5.b].set 1 (.str m1)))) := ((k05.trans (Keep.of e6)).trans k7).new na0
        have b8 : Bg (L2.upd H7 a (.lst ([V.str (sdS w5.q), .str w5.m, .str w5.p, .ref l5, .str w5.b].set 1 (.str m1)))) p := b7.upd npa
        have a8 : (L2.upd H7 a (.lst ([V.str (sdS w5.q), .str w5.m, .str w5.p, .ref l5, .str w5.b].set 1 (.str m1)))) a = some (.lst [V.str (sdS w5.q), .str m1, .str w5.p, .ref l5, .str w5.b]) := upd_same
        have f8 : FsAt (L2.upd H7 a (.lst ([V.str (sdS w5.q), .str w5.m, .str w5.p, .ref l5, .str w5.b].set 1 (.str m1)))) l5 w5.fs := FsAt.updL n7.2.2.1 (Ne.symm n7.2.2.2.2.2.2.1) n7.2.1
        generalize L2.upd H7 a (.lst ([V.str (sdS w5.q), .str w5.m, .str w5.p, .ref l5, .str w5.b].set 1 (.str m1))) = H8 at k07 b8 a8 f8
        obtain ⟨r1, r2, r3, r4, r5, r6, r7, r8, r9, r10, r11, r12⟩ := id n7
        refine s_when (b := !w5.q) (et_is (et_test (ev_op (hI 0 k07 rfl rfl) ev_c rv_eqS)) (sd_answers w5.q)) (fun hc H9 e9 => ?_) (fun hc H9 e9 => ?_)
        · have hqf := (Bool.not_eq_true' _).mp hc
          refine s_asgSub ?_
          refine rd_pk (Q := fun v H => _) (xs := stL.map V.str) (ev_var rfl) (el_callX (vs := []) ea_nil fun H1 e1 Q' E' q' => ⟨rfl, q'⟩) (b8.ex e9) (by decide) (by decide) fun v H10 hv b10 k10 => ?_
          obtain ⟨m2, rfl, hm2⟩ := strs_in hv
          have a10 := k10 _ _ npa (e9 _ _ a8)
          have hl2m := st_len hm2
          refine ⟨.ref a, rfl, a, _, 1, 1, rfl, rfl, a10, ixN_nat (j := 1) (by show 1 < 5; decide), ?_⟩
          refine tail _ _ ⟨⟨w5.q, m2, w5.p, w5.fs, w5.b⟩, l5, rfl, ⟨na0, upd_same, FsAt.updL ((f8.ex e9).keepF k10 (b8.ex e9)) (Ne.symm r7) a10, r4, r5, r6, r7, rfl, fun _ => rfl, ⟨by show m2.length ≤ 100; omega, hs.2⟩, bad_of gok gb (.inl hbe) (fun h => by rw [show w5.q = true from h] at hqf; cases hqf) (fun _ => hm2), fun z => by omega⟩, b10.upd npa, ((k07.trans (Keep.of e9)).trans k10).new na0⟩
        · have hqt := (Bool.not_eq_false' _).mp hc
          have hl1m := m_len hm1
          refine tail _ _ ⟨⟨w5.q, m1, w5.p, w5.fs, w5.b⟩, l5, rfl, ⟨na0, e9 _ _ a8, f8.ex e9, r4, r5, r6, r7, rfl, fun _ => rfl, ⟨by show m1.length ≤ 100; omega, hs.2⟩, bad_of gok gb (.inl hbe) (fun _ => ⟨hm1, (gq hqt).2⟩) (fun h => by rw [show w5.q = false from h] at hqt; cases hqt), fun z => by omega⟩, b8.ex e9, k07.trans (Keep.of e9)⟩
      · exact tail _ _ ⟨w5, l5, rfl, (n5.ex e6).up (by decide), b5.ex e6, k05.trans (Keep.of e6)⟩
    obtain ⟨w6, l6, rfl, n6, b6, k06⟩ := hR
    clear n5 b5 k05
    refine q_tailIf (fun σ1 Hx => ∃ w' l', σ1 = [some (.ref p), some (.ref aw), some (.ref a), some (.int way)] ∧ NrAt H Hx p a l' wl w' way 3 ∧ Bg Hx p ∧ Keep p H Hx) (fun σ1 H7 hR => ?_) (fun tail => ?_)
    rotate_left
    · have ok6 := okF_okS (areB_ok (bad_none n6.2.2.2.2.2.2.2.2.2.2.1).1)
      refine q_if (b := decide (way = 3) && !decide (w6.fs = [])) (et_and (et_test (ev_op (ev_var rfl) ev_c rv_eqI)) fun _ => et_test (ev_opL (hme n6 (Ex.refl _) rfl) (el_lst ea_nil (by decide)) fun p' H1 hp' e => rv_neFS (n6.2.2.1.ex e) (fs_nil hp') ok6 okS_nil)) (fun hb H7 e7 => ?_) (fun hb H7 e7 => ?_)
      · obtain ⟨hb1, hb2⟩ := Bool.and_eq_true_iff.mp hb
        have hw1 := of_decide_eq_true hb1
        have hne := of_decide_eq_false ((Bool.not_eq_true' _).mp hb2)
        have ew : w6 = wl := n6.2.2.2.2.2.2.2.2.2.2.2 (by omega)
        subst ew
        have n7 := n6.ex e7
        obtain ⟨r1, r2, r3, r4, r5, r6, r7, r8, r9, r10, r11, r12⟩ := id n7
        obtain ⟨ys, hy, hyr⟩ := id r3
        have hl1 : 1 ≤ ys.length := by
          rw [hyr.1]
          cases hfs : w6.fs with
          | nil => exact absurd hfs hne
          | cons x r => exact Nat.succ_pos _
        refine s_asgSub ?_
        refine (el_catLL (el_slE (K := K) (hme n7 (Ex.refl _) rfl) hy (eo_some (ev_c (v := .int 1))) eo_none) (el_slE (K := K) (hme n7 (Ex.refl _) rfl) hy eo_none (eo_some (ev_c (v := .int 1)))) (by have z1 := cutV_length ys (some 1) none; have z2 := cutV_length ys none (some 1); have := (areB_val gok).1; have := hyr.1; omega)) H7 (Ex.refl H7) _ fun l7 H8 nl7 e8 hl7 => ?_
        have c1 : cutV ys (some 1) none = ys.drop 1 := cutV_from (i := 1) hl1
        have c2 : cutV ys none (some 1) = ys.take 1 := cutV_to (i := 1) hl1
        rw [c1, c2] at hl7
        refine ⟨.ref a, rfl, a, _, 3, 3, rfl, rfl, e8 _ _ r2, ixN_nat (j := 3) (by show 3 < 5; decide), ?_⟩
        have k08 := (k06.trans (Keep.of (e7.trans e8))).new (o := .lst ([V.str (sdS w6.q), .str w6.m, .str w6.p, .ref l6, .str w6.b].set 3 (.ref l7))) na0
        have nal7 : a ≠ l7 := fun e => by rw [← e, r2] at nl7; cases nl7
        have hl7p : l7 ≠ p := (b6.ex e7).ne nl7
        have hl70 : H l7 = none := by
          cases hq : H l7 with
          | none => rfl
          | some o => rw [(k06.trans (Keep.of e7)) l7 o hl7p hq] at nl7; cases nl7
        have hfr : FsAt H8 l7 (w6.fs.drop 1 ++ w6.fs.take 1) := ⟨_, hl7, (rel_cat (hyr.takes 1).2 (hyr.takes 1).1).mono fun _ _ m => TupAt.ex m e8⟩
        have har : areB (w6.fs.drop 1 ++ w6.fs.take 1) = true := are_perm gok (by rw [List.length_append, List.length_drop, List.length_take]; omega) fun x hx => (List.mem_append.mp hx).elim (fun h => List.mem_of_mem_drop h) (fun h => List.mem_of_mem_take h)
        refine tail _ _ ⟨⟨w6.q, w6.m, w6.p, w6.fs.drop 1 ++ w6.fs.take 1, w6.b⟩, l7, rfl, ⟨na0, upd_same, FsAt.updL hfr (Ne.symm nal7) (e8 _ _ r2), hl70, r5, hl7p, nal7, rfl, fun _ => rfl, ⟨hs.1, hs.2.1, ⟨by show (w6.fs.drop 1 ++ w6.fs.take 1).length ≤ 100; have := (areB_val har).1; omega, fun x hx => ?_⟩, hs.2.2.2⟩, bad_of har gb gm' gq gs, fun z => by omega⟩, (b6.ex (e7.trans e8)).upd npa, k08⟩
        obtain ⟨z1, z2⟩ := (areB_val har).2 x hx
        exact ⟨by omega, by omega⟩
      · exact tail _ _ ⟨w6, l6, rfl, (n6.ex e7).up (by decide), b6.ex e7, k06.trans (Keep.of e7)⟩
    obtain ⟨w7, l7, rfl, n7, b7, k07⟩ := hR
    clear n6 b6 k06
    refine q_tailIf (fun σ1 Hx => ∃ w' l', σ1 = [some (.ref p), some (.ref aw), some (.ref a), some (.int way)] ∧ NrAt H Hx p a l' wl w' way 4 ∧ Bg Hx p ∧ Keep p H Hx) (fun σ1 H8 hR => ?_) (fun tail => ?_)
    rotate_left
    · have ok7 := okF_okS (areB_ok (bad_none n7.2.2.2.2.2.2.2.2.2.2.1).1)
      refine q_if (b := decide (way = 4) && !decide (w7.fs = [])) (et_and (et_test (ev_op (ev_var rfl) ev_c rv_eqI)) fun _ => et_test (ev_opL (hme n7 (Ex.refl _) rfl) (el_lst ea_nil (by decide)) fun p' H1 hp' e => rv_neFS (n7.2.2.1.ex e) (fs_nil hp') ok7 okS_nil)) (fun hb H8 e8 => ?_) (fun hb H8 e8 => ?_)
      · obtain ⟨hb1, hb2⟩ := Bool.and_eq_true_iff.mp hb
        have hw1 := of_decide_eq_true hb1
        have hne := of_decide_eq_false ((Bool.not_eq_true' _).mp hb2)
        have ew : w7 = wl := n7.2.2.2.2.2.2.2.2.2.2.2 (by omega)
        subst ew
        have n8 := n7.ex e8
        obtain ⟨r1, r2, r3, r4, r5, r6, r7, r8, r9, r10, r11, r12⟩ := id n8
        obtain ⟨ys, hy, hyr⟩ := id r3
        have hl1 : 1 ≤ w7.fs.length := by
          cases hfs : w7.fs with
          | nil => exact absurd hfs hne
          | cons x r => exact Nat.succ_pos _
        have hl40 := (areB_val gok).1
        refine g_drop ?_
        refine (hme n8 (Ex.refl _) rfl) H8 (Ex.refl H8) _ fun H9 e9 => ⟨Or.inl ⟨rfl, ys, sq_of (e9 _ _ hy)⟩, rd_consR (rd_dr (ea_cons (ev_var rfl) (ea_cons (ev_lenF (hme n8 e9 rfl) (FsAt.fq (r3.ex e9))) ea_nil)) ((b7.ex e8).ex e9) (by omega) (by omega) fun d H10 d0 d1 b10 k10 => rd_nil ?_)⟩
        have n10 := (n8.ex e9).keep k10 (b7.ex (e8.trans e9))
        obtain ⟨t1, t2, t3, t4, t5, t6, t7, t8⟩ := id n10
        obtain ⟨zs, hz, hzr⟩ := id t3
        have hzl := hzr.1
        obtain ⟨i, rfl⟩ := Int.eq_ofNat_of_zero_le d0
        have hi : i < zs.length := by omega
        refine ⟨l7, zs, (i : Int), i, zs[i], rfl, rfl, hz, by omega, by omega, ?_, List.getElem?_eq_getElem hi, ?_⟩
        · have := seqIndex_of (k := (i : Int)) (n := zs.length) (by omega) (by omega)
          rw [Int.toNat_natCast] at this
          exact this
        · have k010 := ((k07.trans (Keep.of (e8.trans e9))).trans k10).new (o := .lst (zs.eraseIdx i)) r4
          have hfr : FsAt (L2.upd H10 l7 (.lst (zs.eraseIdx i))) l7 (w7.fs.eraseIdx i) := ⟨_, upd_same, (rel_erase hzr i).mono fun v x m => by
            obtain ⟨t, rfl, ht⟩ := m
            exact ⟨t, rfl, by rw [upd_ne (fun e => by rw [e, hz] at ht; cases ht)]; exact ht⟩⟩
          have har : areB (w7.fs.eraseIdx i) = true := are_perm gok (List.length_eraseIdx_le _ _) fun x hx => List.mem_of_mem_eraseIdx hx
          refine tail _ _ ⟨⟨w7.q, w7.m, w7.p, w7.fs.eraseIdx i, w7.b⟩, l7, rfl, ⟨na0, by rw [upd_ne r7]; exact t2, hfr, r4, r5, r6, r7, rfl, fun _ => rfl, ⟨hs.1, hs.2.1, ⟨by show (w7.fs.eraseIdx i).length ≤ 100; have := (areB_val har).1; omega, fun x hx => ?_⟩, hs.2.2.2⟩, bad_of har gb gm' gq gs, fun z => by omega⟩, b10.upd r6, k010⟩
          obtain ⟨z1, z2⟩ := (areB_val har).2 x hx
          exact ⟨by omega, by omega⟩
      · exact tail _ _ ⟨w7, l7, rfl, (n7.ex e8).up (by decide), b7.ex e8, k07.trans (Keep.of e8)⟩
    obtain ⟨w8, l8, rfl, n8, b8, k08⟩ := hR
    clear n7 b7 k07
    refine q_tailIf (fun σ1 Hx => ∃ w' l', σ1 = [some (.ref p), some (.ref aw), some (.ref a), some (.int way)] ∧ NrAt H Hx p a l' wl w' way 5 ∧ Bg Hx p ∧ Keep p H Hx) (fun σ1 H9 hR => ?_) (fun tail => ?_)
    · obtain ⟨w9, l9, rfl, n9, b9, k09⟩ := hR
      obtain ⟨r1, r2, r3, r4, r5, r6, r7, r8, r9, r10, r11, r12⟩ := id n9
      refine g_ret ((ev_var rfl) H9 (Ex.refl H9) _ fun H10 e10 => ?_)
      exact q (.ref a) w9 l9 H10 ⟨a, rfl, e10 _ _ r2, r3.ex e10⟩ r8 r9 r10 r11 (fun e => r5 (V.ref.inj e)) r6 (b9.ex e10) (k09.trans (Keep.of e10))
    · refine q_if (b := decide (way = 5) && hbW wl) (et_and (et_test (ev_op (ev_var rfl) ev_c rv_eqI)) fun _ => et_B (ev_call (ea_cons (hI 0 k08 rfl rfl) (ea_cons (hI 1 k08 rfl rfl) ea_nil)) fun H1 e Q' q' E' => ⟨wl, rfl, q'⟩)) (fun hb H9 e9 => ?_) (fun hb H9 e9 => ?_)
      · obtain ⟨hb1, hb2⟩ := Bool.and_eq_true_iff.mp hb
        have hw1 := of_decide_eq_true hb1
        have ew : w8 = wl := n8.2.2.2.2.2.2.2.2.2.2.2 (by omega)
        subst ew
        have lb : ("b" : Str).length = 1 := by decide +kernel
        have hbl : w8.b.length ≤ 100000 := by
          unfold bodyB at gb
          have := of_decide_eq_true (Bool.and_eq_true_iff.mp gb).1
          omega
        have n9 := n8.ex e9
        refine s_setL (j := 4) n9.2.1 (ev_slSW (ev_op (hI 4 (k08.trans (Keep.of e9)) rfl rfl) ev_c (rv_addS (by omega))) (eo_some ev_c) eo_none (by rw [Str.length_append]; omega)) (ev_var rfl) ev_c (by show 4 < 5; decide) fun H10 e10 => ?_
        have k010 := (k08.trans (Keep.of (e9.trans e10))).new (o := .lst ([V.str (sdS w8.q), .str w8.m, .str w8.p, .ref l8, .str w8.b].set 4 (.str (cutS (w8.b ++ "b") (some 1) none)))) na0
        refine tail _ _ ⟨⟨w8.q, w8.m, w8.p, w8.fs, cutS (w8.b ++ "b") (some 1) none⟩, l8, rfl, (n9.ex e10).put rfl rfl rfl (fun _ => rfl) ⟨hs.1, hs.2.1, hs.2.2.1, by have := cut_len (w8.b ++ "b") (some 1) none; have hh := Str.length_append w8.b "b"; show (cutS (w8.b ++ "b") (some 1) none).length ≤ 200000; omega⟩ (bad_of gok (body_near gb) (.inr hb2) gq gs) (by omega), (b8.ex (e9.trans e10)).upd npa, k010⟩
      · exact tail _ _ ⟨w8, l8, rfl, (n8.ex e9).up (by decide), b8.ex e9, k08.trans (Keep.of e9)⟩
end
end Z
set_option maxHeartbeats 2000000
namespace ZX
open PySem PySem.Spec PyProof.Rows L2 Evl
/-! ### x is True, x of any plain kind -/
def isB : V → Bool → Bool
  | .bl a, b => decide (a = b)
  | _, _ => false
def rIsV : R2 := fun x y H Q => ∃ b : Bool, y = .bl b ∧ (x = .non ∨ (∃ a, x = .bl a) ∨ ∃ i, x = .int i) ∧ Q (.bl (isB x b)) H
theorem op_isV {X : Cx} : OpR X (compareOp .Is) rIsV := by
  intro pins s σ H x y v u Q I rx ry h
  obtain ⟨b, rfl, hx, q⟩ := h
  cases (show u = Value.bool b from ry)
  rcases hx with rfl | ⟨a, rfl⟩ | ⟨i, rfl⟩
  · cases (show v = Value.none from rx)
    exact wpAny_is_other rfl (fun z => by cases z) ⟨.bl false, H, I, rfl, q⟩
  · cases (show v = Value.bool a from rx)
    by_cases e : a = b
    · subst e
      exact wpAny_is_self rfl ⟨.bl true, H, I, rfl, by simpa [isB] using q⟩
    · exact wpAny_is_other rfl (fun z => e (Value.bool.inj z)) ⟨.bl false, H, I, rfl, by simpa [isB, e] using q⟩
  · obtain ⟨t, rfl⟩ := rx
    exact wpAny_is_other rfl (fun z => by cases z) ⟨.bl false, H, I, rfl, q⟩
theorem rv_isV {H : Hp} {x : V} {b : Bool} (h : x = .non ∨ (∃ a, x = .bl a) ∨ ∃ i, x = .int i) : RV rIsV x (.bl b) H (.bl (isB x b)) := fun H1 _ _ q => ⟨b, rfl, h, q H1 (Ex.refl H1)⟩
end ZX
set_option maxHeartbeats 2000000
namespace ZX
open PySem PySem.Spec PyProof.Rows L2 Evl
/-! ### x is not True -/
def rNisV : R2 := fun x y H Q => ∃ a b : Bool, y = .bl b ∧ x = .bl a ∧ Q (.bl (!isB x b)) H
theorem op_nisV {X : Cx} : OpR X (compareOp .IsNot) rNisV := by
  intro pins s σ H x y v u Q I rx ry h
  obtain ⟨a, b, rfl, rfl, q⟩ := h
  cases (show u = Value.bool b from ry)
  cases (show v = Value.bool a from rx)
  by_cases e : a = b
  · subst e
    exact wpAny_isNot_self rfl ⟨.bl false, H, I, rfl, by simpa [isB] using q⟩
  · exact wpAny_isNot_other rfl (fun z => e (Value.bool.inj z)) ⟨.bl true, H, I, rfl, by simpa [isB, e] using q⟩
theorem rv_nisV {H : Hp} {a b : Bool} : RV rNisV (.bl a) (.bl b) H (.bl (!isB (.bl a) b)) := fun H1 _ _ q => ⟨a, b, rfl, rfl, q H1 (Ex.refl H1)⟩
end ZX
set_option maxHeartbeats 4000000
namespace Z
open PySem PySem.Spec PyProof.Rows L2 TL Evl NdefX
/-! ### messages that are the same or not -/
theorem path_asc {p : Str} (h : pathB p = true) : Asc p := by
  have hb : pathB p = ((decide ((1 : Int) ≤ p.length) && decide ((p.length : Int) ≤ 60)) && (decide (hd p = some 47) && allIn p patS)) := rfl
  rw [hb] at h
  simp only [Bool.and_eq_true] at h
  exact asc_in (by decide +kernel) h.2.2
theorem body_asc {b : Str} (h : bodyB b = true) : Asc b := by
  unfold bodyB at h
  have h2 := (Bool.and_eq_true_iff.mp h).2
  rw [← lines_in] at h2
  exact asc_in (by decide +kernel) h2
theorem first_ok {w : Wl} (h : badW w = none) : PyData.strOk w.m = true := by
  obtain ⟨_, _, _, gq, gs⟩ := bad_none h
  have h1 : ∀ m ∈ mdL, PyData.strOk m = true := by decide +kernel
  have h2 : ∀ m ∈ stL, PyData.strOk m = true := by decide +kernel
  cases hq : w.q with
  | true => exact h1 _ (gq hq).1
  | false => exact h2 _ (gs hq)
theorem stW_ne {w w' : Wl} (h1 : w.q = true) (h2 : w'.q = false) : stW w ≠ stW w' := fun h => by
  unfold stW at h
  rw [if_pos h1, if_neg (by rw [h2]; exact Bool.false_ne_true)] at h
  have h := congrArg tl h
  rw [asL_tl, ansL_tl, show tl ("ask " : Str) = [97, 115, 107, 32] by decide +kernel, show tl ("answer " : Str) = [97, 110, 115, 119, 101, 114, 32] by decide +kernel] at h
  simp at h
theorem asL_inj {m m' p p' : Str} (h1 : m ∈ mdL) (h2 : m' ∈ mdL) (h : asL m p = asL m' p') : m = m' ∧ p = p' := by
  have h := congrArg tl h
  rw [asL_tl, asL_tl] at h
  have eg : tl ("get" : Str) = [103, 101, 116] := by decide +kernel
  have ep : tl ("put" : Str) = [112, 117, 116] := by decide +kernel
  have ed : tl ("delete" : Str) = [100, 101, 108, 101, 116, 101] := by decide +kernel
  simp only [mdL, List.mem_cons, List.not_mem_nil, or_false] at h1 h2
  rcases h1 with rfl | rfl | rfl <;> rcases h2 with rfl | rfl | rfl <;> simp [eg, ep, ed] at h
  · exact ⟨rfl, ext_tl (congrArg Array.toList h)⟩
  · exact ⟨rfl, ext_tl (congrArg Array.toList h)⟩
  · exact ⟨rfl, ext_tl (congrArg Array.toList h)⟩
theorem ansL_inj {m m' : Str} (h : ansL m = ansL m') : m = m' := by
  have h := congrArg tl h
  rw [ansL_tl, ansL_tl] at h
  exact ext_tl (List.append_cancel_left h)
def rowD (w : Wl) : PyData := .list [.str (sdS w.q), .str w.m, .str w.p, .list (w.fs.map toF), .str w.b]
theorem dp_row {K : PySem.W.Frag} {H : Hp} {v : V} {w : Wl} {l : Addr} (h : WlAt H v w l) : Dp K H v (rowD w) := by
  obtain ⟨a, rfl, ha, hf⟩ := h
  exact .lst (sq_of ha) (.cons (.str _) (.cons (.str _) (.cons (.str _) (.cons (dpf hf) (.cons (.str _) .nil)))))
theorem shaped_row {w : Wl} (h : badW w = none) (hp : Asc w.p) : SeqAt.shaped (rowD w) = true := by
  obtain ⟨g1, g2, _, _, _⟩ := bad_none h
  have k1 : PyData.strOk (sdS w.q) = true := by cases w.q <;> decide +kernel
  have k2 := first_ok h
  have k3 := Asc.ok hp
  have k4 := lay_toS _ (okF_okS (areB_ok g1))
  have k5 := Asc.ok (body_asc g2)
  have h1 := depth_toF w.fs
  have h2 : PyData.depth (rowD w) ≤ 64 := by
    unfold rowD
    simp only [PyData.depth, PyData.depthAll]
    omega
  show (PyData.canLay0 (rowD w) && decide (PyData.depth (rowD w) ≤ 64)) = true
  rw [decide_eq_true h2, Bool.and_true]
  unfold rowD
  simp [PyData.canLay0, PyData.canLayAll0, k1, k2, k3, k4, k5]
theorem eqv_row {w w' : Wl} (hq : w'.q = w.q) (hp : w.q = false → w'.p = w.p) (h : badW w = none) (h' : badW w' = none) : (rowD w').eqv (rowD w) = eqW w w' := by
  obtain ⟨_, _, _, gq, gs⟩ := bad_none h
  obtain ⟨_, _, _, gq', gs'⟩ := bad_none h'
  have e : (rowD w').eqv (rowD w) = ((sdS w'.q == sdS w.q) && ((w'.m == w.m) && ((w'.p == w.p) && (PyData.eqvAll (w'.fs.map toF) (w.fs.map toF) && (w'.b == w.b))))) := by
    unfold rowD
    simp only [PyData.eqv, PyData.eqvAll, Bool.and_true]
  rw [e, eqvAll_toF, hq]
  unfold eqW
  rw [Bool.eq_iff_iff]
  simp only [Bool.and_eq_true, beq_iff_eq, decide_eq_true_eq, true_and]
  constructor
  · rintro ⟨h1, h2, h3, h4⟩
    refine ⟨?_, h3.symm, h4.symm⟩
    unfold stW
    rw [hq, h1, h2]
  · rintro ⟨h1, h3, h4⟩
    unfold stW at h1
    cases hq0 : w.q with
    | true =>
      rw [if_pos hq0, if_pos (hq.trans hq0)] at h1
      obtain ⟨z1, z2⟩ := asL_inj (gq hq0).1 (gq' (hq.trans hq0)).1 h1
      exact ⟨z1.symm, z2.symm, h3.symm, h4.symm⟩
    | false =>
      rw [if_neg (by rw [hq0]; exact Bool.false_ne_true), if_neg (by rw [hq, hq0]; exact Bool.false_ne_true)] at h1
      exact ⟨(ansL_inj h1).symm, hp hq0, h3.symm, h4.symm⟩
theorem eqW_self (w : Wl) : eqW w w = true := by
  unfold eqW
  rw [decide_eq_true rfl, decide_eq_true rfl, decide_eq_true rfl]
  rfl
theorem eqW_st {w w' : Wl} (h : stW w ≠ stW w') : eqW w w' = false := by
  unfold eqW
  rw [decide_eq_false h]
  rfl
section
variable {K : PySem.W.Frag} {RQ RS g : Addr} {σ : L2.St} {H : Hp} {ta tb te : TE} {u v : V} {w w' : Wl} {l l' : Addr} {E : XK} {fs : Fs}
theorem rv_eqM (h1 : MeQ RQ RS H u w l) (h2 : MeQ RQ RS H v w' l') (k1 : areB w.fs = true) (k2 : areB w'.fs = true) : RV (ZX.rEqAny (clB RQ RS) (spEqM RQ RS) E) u v H (.bl (eqW w w')) := fun H1 e Q k => by
  obtain ⟨a1, d1, rfl, ha1, hf1⟩ := id (h1.ex e)
  obtain ⟨a2, d2, rfl, ha2, hf2⟩ := id (h2.ex e)
  exact ⟨w.q, w'.q, a1, d1, _, a2, d2, _, rfl, rfl, ha1, ha2, _, _, w, l, w', l', rfl, h1.ex e, h2.ex e, k1, k2, fun H2 e2 => k H2 e2⟩
/-- fields, copied -/
theorem el_copy {tl : TE} {j : Nat} {Q : VK} (hv : Ev tl σ H (.ref l)) (hf : FsAt H l fs) (hz : fs.length ≤ 40000) (hw : ∀ x, wipe ((wipe σ [j]).set j (some x)) [j] = wipe σ [j]) (h1 : ∀ x, ((wipe σ [j]).set j (some x))[j]? = some (some x))
    (k : ∀ D H', H D = none → Ex H H' → FsAt H' D fs → Q (.ref D) H') : tLc (iList K tl) (gName j) tYes (tVar j) [j] σ H Q := by
  refine hv H (Ex.refl H) _ fun H2 e2 => ?_
  obtain ⟨xs, hx, hr1⟩ := hf.ex e2
  refine ⟨l, rfl, ⟨_, sq_of hx⟩, fun D hD => ?_⟩
  refine lc_rel (α := Str × Str) (fun i => fs.take i) PfAt (fun _ _ _ _ k hD r => TupAt.keep r k hD) (sq_of hx) hD rfl (by rw [hr1.1]; omega) (fun i y H3 hi e3 k k0 hk hk0 => ?_) (fun H3 ys e3 hy hrel => ?_)
  · obtain ⟨o, ho, t, rfl, ht⟩ := hr1.get hi
    have ht3 := e3 _ _ ht
    refine ⟨hw _, ?_⟩
    exact (ev_var (h1 _)) H3 (Ex.refl H3) _ fun H5 e5 => hk _ H5 o e5 (by rw [List.take_add_one, ho]; rfl) ⟨t, rfl, e5 _ _ ht3⟩
  · rw [hr1.1, List.take_length] at hrel
    exact k D H3 (fresh_back e2 hD) (e2.trans e3) ⟨ys, hy, hrel⟩
end
theorem WlAt.keep {H H' : Hp} {p : Addr} {v : V} {w : Wl} {l : Addr} (h : WlAt H v w l) (k : Keep p H H') (b : Bg H p) (n : v ≠ .ref p) : WlAt H' v w l := by
  obtain ⟨a, rfl, ha, hf⟩ := h
  exact ⟨a, rfl, k _ _ (fun e => n (by rw [e])) ha, hf.keepF k b⟩
theorem MeQ.keepB {RQ RS p : Addr} {H H' : Hp} {v : V} {w : Wl} {l : Addr} (h : MeQ RQ RS H v w l) (k : Keep p H H') (b : Bg H p) : MeQ RQ RS H' v w l := by
  obtain ⟨a, dx, rfl, ha, hf⟩ := id h
  exact MeQ.keep h k b.has (hf.nbag b)
theorem gen_Q {te : TE} {σ : L2.St} {H : Hp} {Q : VK} (h : ∀ Q0 : VK, (∀ v H', Q v H' → Q0 v H') → te σ H Q0) : te σ H Q := h Q fun _ _ z => z
def spEr (RQ RS : Addr) : Sp := fun vs H Q _ => ∃ p u v w l l', vs = [.ref p, u, v] ∧ Bg H p ∧ MeQ RQ RS H u w l' ∧ WlAt H v w l ∧ v ≠ .ref p ∧ l ≠ p ∧ smallW w ∧ Asc w.p ∧ badW w = none ∧ ∀ H', Bg H' p → Keep p H H' → Q (.bl true) H'
section
variable {P : Program} {w : World} {K : PySem.W.Frag} {mg : Str → Option Value} {base : Heap} {f g B RQ RS DV DH DM DI DR : Addr} {fd fe : FuncData} {k : Nat}
theorem ok_law_equal_right (T : Mg mg) (W : Wo K mg B RQ RS) (MQ1 : Mk1 P w K mg base RQ DV true rqN) (MS1 : Mk1 P w K mg base RS DV false rsN)
    (hse : ∀ c, PySem.W.findIn K (.ref (clB RQ RS c)) "__eq__" = some (some (.ref g))) (hf : PySem.W.isFn K (.ref g) = true) (nf : ∀ c d, PySem.W.notFirst K (clB RQ RS c) (.ref (clB RQ RS d)) = true) (FE : FnR P w K mg base CX0 1 g (spEqM RQ RS))
    (c_law_near : Call P w K mg base 3 "_law_near" ["bag", "world"] spNr) (c_law_make : Call P w K mg base 9 "_law_make" ["way", "as_list", "world"] (spLm RQ RS))
    (F : FnP K "_law_equal_right" s_law_equal_right f fd) (gm : mg "_law_equal_right" = some (.ref f)) : Call P w K mg base 10 "_law_equal_right" ["bag", "told", "world"] (spEr RQ RS) := by
  obtain ⟨fQ, dQ, dsq, MQ0, FQ0, vq0, bq0⟩ := MQ1.ex
  obtain ⟨fS, dS, dss, MS0, FS0, vs0, bs0⟩ := MS1.ex
  have WS := W.ws
  have WQ := W.wq
  refine mk F gm (fun _ _ _ _ _ _ us hl => match us, hl with | [_, _, _], _ => rfl) (fun _ _ _ _ _ _ us hl => match us, hl with | [_, _, _], _ => rfl) sc_law_equal_right (fun vs H Q E h => ?_) (fun cdv A outer s H vs Q E hr h => ?_)
  · obtain ⟨p, u, v, w, l, l', rfl, _⟩ := h
    rfl
  · obtain ⟨p, u, v, wl, l, l', rfl, b, hm, hw, nv, nl, hs, hpa, hg, q⟩ := h
    refine ⟨_, (pss_cons (ps_set (i := 3) sc_law_equal_right.nd rfl (Or.inl rfl) (pe_f c_law_near hr (by decide) rfl (pa_cons (pv 0) (pa_cons (pv 2) pa_nil))))
    (pss_cons (ps_set (i := 4) sc_law_equal_right.nd rfl (Or.inl rfl) (pe_f c_law_make hr (by decide) rfl (pa_cons pe_int (pa_cons pe_bl (pa_cons (pv 3) pa_nil)))))
    (pss_cons (ps_set (i := 5) sc_law_equal_right.nd rfl (Or.inl rfl) (pe_f c_law_make hr (by decide) rfl (pa_cons pe_int (pa_cons pe_bl (pa_cons (pv 2) pa_nil)))))
    (pss_cons (ps_if (PW.pt (pw_or (pt_cmpR op_ne (pe_ix ix_list (pv 4) pe_int (fun _ _ => rfl)) pe_str (nomark _)) (pw_or1 (pt_cmpR op_ne (pe_ix ix_list (pv 5) pe_int (fun _ _ => rfl)) pe_str (nomark _)))))
      (pss_one (ps_ret pe_bl))
      pss_nil)
    (pss_cons (ps_set (i := 6) sc_law_equal_right.nd rfl (Or.inl rfl) (pe_cmpR (ZX.op_eqAny (cl := clB RQ RS) (E := E0) hse hf nf FE (hr.mono (by decide)) pass0) (pv 1) (pe_ix ix_list (pv 4) pe_int (fun _ _ => rfl)) (nomark _)))
    (pss_cons (ps_if (PW.pt (pw_or (pt_not (pt_val (pe_callB call_isi (by rfl) T.isinstance (by decide +kernel) (pa_cons (pv 6) (pa_cons (pe_bltn (v := .ty "bool") (u := .type "bool") (by rfl) T.bool (by decide +kernel) rfl) pa_nil))))) (pw_or (pt_cmpR op_ne (pv 6) (pe_cmpR (op_eqD hr.units) (pv 3) (pv 2) (nomark _)) (nomark _)) (pw_or1 (pt_cmpR ZX.op_nisV (pe_cmpR (ZX.op_eqAny (cl := clB RQ RS) (E := E0) hse hf nf FE (hr.mono (by decide)) pass0) (pv 1) (pe_ix ix_list (pv 5) pe_int (fun _ _ => rfl)) (nomark _)) pe_bl (nomark _))))))
      (pss_one (ps_ret pe_bl))
      pss_nil)
    (pss_cons (ps_set (i := 7) sc_law_equal_right.nd rfl (Or.inl rfl) (pe_make (E := E0) MS0 FS0 (hr.mono (by decide)) rfl WS.m bs0 vs0 ZX.passN (pa_cons pe_str (pa_cons (pe_lc (own := [("field", 8)]) (g := gName 8) (tt := tYes) rfl sc_law_equal_right.nd (pi_list (pe_ix ix_list (pv 2) pe_int (fun _ _ => rfl))) (blkOk_by (N := ["bag", "told", "world", "near", "other", "twin", "same", "strange", "field"]) (sc := L2.defScope s_law_equal_right) (by decide +kernel)) (fun _ _ _ _ _ => pg_name (i := 8) sc_law_equal_right.nd rfl (Or.inl rfl)) (fun _ _ _ _ _ => pts_nil) (fun _ _ _ _ _ => (pv 8))) pa_nil))))
    (pss_cons (ps_if (pt_cmpR op_eq (pe_ix ix_list (pv 2) pe_int (fun _ _ => rfl)) pe_str (nomark _))
      (pss_one (ps_set (i := 7) sc_law_equal_right.nd rfl (Or.inl rfl) (pe_make (E := E0) MQ0 FQ0 (hr.mono (by decide)) rfl WQ.m bq0 vq0 ZX.passN (pa_cons pe_str (pa_cons pe_str (pa_cons (pe_lc (own := [("field", 8)]) (g := gName 8) (tt := tYes) rfl sc_law_equal_right.nd (pi_list (pe_ix ix_list (pv 2) pe_int (fun _ _ => rfl))) (blkOk_by (N := ["bag", "told", "world", "near", "other", "twin", "same", "strange", "field"]) (sc := L2.defScope s_law_equal_right) (by decide +kernel)) (fun _ _ _ _ _ => pg_name (i := 8) sc_law_equal_right.nd rfl (Or.inl rfl)) (fun _ _ _ _ _ => pts_nil) (fun _ _ _ _ _ => (pv 8))) pa_nil))))))
      pss_nil)
    (pss_one (ps_ret (pe_cmpR ZX.op_isV (pe_cmpR (ZX.op_eqAny (cl := clB RQ RS) (E := E0) hse hf nf FE (hr.mono (by decide)) pass0) (pv 1) (pv 7) (nomark _)) pe_bl (nomark _)))))))))))), ?_⟩
    obtain ⟨aw, rfl, haw, hf⟩ := id hw
    obtain ⟨gok, gb, gm', gq, gs⟩ := bad_none hg
    have naw : aw ≠ p := fun e => nv (by rw [e])
    have hz := (areB_val gok).1
    refine q_asgR (rd_call (Q := fun v H => _) (ea_cons (ev_var rfl) (ea_cons (ev_var rfl) ea_nil)) fun H1 e1 => ⟨p, .ref aw, wl, l, rfl, b.ex e1, hw.ex e1, nv, hs, hg, fun v1 w1 l1 H2 hw1 q1 p1 hs1 hg1 nv1 nl1 b2 k2 => ?_⟩)
    obtain ⟨gok1, _, _, gq1, gs1⟩ := bad_none hg1
    have hpa1 : Asc w1.p := by
      cases hq : wl.q with
      | true => exact path_asc (gq1 (q1.trans hq)).2
      | false => rw [p1 hq]; exact hpa
    have k02 := (Keep.of e1).trans k2
    have b2' := b2
    have hm2 := hm.keepB k02 b
    have hw2 := hw.keep k02 b nv
    have haw2 := k02 _ _ naw haw
    clear k2 e1 hw hf haw hm
    -- the two makes
    refine q_asgR (rd_call (Q := fun v H => _) (ea_cons ev_c (ea_cons ev_c (ea_cons (ev_var rfl) ea_nil))) fun H3 e3 => ⟨0, true, v1, w1, l1, rfl, hw1.ex e3, hs1, okF_okS (areB_ok gok1), fun _ r u1 lm H4 e4 hr4 nlm hm4 => ?_, fun n hn => by rw [hg1] at hn; cases hn⟩)
    refine q_asgR (rd_call (Q := fun v H => _) (ea_cons ev_c (ea_cons ev_c (ea_cons (ev_var rfl) ea_nil))) fun H5 e5 => ⟨0, false, .ref aw, wl, l, rfl, hw2.ex ((e3.trans e4).trans e5), hs, okF_okS (areB_ok gok), fun _ r2 u2 lm2 H6 e6 hr6 nlm2 hm6 => ?_, fun n hn => by rw [hg] at hn; cases hn⟩)
    have e26 := (e3.trans e4).trans (e5.trans e6)
    have hr46 := (e5.trans e6) _ _ hr4
    have hm46 := hm4.ex (e5.trans e6)
    have hm26 := hm2.ex e26
    have hw16 := hw1.ex e26
    have hw26 := hw2.ex e26
    have haw6 := e26 _ _ haw2
    have b6 := b2.ex e26
    have k06 := k02.trans (Keep.of e26)
    clear e3 e4 e5 e6 hr4 hm4 hm2 hw1 hw2 haw2 b2 b2' k02 b
    refine q_when (b := false) (et_is (et_or (et_test (ev_op (ev_ixL (ev_var rfl) ev_c hr46 (atI_nat (j := 0) rfl)) ev_c rv_neS)) fun _ => et_test (ev_op (ev_ixL (ev_var rfl) ev_c hr6 (atI_nat (j := 0) rfl)) ev_c rv_neS)) (by rw [decide_eq_true rfl]; rfl)) (fun h => nomatch h) (fun _ H7 e7 => ?_)
    refine q_asg (v := .bl (eqW wl w1)) (ev_op (ev_var rfl) (ev_ixL (ev_var rfl) ev_c (e7 _ _ hr46) (atI_nat (j := 1) rfl)) (rv_eqM (hm26.ex e7) (hm46.ex e7) gok gok1)) fun H8 e8 => ?_
    have e68 := e7.trans e8
    refine q_when (b := false) (et_is (et_or (a := false) (et_not (a := true) (et_B (ev_isi (b := true) (ev_var rfl) (fun H1 _ => .base (.bl _)) (kit_ty (by decide +kernel))))) fun _ => et_or (a := false) (et_is (et_test (ev_op (ev_var rfl) (ev_op (ev_var rfl) (ev_var rfl) (rv_dat (fun H1 e => dp_row (hw16.ex (e68.trans e))) (fun H1 e => dp_row (hw26.ex (e68.trans e))) (shaped_row hg1 hpa1) (shaped_row hg hpa))) (rv_ne rfl))) (by rw [eqv_row q1 p1 hg hg1, decide_eq_true rfl]; rfl)) fun _ => et_is (et_test (ev_op (ev_op (ev_var rfl) (ev_ixL (ev_var rfl) ev_c (e68 _ _ hr6) (atI_nat (j := 1) rfl)) (rv_eqM (hm26.ex e68) (hm6.ex e68) gok gok)) ev_c ZX.rv_nisV)) (by rw [eqW_self]; rfl)) rfl) (fun h => nomatch h) (fun _ H9 e9 => ?_)
    have e69 := e68.trans e9
    have hm9 := hm26.ex e69
    have hw9 := hw26.ex e69
    have haw9 := e69 _ _ haw6
    have b9 := b6.ex e69
    have k09 := k06.trans (Keep.of e69)
    clear e69 e68 e7 e8 e9 hr46 hm46 hm26 hw16 hw26 haw6 b6 k06 hr6 hm6
    have I : ∀ {σ : L2.St} {H' : Hp} (j : Nat) {v : V}, Ex H9 H' → σ[2]? = some (some (.ref aw)) → [.str (sdS wl.q), .str wl.m, .str wl.p, .ref l, .str wl.b][j]? = some v → Ev (tOp (rIxL K) (tVar 2) (tC (.int (j : Int)))) σ H' v := fun j v e h0 hv => ev_ixL (ev_var h0) ev_c (e _ _ haw9) (atI_nat hv)
    obtain ⟨_, _, _, hf9⟩ := id hw9
    have bE : bodyB "" = true := by decide +kernel
    have pE : pathB "/" = true := by decide +kernel
    have lD : ("done" : Str).length = 4 ∧ ("get" : Str).length = 3 ∧ ("/" : Str).length = 1 ∧ ("" : Str).length = 0 := by decide +kernel
    -- the strange answer
    refine q_asgR (gen_Q fun Q0 h0 => rd_mkS (rd_consE ev_c fun Ha ea => rd_consR (el_copy (Q := fun v H => _) (I 3 ea rfl rfl) (hf9.ex ea) (by omega) (fun _ => rfl) (fun _ => rfl) fun D Hb nD eb hD => rd_nil ?_)))
    have sF : smallF wl.fs := hs.2.2.1
    have eab := ea.trans eb
    refine co_mk (E := E0) (R := RS) (DV := DV) (side := false) (w := ⟨false, "done", "", wl.fs, ""⟩) (q := D) rfl (FsAt.fq hD) ⟨by show ("done" : Str).length ≤ 100; omega, by show ("" : Str).length ≤ 100; omega, sF, by show ("" : Str).length ≤ 200000; omega⟩ (fun _ u3 l3 Hc _ ec hm3 => h0 _ _ ?_) (fun n hn => ?_)
    rotate_left
    · rw [bad_of (w := ⟨false, "done", "", wl.fs, ""⟩) gok bE (.inl rfl) (fun h => nomatch h) (fun _ => by show ("done" : Str) ∈ stL; decide +kernel)] at hn
      cases hn
    have e9c := eab.trans ec
    refine q_tailIf (fun σ1 Hx => ∃ u3 w3 l3, σ1 = [some (.ref p), some u, some (.ref aw), some v1, some (.ref r), some (.ref r2), some (.bl (eqW wl w1)), some u3, none] ∧ MeQ RQ RS Hx u3 w3 l3 ∧ areB w3.fs = true ∧ stW wl ≠ stW w3 ∧ Ex H9 Hx) (fun σ1 H10 hR => ?_) (fun tail => ?_)
    · obtain ⟨u4, w4, l4, rfl, hm4, g4, n4, e10⟩ := hR
      refine s_ret (v := .bl true) (ev_is (ev_op (ev_op (ev_var rfl) (ev_var rfl) (rv_eqM (hm9.ex e10) hm4 gok g4)) ev_c (ZX.rv_isV (.inr (.inl ⟨_, rfl⟩)))) (by rw [eqW_st n4]; rfl)) fun H11 e11 => q H11 (b9.ex (e10.trans e11)) (k09.trans (Keep.of (e10.trans e11)))
    · refine q_if (b := !wl.q) (et_is (et_test (ev_op (I 0 e9c rfl rfl) ev_c rv_eqS)) (sd_answers wl.q)) (fun hb Hd ed => ?_) (fun hb Hd ed => ?_)
      · have hqf := (Bool.not_eq_true' _).mp hb
        refine s_asgR (gen_Q fun Q1 h1 => rd_mkS (rd_consE ev_c fun Ha ea => rd_consE ev_c fun Ha2 ea2 => rd_consR (el_copy (Q := fun v H => _) (I 3 ((e9c.trans ed).trans (ea.trans ea2)) rfl rfl) (hf9.ex ((e9c.trans ed).trans (ea.trans ea2))) (by omega) (fun _ => rfl) (fun _ => rfl) fun D2 Hb2 nD2 eb2 hD2 => rd_nil ?_)))
        refine co_mk (E := E0) (R := RQ) (DV := DV) (side := true) (w := ⟨true, "get", "/", wl.fs, ""⟩) (q := D2) rfl (FsAt.fq hD2) ⟨by show ("get" : Str).length ≤ 100; omega, by show ("/" : Str).length ≤ 100; omega, sF, by show ("" : Str).length ≤ 200000; omega⟩ (fun _ u4 l4 He _ ee hm4 => h1 _ _ ?_) (fun n hn => ?_)
        · exact tail _ _ ⟨u4, _, l4, rfl, meq_mkt (w := ⟨true, "get", "/", wl.fs, ""⟩) rfl hm4, gok, fun h => stW_ne (w := ⟨true, "get", "/", wl.fs, ""⟩) (w' := wl) rfl hqf h.symm, ((e9c.trans ed).trans (ea.trans ea2)).trans (eb2.trans ee)⟩
        · rw [bad_of (w := ⟨true, "get", "/", wl.fs, ""⟩) gok bE (.inl rfl) (fun _ => ⟨by show ("get" : Str) ∈ mdL; decide +kernel, pE⟩) (fun h => nomatch h)] at hn
          cases hn
      · have hqt := (Bool.not_eq_false' _).mp hb
        exact tail _ _ ⟨u3, _, l3, rfl, (meq_mkf (w := ⟨false, "done", "", wl.fs, ""⟩) rfl hm3).ex ed, gok, stW_ne hqt rfl, e9c.trans ed⟩
end
end Z
set_option maxHeartbeats 4000000
namespace Z
open PySem PySem.Spec PyProof.Rows L2 TL Evl NdefX
def spFr : Sp := fun vs H Q _ => ∃ v w l, vs = [v] ∧ WlAt H v w l ∧ smallW w ∧ badW w = none ∧ RetV (.bl true) H Q
section
variable {K : PySem.W.Frag} {RQ RS : Addr} {σ : L2.St} {H : Hp} {ta : TA} {tw : TE} {v : V} {l : Addr} {p b : Str} {fs : Fs} {xs : List V}
theorem ev_fetch (h : EvA ta σ H (.str p :: xs)) (hr : Rel (PfAt H) xs fs) (hs : smallW ⟨true, "get", p, fs, b⟩) (hg : badW ⟨true, "get", p, fs, b⟩ = none) (hw : WlAt H v ⟨true, "get", p, fs, b⟩ l) (hv : Ev tw σ H v) : Ev (tCall (spSm RQ RS) [] E0 (tCons (ClX.tCMeth RQ (spFe RQ) E0 (tC (.ref RQ)) ta) (tCons tw tNil))) σ H (.bl true) := fun H1 e Q q => by
  obtain ⟨gok, gb, gm', gq, gs⟩ := bad_none hg
  have hb : b = "" := gm'.resolve_right fun h => by
    have : hbW ⟨true, "get", p, fs, b⟩ = false := by
      show decide (("get" : Str) = ("put" : Str)) = false
      decide +kernel
    rw [this] at h; cases h
  subst hb
  refine rd_args (rd_consR ⟨rfl, h H1 e _ fun H2 e2 => ?_⟩)
  have hl : xs.length ≤ 40 := by rw [hr.1]; exact (areB_val gok).1
  refine ⟨[.ref RQ, .str p], xs, rfl, rfl, sz_of (show xs.length ≤ 100000 by omega), fun pp np => ⟨pp, p, xs, fs, rfl, upd_same, hr.mono fun _ _ m => TupAt.ex m ((e.trans e2).trans (Ex.new np)), hs, hg, fun u l' H3 nl e3 hm => ?_⟩⟩
  have e03 := ((e.trans e2).trans (Ex.new np)).trans e3
  have e13 := (e2.trans (Ex.new np)).trans e3
  refine rd_consE (fun H4 e4 Q' q' => hv H4 (e03.trans e4) _ q') fun H4 e4 => rd_nil ⟨u, v, ⟨true, "get", p, fs, ""⟩, l, l', rfl, (meq_mkt (w := ⟨true, "get", p, fs, ""⟩) rfl hm).ex e4, hw.ex (e03.trans e4), hs, gok, fun H5 e5 => q H5 (e13.trans (e4.trans e5))⟩
end
section
variable {P : Program} {w : World} {K : PySem.W.Frag} {mg : Str → Option Value} {base : Heap} {f g h p0 B RQ RS DV DH DM DI DR : Addr} {fd fe : FuncData} {k : Nat} {mc : Value}
theorem ok_law_fetch_right (T : Mg mg) (W : Wo K mg B RQ RS) (RC : ClX.CRead K RQ mc) (CF : ClX.CMet K RQ mc "fetch" p0 g) (FF : FnR P w K mg base CX0 8 g (spFe RQ)) (c_law_same : Call P w K mg base 4 "_law_same" ["told", "world"] (spSm RQ RS))
    (F : FnP K "_law_fetch_right" s_law_fetch_right f fd) (gm : mg "_law_fetch_right" = some (.ref f)) : Call P w K mg base 9 "_law_fetch_right" ["world"] spFr := by
  have WQ := W.wq
  refine mk F gm (fun _ _ _ _ _ _ us hl => match us, hl with | [_], _ => rfl) (fun _ _ _ _ _ _ us hl => match us, hl with | [_], _ => rfl) sc_law_fetch_right (fun vs H Q E h => ?_) (fun cdv A outer s H vs Q E hr h => ?_)
  · obtain ⟨v, w, l, rfl, _⟩ := h
    rfl
  · obtain ⟨v, wl, l, rfl, hw, hs, hg, q⟩ := h
    refine ⟨_, (pss_cons (ps_if (PW.pt (pw_or (pt_cmpR op_ne (pe_ix ix_list (pv 0) pe_int (fun _ _ => rfl)) pe_str (nomark _)) (pw_or (pt_cmpR op_ne (pe_ix ix_list (pv 0) pe_int (fun _ _ => rfl)) pe_str (nomark _)) (pw_or1 (pt_cmpR op_gt (pe_callB call_len_seq (by rfl) T.len (by decide +kernel) (pa_cons (pe_ix ix_list (pv 0) pe_int (fun _ _ => rfl)) pa_nil)) pe_int (nomark _))))))
      (pss_one (ps_ret pe_bl))
      pss_nil)
    (pss_cons (ps_if (pt_cmpR (op_eqD hr.units) (pe_ix ix_list (pv 0) pe_int (fun _ _ => rfl)) (pe_lst pa_nil) (nomark _))
      (pss_one (ps_ret (pe_f c_law_same hr (by decide) rfl (pa_cons (ClX.pe_cmeth (E := E0) (pe_gc (v := .ref RQ) rfl ⟨_, WQ.m, rfl⟩) RC CF FF (hr.mono (by decide)) pass0 (pa_cons (pe_ix ix_list (pv 0) pe_int (fun _ _ => rfl)) pa_nil)) (pa_cons (pv 0) pa_nil)))))
      pss_nil)
    (pss_cons (ps_if (pt_cmpR op_eq (pe_callB call_len_seq (by rfl) T.len (by decide +kernel) (pa_cons (pe_ix ix_list (pv 0) pe_int (fun _ _ => rfl)) pa_nil)) pe_int (nomark _))
      (pss_one (ps_ret (pe_f c_law_same hr (by decide) rfl (pa_cons (ClX.pe_cmeth (E := E0) (pe_gc (v := .ref RQ) rfl ⟨_, WQ.m, rfl⟩) RC CF FF (hr.mono (by decide)) pass0 (pa_cons (pe_ix ix_list (pv 0) pe_int (fun _ _ => rfl)) (pa_cons (pe_ix ix_list (pe_ix ix_list (pv 0) pe_int (fun _ _ => rfl)) pe_int (fun _ _ => rfl)) pa_nil))) (pa_cons (pv 0) pa_nil)))))
      pss_nil)
    (pss_one (ps_ret (pe_f c_law_same hr (by decide) rfl (pa_cons (ClX.pe_cmeth (E := E0) (pe_gc (v := .ref RQ) rfl ⟨_, WQ.m, rfl⟩) RC CF FF (hr.mono (by decide)) pass0 (pa_cons (pe_ix ix_list (pv 0) pe_int (fun _ _ => rfl)) (pa_cons (pe_ix ix_list (pe_ix ix_list (pv 0) pe_int (fun _ _ => rfl)) pe_int (fun _ _ => rfl)) (pa_cons (pe_ix ix_list (pe_ix ix_list (pv 0) pe_int (fun _ _ => rfl)) pe_int (fun _ _ => rfl)) pa_nil)))) (pa_cons (pv 0) pa_nil)))))))), ?_⟩
    obtain ⟨a, rfl, ha, hf⟩ := id hw
    obtain ⟨gok, gb, gm', gq, gs⟩ := bad_none hg
    obtain ⟨ys, hy, hyr⟩ := id hf
    have hz := (areB_val gok).1
    have I : ∀ {σ : L2.St} {H' : Hp} (j : Nat) {v : V}, Ex H H' → σ[0]? = some (some (.ref a)) → [.str (sdS wl.q), .str wl.m, .str wl.p, .ref l, .str wl.b][j]? = some v → Ev (tOp (rIxL K) (tVar 0) (tC (.int (j : Int)))) σ H' v := fun j v e h0 hv => ev_ixL (ev_var h0) ev_c (e _ _ ha) (atI_nat hv)
    have J : ∀ {σ : L2.St} {H' : Hp} (j : Nat) {v : V}, Ex H H' → σ[0]? = some (some (.ref a)) → ys[j]? = some v → Ev (tOp (rIxL K) (tOp (rIxL K) (tVar 0) (tC (.int 3))) (tC (.int (j : Int)))) σ H' v := fun j v e h0 hv => ev_ixL (I 3 e h0 rfl) ev_c (e _ _ hy) (atI_nat hv)
    refine q_when (b := (!wl.q || (!decide (wl.m = ("get" : Str)) || decide ((2 : Int) < (wl.fs.length : Int))))) (et_or (et_is (et_test (ev_op (I 0 (Ex.refl H) rfl rfl) ev_c rv_neS)) (by rw [sd_asks])) fun _ => et_or (et_test (ev_op (I 1 (Ex.refl H) rfl rfl) ev_c rv_neS)) fun _ => et_test (ev_op (ev_lenF (I 3 (Ex.refl H) rfl rfl) (FsAt.fq hf)) ev_c (rv_I0 (g := fun i j => .bl (decide (j < i)))))) (fun _ H1 e1 => s_ret (v := .bl true) ev_c fun H2 e2 => q H2 (e1.trans e2)) (fun hb H1 e1 => ?_)
    obtain ⟨h1, h2⟩ := Bool.or_eq_false_iff.mp hb
    obtain ⟨h2, h3⟩ := Bool.or_eq_false_iff.mp h2
    have h1 := (Bool.not_eq_false' _).mp h1
    have h2 := of_decide_eq_true ((Bool.not_eq_false' _).mp h2)
    have h3 := of_decide_eq_false h3
    obtain ⟨wq, m, pt, fs, bo⟩ := wl
    cases (show wq = true from h1)
    cases (show m = "get" from h2)
    have hl2 : fs.length ≤ 2 := by
      have h3 : ¬ (2 : Int) < (fs.length : Int) := h3
      omega
    have hyl : ys.length = fs.length := hyr.1
    refine q_when (b := decide (fs = [])) (et_test (ev_opL (I 3 e1 rfl rfl) (el_lst ea_nil (by decide)) fun p' H1 hp' e => rv_eqFS (hf.ex (e1.trans e)) (fs_nil hp') (okF_okS (areB_ok gok)) okS_nil)) (fun hb H2 e2 => ?_) (fun hb H2 e2 => ?_)
    · have e12 := e1.trans e2
      have hn := of_decide_eq_true hb
      have hyn : ys = [] := List.eq_nil_of_length_eq_zero (by rw [hyl, hn]; rfl)
      refine s_ret (v := .bl true) (ev_fetch (p := pt) (xs := []) (ea_cons (I 2 e12 rfl rfl) ea_nil) (by rw [hyn] at hyr; exact hyr.mono fun _ _ m => TupAt.ex m e12) hs hg (hw.ex e12) (ev_var rfl)) fun H3 e3 => q H3 (e12.trans e3)
    · have hne := of_decide_eq_false hb
      have hl0 : fs.length ≠ 0 := fun h => hne (List.eq_nil_of_length_eq_zero h)
      have e12 := e1.trans e2
      refine q_when (b := decide ((fs.length : Int) = 1)) (et_test (ev_op (ev_lenF (I 3 e12 rfl rfl) (FsAt.fq (hf.ex e12))) ev_c rv_eqI)) (fun hb H3 e3 => ?_) (fun hb H3 e3 => ?_)
      · have hn : fs.length = 1 := by have := of_decide_eq_true hb; omega
        have e13 := e12.trans e3
        obtain ⟨y, rfl⟩ := List.length_eq_one_iff.mp (hyl.trans hn)
        exact s_ret (v := .bl true) (ev_fetch (p := pt) (xs := [y]) (ea_cons (I 2 e13 rfl rfl) (ea_cons (J 0 e13 rfl rfl) ea_nil)) (hyr.mono fun _ _ m => TupAt.ex m e13) hs hg (hw.ex e13) (ev_var rfl)) fun H4 e4 => q H4 (e13.trans e4)
      · have hn : fs.length = 2 := by have := of_decide_eq_false hb; omega
        have e13 := e12.trans e3
        obtain ⟨y, z, rfl⟩ : ∃ y z, ys = [y, z] := by
          have h := hyl.trans hn
          match ys, h with
          | [y, z], _ => exact ⟨y, z, rfl⟩
        exact s_ret (v := .bl true) (ev_fetch (p := pt) (xs := [y, z]) (ea_cons (I 2 e13 rfl rfl) (ea_cons (J 0 e13 rfl rfl) (ea_cons (J 1 e13 rfl rfl) ea_nil))) (hyr.mono fun _ _ m => TupAt.ex m e13) hs hg (hw.ex e13) (ev_var rfl)) fun H4 e4 => q H4 (e13.trans e4)
end
end Z
set_option maxHeartbeats 4000000
namespace Z
open PySem PySem.Spec PyProof.Rows L2 TL Evl NdefX
theorem rd_lstR {ta : TA} {σ : L2.St} {H : Hp} {Q : VK} (h : ta σ H fun vs H1 => vs.length ≤ sizeLine ∧ ∀ p, H1 p = none → Q (.ref p) (upd H1 p (.lst vs))) : tLst ta σ H Q := h
def ForL (K : PySem.W.Frag) (tu tz : TS) (j : Nat) (D : Ends) (σ : L2.St) : VK := fun v H1 => ∃ a, v = .ref a ∧ (∃ xs, SqL K H1 a xs) ∧ ∃ W : Nat → Nat → L2.St → Hp → Prop, (∃ m, W 0 m σ H1) ∧ ∀ i m σ H, W i m σ H →
  ((Itl K a).stop i H ∧ tz D σ H) ∨ ((Itl K a).go i H ∧ ∃ N : L2.St → Hp → Prop, (∀ σ' H', N σ' H' → ∃ m', m' < m ∧ W (i + 1) m' σ' H') ∧ ∀ x H', (Itl K a).yld i H x H' → gName j x σ H' fun σ2 H2 => tu { D with nx := N, ct := N, bk := tz D } σ2 H2)
theorem q_forLQ {K : PySem.W.Frag} {te : TE} {tu tz : TS} {j : Nat} {D : Ends} {σ : L2.St} {H : Hp} (h : te σ H (ForL K tu tz j D σ)) : tSeq (tFor (iList K te) (gName j) tu) tz D σ H := h
theorem forL_of {K : PySem.W.Frag} {tu tz : TS} {j : Nat} {D : Ends} {σ : L2.St} {H : Hp} {a : Addr} {xs : List V} (ha : H a = some (.lst xs)) (Pv : Nat → L2.St → Hp → Prop) (h0 : Pv 0 σ H) (hl : ∀ i σ' H', i ≤ xs.length → Pv i σ' H' → SqL K H' a xs)
    (hs : ∀ i x σ' H', xs[i]? = some x → Pv i σ' H' → tu { D with nx := Pv (i + 1), ct := Pv (i + 1), bk := tz D } (σ'.set j (some x)) H') (hd : ∀ σ' H', Pv xs.length σ' H' → tz D σ' H') : ForL K tu tz j D σ (.ref a) H :=
  ⟨a, rfl, ⟨xs, sq_of ha⟩, for_list (g := gName j) (D := { D with nx := tz D }) Pv h0 hl hs hd⟩
theorem el_catN {σ : L2.St} {H : Hp} {te tb : TE} {l : Addr} {xs zs : List V} (ha : Ev te σ H (.ref l)) (hb : EvL tb σ H zs) (hl : H l = some (.lst xs)) (hz : xs.length + zs.length ≤ 100000) : EvL (tOp rCat te tb) σ H (xs ++ zs) := fun H1 e Q q =>
  ha H1 e _ fun H2 e2 => hb H2 (e.trans e2) _ fun b H3 nb e3 h3 => ⟨l, b, xs, zs, rfl, rfl, ((e.trans e2).trans e3) _ _ hl, h3, sz_of hz, fun p np => q p _ (fresh_back (e2.trans e3) np) ((e2.trans e3).trans (Ex.new np)) upd_same⟩
theorem g_next {D : Ends} {σ : L2.St} {H : Hp} (h : D.nx σ H) : tNext D σ H := h
def spMd (RQ RS : Addr) : Sp := fun vs H Q _ => ∃ (p : Addr) (u v : V) (qn : Addr) (w : Wl) (l l' : Addr) (ns : List Str), vs = [.ref p, u, v, .ref qn] ∧ Bg H p ∧ MeQ RQ RS H u w l' ∧ WlAt H v w l ∧ v ≠ .ref p ∧ l ≠ p ∧ smallW w ∧ Asc w.p ∧ badW w = none ∧ qn ≠ p ∧ H qn = some (.lst (ns.map V.str)) ∧ 1 ≤ ns.length ∧ ns.length ≤ 3 ∧ (∀ t ∈ ns, nameB t = true) ∧ ∀ H', Bg H' p → Keep p H H' → Q (.bl true) H'
section
variable {P : Program} {w : World} {K : PySem.W.Frag} {mg : Str → Option Value} {base : Heap} {f g h p0 B RQ RS DV DH DM DI DR : Addr} {fd fe : FuncData} {k : Nat} {mc : Value}
theorem ok_law_made_right (T : Mg mg) (c_law_pick : CPk P w K mg base) (c_law_name : Call P w K mg base 3 "_law_name" ["bag"] spNm) (c_law_value : Call P w K mg base 3 "_law_value" ["bag"] spVl) (c_law_odd_field : Call P w K mg base 3 "_law_odd_field" ["bag", "name", "value"] spOf)
    (c_law_same : Call P w K mg base 4 "_law_same" ["told", "world"] (spSm RQ RS)) (c_law_values_right : Call P w K mg base 3 "_law_values_right" ["told", "fields", "name"] (spVr RQ RS)) (c_law_with_right : Call P w K mg base 11 "_law_with_right" ["told", "world", "name", "value"] (spWr RQ RS)) (c_law_without_right : Call P w K mg base 11 "_law_without_right" ["told", "world", "name", "other"] (spWo RQ RS))
    (c_law_equal_right : Call P w K mg base 10 "_law_equal_right" ["bag", "told", "world"] (spEr RQ RS)) (c_law_fetch_right : Call P w K mg base 9 "_law_fetch_right" ["world"] spFr)
    (F : FnP K "_law_made_right" s_law_made_right f fd) (gm : mg "_law_made_right" = some (.ref f)) : Call P w K mg base 12 "_law_made_right" ["bag", "told", "world", "names"] (spMd RQ RS) := by
  refine mk F gm (fun _ _ _ _ _ _ us hl => match us, hl with | [_, _, _, _], _ => rfl) (fun _ _ _ _ _ _ us hl => match us, hl with | [_, _, _, _], _ => rfl) sc_law_made_right (fun vs H Q E h => ?_) (fun cdv A outer s H vs Q E hr h => ?_)
  · obtain ⟨p, u, v, qn, w, l, l', ns, rfl, _⟩ := h
    rfl
  · obtain ⟨p, u, v, qn, wl, l, l', ns, rfl, b, hm, hw, nv, nl, hs, hpa, hg, nqp, hqn, hn1, hn3, hns, q⟩ := h
    refine ⟨_, (pss_cons (ps_if (pt_not (pt_val (pe_f c_law_same hr (by decide) rfl (pa_cons (pv 1) (pa_cons (pv 2) pa_nil)))))
      (pss_one (ps_ret pe_bl))
      pss_nil)
    (pss_cons (ps_for PassesOwn.never rfl (pi_list (pe_op op_cat (pv 3) (pe_lst (pa_cons (pe_f c_law_name hr (by decide) rfl (pa_cons (pv 0) pa_nil)) (pa_cons pe_str pa_nil))))) (pg_name (i := 4) sc_law_made_right.nd rfl (Or.inl rfl))
      (pss_one (ps_if (pt_not (pt_val (pe_f c_law_values_right hr (by decide) rfl (pa_cons (pv 1) (pa_cons (pe_ix ix_list (pv 2) pe_int (fun _ _ => rfl)) (pa_cons (pv 4) pa_nil))))))
        (pss_one (ps_ret pe_bl))
        pss_nil)))
    (pss_cons (ps_set (i := 5) sc_law_made_right.nd rfl (Or.inl rfl) (pe_tup (pa_cons (pe_f c_law_pick hr (by decide) rfl (pa_cons (pv 0) (pa_cons (pe_op op_cat (pv 3) (pe_lst (pa_cons pe_str pa_nil))) pa_nil))) (pa_cons (pe_f c_law_value hr (by decide) rfl (pa_cons (pv 0) pa_nil)) pa_nil))))
    (pss_cons (ps_set (i := 6) sc_law_made_right.nd rfl (Or.inl rfl) (pe_f c_law_odd_field hr (by decide) rfl (pa_cons (pv 0) (pa_cons (pe_ix ix_tup (pv 5) pe_int (fun _ _ => rfl)) (pa_cons (pe_ix ix_tup (pv 5) pe_int (fun _ _ => rfl)) pa_nil)))))
    (pss_cons (ps_if (PW.pt (pw_or (pt_not (pt_val (pe_f c_law_with_right hr (by decide) rfl (pa_cons (pv 1) (pa_cons (pv 2) (pa_cons (pe_ix ix_tup (pv 5) pe_int (fun _ _ => rfl)) (pa_cons (pe_ix ix_tup (pv 5) pe_int (fun _ _ => rfl)) pa_nil))))))) (pw_or1 (pt_not (pt_val (pe_f c_law_with_right hr (by decide) rfl (pa_cons (pv 1) (pa_cons (pv 2) (pa_cons (pe_ix ix_tup (pv 6) pe_int (fun _ _ => rfl)) (pa_cons (pe_ix ix_tup (pv 6) pe_int (fun _ _ => rfl)) pa_nil))))))))))
      (pss_one (ps_ret pe_bl))
      pss_nil)
    (pss_cons (ps_if (pt_not (pt_val (pe_f c_law_without_right hr (by decide) rfl (pa_cons (pv 1) (pa_cons (pv 2) (pa_cons (pe_ix ix_tup (pv 5) pe_int (fun _ _ => rfl)) (pa_cons (pe_f c_law_pick hr (by decide) rfl (pa_cons (pv 0) (pa_cons (pv 3) pa_nil))) pa_nil)))))))
      (pss_one (ps_ret pe_bl))
      pss_nil)
    (pss_one (ps_ret (pe_and (pe_f c_law_equal_right hr (by decide) rfl (pa_cons (pv 0) (pa_cons (pv 1) (pa_cons (pv 2) pa_nil)))) (pe_and (pe_f c_law_fetch_right hr (by decide) rfl (pa_cons (pv 2) pa_nil)) (pe_one (pe_f c_law_same hr (by decide) rfl (pa_cons (pv 1) (pa_cons (pv 2) pa_nil)))))))))))))), ?_⟩
    obtain ⟨gok, gb, gm', gq, gs⟩ := bad_none hg
    refine q_when (b := false) (et_not (a := true) (et_B (ev_call (ea_cons (ev_var rfl) (ea_cons (ev_var rfl) ea_nil)) fun H1 e Q' q' E' => ⟨u, v, wl, l, l', rfl, hm.ex e, hw.ex e, hs, gok, q'⟩))) (fun h => nomatch h) (fun _ H1 e1 => ?_)
    -- the names
    have c2 : ∀ t : Str, (ns.map V.str ++ [.str t, .str "zz"]) = (ns ++ [t, "zz"]).map V.str := fun t => by rw [List.map_append]; rfl
    refine q_forLQ ?_
    refine (ev_var rfl) H1 (Ex.refl H1) _ fun H2 e2 => rd_lstR (rd_consR (rd_call (Q := fun v H => _) (ea_cons (ev_var rfl) ea_nil) fun H3 e3 => ⟨p, rfl, ((b.ex e1).ex e2).ex e3, fun t H4 ht b4 k4 => rd_consE ev_c fun H5 e5 => rd_nil ⟨sz_of (by show 2 ≤ 100000; decide), fun pl npl => ?_⟩⟩))
    have e03 := (e1.trans e2).trans e3
    have k05 := ((Keep.of e03).trans k4).trans (Keep.of e5)
    have e56 := Ex.new npl (o := .lst [.str t, .str "zz"])
    refine ⟨qn, pl, ns.map V.str, [.str t, .str "zz"], rfl, rfl, e56 _ _ (k05 _ _ nqp hqn), upd_same, sz_of (by rw [List.length_map]; show ns.length + 2 ≤ 100000; omega), fun pc npc => ?_⟩
    have e57 := e56.trans (Ex.new npc (o := .lst (ns.map V.str ++ [.str t, .str "zz"])))
    have hc7 : upd (upd H5 pl (.lst [.str t, .str "zz"])) pc (.lst (ns.map V.str ++ [.str t, .str "zz"])) pc = some (.lst ((ns ++ [t, "zz"]).map V.str)) := by rw [← c2]; exact upd_same
    generalize upd (upd H5 pl (.lst [.str t, .str "zz"])) pc (.lst (ns.map V.str ++ [.str t, .str "zz"])) = H7 at e57 hc7
    have k07 := k05.trans (Keep.of e57)
    have b7 := (b4.ex e5).ex e57
    have hm7 := hm.keepB k07 b
    have hw7 := hw.keep k07 b nv
    have hq7 := k07 _ _ nqp hqn
    clear e1 e2 e3 k4 b4 e5 e03 k05 e56 e57 npl npc hm hw hqn b
    obtain ⟨aw, rfl, haw, hf⟩ := id hw7
    refine forL_of hc7 (fun i σ' H' => (∃ x4, σ' = [some (.ref p), some u, some (.ref aw), some (.ref qn), x4, none, none]) ∧ Ex H7 H') ⟨⟨none, rfl⟩, Ex.refl H7⟩ (fun i σ' H' _ pv => sq_of (pv.2 _ _ hc7)) (fun i x σ' H' hx pv => ?_) (fun σ' H' pv => ?_)
    · obtain ⟨⟨x4, rfl⟩, e⟩ := pv
      rw [List.getElem?_map] at hx
      obtain ⟨n, hn, rfl⟩ := Option.map_eq_some_iff.mp hx
      refine s_when (b := false) (et_not (a := true) (et_B (ev_call (ea_cons (ev_var rfl) (ea_cons (ev_ixL (ev_var rfl) ev_c (e _ _ haw) (atI_nat (j := 3) rfl)) (ea_cons (ev_var rfl) ea_nil))) fun H8 e8 Q' q' E' => ⟨u, l, n, wl, l', rfl, hm7.ex (e.trans e8), hf.ex (e.trans e8), gok, q'⟩))) (fun h => nomatch h) (fun _ H8 e8 => ⟨⟨_, rfl⟩, e.trans e8⟩)
    obtain ⟨⟨x4, rfl⟩, e⟩ := pv
    have b8 := b7.ex e
    have k08 := k07.trans (Keep.of e)
    have hm8 := hm7.ex e
    have hw8 := hw7.ex e
    have hq8 := e _ _ hq7
    clear hm7 hw7 hq7 b7 k07 e hc7 haw hf
    -- a new field and an odd one
    have nmt : ∀ n ∈ ns ++ [("zz" : Str)], n.length ≤ 30 ∧ Asc n := fun n hn => by
      rcases List.mem_append.mp hn with hn | hn
      · exact name_t (hns n hn)
      · rw [List.mem_singleton.mp hn]; decide +kernel
    have c1 : (ns.map V.str ++ [.str "zz"]) = (ns ++ [("zz" : Str)]).map V.str := by rw [List.map_append]; rfl
    refine q_asgR ?_
    refine rd_consR (rd_pk (Q := fun v H => _) (ev_var rfl) (el_catN (ev_var rfl) (el_lst (ea_cons ev_c ea_nil) (by show 1 ≤ 100000; decide)) hq8 (by rw [List.length_map]; show ns.length + 1 ≤ 100000; omega)) b8 (by rw [List.length_append, List.length_map]; exact Nat.le_add_left 1 _) (by rw [List.length_append, List.length_map]; show ns.length + 1 ≤ 1000; omega) fun nv1 H9 hnv b9 k9 => ?_)
    rw [c1] at hnv
    obtain ⟨n1, rfl, hn1'⟩ := strs_in hnv
    obtain ⟨nl1, na1⟩ := nmt n1 hn1'
    refine rd_consR (rd_call (Q := fun v H => _) (ea_cons (ev_var rfl) ea_nil) fun H10 e10 => ⟨p, rfl, b9.ex e10, fun x1 H11 hx1 b11 k11 => rd_nil ⟨sz_of (by show 2 ≤ 100000; decide), fun pt npt => ?_⟩⟩)
    obtain ⟨xl1, xa1⟩ := value_t hx1
    have e12 := Ex.new npt (o := .tup [.str n1, .str x1])
    have ht12 : upd H11 pt (.tup [.str n1, .str x1]) pt = some (.tup [.str n1, .str x1]) := upd_same
    generalize upd H11 pt (.tup [.str n1, .str x1]) = H12 at e12 ht12 ⊢
    have k8 := ((k9.trans (Keep.of e10)).trans k11).trans (Keep.of e12)
    have b12 := b11.ex e12
    clear k9 e10 k11 b11 b9 npt e12
    have hm12 := hm8.keepB k8 b8
    have hw12 := hw8.keep k8 b8 nv
    have hq12 := k8 _ _ nqp hq8
    have k012 := k08.trans k8
    clear k08 k8 b8 hm8 hw8 hq8
    refine q_asgR (rd_call (Q := fun v H => _) (ea_cons (ev_var rfl) (ea_cons (ev_ixT (ev_var rfl) ev_c ht12 (atI_nat (j := 0) rfl)) (ea_cons (ev_ixT (ev_var rfl) ev_c ht12 (atI_nat (j := 1) rfl)) ea_nil))) fun H13 e13 => ⟨p, n1, x1, rfl, b12.ex e13, by omega, na1, by omega, xa1, fun t2 n2 x2 H14 ht14 o1 o2 b14 k14 => ?_⟩)
    have k8 := (Keep.of e13).trans k14
    have npt : pt ≠ p := fun e => by
      obtain ⟨xs, hx⟩ := b12.has
      rw [e, hx] at ht12; cases ht12
    have ht1 := k8 _ _ npt ht12
    have hm14 := hm12.keepB k8 b12
    have hw14 := hw12.keep k8 b12 nv
    have hq14 := k8 _ _ nqp hq12
    have k014 := k012.trans k8
    clear k8 k14 e13 hm12 hw12 hq12 k012 ht12 b12
    refine q_when (b := false) (et_or (a := false) (et_not (a := true) (et_B (ev_call (ea_cons (ev_var rfl) (ea_cons (ev_var rfl) (ea_cons (ev_ixT (ev_var rfl) ev_c ht1 (atI_nat (j := 0) rfl)) (ea_cons (ev_ixT (ev_var rfl) ev_c ht1 (atI_nat (j := 1) rfl)) ea_nil)))) fun H1 e Q' q' E' => ⟨u, .ref aw, n1, x1, wl, l, l', rfl, hm14.ex e, hw14.ex e, hs, hg, ⟨by omega, na1⟩, ⟨by omega, xa1⟩, q'⟩))) fun _ => et_not (a := true) (et_B (ev_call (ea_cons (ev_var rfl) (ea_cons (ev_var rfl) (ea_cons (ev_ixT (ev_var rfl) ev_c ht14 (atI_nat (j := 0) rfl)) (ea_cons (ev_ixT (ev_var rfl) ev_c ht14 (atI_nat (j := 1) rfl)) ea_nil)))) fun H1 e Q' q' E' => ⟨u, .ref aw, n2, x2, wl, l, l', rfl, hm14.ex e, hw14.ex e, hs, hg, o1, o2, q'⟩))) (fun h => nomatch h) (fun _ H15 e15 => ?_)
    -- without
    refine q_in ?_
    refine rd_args (Q := fun v H => _) (rd_consE (ev_var rfl) fun H16 e16 => rd_consE (ev_var rfl) fun H17 e17 => rd_consE (ev_ixT (ev_var rfl) ev_c (((e15.trans e16).trans e17) _ _ ht1) (atI_nat (j := 0) rfl)) fun H18 e18 => ?_)
    have e48 := ((e15.trans e16).trans e17).trans e18
    have b18 := b14.ex e48
    refine rd_consR (rd_call (Q := fun v H => _) (ea_cons (ev_var rfl) (ea_cons (ev_var rfl) ea_nil)) fun H19 e19 => ⟨p, qn, ns.map V.str, rfl, b18.ex e19, nqp, (e48.trans e19) _ _ hq14, by rw [List.length_map]; exact hn1, by rw [List.length_map]; omega, fun nv2 H20 hnv b20 k20 => rd_nil ?_⟩)
    obtain ⟨n3, rfl, _⟩ := strs_in hnv
    have k8 := (Keep.of (e48.trans e19)).trans k20
    have hm20 := hm14.keepB k8 b14
    have hw20 := hw14.keep k8 b14 nv
    have k020 := k014.trans k8
    clear k8 k20 e48 e19 e18 e17 e16 e15 b18 hm14 hw14 hq14 k014 b14
    refine ⟨u, .ref aw, n1, n3, wl, l, l', rfl, hm20, hw20, hs, hg, fun H21 e21 => ⟨true, rfl, iteF ?_⟩⟩
    -- the last line
    refine g_next ?_
    dsimp only
    refine g_ret ?_
    refine rd_call (Q := fun v H => _) (ea_cons (ev_var rfl) (ea_cons (ev_var rfl) (ea_cons (ev_var rfl) ea_nil))) fun H22 e22 => ⟨p, u, .ref aw, wl, l, l', rfl, (b20.ex e21).ex e22, (hm20.ex e21).ex e22, (hw20.ex e21).ex e22, nv, nl, hs, hpa, hg, fun H23 b23 k23 => ⟨true, rfl, iteT ?_⟩⟩
    have k8 := (Keep.of (e21.trans e22)).trans k23
    have hm23 := hm20.keepB k8 b20
    have hw23 := hw20.keep k8 b20 nv
    have k023 := k020.trans k8
    exact (ev_andV (a := true) (b := true) (ev_call (ea_cons (ev_var rfl) ea_nil) fun H1 e Q' q' E' => ⟨.ref aw, wl, l, rfl, hw23.ex e, hs, hg, q'⟩) fun _ => ev_call (ea_cons (ev_var rfl) (ea_cons (ev_var rfl) ea_nil)) fun H1 e Q' q' E' => ⟨u, .ref aw, wl, l, l', rfl, hm23.ex e, hw23.ex e, hs, gok, q'⟩) H23 (Ex.refl H23) _ fun H24 e24 => q H24 (b23.ex e24) (k023.trans (Keep.of e24))
end
end Z
set_option maxHeartbeats 4000000
namespace Z
open PySem PySem.Spec PyProof.Rows L2 TL Evl NdefX
def spLawS (K : PySem.W.Frag) : Sp := fun vs H Q _ => ∃ (a : Addr) (ns : List Int), vs = [.ref a] ∧ SqL K H a (ns.map V.int) ∧ ns.length ≤ 63 ∧ (∀ z ∈ ns, z.natAbs < 2 ^ cap) ∧ ∀ H', Q (.bl true) H'
def spRt : Sp := fun vs H Q _ => ∃ p, vs = [.ref p] ∧ Bg H p ∧ ∀ H', Keep p H H' → Q (.bl true) H'
theorem q_forRm {ta : TA} {j : Nat} {n : Int} {σ : L2.St} {H : Hp} {D : Ends} {tu tz : TS} (h : EvA ta σ H [.int n]) (hn : -1 ≤ n ∧ n ≤ 100000) (Pv : Nat → L2.St → Hp → Prop) (h0 : ∀ H1, Ex H H1 → Pv 0 σ H1)
    (hs : ∀ (i : Nat) σ' H', (i : Int) < n → Pv i σ' H' → tu { D with nx := Pv (i + 1), ct := Pv (i + 1), bk := tz D } (σ'.set j (some (.int (i : Int)))) H') (hd : ∀ σ' H', Pv n.toNat σ' H' → tz D σ' H') : tSeq (tFor (iRng1 ta) (gName j) tu) tz D σ H :=
  h H (Ex.refl H) _ fun H1 e => ⟨n, rfl, by omega, by omega, for_range (lo := 0) (n := n.toNat) Pv (h0 H1 e) (fun i σ' H' hi p => by
    have e0 : (0 : Int) + (i : Int) = (i : Int) := Int.zero_add _
    rw [e0]
    exact hs i σ' H' (by omega) p) hd⟩
theorem shaped_tstrs (ss : List Str) (k : ∀ s ∈ ss, PyData.strOk s = true) : SeqAt.shaped (.tuple (ss.map PyData.str)) = true := by
  have h := shaped_strs ss k
  have h1 : PyData.canLay0 (.list (ss.map PyData.str)) = PyData.canLay0 (.tuple (ss.map PyData.str)) := by simp only [PyData.canLay0]
  have h2 : PyData.depth (.list (ss.map PyData.str)) = PyData.depth (.tuple (ss.map PyData.str)) := by simp only [PyData.depth]
  have h : (PyData.canLay0 (.list (ss.map PyData.str)) && decide (PyData.depth (.list (ss.map PyData.str)) ≤ 64)) = true := h
  show (PyData.canLay0 (.tuple (ss.map PyData.str)) && decide (PyData.depth (.tuple (ss.map PyData.str)) ≤ 64)) = true
  rw [← h1, ← h2]
  exact h
theorem rv_neTS {K : PySem.W.Frag} {H : Hp} {p q : Addr} {ss : List Str} (h1 : ∀ H, SqT K H p (ss.map V.str)) (h2 : H q = some (.tup (ss.map V.str))) (k : ∀ s ∈ ss, PyData.strOk s = true) : RV (rNeD K) (.ref p) (.ref q) H (.bl false) := by
  have h := rv_ndat (K := K) (H := H) (x := .ref p) (y := .ref q) (fun H1 e => .tup (h1 H1) (dp_strs ss)) (fun H1 e => .tup (st_of (e _ _ h2)) (dp_strs ss)) (shaped_tstrs _ k) (shaped_tstrs _ k)
  have e1 : PyData.eqv (.tuple (ss.map PyData.str)) (.tuple (ss.map PyData.str)) = true := by
    simp only [PyData.eqv]
    exact eqv_strs ss
  rw [e1] at h
  exact h
theorem bad_some {w : Wl} {n : Str} (h : badW w = some n) : n ∈ ([("method" : Str), "path", "status", "fields", "body"]) := by
  unfold badW badM at h
  repeat' split at h
  all_goals first | (cases h; done) | (cases h; decide +kernel)
theorem rv_eqSS {K : PySem.W.Frag} {H : Hp} {p q : Addr} {ss : List Str} (h1 : H p = some (.lst (ss.map V.str))) (h2 : H q = some (.lst (ss.map V.str))) (k : ∀ s ∈ ss, PyData.strOk s = true) : RV (rEqD K) (.ref p) (.ref q) H (.bl true) := by
  have h := rv_dat (K := K) (H := H) (x := .ref p) (y := .ref q) (fun H1 e => .lst (sq_of (e _ _ h1)) (dp_strs ss)) (fun H1 e => .lst (sq_of (e _ _ h2)) (dp_strs ss)) (shaped_strs _ k) (shaped_strs _ k)
  have e1 : PyData.eqv (.list (ss.map PyData.str)) (.list (ss.map PyData.str)) = true := by
    simp only [PyData.eqv]
    exact eqv_strs ss
  rw [e1] at h
  exact h
section
variable {P : Program} {w : World} {K : PySem.W.Frag} {mg : Str → Option Value} {base : Heap} {f g h p0 B RQ RS DV DH DM DI DR : Addr} {fd fe : FuncData} {k : Nat} {mc : Value}
theorem ok_law_right (T : Mg mg) (c_law_draw : CDr P w K mg base) (c_law_name : Call P w K mg base 3 "_law_name" ["bag"] spNm) (c_law_world : Call P w K mg base 5 "_law_world" ["bag", "names"] spWd0) (c_law_due : Call P w K mg base 3 "_law_due" ["world"] spDu)
    (c_law_make : Call P w K mg base 9 "_law_make" ["way", "as_list", "world"] (spLm RQ RS)) (c_law_made_right : Call P w K mg base 12 "_law_made_right" ["bag", "told", "world", "names"] (spMd RQ RS))
    (F : FnP K "_law_right" s_law_right f fd) (gm : mg "_law_right" = some (.ref f)) : Call P w K mg base 13 "_law_right" ["bag"] spRt := by
  refine mk F gm (fun _ _ _ _ _ _ us hl => match us, hl with | [_], _ => rfl) (fun _ _ _ _ _ _ us hl => match us, hl with | [_], _ => rfl) sc_law_right (fun vs H Q E h => ?_) (fun cdv A outer s H vs Q E hr h => ?_)
  · obtain ⟨p, rfl, _⟩ := h
    rfl
  · obtain ⟨p, rfl, b, q⟩ := h
    refine ⟨_, (pss_cons (ps_setLc (i := 1) (own := [("k", 2)]) (g := gName 2) (tt := tYes) rfl sc_law_right.nd rfl rfl (sw_true rfl rfl rfl (by decide +kernel)) (pi_range1 rfl T.range (pa_cons (pe_op op_add pe_int (pe_f c_law_draw hr (by decide) rfl (pa_cons (pv 0) (pa_cons pe_int pa_nil)))) pa_nil)) (blkOk_by (N := ["bag", "names", "k", "world", "due", "told"]) (sc := L2.defScope s_law_right) (by decide +kernel)) (fun _ _ _ _ _ => pg_name (i := 2) sc_law_right.nd rfl (Or.inl rfl)) (fun _ _ _ _ _ => pts_nil) (fun _ _ _ _ _ => (pe_f c_law_name hr (by decide) rfl (pa_cons (pv 0) pa_nil))))
    (pss_cons (ps_set (i := 3) sc_law_right.nd rfl (Or.inl rfl) (pe_f c_law_world hr (by decide) rfl (pa_cons (pv 0) (pa_cons (pv 1) pa_nil))))
    (pss_cons (ps_set (i := 4) sc_law_right.nd rfl (Or.inl rfl) (pe_f c_law_due hr (by decide) rfl (pa_cons (pv 3) pa_nil)))
    (pss_cons (ps_set (i := 5) sc_law_right.nd rfl (Or.inl rfl) (pe_f c_law_make hr (by decide) rfl (pa_cons (pe_f c_law_draw hr (by decide) rfl (pa_cons (pv 0) (pa_cons pe_int pa_nil))) (pa_cons (pe_cmpR op_eq (pe_f c_law_draw hr (by decide) rfl (pa_cons (pv 0) (pa_cons pe_int pa_nil))) pe_int (nomark _)) (pa_cons (pv 3) pa_nil)))))
    (pss_cons (ps_if (pt_cmpR op_ne (pv 4) pe_str (nomark _))
      (pss_one (ps_ret (pe_cmpR (op_eqD hr.units) (pv 5) (pe_lst (pa_cons pe_str (pa_cons (pv 4) pa_nil))) (nomark _))))
      pss_nil)
    (pss_one (ps_ret (pe_and (pe_cmpR op_eq (pe_ix ix_list (pv 5) pe_int (fun _ _ => rfl)) pe_str (nomark _)) (pe_one (pe_f c_law_made_right hr (by decide) rfl (pa_cons (pv 0) (pa_cons (pe_ix ix_list (pv 5) pe_int (fun _ _ => rfl)) (pa_cons (pv 3) (pa_cons (pv 1) pa_nil)))))))))))))), ?_⟩
    refine q_asgR ?_
    refine rd_dr (Q := fun v H1 => _) (ea_cons (ev_var rfl) (ea_cons ev_c ea_nil)) b (by decide) (by decide) fun d H1 d0 d1 b1 k1 => ⟨1, d, rfl, rfl, 1 + d, rfl, by omega, by omega, fun D hD => ?_⟩
    refine lc_bg (α := Str) (fun _ v s => v = .str s) (fun s => nameB s = true) (fun _ _ _ _ h _ => h) hD b1 (by omega) (fun _ => rfl) (fun i H2 hi b2 k2 kk hk => ?_) (fun H2 ys ns hd hr hl ho b2 k2 => ?_)
    · exact rd_call (ea_cons (ev_var rfl) ea_nil) fun H3 e3 => ⟨p, rfl, b2.ex e3, fun t H4 ht b4 k4 => hk _ t H4 rfl ht b4 ((Keep.of e3).trans k4)⟩
    have hDp : D ≠ p := b1.ne hD
    rw [rel_str hr] at hd
    have k02 := k1.trans k2
    clear k1 k2 b1 hD b
    refine q_asgR (rd_call (Q := fun v H => _) (ea_cons (ev_var rfl) (ea_cons (ev_var rfl) ea_nil)) fun H3 e3 => ⟨p, D, ns, rfl, b2.ex e3, hDp, e3 _ _ hd, by omega, by omega, ho, fun v wl l H4 hw hs hpa hok nv nl b4 k4 => ?_⟩)
    have hq4 := k4 _ _ hDp (e3 _ _ hd)
    have k04 := (k02.trans (Keep.of e3)).trans k4
    clear e3 k4 hd k02 b2
    refine q_asg (v := .str ((badW wl).getD "")) (ev_call (ea_cons (ev_var rfl) ea_nil) fun H1 e Q' q' E' => ⟨v, wl, l, rfl, hw.ex e, hs, hok, q'⟩) fun H5 e5 => ?_
    have b5 := b4.ex e5
    refine q_asgR (rd_args (rd_consR (rd_dr (Q := fun v H => _) (ea_cons (ev_var rfl) (ea_cons ev_c ea_nil)) b5 (by decide) (by decide) fun way H6 _ _ b6 k6 => rd_consR (rd_opR (rd_dr (Q := fun v H => _) (ea_cons (ev_var rfl) (ea_cons ev_c ea_nil)) b6 (by decide) (by decide) fun d2 H7 _ _ b7 k7 => ⟨rfl, rd_consE (ev_var rfl) fun H8 e8 => rd_nil ?_⟩)))))
    have k58 := (k6.trans k7).trans (Keep.of e8)
    have b8 := b7.ex e8
    have hw8 := (hw.ex e5).keep k58 b5 nv
    have hq8 := k58 _ _ hDp (e5 _ _ hq4)
    have k08 := (k04.trans (Keep.of e5)).trans k58
    clear k58 k6 k7 b7 b6 b5 e5 e8 hw hq4 k04 b4
    refine ⟨way, decide (V.int d2 = V.int 0), v, wl, l, rfl, hw8, hs, hok, fun hn r u l' H9 e9 hr9 nl' hm9 => ?_, fun n hn r H9 e9 hr9 => ?_⟩
    · refine q_when (b := false) (et_is (et_test (ev_op (ev_var rfl) ev_c rv_neS)) (by rw [hn]; decide +kernel)) (fun h => nomatch h) (fun _ H10 e10 => ?_)
      have e810 := e9.trans e10
      refine g_ret ?_
      refine (ev_op (ev_ixL (ev_var rfl) ev_c (e10 _ _ hr9) (atI_nat (j := 0) rfl)) ev_c rv_eqS) H10 (Ex.refl H10) _ fun H11 e11 => ⟨true, by rw [decide_eq_true rfl], iteT ?_⟩
      have e811 := e810.trans e11
      refine rd_call (Q := fun v H => _) (ea_cons (ev_var rfl) (ea_cons (ev_ixL (ev_var rfl) ev_c ((e10.trans e11) _ _ hr9) (atI_nat (j := 1) rfl)) (ea_cons (ev_var rfl) (ea_cons (ev_var rfl) ea_nil)))) fun H12 e12 => ⟨p, u, v, D, wl, l, l', ns, rfl, (b8.ex e811).ex e12, hm9.ex ((e10.trans e11).trans e12), hw8.ex (e811.trans e12), nv, nl, hs, hpa, hn, hDp, (e811.trans e12) _ _ hq8, by omega, by omega, ho, fun H13 b13 k13 => q H13 (k08.trans ((Keep.of (e811.trans e12)).trans k13))⟩
    · have hbs := bad_some hn
      have hne : n ≠ ("" : Str) := fun h => by rw [h] at hbs; revert hbs; decide +kernel
      have hso : PyData.strOk n = true := (by decide +kernel : ∀ n ∈ ([("method" : Str), "path", "status", "fields", "body"]), PyData.strOk n = true) n hbs
      have hre : PyData.strOk "refused" = true := by decide +kernel
      rw [hn]
      refine q_when (b := true) (et_is (et_test (ev_op (ev_var rfl) ev_c rv_neS)) (by show (!decide (n = ("" : Str))) = true; rw [decide_eq_false hne]; rfl)) (fun _ H10 e10 => ?_) (fun h => nomatch h)
      exact s_ret (v := .bl true) (ev_opL (ev_var rfl) (el_lst (ea_cons ev_c (ea_cons (ev_var rfl) ea_nil)) (by show 2 ≤ 100000; decide)) fun p' H1 hp' e => rv_eqSS (ss := ["refused", n]) (e _ _ (e10 _ _ hr9)) hp' (fun s hs => by
        rcases List.mem_cons.mp hs with rfl | hs
        · exact hre
        · rw [List.mem_singleton.mp hs]; exact hso)) fun H11 e11 => q H11 (k08.trans (Keep.of ((e9.trans e10).trans e11)))
theorem ok_lawR (T : Mg mg) (MB : Wb K mg B) (WQ : Wq K mg RQ) (WS : Ws K mg RS) (c_law_statuses : Call P w K mg base 1 "_law_statuses" [] (fun vs H Q _ => vs = [] ∧ RetL (stL.map V.str) H Q)) (c_law_bag : Call P w K mg base 1 "_law_bag" ["script", "k"] (spBg K)) (c_law_right : Call P w K mg base 13 "_law_right" ["bag"] spRt) (F : FnP K "law" s_law f fd) : FnOk P w K mg base CX0 14 f fd ["script"] (spLawS K) := by
  refine mkF F sc_law (fun vs H Q E h => ?_) (fun cdv A outer s H vs Q E hr h => ?_)
  · obtain ⟨a, ns, rfl, _⟩ := h
    rfl
  · obtain ⟨a, ns, rfl, hS, hl, hbits, q⟩ := h
    refine ⟨_, (pss_cons (ps_if (PW.pt (pw_or (pt_cmpR op_ne (ClX.pe_cval (pe_gc (v := .ref B) rfl ⟨_, MB.m, rfl⟩)) pe_int (nomark _)) (pw_or1 (pt_cmpR op_ne (ClX.pe_cval (pe_gc (v := .ref B) rfl ⟨_, MB.m, rfl⟩)) pe_int (nomark _)))))
      (pss_one (ps_ret pe_bl))
      pss_nil)
    (pss_cons (ps_if (PW.pt (pw_or (pt_cmpR (op_neD hr.units) (ClX.pe_cval (pe_gc (v := .ref RQ) rfl ⟨_, WQ.m, rfl⟩)) (pe_tup (pa_cons pe_str (pa_cons pe_str (pa_cons pe_str pa_nil)))) (nomark _)) (pw_or1 (pt_cmpR (op_neD hr.units) (ClX.pe_cval (pe_gc (v := .ref RS) rfl ⟨_, WS.m, rfl⟩)) (pe_callTy call_tuple_of (by rfl) T.tuple (by decide +kernel) (pa_cons (pe_f0 c_law_statuses hr (by decide) rfl) pa_nil)) (nomark _)))))
      (pss_one (ps_ret pe_bl))
      pss_nil)
    (pss_cons (ps_for PassesOwn.never rfl (pi_range1 rfl T.range (pa_cons (pe_callB (call_max2 rfl) (by rfl) T.max (by decide +kernel) (pa_cons pe_int (pa_cons (pe_callB (cz_min2 rfl) (by rfl) T.min (by decide +kernel) (pa_cons pe_int (pa_cons (pe_callB call_len_seq (by rfl) T.len (by decide +kernel) (pa_cons (pv 0) pa_nil)) pa_nil))) pa_nil))) pa_nil)) (pg_name (i := 1) sc_law.nd rfl (Or.inl rfl))
      (pss_one (ps_if (pt_not (pt_val (pe_f c_law_right hr (by decide) rfl (pa_cons (pe_f c_law_bag hr (by decide) rfl (pa_cons (pv 0) (pa_cons (pv 1) pa_nil))) pa_nil))))
        (pss_one (ps_ret pe_bl))
        pss_nil)))
    (pss_one (ps_ret pe_bl))))), ?_⟩
    obtain ⟨_, mfu⟩ := MB.mf
    obtain ⟨_, mbu⟩ := MB.mb
    obtain ⟨pq, mq, hpq⟩ := WQ.st
    obtain ⟨ps, ms, hps⟩ := WS.st
    have o1 : ∀ s ∈ mdL, PyData.strOk s = true := by decide +kernel
    have o2 : ∀ s ∈ stL, PyData.strOk s = true := by decide +kernel
    refine q_when (b := false) (et_is (et_or (et_test (ev_op (ev_cval ev_c MB.rd mfu) ev_c (rv_ne rfl))) fun _ => et_test (ev_op (ev_cval ev_c MB.rd mbu) ev_c (rv_ne rfl))) (by decide +kernel)) (fun h => nomatch h) (fun _ H1 e1 => ?_)
    have hu : ∀ {σ : L2.St} {H1 : Hp}, EvU (tCB (fun xs H Q => ∃ p ys, xs = [V.ref p] ∧ ((SqL K H p ys ∧ ∀ l, H l = none → Q (V.ref l) (upd H l (.tup ys))) ∨ SqT K H p ys ∧ Q (V.ref p) H)) (tCons (tCall (fun vs H Q _ => vs = [] ∧ RetL (stL.map V.str) H Q) [] E0 tNil) tNil)) σ H1 (stL.map V.str) := fun {σ H1} H2 e Q q => by
      refine rd_consR ((el_callX (vs := []) ea_nil fun H1 e1 Q' E' q' => ⟨rfl, q'⟩) H2 e _ fun lp H3 nl e3 hl => rd_nil ⟨lp, _, rfl, .inl ⟨sq_of hl, fun t nt => ?_⟩⟩)
      exact q t _ (fresh_back e3 nt) (e3.trans (Ex.new nt)) upd_same
    refine q_when (b := false) (et_is (et_or (a := false) (et_test (ev_opV (ev_cval ev_c WQ.rd mq) (eu_tup (ea_cons ev_c (ea_cons ev_c (ea_cons ev_c ea_nil))) (by show 3 ≤ 100000; decide)) fun q H1 hq e => rv_neTS (ss := mdL) hpq hq o1)) fun _ => et_test (ev_opV (ev_cval ev_c WS.rd ms) hu fun q H1 hq e => rv_neTS hps hq o2)) rfl) (fun h => nomatch h) (fun _ H2 e2 => ?_)
    have hS2 := ex_l (e1.trans e2) hS
    have hmn : ∃ j : Int, EvA (tCons (tCB (fun xs H Q => ∃ i j : Int, xs = [V.int i, V.int j] ∧ Q (V.int (if j > i then j else i)) H) (tCons (tC (V.int 1)) (tCons (tCB rMin2 (tCons (tC (V.int 20)) (tCons (tCB (rLenS K) (tCons (tVar 0) tNil)) tNil))) tNil))) tNil) [some (V.ref a), none] H2 [.int j] ∧ 0 ≤ j ∧ j ≤ 63 := by
      have hmin : (if (ns.length : Int) < 20 then (ns.length : Int) else 20) ≤ 20 := by
        by_cases h : (ns.length : Int) < 20
        · rw [if_pos h]; omega
        · rw [if_neg h]; omega
      refine ⟨if (if (ns.length : Int) < 20 then (ns.length : Int) else 20) > 1 then (if (ns.length : Int) < 20 then (ns.length : Int) else 20) else 1, fun H3 e3 Q' q' => ?_, ?_⟩
      · refine ⟨.ref a, rfl, a, ns.map V.int, rfl, .inl (ex_l e3 hS2), 20, _, rfl, 1, _, rfl, ?_⟩
        rw [List.length_map]
        exact q' H3 (Ex.refl H3)
      · generalize (if (ns.length : Int) < 20 then (ns.length : Int) else 20) = m at hmin
        by_cases h : m > 1
        · rw [if_pos h]; omega
        · rw [if_neg h]; omega
    obtain ⟨j, hj, hj0, hj1⟩ := hmn
    refine q_forRm hj (by omega) (fun i σ' H' => (∃ v1, σ' = [some (.ref a), v1]) ∧ SqL K H' a (ns.map V.int)) (fun H3 e3 => ⟨⟨none, rfl⟩, ex_l e3 hS2⟩) (fun i σ' H' hi pv => ?_) (fun σ' H' pv => ?_)
    · obtain ⟨⟨v1, rfl⟩, hS'⟩ := pv
      refine ⟨.ref a, rfl, .int (i : Int), rfl, a, ns, i, rfl, hS', hl, by omega, hbits, fun p H1 np e1 b1 => ?_⟩
      have keepS : ∀ H2, Keep p H' H2 → SqL K H2 a (ns.map V.int) := fun H2 k => by
        have ex : Ex H' H2 := fun b o h => k b o (ne_of_none h np) h
        exact ex_l ex hS'
      refine ⟨p, rfl, b1, fun H2 k2 => ?_⟩
      exact ⟨true, rfl, iteF ⟨⟨_, rfl⟩, keepS H2 ((Keep.of e1).trans k2)⟩⟩
    · obtain ⟨⟨v1, rfl⟩, hS'⟩ := pv
      exact q H'
end
end Z
set_option maxHeartbeats 4000000
namespace Z
open PySem PySem.Spec PyProof.Rows L2 TL Evl
section
variable {P : Program} {w : World} {K : PySem.W.Frag} {mg : Str → Option Value} {base : Heap} {f p0 R DV : Addr} {fd : FuncData} {side : Bool}
/-! ### how the parameters are bound -/
theorem mka_q (M : Mk K R f) (F : FunD K "__init__" "Request.__init__" (L2.defArgs s_Ri) (L2.defBody s_Ri) (L2.defScope s_Ri) [.ref p0, .str ""] [] f fd) (hp : ∀ H, SqT K H p0 []) (Fi : FnOk P w K mg base (L2N.CX P w) 6 f fd rqN (spCo K R DV side)) :
    Mka P w K mg base R DV side rqN ["path", "fields", "body", "method"] 3 kaQ ∧ Mk1 P w K mg base R DV side rqN ∧ Mkx P w K mg base R DV side rqN := by
  obtain ⟨d0, v0, b0⟩ := FunD.binds1 (ps := rqN) F 5 2 (List.cons_ne_nil _ _) rfl fun T kV doc pm an cdv ct us its h1 h2 => match us, its, h1, h2 with | [_, _, _, _, _], [_, _], _, _ => ⟨_, rfl, rfl⟩
  have ed : d0 = [] := by cases v0; rfl
  subst ed
  obtain ⟨d1, v1, b1⟩ := FunD.binds1 (ps := rqN) F 4 1 (List.cons_ne_nil _ _) rfl fun T kV doc pm an cdv ct us its h1 h2 => match us, its, h1, h2 with | [_, _, _, _], [_, _], _, _ => ⟨_, rfl, rfl⟩
  obtain ⟨d2, v2, b2⟩ := FunD.binds1 (ps := rqN) F 3 0 (List.cons_ne_nil _ _) rfl fun T kV doc pm an cdv ct us its h1 h2 => match us, its, h1, h2 with | [_, _, _], [_, _], _, _ => ⟨_, rfl, rfl⟩
  have kA := ZX.kbAllD (ps := rqN) F 1 ["path", "fields", "body", "method"] (fun us ws => us ++ ws.drop 3 ++ ws.take 3) (List.cons_ne_nil _ _) (fun r1 r2 => (r1.append (r2.drop 3)).append (r2.take 3))
    fun T kV doc pm an cdv ct us its ws h1 h2 h3 => match us, its, ws, h1, h2, h3 with | [_], [_, _], [_, _, _, _], _, _, _ => ⟨_, rfl, rfl⟩
  obtain ⟨gB, kB⟩ := ZX.kbDfl (ps := rqN) F 3 ["body"] (fun us ds ws => us ++ ds.take 1 ++ ws) (List.cons_ne_nil _ _) (fun r1 r2 r3 => (r1.append (r2.take 1)).append r3)
    fun T kV doc pm an cdv ct us its ws h1 h2 h3 => match us, its, ws, h1, h2, h3 with | [_, _, _], [_, _], [_], _, _, _ => ⟨_, rfl, rfl⟩
  exact ⟨⟨f, fd, d1, d2, p0, _, gB, M, Fi, b0, v1, b1, v2, b2, hp, kA, kB⟩, ⟨f, fd, d1, M, Fi, v1, b1⟩, ⟨f, fd, M, Fi, b0⟩⟩
theorem mka_s (M : Mk K R f) (F : FunD K "__init__" "Response.__init__" (L2.defArgs s_Rs) (L2.defBody s_Rs) (L2.defScope s_Rs) [.ref p0, .str ""] [] f fd) (hp : ∀ H, SqT K H p0 []) (Fi : FnOk P w K mg base (L2N.CX P w) 6 f fd rsN (spCo K R DV side)) :
    Mka P w K mg base R DV side rsN ["body", "status", "fields"] 2 kaS ∧ Mk1 P w K mg base R DV side rsN ∧ Mkx P w K mg base R DV side rsN := by
  obtain ⟨d0, v0, b0⟩ := FunD.binds1 (ps := rsN) F 4 2 (List.cons_ne_nil _ _) rfl fun T kV doc pm an cdv ct us its h1 h2 => match us, its, h1, h2 with | [_, _, _, _], [_, _], _, _ => ⟨_, rfl, rfl⟩
  have ed : d0 = [] := by cases v0; rfl
  subst ed
  obtain ⟨d1, v1, b1⟩ := FunD.binds1 (ps := rsN) F 3 1 (List.cons_ne_nil _ _) rfl fun T kV doc pm an cdv ct us its h1 h2 => match us, its, h1, h2 with | [_, _, _], [_, _], _, _ => ⟨_, rfl, rfl⟩
  obtain ⟨d2, v2, b2⟩ := FunD.binds1 (ps := rsN) F 2 0 (List.cons_ne_nil _ _) rfl fun T kV doc pm an cdv ct us its h1 h2 => match us, its, h1, h2 with | [_, _], [_, _], _, _ => ⟨_, rfl, rfl⟩
  have kA := ZX.kbAllD (ps := rsN) F 1 ["body", "status", "fields"] (fun us ws => us ++ ws.drop 1 ++ ws.take 1) (List.cons_ne_nil _ _) (fun r1 r2 => (r1.append (r2.drop 1)).append (r2.take 1))
    fun T kV doc pm an cdv ct us its ws h1 h2 h3 => match us, its, ws, h1, h2, h3 with | [_], [_, _], [_, _, _], _, _, _ => ⟨_, rfl, rfl⟩
  obtain ⟨gB, kB⟩ := ZX.kbDfl (ps := rsN) F 2 ["body"] (fun us ds ws => us ++ ds.take 1 ++ ws) (List.cons_ne_nil _ _) (fun r1 r2 r3 => (r1.append (r2.take 1)).append r3)
    fun T kV doc pm an cdv ct us its ws h1 h2 h3 => match us, its, ws, h1, h2, h3 with | [_, _], [_, _], [_], _, _, _ => ⟨_, rfl, rfl⟩
  exact ⟨⟨f, fd, d1, d2, p0, _, gB, M, Fi, b0, v1, b1, v2, b2, hp, kA, kB⟩, ⟨f, fd, d1, M, Fi, v1, b1⟩, ⟨f, fd, M, Fi, b0⟩⟩
theorem kb_val (F : FunD K "value" "Message.value" (L2.defArgs s_Mu) (L2.defBody s_Mu) (L2.defScope s_Mu) [] [] f fd) : KBn K fd snN 1 ["name"] (fun us ws => us ++ ws) (fun us ws => us ++ ws) :=
  ZX.kbAll (ps := snN) F 1 ["name"] (fun us ws => us ++ ws) (fun r1 r2 => r1.append r2) fun dV kV doc pm an cdv ct us ws h1 h2 hd => by
    rw [hd rfl]
    exact match us, ws, h1, h2 with | [_], [_], _, _ => by kernel_rfl
theorem kb_join (F : FunD K "joined" "Message.joined" (L2.defArgs s_Mj) (L2.defBody s_Mj) (L2.defScope s_Mj) [] [] f fd) : KBn K fd snN 1 ["name"] (fun us ws => us ++ ws) (fun us ws => us ++ ws) :=
  ZX.kbAll (ps := snN) F 1 ["name"] (fun us ws => us ++ ws) (fun r1 r2 => r1.append r2) fun dV kV doc pm an cdv ct us ws h1 h2 hd => by
    rw [hd rfl]
    exact match us, ws, h1, h2 with | [_], [_], _, _ => by kernel_rfl
theorem kb_with (F : FunD K "with_field" "Message.with_field" (L2.defArgs s_Mw) (L2.defBody s_Mw) (L2.defScope s_Mw) [] [] f fd) : KBn K fd ["self", "name", "value"] 1 ["value", "name"] (fun us ws => us ++ ws.drop 1 ++ ws.take 1) (fun us ws => us ++ ws.drop 1 ++ ws.take 1) :=
  ZX.kbAll (ps := ["self", "name", "value"]) F 1 ["value", "name"] (fun us ws => us ++ ws.drop 1 ++ ws.take 1) (fun r1 r2 => (r1.append (r2.drop 1)).append (r2.take 1)) fun dV kV doc pm an cdv ct us ws h1 h2 hd => by
    rw [hd rfl]
    exact match us, ws, h1, h2 with | [_], [_, _], _, _ => by kernel_rfl
end
theorem raw0 {P : Program} {w : World} {K : PySem.W.Frag} {mg : Str → Option Value} {base : Heap} {CX : CXT} {k : Nat} {f : Addr} {fd : FuncData} {ps : List Str} {sp : Sp} (F : FnOk P w K mg base CX k f fd ps sp) (hb : Binds K fd ps []) : FnR P w K mg base CX k f sp :=
  (F.raw hb .nil).imp fun vs H Q E h => by rw [List.append_nil]; exact h
end Z
set_option maxHeartbeats 2000000
namespace ZX
open PySem PySem.Spec PyProof.Rows L2 He
/-! ### the Hook, what is looked at often standing first -/
end ZX
set_option maxHeartbeats 2000000
namespace ZX
open PySem PySem.Spec PyProof.Rows L2 He
/-! ### the run looked at in parts: what one look makes the kernel hold is let go before the next -/
end ZX
set_option maxHeartbeats 2000000
namespace ZX
open PySem PySem.Spec PyProof.Rows L2 He
/-! ### the Hook, its part of the heap gathered by what the module's names are: no search, nothing looked for twice -/
def frC (s : PySem.W.SharedT) : PySem.W.Frag := frG (HandSHeadRun.getT s) (gathP (HandSHeadRun.getT s))
def obCF (fa : List Fa) (ex : PySem.W.Frag → Bool) (fn : List DefA) (s : PySem.W.SharedT) : Bool := (obsCG fa ex fn (HandSHeadRun.getT s)).1
def obCD (fa : List Fa) (ex : PySem.W.Frag → Bool) (fn : List DefA) (s : PySem.W.SharedT) : List FnC := (obsCG fa ex fn (HandSHeadRun.getT s)).2
theorem runC {r : PySem.W.OpenRow} {q : Program} {M : Nat} {loose : List PySem.Str} {w : World} {fa : List Fa} {ex : PySem.W.Frag → Bool} {fn : List DefA} (h0 : HandSHeadRun.RunEq r q hookU obU M loose w) (h1 : RunLooks r M w (obCF fa ex fn) true) (h2 : RunLooks r M w (obCD fa ex fn) (fn.map DefA.val)) :
    HandSHeadRun.RunEq r q (hookC fa ex fn) (fun s => obsCG fa ex fn (HandSHeadRun.getT s)) M loose w := fun o => look_three (h0 o) (h1 o) (h2 o)
end ZX
set_option maxHeartbeats 0
namespace Z
open PySem PySem.Spec PyProof.Rows L2
theorem facts {P : Program} {w : World} {K : PySem.W.Frag} {h : Heap} {mg : Str → Option Value} {f : Addr} (hfl : ((P.main.file : Str) == flS) = true) (htop : (P.main.scope.names.lookup ("super" : Str)).isSome = false)
    (X : K.In h) (G : h.Ns mainGlobals mg) (hfa : mg ("law" : Str) = some (.ref f)) (c : ZX.SaysA fas exK fns K) :
    ∃ fd : FuncData, (∀ (s : Shared) (v : Value), BindsTo s fd ⟨[v], []⟩ [("script", v)]) ∧ ∀ base : Heap, K.In base → base.Ns mainGlobals mg → FnOk P w K mg base CX0 14 f fd ["script"] (spLawS K) := by
  have x := c.more
  obtain ⟨fd0, F0⟩ := ZX.DefA.funD (c.def_ 0 (d := d_consists_of) rfl).1 (c.def_ 0 (d := d_consists_of) rfl).2 rfl
  obtain ⟨fd1, F1⟩ := ZX.DefA.funD (c.def_ 1 (d := d_is_plain) rfl).1 (c.def_ 1 (d := d_is_plain) rfl).2 rfl
  obtain ⟨fd2, F2⟩ := ZX.DefA.funD (c.def_ 2 (d := d_is_plain_lines) rfl).1 (c.def_ 2 (d := d_is_plain_lines) rfl).2 rfl
  obtain ⟨fd3, F3⟩ := ZX.DefA.funD (c.def_ 3 (d := d_is_path) rfl).1 (c.def_ 3 (d := d_is_path) rfl).2 rfl
  obtain ⟨fd4, F4⟩ := ZX.DefA.funD (c.def_ 4 (d := d_is_word) rfl).1 (c.def_ 4 (d := d_is_word) rfl).2 rfl
  obtain ⟨fd5, F5⟩ := ZX.DefA.funD (c.def_ 5 (d := d_is_field_name) rfl).1 (c.def_ 5 (d := d_is_field_name) rfl).2 rfl
  obtain ⟨fd6, F6⟩ := ZX.DefA.funD (c.def_ 6 (d := d_is_value) rfl).1 (c.def_ 6 (d := d_is_value) rfl).2 rfl
  obtain ⟨fd7, F7⟩ := ZX.DefA.funD (c.def_ 7 (d := d_are_fields) rfl).1 (c.def_ 7 (d := d_are_fields) rfl).2 rfl
  obtain ⟨fd8, F8⟩ := ZX.DefA.funD (c.def_ 8 (d := d_is_body) rfl).1 (c.def_ 8 (d := d_is_body) rfl).2 rfl
  obtain ⟨fd9, F9⟩ := ZX.DefA.funD (c.def_ 9 (d := d_law_bag) rfl).1 (c.def_ 9 (d := d_law_bag) rfl).2 rfl
  obtain ⟨fd10, F10⟩ := ZX.DefA.funD (c.def_ 10 (d := d_law_draw) rfl).1 (c.def_ 10 (d := d_law_draw) rfl).2 rfl
  obtain ⟨fd11, F11⟩ := ZX.DefA.funD (c.def_ 11 (d := d_law_pick) rfl).1 (c.def_ 11 (d := d_law_pick) rfl).2 rfl
  obtain ⟨fd12, F12⟩ := ZX.DefA.funD (c.def_ 12 (d := d_law_most) rfl).1 (c.def_ 12 (d := d_law_most) rfl).2 rfl
  obtain ⟨fd13, F13⟩ := ZX.DefA.funD (c.def_ 13 (d := d_law_word) rfl).1 (c.def_ 13 (d := d_law_word) rfl).2 rfl
  obtain ⟨fd14, F14⟩ := ZX.DefA.funD (c.def_ 14 (d := d_law_letters) rfl).1 (c.def_ 14 (d := d_law_letters) rfl).2 rfl
  obtain ⟨fd15, F15⟩ := ZX.DefA.funD (c.def_ 15 (d := d_law_signs) rfl).1 (c.def_ 15 (d := d_law_signs) rfl).2 rfl
  obtain ⟨fd16, F16⟩ := ZX.DefA.funD (c.def_ 16 (d := d_law_all_in) rfl).1 (c.def_ 16 (d := d_law_all_in) rfl).2 rfl
  obtain ⟨fd17, F17⟩ := ZX.DefA.funD (c.def_ 17 (d := d_law_is_path) rfl).1 (c.def_ 17 (d := d_law_is_path) rfl).2 rfl
  obtain ⟨fd18, F18⟩ := ZX.DefA.funD (c.def_ 18 (d := d_law_is_name) rfl).1 (c.def_ 18 (d := d_law_is_name) rfl).2 rfl
  obtain ⟨fd19, F19⟩ := ZX.DefA.funD (c.def_ 19 (d := d_law_is_value) rfl).1 (c.def_ 19 (d := d_law_is_value) rfl).2 rfl
  obtain ⟨fd20, F20⟩ := ZX.DefA.funD (c.def_ 20 (d := d_law_statuses) rfl).1 (c.def_ 20 (d := d_law_statuses) rfl).2 rfl
  obtain ⟨fd21, F21⟩ := ZX.DefA.funD (c.def_ 21 (d := d_law_methods) rfl).1 (c.def_ 21 (d := d_law_methods) rfl).2 rfl
  obtain ⟨fd22, F22⟩ := ZX.DefA.funD (c.def_ 22 (d := d_law_may) rfl).1 (c.def_ 22 (d := d_law_may) rfl).2 rfl
  obtain ⟨fd23, F23⟩ := ZX.DefA.funD (c.def_ 23 (d := d_law_due) rfl).1 (c.def_ 23 (d := d_law_due) rfl).2 rfl
  obtain ⟨fd24, F24⟩ := ZX.DefA.funD (c.def_ 24 (d := d_law_name) rfl).1 (c.def_ 24 (d := d_law_name) rfl).2 rfl
  obtain ⟨fd25, F25⟩ := ZX.DefA.funD (c.def_ 25 (d := d_law_value) rfl).1 (c.def_ 25 (d := d_law_value) rfl).2 rfl
  obtain ⟨fd26, F26⟩ := ZX.DefA.funD (c.def_ 26 (d := d_law_odd_field) rfl).1 (c.def_ 26 (d := d_law_odd_field) rfl).2 rfl
  obtain ⟨fd27, F27⟩ := ZX.DefA.funD (c.def_ 27 (d := d_law_fields) rfl).1 (c.def_ 27 (d := d_law_fields) rfl).2 rfl
  obtain ⟨fd28, F28⟩ := ZX.DefA.funD (c.def_ 28 (d := d_law_world) rfl).1 (c.def_ 28 (d := d_law_world) rfl).2 rfl
  obtain ⟨fd29, F29⟩ := ZX.DefA.funD (c.def_ 29 (d := d_law_request) rfl).1 (c.def_ 29 (d := d_law_request) rfl).2 rfl
  obtain ⟨fd30, F30⟩ := ZX.DefA.funD (c.def_ 30 (d := d_law_response) rfl).1 (c.def_ 30 (d := d_law_response) rfl).2 rfl
  obtain ⟨fd31, F31⟩ := ZX.DefA.funD (c.def_ 31 (d := d_law_make) rfl).1 (c.def_ 31 (d := d_law_make) rfl).2 rfl
  obtain ⟨fd32, F32⟩ := ZX.DefA.funD (c.def_ 32 (d := d_law_start) rfl).1 (c.def_ 32 (d := d_law_start) rfl).2 rfl
  obtain ⟨fd33, F33⟩ := ZX.DefA.funD (c.def_ 33 (d := d_law_same) rfl).1 (c.def_ 33 (d := d_law_same) rfl).2 rfl
  obtain ⟨fd34, F34⟩ := ZX.DefA.funD (c.def_ 34 (d := d_law_values_right) rfl).1 (c.def_ 34 (d := d_law_values_right) rfl).2 rfl
  obtain ⟨fd35, F35⟩ := ZX.DefA.funD (c.def_ 35 (d := d_law_with_right) rfl).1 (c.def_ 35 (d := d_law_with_right) rfl).2 rfl
  obtain ⟨fd36, F36⟩ := ZX.DefA.funD (c.def_ 36 (d := d_law_without_right) rfl).1 (c.def_ 36 (d := d_law_without_right) rfl).2 rfl
  obtain ⟨fd37, F37⟩ := ZX.DefA.funD (c.def_ 37 (d := d_law_near) rfl).1 (c.def_ 37 (d := d_law_near) rfl).2 rfl
  obtain ⟨fd38, F38⟩ := ZX.DefA.funD (c.def_ 38 (d := d_law_equal_right) rfl).1 (c.def_ 38 (d := d_law_equal_right) rfl).2 rfl
  obtain ⟨fd39, F39⟩ := ZX.DefA.funD (c.def_ 39 (d := d_law_fetch_right) rfl).1 (c.def_ 39 (d := d_law_fetch_right) rfl).2 rfl
  obtain ⟨fd40, F40⟩ := ZX.DefA.funD (c.def_ 40 (d := d_law_made_right) rfl).1 (c.def_ 40 (d := d_law_made_right) rfl).2 rfl
  obtain ⟨fd41, F41⟩ := ZX.DefA.funD (c.def_ 41 (d := d_law_right) rfl).1 (c.def_ 41 (d := d_law_right) rfl).2 rfl
  obtain ⟨fd42, F42⟩ := ZX.DefA.funD (c.def_ 42 (d := d_law) rfl).1 (c.def_ 42 (d := d_law) rfl).2 rfl
  obtain ⟨fd_Mi, F_Mi⟩ := ZX.DefA.funD (c.def_ 44 (d := d_Mi) rfl).1 (c.def_ 44 (d := d_Mi) rfl).2 rfl
  obtain ⟨fd_Rq, F_Rq⟩ := ZX.DefA.funD (c.def_ 45 (d := d_Rq) rfl).1 (c.def_ 45 (d := d_Rq) rfl).2 rfl
  obtain ⟨fd_Rs, F_Rs⟩ := ZX.DefA.funD (c.def_ 46 (d := d_Rs) rfl).1 (c.def_ 46 (d := d_Rs) rfl).2 rfl
  obtain ⟨fd_Qav, F_Qav⟩ := ZX.DefA.funD (c.def_ 47 (d := d_Qav) rfl).1 (c.def_ 47 (d := d_Qav) rfl).2 rfl
  obtain ⟨fd_Qva, F_Qva⟩ := ZX.DefA.funD (c.def_ 48 (d := d_Qva) rfl).1 (c.def_ 48 (d := d_Qva) rfl).2 rfl
  obtain ⟨fd_Qjn, F_Qjn⟩ := ZX.DefA.funD (c.def_ 49 (d := d_Qjn) rfl).1 (c.def_ 49 (d := d_Qjn) rfl).2 rfl
  obtain ⟨fd_Qwf, F_Qwf⟩ := ZX.DefA.funD (c.def_ 50 (d := d_Qwf) rfl).1 (c.def_ 50 (d := d_Qwf) rfl).2 rfl
  obtain ⟨fd_Qwo, F_Qwo⟩ := ZX.DefA.funD (c.def_ 51 (d := d_Qwo) rfl).1 (c.def_ 51 (d := d_Qwo) rfl).2 rfl
  obtain ⟨fd_Qps, F_Qps⟩ := ZX.DefA.funD (c.def_ 52 (d := d_Qps) rfl).1 (c.def_ 52 (d := d_Qps) rfl).2 rfl
  obtain ⟨fd_Qpm, F_Qpm⟩ := ZX.DefA.funD (c.def_ 53 (d := d_Qpm) rfl).1 (c.def_ 53 (d := d_Qpm) rfl).2 rfl
  obtain ⟨fd_Qst, F_Qst⟩ := ZX.DefA.funD (c.def_ 54 (d := d_Qst) rfl).1 (c.def_ 54 (d := d_Qst) rfl).2 rfl
  obtain ⟨fd_Qrm, F_Qrm⟩ := ZX.DefA.funD (c.def_ 55 (d := d_Qrm) rfl).1 (c.def_ 55 (d := d_Qrm) rfl).2 rfl
  obtain ⟨fd_Sav, F_Sav⟩ := ZX.DefA.funD (c.def_ 56 (d := d_Sav) rfl).1 (c.def_ 56 (d := d_Sav) rfl).2 rfl
  obtain ⟨fd_Sva, F_Sva⟩ := ZX.DefA.funD (c.def_ 57 (d := d_Sva) rfl).1 (c.def_ 57 (d := d_Sva) rfl).2 rfl
  obtain ⟨fd_Sjn, F_Sjn⟩ := ZX.DefA.funD (c.def_ 58 (d := d_Sjn) rfl).1 (c.def_ 58 (d := d_Sjn) rfl).2 rfl
  obtain ⟨fd_Swf, F_Swf⟩ := ZX.DefA.funD (c.def_ 59 (d := d_Swf) rfl).1 (c.def_ 59 (d := d_Swf) rfl).2 rfl
  obtain ⟨fd_Swo, F_Swo⟩ := ZX.DefA.funD (c.def_ 60 (d := d_Swo) rfl).1 (c.def_ 60 (d := d_Swo) rfl).2 rfl
  obtain ⟨fd_Sps, F_Sps⟩ := ZX.DefA.funD (c.def_ 61 (d := d_Sps) rfl).1 (c.def_ 61 (d := d_Sps) rfl).2 rfl
  obtain ⟨fd_Spm, F_Spm⟩ := ZX.DefA.funD (c.def_ 62 (d := d_Spm) rfl).1 (c.def_ 62 (d := d_Spm) rfl).2 rfl
  obtain ⟨fd_Sst, F_Sst⟩ := ZX.DefA.funD (c.def_ 63 (d := d_Sst) rfl).1 (c.def_ 63 (d := d_Sst) rfl).2 rfl
  obtain ⟨fd_Srm, F_Srm⟩ := ZX.DefA.funD (c.def_ 64 (d := d_Srm) rfl).1 (c.def_ 64 (d := d_Srm) rfl).2 rfl
  obtain ⟨fd_Eq, F_Eq⟩ := ZX.DefA.funD (c.def_ 65 (d := d_Eq) rfl).1 (c.def_ 65 (d := d_Eq) rfl).2 rfl
  obtain ⟨fd_Fe, F_Fe⟩ := ZX.DefA.funD (c.def_ 66 (d := d_Fe) rfl).1 (c.def_ 66 (d := d_Fe) rfl).2 rfl
  have g0 := He.glo_ok X G (c.fact 0 (f := .glo "consists_of") rfl)
  have g1 := He.glo_ok X G (c.fact 1 (f := .glo "is_plain") rfl)
  have g2 := He.glo_ok X G (c.fact 2 (f := .glo "is_plain_lines") rfl)
  have g3 := He.glo_ok X G (c.fact 3 (f := .glo "is_path") rfl)
  have g4 := He.glo_ok X G (c.fact 4 (f := .glo "is_word") rfl)
  have g5 := He.glo_ok X G (c.fact 5 (f := .glo "is_field_name") rfl)
  have g6 := He.glo_ok X G (c.fact 6 (f := .glo "is_value") rfl)
  have g7 := He.glo_ok X G (c.fact 7 (f := .glo "are_fields") rfl)
  have g8 := He.glo_ok X G (c.fact 8 (f := .glo "is_body") rfl)
  have g9 := He.glo_ok X G (c.fact 9 (f := .glo "_law_bag") rfl)
  have g10 := He.glo_ok X G (c.fact 10 (f := .glo "_law_draw") rfl)
  have g11 := He.glo_ok X G (c.fact 11 (f := .glo "_law_pick") rfl)
  have g12 := He.glo_ok X G (c.fact 12 (f := .glo "_law_most") rfl)
  have g13 := He.glo_ok X G (c.fact 13 (f := .glo "_law_word") rfl)
  have g14 := He.glo_ok X G (c.fact 14 (f := .glo "_law_letters") rfl)
  have g15 := He.glo_ok X G (c.fact 15 (f := .glo "_law_signs") rfl)
  have g16 := He.glo_ok X G (c.fact 16 (f := .glo "_law_all_in") rfl)
  have g17 := He.glo_ok X G (c.fact 17 (f := .glo "_law_is_path") rfl)
  have g18 := He.glo_ok X G (c.fact 18 (f := .glo "_law_is_name") rfl)
  have g19 := He.glo_ok X G (c.fact 19 (f := .glo "_law_is_value") rfl)
  have g20 := He.glo_ok X G (c.fact 20 (f := .glo "_law_statuses") rfl)
  have g21 := He.glo_ok X G (c.fact 21 (f := .glo "_law_methods") rfl)
  have g22 := He.glo_ok X G (c.fact 22 (f := .glo "_law_may") rfl)
  have g23 := He.glo_ok X G (c.fact 23 (f := .glo "_law_due") rfl)
  have g24 := He.glo_ok X G (c.fact 24 (f := .glo "_law_name") rfl)
  have g25 := He.glo_ok X G (c.fact 25 (f := .glo "_law_value") rfl)
  have g26 := He.glo_ok X G (c.fact 26 (f := .glo "_law_odd_field") rfl)
  have g27 := He.glo_ok X G (c.fact 27 (f := .glo "_law_fields") rfl)
  have g28 := He.glo_ok X G (c.fact 28 (f := .glo "_law_world") rfl)
  have g29 := He.glo_ok X G (c.fact 29 (f := .glo "_law_request") rfl)
  have g30 := He.glo_ok X G (c.fact 30 (f := .glo "_law_response") rfl)
  have g31 := He.glo_ok X G (c.fact 31 (f := .glo "_law_make") rfl)
  have g32 := He.glo_ok X G (c.fact 32 (f := .glo "_law_start") rfl)
  have g33 := He.glo_ok X G (c.fact 33 (f := .glo "_law_same") rfl)
  have g34 := He.glo_ok X G (c.fact 34 (f := .glo "_law_values_right") rfl)
  have g35 := He.glo_ok X G (c.fact 35 (f := .glo "_law_with_right") rfl)
  have g36 := He.glo_ok X G (c.fact 36 (f := .glo "_law_without_right") rfl)
  have g37 := He.glo_ok X G (c.fact 37 (f := .glo "_law_near") rfl)
  have g38 := He.glo_ok X G (c.fact 38 (f := .glo "_law_equal_right") rfl)
  have g39 := He.glo_ok X G (c.fact 39 (f := .glo "_law_fetch_right") rfl)
  have g40 := He.glo_ok X G (c.fact 40 (f := .glo "_law_made_right") rfl)
  have g41 := He.glo_ok X G (c.fact 41 (f := .glo "_law_right") rfl)
  have g42 := He.glo_ok X G (c.fact 42 (f := .glo "law") rfl)
  have g43 := He.glo_ok X G (c.fact 43 (f := .glo "Message") rfl)
  have g44 := He.glo_ok X G (c.fact 44 (f := .glo "Request") rfl)
  have g45 := He.glo_ok X G (c.fact 45 (f := .glo "Response") rfl)
  have g46 := He.glo_ok X G (c.fact 46 (f := .glo "InvalidValue") rfl)
  have g47 := He.glo_ok X G (c.fact 47 (f := .glo "HopError") rfl)
  have g48 := He.glo_ok X G (c.fact 48 (f := .glo "InvalidMessage") rfl)
  have g49 := He.glo_ok X G (c.fact 49 (f := .glo "InvalidFraming") rfl)
  have g50 := He.glo_ok X G (c.fact 50 (f := .glo "ReaderClosed") rfl)
  have T : Mg mg := ⟨He.free_ok X G (c.fact 51 (f := .free "len") rfl),
    He.free_ok X G (c.fact 52 (f := .free "all") rfl),
    He.free_ok X G (c.fact 53 (f := .free "any") rfl),
    He.free_ok X G (c.fact 54 (f := .free "abs") rfl),
    He.free_ok X G (c.fact 55 (f := .free "sum") rfl),
    He.free_ok X G (c.fact 56 (f := .free "isinstance") rfl),
    He.free_ok X G (c.fact 57 (f := .free "range") rfl),
    He.free_ok X G (c.fact 58 (f := .free "int") rfl),
    He.free_ok X G (c.fact 59 (f := .free "bool") rfl),
    He.free_ok X G (c.fact 60 (f := .free "str") rfl),
    He.free_ok X G (c.fact 61 (f := .free "min") rfl),
    He.free_ok X G (c.fact 62 (f := .free "max") rfl),
    He.free_ok X G (c.fact 63 (f := .free "list") rfl),
    He.free_ok X G (c.fact 64 (f := .free "tuple") rfl),
    (by obtain ⟨t, e⟩ := He.str_ok X G (c.fact 67 (f := .str "LOWER" "abcdefghijklmnopqrstuvwxyz") rfl); exact ⟨_, e, t, rfl⟩),
    (by obtain ⟨t, e⟩ := He.str_ok X G (c.fact 68 (f := .str "WORD_SIGNS" "abcdefghijklmnopqrstuvwxyz0123456789-") rfl); exact ⟨_, e, t, rfl⟩),
    (by obtain ⟨t, e⟩ := He.str_ok X G (c.fact 69 (f := .str "PATH_SIGNS" "abcdefghijklmnopqrstuvwxyz0123456789/-.") rfl); exact ⟨_, e, t, rfl⟩),
    (by obtain ⟨t, e⟩ := He.int_ok X G (c.fact 70 (f := .int "MOST_PATH" 60) rfl); exact ⟨_, e, t, rfl⟩),
    (by obtain ⟨t, e⟩ := He.int_ok X G (c.fact 71 (f := .int "MOST_NAME" 30) rfl); exact ⟨_, e, t, rfl⟩),
    (by obtain ⟨t, e⟩ := He.int_ok X G (c.fact 72 (f := .int "MOST_VALUE" 200) rfl); exact ⟨_, e, t, rfl⟩),
    He.free_ok X G (c.fact 65 (f := .free "ValueError") rfl)⟩
  have WB : Wb K mg (He.ga K "Message") := ⟨g43, ZX.read_ok (exK_at x 1), ZX.cint_ok (exK_at x 2), ZX.cint_ok (exK_at x 3)⟩
  have WS : Ws K mg (He.ga K "Response") := ⟨g45, He.cls_ok (c.fact 87 (f := .cls "Response") rfl), He.noat_ok (c.fact 89 (f := .noat "Response" "_first_line") rfl), He.noat_ok (c.fact 90 (f := .noat "Response" "_has_body") rfl), He.noat_ok (c.fact 91 (f := .noat "Response" "fields") rfl), He.noat_ok (c.fact 92 (f := .noat "Response" "body") rfl), He.noat_ok (c.fact 93 (f := .noat "Response" "status") rfl), ZX.read_ok (exK_at x 4), ⟨_, ZX.ctup_ok (exK_at x 5)⟩⟩
  have WQ : Wq K mg (He.ga K "Request") := ⟨g44, ⟨He.cls_ok (c.fact 73 (f := .cls "Request") rfl), He.noat_ok (c.fact 75 (f := .noat "Request" "_first_line") rfl), He.noat_ok (c.fact 76 (f := .noat "Request" "_has_body") rfl), He.noat_ok (c.fact 77 (f := .noat "Request" "fields") rfl), He.noat_ok (c.fact 78 (f := .noat "Request" "body") rfl)⟩, He.noat_ok (c.fact 79 (f := .noat "Request" "method") rfl), He.noat_ok (c.fact 80 (f := .noat "Request" "path") rfl), ZX.read_ok (exK_at x 6), ⟨_, ZX.ctup_ok (exK_at x 7)⟩⟩
  have WO : Wo K mg (He.ga K "Message") (He.ga K "Request") (He.ga K "Response") := ⟨g43, WQ, WS, ZX.insC_ok (exK_at x 15), ZX.insC_ok (exK_at x 16), of_decide_eq_true (exK_at x 17), of_decide_eq_true (exK_at x 18), of_decide_eq_true (exK_at x 19), of_decide_eq_true (exK_at x 20), of_decide_eq_true (exK_at x 21), of_decide_eq_true (exK_at x 22)⟩
  have WV : We K mg (He.ga K "InvalidValue") (He.ga K "HopError") := ⟨g46, g47, ZX.excC_ok (exK_at x 35), xfB_ok (exK_at x 36), He.eqO_ok (exK_at x 37), of_decide_eq_true (exK_at x 38), of_decide_eq_true (exK_at x 39), He.exm_ok (c.fact 100 (f := .exm "InvalidValue" "InvalidValue" true) rfl)⟩
  have WX : Wx K mg (He.ga K "InvalidValue") (He.ga K "HopError") (He.ga K "InvalidMessage") (He.ga K "InvalidFraming") (He.ga K "ReaderClosed") := ⟨g46, g47, g48, g49, g50, ZX.excC_ok (exK_at x 35), xfB_ok (exK_at x 36), He.eqO_ok (exK_at x 37), of_decide_eq_true (exK_at x 38), of_decide_eq_true (exK_at x 39), of_decide_eq_true (exK_at x 40), of_decide_eq_true (exK_at x 41), of_decide_eq_true (exK_at x 42), He.exm_ok (c.fact 100 (f := .exm "InvalidValue" "InvalidValue" true) rfl)⟩
  obtain ⟨fd_iv, E_iv⟩ := ZX.err_ok (P := P) (x := "InvalidValue") (exK_at x 34) hfl htop (He.eqO_ok (c.fact 66 (f := .free "super") rfl)) (He.eqO_ok (exK_at x 43)) rfl (c.def_ 43 (d := d_iv) rfl).1 (c.def_ 43 (d := d_iv) rfl).2 rfl
  have b_iv := err_binds (ps := ["self", "name"]) E_iv rfl (c.def_ 43 (d := d_iv) rfl).1 (c.def_ 43 (d := d_iv) rfl).2 rfl fun _ _ _ _ _ _ _ us hl => match us, hl with | [_, _], _ => rfl
  have e := hfa.symm.trans g42
  cases e
  refine ⟨fd42, fun s v => (FunD.bindsA (ps := ["script"]) F42 fun _ _ _ _ _ _ us hl => match us, hl with | [_], _ => rfl) s [v] rfl, fun base _ _ => ?_⟩
  have c_consists_of := ok_consists_of (P := P) (w := w) (base := base) T  F0 g0
  have c_is_plain := ok_is_plain (P := P) (w := w) (base := base) T  F1 g1
  have c_is_plain_lines := ok_is_plain_lines (P := P) (w := w) (base := base) T c_is_plain F2 g2
  have c_is_body := ok_is_body (P := P) (w := w) (base := base) T WB c_is_plain_lines F8 g8
  have c_is_path := ok_is_path (P := P) (w := w) (base := base) T c_consists_of F3 g3
  have c_is_word := ok_is_word (P := P) (w := w) (base := base) T c_consists_of F4 g4
  have c_is_field_name := ok_is_field_name (P := P) (w := w) (base := base) T c_is_word F5 g5
  have c_is_value := ok_is_value (P := P) (w := w) (base := base) T c_is_plain F6 g6
  have c_are_fields := ok_are_fields (P := P) (w := w) (base := base) T WB c_is_field_name c_is_value F7 g7
  have EV : Ef P w K mg base (He.ga K "InvalidValue") ["self", "name"] "name" := ⟨_, fd_iv, E_iv.sup.oex, E_iv.init, E_iv.ty, ok_iv E_iv.sup WV.nV, b_iv⟩
  have MBQ : Mb P w K mg base (He.ga K "Message") (He.ga K "Request") (He.ga K "InvalidValue") := ⟨_, fd_Mi, ZX.cfn_ok (exK_at x 0), ok_Mi T WQ.wm WV EV c_are_fields c_is_body F_Mi, (FunD.bindsN (ps := ["self", "first_line", "has_body", "fields", "body"]) F_Mi fun _ _ _ _ _ _ us hl => match us, hl with | [_, _, _, _, _], _ => rfl)⟩
  obtain ⟨KAQ, K1Q, KXQ⟩ := mka_q (He.mkr_ok (c.fact 74 (f := .mkr "Request") rfl)) F_Rq (ZX.etup_ok (exK_at x 13)) (ok_Ri T WB WQ WV EV MBQ c_is_path F_Rq)
  have RMQ : Rmx P w K mg base (He.ga K "Request") (He.ga K "InvalidValue") true := ⟨_, fd_Qav, _, fd_Qrm, He.meth_ok (c.fact 81 (f := .meth "Request" "all_values") rfl), ok_Mv WQ.wm F_Qav, (FunD.bindsN (ps := ["self", "name"]) F_Qav fun _ _ _ _ _ _ us hl => match us, hl with | [_, _], _ => rfl), He.meth_ok (c.fact 86 (f := .meth "Request" "remade") rfl), ok_Rr WQ KXQ F_Qrm, (FunD.bindsN (ps := ["self", "fields", "body"]) F_Qrm fun _ _ _ _ _ _ us hl => match us, hl with | [_, _, _], _ => rfl)⟩
  have MTQ : Mtd P w K mg base (He.ga K "Request") (He.ga K "InvalidValue") true := ⟨⟨⟨_, _, fd_Qps, ZX.prop_ok (exK_at x 8), ok_Ps WQ.wm F_Qps, (FunD.bindsN (ps := ["self"]) F_Qps fun _ _ _ _ _ _ us hl => match us, hl with | [_], _ => rfl)⟩⟩, ⟨⟨_, _, fd_Qpm, ZX.prop_ok (exK_at x 10), ok_Pm WQ.wm F_Qpm, (FunD.bindsN (ps := ["self"]) F_Qpm fun _ _ _ _ _ _ us hl => match us, hl with | [_], _ => rfl)⟩⟩, ⟨_, He.eqO_ok (exK_at x 23), (exK_at x 24), raw0 (ok_Mt T WQ.wm F_Qst) (FunD.bindsN (ps := ["self"]) F_Qst fun _ _ _ _ _ _ us hl => match us, hl with | [_], _ => rfl)⟩, ⟨_, fd_Qav, He.meth_ok (c.fact 81 (f := .meth "Request" "all_values") rfl), ok_Mv WQ.wm F_Qav, (FunD.bindsN (ps := ["self", "name"]) F_Qav fun _ _ _ _ _ _ us hl => match us, hl with | [_, _], _ => rfl)⟩, ⟨_, fd_Qva, _, He.meth_ok (c.fact 82 (f := .meth "Request" "value") rfl), ok_Mu WQ.wm F_Qva, (FunD.bindsN (ps := ["self", "name"]) F_Qva fun _ _ _ _ _ _ us hl => match us, hl with | [_, _], _ => rfl), kb_val F_Qva⟩,
    ⟨_, fd_Qjn, _, He.meth_ok (c.fact 83 (f := .meth "Request" "joined") rfl), ok_Mj T WQ.wm RMQ F_Qjn, (FunD.bindsN (ps := ["self", "name"]) F_Qjn fun _ _ _ _ _ _ us hl => match us, hl with | [_, _], _ => rfl), kb_join F_Qjn⟩, ⟨_, fd_Qwf, _, He.meth_ok (c.fact 84 (f := .meth "Request" "with_field") rfl), ok_Mw WQ.wm RMQ F_Qwf, kb_with F_Qwf⟩, ⟨_, He.meth_ok (c.fact 85 (f := .meth "Request" "without") rfl), ok_Mo WQ.wm RMQ F_Qwo⟩⟩
  have MBS : Mb P w K mg base (He.ga K "Message") (He.ga K "Response") (He.ga K "InvalidValue") := ⟨_, fd_Mi, ZX.cfn_ok (exK_at x 0), ok_Mi T WS.wm WV EV c_are_fields c_is_body F_Mi, (FunD.bindsN (ps := ["self", "first_line", "has_body", "fields", "body"]) F_Mi fun _ _ _ _ _ _ us hl => match us, hl with | [_, _, _, _, _], _ => rfl)⟩
  obtain ⟨KAS, K1S, KXS⟩ := mka_s (He.mkr_ok (c.fact 88 (f := .mkr "Response") rfl)) F_Rs (ZX.etup_ok (exK_at x 14)) (ok_Rs T WB WS WV EV MBS F_Rs)
  have RMS : Rmx P w K mg base (He.ga K "Response") (He.ga K "InvalidValue") false := ⟨_, fd_Sav, _, fd_Srm, He.meth_ok (c.fact 94 (f := .meth "Response" "all_values") rfl), ok_Mv WS.wm F_Sav, (FunD.bindsN (ps := ["self", "name"]) F_Sav fun _ _ _ _ _ _ us hl => match us, hl with | [_, _], _ => rfl), He.meth_ok (c.fact 99 (f := .meth "Response" "remade") rfl), ok_Sr WS KXS F_Srm, (FunD.bindsN (ps := ["self", "fields", "body"]) F_Srm fun _ _ _ _ _ _ us hl => match us, hl with | [_, _, _], _ => rfl)⟩
  have MTS : Mtd P w K mg base (He.ga K "Response") (He.ga K "InvalidValue") false := ⟨⟨⟨_, _, fd_Sps, ZX.prop_ok (exK_at x 9), ok_Ps WS.wm F_Sps, (FunD.bindsN (ps := ["self"]) F_Sps fun _ _ _ _ _ _ us hl => match us, hl with | [_], _ => rfl)⟩⟩, ⟨⟨_, _, fd_Spm, ZX.prop_ok (exK_at x 11), ok_Pm WS.wm F_Spm, (FunD.bindsN (ps := ["self"]) F_Spm fun _ _ _ _ _ _ us hl => match us, hl with | [_], _ => rfl)⟩⟩, ⟨_, He.eqO_ok (exK_at x 26), (exK_at x 27), raw0 (ok_Mt T WS.wm F_Sst) (FunD.bindsN (ps := ["self"]) F_Sst fun _ _ _ _ _ _ us hl => match us, hl with | [_], _ => rfl)⟩, ⟨_, fd_Sav, He.meth_ok (c.fact 94 (f := .meth "Response" "all_values") rfl), ok_Mv WS.wm F_Sav, (FunD.bindsN (ps := ["self", "name"]) F_Sav fun _ _ _ _ _ _ us hl => match us, hl with | [_, _], _ => rfl)⟩, ⟨_, fd_Sva, _, He.meth_ok (c.fact 95 (f := .meth "Response" "value") rfl), ok_Mu WS.wm F_Sva, (FunD.bindsN (ps := ["self", "name"]) F_Sva fun _ _ _ _ _ _ us hl => match us, hl with | [_, _], _ => rfl), kb_val F_Sva⟩,
    ⟨_, fd_Sjn, _, He.meth_ok (c.fact 96 (f := .meth "Response" "joined") rfl), ok_Mj T WS.wm RMS F_Sjn, (FunD.bindsN (ps := ["self", "name"]) F_Sjn fun _ _ _ _ _ _ us hl => match us, hl with | [_, _], _ => rfl), kb_join F_Sjn⟩, ⟨_, fd_Swf, _, He.meth_ok (c.fact 97 (f := .meth "Response" "with_field") rfl), ok_Mw WS.wm RMS F_Swf, kb_with F_Swf⟩, ⟨_, He.meth_ok (c.fact 98 (f := .meth "Response" "without") rfl), ok_Mo WS.wm RMS F_Swo⟩⟩
  have FE := raw0 (ok_Me (P := P) (w := w) (base := base) T WO F_Eq) (FunD.bindsN (ps := ["self", "other"]) F_Eq fun _ _ _ _ _ _ us hl => match us, hl with | [_, _], _ => rfl)
  have FF := ok_Fe (P := P) (w := w) (base := base) K1Q F_Fe
  have hse : ∀ q, PySem.W.findIn K (.ref (clB (He.ga K "Request") (He.ga K "Response") q)) "__eq__" = some (some (.ref (He.ma K (He.ga K "Request") "__eq__"))) := fun q => match q with | false => He.eqO_ok (exK_at x 28) | true => He.eqO_ok (exK_at x 25)
  have nf : ∀ q r, PySem.W.notFirst K (clB (He.ga K "Request") (He.ga K "Response") q) (.ref (clB (He.ga K "Request") (He.ga K "Response") r)) = true := fun q r => match q, r with | false, false => (exK_at x 33) | false, true => (exK_at x 32) | true, false => (exK_at x 31) | true, true => (exK_at x 30)
  have c_law_letters := ok_law_letters (P := P) (w := w) (base := base) T  F14 g14
  have c_law_signs := ok_law_signs (P := P) (w := w) (base := base) T  F15 g15
  have c_law_bag := ok_law_bag (P := P) (w := w) (base := base) T  F9 g9
  have c_law_draw := ok_law_draw (P := P) (w := w) (base := base) T  F10 g10
  have c_law_pick := ok_law_pick (P := P) (w := w) (base := base) T c_law_draw F11 g11
  have c_law_most := ok_law_most (P := P) (w := w) (base := base) T c_law_draw F12 g12
  have c_law_word := ok_law_word (P := P) (w := w) (base := base) T c_law_draw F13 g13
  have c_law_all_in := ok_law_all_in (P := P) (w := w) (base := base) T  F16 g16
  have c_law_is_path := ok_law_is_path (P := P) (w := w) (base := base) T c_law_letters c_law_all_in F17 g17
  have c_law_is_name := ok_law_is_name (P := P) (w := w) (base := base) T c_law_letters c_law_all_in F18 g18
  have c_law_is_value := ok_law_is_value (P := P) (w := w) (base := base) T c_law_signs c_law_all_in F19 g19
  have c_law_statuses := ok_law_statuses (P := P) (w := w) (base := base) T  F20 g20
  have c_law_methods := ok_law_methods (P := P) (w := w) (base := base) T  F21 g21
  have c_law_may := ok_law_may (P := P) (w := w) (base := base) T  F22 g22
  have c_law_start := ok_law_start (P := P) (w := w) (base := base) T  F32 g32
  have c_law_due := ok_law_due (P := P) (w := w) (base := base) T c_law_methods c_law_statuses c_law_is_path c_law_is_name c_law_is_value c_law_may c_law_all_in c_law_signs F23 g23
  have c_law_name := ok_law_name (P := P) (w := w) (base := base) T c_law_most c_law_word c_law_letters F24 g24
  have c_law_value := ok_law_value (P := P) (w := w) (base := base) T c_law_most c_law_word c_law_signs F25 g25
  have c_law_odd_field := ok_law_odd_field (P := P) (w := w) (base := base) T c_law_draw c_law_pick F26 g26
  have c_law_fields := ok_law_fields (P := P) (w := w) (base := base) T c_law_draw c_law_pick c_law_value c_law_odd_field F27 g27
  have c_law_world := ok_law_world (P := P) (w := w) (base := base) T c_law_draw c_law_pick c_law_most c_law_word c_law_letters c_law_signs c_law_statuses c_law_may c_law_fields F28 g28
  have CQ : CLq P w K mg base "_law_request" (He.ga K "Request") (He.ga K "InvalidValue") true := ⟨_, fd29, ok_law_request T WO KAQ F29, g29, F29.kp, (FunD.bindsN (ps := ["way", "world", "given"]) F29 fun _ _ _ _ _ _ us hl => match us, hl with | [_, _, _], _ => rfl)⟩
  have CS : CLq P w K mg base "_law_response" (He.ga K "Response") (He.ga K "InvalidValue") false := ⟨_, fd30, ok_law_response T WO KAS F30, g30, F30.kp, (FunD.bindsN (ps := ["way", "world", "given"]) F30 fun _ _ _ _ _ _ us hl => match us, hl with | [_, _, _], _ => rfl)⟩
  have c_law_make := ok_law_make (P := P) (w := w) (base := base) T WO WX CQ CS F31 g31
  have c_law_same := ok_law_same (P := P) (w := w) (base := base) T WO MTQ MTS c_law_start c_law_may F33 g33
  have c_law_values_right := ok_law_values_right (P := P) (w := w) (base := base) T WO MTQ MTS F34 g34
  have c_law_with_right := ok_law_with_right (P := P) (w := w) (base := base) T WO WX MTQ MTS c_law_is_name c_law_is_value c_law_same F35 g35
  have c_law_without_right := ok_law_without_right (P := P) (w := w) (base := base) T WO MTQ MTS c_law_same F36 g36
  have c_law_near := ok_law_near (P := P) (w := w) (base := base) T c_law_draw c_law_pick c_law_statuses c_law_may F37 g37
  have c_law_equal_right := ok_law_equal_right (P := P) (w := w) (base := base) T WO K1Q K1S hse (exK_at x 29) nf FE c_law_near c_law_make F38 g38
  have c_law_fetch_right := ok_law_fetch_right (P := P) (w := w) (base := base) T WO WQ.rd (ZX.cmet_ok (exK_at x 12)) FF c_law_same F39 g39
  have c_law_made_right := ok_law_made_right (P := P) (w := w) (base := base) T c_law_pick c_law_name c_law_value c_law_odd_field c_law_same c_law_values_right c_law_with_right c_law_without_right c_law_equal_right c_law_fetch_right F40 g40
  have c_law_right := ok_law_right (P := P) (w := w) (base := base) T c_law_draw c_law_name c_law_world c_law_due c_law_make c_law_made_right F41 g41
  exact ok_lawR T WB WQ WS c_law_statuses c_law_bag c_law_right F42
end Z
open PySem PySem.W PySem.Calls PyProof.Rows
set_option maxRecDepth 100000 in
set_option maxHeartbeats 0 in
theorem PySem.Challenge.cw_hopkeep_k01_messages_made_holds : PySem.Challenge.rw_hopkeep_k01_messages_made.Holds := by
  w_on; o_law
  refine HandSHeadRun.head_any (r := Z.R) (q := view Z.R.prog [60]) (H := Z.hk) (ob := Z.ob) (M := 16000) (loose := Z.others) (d := HandSHeadRun.topDef Z.R.prog 60) (kwd := []) Z.ob_eq (by kernel_rfl) (fun s => by kernel_rfl) Z.run
    (by kernel_rfl) (by kernel_rfl) (by kernel_rfl) (by rfl) (by first | assumption | decide +kernel) (by decide +kernel) ⟨rfl, rfl, rfl, rfl, rfl, by decide +kernel⟩ ?hw ?hc
  case hw => w_witness2
  case hc =>
    refine LamX.walk_ofTsE (l := PySem.Challenge.rw_hopkeep_k01_messages_made) (n := 63) (k := 14) (x := "script") (CX := fun _ => L2.CX0) rfl (by decide) (by kernel_rfl) ⟨rfl, by decide, by decide⟩ ?F (fun _ _ _ _ _ z => z)
    intro w mg fa h Y G hmg0
    obtain ⟨K, KX, c⟩ := Y
    have hmg : mg ("law" : PySem.Str) = some (.ref fa) := by
      have e : (HandSHeadRun.topDef Z.R.prog 60).name = ("law" : PySem.Str) := by kernel_rfl
      rw [← e]
      exact hmg0
    obtain ⟨fd, hb, hF⟩ := Z.facts (P := Z.R.prog) (w := w) (by kernel_rfl) (by kernel_rfl) KX G hmg c
    exact ⟨K, KX, fd, [], Z.spLawS K, (fun p hp => nomatch hp), (fun p hp => nomatch hp), (fun p hp => nomatch hp), hb, fun H a ns hl hz _ hS => ⟨a, ns, rfl, hS, hl, fun z hm => Z.bits_lt (n := Z.cap) (hz z hm), fun _ => rfl⟩, fun base h1 h2 _ => hF base h1 h2⟩
