import PyProof.Rows.All
import Wide.All
import OpenK.AllK
import Wide.FinOn
import KE.KSuper
import KE.KExcSuper
import HandS.Base
import HandS.Call
import HandS.Exc
import HandS.ExcInit
import HandS.ExcSuper
import HandS.Nested
import HandS.ClsMeth
import HandS.ExcOwn
import HandS.ExcIs
import HandS.ExcField
import HandS.OwnEq
import HandS.More
import HandS.MakeKw
import HandS.Style
import HandS.StrMore
import HandS.SlotsOwn
import KE.KCallOwn
import PyProof.Rows.StrRev
import HandS.HeadHook1
import HandS.HeadHook2
import HandS.ExcCtx
import HandS.HotCalls
import HandS.Words
import HandS.Hot
import HandS.Iter
import PyProof.StrLoop
import OpenK.KOps
import HandS.ListItems
import HandS.ListEq
import HandS.Conv
import KE.KDictList
import PyProof.EqKinds
import HandS.Property
import HandS.Star
import KE.KMinBuiltin
import HandS.FltList
import HandS.SortKw
import HandS.ForMost
import KE.IntTextLaws
import PyProof.MeetsSeq2
import PyProof.DictTable
import HandS.Codes
import HandS.Translate
import HandS.Defaults
import HandS.IsInst
import HandS.Wide
import HandS.WideBits
import HandS.EndBits
import HandS.HeadEnd
import HandS.Flow
import HandS.Steps
import HandS.Evl
import HandS.Walk
import HandS.Replace
import HandS.ReplaceLit
import HandS.ReplaceDef
import HandS.FStr
import HandS.WordsExc
import HandS.Small
import PyProof.Rows.Range3
import HandS.TryOnly
import HandS.RaiseMore
import PyProof.StrLawsIn
import PyProof.StrLawsFirst
import HandS.Head0
import HandS.Head1
import HandS.Head2
import KE.KStateDown
import HandS.HeadWalk
import PySem.Challenge.RW_hopkeep_k18_parts_refused
set_option Elab.async false
set_option linter.all false
set_option maxRecDepth 100000
set_option maxHeartbeats 0
namespace ZX
open PySem PySem.Spec PyProof.Rows L2 He
abbrev FnC : Type := Option (Str × Str × Arguments × FuncBody × Scope × Addr × List Str × Addr)
def fnC (K : PySem.W.Frag) (a : Addr) : FnC := match K.lookup a with
  | some ⟨_, _, .func fd, _⟩ => some (fd.name, fd.qualname, fd.params, fd.body, fd.scope, fd.globals, fd.closure.map (·.1), fd.builtins)
  | _ => none
inductive Pl where
  | glo (x : Str)
  | met (x m : Str)
  | sta (x m : Str)
  | rcd (T : String) (x m : Str)
def Pl.ad (K : PySem.W.Frag) : Pl → Addr
  | .glo x => ga K x
  | .met x m => ma K (ga K x) m
  | .sta x m => match PySem.W.recIn K (ma K (ga K x) m) "staticmethod" with
    | some (.ref g :: _) => g
    | _ => 0
  | .rcd T x m => match PySem.W.recIn K (ma K (ga K x) m) T with
    | some (.ref g :: _) => g
    | _ => 0
structure DefA where
  at_ : Pl
  name : Str
  qual : Str
  params : Arguments
  body : List Stmt
  scope : Scope
  dfl : List Dv
  clo : List Str
def DefA.val (d : DefA) : FnC := some (d.name, d.qual, d.params, .stmts d.body, d.scope, mainGlobals, d.clo, builtinsNs)
def DefA.dvs (K : PySem.W.Frag) (d : DefA) : List V := d.dfl.map (Dv.v K)
def DefA.ok (K : PySem.W.Frag) (d : DefA) : Bool := PySem.W.keepIn K (.ref (d.at_.ad K)) && (match K.lookup (d.at_.ad K) with
  | some ⟨_, _, .func fd, _⟩ => PySem.W.codeIn K fd.code d.qual && dflB K fd.defaults (d.dvs K)
  | _ => false)
def ccOf (K : PySem.W.Frag) (a : Addr) : Addr := match K.lookup a with
  | some ⟨_, _, .func fd, _⟩ => (match fd.closure with
    | [(_, c)] => c
    | _ => 0)
  | _ => 0
def cdOf (K : PySem.W.Frag) (a : Addr) : Addr := match K.lookup a with
  | some ⟨_, _, .func fd, _⟩ => (match fd.code with
    | .ref c => c
    | _ => 0)
  | _ => 0
def oexClsB (K : PySem.W.Frag) (C : Addr) : Bool := match K.lookup C with
  | some ⟨.type "type", _, .cls cd, sl⟩ => (match cd.mro, sl.toList with
    | .ref C' :: bm, [_, _, _, _, some (.builtin n), _] => C' == C && n == "ValueError.__new__" && !cd.hasDel && cd.hasDict && HandSPX.refsVE bm
    | _, _ => false)
  | _ => false
def errB (K : PySem.W.Frag) (fl : Str) (x : Str) : Bool :=
  oexClsB K (ga K x) && (eqO (PySem.W.findIn K (.ref (ga K x)) "__setattr__") (some (some (.builtin "object.__setattr__"))) && (decide (PySem.W.subIn K (.ref (ga K x)) (.type "BaseException") = some true) && (decide (PySem.W.typeIn K (.ref (ga K x)) = some (.type "type")) && (PySem.W.keepIn K (.ref (ga K x)) &&
  (decide (PySem.W.subIn K (.ref (ga K x)) (.type "ValueError") = some true) && (decide (PySem.W.mroIn K (ga K x) (.ref (ga K x)) = some true) && (decide (PySem.W.ks_superIn K (ga K x) (ga K x) "__init__" = some (some (.builtin "ValueError.__init__"))) &&
  (eqO (PySem.W.findIn K (.ref (ga K x)) "__init__") (some (some (.ref (ma K (ga K x) "__init__")))) && (decide (PySem.W.typeIn K (.ref (ma K (ga K x) "__init__")) = some (.type "function")) &&
  ((match K.lookup (ccOf K (ma K (ga K x) "__init__")) with
    | some ⟨_, _, .cell (some v), _⟩ => decide (v = .ref (ga K x))
    | _ => false) && (match K.lookup (cdOf K (ma K (ga K x) "__init__")) with
    | some ⟨_, _, .fields vs, _⟩ => (match (vs[2]? : Option Value) with
      | some (Value.str f _) => decide (fl = f)
      | _ => false)
    | _ => false)))))))))))
def excCB (K : PySem.W.Frag) (D : Addr) : Bool := eqO (PySem.W.findIn K (.ref D) "__getattribute__") (some (some (.builtin "BaseException.__getattribute__"))) && (eqO (PySem.W.findIn K (.ref D) "__getattr__") (some none) && (decide (PySem.W.subIn K (.ref D) (.type "BaseException") = some true) && (PySem.W.hasDictIn K D &&
  (eqO (PySem.W.findIn K (.ref D) "__class__") (some (some (.builtin "object.__class__"))) && (eqO (PySem.W.specialIn K (.builtin "object.__class__") "__get__") (some (some (.builtin "getset_descriptor.__get__"))) && (decide (PySem.W.takesIn K (.builtin "object.__class__") = some true) && decide (PySem.W.mroIn K D (.type "object") = some true)))))))
def insCB (K : PySem.W.Frag) (D : Addr) : Bool := eqO (PySem.W.findIn K (.ref D) "__class__") (some (some (.builtin "object.__class__"))) && (eqO (PySem.W.specialIn K (.builtin "object.__class__") "__get__") (some (some (.builtin "getset_descriptor.__get__"))) && (decide (PySem.W.takesIn K (.builtin "object.__class__") = some true) && decide (PySem.W.mroIn K D (.type "object") = some true)))
def statB (K : PySem.W.Frag) (x m : Str) : Bool := PySem.W.readsIn K (ga K x) (.type "type") && (eqO (PySem.W.specialIn K (.ref (ga K x)) "__getattribute__") (some (some (.builtin "type.__getattribute__"))) &&
  ((match PySem.W.findCls K (.ref (ga K x)) (.type "type") m with
    | some (.get (.builtin n) (.ref p) .none (.ref C)) => decide (n = "staticmethod.__get__") && (decide (p = ma K (ga K x) m) && decide (C = ga K x))
    | _ => false) && ((match PySem.W.recIn K (ma K (ga K x) m) "staticmethod" with
    | some (.ref g :: _) => decide (g = (Pl.sta x m).ad K)
    | _ => false) && PySem.W.keepIn K (.ref ((Pl.sta x m).ad K)))))
def asS (g : Addr → Option Obj) : Nat → List Addr
  | 0 => [mainGlobals, cStatics]
  | n + 1 => growD g (asS g n)
abbrev AlA : Type := Bool × List FnC
def obsA (fa : List Fa) (ex : PySem.W.Frag → Bool) (fn : List DefA) (K : PySem.W.Frag) : AlA := ((fa.all fun f => f.ok K) && (ex K && fn.all fun d => d.ok K), fn.map fun d => fnC K (d.at_.ad K))
def valA (fn : List DefA) : AlA := (true, fn.map DefA.val)
def SaysA (fa : List Fa) (ex : PySem.W.Frag → Bool) (fn : List DefA) (K : PySem.W.Frag) : Prop := obsA fa ex fn K = valA fn
def obsAG (n : Nat) (fa : List Fa) (ex : PySem.W.Frag → Bool) (fn : List DefA) (g : Addr → Option Obj) : AlA := obsA fa ex fn (frG g (asS g n))
def hookA (n : Nat) (fa : List Fa) (ex : PySem.W.Frag → Bool) (fn : List DefA) : PySem.W.Hook where
  α := AlA
  obs := fun s => obsAG n fa ex fn s.heap.get?
  val := fun _ => valA fn
  says := fun _ h => ∃ K : PySem.W.Frag, K.In h ∧ SaysA fa ex fn K
  of := fun _ _ e => ⟨_, frG_in, e⟩
  keeps := fun _ _ _ ⟨K, hK, c⟩ k => ⟨K, PySem.W.Frag.In.keeps hK k, c⟩
theorem obsAG_eq {n : Nat} {fa : List Fa} {ex : PySem.W.Frag → Bool} {fn : List DefA} {g : Addr → Option Obj} {s : Shared} (h : ∀ a, g a = s.heap.get? a) : obsAG n fa ex fn g = (hookA n fa ex fn).obs s := by
  have e : g = s.heap.get? := funext h
  rw [e] <;> rfl
def readB (K : PySem.W.Frag) (x : Str) : Bool := PySem.W.readsIn K (ga K x) (.type "type") && eqO (PySem.W.specialIn K (.ref (ga K x)) "__getattribute__") (some (some (.builtin "type.__getattribute__")))
def cfnB (K : PySem.W.Frag) (x m : Str) : Bool := readB K x && ((match PySem.W.findCls K (.ref (ga K x)) (.type "type") m with
    | some (.val (.ref g)) => decide (g = ma K (ga K x) m)
    | _ => false) && PySem.W.keepIn K (.ref (ma K (ga K x) m)))
def cintB (K : PySem.W.Frag) (x m : Str) (n : Int) : Bool := match PySem.W.findCls K (.ref (ga K x)) (.type "type") m with
    | some (.val (.int i _)) => decide (i = n)
    | _ => false
def ctOf (K : PySem.W.Frag) (x m : Str) : Addr := match PySem.W.findCls K (.ref (ga K x)) (.type "type") m with
    | some (.val (.ref p)) => p
    | _ => 0
def strVs : List Value → List Str → Bool
  | [], [] => true
  | .str z _ :: vs, y :: ys => decide (z = y) && strVs vs ys
  | _, _ => false
def ctupB (K : PySem.W.Frag) (x m : Str) (zs : List Str) : Bool := (match PySem.W.findCls K (.ref (ga K x)) (.type "type") m with
    | some (.val (.ref p)) => decide (p = ctOf K x m)
    | _ => false) && (match K.lookup (ctOf K x m) with
    | some ⟨.type t, _, .seq its _, _⟩ => decide (t = "tuple") && (decide (its.size ≤ 100) && strVs its.toList zs)
    | _ => false)
def cmetB (K : PySem.W.Frag) (x m : Str) : Bool := (match PySem.W.findCls K (.ref (ga K x)) (.type "type") m with
    | some (.get (.builtin n) (.ref p) .none (.ref C)) => decide (n = "classmethod.__get__") && (decide (p = ma K (ga K x) m) && decide (C = ga K x))
    | _ => false) && ((match PySem.W.recIn K (ma K (ga K x) m) "classmethod" with
    | some (.ref g :: _) => decide (g = (Pl.rcd "classmethod" x m).ad K)
    | _ => false) && PySem.W.fnIn K ((Pl.rcd "classmethod" x m).ad K))
def propB (K : PySem.W.Frag) (x m : Str) : Bool := eqO (PySem.W.findIn K (.ref (ga K x)) m) (some (some (.ref (ma K (ga K x) m)))) && (eqO (PySem.W.specialIn K (.ref (ma K (ga K x) m)) "__get__") (some (some (.builtin "property.__get__"))) &&
  (decide (PySem.W.takesIn K (.ref (ma K (ga K x) m)) = some true) && (match PySem.W.recIn K (ma K (ga K x) m) "property" with
    | some (.ref g :: _) => decide (g = (Pl.rcd "property" x m).ad K)
    | _ => false)))
def kwOf (K : PySem.W.Frag) (a : Addr) : Value := match K.lookup a with
  | some ⟨_, _, .func fd, _⟩ => fd.kwdefaults
  | _ => .none
def gtupB (K : PySem.W.Frag) (x : Str) (zs : List Str) : Bool := match K.lookup (ga K x) with
    | some ⟨.type t, _, .seq its _, _⟩ => decide (t = "tuple") && (decide (its.size ≤ 100) && strVs its.toList zs)
    | _ => false
def etupB (K : PySem.W.Frag) (a : Addr) : Bool := match K.lookup a with
  | some ⟨.type t, _, .seq its _, _⟩ => decide (t = "tuple") && decide (its.size = 0)
  | _ => false
def frontOf (g : Addr → Option Obj) (as : List Addr) : List Addr :=
  (mainGlobals :: cStatics :: as.filterMap fun a => match g a with
    | some o => (match o.data with | .cls _ => some a | _ => none)
    | none => none) ++ ((as.filterMap fun a => match g a with
    | some o => (match o.data with | .cls cd => some cd.ns | _ => none)
    | none => none) ++ as.flatMap fun a => match g a with
    | some o => (match o.data with
      | .func fd => (match fd.code with | .ref c => [a, c] | _ => [a])
      | _ => [])
    | none => [])
def asQ (g : Addr → Option Obj) (n : Nat) : List Addr := frontOf g (asS g n) ++ asS g n
def obsBG (n : Nat) (fa : List Fa) (ex : PySem.W.Frag → Bool) (fn : List DefA) (g : Addr → Option Obj) : AlA := obsA fa ex fn (frG g (asQ g n))
def hookB (n : Nat) (fa : List Fa) (ex : PySem.W.Frag → Bool) (fn : List DefA) : PySem.W.Hook where
  α := AlA
  obs := fun s => obsBG n fa ex fn s.heap.get?
  val := fun _ => valA fn
  says := fun _ h => ∃ K : PySem.W.Frag, K.In h ∧ SaysA fa ex fn K
  of := fun _ _ e => ⟨_, frG_in, e⟩
  keeps := fun _ _ _ ⟨K, hK, c⟩ k => ⟨K, PySem.W.Frag.In.keeps hK k, c⟩
theorem obsBG_eq {n : Nat} {fa : List Fa} {ex : PySem.W.Frag → Bool} {fn : List DefA} {g : Addr → Option Obj} {s : Shared} (h : ∀ a, g a = s.heap.get? a) : obsBG n fa ex fn g = (hookB n fa ex fn).obs s := by
  have e : g = s.heap.get? := funext h
  rw [e] <;> rfl
def hookU : PySem.W.Hook where
  α := Unit
  obs := fun _ => ()
  val := fun _ => ()
  says := fun _ _ => True
  of := fun _ _ _ => trivial
  keeps := fun _ _ _ _ _ => trivial
def obU (s : PySem.W.SharedT) : Unit := ()
def obF (n : Nat) (fa : List Fa) (ex : PySem.W.Frag → Bool) (fn : List DefA) (s : PySem.W.SharedT) : Bool := (obsBG n fa ex fn (HandSHeadRun.getT s)).1
def obD (n : Nat) (fa : List Fa) (ex : PySem.W.Frag → Bool) (fn : List DefA) (s : PySem.W.SharedT) : List FnC := (obsBG n fa ex fn (HandSHeadRun.getT s)).2
def RunLooks (r : PySem.W.OpenRow) (M : Nat) (w : World) {β : Type} (f : PySem.W.SharedT → β) (v : β) : Prop := ∀ o : PySem.OsState, (HandSHeadRun.endF (HandSHeadRun.stepQ (HandSHeadRun.denQ HandSHeadRun.tabQ) r.prog w) M r.prog w o).map f = some v
theorem look_three {S A B C D : Type} {x : Option S} {f : S → A} {g : S → B} {c : S → C} {d : S → D} {t : S → Unit} {u : A} {v : B} {i : C} {j : D} (h0 : x.map (fun s => (f s, g s, t s)) = some (u, v, ())) (h1 : x.map c = some i) (h2 : x.map d = some j) : x.map (fun s => (f s, g s, (c s, d s))) = some (u, v, (i, j)) := by
  cases x with
  | none => cases h1
  | some s =>
    have e0 := Option.some.inj h0
    have a1 : f s = u := congrArg (fun z => z.1) e0
    have a2 : g s = v := congrArg (fun z => z.2.1) e0
    have a3 : c s = i := Option.some.inj h1
    have a4 : d s = j := Option.some.inj h2
    show some (f s, g s, (c s, d s)) = _
    rw [a1, a2, a3, a4]
theorem run_three {r : PySem.W.OpenRow} {q : Program} {M n : Nat} {loose : List PySem.Str} {w : World} {fa : List Fa} {ex : PySem.W.Frag → Bool} {fn : List DefA} (h0 : HandSHeadRun.RunEq r q hookU obU M loose w) (h1 : RunLooks r M w (obF n fa ex fn) true) (h2 : RunLooks r M w (obD n fa ex fn) (fn.map DefA.val)) :
    HandSHeadRun.RunEq r q (hookB n fa ex fn) (fun s => obsBG n fa ex fn (HandSHeadRun.getT s)) M loose w := fun o => look_three (h0 o) (h1 o) (h2 o)
def fnP (g : Addr → Option Obj) (a : Addr) : List Addr := match g a with
  | some o => (match o.data with
    | .func fd => refV fd.code ++ (refV fd.defaults ++ (refV fd.kwdefaults ++ fd.closure.flatMap fun c => c.2 :: (match g c.2 with
      | some oc => (match oc.data with | .cell (some v) => refV v | _ => [])
      | none => [])))
    | _ => [])
  | none => []
def memP (g : Addr → Option Obj) (v : Value) : List Addr := match v with
  | .ref b => b :: (match g b with
    | some o => (match o.data with
      | .fields vs => vs.toList.flatMap fun z => match z with
        | .ref r => r :: fnP g r
        | _ => []
      | _ => fnP g b)
    | none => [])
  | _ => []
def nsP (g : Addr → Option Obj) (a : Addr) : List Addr := match g a with
  | some o => (match o.data with
    | .dict es _ => es.toList.flatMap fun e => memP g e.val
    | _ => [])
  | none => []
def clsP (g : Addr → Option Obj) (a : Addr) : List Addr := match g a with
  | some o => (match o.data with
    | .cls cd => [a, cd.ns]
    | _ => [])
  | none => []
def mroP (g : Addr → Option Obj) (a : Addr) : List Addr := match g a with
  | some o => (match o.data with
    | .cls cd => nsP g cd.ns ++ cd.mro.flatMap refV
    | _ => a :: fnP g a)
  | none => []
def topP (g : Addr → Option Obj) : List Addr := match g mainGlobals with
  | some o => (match o.data with
    | .dict es _ => es.toList.flatMap fun e => refV e.val
    | _ => [])
  | none => []
def gathP (g : Addr → Option Obj) : List Addr := mainGlobals :: cStatics :: ((topP g).flatMap (clsP g) ++ (topP g).flatMap (mroP g))
def obsCG (fa : List Fa) (ex : PySem.W.Frag → Bool) (fn : List DefA) (g : Addr → Option Obj) : AlA := obsA fa ex fn (frG g (gathP g))
def hookC (fa : List Fa) (ex : PySem.W.Frag → Bool) (fn : List DefA) : PySem.W.Hook where
  α := AlA
  obs := fun s => obsCG fa ex fn s.heap.get?
  val := fun _ => valA fn
  says := fun _ h => ∃ K : PySem.W.Frag, K.In h ∧ SaysA fa ex fn K
  of := fun _ _ e => ⟨_, frG_in, e⟩
  keeps := fun _ _ _ ⟨K, hK, c⟩ k => ⟨K, PySem.W.Frag.In.keeps hK k, c⟩
theorem obsCG_eq {fa : List Fa} {ex : PySem.W.Frag → Bool} {fn : List DefA} {g : Addr → Option Obj} {s : Shared} (h : ∀ a, g a = s.heap.get? a) : obsCG fa ex fn g = (hookC fa ex fn).obs s := by
  have e : g = s.heap.get? := funext h
  rw [e] <;> rfl
end ZX
set_option maxHeartbeats 0
namespace Z
open PySem PySem.Spec PyProof.Rows L2
def top (i : Nat) : Stmt := PySem.Challenge.pw_hopkeep_k18_parts_refused.main.body.getD i (.Pass ⟨0, 0, 0, 0⟩)
def cbody : Stmt → List Stmt
  | .ClassDef _ _ _ b _ _ _ _ _ _ _ => b
  | _ => []
def inC (i j : Nat) : Stmt := (cbody (top i)).getD j (.Pass ⟨0, 0, 0, 0⟩)
abbrev s_wall : Stmt := top 0
abbrev s_consists_of : Stmt := top 12
abbrev s_is_plain : Stmt := top 13
abbrev s_is_plain_lines : Stmt := top 14
abbrev s_is_word : Stmt := top 15
abbrev s_is_field_name : Stmt := top 16
abbrev s_is_value : Stmt := top 17
abbrev s_read_number : Stmt := top 18
abbrev s_read_extent : Stmt := top 20
abbrev s_read_parts : Stmt := top 21
abbrev s_read_single : Stmt := top 22
abbrev s_read_blocks : Stmt := top 23
abbrev s_read_block_line : Stmt := top 24
abbrev s_are_fields : Stmt := top 28
abbrev s_is_body : Stmt := top 29
abbrev s_law_source : Stmt := top 31
abbrev s_law_mixed : Stmt := top 32
abbrev s_law_draw : Stmt := top 33
abbrev s_law_integer : Stmt := top 34
abbrev s_law_char : Stmt := top 35
abbrev s_law_number : Stmt := top 36
abbrev s_law_head : Stmt := top 37
abbrev s_law_block : Stmt := top 38
abbrev s_law_several : Stmt := top 39
abbrev s_law_reading : Stmt := top 40
abbrev s_law_letters : Stmt := top 41
abbrev s_law_built : Stmt := top 42
abbrev s_law_bent_blocks : Stmt := top 43
abbrev s_law_bent_text : Stmt := top 44
abbrev s_law_written_head : Stmt := top 45
abbrev s_law_written : Stmt := top 46
abbrev s_law_bent_fields : Stmt := top 47
abbrev s_law_same_pieces : Stmt := top 48
abbrev s_law_read : Stmt := top 49
abbrev s_law_asks : Stmt := top 50
abbrev s_law : Stmt := top 51
abbrev s_iv : Stmt := inC 3 0
abbrev s_Mi : Stmt := inC 26 2
abbrev s_Rs : Stmt := inC 27 1
abbrev s_Mv : Stmt := inC 26 4
abbrev s_ipr : Stmt := inC 4 0
def d_iv : ZX.DefA := ⟨.met "InvalidValue" "__init__", "__init__", "InvalidValue.__init__", L2.defArgs s_iv, L2.defBody s_iv, L2.defScope s_iv, [], ["__class__"]⟩
def stL : List Str := ["ok", "part", "same", "done", "missing", "failed", "norange", "unkept", "error"]
def mdL : List Str := ["get", "put", "delete"]
def d_ip : ZX.DefA := ⟨.met "InvalidParts" "__init__", "__init__", "InvalidParts.__init__", L2.defArgs s_ipr, L2.defBody s_ipr, L2.defScope s_ipr, [], ["__class__"]⟩
/-! ### the head: facts by names, the run -/
def d_wall : ZX.DefA := ⟨.glo "_wall", "_wall", "_wall", L2.defArgs s_wall, L2.defBody s_wall, L2.defScope s_wall, [], []⟩
def d_consists_of : ZX.DefA := ⟨.glo "consists_of", "consists_of", "consists_of", L2.defArgs s_consists_of, L2.defBody s_consists_of, L2.defScope s_consists_of, [], []⟩
def d_is_plain : ZX.DefA := ⟨.glo "is_plain", "is_plain", "is_plain", L2.defArgs s_is_plain, L2.defBody s_is_plain, L2.defScope s_is_plain, [], []⟩
def d_is_plain_lines : ZX.DefA := ⟨.glo "is_plain_lines", "is_plain_lines", "is_plain_lines", L2.defArgs s_is_plain_lines, L2.defBody s_is_plain_lines, L2.defScope s_is_plain_lines, [], []⟩
def d_is_word : ZX.DefA := ⟨.glo "is_word", "is_word", "is_word", L2.defArgs s_is_word, L2.defBody s_is_word, L2.defScope s_is_word, [], []⟩
def d_is_field_name : ZX.DefA := ⟨.glo "is_field_name", "is_field_name", "is_field_name", L2.defArgs s_is_field_name, L2.defBody s_is_field_name, L2.defScope s_is_field_name, [], []⟩
def d_is_value : ZX.DefA := ⟨.glo "is_value", "is_value", "is_value", L2.defArgs s_is_value, L2.defBody s_is_value, L2.defScope s_is_value, [], []⟩
def d_read_number : ZX.DefA := ⟨.glo "read_number", "read_number", "read_number", L2.defArgs s_read_number, L2.defBody s_read_number, L2.defScope s_read_number, [], []⟩
def d_read_extent : ZX.DefA := ⟨.glo "read_extent", "read_extent", "read_extent", L2.defArgs s_read_extent, L2.defBody s_read_extent, L2.defScope s_read_extent, [], []⟩
def d_read_parts : ZX.DefA := ⟨.glo "read_parts", "read_parts", "read_parts", L2.defArgs s_read_parts, L2.defBody s_read_parts, L2.defScope s_read_parts, [], []⟩
def d_read_single : ZX.DefA := ⟨.glo "read_single", "read_single", "read_single", L2.defArgs s_read_single, L2.defBody s_read_single, L2.defScope s_read_single, [], []⟩
def d_read_blocks : ZX.DefA := ⟨.glo "read_blocks", "read_blocks", "read_blocks", L2.defArgs s_read_blocks, L2.defBody s_read_blocks, L2.defScope s_read_blocks, [], []⟩
def d_read_block_line : ZX.DefA := ⟨.glo "read_block_line", "read_block_line", "read_block_line", L2.defArgs s_read_block_line, L2.defBody s_read_block_line, L2.defScope s_read_block_line, [], []⟩
def d_are_fields : ZX.DefA := ⟨.glo "are_fields", "are_fields", "are_fields", L2.defArgs s_are_fields, L2.defBody s_are_fields, L2.defScope s_are_fields, [], []⟩
def d_is_body : ZX.DefA := ⟨.glo "is_body", "is_body", "is_body", L2.defArgs s_is_body, L2.defBody s_is_body, L2.defScope s_is_body, [], []⟩
def d_law_source : ZX.DefA := ⟨.glo "_law_source", "_law_source", "_law_source", L2.defArgs s_law_source, L2.defBody s_law_source, L2.defScope s_law_source, [], []⟩
def d_law_mixed : ZX.DefA := ⟨.glo "_law_mixed", "_law_mixed", "_law_mixed", L2.defArgs s_law_mixed, L2.defBody s_law_mixed, L2.defScope s_law_mixed, [], []⟩
def d_law_draw : ZX.DefA := ⟨.glo "_law_draw", "_law_draw", "_law_draw", L2.defArgs s_law_draw, L2.defBody s_law_draw, L2.defScope s_law_draw, [], []⟩
def d_law_integer : ZX.DefA := ⟨.glo "_law_integer", "_law_integer", "_law_integer", L2.defArgs s_law_integer, L2.defBody s_law_integer, L2.defScope s_law_integer, [], []⟩
def d_law_char : ZX.DefA := ⟨.glo "_law_char", "_law_char", "_law_char", L2.defArgs s_law_char, L2.defBody s_law_char, L2.defScope s_law_char, [], []⟩
def d_law_number : ZX.DefA := ⟨.glo "_law_number", "_law_number", "_law_number", L2.defArgs s_law_number, L2.defBody s_law_number, L2.defScope s_law_number, [], []⟩
def d_law_head : ZX.DefA := ⟨.glo "_law_head", "_law_head", "_law_head", L2.defArgs s_law_head, L2.defBody s_law_head, L2.defScope s_law_head, [], []⟩
def d_law_block : ZX.DefA := ⟨.glo "_law_block", "_law_block", "_law_block", L2.defArgs s_law_block, L2.defBody s_law_block, L2.defScope s_law_block, [], []⟩
def d_law_several : ZX.DefA := ⟨.glo "_law_several", "_law_several", "_law_several", L2.defArgs s_law_several, L2.defBody s_law_several, L2.defScope s_law_several, [], []⟩
def d_law_reading : ZX.DefA := ⟨.glo "_law_reading", "_law_reading", "_law_reading", L2.defArgs s_law_reading, L2.defBody s_law_reading, L2.defScope s_law_reading, [], []⟩
def d_law_letters : ZX.DefA := ⟨.glo "_law_letters", "_law_letters", "_law_letters", L2.defArgs s_law_letters, L2.defBody s_law_letters, L2.defScope s_law_letters, [], []⟩
def d_law_built : ZX.DefA := ⟨.glo "_law_built", "_law_built", "_law_built", L2.defArgs s_law_built, L2.defBody s_law_built, L2.defScope s_law_built, [], []⟩
def d_law_bent_blocks : ZX.DefA := ⟨.glo "_law_bent_blocks", "_law_bent_blocks", "_law_bent_blocks", L2.defArgs s_law_bent_blocks, L2.defBody s_law_bent_blocks, L2.defScope s_law_bent_blocks, [], []⟩
def d_law_bent_text : ZX.DefA := ⟨.glo "_law_bent_text", "_law_bent_text", "_law_bent_text", L2.defArgs s_law_bent_text, L2.defBody s_law_bent_text, L2.defScope s_law_bent_text, [], []⟩
def d_law_written_head : ZX.DefA := ⟨.glo "_law_written_head", "_law_written_head", "_law_written_head", L2.defArgs s_law_written_head, L2.defBody s_law_written_head, L2.defScope s_law_written_head, [], []⟩
def d_law_written : ZX.DefA := ⟨.glo "_law_written", "_law_written", "_law_written", L2.defArgs s_law_written, L2.defBody s_law_written, L2.defScope s_law_written, [], []⟩
def d_law_bent_fields : ZX.DefA := ⟨.glo "_law_bent_fields", "_law_bent_fields", "_law_bent_fields", L2.defArgs s_law_bent_fields, L2.defBody s_law_bent_fields, L2.defScope s_law_bent_fields, [], []⟩
def d_law_same_pieces : ZX.DefA := ⟨.glo "_law_same_pieces", "_law_same_pieces", "_law_same_pieces", L2.defArgs s_law_same_pieces, L2.defBody s_law_same_pieces, L2.defScope s_law_same_pieces, [], []⟩
def d_law_read : ZX.DefA := ⟨.glo "_law_read", "_law_read", "_law_read", L2.defArgs s_law_read, L2.defBody s_law_read, L2.defScope s_law_read, [], []⟩
def d_law_asks : ZX.DefA := ⟨.glo "_law_asks", "_law_asks", "_law_asks", L2.defArgs s_law_asks, L2.defBody s_law_asks, L2.defScope s_law_asks, [], []⟩
def d_law : ZX.DefA := ⟨.glo "law", "law", "law", L2.defArgs s_law, L2.defBody s_law, L2.defScope s_law, [], []⟩
def d_Mi : ZX.DefA := ⟨.met "Message" "__init__", "__init__", "Message.__init__", L2.defArgs s_Mi, L2.defBody s_Mi, L2.defScope s_Mi, [], []⟩
def d_Rs : ZX.DefA := ⟨.met "Response" "__init__", "__init__", "Response.__init__", L2.defArgs s_Rs, L2.defBody s_Rs, L2.defScope s_Rs, [.adr (He.dflAt ("Response", some "__init__") 0), .str ""], []⟩
def d_Sav : ZX.DefA := ⟨.met "Response" "all_values", "all_values", "Message.all_values", L2.defArgs s_Mv, L2.defBody s_Mv, L2.defScope s_Mv, [], []⟩
def fns : List ZX.DefA := [d_wall, d_consists_of, d_is_plain, d_is_plain_lines, d_is_word, d_is_field_name, d_is_value, d_read_number, d_read_extent, d_read_parts, d_read_single, d_read_blocks, d_read_block_line, d_are_fields, d_is_body, d_law_source, d_law_mixed, d_law_draw, d_law_integer, d_law_char, d_law_number, d_law_head, d_law_block, d_law_several, d_law_reading, d_law_letters, d_law_built, d_law_bent_blocks, d_law_bent_text, d_law_written_head, d_law_written, d_law_bent_fields, d_law_same_pieces, d_law_read, d_law_asks, d_law, d_iv, d_ip, d_Mi, d_Rs, d_Sav]
def fas : List He.Fa := [.glo "_wall", .glo "consists_of", .glo "is_plain", .glo "is_plain_lines", .glo "is_word", .glo "is_field_name", .glo "is_value", .glo "read_number", .glo "read_extent", .glo "read_parts", .glo "read_single", .glo "read_blocks", .glo "read_block_line", .glo "are_fields", .glo "is_body", .glo "_law_source", .glo "_law_mixed", .glo "_law_draw", .glo "_law_integer", .glo "_law_char", .glo "_law_number", .glo "_law_head", .glo "_law_block", .glo "_law_several", .glo "_law_reading", .glo "_law_letters", .glo "_law_built", .glo "_law_bent_blocks", .glo "_law_bent_text", .glo "_law_written_head", .glo "_law_written", .glo "_law_bent_fields", .glo "_law_same_pieces", .glo "_law_read", .glo "_law_asks", .glo "law", .glo "Message", .glo "Response", .glo "InvalidValue", .glo "InvalidParts", .glo "HopError", .free "len", .free "all", .free "any", .free "abs", .free "sum", .free "isinstance", .free "range", .free "int", .free "bool", .free "str", .free "min", .free "max", .free "list", .free "tuple", .free "ValueError", .free "super", .str "LOWER" "abcdefghijklmnopqrstuvwxyz", .str "DIGITS" "0123456789", .str "WORD_SIGNS" "abcdefghijklmnopqrstuvwxyz0123456789-", .int "MOST_NAME" 30, .int "MOST_VALUE" 200, .int "MOST_DIGITS" 6, .cls "Response", .mkr "Response", .noat "Response" "_first_line", .noat "Response" "_has_body", .noat "Response" "fields", .noat "Response" "body", .noat "Response" "status", .meth "Response" "all_values", .exm "InvalidValue" "InvalidValue" true, .exm "InvalidParts" "InvalidParts" true]
def flS : Str := "/claim/cut.py"
def exs (K : PySem.W.Frag) : List Bool := [ZX.cfnB K "Message" "__init__",
  ZX.readB K "Message",
  ZX.cintB K "Message" "MOST_FIELDS" 40,
  ZX.cintB K "Message" "MOST_BODY" 100000,
  ZX.readB K "Response",
  ZX.ctupB K "Response" "STATUSES" stL,
  ZX.etupB K (He.dflAt ("Response", some "__init__") 0 K),
  ZX.errB K flS "InvalidValue",
  ZX.excCB K (He.ga K "InvalidValue"),
  xfB K (He.ga K "InvalidValue"),
  He.eqO (PySem.W.findIn K (.ref (He.ga K "InvalidValue")) "name") (some none),
  decide (PySem.W.kitOne K (.ref (He.ga K "InvalidValue")) (.ref (He.ga K "HopError")) = some true),
  decide (PySem.W.kitOne K (.ref (He.ga K "InvalidValue")) (.type "ValueError") = some true),
  ZX.errB K flS "InvalidParts",
  ZX.excCB K (He.ga K "InvalidParts"),
  decide (PySem.W.kitOne K (.ref (He.ga K "InvalidParts")) (.ref (He.ga K "HopError")) = some true),
  decide (PySem.W.kitOne K (.ref (He.ga K "InvalidParts")) (.type "ValueError") = some true),
  decide (PySem.W.kitOne K (.ref (He.ga K "InvalidParts")) (.ref (He.ga K "InvalidValue")) = some false),
  He.eqO (PySem.W.nsIn K cStatics "thirdparty.any") (some none)]
def exK (K : PySem.W.Frag) : Bool := (exs K).all id
theorem exK_at {K : PySem.W.Frag} (h : exK K = true) (i : Nat) {b : Bool} (e : (exs K)[i]? = some b := by rfl) : b = true := List.all_eq_true.mp h b (List.mem_of_getElem? e)
abbrev R : PySem.W.OpenRow := PySem.W.OpenLaw.row PySem.Challenge.rw_hopkeep_k18_parts_refused
abbrev hk : PySem.W.Hook := ZX.hookB 5 fas exK fns
def ob (s : PySem.W.SharedT) : ZX.AlA := ZX.obsBG 5 fas exK fns (HandSHeadRun.getT s)
theorem ob_eq (s : PySem.W.SharedT) : ob s = hk.obs s.abs := ZX.obsBG_eq (HandSHeadRun.getT_eq s)
def others : List Str := (["HopError", "InvalidValue", "InvalidParts", "Message", "Response", "LOWER", "DIGITS", "WORD_SIGNS", "MOST_NAME", "MOST_VALUE", "MOST_DIGITS", "_wall", "consists_of", "is_plain", "is_plain_lines", "is_word", "is_field_name", "is_value", "read_number", "read_extent"] : List Str) ++ (["read_parts", "read_single", "read_blocks", "read_block_line", "are_fields", "is_body", "_law_source", "_law_mixed", "_law_draw", "_law_integer", "_law_char", "_law_number", "_law_head", "_law_block", "_law_several", "_law_reading", "_law_letters", "_law_built", "_law_bent_blocks", "_law_bent_text"] : List Str) ++ (["_law_written_head", "_law_written", "_law_bent_fields", "_law_same_pieces", "_law_read", "_law_asks"] : List Str)
theorem run0 (w : World) : HandSHeadRun.RunEq R (PySem.W.view R.prog [51]) ZX.hookU ZX.obU 16000 others w := by
  intro o
  kernel_rfl
theorem run1 (w : World) : ZX.RunLooks R 16000 w (ZX.obF 5 fas exK fns) true := by
  intro o
  kernel_rfl
theorem run2 (w : World) : ZX.RunLooks R 16000 w (ZX.obD 5 fas exK fns) (fns.map ZX.DefA.val) := by
  intro o
  kernel_rfl
theorem run (w : World) : HandSHeadRun.RunEq R (PySem.W.view R.prog [51]) hk ob 16000 others w :=
  have z := ZX.run_three (run0 w) (run1 w) (run2 w)
  z
end Z
set_option maxHeartbeats 2000000
namespace ZX
open PySem PySem.W PySem.Calls PyProof.Rows
section
variable {prog : Program} {w : World} {A : Around} {E : Value → Shared → Prop} {h : Heap} {g : Array GenState} {d : Drawn} {t : Nat} {os : OsState}
variable {nm q : Str} {C N : Addr} {bs bm : List Value} {hdct : Bool} {sn : List Str} {sub : List Value} {ab : Bool} {col : Option Bool} {dd : Option Addr} {k0 k1 k2 k3 k5 : Option Value}
theorem call_mw {u e t0 : Addr} {rest : List Value} {Q : Value → Shared → Prop}
    (hC : h.get? C = some (excClassObj nm q C N bs bm hdct sn sub ab col dd k0 k1 k2 k3 k5 "ValueError.__new__")) (he : h.get? e = some (HandSPX.excO C t0)) (hu : h.get? u = some (kxs_mw "ValueError.__init__" e)) (hrest : rest.length ≤ sizeLine)
    (hq : ∀ h' t1, (∀ b o, b ≠ e → h.get? b = some o → h'.get? b = some o) → h'.get? e = some (HandSPX.excO C t1) → Q .none ⟨h', g, d, t, os⟩) :
    wpAny (model prog w) A (call (.ref u) rest) Q E ⟨h, g, d, t, os⟩ := by
  refine wpAny_call (codeAny_of_tree ?_)
  show wpAny _ A.in1 (callAny (.ref u) ⟨rest, []⟩) _ _ _
  simp only [callAny]
  refine wpAny_bind (wpAny_load hu ?_)
  simp only [kxs_mw, show (Value.type "method-wrapper" == Value.type "method" || Value.type "method-wrapper" == Value.type "builtin_function_or_method" || Value.type "method-wrapper" == Value.type "method-wrapper") = true by decide, if_true]
  refine W.KFB.if_so (by decide) ?_
  refine wpAny_bind (ESX.check_bound F.excBase_ValueError hC he rfl ?_)
  refine wpAny_bind (wpAny_pure (wpAny_pure ?_))
  refine ⟨Code.quiet_builtin _ (by decide +kernel), codeAny_builtin F.excBase_ValueError.initEntry ?_⟩
  rw [Around.under_plainId F.excBase_ValueError.init.plain _]
  wp_walk
  refine hq _ h.objs.size (fun b o hb ho => ?_) ?_
  · rw [Heap.get?_update_other _ _ (Ne.symm hb)]
    exact Heap.get?_push_of_some _ ho
  · rw [Heap.get?_update_self _ (Heap.get?_push_of_some _ he) rfl]
    rfl
end
end ZX
set_option maxHeartbeats 2000000
namespace ZX
open PySem PySem.W PySem.Calls PyProof.Rows L2 NdefX
/-- super().__init__(..) of an exception that is being made -/
theorem init_mw {X : Cx} {pins : List (Addr × Obj)} {σ : L2.St} {H : Hp} {s : Shared} {a C u : Addr} {A : Around} {E : Value → Shared → Prop} {us : List Value} {Q : Value → Shared → Prop} (T : OexC X.K C) (I : Inv X ((u, kxs_mw "ValueError.__init__" a) :: pins) σ H s) (e : H a = some (exo a C none)) (hl : us.length ≤ sizeLine)
    (h : ∀ s', Inv X ((u, kxs_mw "ValueError.__init__" a) :: pins) σ H s' → Q .none s') : wpAny (model X.prog X.w) A (call (.ref u) us) Q E s := by
  obtain ⟨nm, q, N, bs, bm, sn, sub, ab, col, dd, k0, k1, k2, k3, k5, hC, hbm⟩ := T.cls
  obtain ⟨t1, ho⟩ := exo_at I.hok e
  have hu := ClX.pin_at I
  obtain ⟨hp, g, d, t, os⟩ := s
  refine call_mw (I.kIn _ _ hC) ho hu hl fun h' t2 k hx => ?_
  have J := I.write (t' := t) (x := a) (e := a) (o := exo a C none) (by rw [e]; exact True.intro) (.inl rfl) k ⟨_, hx⟩ (exo_ok hx)
  have eu : upd H a (exo a C none) = H := by
    funext b
    by_cases hb : b = a
    · rw [hb, upd_same, e]
    · rw [upd_ne hb]
  rw [eu] at J
  exact h _ J
/-- what stands of an error's class, at D, and of its __init__, at f -/
structure Sup (P : Program) (K : Frag) (D f cc cda : Addr) (fd : FuncData) (name qual : Str) (params : Arguments) (body : List Stmt) (scope : Scope) : Prop where
  fn : ∃ (oc : Value) (od : Option Addr) (osl : Array (Option Value)) (dV kV doc pm ct : Value) (an : Option Addr), fd = fnX name qual params body scope [("__class__", cc)] dV kV doc pm an (.ref cda) ct ∧ K.lookup f = some ⟨oc, od, .func fd, osl⟩
  code : codeIn K (.ref cda) qual = true
  cell : ∃ (cl : Value) (cld : Option Addr) (csl : Array (Option Value)), K.lookup cc = some ⟨cl, cld, .cell (some (.ref D)), csl⟩
  file : ∃ (ccl : Value) (cdd : Option Addr) (vs : Array Value) (ccs : Array (Option Value)) (fl : Str) (tf : Tok), K.lookup cda = some ⟨ccl, cdd, .fields vs, ccs⟩ ∧ vs[2]? = some (.str fl tf) ∧ ((P.main.file : Str) == fl) = true
  sup : nsIn K mainGlobals "super" = some none
  third : nsIn K cStatics "thirdparty.any" = some none
  top : (P.main.scope.names.lookup ("super" : Str)).isSome = false
  along : ks_superIn K D D "__init__" = some (some (.builtin "ValueError.__init__"))
  subV : subIn K (.ref D) (.type "ValueError") = some true
  mro : mroIn K D (.ref D) = some true
  oex : OexC K D
section
variable {CX : CXT} {P : Program} {w : World} {K : Frag} {mg : Str → Option Value} {base : Heap} {N ps : List Str} {k : Nat} {f cc cda D : Addr} {fd : FuncData} {name qual : Str} {params : Arguments} {body rest : List Stmt} {scope : Scope} {sp : Sp} {es : List Expr} {p0 p1 p2 p3 p4 : Pos} {ar : Arg}
abbrev nf (name qual : Str) (params : Arguments) (body : List Stmt) (scope : Scope) (cc cda : Addr) : NF := ⟨name, qual, params, body, scope, [("__class__", cc)], cda⟩
theorem fn_pre (T : Sup P K D f cc cda fd name qual params body scope) (S : NScope N ps ["__class__"] scope) (hsup : scope.names.lookup ("super" : Str) = some .globalImplicit) (hp0 : (params.posonlyargs ++ params.args).head? = some ar) (har : ps[0]? = some ar.arg)
    (hb : body = .Expr (.Call (.Attribute (.Call (.Name "super" p0) [] [] p1) "__init__" p2) es [] p3) p4 :: rest)
    (he : ∀ env : Env, eval (.Call (.Attribute (.Call (.Name "super" p0) [] [] p1) "__init__" p2) es [] p3) env = (do
      let ov ← attributeBase (.Call (.Name "super" p0) [] [] p1) "__init__" env (eval (.Call (.Name "super" p0) [] [] p1) env)
      standAt p2.atName
      let (f, first) ← holding [ov] (getMethod ov "__init__" (pure false))
      callWith p3 f first (backTo p3 (starEach es env)) []))
    (hi : ∀ env : Env, env.scope = scope → interactive env = false) (hsw : ∀ env : Env, env.scope = scope → swapsWith (.Call (.Attribute (.Call (.Name "super" p0) [] [] p1) "__init__" p2) es [] p3) none p4.line env = pure false)
    (len : ∀ vs H Q E, sp vs H Q E → vs.length = ps.length)
    (hbody : ∀ (A : Around) (outer : List Env) (s : Shared) (H : Hp) (vs : List V) (Q : VK) (E : XK), Room k (A.deeper (envF (nf name qual params body scope cc cda) f s.heap.objs.size)) → sp vs H Q E →
      ∃ (a : Addr) (vs' : List V), vs = .ref a :: vs' ∧ H a = some (exo a D none) ∧ ∀ (u : Addr) (s2 : Shared), Inv (ncx CX P w K mg base N (nf name qual params body scope cc cda) f A outer s H E) [(u, kxs_mw "ValueError.__init__" a)] (startF N vs [some (.ref D)]) H s2 →
        wpAny (model P w) (A.deeper (envF (nf name qual params body scope cc cda) f s.heap.objs.size)) (callWith p3 (.ref u) [] (backTo p3 (starEach es (envF (nf name qual params body scope cc cda) f s.heap.objs.size))) [])
          (fun _ s3 => wpAny (model P w) (A.deeper (envF (nf name qual params body scope cc cda) f s.heap.objs.size)) (execs rest (envF (nf name qual params body scope cc cda) f s.heap.objs.size))
            (SP (ncx CX P w K mg base N (nf name qual params body scope cc cda) f A outer s H E) [] { nx := fun _ H' => Q .non H', rt := Q }) (ncx CX P w K mg base N (nf name qual params body scope cc cda) f A outer s H E).xe s3)
          (ncx CX P w K mg base N (nf name qual params body scope cc cda) f A outer s H E).xe s2) :
    FnOk P w K mg base CX (k + 1) f fd ps sp := by
  obtain ⟨⟨oc, od, osl, dV, kV, doc, pm, ct, an, rfl, lk⟩, hcd, ⟨cl, cld, csl, lcell⟩, ⟨ccl, cdd, vc, ccs, fl, tf, lcode, hvs, hfile⟩, hsu, hthird, htop, halong, hB, hmro, TO⟩ := T
  refine ⟨len, fun A outer s H args us vs Q E hr e0 hbi r hsp => ?_⟩
  have hl := len _ _ _ _ hsp
  have KX : K.In s.heap := e0.mod.kin.keeps fun b o e => (e0.bs b o e).1
  have lim : s.heap.NoLimit := e0.mod.nolimit.keeps fun b o e => (e0.bs b o e).1
  obtain ⟨a, vs', rfl, ha, hgo⟩ := hbody A outer s H vs Q E (hr.deeper _) hsp
  refine ks_codeAny_call_defAt (fd := fnX name qual params body scope [("__class__", cc)] dV kV doc pm an (.ref cda) ct) (body := body) (binds := ps.zip us) hr.depth (KX _ _ lk) rfl lim (codeRec_of KX hcd) rfl hbi S.nocell (fun ⟨n, _⟩ hy => S.par n (List.of_mem_zip hy).1) (fun h₁ hns kp => ?_) S.co S.gen S.kind
  have C : CellsAt (nf name qual params body scope cc cda).cl ["__class__"] [some (V.ref D)] s.heap H := by
    have hcc : s.heap.get? cc = some ⟨cl, cld, .cell (some (.ref D)), csl⟩ := KX _ _ lcell
    have look : ∀ {y : Str} {c : Addr}, List.lookup y [(("__class__" : Str), cc)] = some c → y = "__class__" ∧ c = cc := fun {y c} e => by
      by_cases h : y = "__class__"
      · subst h
        have : List.lookup ("__class__" : Str) [(("__class__" : Str), cc)] = some cc := by simp [List.lookup]
        rw [this] at e
        exact ⟨rfl, (Option.some.inj e).symm⟩
      · have q : (y == ("__class__" : Str)) = false := by simpa using h
        simp [List.lookup, q] at e
    refine ⟨rfl, fun y c e => ?_, fun x y c e1 e2 => ?_, fun i y e => ?_⟩
    · obtain ⟨_, rfl⟩ := look e
      exact ⟨(e0.bs _ _ (e0.mod.kin _ _ lcell)).2, _, _, hcc, rfl⟩
    · exact (look e1).1.trans (look e2).1.symm
    · cases i with
      | zero =>
        have ey : y = "__class__" := (Option.some.inj e).symm
        subst ey
        refine ⟨cc, by show List.lookup ("__class__" : Str) [(("__class__" : Str), cc)] = some cc; simp [List.lookup], fun v hv => ?_⟩
        have ev : v = .ref D := (Option.some.inj (Option.some.inj hv)).symm
        subst ev
        exact ⟨_, rfl, _, hcc, rfl⟩
      | succ n => simp at e
  have I : Inv (ncx CX P w K mg base N (nf name qual params body scope cc cda) f A outer s H E) [] (startF N (.ref a :: vs') [some (.ref D)]) H { s with heap := h₁, toks := s.toks + (ps.zip us).length } := inv_startN S hr.hd e0 hl r C hns kp
  have hkc : scope.names.lookup ("__class__" : Str) = some .free := S.frk _ List.mem_cons_self
  have KX1 : K.In h₁ := KX.keeps kp
  obtain ⟨cd, hcl, hcdm⟩ : ∃ cd, clsIn K D = some cd ∧ alongIn K "__init__" ((cd.mro.dropWhile (· != .ref D)).drop 1) = some (some (.builtin "ValueError.__init__")) := by
    unfold ks_superIn at halong
    cases hc : clsIn K D with
    | none => rw [hc] at halong; cases halong
    | some cd => rw [hc] at halong; exact ⟨cd, rfl, halong⟩
  obtain ⟨oD, hD1, hD2⟩ : ∃ oD, h₁.get? D = some oD ∧ oD.data = .cls cd := by
    have hD := hcl
    unfold clsIn at hD
    split at hD
    · rename_i c d cd' sl ho
      cases hD
      exact ⟨_, KX1 _ _ ho, rfl⟩
    · cases hD
  obtain ⟨t1, hoe⟩ := exo_at I.hok ha
  have hoe : h₁.get? a = some ({ cls := .ref D, dict := none, data := .fields #[.ref t1, .none, .none, .none, .bool false, .none] } : Obj) := hoe
  have J : InstAt h₁ a ({ cls := .ref D, dict := none, data := .fields #[.ref t1, .none, .none, .none, .bool false, .none] } : Obj) D none := ⟨hoe, rfl, rfl, trivial⟩
  have u0 : us[0]? = some (.ref a) := by
    cases r with
    | cons ra rr =>
      have ra : _ = _ := ra
      rw [ra]
      rfl
  have ndP : ps.Nodup := by
    have q := S.nd.sublist (List.take_sublist (ps.length + (["__class__"] : List Str).length) N)
    rw [S.pre] at q
    exact (List.nodup_append.mp q).1
  have hself : (ps.zip us).reverse.lookup ar.arg = some (.ref a) := zip_look ndP har u0
  obtain ⟨mb, hbl1, hbl2⟩ := I.mod.blt
  show _root_.PySem.wpAt (model P w) (A.deeper (envF (nf name qual params body scope cc cda) f s.heap.objs.size)) (.func body (envF (nf name qual params body scope cc cda) f s.heap.objs.size)) (execs body (envF (nf name qual params body scope cc cda) f s.heap.objs.size)) _ _ _
  rw [hb]
  refine ks_wpAt_execs_cons (ks_wpAt_Expr_any (ks_wpAt_MethodCall ?_ (he _)) (hi _ rfl) (hsw _ rfl))
  refine ks_wpAt_super_base (env := envF (nf name qual params body scope cc cda) f s.heap.objs.size) hsup hkc rfl rfl (KX1 _ _ lk) rfl hp0 rfl (KX1 _ _ lcode) rfl hvs hfile htop ?_
  refine ks_loadName_global S.kind hsup (loadGlobal_builtin (env := envF (nf name qual params body scope cc cda) f s.heap.objs.size) (I.mod.glob.keeps I.bk) (mg_none_of I.mod.kin I.mod.glob hsu) (hbl1.keeps I.bk) ((hbl2 _ (by decide)).trans (show bootBuiltins "super" = some (.type "super") by decide +kernel)) ⟨rfl, ?_⟩)
  refine wpAny_loadName_free S.kind hkc (by show List.lookup ("__class__" : Str) [(("__class__" : Str), cc)] = some cc; simp [List.lookup]) ⟨_, KX1 _ _ lcell, rfl⟩ ?_
  refine wpAny_loadName_local S.kind (S.par _ (List.mem_of_getElem? har)) hns hself ?_
  refine ks_wpAny_isType_cls hD1 hD2 ⟨rfl, ?_⟩
  refine ks_wpAny_call_super hD1 hD2 J.at_ J.cls (fun c e => by cases e) (looks_mroIn KX1 hmro) (fun h' e kh => ?_)
  have I2 : Inv (ncx CX P w K mg base N (nf name qual params body scope cc cda) f A outer s H E) [] (startF N (.ref a :: vs') [some (.ref D)]) H ⟨h', s.gens, s.drawn, s.toks + (ps.zip us).length, s.os⟩ := I.kept kh
  have J2 : InstAt h' a ({ cls := .ref D, dict := none, data := .fields #[.ref t1, .none, .none, .none, .bool false, .none] } : Obj) D none := ⟨kh _ _ hoe, rfl, rfl, trivial⟩
  have KX2 : K.In h' := KX1.keeps kh
  refine kxs_getMethod kxs_ValueError e (looks_opaque KX2 hthird) (l₀ := cd.mro) (fun A Q E s k q => wpAny_bind ((looks_clsIn KX2 hcl) A _ E s k (wpAny_pure q))) rfl KX2 hcdm (J2.type.andThen (looks_subIn KX2 hB)) (ks_ne KX2 J2 hcl) rfl ?_
  have I3 := ClX.pin_new (o := kxs_mw "ValueError.__init__" a) (a := h'.objs.size) (h' := h'.push (kxs_mw "ValueError.__init__" a)) (t' := s.toks + (ps.zip us).length + 1) I2 (fun b o e => Heap.get?_push_of_some _ e) (Nat.le_refl _) (Heap.get?_push_size _ rfl) (fun v z => by cases z)
  refine wpAny_mono (hgo _ _ I3) (fun v s3 h3 => ?_) (fun e s' h' => h')
  show _root_.PySem.wpAt _ _ _ _ _ _ s3
  refine wpAt_of_wpAny (wpAny_mono h3 (fun fl s' hs => ?_) fun e s' h' => h')
  have fin : ∀ {σ' : L2.St} {H' : Hp} {v : V} {u : Value}, Inv (ncx CX P w K mg base N (nf name qual params body scope cc cda) f A outer s H E) [] σ' H' s' → RelV v u → Q v H' → CE outer P w H s Q u s' :=
    fun {σ' H' v u} J rv q => ⟨v, H', J.os, J.bare, J.base, J.hok, rv, q⟩
  cases fl with
  | ret u =>
    obtain ⟨v, σ', H', J, rv, q⟩ := hs
    exact fin J rv q
  | next =>
    obtain ⟨σ', H', J, q⟩ := hs
    exact fin (v := V.non) (u := Value.none) J rfl q
  | brk =>
    obtain ⟨_, _, _, q⟩ := hs
    exact False.elim q
  | cont =>
    obtain ⟨_, _, _, q⟩ := hs
    exact False.elim q
end
end ZX
set_option maxHeartbeats 2000000
namespace ZX
open PySem PySem.W PySem.Calls PyProof.Rows L2 NdefX
section
variable {CX : CXT} {P : Program} {w : World} {K : Frag} {mg : Str → Option Value} {base : Heap} {N ps : List Str} {k : Nat} {f cc cda D : Addr} {fd : FuncData} {name qual : Str} {params : Arguments} {body rest : List Stmt} {scope : Scope} {sp : Sp} {e : Expr} {p0 p1 p2 p3 p4 : Pos} {ar : Arg}
/-- super().__init__(e), then the rest -/
theorem fn_sup1 (T : Sup P K D f cc cda fd name qual params body scope) (S : NScope N ps ["__class__"] scope) (hsup : scope.names.lookup ("super" : Str) = some .globalImplicit) (hp0 : (params.posonlyargs ++ params.args).head? = some ar) (har : ps[0]? = some ar.arg)
    (hb : body = .Expr (.Call (.Attribute (.Call (.Name "super" p0) [] [] p1) "__init__" p2) [e] [] p3) p4 :: rest)
    (he : ∀ env : Env, eval (.Call (.Attribute (.Call (.Name "super" p0) [] [] p1) "__init__" p2) [e] [] p3) env = (do
      let ov ← attributeBase (.Call (.Name "super" p0) [] [] p1) "__init__" env (eval (.Call (.Name "super" p0) [] [] p1) env)
      standAt p2.atName
      let (f, first) ← holding [ov] (getMethod ov "__init__" (pure false))
      callWith p3 f first (backTo p3 (starEach [e] env)) []))
    (hi : ∀ env : Env, env.scope = scope → interactive env = false) (hsw : ∀ env : Env, env.scope = scope → swapsWith (.Call (.Attribute (.Call (.Name "super" p0) [] [] p1) "__init__" p2) [e] [] p3) none p4.line env = pure false)
    (hse : ∀ env : Env, starEach [e] env = (false, eval e env) :: starEach [] env)
    (len : ∀ vs H Q E, sp vs H Q E → vs.length = ps.length)
    (hbody : ∀ (A : Around) (outer : List Env) (s : Shared) (H : Hp) (vs : List V) (Q : VK) (E : XK), Room k (A.deeper (envF (nf name qual params body scope cc cda) f s.heap.objs.size)) → sp vs H Q E →
      ∃ (a : Addr) (vs' : List V) (te : TE) (tr : TS), vs = .ref a :: vs' ∧ H a = some (exo a D none) ∧ PE (ncx CX P w K mg base N (nf name qual params body scope cc cda) f A outer s H E) e te ∧ PSs (ncx CX P w K mg base N (nf name qual params body scope cc cda) f A outer s H E) rest tr ∧
        te (startF N vs [some (.ref D)]) H fun x H1 => [x].length ≤ 1000 ∧ H1 a = some (exo a D none) ∧ tr { nx := fun _ H' => Q .non H', rt := Q } (startF N vs [some (.ref D)]) H1) :
    FnOk P w K mg base CX (k + 1) f fd ps sp := by
  refine fn_pre T S hsup hp0 har hb he hi hsw len fun A outer s H vs Q E hr hsp => ?_
  obtain ⟨a, vs', te, tr, rfl, ha, hpe, hps, hq⟩ := hbody A outer s H vs Q E hr hsp
  refine ⟨a, vs', rfl, ha, fun u s2 I => ?_⟩
  have hpa : PA (ncx CX P w K mg base N (nf name qual params body scope cc cda) f A outer s H E) [e] (tCons te tNil) := pa_cons hpe pa_nil (hse _)
  have hrun := hpa.run p3 [(u, kxs_mw "ValueError.__init__" a)] s2 (startF N (.ref a :: vs') [some (.ref D)]) H (fun ws H1 => ws.length ≤ 1000 ∧ H1 a = some (exo a D none) ∧ tr { nx := fun _ H' => Q .non H', rt := Q } (startF N (.ref a :: vs') [some (.ref D)]) H1) I hq
  have hrun2 : wpAny (model P w) (A.deeper (envF (nf name qual params body scope cc cda) f s.heap.objs.size)) (spliced (backTo p3 (starEach [e] (envF (nf name qual params body scope cc cda) f s.heap.objs.size)))) (fun us s₁ => KxsAt "ValueError.__init__" u a s₁.heap ∧ wpAny (model P w) (A.deeper (envF (nf name qual params body scope cc cda) f s.heap.objs.size)) (call (.ref u) us)
        (fun _ s3 => wpAny (model P w) (A.deeper (envF (nf name qual params body scope cc cda) f s.heap.objs.size)) (execs rest (envF (nf name qual params body scope cc cda) f s.heap.objs.size))
            (SP (ncx CX P w K mg base N (nf name qual params body scope cc cda) f A outer s H E) [] { nx := fun _ H' => Q .non H', rt := Q }) (ncx CX P w K mg base N (nf name qual params body scope cc cda) f A outer s H E).xe s3)
        (ncx CX P w K mg base N (nf name qual params body scope cc cda) f A outer s H E).xe s₁) (ncx CX P w K mg base N (nf name qual params body scope cc cda) f A outer s H E).xe s2 := by
    refine thn hrun fun us s1 ⟨ws, H1, I1, r, hz, hea, hq1⟩ => ⟨ClX.pin_at I1, ?_⟩
    have T2 : OexC (ncx CX P w K mg base N (nf name qual params body scope cc cda) f A outer s H E).K D := T.oex
    refine init_mw (X := ncx CX P w K mg base N (nf name qual params body scope cc cda) f A outer s H E) T2 I1 hea ?_ fun s' J => ?_
    · rw [← r.length, sizeLine_eq]
      omega
    · exact hps.run [] s' _ H1 _ (ClX.unpin J) hq1
  rw [hse] at hrun2 ⊢
  exact kxs_callWith (i := "ValueError.__init__") (x := a) rfl (evalArgs_plain hrun2)
/-- super().__init__(), then the rest -/
theorem fn_sup0 (T : Sup P K D f cc cda fd name qual params body scope) (S : NScope N ps ["__class__"] scope) (hsup : scope.names.lookup ("super" : Str) = some .globalImplicit) (hp0 : (params.posonlyargs ++ params.args).head? = some ar) (har : ps[0]? = some ar.arg)
    (hb : body = .Expr (.Call (.Attribute (.Call (.Name "super" p0) [] [] p1) "__init__" p2) [] [] p3) p4 :: rest)
    (he : ∀ env : Env, eval (.Call (.Attribute (.Call (.Name "super" p0) [] [] p1) "__init__" p2) [] [] p3) env = (do
      let ov ← attributeBase (.Call (.Name "super" p0) [] [] p1) "__init__" env (eval (.Call (.Name "super" p0) [] [] p1) env)
      standAt p2.atName
      let (f, first) ← holding [ov] (getMethod ov "__init__" (pure false))
      callWith p3 f first (backTo p3 (starEach [] env)) []))
    (hi : ∀ env : Env, env.scope = scope → interactive env = false) (hsw : ∀ env : Env, env.scope = scope → swapsWith (.Call (.Attribute (.Call (.Name "super" p0) [] [] p1) "__init__" p2) [] [] p3) none p4.line env = pure false)
    (len : ∀ vs H Q E, sp vs H Q E → vs.length = ps.length)
    (hbody : ∀ (A : Around) (outer : List Env) (s : Shared) (H : Hp) (vs : List V) (Q : VK) (E : XK), Room k (A.deeper (envF (nf name qual params body scope cc cda) f s.heap.objs.size)) → sp vs H Q E →
      ∃ (a : Addr) (vs' : List V) (tr : TS), vs = .ref a :: vs' ∧ H a = some (exo a D none) ∧ PSs (ncx CX P w K mg base N (nf name qual params body scope cc cda) f A outer s H E) rest tr ∧
        tr { nx := fun _ H' => Q .non H', rt := Q } (startF N vs [some (.ref D)]) H) :
    FnOk P w K mg base CX (k + 1) f fd ps sp := by
  refine fn_pre T S hsup hp0 har hb he hi hsw len fun A outer s H vs Q E hr hsp => ?_
  obtain ⟨a, vs', tr, rfl, ha, hps, hq⟩ := hbody A outer s H vs Q E hr hsp
  refine ⟨a, vs', rfl, ha, fun u s2 I => ?_⟩
  refine kxs_callWith (i := "ValueError.__init__") (x := a) rfl (evalArgs_empty ⟨ClX.pin_at I, ?_⟩)
  have T2 : OexC (ncx CX P w K mg base N (nf name qual params body scope cc cda) f A outer s H E).K D := T.oex
  exact init_mw (X := ncx CX P w K mg base N (nf name qual params body scope cc cda) f A outer s H E) T2 I ha (Nat.zero_le _) fun s' J => hps.run [] s' _ H _ (ClX.unpin J) hq
end
end ZX
set_option maxHeartbeats 2000000
namespace ZX
open PySem PySem.Spec PySem.Calls PyProof.Rows L2
/-! ### == by an own __eq__ -/
def rOwnI (C : Addr) (sp : Sp) (E : XK) : R2 := fun x y H Q => ∃ a dx fs b dy gs, x = .ref a ∧ y = .ref b ∧ H a = some (.ins C dx fs) ∧ H b = some (.ins C dy gs) ∧ sp [x, y] H Q E
theorem op_eqOwn {X : Cx} {CX : CXT} {n : Nat} {C g : Addr} {sp : Sp} {E : XK} (hs : PySem.W.findIn X.K (.ref C) "__eq__" = some (some (.ref g))) (hf : PySem.W.isFn X.K (.ref g) = true) (F : FnR X.prog X.w X.K X.mg X.base CX n g sp) (hr : Room n X.A) (hx : Passes CX X E) :
    OpR X (compareOp .Eq) (rOwnI C sp E) := by
  intro pins s σ H x y v u Q I rx ry h
  obtain ⟨a, dx, fs, b, dy, gs, rfl, rfl, ha, hb, q⟩ := h
  cases (show v = Value.ref a from rx)
  cases (show u = Value.ref b from ry)
  obtain ⟨mA, J, _⟩ := ins_get I.hok ha
  obtain ⟨mB, J', _⟩ := ins_get I.hok hb
  obtain ⟨od, J, _⟩ := J.look
  obtain ⟨od', J', _⟩ := J'.look
  obtain ⟨m, hF⟩ := I.fr
  show wpAny (model X.prog X.w) X.A (richCompare .Eq (.ref a) (.ref b)) (EP X pins σ Q) X.xe s
  refine PySem.W.cmp_K (op := .Eq) (tb := .ref C) hr.units0 hF I.ok.mod.kin J J'.type (by simp [PySem.W.notFirst]) hs hf ?_
  refine wpAny_mono (wpAny_call (run_fnR (us := [.ref a, .ref b]) (vs := [.ref a, .ref b]) F hr hx I (.cons rfl (.cons rfl .nil)) q)) (fun w s' z => ?_) fun _ _ x => x
  obtain ⟨z', H', I', rz, qz⟩ := z
  exact SlX.cmpback rz ⟨z', H', I', rz, qz⟩
/-! ### str(o) by an own __str__ -/
def rStrOwn (C : Addr) (sp : Sp) (E : XK) : List V → Hp → VK → Prop := fun xs H Q => ∃ a dx fs, xs = [.ref a] ∧ H a = some (.ins C dx fs) ∧ sp [.ref a] H (fun v H' => ∃ z : Str, v = .str z ∧ Q v H') E
theorem call_strOwn {X : Cx} {CX : CXT} {n : Nat} {C g : Addr} {sp : Sp} {E : XK} (hs : PySem.W.findIn X.K (.ref C) "__str__" = some (some (.ref g))) (hf : PySem.W.isFn X.K (.ref g) = true) (F : FnR X.prog X.w X.K X.mg X.base CX n g sp) (hr : Room (n + 2) X.A)
    (hx : ∀ (H : Hp) (s : Shared) (e : Value) (s' : Shared), CX X.stack H s E e s' → False) : CallR X (.type "str") (rStrOwn C sp E) := by
  intro pins s σ H xs us Q I r h
  obtain ⟨a, dx, fs, rfl, ha, q⟩ := h
  cases r with
  | cons r1 rs =>
    cases rs
    cases r1
    obtain ⟨mA, J, _⟩ := ins_get I.hok ha
    obtain ⟨od, J, _⟩ := J.look
    refine PySem.W.kso_call (by have := hr.un; show X.A.units + 1 + 1 < _; omega) I.kIn J hs hf ?_
    have hr2 : Room n X.A.in1.in1 := (Room.in1 (k := n) (Room.in1 (k := n + 1) hr))
    refine wpAny_call (codeAny_mono (F X.A.in1.in1 X.stack s H [.ref a] [.ref a] _ E hr2 I.env0.in1.in1 (.cons rfl .nil) q) fun r s' hq => ?_)
    cases r with
    | error e => exact (hx _ _ _ _ hq).elim
    | ok fl =>
      cases fl with
      | ret u =>
        obtain ⟨v, H', I2, rv, z, ev, q2⟩ := I.after hq
        subst ev
        obtain ⟨t, e⟩ := (show ∃ t, u = Value.str z t from rv)
        subst e
        exact ⟨.str z, H', I2, ⟨t, rfl⟩, q2⟩
      | next => exact False.elim hq
      | brk => exact False.elim hq
      | cont => exact False.elim hq
/-! ### C.m(e, ..), m a staticmethod; C(e, ..): what they let out told at the slots -/
structure Stat (K : PySem.W.Frag) (C : Addr) (mc : Value) (m : Str) (p g : Addr) : Prop where
  rd : ClX.CRead K C mc
  at_ : PySem.W.findCls K (.ref C) mc m = some (.get (.builtin "staticmethod.__get__") (.ref p) .none (.ref C))
  rc : ∃ rest, PySem.W.recIn K p "staticmethod" = some (.ref g :: rest)
  kp : PySem.W.keepIn K (.ref g) = true
def tStatS (C : Addr) (sp : Sp) (E : L2.St → XK) (ta : TE) (t : TA) : TE := fun σ H Q => ta σ H fun x H1 => x = .ref C ∧ t σ H1 fun vs H2 => sp vs H2 Q (E σ)
def tMakeS (C : Addr) (sp : Sp) (dvs : List V) (E : L2.St → XK) (t : TA) : TE := fun σ H Q => t σ H fun vs H1 => ∀ x dx, H1 x = none → H1 dx = none → dx ≠ x →
  sp (.ref x :: (vs ++ dvs)) (upd (upd H1 dx (.own x)) x (.ins C dx [])) (fun v H2 => v = .non ∧ Q (.ref x) H2) (E σ)
section
variable {X : Cx} {CX : CXT} {k : Nat} {C p g f : Addr} {mc : Value} {fd : FuncData} {ps : List Str} {sp : Sp} {E : L2.St → XK} {o e : Expr} {es : List Expr} {m x : Str} {pos apos xp : Pos} {ta : TE} {t : TA} {pl : Sem Bool} {dvs : List V} {ds : List Value}
theorem pe_statS (he : PE X o ta) (c : Stat X.K C mc m p g) (F : FnOk X.prog X.w X.K X.mg X.base CX k g fd ps sp) (hb : Binds X.K fd ps []) (hr : Room k X.A) (hx : ∀ σ, PassesAt CX X σ (E σ)) (ha : PA X (e :: es) t)
    (hst : starEach (e :: es) X.env = (false, eval e X.env) :: starEach es X.env := by rfl) (hpl : (backTo pos (starEach es X.env)).any (·.1) = false := by rfl)
    (ht : eval (.Call (.Attribute o m apos) (e :: es) [] pos) X.env = (do
      let ov ← eval o X.env
      standAt apos.atName
      let (f, first) ← holding [ov] (getMethod ov m pl)
      callWith pos f first (backTo pos (starEach (e :: es) X.env)) (backToKw pos (keywordEach [] X.env))) := by rfl) :
    PE X (.Call (.Attribute o m apos) (e :: es) [] pos) (tStatS C sp E ta t) := by
  refine ⟨fun pins s σ H Q I h => ?_⟩
  refine PySem.W.methodCall_KW (pl := pl) (thn (he.run pins s σ H _ I h) fun u s1 ⟨x, H1, I1, rx, ex, q⟩ => ?_) ht
  subst ex
  obtain rfl : u = Value.ref C := rx
  obtain ⟨rest, hp⟩ := c.rc
  refine PySem.W.method_cls I1.kIn c.rd.ga (PySem.W.cls_bind I1.kIn c.rd.rd c.at_ (wpAny_call (PySem.W.sm_get (s := { s1 with toks := s1.toks + 1 }) I1.kIn hp (PySem.W.handed_on rfl ?_))))
  refine PySem.W.callWith_K (h₀ := X.base) I1.ok.mod.kin c.kp (thn (ha.run pos pins _ σ H1 _ (I1.tok _) q) fun us s2 ⟨vs, H2, I2, r, q2⟩ => ⟨I2.kIn, ?_⟩) hst hpl
  exact run_fnS F hr hb (hx σ) I2 r q2
theorem run_makeS {pins : List (Addr × Obj)} {σ : L2.St} {H : Hp} {s : Shared} {Q : VK} {us : List Value} {vs : List V} (M : Mk X.K C f) (F : FnOk X.prog X.w X.K X.mg X.base CX k f fd ps sp) (hr : Room (k + 1) X.A) (hb : Binds X.K fd ps ds) (hd : Vals dvs ds)
    (hx : PassesAt CX X σ (E σ)) (I : Inv X pins σ H s) (r : Vals vs us)
    (h : ∀ x dx, H x = none → H dx = none → dx ≠ x → sp (.ref x :: (vs ++ dvs)) (upd (upd H dx (.own x)) x (.ins C dx [])) (fun v H2 => v = .non ∧ Q (.ref x) H2) (E σ)) :
    wpAny (model X.prog X.w) X.A (call (.ref C) us) (EP X pins σ Q) X.xe s := by
  have hq := h (s.heap.objs.size + 1) s.heap.objs.size (I.hok.fresh (Nat.le_succ _)) (I.hok.fresh (Nat.le_refl _)) (Nat.ne_of_lt (Nat.lt_succ_self _))
  have I2 := Inv.made (C := C) I
  have r2 : Vals (V.ref (s.heap.objs.size + 1) :: (vs ++ dvs)) (Value.ref (s.heap.objs.size + 1) :: (us ++ ds)) := .cons rfl (r.append hd)
  have hl : (Value.ref (s.heap.objs.size + 1) :: us ++ ds).length = ps.length := by
    have e := r2.length
    rw [F.len _ _ _ _ hq] at e
    exact e.symm
  refine wpAny_call (make_map (f := f) I.kIn M.makes M.init (beq_iff_eq.mp M.fn) (codeAny_mono (F.run _ X.stack _ _ ⟨Value.ref (s.heap.objs.size + 1) :: us, []⟩ (Value.ref (s.heap.objs.size + 1) :: (us ++ ds)) _ _ (E σ) (hr.make C us [])
    (I2.env0.make C us []) (hb _ (Value.ref (s.heap.objs.size + 1) :: us) I2.kIn hl) r2 hq) fun r s' hq' => ?_))
  cases r with
  | error e => exact hx pins _ _ e s' I2 hq'
  | ok fl =>
    cases fl with
    | ret u =>
      obtain ⟨v, H', I3, rv, ev, q3⟩ := I2.after hq'
      subst ev
      exact ⟨rv, ⟨V.ref (s.heap.objs.size + 1), H', I3, rfl, q3⟩⟩
    | next => exact False.elim hq'
    | brk => exact False.elim hq'
    | cont => exact False.elim hq'
theorem pe_makeS (M : Mk X.K C f) (F : FnOk X.prog X.w X.K X.mg X.base CX k f fd ps sp) (hr : Room (k + 1) X.A) (hg : Gl X x) (hm : X.mg x = some (.ref C)) (hb : Binds X.K fd ps ds) (hd : Vals dvs ds) (hx : ∀ σ, PassesAt CX X σ (E σ))
    (ha : PA X (e :: es) t) (hdb : (x == ("__debug__" : Str)) = false := by decide) (he : starEach (e :: es) X.env = (false, eval e X.env) :: starEach es X.env := by rfl) (hpl : (backTo pos (starEach es X.env)).any (·.1) = false := by rfl) :
    PE X (.Call (.Name x xp) (e :: es) [] pos) (tMakeS C sp dvs E t) := by
  refine ⟨fun pins s σ H Q I h => ?_⟩
  refine wpAny_Call_Name_kw (ld_glob I hg hm ?_ hdb)
  refine PySem.W.callWith_K (h₀ := X.base) I.ok.mod.kin M.kp (thn (ha.run pos pins s σ H _ I h) fun us s1 ⟨vs, H1, I1, r, q⟩ => ⟨I1.kIn, ?_⟩) he hpl
  exact run_makeS M F hr hb hd (hx σ) I1 r q
end
/-! ### text[::-1] -/
open TL in
def revT (z : Str) : Str := ⟨(tl z).reverse.toArray⟩
open TL in
theorem sliceBy_rev (z : Str) (u : Tok) : Txt.sliceBy z none none (-1, u) = revT z := by
  refine ext_tl ?_
  show (Txt.sliceBy z none none (-1, u)).cps.toList = (tl z).reverse
  rw [step_rev_list]
  have hl : z.length = (tl z).length := len_tl z
  refine List.ext_getElem (by rw [List.length_map, List.length_range, List.length_reverse, hl]) fun i h1 h2 => ?_
  rw [List.length_map, List.length_range] at h1
  rw [List.getElem_map, List.getElem_range, List.getElem_reverse]
  have hi : z.length - 1 - i < z.cps.size := by
    show z.length - 1 - i < z.length
    omega
  have e : z.cps.getD (z.length - 1 - i) 0 = z.cps[z.length - 1 - i] := by simp [Array.getD, hi]
  rw [e]
  have e2 : z.cps[z.length - 1 - i] = (tl z)[z.length - 1 - i]'(by rw [← hl]; exact hi) := by simp [tl]
  rw [e2]
  congr 1
def tRevS (te : TE) : TE := fun σ H Q => te σ H fun x H1 => ∃ z : Str, x = .str z ∧ z.length ≤ sizeLine ∧ Q (.str (revT z)) H1
theorem pe_revS {X : Cx} {e : Expr} {te : TE} {k : Nat} {p1 p2 p3 pos : Pos} (he : PE X e te) : PE X (.Subscript e (.Slice none none (some (.UnaryOp .USub (.Constant (.int 1) k p1) p2)) p3) pos) (tRevS te) := by
  refine ⟨fun pins s σ H Q I h => ?_⟩
  refine Subscript_ (thn (he.run pins s σ H _ I h) fun v s1 ⟨x, H1, I1, r1, q1⟩ => ?_)
  obtain ⟨z, ex, hz, q⟩ := q1
  subst ex
  obtain ⟨t, rfl⟩ := r1
  have hst : PO X (some (.UnaryOp .USub (.Constant (.int 1) k p1) p2)) (tPart (tUn (rU fun i => .int (-i)) (tC (.int 1)))) := po_some (pe_un un_neg pe_int)
  refine wpAny_Slice (thn (po_none.run pins s1 σ H1 (fun o H2 => o = none ∧ H2 = H1) I1 ⟨rfl, rfl⟩) fun vl s2 ⟨l, H2, I2, pl, el, e2⟩ => ?_)
  subst el e2
  refine thn (po_none.run pins s2 σ H2 (fun o H3 => o = none ∧ H3 = H2) I2 ⟨rfl, rfl⟩) fun vu s3 ⟨u, H3, I3, pu, eu, e3⟩ => ?_
  subst eu e3
  refine thn (hst.run pins s3 σ H3 (fun o H4 => o = some (-1) ∧ H4 = H3) I3 ⟨1, rfl, -1, rfl, rfl, rfl⟩) fun vs s4 ⟨o, H4, I4, ps, eo, e4⟩ => ?_
  subst eo e4
  have I5 : Inv X pins σ H4 { s4 with heap := s4.heap.push { cls := .type "slice", data := .fields #[vl, vu, vs] } } := I4.kept (t' := s4.toks) fun b ob q => Heap.get?_push_of_some _ q
  show wpAny (model X.prog X.w) X.A (subscriptTail e (.Slice none none (some (.UnaryOp .USub (.Constant (.int 1) k p1) p2)) p3) (.str z t) (.ref s4.heap.objs.size)) (EP X pins σ Q) X.xe { s4 with heap := s4.heap.push { cls := .type "slice", data := .fields #[vl, vu, vs] } }
  refine tail_any (ops := [.str z t, .ref s4.heap.objs.size]) (typeIs_str _ _ _) (PySem.F.slot_str_getitem.lookup) ?_ (by with_unfolding_all rfl)
  obtain ⟨l, rfl, el⟩ := IsPart.raw pl
  cases l with
  | some l => cases el
  | none =>
    obtain ⟨u', rfl, eu'⟩ := IsPart.raw pu
    cases u' with
    | some u' => cases eu'
    | none =>
      obtain ⟨st, rfl, est⟩ := IsPart.raw ps
      cases st with
      | none => cases est
      | some st =>
        obtain ⟨si, st⟩ := st
        have esi : si = -1 := Option.some.inj est
        subst esi
        refine wpAny_getItem_str_slice (l := none) (u := none) (st := some (-1, st)) ⟨_, Heap.get?_push_size _ rfl, rfl, rfl⟩ rfl ?_
        have hl : (Txt.sliceBy z none none (-1, st)).length ≤ sizeLine := by
          rw [step_rev_len]
          exact hz
        have eq := sliceBy_rev z st
        unfold Txt.sliceBy at eq hl
        have hc : ¬ ((((some ((-1 : Int), st)).map (·.1)).getD 1 == 1 && (slicePicked z none none (some (-1, st))).length == z.length) = true) := by
          have : ((((some ((-1 : Int), st)).map (·.1)).getD 1 == 1)) = false := rfl
          rw [this]; simp
        rw [if_neg hc] at eq hl
        show Made.post (if (((some ((-1 : Int), st)).map (·.1)).getD 1 == 1 && (slicePicked z none none (some (-1, st))).length == z.length) = true then Made.val (.str z t) else Made.str ⟨((slicePicked z none none (some (-1, st))).filterMap (z.cps[·]?)).toArray⟩) (EP X pins σ Q) _
        rw [if_neg hc]
        rw [← eq] at q
        exact ⟨hl, .str _, _, I5.tok _, ⟨_, rfl⟩, q⟩
/-! ### isinstance(e, c), e the exception that the suite holds, with a dict of its own -/
section
open PySem.W
variable {prog : Program} {w : World} {A : Around} {E : Value → Shared → Prop} {s : Shared} {K : Frag} {x D : Addr} {ox od : Obj}
theorem kin_classED {Q : Option Value → Shared → Prop} (hga : findIn K (.ref D) "__getattribute__" = some (some (.builtin "BaseException.__getattribute__"))) (hgt : findIn K (.ref D) "__getattr__" = some none) (hsub : subIn K (.ref D) (.type "BaseException") = some true)
    (hdct : hasDictIn K D = true) (ha : findIn K (.ref D) "__class__" = some (some (.builtin "object.__class__")))
    (hn : specialIn K (.builtin "object.__class__") "__get__" = some (some (.builtin "getset_descriptor.__get__"))) (htk : takesIn K (.builtin "object.__class__") = some true) (hm : mroIn K D (.type "object") = some true)
    (X : K.In s.heap) (I : InstAt s.heap x ox D (some od)) (h : Q (some (.ref D)) { s with toks := s.toks + 1 }) : wpAny (model prog w) A (getAttr? (.ref x) "__class__") Q E s := by
  have hf : findObj K D (some od) "__class__" = some (.bind (.builtin "getset_descriptor.__get__") (.builtin "object.__class__")) := findObj_data (by obtain ⟨cd, hc, _⟩ := any_some hdct; rw [hc]; rfl) ha hn htk
  obtain ⟨hp, g, d, t, os⟩ := s
  have L0 := I.type (M := model prog w)
  have L1 := looks_findIn (M := model prog w) X hga
  have L2 := looks_findIn (M := model prog w) X hgt
  have L3 := looks_find (M := model prog w) X I hf
  have sub : Looks (model prog w) hp (isInstance (.ref x) (.type "BaseException")) true := L0.andThen (looks_subIn X hsub)
  have hx0 : (false && onTheHeap (Value.builtin "BaseException.__getattribute__")) = false := rfl
  have hx2 : (Value.builtin "BaseException.__getattribute__" == Value.builtin "object.__getattribute__") = false := by decide +kernel
  have hx1 : (onTheHeap (Value.ref D) && Value.builtin "BaseException.__getattribute__" == Value.builtin "object.__getattribute__") = false := by rw [hx2]; rfl
  unfold getAttr? getAttrBy? getAttrBy
  refine wpAny_bind (wpAny_mkText (wpAny_bind (wpAny_attempt (wpAny_holding (wpAny_bind (L0.at (wpAny_bind (L1.at ?_))))))))
  show wpAny _ _ (if (onTheHeap (Value.ref D) && Value.builtin "BaseException.__getattribute__" == Value.builtin "object.__getattribute__") = true then _ else _) _ _ _
  rw [hx1, if_neg Bool.false_ne_true]
  unfold getAttrByItsOwn hookBefore
  refine wpAny_bind ?_
  rw [if_pos (show onTheHeap (Value.ref D) = true from rfl)]
  refine L2.at ?_
  refine wpAny_bind (wpAny_attempt (wpAny_holding ?_))
  unfold callGetattribute
  rw [hx0, if_neg Bool.false_ne_true]
  unfold boundAndCalled
  rw [PySem.F.excAttr_ValueError.ga.bind (.ref x)]
  refine wpAny_bind (wpAny_pure ?_)
  show wpAny _ _ (call (.builtin "BaseException.__getattribute__") [.ref x, .str "__class__" t]) _ _ _
  refine wpAny_call (codeAny_call_builtin PySem.F.excAttr_ValueError.ga.plain PySem.F.entry_bexc_ga ?_)
  refine @check_slot (model prog w) _ _ ⟨hp, g, d, t + 1, os⟩ "BaseException.__getattribute__" "BaseException" "__getattribute__" (.ref x) [.str "__class__" t] [] _ (by decide +kernel) (by decide +kernel) sub (PySem.F.args_bexc_ga (.ref x) (.str "__class__" t)) ?_
  unfold Builtin.«object.__getattribute__»
  refine wpAny_bind (wpAny_of_eq (a := ((Value.ref x : Value), [Value.str "__class__" t])) (by first | rfl | (simp only [slotArgs]; rfl)) ?_)
  refine wpAny_bind (wpAny_pure (wpAny_bind (L0.at (wpAny_bind (L3.at ?_)))))
  show wpAny _ _ (holding [Value.builtin "object.__class__"] (call (.builtin "getset_descriptor.__get__") [.builtin "object.__class__", .ref x, .ref D]) >>= ret) _ _ _
  refine wpAny_bind (wpAny_holding (wpAny_call (class_get (s := ⟨hp, g, d, t + 1, os⟩) (ox := ox) (od := some od) X I hm ?_)))
  refine wpAny_pure ?_
  show wpAny _ _ (handedOut (.ref D)) _ _ _
  rw [handedOut_of (v := .ref D) rfl]
  first
    | exact wpAny_pure (wpAny_pure h)
    | exact wpAny_pure h
    | exact wpAny_pure (wpAny_bind (wpAny_pure (wpAny_pure h)))
theorem kitx_excD (hga : findIn K (.ref D) "__getattribute__" = some (some (.builtin "BaseException.__getattribute__"))) (hgt : findIn K (.ref D) "__getattr__" = some none) (hsub : subIn K (.ref D) (.type "BaseException") = some true) (hdct : hasDictIn K D = true) (ha : findIn K (.ref D) "__class__" = some (some (.builtin "object.__class__")))
    (hn : specialIn K (.builtin "object.__class__") "__get__" = some (some (.builtin "getset_descriptor.__get__"))) (htk : takesIn K (.builtin "object.__class__") = some true) (hm : mroIn K D (.type "object") = some true) :
    KitX K (.ref x) (.ref D) (fun h => InstAt h x ox D (some od)) where
  ty := fun _ _ _ I => I.type
  it := fun _ _ X _ => by
    obtain ⟨cdD, hcD, _⟩ := any_some hdct
    unfold clsIn at hcD
    split at hcD
    · rename_i c' d' cd' sl' ho
      intro A' Q' E' s' k q
      unfold isType loadHead
      exact wpAny_bind (wpAny_loadPart (k _ _ (X _ _ ho)) (wpAny_pure q))
    · cases hcD
  ne := fun h tp dd its n sl X htp => by
    obtain ⟨cdD, hcD, _⟩ := any_some hdct
    refine Bool.eq_false_iff.mpr fun q => ?_
    have e : D = tp := Value.ref.inj (beq_iff_eq.mp q)
    subst e
    unfold clsIn at hcD
    split at hcD
    · rename_i c' d' cd' sl' ho
      have z := (X _ _ ho).symm.trans htp
      cases z
    · cases hcD
  ca := fun X I k => kin_classED hga hgt hsub hdct ha hn htk hm X I k
end
def rIsED (K : PySem.W.Frag) (D a dd : Addr) : List V → Hp → VK → Prop := fun xs H Q => ∃ (c : V) (cv : Value) (b : Bool) (fs : List (Str × V)), xs = [.ref a, c] ∧ (∀ u, RelV c u → u = cv) ∧ H dd = some (.xd fs) ∧ PySem.W.kitOne K (.ref D) cv = some b ∧ Q (.bl b) H
theorem call_isED {X : Cx} {a D dd : Addr} {oe : Obj} {pn : List (Addr × Obj)} (C : ExcC X.K D) (hz : Zc (.ref D) (some dd) oe) (hf : ∃ vs, oe.data = .fields vs) : CallR (X.suite a ((a, oe) :: pn)) (.builtin "isinstance") (rIsED X.K D a dd) := by
  intro pins s σ H xs us Q I r h
  obtain ⟨c, cv, b, fs, rfl, hcv, hdd, e, q⟩ := h
  cases r with
  | cons rx rr =>
    cases rr with
    | cons rt rr =>
      cases rr
      cases rx
      have ec := hcv _ rt
      subst ec
      obtain ⟨hget, _⟩ := I.pin (a, oe) (List.mem_append.mpr (.inl List.mem_cons_self))
      obtain ⟨vs, hv⟩ := hf
      have hx : ObjOk X.prog X.w H s.heap dd (.xd fs) := I.hok dd _ hdd
      obtain ⟨mA, ⟨od, es, ep, ho, hns⟩, hr⟩ := hx
      have J : PySem.W.InstAt s.heap a oe D (some od) := by
        obtain ⟨oc, odd, oda, osl⟩ := oe
        obtain ⟨h1, h2⟩ := hz
        dsimp only at h1 h2 hv
        subst h1 h2 hv
        exact ⟨hget, rfl, rfl, ho⟩
      exact PySem.W.kia_one (kitx_excD C.hg C.hk C.hs C.hd C.ha C.hn C.ht C.hm) I.kIn J e (fun z => nomatch z) fun tk => ⟨.bl b, H, I.kept (t' := tk) fun _ _ z => z, rfl, q⟩
end ZX
set_option maxHeartbeats 2000000
namespace ZX
open PySem PySem.Spec PyProof.Rows L2 He
/-! ### the head: defs, methods, staticmethods, errors' __init__s, by one Hook -/
/-- where a def stands -/
theorem DefA.parts {K : PySem.W.Frag} {d : DefA} (e : fnC K (d.at_.ad K) = d.val) (c : d.ok K = true) : PySem.W.keepIn K (.ref (d.at_.ad K)) = true ∧ ∃ (oc : Value) (od : Option Addr) (osl : Array (Option Value)) (fd : FuncData), K.lookup (d.at_.ad K) = some ⟨oc, od, .func fd, osl⟩ ∧
    PySem.W.codeIn K fd.code d.qual = true ∧ DflV K fd.defaults (d.dvs K) ∧ fd.name = d.name ∧ fd.qualname = d.qual ∧ fd.params = d.params ∧ fd.body = .stmts d.body ∧ fd.scope = d.scope ∧ fd.globals = mainGlobals ∧ fd.closure.map (·.1) = d.clo ∧ fd.builtins = builtinsNs := by
  obtain ⟨kp, c2⟩ := ba c
  refine ⟨kp, ?_⟩
  unfold fnC at e
  cases q : K.lookup (d.at_.ad K) with
  | none =>
    rw [q] at c2
    cases c2
  | some o =>
    obtain ⟨oc, od, dt, osl⟩ := o
    rw [q] at c2 e
    cases dt with
    | func fd =>
      have e2 : (some (fd.name, fd.qualname, fd.params, fd.body, fd.scope, fd.globals, fd.closure.map (·.1), fd.builtins) : FnC) = some (d.name, d.qual, d.params, .stmts d.body, d.scope, mainGlobals, d.clo, builtinsNs) := e
      simp only [Option.some.injEq, Prod.mk.injEq] at e2
      obtain ⟨h1, h2, h3, h4, h5, h6, h7, h8⟩ := e2
      have c3 : (PySem.W.codeIn K fd.code d.qual && dflB K fd.defaults (d.dvs K)) = true := c2
      obtain ⟨k1, k2⟩ := ba c3
      exact ⟨oc, od, osl, fd, rfl, k1, dflB_ok k2, h1, h2, h3, h4, h5, h6, h7, h8⟩
    | _ => cases c2
theorem DefA.funD {K : PySem.W.Frag} {d : DefA} (e : fnC K (d.at_.ad K) = d.val) (c : d.ok K = true) (hc : d.clo = []) : ∃ fd, FunD K d.name d.qual d.params d.body d.scope (d.dvs K) [] (d.at_.ad K) fd := by
  obtain ⟨kp, oc, od, osl, fd, q, k1, k2, h1, h2, h3, h4, h5, h6, h7, h8⟩ := d.parts e c
  obtain ⟨n1, n2, n3, n4, n5, n6, n7, n8, n9, n10, n11, n12, n13, n14, n15⟩ := fd
  dsimp only at h1 h2 h3 h4 h5 h6 h7 h8 k1 k2
  rw [hc] at h7
  have h7 := List.map_eq_nil_iff.mp h7
  subst h1 h2 h3 h4 h5 h6 h7 h8
  exact ⟨_, ⟨oc, od, n8, n9, n10, n11, n12, n13, n14, osl, rfl, q, k1, k2, .inl rfl⟩, kp⟩
/-! ### an error's class and its __init__ -/
theorem oexCls_ok {K : PySem.W.Frag} {C : Addr} (q : oexClsB K C = true) : ∃ nm qn N bs bm sn sub ab col dd k0 k1 k2 k3 k5, K.lookup C = some (excClassObj nm qn C N bs bm true sn sub ab col dd k0 k1 k2 k3 k5 "ValueError.__new__") ∧ HandSPX.refsVE bm = true := by
  unfold oexClsB at q
  split at q
  · rename_i dd cd sl ho
    split at q
    · rename_i C' bm k0 k1 k2 k3 n k5 hm hs
      simp only [Bool.and_eq_true, beq_iff_eq, Bool.not_eq_true'] at q
      obtain ⟨⟨⟨⟨rfl, rfl⟩, hdel⟩, hd⟩, hok⟩ := q
      obtain ⟨nm, bs, mro, ns, qn, hd', sn, sub, ab, col, del⟩ := cd
      dsimp only at hm hdel hd
      subst hm hdel hd
      have hsl : sl = #[k0, k1, k2, k3, some (.builtin "ValueError.__new__"), k5] := by
        obtain ⟨l⟩ := sl
        simp only at hs
        rw [hs]
      subst hsl
      exact ⟨nm, qn, ns, bs, bm, sn, sub, ab, col, dd, k0, k1, k2, k3, k5, ho, hok⟩
    · cases q
  · cases q
structure Err (P : Program) (K : PySem.W.Frag) (x : Str) (fd : FuncData) (d : DefA) : Prop where
  sup : Sup P K (ga K x) (ma K (ga K x) "__init__") (ccOf K (ma K (ga K x) "__init__")) (cdOf K (ma K (ga K x) "__init__")) fd d.name d.qual d.params d.body d.scope
  init : PySem.W.findIn K (.ref (ga K x)) "__init__" = some (some (.ref (ma K (ga K x) "__init__")))
  ty : PySem.W.typeIn K (.ref (ma K (ga K x) "__init__")) = some (.type "function")
theorem err_ok {P : Program} {K : PySem.W.Frag} {x fl : Str} {d : DefA} (h : errB K fl x = true) (hfl : ((P.main.file : Str) == fl) = true) (htop : (P.main.scope.names.lookup ("super" : Str)).isSome = false) (hs : PySem.W.nsIn K mainGlobals "super" = some none) (h3 : PySem.W.nsIn K cStatics "thirdparty.any" = some none)
    (hat : d.at_ = .met x "__init__") (e : fnC K (d.at_.ad K) = d.val) (c : d.ok K = true) (hc : d.clo = [("__class__" : Str)]) : ∃ fd, Err P K x fd d := by
  obtain ⟨kp, oc, od, osl, fd, q, k1, k2, g1, g2, g3, g4, g5, g6, g7, g8⟩ := d.parts e c
  obtain ⟨a1, h⟩ := ba h
  obtain ⟨a2, h⟩ := ba h
  obtain ⟨a3, h⟩ := ba h
  obtain ⟨a4, h⟩ := ba h
  obtain ⟨a5, h⟩ := ba h
  obtain ⟨a6, h⟩ := ba h
  obtain ⟨a7, h⟩ := ba h
  obtain ⟨a8, h⟩ := ba h
  obtain ⟨a9, h⟩ := ba h
  obtain ⟨a10, h⟩ := ba h
  obtain ⟨a11, a12⟩ := ba h
  have ead : d.at_.ad K = ma K (ga K x) "__init__" := by rw [hat] <;> rfl
  rw [ead] at q kp
  obtain ⟨n1, n2, n3, n4, n5, n6, n7, n8, n9, n10, n11, n12, n13, n14, n15⟩ := fd
  dsimp only at g1 g2 g3 g4 g5 g6 g7 g8 k1 k2
  rw [hc] at g7
  obtain ⟨cc, ecl⟩ : ∃ cc, n7 = [(("__class__" : Str), cc)] := by
    cases n7 with
    | nil => cases g7
    | cons p r =>
      cases r with
      | nil =>
        obtain ⟨y, z⟩ := p
        have : y = "__class__" := by
          have := List.cons.inj g7
          exact this.1
        exact ⟨z, by rw [this]⟩
      | cons p2 r2 => cases (List.cons.inj g7).2
  obtain ⟨cda, ecd⟩ : ∃ cda, n13 = .ref cda := by
    cases n13 with
    | ref c => exact ⟨c, rfl⟩
    | _ => cases k1
  subst ecl ecd g1 g2 g3 g4 g5 g6 g8
  have ecc : ccOf K (ma K (ga K x) "__init__") = cc := by
    unfold ccOf
    rw [q]
  have ecda : cdOf K (ma K (ga K x) "__init__") = cda := by
    unfold cdOf
    rw [q]
  refine ⟨_, ⟨⟨oc, od, osl, _, _, _, _, _, _, rfl, by rw [ecc, ecda]; exact q⟩, by rw [ecda]; exact k1, ?_, ?_, hs, h3, htop, of_decide_eq_true a8, of_decide_eq_true a6, of_decide_eq_true a7, ⟨oexCls_ok a1, eqO_ok a2, of_decide_eq_true a3, of_decide_eq_true a4, a5⟩⟩, eqO_ok a9, of_decide_eq_true a10⟩
  · cases z : K.lookup (ccOf K (ma K (ga K x) "__init__")) with
    | none => rw [z] at a11; cases a11
    | some o =>
      obtain ⟨o1, o2, o3, o4⟩ := o
      rw [z] at a11
      cases o3 with
      | cell v =>
        cases v with
        | none => cases a11
        | some v =>
          have ev : v = .ref (ga K x) := of_decide_eq_true a11
          rw [ev]
          exact ⟨_, _, _, rfl⟩
      | _ => cases a11
  · cases z : K.lookup (cdOf K (ma K (ga K x) "__init__")) with
    | none => rw [z] at a12; cases a12
    | some o =>
      obtain ⟨o1, o2, o3, o4⟩ := o
      rw [z] at a12
      cases o3 with
      | fields vs =>
        have a12 : (match (vs[2]? : Option Value) with
          | some (Value.str f _) => decide (fl = f)
          | _ => false) = true := a12
        cases y : vs[2]? with
        | none => rw [y] at a12; cases a12
        | some v =>
          rw [y] at a12
          cases v with
          | str f t =>
            have ef : fl = f := of_decide_eq_true a12
            exact ⟨_, _, vs, _, f, t, rfl, y, by rw [← ef]; exact hfl⟩
          | _ => cases a12
      | _ => cases a12
/-- what isinstance and the fields ask of an error's class -/
theorem excC_ok {K : PySem.W.Frag} {D : Addr} (h : excCB K D = true) : ExcC K D := by
  obtain ⟨a1, h⟩ := ba h
  obtain ⟨a2, h⟩ := ba h
  obtain ⟨a3, h⟩ := ba h
  obtain ⟨a4, h⟩ := ba h
  obtain ⟨a5, h⟩ := ba h
  obtain ⟨a6, h⟩ := ba h
  obtain ⟨a7, a8⟩ := ba h
  exact ⟨eqO_ok a1, eqO_ok a2, of_decide_eq_true a3, a4, eqO_ok a5, eqO_ok a6, of_decide_eq_true a7, of_decide_eq_true a8⟩
/-- what isinstance asks of an own object's class -/
structure InsC (K : PySem.W.Frag) (C : Addr) : Prop where
  ha : PySem.W.findIn K (.ref C) "__class__" = some (some (.builtin "object.__class__"))
  hn : PySem.W.specialIn K (.builtin "object.__class__") "__get__" = some (some (.builtin "getset_descriptor.__get__"))
  htk : PySem.W.takesIn K (.builtin "object.__class__") = some true
  hm : PySem.W.mroIn K C (.type "object") = some true
theorem insC_ok {K : PySem.W.Frag} {D : Addr} (h : insCB K D = true) : InsC K D := by
  obtain ⟨a5, h⟩ := ba h
  obtain ⟨a6, h⟩ := ba h
  obtain ⟨a7, a8⟩ := ba h
  exact ⟨eqO_ok a5, eqO_ok a6, of_decide_eq_true a7, of_decide_eq_true a8⟩
/-- a staticmethod -/
theorem stat_ok {K : PySem.W.Frag} {x m : Str} (h : statB K x m = true) : Stat K (ga K x) (.type "type") m (ma K (ga K x) m) ((Pl.sta x m).ad K) := by
  obtain ⟨a1, h⟩ := ba h
  obtain ⟨a2, h⟩ := ba h
  obtain ⟨a3, h⟩ := ba h
  obtain ⟨a4, a5⟩ := ba h
  refine ⟨⟨a1, eqO_ok a2⟩, ?_, ?_, a5⟩
  · split at a3
    · rename_i n p C z
      obtain ⟨b1, b2⟩ := ba a3
      obtain ⟨b3, b4⟩ := ba b2
      rw [z, of_decide_eq_true b1, of_decide_eq_true b3, of_decide_eq_true b4]
    · cases a3
  cases z : PySem.W.recIn K (ma K (ga K x) m) "staticmethod" with
  | none => rw [z] at a4; cases a4
  | some l =>
    cases l with
    | nil => rw [z] at a4; cases a4
    | cons v r =>
      rw [z] at a4
      cases v with
      | ref g =>
        have eg : g = (Pl.sta x m).ad K := of_decide_eq_true a4
        exact ⟨r, by rw [eg]⟩
      | _ => cases a4
/-! ### the Hook -/
section
variable {fa : List Fa} {ex : PySem.W.Frag → Bool} {fn : List DefA} {K : PySem.W.Frag}
theorem SaysA.fact (c : SaysA fa ex fn K) (i : Nat) {f : Fa} (h : fa[i]? = some f := by rfl) : f.ok K = true := by
  have c1 := (ba (show ((fa.all fun f => f.ok K) && (ex K && fn.all fun d => d.ok K)) = true from congrArg (fun z : AlA => z.1) c)).1
  exact List.all_eq_true.mp c1 f (List.mem_of_getElem? h)
theorem SaysA.more (c : SaysA fa ex fn K) : ex K = true := (ba (ba (show ((fa.all fun f => f.ok K) && (ex K && fn.all fun d => d.ok K)) = true from congrArg (fun z : AlA => z.1) c)).2).1
theorem SaysA.def_ (c : SaysA fa ex fn K) (i : Nat) {d : DefA} (h : fn[i]? = some d := by rfl) : fnC K (d.at_.ad K) = d.val ∧ d.ok K = true := by
  have c2 := (ba (ba (show ((fa.all fun f => f.ok K) && (ex K && fn.all fun d => d.ok K)) = true from congrArg (fun z : AlA => z.1) c)).2).2
  have e : fn.map (fun d => fnC K (d.at_.ad K)) = fn.map DefA.val := congrArg (fun z : AlA => z.2) c
  have e2 : (fn.map fun d => fnC K (d.at_.ad K))[i]? = (fn.map DefA.val)[i]? := by rw [e]
  rw [List.getElem?_map, List.getElem?_map, h] at e2
  exact ⟨Option.some.inj e2, List.all_eq_true.mp c2 d (List.mem_of_getElem? h)⟩
end
end ZX
set_option maxHeartbeats 2000000
namespace ZX
open PySem PySem.Spec PyProof.Rows L2 TL
/-- C(e, ..), C an own error with its own __init__, where nothing is handled: the error's context is None -/
theorem pmk_oexN {X : Cx} {CX : CXT} {x : Str} {C fI : Addr} {k : Nat} {fd : FuncData} {ps : List Str} {sp : Sp} {ta : TA} {e : Expr} {es : List Expr} {p pos : Pos} (T : OexC X.K C) (iC : PySem.W.findIn X.K (.ref C) "__init__" = some (some (.ref fI)))
    (tI : PySem.W.typeIn X.K (.ref fI) = some (.type "function")) (F1 : FnOk X.prog X.w X.K X.mg X.base CX k fI fd ps sp) (hr : Room (k + 1) X.A) (hb : Binds X.K fd ps []) (hx : Passes CX X (fun _ _ _ => False)) (hg : Gl X x) (hm : X.mg x = some (.ref C)) (ha : PA X (e :: es) ta)
    (hdb : (x == ("__debug__" : Str)) = false := by decide) (he : starEach (e :: es) X.env = (false, eval e X.env) :: starEach es X.env := by rfl) (hpl : (backTo pos (starEach es X.env)).any (·.1) = false := by rfl) :
    L2N.PMk X (.Call (.Name x p) (e :: es) [] pos) (tMkO C sp [] ta) := by
  intro pins s σ H Q I h
  obtain ⟨nm, q, N, bs, bm, sn, sub, ab, col, dd, k0, k1, k2, k3, k5, hC, hbm⟩ := T.cls
  refine wpAny_Call_Name_kw (ld_glob I hg hm ?_ hdb)
  refine PySem.W.callWith_K (h₀ := X.base) I.ok.mod.kin T.kC (thn (ha.run pos pins s σ H _ I h) fun us s1 ⟨vs, H1, I1, r1, hz, q1⟩ => ⟨I1.kIn, ?_⟩) he hpl
  obtain ⟨hp, g, dr, tk, os⟩ := s1
  have new : H1 (hp.objs.size + 1) = none := I1.hok.fresh (Nat.le_succ _)
  have hq := q1 (hp.objs.size + 1) new
  rw [List.append_nil] at hq
  have grow : ∀ b o, hp.get? b = some o → ((hp.push (PySem.W.kdv_tup us)).push (PySem.HandSPX.excO C hp.objs.size)).get? b = some o := fun b o z => Heap.get?_push_of_some _ (Heap.get?_push_of_some _ z)
  have I2 : Inv X pins σ (upd H1 (hp.objs.size + 1) (exo (hp.objs.size + 1) C none)) ⟨(hp.push (PySem.W.kdv_tup us)).push (PySem.HandSPX.excO C hp.objs.size), g, dr, tk, os⟩ :=
    I1.laid (t' := tk) (a := hp.objs.size + 1) (o := exo (hp.objs.size + 1) C none) (h' := (hp.push (PySem.W.kdv_tup us)).push (PySem.HandSPX.excO C hp.objs.size)) grow (Nat.le_succ _) (exo_ok (by heap_get))
  have r2 : Vals (V.ref (hp.objs.size + 1) :: vs) (Value.ref (hp.objs.size + 1) :: us) := .cons rfl r1
  have lens : (Value.ref (hp.objs.size + 1) :: us).length = ps.length := r2.length.symm.trans (F1.len _ _ _ _ hq)
  have b2 := hb _ (Value.ref (hp.objs.size + 1) :: us) I2.kIn (by rw [List.append_nil]; exact lens)
  rw [List.append_nil] at b2
  have few : us.length ≤ sizeLine := by
    rw [← Paired.length r1, sizeLine_eq]
    omega
  show wpAny _ _ (call (.ref C) us) _ _ _
  refine wpAny_call (PySem.HandSPX.call_own F.excBase_ValueError (fun Y => PySem.HandSPX.refsVE_contains Y bm hbm) (I1.kIn _ _ hC) (PySem.W.looks_findIn I1.kIn iC) (fun self => PySem.W.bind_fn I1.kIn self tI) few
    (codeAny_mono (FnOk.run F1 _ X.stack _ _ ⟨Value.ref (hp.objs.size + 1) :: us, []⟩ (Value.ref (hp.objs.size + 1) :: us) _ _ (fun _ _ _ => False) (hr.make C us []) (I2.env0.make C us []) b2 r2 hq) fun r s' hq' => ?_))
  cases r with
  | error er => exact hx pins σ _ _ er s' I2 hq'
  | ok fl =>
    cases fl with
    | next => exact hq'.elim
    | brk => exact hq'.elim
    | cont => exact hq'.elim
    | ret u =>
      obtain ⟨v, H2, os2, bare, un, hok, rv, ev, d, fs, ea, ed, hd1, q2⟩ := hq'
      subst ev
      obtain ⟨h2, g2, d2, t2, os'⟩ := s'
      obtain ⟨t0, G, J, kG, ge, hoe, na⟩ := mk_end0 (d2 := d2) (t2 := t2) I1 (Nat.le_succ _) grow un hok os2 bare ea ed hd1
      exact ⟨rv, hp.objs.size + 1, _, _, ⟨G, g2, d2, t2, os'⟩, _, .ref C, some d, rfl, J, kG, ge, hoe, ⟨rfl, rfl, fun ws hw => by cases hw; rfl⟩, rfl, rfl, na, rfl, bare, raises_own T.exC T.tyC, q2⟩
/-- nothing is let out -/
theorem passN {X : Cx} : Passes (L2N.CX X.prog X.w) X E0 := fun _ _ _ _ _ _ _ h => by
  obtain ⟨_, _, _, _, _, _, _, _, _, _, _, _, z⟩ := h
  exact False.elim z
theorem takesN {X : Cx} : L2N.Takes X (fun _ _ _ _ => False) := fun _ _ x => by
  obtain ⟨_, _, _, _, _, _, _, _, _, _, _, _, _, _, _, _, z⟩ := x
  exact z.elim
/-- isinstance(e, c) of the error that the suite holds, class and dict told by the reading -/
def rIsEG (K : PySem.W.Frag) (a : Addr) (cls : Value) (d : Option Addr) : List V → Hp → VK → Prop := fun xs H Q => ∃ D dd, cls = .ref D ∧ d = some dd ∧ ExcC K D ∧ rIsED K D a dd xs H Q
theorem call_isEG {X : Cx} {a : Addr} {cls : Value} {d : Option Addr} {oe : Obj} {pn : List (Addr × Obj)} (hz : Zc cls d oe) (hf : ∃ vs, oe.data = .fields vs) : CallR (X.suite a ((a, oe) :: pn)) (.builtin "isinstance") (rIsEG X.K a cls d) := by
  intro pins s σ H xs us Q I r h
  obtain ⟨D, dd, rfl, rfl, c, q⟩ := h
  exact call_isED c hz hf pins s σ H xs us Q I r q
/-- err.f, class and dict told by the reading -/
def tXg (K : PySem.W.Frag) (a : Addr) (cls : Value) (d : Option Addr) (f : Str) (te : TE) : TE := fun σ H Q => te σ H fun x H1 => x = .ref a ∧ ∃ C, cls = .ref C ∧ XfC K C ∧ PySem.W.findIn K (.ref C) f = some none ∧ ∃ (dd : Addr) (fs : List (Str × V)) (v : V), d = some dd ∧ H1 dd = some (.xd fs) ∧ fs.lookup f = some v ∧ Q v H1
theorem pe_xg {X : Cx} {a : Addr} {oe : Obj} {cls : Value} {d : Option Addr} {pn : List (Addr × Obj)} {e : Expr} {te : TE} {pos : Pos} {n : Str} (hz : Zc cls d oe) (hf : ∃ vs, oe.data = .fields vs) (he : PE (X.suite a ((a, oe) :: pn)) e te)
    (hb : attributeBase e n X.env (eval e X.env) = eval e X.env := by rfl) : PE (X.suite a ((a, oe) :: pn)) (.Attribute e n pos) (tXg X.K a cls d n te) := by
  refine ⟨fun pins s σ H Q I h => ?_⟩
  refine attr_of hb (thn (he.run pins s σ H _ I h) fun u s1 hh => ?_)
  obtain ⟨x, H1, I1, rx, ex, C, ec, T, hno, dd, fs, v, ed, ea, l, q⟩ := hh
  subst ex
  obtain rfl : u = Value.ref a := rx
  subst ec
  subst ed
  obtain ⟨ha, _⟩ := I1.pin (a, oe) (List.mem_append_left _ List.mem_cons_self)
  obtain ⟨vs, hd⟩ := hf
  have hx : ObjOk X.prog X.w H1 s1.heap dd (.xd fs) := I1.hok dd _ ea
  obtain ⟨mA, hns, hr⟩ := hx
  obtain ⟨od, ho, hl⟩ := lookIn_ns hns
  obtain ⟨u, hu, ru⟩ := RelO.some_of (v := v) (o := mA n) (by rw [← l]; exact hr n)
  have J : PySem.W.InstAt s1.heap a oe C (some od) := ⟨ha, hz.1, by unfold PySem.W.notCls; rw [hd] <;> rfl, by rw [hz.2]; exact ho⟩
  exact HandSPX.exc_get I1.kIn J T.ga T.gg T.exC (PySem.W.findObj_own T.hdC hno rfl (by rw [hl, hu])) (handed_of ru) ⟨v, H1, I1.tok _, ru, q⟩
end ZX
set_option maxHeartbeats 2000000
namespace ZX
open PySem PySem.Spec PyProof.Rows L2 HotX L2H
/-! ### for over a text while an error is handled -/
section
variable {prog : Program} {w : World} {A : Around} {E : Value → Shared → Prop} {s : Shared} {it x1 : Addr} {x : Str} {t : Tok} {i : Nat} {Q : Option Value → Shared → Prop} {ty : String}
theorem hot_ne (hot : HotAt A x1 s.heap) (hit : s.heap.IsStrIter it ty x t i) : x1 ≠ it := fun e => by
  obtain ⟨o, ho, hc, hd⟩ := hit
  obtain ⟨hh, o1, vs1, h1, d1, c1⟩ := hot
  rw [e, ho] at h1
  cases h1
  rw [hd] at d1
  cases d1
  cases c1
theorem ascii_end_hot (hot : HotAt A x1 s.heap) (hit : s.heap.IsStrIter it "str_ascii_iterator" x t i) (hx : x.cps[i]? = none) (hQ : ∀ h', (∀ b o, b ≠ it → s.heap.get? b = some o → h'.get? b = some o) → Q none { s with heap := h' }) : wpAny (model prog w) A (pyNext (.ref it)) Q E s := by
  have ne := hot_ne hot hit
  obtain ⟨o, ho, hc, hd⟩ := id hit
  obtain ⟨hh, o1, vs1, h1, d1, c1⟩ := hot
  unfold pyNext
  refine wpAny_bind (wpAny_attempt (wpAny_callSpecial?_slot (name := Str.ofString "__next__") hit.typeIs F.slot_str_ascii_iterator_next
    (wpAny_call_entry F.slot_str_ascii_iterator_next hit.typeIs F.entry_str_ascii_iterator_next ?_ (F.args_str_ascii_iterator_next_1 _))))
  show wpAny _ _ (field (.ref it) 0 >>= _) _ _ s
  refine wpAny_bind (wpAny_field ho hd (x := .str x t) rfl ?_)
  show wpAny _ _ (field (.ref it) 1 >>= _) _ _ s
  refine wpAny_bind (wpAny_field ho hd (x := .int i 0) rfl ?_)
  simp only [Int.toNat_natCast, hx]
  refine wpAny_bind (wpAny_rule (wpAny_bind (wpAny_setField ho hd (by simp) (wpAny_bind (wpAny_letGo ?_)))))
  show wpAny _ _ (newExc (.type "StopIteration") [] >>= _) _ _ _
  refine wpAny_bind ?_
  simp only [newExc, newTuple]
  refine wpAny_bind (wpAny_newObj_type ?_ (by size_fits))
  refine wpAny_bind (m := firstArgMember _ _) (wpAny_of_eq (a := Value.none) (by first | rfl | (simp only [firstArgMember]; rfl)) ?_)
  refine wpAny_newObj_type ?_ (by size_fits)
  refine raiseNew_hot ⟨hh, o1, vs1, Heap.get?_push_of_some _ (Heap.get?_push_of_some _ ((Heap.get?_update_other _ _ (Ne.symm ne)).trans h1)), d1, c1⟩ (Nat.ne_of_lt (Heap.lt_size (Heap.get?_push_of_some _ ((Heap.get?_update_other _ _ (Ne.symm ne)).trans h1)))) (Heap.get?_push_size _ rfl) rfl (by first | (simp; done) | (simp; omega) | (simp only [Array.size_append]; simp; omega)) ?_
  refine wpAny_bind (wpAny_isInstance (T := "StopIteration") (b := true) ⟨_, Heap.get?_update_self _ (Heap.get?_push_size _ rfl) rfl, rfl⟩ isSubtype_stop ?_)
  refine wpAny_pure (hQ _ fun b o' hb e => ?_)
  refine (Heap.get?_update_other _ _ ?_).trans (Heap.get?_push_of_some _ (Heap.get?_push_of_some _ ((Heap.get?_update_other _ _ (Ne.symm hb)).trans e)))
  exact Ne.symm (Nat.ne_of_lt (Heap.lt_size (Heap.get?_push_of_some _ ((Heap.get?_update_other _ _ (Ne.symm hb)).trans e))))
theorem wide_end_hot (hot : HotAt A x1 s.heap) (hit : s.heap.IsStrIter it "str_iterator" x t i) (hx : x.cps[i]? = none) (hQ : ∀ h', (∀ b o, b ≠ it → s.heap.get? b = some o → h'.get? b = some o) → Q none { s with heap := h' }) : wpAny (model prog w) A (pyNext (.ref it)) Q E s := by
  have ne := hot_ne hot hit
  obtain ⟨o, ho, hc, hd⟩ := id hit
  obtain ⟨hh, o1, vs1, h1, d1, c1⟩ := hot
  unfold pyNext
  refine wpAny_bind (wpAny_attempt (wpAny_callSpecial?_slot (name := Str.ofString "__next__") hit.typeIs F.slot_str_iterator_next
    (wpAny_call_entry F.slot_str_iterator_next hit.typeIs F.entry_str_iterator_next ?_ (F.args_str_iterator_next_1 _))))
  show wpAny _ _ (field (.ref it) 0 >>= _) _ _ s
  refine wpAny_bind (wpAny_field ho hd (x := .str x t) rfl ?_)
  show wpAny _ _ (field (.ref it) 1 >>= _) _ _ s
  refine wpAny_bind (wpAny_field ho hd (x := .int i 0) rfl ?_)
  simp only [Int.toNat_natCast, hx]
  refine wpAny_bind (wpAny_rule (wpAny_bind (wpAny_setField ho hd (by simp) (wpAny_bind (wpAny_letGo ?_)))))
  show wpAny _ _ (newExc (.type "StopIteration") [] >>= _) _ _ _
  refine wpAny_bind ?_
  simp only [newExc, newTuple]
  refine wpAny_bind (wpAny_newObj_type ?_ (by size_fits))
  refine wpAny_bind (m := firstArgMember _ _) (wpAny_of_eq (a := Value.none) (by first | rfl | (simp only [firstArgMember]; rfl)) ?_)
  refine wpAny_newObj_type ?_ (by size_fits)
  refine raiseNew_hot ⟨hh, o1, vs1, Heap.get?_push_of_some _ (Heap.get?_push_of_some _ ((Heap.get?_update_other _ _ (Ne.symm ne)).trans h1)), d1, c1⟩ (Nat.ne_of_lt (Heap.lt_size (Heap.get?_push_of_some _ ((Heap.get?_update_other _ _ (Ne.symm ne)).trans h1)))) (Heap.get?_push_size _ rfl) rfl (by first | (simp; done) | (simp; omega) | (simp only [Array.size_append]; simp; omega)) ?_
  refine wpAny_bind (wpAny_isInstance (T := "StopIteration") (b := true) ⟨_, Heap.get?_update_self _ (Heap.get?_push_size _ rfl) rfl, rfl⟩ isSubtype_stop ?_)
  refine wpAny_pure (hQ _ fun b o' hb e => ?_)
  refine (Heap.get?_update_other _ _ ?_).trans (Heap.get?_push_of_some _ (Heap.get?_push_of_some _ ((Heap.get?_update_other _ _ (Ne.symm hb)).trans e)))
  exact Ne.symm (Nat.ne_of_lt (Heap.lt_size (Heap.get?_push_of_some _ ((Heap.get?_update_other _ _ (Ne.symm hb)).trans e))))
end
theorem turn_strH {P : Program} {w : World} {K : PySem.W.Frag} {tg : Expr} (it : Addr) (x : Str) (t : Tok) (ty : String) (hty : ty = "str_ascii_iterator" ∨ ty = "str_iterator") : TurnH P w K tg (Its x) [it] it (fun i h => h.IsStrIter it ty x t i) where
  mem := by simp
  obj := fun i h st b hb => by
    have e : b = it := by simpa using hb
    subst e
    obtain ⟨o, e, c, d⟩ := st
    exact ⟨o, e, fun v z => by rw [d] at z; cases z⟩
  keep := fun i h h' st k => let ⟨o, ho, r⟩ := st; ⟨o, k it (by simp) o ho, r⟩
  item := by
    intro X hP hw hK hc i pins s σ H E I hf st hg
    subst hP hw hK
    obtain ⟨f0, f1, f2, f3, f4, f5⟩ := hf it (by simp)
    have hlt : i < x.cps.size := hg
    have hcx : x.cps[i]? = some x.cps[i] := Array.getElem?_eq_getElem hlt
    have hno : ["enumerate", "zip", "dict_itemiterator", "dict_reverseitemiterator", "odict_iterator", "itertools.zip_longest", "itertools.pairwise"].contains ty = false := by
      rcases hty with e | e
      · rw [e]; decide
      · rw [e]; decide
    have fin : ∀ h', h'.IsStrIter it ty x t (i + 1) → Heap.SameBut it s.heap h' → ∃ u, some (Value.str ⟨#[x.cps[i]]⟩ s.toks) = some u ∧ wpAny (model X.prog X.w) X.A (letOwnedTupleGo tg (.ref it) u) (fun _ s2 => ∃ y H', Inv X pins σ H' s2 ∧ RelV y u ∧ (Its x).yld i H y H' ∧ s2.heap.IsStrIter it ty x t (i + 1) ∧ ∀ b ∈ [it], H' b = none) E { s with heap := h', toks := s.toks + 1 } := fun h' st' sb => by
      have I1 : Inv X pins σ H { s with heap := h', toks := s.toks + 1 } := I.turned (fun b o hb e => (sb.2 b hb).trans e) f0 f1 f3 f4 f5
      obtain ⟨oi, e, cc, dd⟩ := id st'
      exact ⟨_, rfl, go_of (s := { s with heap := h', toks := s.toks + 1 }) e cc dd hno ⟨.str ⟨#[x.cps[i]]⟩, H, I1, ⟨_, rfl⟩, ⟨rfl, _, hcx, rfl⟩, st', fun b hb => (hf b hb).1⟩⟩
    rcases hty with e | e
    · subst e
      exact wpAny_pyNext_ascii_item st hcx fun h' st' sb => fin h' st' sb
    · subst e
      exact wpAny_pyNext_wide_item st hcx fun h' st' sb => fin h' st' sb
  done := by
    intro X hP hw hK hc i pins s σ H E I hf st hg
    subst hP hw hK
    obtain ⟨f0, f1, f2, f3, f4, f5⟩ := hf it (by simp)
    obtain ⟨x1, hot⟩ := hc.at I
    have hx : x.cps[i]? = none := Array.getElem?_eq_none hg
    rcases hty with e | e
    · subst e
      exact ascii_end_hot hot st hx fun h' eb => ⟨rfl, I.turned (t' := s.toks) (fun b o hb e => eb b o hb e) f0 f1 f3 f4 f5⟩
    · subst e
      exact wide_end_hot hot st hx fun h' eb => ⟨rfl, I.turned (t' := s.toks) (fun b o hb e => eb b o hb e) f0 f1 f3 f4 f5⟩
  self := fun A i s Q E st h => by
    rcases hty with e | e
    · rw [e] at st; exact wpAny_pyIter_striter_ascii st h
    · rw [e] at st; exact wpAny_pyIter_striter_wide st h
theorem oneH {X : Cx} {tg : Expr} {pins : List (Addr × Obj)} {σ : L2.St} {H : Hp} {s : Shared} {R : It → Hp → Prop} {x : Str} {t : Tok} {ty : String} {tk : Nat} (hty : ty = "str_ascii_iterator" ∨ ty = "str_iterator") (I : Inv X pins σ H s) (q : R (Its x) H) :
    PIEH X pins σ tg R (.ref s.heap.objs.size) { s with heap := s.heap.push { cls := .type ty, data := .fields #[.str x t, .int 0 0] }, toks := tk } := by
  refine ⟨s.heap.objs.size, [s.heap.objs.size], _, _, H, rfl, I.kept fun b o e => Heap.get?_push_of_some _ e, turn_strH _ x t ty hty, ⟨_, Heap.get?_push_size _ rfl, rfl, rfl⟩, fun b hb => ?_, q⟩
  have e : b = s.heap.objs.size := by simpa using hb
  subst e
  exact I.fpOk (Nat.le_refl _) (I.hok.fresh (Nat.le_refl _))
theorem pi_strH {X : Cx} {tg e : Expr} {te : TE} (he : PE X e te) : PIH X tg e (iStr te) := by
  refine ⟨fun pins s σ H R I h => ?_⟩
  refine thn (he.run pins s σ H _ I h) fun v s1 ⟨y, H1, I1, r1, x, ex, q⟩ => ?_
  subst ex
  obtain ⟨t, rfl⟩ := r1
  cases ha : x.cps.all (· < 128)
  · exact wpAny_pyIter_wide ha (oneH (.inr rfl) I1 q)
  · exact wpAny_pyIter_ascii ha (oneH (.inl rfl) I1 q)
end ZX
set_option maxHeartbeats 2000000
namespace ZX
open PySem PySem.Spec PyProof.Rows L2
/-! ### a + b, len(a) by own methods -/
theorem op_binOwn {X : Cx} {CX : CXT} {n : Nat} {C g : Addr} {sp : Sp} {E : XK} {op : Operator} (hc : PySem.W.selfFirst X.K C = true) (hs : PySem.W.findIn X.K (.ref C) (PySem.dunder op.info.2) = some (some (.ref g))) (hf : PySem.W.isFn X.K (.ref g) = true)
    (F : FnR X.prog X.w X.K X.mg X.base CX n g sp) (hr : Room n X.A) (hx : Passes CX X E) : OpR X (binaryOp op) (rOwnI C sp E) := by
  intro pins s σ H x y v u Q I rx ry h
  obtain ⟨a, dx, fs, b, dy, gs, rfl, rfl, ha, hb, q⟩ := h
  cases (show v = Value.ref a from rx)
  cases (show u = Value.ref b from ry)
  obtain ⟨mA, J, _⟩ := ins_get I.hok ha
  obtain ⟨mB, J', _⟩ := ins_get I.hok hb
  obtain ⟨od, J, _⟩ := J.look
  obtain ⟨od', J', _⟩ := J'.look
  obtain ⟨m, hF⟩ := I.fr
  refine PySem.W.binop_K hF I.ok.mod.kin J J'.type hc hs hf ?_
  refine wpAny_mono (wpAny_call (run_fnR (us := [.ref a, .ref b]) (vs := [.ref a, .ref b]) F hr hx I (.cons rfl (.cons rfl .nil)) q)) (fun w s' z => ?_) fun _ _ x => x
  obtain ⟨z', H', I', rz, qz⟩ := z
  exact SlX.cmpback rz ⟨z', H', I', rz, qz⟩
/-- len(o) by an own __len__ -/
def rLenOwn (C : Addr) (sp : Sp) (E : XK) : List V → Hp → VK → Prop := fun xs H Q => ∃ a dx fs, xs = [.ref a] ∧ H a = some (.ins C dx fs) ∧ sp [.ref a] H (fun v H' => ∃ i : Int, v = .int i ∧ 0 ≤ i ∧ i < 2 ^ 63 ∧ Q v H') E
theorem call_lenOwn {X : Cx} {CX : CXT} {n : Nat} {C g : Addr} {sp : Sp} {E : XK} (hs : PySem.W.findIn X.K (.ref C) "__len__" = some (some (.ref g))) (hf : PySem.W.isFn X.K (.ref g) = true) (F : FnR X.prog X.w X.K X.mg X.base CX n g sp) (hr : Room (n + 1) X.A)
    (hx : ∀ (H : Hp) (s : Shared) (e : Value) (s' : Shared), CX X.stack H s E e s' → False) : CallR X (.builtin "len") (rLenOwn C sp E) := by
  intro pins s σ H xs us Q I r h
  obtain ⟨a, dx, fs, rfl, ha, q⟩ := h
  cases r with
  | cons r1 rs =>
    cases rs
    cases r1
    obtain ⟨mA, J, _⟩ := ins_get I.hok ha
    obtain ⟨od, J, _⟩ := J.look
    obtain ⟨m, hF⟩ := I.fr
    refine PySem.W.len_K hF I.ok.mod.kin J hs hf ?_
    refine wpAny_call (codeAny_mono (F X.A.in1 X.stack s H [.ref a] [.ref a] _ E hr.in1 I.env0.in1 (.cons rfl .nil) q) fun r s' hq => ?_)
    cases r with
    | error e => exact (hx _ _ _ _ hq).elim
    | ok fl =>
      cases fl with
      | ret u =>
        obtain ⟨v, H', I2, rv, i, ev, i0, i1, q2⟩ := I.after hq
        subst ev
        obtain ⟨t, rfl⟩ := (show ∃ t, u = Value.int i t from rv)
        exact ⟨⟨i0, i1⟩, .int i, H', I2.tok _, ⟨_, rfl⟩, q2⟩
      | next => exact False.elim hq
      | brk => exact False.elim hq
      | cont => exact False.elim hq
end ZX
set_option maxHeartbeats 2000000
namespace ZX
open PySem PySem.Spec PyProof.Rows L2
/-! ### list(d.values()) -/
def tListVals (te : TE) : TE := fun σ H Q => te σ H fun x H1 => ∃ (d : Addr) (kvs : List (Key × V)), x = .ref d ∧ H1 d = some (.dK kvs) ∧ ∀ p, H1 p = none → Q (.ref p) (upd H1 p (.lst (kvs.map Prod.snd)))
theorem pe_listVals {X : Cx} {e : Expr} {te : TE} {p apos cpos pos : Pos} (hc : X.calm = true) (he : PE X e te) (hg : Gl X "list") (hm : X.mg "list" = none) (hv : bootBuiltins "list" = some (.type "list")) (hbase : attributeBase e "values" X.env (eval e X.env) = eval e X.env := by rfl) (hline : (apos.endLine == cpos.line) = true := by rfl)
    (hs : starEach [.Call (.Attribute e "values" apos) [] [] cpos] X.env = (false, eval (.Call (.Attribute e "values" apos) [] [] cpos) X.env) :: starEach [] X.env := by rfl) :
    PE X (.Call (.Name "list" p) [.Call (.Attribute e "values" apos) [] [] cpos] [] pos) (tListVals te) := by
  refine ⟨fun pins s σ H Q I hq => ?_⟩
  refine wpAny_Call_Name_kw (ld_blt I hg hm hv ?_)
  refine PyProof.Rows.callWith_type1 ?_ hs rfl
  rw [hs]
  show wpAny _ _ (spliced ((false, eval (.Call (.Attribute e "values" apos) [] [] cpos) X.env) :: backTo pos (starEach [] X.env))) _ _ s
  refine Calls.spliced_cons ?_
  refine wpAny_Call_method (T := "dict") (id := "dict.values") hbase rfl hline F.plainAttrs_dict F.slot_dict_values F.type_dict_values (thn (he.run pins s σ H _ I hq) fun u s1 ⟨x, H1, I1, rx, d, kvs, ex, hd, q⟩ => ?_)
  subst ex
  obtain rfl : u = Value.ref d := rx
  obtain ⟨hz, hs0, vs, kv, hdo⟩ := I1.hok d _ hd
  obtain ⟨ep, hat⟩ := hdo.dictAt
  have lk : kvs.length = vs.length := Paired.length kv
  have I2 : Inv X pins σ H1 { s1 with heap := s1.heap.push { cls := .type "dict_values", data := .fields #[.ref d] } } := I1.kept (t' := s1.toks) fun b ob q => Heap.get?_push_of_some _ q
  refine ⟨hdo.typeIs, hdo.mapOf.noDict, ?_⟩
  show wpAny _ _ (callWith cpos (.builtin "dict.values") [.ref d] [] []) _ X.xe s1
  refine method_meetsIn F.slot_dict_values F.entry_dict_values rfl (PySem.evalArgs_none ⟨rfl, hdo.typeIs, F.args_dict_values_1 _, _, meets_dict_values (mixKind X.prog X.w) d hs0, ⟨vs, hdo⟩, ?_⟩)
  refine Calls.spliced_nil ?_
  refine PySem.W.kdl_call (PySem.W.kdl_values (knd := mixKind X.prog X.w) (kvs := vs) (ep := ep)) (I1.ok.hd hc) ⟨⟨_, Heap.get?_push_size _ rfl, rfl, rfl⟩, hat.push _⟩ (by omega) fun h' tk acc' c' hkeep hS hacc => ?_
  refine ⟨.ref _, upd H1 _ (.lst (kvs.map Prod.snd)), I2.laid hkeep (Nat.le_refl _) ⟨?_, acc'.toList, c', ?_, ?_⟩, rfl, q _ (I2.hok.fresh (Nat.le_refl _))⟩
  · rw [List.length_map]; exact hz
  · have el : acc'.toList.length = acc'.size := by simp
    refine vals_of_at (by rw [List.length_map, el, hacc.1, lk]) fun j x v h1 h2 => ?_
    obtain ⟨k, hky⟩ := hacc.2 j v (by rw [← Array.getElem?_toList]; exact h2)
    rw [List.getElem?_map] at h1
    cases hj : kvs[j]? with
    | none => rw [hj] at h1; cases h1
    | some kx =>
      rw [hj] at h1
      cases h1
      obtain ⟨y, e1, e2⟩ := LiI.paired_get kv hj
      rw [hky] at e1
      cases e1
      exact e2.2
  · rw [Array.toArray_toList]; exact hS
/-! ### a list of texts == a list of texts -/
def rEqLS (K : PySem.W.Frag) : R2 := fun x y H Q => ∃ (a b : Addr) (xs ys : List Str), x = .ref a ∧ y = .ref b ∧ SqL K H a (xs.map V.str) ∧ SqL K H b (ys.map V.str) ∧ Q (.bl (decide (xs = ys))) H
theorem strs_at {xs : List Str} {us : List Value} (r : Vals (xs.map V.str) us) {j : Nat} (h1 : j < xs.length) (h2 : j < us.length) : ∃ t, us[j] = .str xs[j] t := by
  obtain ⟨y, e, q⟩ := LiI.paired_get r (i := j) (x := V.str xs[j]) (by rw [List.getElem?_map, List.getElem?_eq_getElem h1]; rfl)
  rw [List.getElem?_eq_getElem h2] at e
  cases e
  exact q
theorem all_eq {xs ys : List Str} (hl : xs.length = ys.length) : ((List.range xs.length).all fun j => xs.getD j "" == ys.getD j "") = decide (xs = ys) := by
  by_cases h : xs = ys
  · rw [decide_eq_true h, h]
    exact List.all_eq_true.mpr fun j _ => beq_self_eq_true _
  · rw [decide_eq_false h]
    refine Bool.eq_false_iff.mpr fun z => h (List.ext_getElem hl fun j h1 h2 => ?_)
    have q := eq_of_beq (List.all_eq_true.mp z j (List.mem_range.mpr h1))
    rw [List.getD_eq_getElem?_getD, List.getD_eq_getElem?_getD, List.getElem?_eq_getElem h1, List.getElem?_eq_getElem h2] at q
    exact q
theorem op_eqLS {X : Cx} (hu : X.A.units < cLine) : OpR X (compareOp .Eq) (rEqLS X.K) := by
  intro pins s σ H x y v u Q I rx ry h
  obtain ⟨a, b, xs, ys, rfl, rfl, ha, hb, q⟩ := h
  obtain rfl : v = Value.ref a := rx
  obtain rfl : u = Value.ref b := ry
  obtain ⟨i1, r1, ⟨o1, m1, g1, c1, d1, p1⟩, _⟩ := I.list ha
  obtain ⟨i2, r2, ⟨o2, m2, g2, c2, d2, p2⟩, _⟩ := I.list hb
  have l1 : s.heap.IsList a i1.toArray := ⟨o1, g1, c1, m1, p1⟩
  have l2 : s.heap.IsList b i2.toArray := ⟨o2, g2, c2, m2, p2⟩
  have n1 : xs.length = i1.length := by have := Paired.length r1; rw [List.length_map] at this; exact this
  have n2 : ys.length = i2.length := by have := Paired.length r2; rw [List.length_map] at this; exact this
  have fin : ∀ k : Bool, k = decide (xs = ys) → ∃ (v' : V) (H' : Hp), Inv X pins σ H' s ∧ RelV v' (Value.bool k) ∧ Q v' H' := fun k hk => ⟨.bl k, H, I, rfl, by rw [hk]; exact q⟩
  show wpAny _ _ (richCompare .Eq (.ref a) (.ref b)) _ _ _
  by_cases hl : xs.length = ys.length
  · refine SeqAt.rcP_lists (e := fun j => xs.getD j "" == ys.getD j "") l1 l2 (by simp; omega) hu (fun j h1 h2 => ?_) _ _ ?_
    · have h1' : j < i1.length := by simpa using h1
      have h2' : j < i2.length := by simpa using h2
      obtain ⟨t, e1⟩ := strs_at r1 (j := j) (by omega) h1'
      obtain ⟨t2, e2⟩ := strs_at r2 (j := j) (by omega) h2'
      rw [show i1.toArray[j] = i1[j] by simp, show i2.toArray[j] = i2[j] by simp, e1, e2]
      rw [show xs.getD j "" = xs[j]'(by omega) by rw [List.getD_eq_getElem?_getD, List.getElem?_eq_getElem (by omega)]; rfl, show ys.getD j "" = ys[j]'(by omega) by rw [List.getD_eq_getElem?_getD, List.getElem?_eq_getElem (by omega)]; rfl, ← SeqAt.str_beq]
      exact SeqAt.EqAt.eqP ((SeqRoads2.EqGives.str _ _ t t2).at _ s)
    · refine fin _ ?_
      rw [show i1.toArray.size = xs.length by simp; omega]
      exact all_eq hl
  · obtain ⟨⟨cls, dd, data, sl⟩, ho, hc, n, hd⟩ := id l1
    obtain ⟨⟨cls2, dd2, data2, sl2⟩, ho2, hc2, n2', hd2⟩ := id l2
    simp only at hc hd hc2 hd2
    subst hc hd hc2 hd2
    have ta : s.TypeIs (.ref a) "list" := ⟨_, ho, rfl⟩
    have tb : s.TypeIs (.ref b) "list" := ⟨_, ho2, rfl⟩
    refine wpAny_richCompare_same_room (op := .Eq) ta tb F.slot_list_eq (call_meets F.slot_list_eq ta F.entry_list_eq (F.args_list_eq_2 _ _) (SeqAt.list_eq_lengthsAt a b i1.toArray i2.toArray n n2' dd dd2 sl sl2 ?_) ⟨ho, ho2, ⟨(fun x => nomatch x), fin _ ?_⟩⟩) hu
    · simp; omega
    · exact (decide_eq_false fun e => hl (by rw [e])).symm
end ZX
set_option maxHeartbeats 2000000
namespace ZX
open PySem PySem.Spec PyProof.Rows L2 He
/-! ### C.m(e, ..), m a def of the class (the object is given); cls(e, ..), cls a local -/
structure CFn (K : PySem.W.Frag) (C : Addr) (mc : Value) (m : Str) (g : Addr) : Prop where
  rd : ClX.CRead K C mc
  at_ : ClX.CVal K C mc m (.ref g) (.ref g)
  kp : PySem.W.keepIn K (.ref g) = true
section
variable {X : Cx} {CX : CXT} {k i : Nat} {C p g f : Addr} {mc : Value} {fd : FuncData} {ps : List Str} {sp : Sp} {E : L2.St → XK} {E1 : XK} {o e : Expr} {es : List Expr} {m x : Str} {pos apos xp : Pos} {ta : TE} {t : TA} {pl : Sem Bool} {dvs : List V} {ds : List Value}
theorem pe_clsFn (he : PE X o ta) (c : CFn X.K C mc m g) (F : FnOk X.prog X.w X.K X.mg X.base CX k g fd ps sp) (hb : Binds X.K fd ps []) (hr : Room k X.A) (hx : ∀ σ, PassesAt CX X σ (E σ)) (ha : PA X (e :: es) t)
    (hst : starEach (e :: es) X.env = (false, eval e X.env) :: starEach es X.env := by rfl) (hpl : (backTo pos (starEach es X.env)).any (·.1) = false := by rfl)
    (ht : eval (.Call (.Attribute o m apos) (e :: es) [] pos) X.env = (do
      let ov ← eval o X.env
      standAt apos.atName
      let (f, first) ← holding [ov] (getMethod ov m pl)
      callWith pos f first (backTo pos (starEach (e :: es) X.env)) (backToKw pos (keywordEach [] X.env))) := by rfl) :
    PE X (.Call (.Attribute o m apos) (e :: es) [] pos) (tStatS C sp E ta t) := by
  refine ⟨fun pins s σ H Q I h => ?_⟩
  refine PySem.W.methodCall_KW (pl := pl) (thn (he.run pins s σ H _ I h) fun u s1 ⟨x, H1, I1, rx, ex, q⟩ => ?_) ht
  subst ex
  obtain rfl : u = Value.ref C := rx
  refine PySem.W.method_cls I1.kIn c.rd.ga (ClX.getcval_ok I1 c.rd c.at_ fun s2 I2 => ?_)
  refine PySem.W.callWith_K (h₀ := X.base) I2.ok.mod.kin c.kp (thn (ha.run pos pins _ σ H1 _ I2 q) fun us s2 ⟨vs, H2, I3, r, q2⟩ => ⟨I3.kIn, ?_⟩) hst hpl
  exact run_fnS F hr hb (hx σ) I3 r q2
/-- cls(e, ..) -/
def tMakeV (i : Nat) (C : Addr) (sp : Sp) (dvs : List V) (E : XK) (t : TA) : TE := fun σ H Q => σ[i]? = some (some (.ref C)) ∧ tMake C sp dvs E t σ H Q
theorem pe_makeV (M : Mk X.K C f) (F : FnOk X.prog X.w X.K X.mg X.base CX k f fd ps sp) (hr : Room (k + 1) X.A) (hN : X.N[i]? = some x) (hv : Vis X.env.scope x) (hb : Binds X.K fd ps ds) (hd : Vals dvs ds) (hx : Passes CX X E1) (ha : PA X (e :: es) t)
    (hdb : (x == ("__debug__" : Str)) = false := by decide) (hcd : (x == ("__classdict__" : Str)) = false := by decide)
    (he : starEach (e :: es) X.env = (false, eval e X.env) :: starEach es X.env := by rfl) (hpl : (backTo pos (starEach es X.env)).any (·.1) = false := by rfl) : PE X (.Call (.Name x xp) (e :: es) [] pos) (tMakeV i C sp dvs E1 t) := by
  refine ⟨fun pins s σ H Q I h => ?_⟩
  obtain ⟨hs, ht⟩ := h
  refine wpAny_Call_Name_kw (thn ((pe_var (pos := xp) hN hv hdb hcd).run pins s σ H (fun v H1 => v = .ref C ∧ H1 = H) I ⟨.ref C, hs, rfl, rfl⟩) fun u s1 ⟨v, H1, I1, r1, q1⟩ => ?_)
  obtain ⟨rfl, rfl⟩ := q1
  cases r1
  refine PySem.W.callWith_K (h₀ := X.base) I1.ok.mod.kin M.kp (thn (ha.run pos pins s1 σ _ _ I1 ht) fun us s2 ⟨vs, H2, I2, r, q⟩ => ⟨I2.kIn, ?_⟩) he hpl
  exact run_make M F hr hb hd hx I2 r q
end
/-! ### facts -/
theorem read_ok {K : PySem.W.Frag} {x : Str} (h : readB K x = true) : ClX.CRead K (ga K x) (.type "type") := by
  obtain ⟨a1, a2⟩ := ba h
  exact ⟨a1, eqO_ok a2⟩
/-- a def of the class x, read off the class y (or one below it) -/
theorem cfn_ok {K : PySem.W.Frag} {x m : Str} (h : cfnB K x m = true) : CFn K (ga K x) (.type "type") m (ma K (ga K x) m) := by
  obtain ⟨a1, h⟩ := ba h
  obtain ⟨a2, a3⟩ := ba h
  refine ⟨read_ok a1, ⟨?_, rfl⟩, a3⟩
  split at a2
  · rename_i g z
    rw [z, of_decide_eq_true a2]
  · cases a2
/-- a class's whole number -/
theorem cint_ok {K : PySem.W.Frag} {x m : Str} {n : Int} (h : cintB K x m n = true) : ∃ u, ClX.CVal K (ga K x) (.type "type") m (.int n) u := by
  unfold cintB at h
  split at h
  · rename_i i t z
    have e : i = n := of_decide_eq_true h
    subst e
    exact ⟨_, z, t, rfl⟩
  · cases h
/-- a class's tuple of texts -/
theorem strVs_ok : ∀ {vs : List Value} {zs : List Str}, strVs vs zs = true → Vals (zs.map V.str) vs
  | [], [], _ => .nil
  | [], _ :: _, h => by cases h
  | v :: vs, [], h => by cases v <;> cases h
  | v :: vs, y :: ys, h => by
    cases v with
    | str z t =>
      obtain ⟨h1, h2⟩ := ba h
      have e : z = y := of_decide_eq_true h1
      exact .cons ⟨t, by rw [e]⟩ (strVs_ok h2)
    | _ => cases h
theorem ctup_ok {K : PySem.W.Frag} {x m : Str} {zs : List Str} (h : ctupB K x m zs = true) : ClX.CVal K (ga K x) (.type "type") m (.ref (ctOf K x m)) (.ref (ctOf K x m)) ∧ ∀ H, SqT K H (ctOf K x m) (zs.map V.str) := by
  obtain ⟨a1, a2⟩ := ba h
  refine ⟨⟨?_, rfl⟩, fun H => ?_⟩
  · split at a1
    · rename_i p z
      rw [z, of_decide_eq_true a1]
    · cases a1
  · split at a2
    · rename_i t d its n sl z
      obtain ⟨b1, b2⟩ := ba a2
      obtain ⟨b3, b4⟩ := ba b2
      have e : t = "tuple" := of_decide_eq_true b1
      subst e
      exact .inr ⟨_, its, n, z, rfl, rfl, Nat.le_trans (of_decide_eq_true b3) (by decide), strVs_ok b4⟩
    · cases a2
/-- a classmethod -/
theorem cmet_ok {K : PySem.W.Frag} {x m : Str} (h : cmetB K x m = true) : ClX.CMet K (ga K x) (.type "type") m (ma K (ga K x) m) ((Pl.rcd "classmethod" x m).ad K) := by
  obtain ⟨a3, h⟩ := ba h
  obtain ⟨a4, a5⟩ := ba h
  refine ⟨?_, ?_, a5⟩
  · split at a3
    · rename_i n p C z
      obtain ⟨b1, b2⟩ := ba a3
      obtain ⟨b3, b4⟩ := ba b2
      rw [z, of_decide_eq_true b1, of_decide_eq_true b3, of_decide_eq_true b4]
    · cases a3
  · split at a4
    · rename_i g r z
      exact ⟨r, by rw [z, of_decide_eq_true a4]⟩
    · cases a4
/-- a property's getter -/
theorem prop_ok {K : PySem.W.Frag} {x m : Str} (h : propB K x m = true) : PropOf K (ga K x) m (ma K (ga K x) m) ((Pl.rcd "property" x m).ad K) := by
  obtain ⟨a1, h⟩ := ba h
  obtain ⟨a2, h⟩ := ba h
  obtain ⟨a3, a4⟩ := ba h
  refine ⟨eqO_ok a1, eqO_ok a2, of_decide_eq_true a3, ?_⟩
  split at a4
  · rename_i g r z
    exact ⟨r, by rw [z, of_decide_eq_true a4]⟩
  · cases a4
end ZX
set_option maxHeartbeats 2000000
namespace ZX
open PySem PySem.Spec PyProof.Rows L2 He
/-! ### keyword-only parameters with defaults, some of them given -/
theorem kb0 {K : PySem.W.Frag} {x qual : Str} {params : Arguments} {body : List Stmt} {scope : Scope} {kws : List (Str × V)} {f : Addr} {fd : FuncData} {ps : List Str} (F : FunD K x qual params body scope [] kws f fd) (n : Nat) (ks : List Str) (ms : List (Str × V))
    (g : {α : Type} → List α → List α → List α → List α) (hk : kws ≠ []) (hms : ∀ q ∈ ms, q ∈ kws)
    (hrel : ∀ {vs mz zs : List V} {us mv ws : List Value}, Vals vs us → Vals mz mv → Vals zs ws → Vals (g vs mz zs) (g us mv ws))
    (h : ∀ (D : Addr) (doc pm : Value) (an : Option Addr) (cdv ct : Value) (us mv ws : List Value), us.length = n → mv.length = ms.length → ws.length = ks.length →
      KwChain D ((ms.map (·.1)).zip mv) (bindArgs (PySem.W.fnOf x qual params body scope .none (.ref D) doc pm an cdv ct) ⟨us, ks.zip ws⟩) (ps.zip (g us mv ws))) :
    ∃ mv : List Value, KBn K fd ps n ks (fun us ws => g us mv ws) (fun vs zs => g vs (ms.map (·.2)) zs) := by
  obtain ⟨oc, od, dV, kV, doc, pm, an, cdv, ct, osl, rfl, lk, hcd, hD, hK⟩ := F.ex
  rcases hD with ⟨_, rfl⟩ | ⟨e, _⟩
  · rcases hK with e | ⟨D, rfl, hq⟩
    · exact absurd e hk
    · obtain ⟨mv, hl, rk, hks⟩ := kwd_vals (ms := ms) fun q hm => hq q (hms q hm)
      exact ⟨mv, ⟨fun s us ws X l1 l2 => L2.BindsTo.of_looks fun M => KwChain.looks X hks (h D doc pm an cdv ct us mv ws l1 hl l2), fun r1 r2 => hrel r1 rk r2⟩⟩
  · exact absurd rfl e
/-- no parameter lacks -/
theorem kbAll {K : PySem.W.Frag} {x qual : Str} {params : Arguments} {body : List Stmt} {scope : Scope} {dvs : List V} {kws : List (Str × V)} {f : Addr} {fd : FuncData} {ps : List Str} (F : FunD K x qual params body scope dvs kws f fd) (n : Nat) (ks : List Str)
    (g : {α : Type} → List α → List α → List α)
    (hrel : ∀ {vs zs : List V} {us ws : List Value}, Vals vs us → Vals zs ws → Vals (g vs zs) (g us ws))
    (h : ∀ (dV kV doc pm : Value) (an : Option Addr) (cdv ct : Value) (us ws : List Value), us.length = n → ws.length = ks.length → (dvs = [] → dV = .none) →
      bindArgs (PySem.W.fnOf x qual params body scope dV kV doc pm an cdv ct) ⟨us, ks.zip ws⟩ = pure (ps.zip (g us ws))) :
    KBn K fd ps n ks (fun us ws => g us ws) (fun vs zs => g vs zs) := by
  obtain ⟨oc, od, dV, kV, doc, pm, an, cdv, ct, osl, rfl, lk, hcd, hD, hK⟩ := F.ex
  exact ⟨fun s us ws X l1 l2 => .of_eq (h dV kV doc pm an cdv ct us ws l1 l2 fun e => by
    rcases hD with ⟨_, e2⟩ | ⟨e2, _⟩
    · exact e2
    · exact absurd e e2), fun r1 r2 => hrel r1 r2⟩
section
variable {X : Cx} {CX : CXT} {k n : Nat} {C g f : Addr} {mc : Value} {fd : FuncData} {ps ks : List Str} {sp : Sp} {E : L2.St → XK} {E1 : XK} {o e : Expr} {es : List Expr} {kws : List Keyword} {m x : Str} {p pos apos : Pos} {ta : TE} {t tk : TA} {pl : Sem Bool}
  {gg : List Value → List Value → List Value} {gV : List V → List V → List V}
/-- C(k = v, ..) -/
theorem pe_makeN0 (M : Mk X.K C f) (F : FnOk X.prog X.w X.K X.mg X.base CX k f fd ps sp) (hr : Room (k + 1) X.A) (hg : Gl X x) (hm : X.mg x = some (.ref C)) (hb : KBn X.K fd ps 1 ks gg gV) (hx : Passes CX X E1)
    (hkw : PK X kws tk) (hall : (backToKw pos (keywordEach kws X.env)).all (·.1.isSome) = true := by rfl) (hks : (backToKw pos (keywordEach kws X.env)).filterMap (·.1) = ks := by rfl)
    (hdb : (x == ("__debug__" : Str)) = false := by decide)
    (hpl : ((backTo pos (starEach [] X.env)).any (·.1) || (backToKw pos (keywordEach kws X.env)).any (·.1.isNone)) = false := by rfl) :
    PE X (.Call (.Name x p) [] kws pos) (tMakeN C 0 ks.length sp gV E1 tNil tk) := by
  refine ⟨fun pins s σ H Q I h => ?_⟩
  refine wpAny_Call_Name_kw (ld_glob I hg hm (PySem.W.callWith_KW0 (h₀ := X.base) I.ok.mod.kin M.kp hall ?_ hpl) hdb)
  refine thn (hkw.run pos pins s σ H _ I h) fun ws s2 ⟨zs, H2, I2, rz, l1, l2, q2⟩ => ⟨I2.kIn, ?_⟩
  rw [hks]
  exact run_makeN (us := []) (vs := []) M F hr hb hx I2 .nil rz l1 l2 q2
/-- a call with keywords, errors at the reading σ -/
theorem run_fnKS {pins : List (Addr × Obj)} {σ : L2.St} {H : Hp} {s : Shared} {Q : VK} {E : XK} {us ws : List Value} {vs zs : List V} (F : FnOk X.prog X.w X.K X.mg X.base CX k f fd ps sp) (hr : Room k X.A) (hb : KBn X.K fd ps n ks gg gV) (hx : PassesAt CX X σ E)
    (I : Inv X pins σ H s) (r : Vals vs us) (rz : Vals zs ws) (l1 : vs.length = n) (l2 : zs.length = ks.length) (h : sp (gV vs zs) H Q E) : wpAny (model X.prog X.w) X.A (call (.ref f) us (ks.zip ws)) (EP X pins σ Q) X.xe s := by
  have r2 := hb.rel r rz
  refine wpAny_call (codeAny_mono (F.run X.A X.stack s H ⟨us, ks.zip ws⟩ (gg us ws) (gV vs zs) Q E hr I.env0 (hb.to s us ws I.kIn (r.length.symm.trans l1) (rz.length.symm.trans l2)) r2 h) fun r s' hq => ?_)
  cases r with
  | error e => exact hx pins H s e s' I hq
  | ok fl =>
    cases fl with
    | ret u => exact I.after hq
    | next => exact False.elim hq
    | brk => exact False.elim hq
    | cont => exact False.elim hq
def tClsK (C : Addr) (n m : Nat) (sp : Sp) (gV : List V → List V → List V) (E : L2.St → XK) (ta : TE) (t tk : TA) : TE := fun σ H Q => ta σ H fun x H1 => x = .ref C ∧ t σ H1 fun vs H2 => tk σ H2 fun zs H3 => vs.length = n ∧ zs.length = m ∧ sp (gV vs zs) H3 Q (E σ)
/-- C.m(e, .., k = v, ..), m a def of the class -/
theorem pe_clsFnK (he : PE X o ta) (c : CFn X.K C mc m g) (F : FnOk X.prog X.w X.K X.mg X.base CX k g fd ps sp) (hb : KBn X.K fd ps n ks gg gV) (hr : Room k X.A) (hx : ∀ σ, PassesAt CX X σ (E σ)) (ha : PA X (e :: es) t) (hkw : PK X kws tk)
    (hall : (backToKw pos (keywordEach kws X.env)).all (·.1.isSome) = true := by rfl) (hks : (backToKw pos (keywordEach kws X.env)).filterMap (·.1) = ks := by rfl)
    (hst : starEach (e :: es) X.env = (false, eval e X.env) :: starEach es X.env := by rfl)
    (hpl : ((backTo pos (starEach (e :: es) X.env)).any (·.1) || (backToKw pos (keywordEach kws X.env)).any (·.1.isNone)) = false := by rfl)
    (ht : eval (.Call (.Attribute o m apos) (e :: es) kws pos) X.env = (do
      let ov ← eval o X.env
      standAt apos.atName
      let (f, first) ← holding [ov] (getMethod ov m pl)
      callWith pos f first (backTo pos (starEach (e :: es) X.env)) (backToKw pos (keywordEach kws X.env))) := by rfl) :
    PE X (.Call (.Attribute o m apos) (e :: es) kws pos) (tClsK C n ks.length sp gV E ta t tk) := by
  refine ⟨fun pins s σ H Q I h => ?_⟩
  refine PySem.W.methodCall_KW (pl := pl) (thn (he.run pins s σ H _ I h) fun u s1 ⟨x, H1, I1, rx, ex, q⟩ => ?_) ht
  subst ex
  obtain rfl : u = Value.ref C := rx
  refine PySem.W.method_cls I1.kIn c.rd.ga (ClX.getcval_ok I1 c.rd c.at_ fun s2 I2 => ?_)
  refine PySem.W.callWith_KW (h₀ := X.base) I2.ok.mod.kin c.kp hall (thn (ha.run pos pins _ σ H1 _ I2 q) fun us s2 ⟨vs, H2, I3, r, q2⟩ => ?_) hpl hst
  refine thn (hkw.run pos pins s2 σ H2 _ I3 q2) fun ws s3 ⟨zs, H3, I4, rz, l1, l2, q3⟩ => ⟨I4.kIn, ?_⟩
  rw [hks]
  exact run_fnKS F hr hb (hx σ) I4 r rz l1 l2 q3
end
end ZX
set_option maxHeartbeats 2000000
namespace ZX
open PySem PySem.Spec PyProof.Rows L2 He
/-! ### min(xs, default=..) of ints, max of several ints -/
section
variable {P : Program} {w : World} {A : Around} {R : Result → Shared → Prop} {I S : Addr} {fp wr : List Addr} {n : Nat} {Pv : Nat → Value → Prop} {St : Nat → Heap → Prop} {kw : List (Str × Value)}
theorem nm_min : (toString "min" ++ toString ".loop" : String) = "min.loop" := by decide
theorem minD_loop (W : Walks P w A.in1 I fp wr n Pv St) (bt : Nat → Nat → Bool) (hc : CmpOf P w A.in1 .Lt Pv bt) (nS : S ∉ fp) :
    ∀ (r i : Nat) (s : Shared) (u : Value) (c : Nat), n - (i + 1) = r → i + 1 ≤ n → St (i + 1) s.heap → Pv (argBest bt i) u →
    s.heap.get? S = some { cls := .type "list", dict := none, data := .seq #[u, u] c, slots := #[] } →
    (∀ v g tk, Pv (argBest bt (n - 1)) v → (∀ b o, b ∉ wr → b ≠ S → s.heap.get? b = some o → g.get? b = some o) → R (.ok (.ret v)) { s with heap := g, toks := tk }) →
    codeAny (model P w) A (.builtin "min.loop" ⟨[.ref I, .none, .ref S], kw⟩) R s := by
  have nW : S ∉ wr := fun h => nS (W.sub _ h)
  intro r
  induction r with
  | zero =>
    intro i s u c hr hi hst hu hS hR
    have e : i + 1 = n := by omega
    refine codeAny_builtin PySem.F.entry_min_loop ?_
    rw [Around.under_plainId PySem.F.plain_min_loop ⟨[.ref I, .none, .ref S], kw⟩]
    show wpAny _ A.in1 (seqItems? (Value.ref S) >>= _) _ _ s
    refine wpAny_bind <| wpAny_seqItems hS rfl ?_
    show wpAny _ A.in1 (tryCatch (pyNext (Value.ref I)) _ >>= _) _ _ s
    refine wpAny_bind <| wpAny_tryCatch <| W.done s _ _ (e ▸ hst) fun g tk keep => ?_
    have hS2 := keep S _ nW hS
    show wpAny _ A.in1 (updateSeq S (fun _ => (#[] : Array Value)) >>= _) _ _ _
    refine wpAny_bind <| wpAny_updateSeq hS2 rfl <| wpAny_bind <| wpAny_letGo <| wpAny_pure ?_
    exact hR u _ tk (by rw [← e]; exact hu) fun b o b1 b2 z => (Heap.get?_update_other _ _ (Ne.symm b2)).trans (keep b o b1 z)
  | succ r ih =>
    intro i s u c hr hi hst hu hS hR
    have lt : i + 1 < n := by omega
    refine codeAny_builtin PySem.F.entry_min_loop ?_
    rw [Around.under_plainId PySem.F.plain_min_loop ⟨[.ref I, .none, .ref S], kw⟩]
    show wpAny _ A.in1 (seqItems? (Value.ref S) >>= _) _ _ s
    refine wpAny_bind <| wpAny_seqItems hS rfl ?_
    show wpAny _ A.in1 (tryCatch (pyNext (Value.ref I)) _ >>= _) _ _ s
    refine wpAny_bind <| wpAny_tryCatch <| W.item (i + 1) s _ _ lt hst fun v g tk hv hst2 keep => ?_
    have hS2 := keep S _ nW hS
    show wpAny _ A.in1 (tryCatch (holding [v, v] (richCompare .Lt v u >>= _)) _ >>= _) _ _ _
    refine wpAny_bind <| wpAny_tryCatch <| wpAny_holding <| wpAny_bind <| hc (i + 1) (argBest bt i) v u _ _ _ hv hu ?_
    refine wpAny_bind <| wpAny_holding <| wpAny_truthy_bool ?_
    refine wpAny_bind <| wpAny_letGo <| wpAny_pure ?_
    cases q : bt (i + 1) (argBest bt i) with
    | true =>
      rw [if_pos rfl]
      refine wpAny_bind ?_
      refine wpAny_updateSeq hS2 rfl <| wpAny_bind <| wpAny_letGo ?_
      rw [nm_min]
      refine wpAny_pure ⟨plainId_quiet PySem.F.plain_min_loop _, ih (i + 1) _ v _ (by omega) lt (W.frame _ _ _ hst2 fun b hb o z => ?_) (by simp only [argBest, q, if_true]; exact hv) (Heap.get?_update_self _ hS2 rfl) fun v2 g2 tk2 h2 k2 => ?_⟩
      · exact (Heap.get?_update_other _ _ (fun h : S = b => nS (h ▸ hb))).trans z
      · exact hR v2 g2 tk2 h2 fun b o b1 b2 z => k2 b o b1 b2 ((Heap.get?_update_other _ _ (Ne.symm b2)).trans (keep b o b1 z))
    | false =>
      rw [if_neg Bool.false_ne_true]
      refine wpAny_bind <| wpAny_letGo ?_
      rw [nm_min]
      exact wpAny_pure ⟨plainId_quiet PySem.F.plain_min_loop _, ih (i + 1) _ u c (by omega) lt hst2 (by simp only [argBest, q, Bool.false_eq_true, if_false]; exact hu) hS2 fun v2 g2 tk2 h2 k2 => hR v2 g2 tk2 h2 fun b o b1 b2 z => k2 b o b1 b2 (keep b o b1 z)⟩
end
theorem args_minD (a v : Value) : argsOk "min" ⟨[a], [(Str.ofString "default", v)]⟩ := by unfold argsOk; kernel_rfl
def rMinD (K : PySem.W.Frag) (d : V) : List V → Hp → VK → Prop := fun vs H Q => ∃ (a : Addr) (ns : List Int), vs = [V.ref a] ∧ SqL K H a (ns.map V.int) ∧ (ns = [] → Q d H) ∧ ∀ m, m ∈ ns → (∀ y, y ∈ ns → m ≤ y) → Q (.int m) H
section
variable {P : Program} {w : World} {A : Around} {E : Value → Shared → Prop} {s : Shared} {l : Addr} {its : List Value} {ns : List Int} {d : Value} {Q : Value → Shared → Prop}
theorem minD_raw (hh : A.handled = none) (hl : s.heap.IsList l its.toArray) (hi : IntsAre its ns)
    (h0 : ns = [] → ∀ g tk, (∀ b o, s.heap.get? b = some o → g.get? b = some o) → Q d { s with heap := g, toks := tk })
    (h1 : ∀ g tk M t, (∀ b o, s.heap.get? b = some o → g.get? b = some o) → M ∈ ns → (∀ a, a ∈ ns → M ≤ a) → Q (.int M t) { s with heap := g, toks := tk }) :
    wpAny (model P w) A (call (.builtin "min") [.ref l] [(Str.ofString "default", d)]) Q E s := by
  obtain ⟨xs, e⟩ := hi.allInts.items
  have hn : numsOf (intItems xs).toList = ns := by rw [← e]; exact hi.numsOf
  rw [nums_intItems] at hn
  subst hn
  rw [e] at hl
  refine kmb_tree PySem.F.kind_min PySem.F.plain_min PySem.F.entry_min (args_minD _ _) ?_
  show wpAny _ A.in1 (Builtin.Builtins.bindParams "min" ["key", "default"] 0 ⟨[], [(Str.ofString "default", d)]⟩ >>= _) _ _ s
  refine wpAny_bind <| wpAny_of_eq (show Builtin.Builtins.bindParams "min" ["key", "default"] 0 ⟨[], [(Str.ofString "default", d)]⟩ = pure [none, some d] from rfl) ?_
  refine wpAny_bind <| wpAny_pure ?_
  refine wpAny_bind <| iter_intList hl fun s2 e2 st hfp ne => ?_
  subst e2
  refine wpAny_bind <| wpAny_newList ?_ (Nat.zero_le _)
  rw [nm_min]
  refine wpAny_pure ⟨plainId_quiet PySem.F.plain_min_loop _, ?_⟩
  have W := Walks.list (prog := P) (w := w) (A := A.in1) hh _ l ne (intItems xs)
  generalize hs2 : ({ s with heap := s.heap.push { cls := .type "list_iterator", data := .fields #[.ref l, .int 0 0] } } : Shared) = s2 at st hfp
  have old : ∀ b o, s.heap.get? b = some o → s2.heap.get? b = some o := fun b o z => by
    rw [← hs2]
    exact Heap.get?_push_of_some _ z
  have nI : ∀ b o, s.heap.get? b = some o → b ∉ [s.heap.objs.size] := fun b o z hb => by
    rw [List.mem_singleton.mp hb] at z
    exact Nat.lt_irrefl _ (Heap.lt_size z)
  have nF : s2.heap.objs.size ∉ [s.heap.objs.size, l] := fun hb => Nat.lt_irrefl _ (hfp _ hb)
  have st2 := W.frame 0 s2.heap (s2.heap.push { cls := .type "list", data := .seq #[] 0 }) st fun b _ o z => Heap.get?_push_of_some _ z
  have hS : (s2.heap.push { cls := .type "list", data := .seq #[] 0 }).get? s2.heap.objs.size = some { cls := .type "list", data := .seq #[] 0 } := Heap.get?_push_size _ rfl
  have old2 : ∀ b o, s.heap.get? b = some o → (s2.heap.push { cls := .type "list", data := .seq #[] 0 }).get? b = some o := fun b o z => Heap.get?_push_of_some _ (old b o z)
  have nSb : ∀ b o, s.heap.get? b = some o → b ≠ s2.heap.objs.size := fun b o z e => by
    have := Heap.lt_size (old b o z)
    rw [e] at this
    exact Nat.lt_irrefl _ this
  show codeAny (model P w) A (.builtin "min.loop" ⟨[.ref s.heap.objs.size, .none, .ref s2.heap.objs.size], [(Str.ofString "default", d)]⟩) _ _
  refine codeAny_builtin PySem.F.entry_min_loop ?_
  rw [Around.under_plainId PySem.F.plain_min_loop ⟨[.ref s.heap.objs.size, .none, .ref s2.heap.objs.size], [(Str.ofString "default", d)]⟩]
  show wpAny _ A.in1 (seqItems? (Value.ref s2.heap.objs.size) >>= _) _ _ _
  refine wpAny_bind <| wpAny_seqItems hS rfl ?_
  show wpAny _ A.in1 (tryCatch (pyNext (Value.ref s.heap.objs.size)) _ >>= _) _ _ _
  have nSw : s2.heap.objs.size ∉ [s.heap.objs.size] := fun hb => nF (List.mem_cons.mpr (.inl (List.mem_singleton.mp hb)))
  by_cases hz : 0 < (intItems xs).size
  · refine wpAny_bind <| wpAny_tryCatch <| W.item 0 _ _ _ hz st2 fun v g tk hv hst2 keep => ?_
    have hS2 := keep _ _ nSw hS
    show wpAny _ A.in1 (updateSeq s2.heap.objs.size (fun _ => (#[v, v] : Array Value)) >>= _) _ _ _
    refine wpAny_bind <| wpAny_updateSeq hS2 rfl ?_
    rw [nm_min]
    refine wpAny_pure ⟨plainId_quiet PySem.F.plain_min_loop _, minD_loop W (fun i j => decide (numAt xs i < numAt xs j)) (CmpOf.ints_lt (numAt xs) (fun _ _ => intItems_at)) nF _ 0 _ v _ rfl hz (W.frame _ _ _ hst2 fun b hb o z => ?_) hv (Heap.get?_update_self _ hS2 rfl) fun v2 g2 tk2 h2 k2 => ?_⟩
    · exact (Heap.get?_update_other _ _ (fun h : s2.heap.objs.size = b => nF (h ▸ hb))).trans z
    · have hsz : (intItems xs).size = xs.size := by simp [intItems]
      rw [hsz] at hz h2
      obtain ⟨t, rfl⟩ := intItems_at h2
      obtain ⟨b1, b2⟩ := argBest_lt (numAt xs) (xs.size - 1)
      subst hs2
      refine h1 g2 tk2 _ t (fun b o z => k2 b o (nI b o z) (nSb b o z) ((Heap.get?_update_other _ _ (Ne.symm (nSb b o z))).trans (keep b o (nI b o z) (old2 b o z)))) ?_ fun a ha => ?_
      · rw [numAt_eq]
        exact PySem.getD_mem (by rw [List.length_map, Array.length_toList]; omega)
      · obtain ⟨j, hj, rfl⟩ := mem_getD ha
        rw [List.length_map, Array.length_toList] at hj
        rw [← numAt_eq]
        exact b2 j (by omega)
  · have e0 : (intItems xs).size = 0 := by omega
    refine wpAny_bind <| wpAny_tryCatch <| W.done _ _ _ (e0 ▸ st2) fun g tk keep => ?_
    show wpAny _ A.in1 (rule _ >>= _) _ _ _
    refine wpAny_bind <| wpAny_rule <| wpAny_pure ?_
    subst hs2
    refine h0 ?_ _ _ fun b o z => keep b o (nI b o z) (old2 b o z)
    have hsz : (intItems xs).size = xs.size := by simp [intItems]
    rw [hsz] at e0
    have : xs.toList = [] := by
      apply List.eq_nil_of_length_eq_zero
      rw [Array.length_toList]
      exact e0
    rw [this]
    rfl
end
end ZX
set_option maxHeartbeats 2000000
namespace ZX
open PySem PySem.Spec PyProof.Rows L2 He
def rMinK (K : PySem.W.Frag) : List V → List V → Hp → VK → Prop := fun vs zs H Q => ∃ (a : Addr) (d : V) (ns : List Int), vs = [V.ref a] ∧ zs = [d] ∧ SqL K H a (ns.map V.int) ∧ (ns = [] → Q d H) ∧ ∀ m, m ∈ ns → (∀ y, y ∈ ns → m ≤ y) → Q (.int m) H
/-- max of several ints -/
def rMaxs : List V → Hp → VK → Prop := fun vs H Q => ∃ ns : List Int, vs = ns.map V.int ∧ 2 ≤ ns.length ∧ ns.length ≤ 1000 ∧ ∀ m, m ∈ ns → (∀ y, y ∈ ns → y ≤ m) → Q (.int m) H
section
variable {X : Cx}
theorem cr_minD (hc : X.calm = true) : CallRK X (.builtin "min") [("default" : Str)] (rMinK X.K) := by
  intro pins s σ H vs zs us ws Q I r rz h
  obtain ⟨a, d, ns, rfl, rfl, hs, h0, h1⟩ := h
  obtain ⟨its, rv, hl, _⟩ := I.list hs
  rw [Vals.ref1 r]
  obtain ⟨u, rfl, ru⟩ := vals1 rz
  exact minD_raw (I.ok.hd hc) hl.isList rv.ints (fun e g tk hk => ⟨d, H, I.kept hk, ru, h0 e⟩) fun g tk m t hk b1 b2 => ⟨.int _, H, I.kept hk, ⟨_, rfl⟩, h1 m b1 b2⟩
end
theorem args_maxN (a b : Value) (r : List Value) : argsOk "max" ⟨a :: b :: r, []⟩ := by unfold argsOk; kernel_rfl
theorem nm_max : (toString "max" ++ toString ".loop" : String) = "max.loop" := by decide
section
variable {P : Program} {w : World} {A : Around} {E : Value → Shared → Prop} {s : Shared} {Q : Value → Shared → Prop}
theorem maxN_call {a b : Value} {r : List Value} (hz : (a :: b :: r).length ≤ sizeLine)
    (h : wpAny (model P w) A.in1 (pyIter (.ref s.heap.objs.size)) (fun it s2 => ∃ I fp wr n Pv St bt, it = .ref I ∧ Walks P w A.in1 I fp wr n Pv St ∧ St 0 s2.heap ∧ (∀ b ∈ fp, b < s2.heap.objs.size) ∧ 0 < n ∧ CmpOf P w A.in1 .Gt Pv bt ∧
      ∀ v g tk, Pv (argBest bt (n - 1)) v → (∀ b o, b ∉ wr → s2.heap.get? b = some o → g.get? b = some o) → Q v { s2 with heap := g, toks := tk }) E
      { s with heap := s.heap.push { cls := .type "tuple", data := .seq (a :: b :: r).toArray } }) : wpAny (model P w) A (call (.builtin "max") (a :: b :: r)) Q E s := by
  refine call_function_tree PySem.F.kind_max PySem.F.plain_max PySem.F.entry_max (args_maxN a b r) ?_
  show wpAny _ A.in1 (Builtin.Builtins.bindParams "max" ["key", "default"] 0 ⟨[], []⟩ >>= _) _ _ s
  refine wpAny_bind <| wpAny_of_eq (show Builtin.Builtins.bindParams "max" ["key", "default"] 0 ⟨[], []⟩ = pure [none, none] from rfl) ?_
  show wpAny _ A.in1 (newTuple (a :: b :: r) >>= _) _ _ s
  refine wpAny_bind <| wpAny_newObj_type (hd := by show (a :: b :: r).toArray.size ≤ sizeLine; rw [List.size_toArray]; exact hz) ?_
  refine wpAny_bind <| wpAny_mono h (fun it s2 z => ?_) fun _ _ e => e
  obtain ⟨I, fp, wr, n, Pv, St, bt, rfl, W, st, hf, hn, hc, hQ⟩ := z
  refine wpAny_bind <| wpAny_newObj_type ?_
  have nS : s2.heap.objs.size ∉ fp := fun hm => Nat.lt_irrefl _ (hf _ hm)
  rw [nm_max]
  exact wpAny_pure ⟨plainId_quiet PySem.F.plain_max_loop _, codeAny_max_loop_first W bt hc s2.heap.objs.size nS hn (W.frame _ _ _ st fun b _ o e => Heap.get?_push_of_some _ e) (Heap.get?_push_size _ rfl) fun v g tk hP hk =>
    hQ v g tk hP fun b o hw e => hk b o hw (Nat.ne_of_lt (Heap.lt_size e)) (Heap.get?_push_of_some _ e)⟩
theorem maxN_ints {us : List Value} {ns : List Int} (hh : A.handled = none) (hi : IntsAre us ns) (h2 : 2 ≤ ns.length) (hz : ns.length ≤ sizeLine)
    (h : ∀ g tk M t, (∀ b o, s.heap.get? b = some o → g.get? b = some o) → M ∈ ns → (∀ y, y ∈ ns → y ≤ M) → Q (.int M t) { s with heap := g, toks := tk }) : wpAny (model P w) A (call (.builtin "max") us) Q E s := by
  have hlen : us.length = ns.length := hi.length
  obtain ⟨a, b, r, rfl⟩ : ∃ a b r, us = a :: b :: r := by
    match us, hlen with
    | a :: b :: r, _ => exact ⟨a, b, r, rfl⟩
    | [a], e =>
      have e : 1 = ns.length := e
      omega
    | [], e =>
      have e : 0 = ns.length := e
      omega
  obtain ⟨xs, e⟩ := hi.allInts.items
  have hn : numsOf (intItems xs).toList = ns := by rw [← e]; exact hi.numsOf
  rw [nums_intItems] at hn
  subst hn
  refine maxN_call (hlen ▸ hz) ?_
  rw [e]
  have hT : (s.heap.push { cls := .type "tuple", data := .seq (intItems xs) }).IsTuple s.heap.objs.size (intItems xs) := ⟨_, Heap.get?_push_size _ rfl, rfl, 0, rfl⟩
  refine wpAny_pyIter_tuple hT ?_
  have hsz : (s.heap.push { cls := .type "tuple", data := .seq (intItems xs) }).objs.size = s.heap.objs.size + 1 := Heap.size_push ..
  have hx : (intItems xs).size = xs.size := by simp [intItems]
  have h2' : 2 ≤ xs.size := by simpa using h2
  refine ⟨_, [_, s.heap.objs.size], [_], _, _, _, _, rfl, Walks.tuple (A := A.in1) hh _ s.heap.objs.size (by rw [hsz]; exact Nat.ne_of_lt (Nat.lt_succ_self _)) (intItems xs),
    ⟨⟨_, Heap.get?_push_size _ rfl, rfl, rfl⟩, hT.push _⟩, fun d hd => ?_, by rw [hx]; omega, CmpOf.ints_gt (numAt xs) (fun _ _ => intItems_at), fun v g tk hP hk => ?_⟩
  · show d < ((s.heap.push _).push _).objs.size
    rw [Heap.size_push, hsz]
    simp only [List.mem_cons, List.not_mem_nil, or_false] at hd
    rcases hd with rfl | rfl
    · rw [hsz]; exact Nat.lt_succ_self _
    · exact Nat.lt_succ_of_lt (Nat.lt_succ_self _)
  · have old : ∀ d o, s.heap.get? d = some o → g.get? d = some o := fun d o z => by
      refine hk d o (fun hm => ?_) (Heap.get?_push_of_some _ (Heap.get?_push_of_some _ z))
      have := Heap.lt_size z
      rw [List.mem_singleton.mp hm, hsz] at this
      exact Nat.lt_irrefl _ (Nat.lt_of_succ_lt this)
    rw [hx] at hP
    obtain ⟨t, rfl⟩ := intItems_at hP
    obtain ⟨b1, b2⟩ := argBest_gt (numAt xs) (xs.size - 1)
    refine h g tk _ t old ?_ fun y hy => ?_
    · rw [numAt_eq]
      exact PySem.getD_mem (by rw [List.length_map, Array.length_toList]; omega)
    · obtain ⟨j, hj, rfl⟩ := mem_getD hy
      rw [List.length_map, Array.length_toList] at hj
      rw [← numAt_eq]
      exact b2 j (by omega)
end
section
variable {X : Cx} {CX : CXT} {k : Nat} {C f : Addr} {fd : FuncData} {ps ks : List Str} {sp : Sp} {E : XK} {o : Expr} {kws : List Keyword} {m : Str} {pos apos : Pos} {ta : TE} {tk : TA} {pl : Sem Bool} {gg : List Value → List Value → List Value} {gV : List V → List V → List V}
theorem call_maxN (hc : X.calm = true) : CallR X (.builtin "max") rMaxs := by
  intro pins s σ H vs us Q I r h
  obtain ⟨ns, rfl, h2, hz, q⟩ := h
  exact maxN_ints (I.ok.hd hc) r.ints h2 (Nat.le_trans hz (by decide)) fun g tk M t hk b1 b2 => ⟨.int _, H, I.kept hk, ⟨_, rfl⟩, q M b1 b2⟩
/-- o.m(k = v, ..) -/
def tMethK (C : Addr) (m : Str) (n : Nat) (sp : Sp) (gV : List V → List V → List V) (E : XK) (ta : TE) (tk : TA) : TE := fun σ H Q => ta σ H fun x H1 => ∃ a dx fs, x = .ref a ∧ H1 a = some (.ins C dx fs) ∧ fs.lookup m = none ∧
  tk σ H1 fun zs H2 => zs.length = n ∧ sp (gV [x] zs) H2 Q E
theorem pe_methK0 (he : PE X o ta) (c : Cls X.K C) (hm : Meth X.K C m f) (F : FnOk X.prog X.w X.K X.mg X.base CX k f fd ps sp) (hr : Room k X.A) (hb : KBn X.K fd ps 1 ks gg gV) (hx : Passes CX X E) (hkw : PK X kws tk)
    (hall : (backToKw pos (keywordEach kws X.env)).all (·.1.isSome) = true := by rfl) (hks : (backToKw pos (keywordEach kws X.env)).filterMap (·.1) = ks := by rfl)
    (hpl : ((backTo pos (starEach [] X.env)).any (·.1) || (backToKw pos (keywordEach kws X.env)).any (·.1.isNone)) = false := by rfl)
    (ht : eval (.Call (.Attribute o m apos) [] kws pos) X.env = (do
      let ov ← eval o X.env
      standAt apos.atName
      let (f, first) ← holding [ov] (getMethod ov m pl)
      callWith pos f first (backTo pos (starEach [] X.env)) (backToKw pos (keywordEach kws X.env))) := by rfl) :
    PE X (.Call (.Attribute o m apos) [] kws pos) (tMethK C m ks.length sp gV E ta tk) := by
  refine ⟨fun pins s σ H Q I h => ?_⟩
  refine PySem.W.methodCall_KW (pl := pl) (thn (he.run pins s σ H _ I h) fun u s1 ⟨x, H1, I1, rx, a, dx, fs, ex, ea, l, q⟩ => ?_) ht
  subst ex
  obtain rfl : u = Value.ref a := rx
  refine getmeth_ok I1 ea c hm l ?_
  refine PySem.W.callWith_KW0 (first := [.ref a]) (h₀ := X.base) I1.ok.mod.kin hm.kp hall ?_ hpl
  refine thn (hkw.run pos pins s1 σ H1 _ I1 q) fun ws s2 ⟨zs, H2, I2, rz, l2, q2⟩ => ⟨I2.kIn, ?_⟩
  rw [hks]
  exact run_fnN (us := [.ref a]) (vs := [.ref a]) F hr hb hx I2 (.cons rfl .nil) rz rfl l2 q2
end
end ZX
namespace Z
open PySem PySem.Spec PyProof.Rows L2 TL PySem.Builtin.Str
/-! ### strings -/
def allIn (z s : Str) : Bool := (tl z).all fun c => decide (c ∈ tl s)
theorem len_tl' (x : Str) : (tl x).length = x.length := (len_tl x).symm
theorem tl_empty : tl ("" : Str) = [] := by decide +kernel
theorem eq_empty {x : Str} : x = ("" : Str) ↔ tl x = [] := by
  constructor
  · intro h; rw [h]; exact tl_empty
  · intro h; exact ext_tl (h.trans tl_empty.symm)
theorem contains_mem (y : Str) (c : Nat) : y.cps.contains c = decide (c ∈ tl y) := by
  have : y.cps.contains c = y.cps.toList.contains c := by
    cases y with | mk a => simp
  rw [this]
  by_cases h : c ∈ tl y
  · rw [decide_eq_true h]; exact List.contains_iff_mem.mpr h
  · rw [decide_eq_false h]
    cases e : y.cps.toList.contains c with
    | false => rfl
    | true => exact absurd (List.contains_iff_mem.mp e) h
/-- strip(signs) leaves nothing exactly if all are among the signs -/
theorem strip_all (z s : Str) : decide (Txt.stripChars z s = ("" : Str)) = allIn z s := by
  have hg : s.cps.contains = fun c => decide (c ∈ tl s) := funext (contains_mem s)
  have e0 : Txt.stripChars z s = strSub z (stripLo s.cps.contains true z) (stripHi s.cps.contains true z (stripLo s.cps.contains true z)) := stripBy_eq _ _ _ _
  obtain ⟨l1, l2, l3⟩ := lo_facts s.cps.contains z
  obtain ⟨h1, h2, h3, h4⟩ := hi_facts s.cps.contains z _ l1
  generalize hlo : stripLo s.cps.contains true z = lo at *
  generalize hhi : stripHi s.cps.contains true z lo = hi at *
  have hlen : (tl z).length = z.length := len_tl' z
  have e1 : tl (Txt.stripChars z s) = ((tl z).drop lo).take (hi - lo) := by rw [e0]; exact tl_strSub _ _ _
  have key : tl (Txt.stripChars z s) = [] ↔ hi = lo := by
    rw [e1]
    constructor
    · intro h
      have := congrArg List.length h
      rw [List.length_take, List.length_drop, hlen] at this
      simp only [List.length_nil] at this
      omega
    · intro h; rw [h]; simp
  have gd : ∀ k, k < z.length → s.cps.contains (z.cps.getD k 0) = true → z.cps.getD k 0 ∈ tl s := fun k _ h => by
    rw [contains_mem] at h; exact of_decide_eq_true h
  have gt : ∀ k (hk : k < z.length), z.cps.getD k 0 = (tl z)[k]'(by rw [hlen]; exact hk) := fun k hk => by
    rw [← getD_list]
    have : k < z.cps.toList.length := by rw [← hlen] at hk; exact hk
    show z.cps.toList.getD k 0 = z.cps.toList[k]
    rw [List.getD_eq_getElem?_getD, List.getElem?_eq_getElem this]
    rfl
  by_cases hh : hi = lo
  · rw [decide_eq_true (eq_empty.mpr (key.mpr hh))]
    symm
    refine List.all_eq_true.mpr fun c hc => decide_eq_true ?_
    obtain ⟨k, hk, e⟩ := List.mem_iff_getElem.mp hc
    have hk' : k < z.length := by rw [← hlen]; exact hk
    have : z.cps.getD k 0 ∈ tl s := by
      by_cases hkl : k < lo
      · exact gd k hk' (l2 k hkl)
      · exact gd k hk' (h3 k (by omega) hk')
    rw [gt k hk', e] at this
    exact this
  · have hne : ¬ Txt.stripChars z s = ("" : Str) := fun h => hh (key.mp (eq_empty.mp h))
    rw [decide_eq_false hne]
    symm
    cases e : allIn z s with
    | false => rfl
    | true =>
      exfalso
      have ha := List.all_eq_true.mp e
      have hlt : lo < z.length := by omega
      rcases l3 with h | h
      · omega
      · have hm : z.cps.getD lo 0 ∈ tl s := by
          rw [gt lo hlt]
          exact of_decide_eq_true (ha _ (List.getElem_mem _))
        rw [contains_mem, decide_eq_true hm] at h
        cases h
theorem strip_len (z s : Str) : (Txt.stripChars z s).length ≤ z.length := by
  have e0 : Txt.stripChars z s = strSub z (stripLo s.cps.contains true z) (stripHi s.cps.contains true z (stripLo s.cps.contains true z)) := stripBy_eq _ _ _ _
  rw [e0, len_tl, tl_strSub, List.length_take, List.length_drop, len_tl]
  omega
/-! ### plain -/
def signs : Str := (" !\"#$&'()*+,-./0123456789:;<=>?@ABCDEFGHIJKLMNOPQRSTUVWXYZ[\\]^_`" : Str) ++ ("abcdefghijklmnopqrstuvwxyz{|}~" : Str)
theorem signs_lt : ∀ c ∈ tl signs, c < 128 := by decide +kernel
theorem signs_128 : ∀ c, c < 128 → (Unicode.isPrintable c && decide (c ≠ 37)) = decide (c ∈ tl signs) := by decide +kernel
theorem filter_eq {l : List Nat} {p : Nat → Bool} : (l.filter p = l) ↔ l.all p = true := by
  rw [List.filter_eq_self, List.all_eq_true]
theorem plain_all (l : List Nat) : (l.all (fun c => decide (c < 128)) && (l.all Unicode.isPrintable && l.all fun c => decide (c ≠ 37))) = l.all fun c => decide (c ∈ tl signs) := by
  induction l with
  | nil => rfl
  | cons a r ih =>
    rw [List.all_cons, List.all_cons, List.all_cons, List.all_cons, ← ih]
    by_cases h : a < 128
    · rw [← signs_128 a h, decide_eq_true h]
      cases Unicode.isPrintable a <;> cases decide (a ≠ 37) <;> cases r.all (fun c => decide (c < 128)) <;> cases r.all Unicode.isPrintable <;> rfl
    · have h2 : ¬ a ∈ tl signs := fun hm => h (signs_lt a hm)
      rw [decide_eq_false h, decide_eq_false h2]
      cases r.all (fun c => decide (c < 128)) <;> cases r.all Unicode.isPrintable <;> rfl
theorem isascii_tl (z : Str) : Txt.isascii z = (tl z).all fun c => decide (c < 128) := by
  unfold Txt.isascii
  rw [← Array.all_toList]
theorem isprintable_tl (z : Str) : Txt.isprintable z = (tl z).all Unicode.isPrintable := by
  unfold Txt.isprintable
  rw [← Array.all_toList]
/-- the text without its percent signs -/
def no37 (z : Str) : Str := ⟨((tl z).filter fun c => decide (c ≠ 37)).toArray⟩
theorem no37_tl (z : Str) : tl (no37 z) = (tl z).filter fun c => decide (c ≠ 37) := rfl
theorem no37_eq (z : Str) : decide (no37 z = z) = (tl z).all fun c => decide (c ≠ 37) := by
  cases e : (tl z).all fun c => decide (c ≠ 37) with
  | true => exact decide_eq_true (ext_tl ((no37_tl z).trans (filter_eq.mpr e)))
  | false =>
    refine decide_eq_false fun h => ?_
    have : (tl z).filter (fun c => decide (c ≠ 37)) = tl z := by rw [← no37_tl, h]
    rw [filter_eq.mp this] at e
    cases e
theorem plain_eq (z : Str) : (Txt.isascii z && (Txt.isprintable z && decide (no37 z = z))) = allIn z signs := by
  rw [isascii_tl, isprintable_tl, no37_eq]
  exact plain_all (tl z)
/-! ### the first sign -/
def hd (z : Str) : Option Nat := (tl z).head?
theorem hd_some {z : Str} (h : 1 ≤ z.length) : ∃ c, hd z = some c ∧ z.cps[0]? = some c := by
  rw [len_tl] at h
  cases e : tl z with
  | nil => rw [e] at h; exact absurd h (by decide)
  | cons c r =>
    refine ⟨c, by unfold hd; rw [e]; rfl, ?_⟩
    have : z.cps.toList[0]? = some c := by show (tl z)[0]? = _; rw [e]; rfl
    simpa using this
theorem cut1_tl (z : Str) : tl (cutS z none (some 1)) = (tl z).take 1 := by
  show ((tl z).drop (HT.sIx z.length 0 none)).take (HT.sIx z.length z.length (some 1) - HT.sIx z.length 0 none) = _
  rw [HT.sIx_none, show HT.sIx z.length z.length (some 1) = min 1 z.length from HT.sIx_nat _ _ 1, List.drop_zero, Nat.sub_zero]
  rw [len_tl]
  cases tl z with
  | nil => rfl
  | cons c r =>
    rw [List.length_cons, show min 1 (r.length + 1) = 1 by omega]
theorem cutFrom1_tl (z : Str) : tl (cutS z (some 1) none) = (tl z).drop 1 := by
  show ((tl z).drop (HT.sIx z.length 0 (some 1))).take (HT.sIx z.length z.length none - HT.sIx z.length 0 (some 1)) = _
  rw [HT.sIx_none, show HT.sIx z.length 0 (some 1) = min 1 z.length from HT.sIx_nat _ _ 1]
  rw [len_tl]
  cases tl z with
  | nil => rfl
  | cons c r =>
    rw [List.length_cons, show min 1 (r.length + 1) = 1 by omega]
    exact List.take_of_length_le (by simp)
theorem cut1_one {z : Str} {c : Nat} (h : hd z = some c) : cutS z none (some 1) = ⟨#[c]⟩ := by
  refine ext_tl ?_
  rw [cut1_tl]
  unfold hd at h
  cases e : tl z with
  | nil => rw [e] at h; cases h
  | cons a r =>
    rw [e] at h
    cases h
    rfl
theorem cut1_nil {z : Str} (h : hd z = none) : cutS z none (some 1) = ("" : Str) := by
  refine eq_empty.mpr ?_
  rw [cut1_tl]
  unfold hd at h
  cases e : tl z with
  | nil => rfl
  | cons a r => rw [e] at h; cases h
theorem one_eq (c d : Nat) : ((⟨#[c]⟩ : Str) = ⟨#[d]⟩) ↔ c = d := by
  constructor
  · intro h
    have := congrArg tl h
    have h2 : ([c] : List Nat) = [d] := this
    cases h2
    rfl
  · intro h; rw [h]
end Z
set_option maxHeartbeats 2000000
namespace Z
open PySem PySem.Spec PyProof.Rows L2 TL PySem.Builtin PySem.Builtin.Str
/-! ### text.translate({37: None}) for a text of ASCII signs: the percent signs go, all others stay -/
/-- nothing that stood in the heap has changed -/
abbrev Old (h h' : Heap) : Prop := ∀ b o, h.get? b = some o → h'.get? b = some o
/-- what the table holds: the key 37 with None, and no other key -/
structure Drops (f : Key → Option Value) : Prop where
  here : f (Sum.inl 37) = some .none
  away : ∀ c : Nat, c ≠ 37 → f (Sum.inl (c : Int)) = none
theorem drops_one : Drops (valueAt [((Sum.inl 37 : Key), Value.none)]) where
  here := rfl
  away := fun c hc => by
    have e : decide ((Sum.inl 37 : Key) = Sum.inl (c : Int)) = false := by
      rw [key_ll]
      exact beq_eq_false_iff_ne.mpr (by omega)
    show ((List.find? _ [((Sum.inl 37 : Key), Value.none)]).map (·.2)) = none
    rw [List.find?_cons, e]
    rfl
section
variable {prog : Program} {w : World} {A : Around} {E : Value → Shared → Prop} {s : Shared} {d : Addr}
/-- the sign 37 is found, with None -/
theorem look_here {f : Key → Option Value} {Q : Mapped → Shared → Prop} (T : Drops f) (hm : s.heap.MapOf (mixKind prog w) d f)
    (q : ∀ k, Q .drop { s with toks := k }) : wpAny (model prog w) A (tableLookup (.ref d) 37) Q E s := by
  unfold tableLookup
  refine wpAny_bind (wpAny_attempt (wpAny_bind (wpAny_mkInt ?_)))
  exact wpAny_getItem_of (knd := mixKind prog w) (k := Sum.inl ((37 : Nat) : Int)) (mixKind_int _ _ _ _) hm T.here (wpAny_pure (q _))
/-- any other sign is not: the KeyError of the look is taken for «keep» -/
theorem look_away {f : Key → Option Value} {Q : Mapped → Shared → Prop} {c : Nat} (hc : c ≠ 37) (calm : A.handled = none) (low : (d == sysModules) = false) (T : Drops f) (hm : s.heap.MapOf (mixKind prog w) d f)
    (q : ∀ h' k, Old s.heap h' → Q .keep { s with heap := h', toks := k }) : wpAny (model prog w) A (tableLookup (.ref d) c) Q E s := by
  unfold tableLookup
  refine wpAny_bind (wpAny_attempt (wpAny_bind (wpAny_mkInt ?_)))
  refine wpAny_getItem_missing_of (knd := mixKind prog w) (k := Sum.inl (c : Int)) (mixKind_int _ _ _ _) low calm hm (T.away c hc) ?_
  intro h' e new
  obtain ⟨eo, _, get, isKey, _⟩ := new.there
  have kin : isSubtype (.type "KeyError") (.type "LookupError") = pure true := key_is_lookup
  refine wpAny_bind (wpAny_isInstance (T := "KeyError") (b := true) ⟨eo, get, isKey⟩ kin ?_)
  exact wpAny_bind (wpAny_rule (wpAny_pure (q h' _ new.keeps)))
end
def left37 (l : List Nat) : List Nat := l.filter fun c => decide (c ≠ 37)
theorem left_nil : left37 [] = [] := rfl
theorem left_here (l : List Nat) : left37 (l ++ [37]) = left37 l := by
  unfold left37
  rw [List.filter_append]
  simp
theorem left_away {c : Nat} (h : c ≠ 37) (l : List Nat) : left37 (l ++ [c]) = left37 l ++ [c] := by
  unfold left37
  rw [List.filter_append]
  simp [h]
theorem left_len (l : List Nat) : (left37 l).length ≤ l.length := List.length_filter_le _ _
def sign (c : Nat) : Str := ⟨#[c]⟩
theorem glue_signs (l : List Nat) : ∀ a : Array Nat, (l.map sign).foldl (fun acc (p : Str) => acc ++ p.cps) a = a ++ l.toArray := by
  induction l with
  | nil => intro a; simp
  | cons c r ih =>
    intro a
    show (r.map sign).foldl (fun acc (p : Str) => acc ++ p.cps) (a ++ #[c]) = _
    rw [ih]
    refine Array.toList_inj.mp ?_
    simp
/-- where a sign of the fast road goes -/
def goes37 (c : Nat) : Option Nat := if c = 37 then none else some c
/-- the memo of the signs asked before -/
def Memo (known : List (Nat × Option Nat)) : Prop := ∀ c a, known.lookup c = some a → a = goes37 c
theorem memo_nil : Memo [] := fun _ _ h => nomatch h
theorem Memo.more {known : List (Nat × Option Nat)} (m : Memo known) (c : Nat) : Memo ((c, goes37 c) :: known) := fun c' a h => by
  rcases lookup_new h with ⟨rfl, e⟩ | h
  · exact e
  · exact m c' a h
abbrev Walk37 : Type := List Str × Nat × Bool × List (Nat × Option Nat) × Bool
/-- the state behind the signs `past`, ahead of `rest` -/
structure Mid37 (x : List Nat) (s : Shared) (rest : List Nat) (past : List Nat) (pieces : List Str) (known : List (Nat × Option Nat)) (h' : Heap) : Prop where
  cut : x = past ++ rest
  made : pieces.reverse = (left37 past).map sign
  memo : Memo known
  old : Old s.heap h'
def At37 (x : List Nat) (s : Shared) (rest : List Nat) (st : Walk37) (s' : Shared) : Prop :=
  ∃ past pieces known h' k, Mid37 x s rest past pieces known h' ∧ st = (pieces, (left37 past).length, true, known, false) ∧ s' = { s with heap := h', toks := k }
section
variable {x rest past : List Nat} {s : Shared} {c : Nat} {pieces : List Str} {known : List (Nat × Option Nat)} {h' : Heap} {k : Nat}
theorem Mid37.away (m : Mid37 x s (c :: rest) past pieces known h') (hc : c ≠ 37) {known' : List (Nat × Option Nat)} (hk : Memo known') {h2 : Heap} (old : Old s.heap h2) :
    At37 x s rest (sign c :: pieces, (left37 past).length + 1, true, known', false) { s with heap := h2, toks := k } := by
  refine ⟨past ++ [c], sign c :: pieces, known', h2, k, ⟨?_, ?_, hk, old⟩, ?_, rfl⟩
  · rw [m.cut, List.append_assoc, List.singleton_append]
  · rw [left_away hc, List.map_append, List.reverse_cons, m.made]
    rfl
  · rw [left_away hc, List.length_append, List.length_singleton]
theorem Mid37.here (m : Mid37 x s (37 :: rest) past pieces known h') {known' : List (Nat × Option Nat)} (hk : Memo known') {h2 : Heap} (old : Old s.heap h2) :
    At37 x s rest (pieces, (left37 past).length, true, known', false) { s with heap := h2, toks := k } := by
  refine ⟨past ++ [37], pieces, known', h2, k, ⟨?_, ?_, hk, old⟩, ?_, rfl⟩
  · rw [m.cut, List.append_assoc, List.singleton_append]
  · rw [left_here, m.made]
  · rw [left_here]
end
theorem meets37 {prog : Program} {w : World} {x : List Nat} {t : Tok} {d : Addr} {f : Key → Option Value} (T : Drops f) (low : (d == sysModules) = false) (few : x.length ≤ 16000000) (ascii : ∀ c ∈ x, c < 128) :
    MeetsIn prog w («str.translate» ⟨[.str (SX.S x) t, .ref d], []⟩) (fun A R s => A.handled = none ∧ s.heap.MapOf (mixKind prog w) d f ∧
      ∀ (v : Value) (h' : Heap) (k : Nat), Old s.heap h' → (∃ t', v = .str (SX.S (left37 x)) t') → R (.ok (.ret v)) { s with heap := h', toks := k }) := by
  refine .of_wp fun A R s hyp => ?_
  obtain ⟨calm, tab, done⟩ := hyp
  have calm1 : A.in1.handled = none := calm
  show wpAny _ _ (if ((SX.S x).length == 0) = true then _ else (do
    let st ← forIn (SX.S x).cps (([], 0, (SX.S x).cps.all fun y => decide (y < 128), [], false) : Walk37) _
    _)) _ _ s
  by_cases empty : x = []
  · rw [if_pos (show ((SX.S x).length == 0) = true by rw [SX.S_len, empty]; rfl)]
    subst empty
    exact wpAny_bind (wpAny_rule (wpAny_pure ⟨_, rfl, done _ s.heap s.toks (fun _ _ e => e) ⟨t, rfl⟩⟩))
  · have full : ¬ ((SX.S x).length == 0) = true := fun h => by
      rw [SX.S_len, beq_iff_eq] at h
      exact empty (List.eq_nil_of_length_eq_zero h)
    have fast : ((SX.S x).cps.all fun y => decide (y < 128)) = true := by
      rw [← Array.all_toList]
      exact List.all_eq_true.mpr fun c hc => decide_eq_true (ascii c hc)
    rw [if_neg full, fast]
    refine wpAny_bind (MeetsSeq2.wpAny_forIn_array _ (At37 x s) _ (fun c rest st s' at_ => ?_) (fun st s' at_ => ?_) (SX.S x).cps ([], 0, true, [], false) ?_)
    · obtain ⟨past, pieces, known, h', k, m, rfl, rfl⟩ := at_
      have short : tooLong (left37 past).length = false := by
        have q := congrArg List.length m.cut
        rw [List.length_append] at q
        have := left_len past
        exact PyProof.Rows.short24 (by omega)
      have tab' : h'.MapOf (mixKind prog w) d f := by
        obtain ⟨o, es, ep, get, r⟩ := tab
        exact ⟨o, es, ep, m.old _ _ get, r⟩
      show wpAny _ _ (if tooLong (left37 past).length = true then _ else (if true = true then _ else _)) _ _ _
      rw [short, if_neg Bool.false_ne_true, if_pos rfl]
      by_cases hc : c = 37
      · subst hc
        cases ask : known.lookup 37 with
        | some a =>
          have ea : a = none := m.memo _ _ ask
          subst ea
          exact wpAny_bind (wpAny_pure (wpAny_pure (m.here m.memo m.old)))
        | none =>
          exact wpAny_bind (look_here T tab' fun k2 => wpAny_bind (wpAny_pure (wpAny_pure (m.here (m.memo.more 37) m.old))))
      · have ego : goes37 c = some c := if_neg hc
        have more := m.memo.more c
        rw [ego] at more
        cases ask : known.lookup c with
        | some a =>
          have ea : a = some c := (m.memo _ _ ask).trans ego
          subst ea
          exact wpAny_bind (wpAny_pure (wpAny_pure (m.away hc m.memo m.old)))
        | none =>
          exact wpAny_bind (look_away hc calm1 low T tab' fun h2 k2 old => wpAny_bind (wpAny_pure (wpAny_pure (m.away hc more fun b o e => old b o (m.old b o e)))))
    · obtain ⟨past, pieces, known, h', k, m, rfl, rfl⟩ := at_
      have ex : past = x := by rw [m.cut, List.append_nil]
      have made := m.made
      rw [ex] at made ⊢
      have := left_len x
      have text : (⟨#[] ++ (left37 x).toArray⟩ : Str) = SX.S (left37 x) := by simp
      show wpAny _ _ (if tooLong (left37 x).length = true then _ else retStr ⟨List.foldl (fun acc (p : Str) => acc ++ p.cps) #[] pieces.reverse⟩) _ _ _
      rw [PyProof.Rows.short24 (n := (left37 x).length) (by omega), if_neg Bool.false_ne_true, made, glue_signs, text]
      exact wpAny_bind (wpAny_mkStr (wpAny_pure ⟨_, rfl, done _ h' _ m.old ⟨_, rfl⟩⟩) (by rw [SX.S_len, sizeLine_eq]; omega))
    · refine ⟨[], [], [], s.heap, s.toks, ⟨?_, rfl, memo_nil, fun _ _ e => e⟩, rfl, rfl⟩
      show x = [] ++ x.toArray.toList
      simp
/-- the rule, over the layer: the table a dict that the call has made -/
theorem mt_translate37 {X : Cx} (hc : X.calm = true) : MtR X "str.translate" (fun x xs H Q => ∃ (z : Str) (d : Addr), x = .str z ∧ xs = [.ref d] ∧ H d = some (.dK [(Sum.inl 37, .non)]) ∧ (∀ c ∈ tl z, c < 128) ∧ z.length ≤ 16000000 ∧ Q (.str (no37 z)) H) := by
  intro pins s σ H x xs v us Q I rx rs ⟨z, d, ex, exs, hd, ascii, few, q⟩
  rw [ex] at rx
  rw [exs] at rs
  obtain ⟨t, ev⟩ := rx
  rw [ev]
  cases rs with
  | cons r1 none_left =>
    cases none_left
    have eu := r1
    rw [show _ = Value.ref d from eu]
    obtain ⟨_, low, vs, kv, is⟩ := I.hok d _ hd
    have evs : vs = [((Sum.inl 37 : Key), Value.none)] := by
      cases kv with
      | cons pq none_left =>
        cases none_left
        exact congrArg (fun p => [p]) (Prod.ext (Eq.symm pq.1) pq.2)
    rw [evs] at is
    have ez : z = SX.S (tl z) := (SX.S_tl z).symm
    rw [ez]
    refine call_meetsIn F.slot_str_translate (typeIs_str _ _ _) F.entry_str_translate (F.args_str_translate_2 _ _) (meets37 (t := t) drops_one low (by rw [len_tl']; exact few) ascii) ⟨I.ok.hd hc, is.mapOf, ?_⟩
    intro v2 h' k old ⟨t', e2⟩
    rw [e2]
    exact ⟨.str _, H, I.kept (t' := k) old, ⟨t', rfl⟩, q⟩
end Z
set_option maxHeartbeats 2000000
namespace Z
open PySem PySem.Spec PyProof.Rows L2 TL
/-! ### defs of the module, called by place or by keywords -/
abbrev FnP (K : PySem.W.Frag) (x : Str) (st : Stmt) (f : Addr) (fd : FuncData) : Prop := FunD K x x (L2.defArgs st) (L2.defBody st) (L2.defScope st) [] [] f fd
structure Call (P : Program) (w : World) (K : PySem.W.Frag) (mg : Str → Option Value) (base : Heap) (k : Nat) (x : Str) (ps : List Str) (sp : Sp) : Prop where
  ex : ∃ (f : Addr) (fd : FuncData), FnOk P w K mg base CX0 k f fd ps sp ∧ mg x = some (.ref f) ∧ PySem.W.keepIn K (.ref f) = true ∧ Binds K fd ps [] ∧ KBn K fd ps 0 ps (fun _ ws => ws) (fun _ zs => zs)
section
variable {P : Program} {w : World} {K : PySem.W.Frag} {mg : Str → Option Value} {base : Heap} {x : Str} {st : Stmt} {f : Addr} {fd : FuncData} {N ps : List Str} {k : Nat} {sp : Sp}
theorem kbn (F : FnP K x st f fd) (h : ∀ (kV doc pm : Value) (an : Option Addr) (cdv ct : Value) (ws : List Value), ws.length = ps.length → bindArgs (PySem.W.fnOf x x (L2.defArgs st) (L2.defBody st) (L2.defScope st) .none kV doc pm an cdv ct) ⟨[], ps.zip ws⟩ = pure (ps.zip ws)) :
    KBn K fd ps 0 ps (fun _ ws => ws) (fun _ zs => zs) := by
  obtain ⟨_, _, dflt, kwd, doc, mod, ann, code, tp, _, isFd, _, _, none_given, _⟩ := F.ex
  have no : dflt = .none := none_given.elim (fun q => q.2) fun q => absurd rfl q.1
  rw [isFd, no]
  refine ⟨fun st0 us ws _ nu nw => ?_, fun _ r => r⟩
  rw [List.eq_nil_of_length_eq_zero nu]
  exact .of_eq (h kwd doc mod ann code tp ws nw)
/-- a def's promise, by its body -/
theorem mkF (F : FnP K x st f fd) (S : FnScope N ps (L2.defScope st)) (len : ∀ vs H Q E, sp vs H Q E → vs.length = ps.length)
    (hbody : ∀ (cdv : Value) (A : Around) (outer : List Env) (s : Shared) (H : Hp) (vs : List V) (Q : VK) (E : XK), Room k (A.deeper (envOfC x (L2.defScope st) s.heap.objs.size f cdv)) → sp vs H Q E →
      ∃ t, PSs (cxOf CX0 P w K mg base N x (L2.defScope st) f cdv A outer s H E).nox (L2.defBody st) t ∧ t { nx := fun _ H' => Q .non H', rt := Q } (start N vs) H) : FnOk P w K mg base CX0 (k + 1) f fd ps sp :=
  F.ok S len fun cdv A outer s H vs Q E hr h => by
    obtain ⟨t, h1, h2⟩ := hbody cdv A outer s H vs Q E hr h
    exact ⟨t, h1.nox, h2⟩
theorem mk (F : FnP K x st f fd) (gm : mg x = some (.ref f))
    (hb : ∀ (kV doc pm : Value) (an : Option Addr) (cdv ct : Value) (us : List Value), us.length = ps.length → bindArgs (PySem.W.fnOf x x (L2.defArgs st) (L2.defBody st) (L2.defScope st) .none kV doc pm an cdv ct) ⟨us, []⟩ = pure (ps.zip us))
    (hk : ∀ (kV doc pm : Value) (an : Option Addr) (cdv ct : Value) (ws : List Value), ws.length = ps.length → bindArgs (PySem.W.fnOf x x (L2.defArgs st) (L2.defBody st) (L2.defScope st) .none kV doc pm an cdv ct) ⟨[], ps.zip ws⟩ = pure (ps.zip ws))
    (S : FnScope N ps (L2.defScope st)) (len : ∀ vs H Q E, sp vs H Q E → vs.length = ps.length)
    (hbody : ∀ (cdv : Value) (A : Around) (outer : List Env) (s : Shared) (H : Hp) (vs : List V) (Q : VK) (E : XK), Room k (A.deeper (envOfC x (L2.defScope st) s.heap.objs.size f cdv)) → sp vs H Q E →
      ∃ t, PSs (cxOf CX0 P w K mg base N x (L2.defScope st) f cdv A outer s H E).nox (L2.defBody st) t ∧ t { nx := fun _ H' => Q .non H', rt := Q } (start N vs) H) : Call P w K mg base (k + 1) x ps sp := by
  exact ⟨f, fd, mkF F S len hbody, gm, F.kp, F.bindsN hb, kbn F hk⟩
end
section
variable {X : Cx} {k j : Nat} {x : Str} {ps : List Str} {sp : Sp} {p pos : Pos} {e : Expr} {es : List Expr} {kws : List Keyword} {t tk : TA}
theorem pe_f (c : Call X.prog X.w X.K X.mg X.base k x ps sp) (hr : Room j X.A) (hk : k ≤ j) (hg : Gl X x) (ha : PA X (e :: es) t)
    (hdb : (x == ("__debug__" : Str)) = false := by decide) (he : starEach (e :: es) X.env = (false, eval e X.env) :: starEach es X.env := by rfl) (hpl : (backTo pos (starEach es X.env)).any (·.1) = false := by rfl) :
    PE X (.Call (.Name x p) (e :: es) [] pos) (tCall sp [] E0 t) := by
  obtain ⟨f, fd, F, hm, kp, b, _⟩ := c.ex
  exact pe_call F (hr.mono hk) hg hm kp b .nil pass0 ha hdb he hpl
theorem pe_f0 (c : Call X.prog X.w X.K X.mg X.base k x ps sp) (hr : Room j X.A) (hk : k ≤ j) (hg : Gl X x) (hdb : (x == ("__debug__" : Str)) = false := by decide) : PE X (.Call (.Name x p) [] [] pos) (tCall sp [] E0 tNil) := by
  obtain ⟨f, fd, F, hm, kp, b, _⟩ := c.ex
  exact pe_call0 F (hr.mono hk) hg hm kp b .nil pass0 hdb
/-- f(k = v, ..), all parameters by keywords, in their order -/
theorem pe_fk (c : Call X.prog X.w X.K X.mg X.base k x ps sp) (hr : Room j X.A) (hj : k ≤ j) (hg : Gl X x) (hkw : PK X kws tk)
    (hks : (backToKw pos (keywordEach kws X.env)).filterMap (·.1) = ps := by rfl) (hall : (backToKw pos (keywordEach kws X.env)).all (·.1.isSome) = true := by rfl)
    (hdb : (x == ("__debug__" : Str)) = false := by decide)
    (hpl : ((backTo pos (starEach [] X.env)).any (·.1) || (backToKw pos (keywordEach kws X.env)).any (·.1.isNone)) = false := by rfl) :
    PE X (.Call (.Name x p) [] kws pos) (tCallN 0 ps.length sp (fun _ zs => zs) E0 tNil tk) where
  run := fun pins s σ H Q I asks => by
    obtain ⟨f, fd, F, named, kept, _, binds⟩ := c.ex
    refine wpAny_Call_Name_kw (ld_glob I hg named (PySem.W.callWith_KW0 (h₀ := X.base) I.ok.mod.kin kept hall ?_ hpl) hdb)
    refine thn (hkw.run pos pins s σ H _ I asks) fun ws s2 told => ?_
    obtain ⟨zs, H2, I2, rz, _, many, wish⟩ := told
    refine ⟨I2.kIn, ?_⟩
    rw [hks]
    exact run_fnN (us := []) (vs := []) F (hr.mono hj) binds pass0 I2 .nil rz rfl many wish
end
section
variable {X : Cx} {x : Str} {pos : Pos}
/-- a module's constant -/
theorem pe_gc {v : V} (hg : Gl X x) (h : ∃ u, X.mg x = some u ∧ RelV v u) (hd : (x == ("__debug__" : Str)) = false := by decide) : PE X (.Name x pos) (tC v) := by
  obtain ⟨u, hm, r⟩ := h
  exact pe_glob hg hm r hd
end
/-- where the context is a comprehension's, its written part is the def's -/
theorem inK {X : Cx} {K : PySem.W.Frag} {e : Expr} {t : PySem.W.Frag → TE} (same : X.K = K) (h : PE X e (t X.K)) : PE X e (t K) := same ▸ h
/-! ### a text times a number -/
def repS (z : Str) (n : Nat) : Str := if n = 0 then Str.empty else if (n == 1 || z.length == 0) = true then z else ⟨(List.replicate n z.cps).foldl (· ++ ·) #[]⟩
theorem rep_size (a : Array Nat) : ∀ (n : Nat) (acc : Array Nat), ((List.replicate n a).foldl (· ++ ·) acc).size = acc.size + n * a.size
  | 0, acc => by simp
  | n + 1, acc => by
    rw [List.replicate_succ, List.foldl_cons, rep_size a n, Array.size_append, Nat.succ_mul]
    omega
theorem repS_len (z : Str) (n : Nat) : (repS z n).length = n * z.length := by
  unfold repS
  split
  · rename_i h
    rw [h, Nat.zero_mul]
    rfl
  · split
    · rename_i h
      simp only [Bool.or_eq_true, beq_iff_eq] at h
      rcases h with h | h
      · rw [h, Nat.one_mul]
      · rw [h, Nat.mul_zero]
    · show ((List.replicate n z.cps).foldl (· ++ ·) #[]).size = n * z.cps.size
      rw [rep_size]
      simp
section
variable {X : Cx}
theorem op_rep_str : OpR X (binaryOp .Mult) (fun x y H Q => ∃ (z : Str) (i : Int), x = .str z ∧ y = .int i ∧ 0 ≤ i ∧ i ≤ 1000 ∧ z.length ≤ 1000 ∧ Q (.str (repS z i.toNat)) H) := by
  intro pins s σ H x y v u Q I rx ry h
  obtain ⟨z, i, rfl, rfl, h0, h1, hz, q⟩ := h
  obtain ⟨t, rfl⟩ := rx
  obtain ⟨t', rfl⟩ := ry
  have hle : z.length * i.toNat ≤ 1000000 := Nat.le_trans (Nat.mul_le_mul hz (show i.toNat ≤ 1000 by omega)) (by decide)
  refine PySem.P.mul_str ?_ (fun hn _ hgt => ?_) (fun _ _ => PyProof.Rows.short24 (by omega)) ?_
  · rw [decide_eq_false (show ¬ i < -(2 ^ 63) by omega), decide_eq_false (show ¬ i ≥ 2 ^ 63 by omega)]
    rfl
  · have h2 : i ∣ i := Int.dvd_refl i
    have h3 : (2 ^ 63 - 1) / (1000 : Int) ≤ (2 ^ 63 - 1) / i := by
      have : (2 ^ 63 - 1) / (1000 : Int) * i ≤ 2 ^ 63 - 1 := by
        have e : (2 ^ 63 - 1) / (1000 : Int) = 9223372036854775 := by decide
        rw [e]
        omega
      exact (Int.le_ediv_iff_mul_le (by omega)).mpr this
    have e : (2 ^ 63 - 1) / (1000 : Int) = 9223372036854775 := by decide
    rw [e] at h3
    omega
  · by_cases hn : i < 1
    · rw [if_pos hn]
      have : repS z i.toNat = Str.empty := by unfold repS; rw [if_pos (show i.toNat = 0 by omega)]
      rw [this] at q
      exact ⟨by decide, ⟨.str Str.empty, H, I.tok _, ⟨_, rfl⟩, q⟩⟩
    · rw [if_neg hn]
      have e1 : (i == 1) = (i.toNat == 1) := by
        by_cases h : i = 1
        · subst h; rfl
        · rw [beq_eq_false_iff_ne.mpr h, beq_eq_false_iff_ne.mpr (show i.toNat ≠ 1 by omega)]
      have e2 : repS z i.toNat = if (i.toNat == 1 || z.length == 0) = true then z else ⟨(List.replicate i.toNat z.cps).foldl (· ++ ·) #[]⟩ := by
        unfold repS
        rw [if_neg (show ¬ i.toNat = 0 by omega)]
      have hl := repS_len z i.toNat
      rw [e2] at q hl
      rw [e1]
      by_cases hc : (i.toNat == 1 || z.length == 0) = true
      · rw [if_pos hc] at q ⊢
        exact ⟨.str z, H, I, ⟨t, rfl⟩, q⟩
      · rw [if_neg hc] at q hl ⊢
        refine ⟨?_, ⟨.str _, H, I.tok _, ⟨_, rfl⟩, q⟩⟩
        rw [hl, sizeLine_eq]
        rw [Nat.mul_comm] at hle
        omega
end
/-! ### the size of a cell -/
theorem bits_lt {z : Int} {n : Nat} (h : Builtin.Int.intBits z ≤ n) : z.natAbs < 2 ^ n := by
  unfold Builtin.Int.intBits at h
  by_cases hz : z = 0
  · rw [hz]
    exact Nat.two_pow_pos n
  · have e : (z == 0) = false := beq_eq_false_iff_ne.mpr hz
    rw [e, if_neg Bool.false_ne_true] at h
    exact Nat.lt_of_lt_of_le (Nat.lt_log2_self) (Nat.pow_le_pow_right (by decide) h)
end Z
set_option maxHeartbeats 2000000
namespace Z
open PySem PySem.Spec PyProof.Rows L2 TL Evl
/-! ### named readings of values -/
def rStrip : V → List V → Hp → VK → Prop := fun x xs H Q => ∃ a b, x = .str a ∧ xs = [.str b] ∧ a.length ≤ sizeLine ∧ Q (.str (Txt.stripChars a b)) H
def rIsascii : V → List V → Hp → VK → Prop := fun x xs H Q => ∃ a, x = .str a ∧ xs = [] ∧ True ∧ Q (.bl (Txt.isascii a)) H
def rIsprint : V → List V → Hp → VK → Prop := fun x xs H Q => ∃ a, x = .str a ∧ xs = [] ∧ True ∧ Q (.bl (Txt.isprintable a)) H
def rTrans : V → List V → Hp → VK → Prop := fun x xs H Q => ∃ (z : Str) (d : Addr), x = .str z ∧ xs = [.ref d] ∧ H d = some (.dK [(Sum.inl 37, .non)]) ∧ (∀ c ∈ tl z, c < 128) ∧ z.length ≤ 16000000 ∧ Q (.str (no37 z)) H
def rAddS2 : R2 := fun x y H Q => ∃ i j, x = .str i ∧ y = .str j ∧ i.length + j.length ≤ sizeLine ∧ Q (.str (i ++ j)) H
def rLenStr : List V → Hp → VK → Prop := fun xs H Q => ∃ z, xs = [.str z] ∧ z.length ≤ sizeLine ∧ Q (.int z.length) H
def rIntStr : List V → Hp → VK → Prop := fun xs H Q => ∃ a n, xs = [.str a] ∧ PySem.intText? a = some n ∧ a.length ≤ 640 ∧ Q (.int n) H
def rStarts : V → List V → Hp → VK → Prop := fun x xs H Q => ∃ a b, x = .str a ∧ xs = [.str b] ∧ Q (.bl (Txt.startswith a b)) H
section
variable {X : Cx}
theorem mz_strip : MtR X "str.strip" rStrip := mt_stripChars
theorem mz_isascii : MtR X "str.isascii" rIsascii := mt_isascii
theorem mz_isprint : MtR X "str.isprintable" rIsprint := mt_isprintable
theorem mz_trans (hc : X.calm = true) : MtR X "str.translate" rTrans := mt_translate37 hc
theorem oz_add : OpR X (binaryOp .Add) rAddS2 := op_add_str
theorem cz_len : CallR X (.builtin "len") rLenStr := call_len_str
theorem cz_int : CallR X (.type "int") rIntStr := call_int_str
theorem mz_starts : MtR X "str.startswith" rStarts := mt_startswith
end
/-! ### what evaluates to what, for texts -/
section
variable {K : PySem.W.Frag} {σ : L2.St} {H H' : Hp} {ta tb tc te to ts : TE} {t u : TT} {x y z v : V} {r : R2} {a b s : Str} {c : Nat}
theorem rv_in {w : Str} : RV rInS (.str ⟨#[c]⟩) (.str w) H (.bl (decide (c ∈ tl w))) := fun H1 _ _ q => ⟨c, w, rfl, rfl, q H1 (Ex.refl H1)⟩
theorem rv_notin {w : Str} : RV rNotInS (.str ⟨#[c]⟩) (.str w) H (.bl (!decide (c ∈ tl w))) := fun H1 _ _ q => ⟨c, w, rfl, rfl, q H1 (Ex.refl H1)⟩
theorem rv_isN : RV rIsN x .non H (.bl (decide (x = .non))) := fun H1 _ _ q => ⟨rfl, q H1 (Ex.refl H1)⟩
theorem rv_notN : RV rNotN x .non H (.bl (!decide (x = .non))) := fun H1 _ _ q => ⟨rfl, q H1 (Ex.refl H1)⟩
theorem rv_addS (h : a.length + b.length ≤ 200000) : RV rAddS2 (.str a) (.str b) H (.str (a ++ b)) := fun H1 _ _ q => ⟨a, b, rfl, rfl, Nat.le_trans h (by decide), q H1 (Ex.refl H1)⟩
theorem decS {a b : Str} : decide (V.str a = V.str b) = decide (a = b) := by
  by_cases h : a = b
  · rw [decide_eq_true h, decide_eq_true (congrArg V.str h)]
  · rw [decide_eq_false h, decide_eq_false fun e => h (V.str.inj e)]
theorem decI {a b : Int} : decide (V.int a = V.int b) = decide (a = b) := by
  by_cases h : a = b
  · rw [decide_eq_true h, decide_eq_true (congrArg V.int h)]
  · rw [decide_eq_false h, decide_eq_false fun e => h (V.int.inj e)]
theorem rv_eqS : RV rEq (.str a) (.str b) H (.bl (decide (a = b))) := by
  rw [← decS]; exact rv_eq rfl
theorem rv_neS : RV rNe (.str a) (.str b) H (.bl (!decide (a = b))) := by
  rw [← decS]; exact rv_ne rfl
theorem rv_eqI {i j : Int} : RV rEq (.int i) (.int j) H (.bl (decide (i = j))) := by
  rw [← decI]; exact rv_eq rfl
theorem rv_neI {i j : Int} : RV rNe (.int i) (.int j) H (.bl (!decide (i = j))) := by
  rw [← decI]; exact rv_ne rfl
theorem ev_strip (h : Ev to σ H (.str a)) (hs : Ev ts σ H (.str s)) (hz : a.length ≤ 100000) : Ev (tBM K "str" rStrip to (tCons ts tNil)) σ H (.str (Txt.stripChars a s)) := fun H1 e Q q =>
  h H1 e _ fun H2 e2 => ⟨rfl, hs H2 (e.trans e2) _ fun H3 e3 => ⟨a, s, rfl, rfl, sz_of hz, q H3 (e2.trans e3)⟩⟩
theorem ev_isascii (h : Ev to σ H (.str a)) : Ev (tBM0 K "str" rIsascii to) σ H (.bl (Txt.isascii a)) := fun H1 e Q q => h H1 e _ fun H2 e2 => ⟨rfl, a, rfl, rfl, trivial, q H2 e2⟩
theorem ev_isprint (h : Ev to σ H (.str a)) : Ev (tBM0 K "str" rIsprint to) σ H (.bl (Txt.isprintable a)) := fun H1 e Q q => h H1 e _ fun H2 e2 => ⟨rfl, a, rfl, rfl, trivial, q H2 e2⟩
theorem ev_starts (h : Ev to σ H (.str a)) (hs : Ev ts σ H (.str s)) : Ev (tBM K "str" rStarts to (tCons ts tNil)) σ H (.bl (Txt.startswith a s)) := fun H1 e Q q =>
  h H1 e _ fun H2 e2 => ⟨rfl, hs H2 (e.trans e2) _ fun H3 e3 => ⟨a, s, rfl, rfl, q H3 (e2.trans e3)⟩⟩
/-- text.translate({37: None}) -/
theorem ev_trans (h : Ev to σ H (.str a)) (ha : ∀ c ∈ tl a, c < 128) (hz : a.length ≤ 100000) : Ev (tBM K "str" rTrans to (tCons (tDisp [(tC (.int 37), tC .non)]) tNil)) σ H (.str (no37 a)) := fun H1 e Q q =>
  h H1 e _ fun H2 e2 => ⟨rfl, fun p hp => ⟨upd_same, [(Sum.inl 37, .non)], rfl, (by decide), ⟨a, p, rfl, rfl, (by rw [upd_same]; rfl), ha, Nat.le_trans hz (by decide), q _ (e2.trans (fun b o hb => by
    rw [upd_ne (ne_of_none hb hp), upd_ne (ne_of_none hb hp)]
    exact hb))⟩⟩⟩
theorem ev_lenStr (h : Ev te σ H (.str a)) (hz : a.length ≤ 100000) : Ev (tCB rLenStr (tCons te tNil)) σ H (.int (a.length : Int)) := fun H1 e Q q => h H1 e _ fun H2 e2 => ⟨a, rfl, sz_of hz, q H2 e2⟩
theorem ev_intStr {n : Int} (h : Ev te σ H (.str a)) (hn : PySem.intText? a = some n) (hl : a.length ≤ 640) : Ev (tCB rIntStr (tCons te tNil)) σ H (.int n) := fun H1 e Q q => h H1 e _ fun H2 e2 => ⟨a, n, rfl, hn, hl, q H2 e2⟩
theorem ev_slS {tl' th : TO} {lo hi : Option Int} (h : Ev te σ H (.str a)) (h1 : EvO tl' σ H lo) (h2 : EvO th σ H hi) (hz : a.length ≤ 100000) : Ev (tSl rSlS te tl' th) σ H (.str (cutS a lo hi)) := fun H1 e Q q =>
  h H1 e _ fun H2 e2 => h1 H2 (e.trans e2) _ fun H3 e3 => h2 H3 ((e.trans e2).trans e3) _ fun H4 e4 => ⟨a, rfl, sz_of hz, q H4 ((e2.trans e3).trans e4)⟩
theorem ev_ixS {i : Int} (h : Ev te σ H (.str a)) (h1 : Ev tb σ H (.int i)) (hz : a.length ≤ 100000) (ha : atI (tl a) i = some c) : Ev (tOp rIxS te tb) σ H (.str ⟨#[c]⟩) := ev_op h h1 (rv_ixS hz ha)
/-- a <= b <= c -/
theorem ev_chain {i j k : Int} (ha : Ev ta σ H (.int i)) (hb : Ev tb σ H (.int j)) (hc : Ev tc σ H (.int k)) :
    Ev (tChain (rI0 fun i j => .bl (decide (i ≤ j))) (rI0 fun i j => .bl (decide (i ≤ j))) ta tb tc) σ H (.bl (decide (i ≤ j) && decide (j ≤ k))) := fun H1 e Q q =>
  ha H1 e _ fun H2 e2 => hb H2 (e.trans e2) _ fun H3 e3 => ⟨i, j, rfl, rfl, _, rfl, by
    cases h : decide (i ≤ j) with
    | true =>
      refine iteT ?_
      refine hc H3 ((e.trans e2).trans e3) _ fun H4 e4 => ⟨j, k, rfl, rfl, ?_⟩
      have g := q H4 ((e2.trans e3).trans e4)
      rw [h] at g
      exact g
    | false =>
      refine iteF ?_
      have g := q H3 (e2.trans e3)
      rw [h] at g
      exact g⟩
/-- the same, where the last part is asked only if the first holds -/
theorem ev_callN {sp : Sp} {vs : List V} {n : Nat} {E : XK} {tk : TA} (h : EvA tk σ H vs) (hl : vs.length = n) (hs : SpV sp vs H z) : Ev (tCallN 0 n sp (fun _ zs => zs) E tNil tk) σ H z := fun H1 e Q q =>
  h H1 e _ fun H2 e2 => ⟨rfl, hl, hs H2 (e.trans e2) Q (fun H3 e3 => q H3 (e2.trans e3)) E⟩
theorem el_callN {sp : Sp} {vs xs : List V} {n : Nat} {E : XK} {tk : TA} (h : EvA tk σ H vs) (hl : vs.length = n) (hs : SpL sp vs H xs) : EvL (tCallN 0 n sp (fun _ zs => zs) E tNil tk) σ H xs := fun H1 e Q q =>
  h H1 e _ fun H2 e2 => ⟨rfl, hl, hs H2 (e.trans e2) Q (fun p H3 hp e3 h3 => q p H3 (fresh_back e2 hp) (e2.trans e3) h3) E⟩
end
/-! ### promises of plain functions of texts -/
def sp1 (f : Str → V) : Sp := fun vs H Q _ => ∃ z : Str, vs = [.str z] ∧ z.length ≤ 100000 ∧ RetV (f z) H Q
def sp2 (f : Str → Str → V) : Sp := fun vs H Q _ => ∃ z s : Str, vs = [.str z, .str s] ∧ z.length ≤ 100000 ∧ RetV (f z s) H Q
def sp0 (v : V) : Sp := fun vs H Q _ => vs = [] ∧ RetV v H Q
def sp1L (f : Str → List V) : Sp := fun vs H Q _ => ∃ z : Str, vs = [.str z] ∧ z.length ≤ 10000 ∧ RetL (f z) H Q
theorem sv1 {f : Str → V} {z : Str} {H : Hp} (h : z.length ≤ 100000) : SpV (sp1 f) [.str z] H (f z) := fun H1 e Q q E => ⟨z, rfl, h, q⟩
theorem sv2 {f : Str → Str → V} {z s : Str} {H : Hp} (h : z.length ≤ 100000) : SpV (sp2 f) [.str z, .str s] H (f z s) := fun H1 e Q q E => ⟨z, s, rfl, h, q⟩
theorem sv0 {v : V} {H : Hp} : SpV (sp0 v) [] H v := fun H1 e Q q E => ⟨rfl, q⟩
theorem sl1 {f : Str → List V} {z : Str} {H : Hp} (h : z.length ≤ 10000) : SpL (sp1L f) [.str z] H (f z) := fun H1 e Q q E => ⟨z, rfl, h, q⟩
end Z
set_option maxHeartbeats 2000000
namespace Z
open PySem PySem.Spec PyProof.Rows L2 TL Evl
/-! ### cut at commas -/
def splC : List Nat → List Nat → List (List Nat)
  | acc, [] => [acc]
  | acc, c :: r => if c = 44 then acc :: splC [] r else splC (acc ++ [c]) r
theorem spl_splC : ∀ (l acc : List Nat), spl [44] 0 acc l = splC acc l
  | [], acc => spl_nil _ _ _
  | c :: r, acc => by
    have hp : pre [44] (c :: r) = decide (c = 44) := by
      show ([c] == [44]) = decide (c = 44)
      by_cases h : c = 44
      · rw [h]; rfl
      · rw [decide_eq_false h]
        exact beq_eq_false_iff_ne.mpr fun e => h (by cases e; rfl)
    show spl [44] 0 acc (c :: r) = if c = 44 then acc :: splC [] r else splC (acc ++ [c]) r
    by_cases h : c = 44
    · rw [spl_hit (by rw [hp, decide_eq_true h]), if_pos h]
      show acc :: spl [44] 0 [] r = _
      rw [spl_splC r []]
    · rw [spl_miss (by rw [hp, decide_eq_false h]), if_neg h]
      exact spl_splC r (acc ++ [c])
theorem splC_len : ∀ (l acc : List Nat), (splC acc l).length ≤ l.length + 1
  | [], acc => Nat.le_refl _
  | c :: r, acc => by
    show (if c = 44 then acc :: splC [] r else splC (acc ++ [c]) r).length ≤ r.length + 1 + 1
    by_cases h : c = 44
    · rw [if_pos h, List.length_cons]; have := splC_len r []; omega
    · rw [if_neg h]; have := splC_len r (acc ++ [c]); omega
theorem splC_each : ∀ (l acc p : List Nat), p ∈ splC acc l → p.length ≤ acc.length + l.length
  | [], acc, p, h => by
    rw [List.mem_singleton.mp h]
    exact Nat.le_add_right _ _
  | c :: r, acc, p, h => by
    have h : p ∈ (if c = 44 then acc :: splC [] r else splC (acc ++ [c]) r) := h
    rw [List.length_cons]
    by_cases hc : c = 44
    · rw [if_pos hc] at h
      rcases List.mem_cons.mp h with e | h
      · rw [e]; omega
      · have := splC_each r [] p h
        rw [List.length_nil] at this
        omega
    · rw [if_neg hc] at h
      have := splC_each r (acc ++ [c]) p h
      rw [List.length_append, List.length_singleton] at this
      omega
theorem comma : tl ("," : Str) = [44] := by decide +kernel
theorem comma_kind {x : Str} : ¬ Builtin.Str.strKind x < Builtin.Str.strKind ("," : Str) := kind_ok (by decide +kernel)
theorem split_tl (z : Str) : (Txt.split z ",").map tl = splC [] (tl z) := by
  rw [split_spl z "," (by rw [comma]; simp) comma_kind, comma]
  exact spl_splC _ _
def S' (l : List Nat) : Str := ⟨l.toArray⟩
theorem S'_tl (x : Str) : S' (tl x) = x := mk_tl x
theorem tl_S' (l : List Nat) : tl (S' l) = l := rfl
theorem split_eq (z : Str) : Txt.split z "," = (splC [] (tl z)).map S' := by
  rw [← split_tl, List.map_map]
  have : (S' ∘ tl) = id := funext S'_tl
  rw [this, List.map_id]
theorem split_len (z : Str) : (Txt.split z ",").length ≤ z.length + 1 := by
  rw [split_eq, List.length_map, len_tl]
  exact splC_len _ _
theorem split_each {z p : Str} (h : p ∈ Txt.split z ",") : p.length ≤ z.length := by
  rw [split_eq] at h
  obtain ⟨l, hl, rfl⟩ := List.mem_map.mp h
  have := splC_each _ _ _ hl
  rw [List.length_nil, Nat.zero_add] at this
  rw [len_tl, len_tl]
  exact this
/-- the elements of a list in a field -/
def stripped (z : Str) : List Str := (Txt.split z ",").map fun p => Txt.stripChars p " "
def elems (z : Str) : List Str := (stripped z).filter fun p => !decide (p = ("" : Str))
/-! ### the same, sign by sign -/
def wstep (st : List Str × Str) (c : Nat) : List Str × Str :=
  if c = 44 then (if Txt.stripChars st.2 " " = ("" : Str) then st.1 else st.1 ++ [Txt.stripChars st.2 " "], "") else (st.1, st.2 ++ ⟨#[c]⟩)
def keepW (p : Str) : List Str := if Txt.stripChars p " " = ("" : Str) then [] else [Txt.stripChars p " "]
theorem keepW_eq (l : List Str) : (l.map fun p => Txt.stripChars p " ").filter (fun p => !decide (p = ("" : Str))) = l.flatMap keepW := by
  induction l with
  | nil => rfl
  | cons p r ih =>
    rw [List.map_cons, List.filter_cons, List.flatMap_cons, ih]
    unfold keepW
    by_cases h : Txt.stripChars p " " = ("" : Str)
    · rw [decide_eq_true h, if_pos h]; rfl
    · rw [decide_eq_false h, if_neg h]; rfl
theorem snoc_S' (l : List Nat) (c : Nat) : S' l ++ (⟨#[c]⟩ : Str) = S' (l ++ [c]) := ext_tl (by rw [tl_append]; rfl)
theorem wfold : ∀ (l : List Nat) (fs : List Str) (w : List Nat), (l ++ [44]).foldl wstep (fs, S' w) = (fs ++ ((splC w l).map S').flatMap keepW, ("" : Str))
  | [], fs, w => by
    show wstep (fs, S' w) 44 = _
    unfold wstep
    rw [if_pos rfl]
    show (if Txt.stripChars (S' w) " " = ("" : Str) then fs else fs ++ [Txt.stripChars (S' w) " "], ("" : Str)) = (fs ++ ([w].map S').flatMap keepW, ("" : Str))
    have : ([w].map S').flatMap keepW = keepW (S' w) := by simp
    rw [this]
    unfold keepW
    by_cases h : Txt.stripChars (S' w) " " = ("" : Str)
    · rw [if_pos h, if_pos h, List.append_nil]
    · rw [if_neg h, if_neg h]
  | c :: r, fs, w => by
    rw [List.cons_append, List.foldl_cons]
    show List.foldl wstep (wstep (fs, S' w) c) (r ++ [44]) = (fs ++ ((if c = 44 then w :: splC [] r else splC (w ++ [c]) r).map S').flatMap keepW, ("" : Str))
    unfold wstep
    by_cases h : c = 44
    · rw [if_pos h, if_pos h]
      have e : ("" : Str) = S' [] := eq_comm.mp (eq_empty.mpr rfl)
      show List.foldl wstep (if Txt.stripChars (S' w) " " = ("" : Str) then fs else fs ++ [Txt.stripChars (S' w) " "], ("" : Str)) (r ++ [44]) = _
      rw [e, wfold r _ [], List.map_cons, List.flatMap_cons, ← e]
      unfold keepW
      by_cases h2 : Txt.stripChars (S' w) " " = ("" : Str)
      · rw [if_pos h2, if_pos h2, List.nil_append]
      · rw [if_neg h2, if_neg h2, List.append_assoc]
    · rw [if_neg h, if_neg h]
      show List.foldl wstep (fs, S' w ++ ⟨#[c]⟩) (r ++ [44]) = _
      rw [snoc_S', wfold r fs (w ++ [c])]
theorem words_elems (z : Str) : ((tl z ++ [44]).foldl wstep ([], ("" : Str))).1 = elems z := by
  have e : ("" : Str) = S' [] := eq_comm.mp (eq_empty.mpr rfl)
  have h := wfold (tl z) [] []
  rw [← e] at h
  rw [h]
  show [] ++ ((splC [] (tl z)).map S').flatMap keepW = elems z
  rw [List.nil_append, ← split_eq]
  unfold elems stripped
  rw [keepW_eq]
/-! ### what a comprehension gives -/
theorem given_take {α : Type} (xs : List α) (d : α) (p : α → Bool) (g : α → V) : ∀ n, n ≤ xs.length → given n (fun i => p (xs.getD i d)) (fun i => g (xs.getD i d)) = ((xs.take n).filter p).map g
  | 0, _ => rfl
  | n + 1, h => by
    have hn : n < xs.length := h
    have e : xs.getD n d = xs[n] := by rw [List.getD_eq_getElem?_getD, List.getElem?_eq_getElem hn]; rfl
    have et : xs.take (n + 1) = xs.take n ++ [xs[n]] := by rw [List.take_add_one, List.getElem?_eq_getElem hn]; rfl
    rw [et, List.filter_append, List.map_append, ← given_take xs d p g n (by omega)]
    by_cases hp : p (xs.getD n d) = true
    · rw [given_yes (f := fun i => p (xs.getD i d)) hp]
      rw [e] at hp ⊢
      rw [List.filter_cons, if_pos hp]
      rfl
    · have hp' : p (xs.getD n d) = false := by
        cases h : p (xs.getD n d) with
        | true => exact absurd h hp
        | false => rfl
      rw [given_no (f := fun i => p (xs.getD i d)) hp']
      rw [e] at hp
      rw [List.filter_cons, if_neg hp]
      show _ = _ ++ []
      rw [List.append_nil]
theorem given_all {α : Type} (xs : List α) (d : α) (p : α → Bool) (g : α → V) : given xs.length (fun i => p (xs.getD i d)) (fun i => g (xs.getD i d)) = (xs.filter p).map g := by
  rw [given_take xs d p g xs.length (Nat.le_refl _), List.take_length]
theorem at_str {xs : List Str} {i : Nat} {x : V} (h : (xs.map V.str)[i]? = some x) (d : Str) : i < xs.length ∧ x = .str (xs.getD i d) ∧ xs.getD i d ∈ xs := by
  rw [List.getElem?_map] at h
  cases e : xs[i]? with
  | none => rw [e] at h; cases h
  | some a =>
    rw [e] at h
    cases h
    have : xs.getD i d = a := by rw [List.getD_eq_getElem?_getD, e]; rfl
    exact ⟨(List.getElem?_eq_some_iff.mp e).1, by rw [this], by rw [this]; exact List.mem_of_getElem? e⟩
/-! ### loops over a text; a text split -/
def rSplit : V → List V → Hp → VK → Prop := fun x xs H Q => ∃ a b, x = .str a ∧ xs = [.str b] ∧ (b.length == 0) = false ∧ a.length + 2 ≤ sizeLine ∧ rNewStrs (Txt.split a b) H Q
theorem mz_split {X : Cx} : MtR X "str.split" rSplit := mt_split
section
variable {K : PySem.W.Frag} {σ : L2.St} {H H' : Hp} {ta tb tc te to ts : TE} {t u : TT} {x y z v : V} {r : R2} {a b s : Str} {c : Nat} {D : Ends} {tu tz : TS}
theorem el_split (h : Ev to σ H (.str a)) (hs : Ev ts σ H (.str s)) (h0 : (s.length == 0) = false) (hz : a.length ≤ 100000) : EvL (tBM K "str" rSplit to (tCons ts tNil)) σ H ((Txt.split a s).map V.str) := fun H1 e Q q =>
  h H1 e _ fun H2 e2 => ⟨rfl, hs H2 (e.trans e2) _ fun H3 e3 => ⟨a, s, rfl, rfl, h0, Nat.le_trans (Nat.add_le_add_right hz 2) (by decide), fun p hp => q p _ (fresh_back (e2.trans e3) hp) ((e2.trans e3).trans (Ex.new hp)) upd_same⟩⟩
theorem s_forS {w : Str} {j : Nat} (h : Ev te σ H (.str w)) (Pv : Nat → L2.St → Hp → Prop) (h0 : ∀ H1, Ex H H1 → Pv 0 σ H1)
    (hs : ∀ i c σ' H', (tl w)[i]? = some c → Pv i σ' H' → tu { D with nx := Pv (i + 1), ct := Pv (i + 1), bk := D.nx } (σ'.set j (some (.str ⟨#[c]⟩))) H') (hd : ∀ σ' H', Pv (tl w).length σ' H' → D.nx σ' H') : tFor (iStr te) (gName j) tu D σ H :=
  h H (Ex.refl H) _ fun H1 e => ⟨w, rfl, for_it (walk_str (z := w)) Pv (h0 H1 e) (fun _ _ _ _ _ => trivial) (fun i x σ' H' H'' hi p y => by
    obtain ⟨rfl, c, hc, rfl⟩ := y
    exact hs i c σ' H'' (by show w.cps.toList[i]? = some c; simpa using hc) p) (fun σ' H' p => hd σ' H' (by
      have : (tl w).length = w.cps.size := by rw [len_tl']; rfl
      rw [this]; exact p))⟩
theorem q_forS {w : Str} {j : Nat} (h : Ev te σ H (.str w)) (Pv : Nat → L2.St → Hp → Prop) (h0 : ∀ H1, Ex H H1 → Pv 0 σ H1)
    (hs : ∀ i c σ' H', (tl w)[i]? = some c → Pv i σ' H' → tu { D with nx := Pv (i + 1), ct := Pv (i + 1), bk := tz D } (σ'.set j (some (.str ⟨#[c]⟩))) H') (hd : ∀ σ' H', Pv (tl w).length σ' H' → tz D σ' H') : tSeq (tFor (iStr te) (gName j) tu) tz D σ H :=
  s_forS (D := { D with nx := tz D }) h Pv h0 hs hd
end
/-! ### numbers -/
open NumText in
theorem digits_all {z : Str} (h : allIn z "0123456789" = true) : AllDigits (tl z) := fun c hc => by
  have h1 := of_decide_eq_true (List.all_eq_true.mp h c hc)
  have e : tl ("0123456789" : Str) = [48, 49, 50, 51, 52, 53, 54, 55, 56, 57] := by decide +kernel
  rw [e] at h1
  simp only [List.mem_cons, List.not_mem_nil, or_false] at h1
  omega
theorem int_digits {z : Str} (h : allIn z "0123456789" = true) (h1 : 1 ≤ z.length) (h2 : z.length ≤ 640) : PySem.intText? z = some ((NumText.digitsVal (tl z) : Nat) : Int) :=
  intText_digits (digits_all h) (fun e => by
    rw [len_tl] at h1
    have : tl z = [] := e
    rw [this] at h1
    exact absurd h1 (by decide)) (by omega)
end Z
set_option maxHeartbeats 4000000
namespace Z
open PySem PySem.Spec PyProof.Rows L2 TL Evl
/-! ### what the functions give -/
def pathB (z : Str) : Bool := (decide ((1 : Int) ≤ z.length) && decide ((z.length : Int) ≤ 60)) && (decide (hd z = some 47) && allIn z "abcdefghijklmnopqrstuvwxyz0123456789/-.")
def hdIn (z s : Str) : Bool := match hd z with | some c => decide (c ∈ tl s) | none => false
def wordB (z : Str) (m : Int) : Bool := (decide ((1 : Int) ≤ z.length) && decide ((z.length : Int) ≤ m)) && (hdIn z "abcdefghijklmnopqrstuvwxyz" && allIn z "abcdefghijklmnopqrstuvwxyz0123456789-")
def nameB (z : Str) : Bool := wordB z 30 && !decide (z = ("length" : Str))
def valueB (z : Str) : Bool := decide ((z.length : Int) ≤ 200) && (allIn z signs && decide (Txt.stripChars z " " = z))
def digB (z : Str) : Bool := (decide ((1 : Int) ≤ z.length) && decide ((z.length : Int) ≤ 6)) && (allIn z "0123456789" && (decide ((z.length : Int) = 1) || !decide (hd z = some 48)))
def numV (z : Str) : V := if digB z = true then .int (((NumText.digitsVal (tl z) : Nat)) : Int) else .non
theorem item0 {z : Str} (h : 1 ≤ z.length) : ∃ c, hd z = some c ∧ atI (tl z) 0 = some c := by
  obtain ⟨c, h1, h2⟩ := hd_some h
  refine ⟨c, h1, ?_⟩
  have : (tl z)[0]? = some c := by
    show z.cps.toList[0]? = some c
    simpa using h2
  exact atI_nat (j := 0) this
theorem pl {a b c : Int} (h : (decide (a ≤ b) && decide (b ≤ c)) = true) : a ≤ b ∧ b ≤ c := by
  rw [Bool.and_eq_true, decide_eq_true_eq, decide_eq_true_eq] at h
  exact h
section
variable {P : Program} {w : World} {K : PySem.W.Frag} {mg : Str → Option Value} {base : Heap} {f : Addr} {fd : FuncData} {k : Nat}
end
end Z

namespace Z
open PySem PySem.Spec PyProof.Rows L2 TL Evl
theorem et_yes {σ : L2.St} {H : Hp} : EvT tYes σ H true := fun H1 e Q q => q H1 (Ex.refl H1)
theorem cut1_eq (z : Str) (c : Nat) : decide (cutS z none (some 1) = (⟨#[c]⟩ : Str)) = decide (hd z = some c) := by
  cases e : hd z with
  | none =>
    rw [cut1_nil e, decide_eq_false (show ¬ (none : Option Nat) = some c from fun h => nomatch h)]
    refine decide_eq_false fun h => ?_
    have := congrArg tl h
    rw [tl_empty] at this
    exact absurd this.symm (by show ¬ [c] = []; simp)
  | some d =>
    rw [cut1_one e]
    by_cases h : d = c
    · rw [h, decide_eq_true rfl, decide_eq_true rfl]
    · rw [decide_eq_false fun x => h ((one_eq _ _).mp x), decide_eq_false fun x => h (Option.some.inj x)]
theorem cut_len (z : Str) (a b : Option Int) : (cutS z a b).length ≤ z.length := cutS_length z a b
def rest (z : Str) : Str := cutS z (some 1) none
def readV (z : Str) : V := if hd z = some 45 then (if digB (rest z) = true ∧ rest z ≠ ("0" : Str) then .int (-((NumText.digitsVal (tl (rest z)) : Nat) : Int)) else .non) else numV z
theorem starts_minus (z : Str) : Txt.startswith z "-" = decide (hd z = some 45) := by
  have e45 : ("-" : Str) = ⟨#[45]⟩ := by decide +kernel
  unfold Txt.startswith Builtin.Str.subAt
  rw [e45]
  show (decide (0 + 1 ≤ z.length) && (z.cps.extract 0 (0 + 1) == #[45])) = _
  have hx : (z.cps.extract 0 (0 + 1) == #[45]) = decide ((tl z).take 1 = [45]) := by
    have : (z.cps.extract 0 (0 + 1)).toList = (tl z).take 1 := by simp [tl]
    by_cases h : (tl z).take 1 = [45]
    · rw [decide_eq_true h]
      refine beq_iff_eq.mpr (Array.toList_inj.mp ?_)
      rw [this, h]
    · rw [decide_eq_false h]
      refine beq_eq_false_iff_ne.mpr fun e => h ?_
      rw [← this, e]
  rw [hx, len_tl]
  unfold hd
  cases e : tl z with
  | nil => rfl
  | cons a r =>
    have h1 : 0 + 1 ≤ (a :: r).length := by rw [List.length_cons]; omega
    rw [decide_eq_true h1, Bool.true_and]
    show decide ([a] = [45]) = decide (some a = some 45)
    by_cases h : a = 45
    · rw [h]; rfl
    · rw [decide_eq_false fun e => h (by cases e; rfl), decide_eq_false fun e => h (Option.some.inj e)]
theorem zero_text {z : Str} (h : z.length = 1) (h48 : hd z = some 48) : z = ("0" : Str) := by
  refine ext_tl ?_
  have e : tl ("0" : Str) = [48] := by decide +kernel
  rw [e]
  unfold hd at h48
  rw [len_tl] at h
  cases q : tl z with
  | nil => rw [q] at h48; cases h48
  | cons a r =>
    rw [q] at h48 h
    cases h48
    cases r with
    | nil => rfl
    | cons b t => rw [List.length_cons, List.length_cons] at h; omega
theorem zero_len {z : Str} (h : z = ("0" : Str)) : z.length = 1 := by rw [h]; decide +kernel
section
variable {P : Program} {w : World} {K : PySem.W.Frag} {mg : Str → Option Value} {base : Heap} {f : Addr} {fd : FuncData} {k : Nat}
abbrev cons_ (P : Program) (w : World) (K : PySem.W.Frag) (mg : Str → Option Value) (base : Heap) : Prop := Call P w K mg base 1 "consists_of" ["text", "signs"] (sp2 fun z s => .bl (allIn z s))
end
end Z

namespace Z
open PySem PySem.Spec PyProof.Rows L2 TL Evl
open NumText in
theorem fold_mono : ∀ (l : List Nat) (a : Nat), 1 ≤ a → 1 ≤ l.foldl (fun acc c => acc * 10 + (c - 48)) a
  | [], a, h => h
  | c :: r, a, h => fold_mono r (a * 10 + (c - 48)) (by omega)
open NumText in
theorem val_pos {z : Str} (hb : digB z = true) (h0 : z ≠ ("0" : Str)) : 1 ≤ digitsVal (tl z) := by
  unfold digB at hb
  obtain ⟨h1, h2⟩ := Bool.and_eq_true_iff.mp hb
  obtain ⟨h3, h4⟩ := Bool.and_eq_true_iff.mp h2
  have hl := pl h1
  have hall := digits_all h3
  have hne : hd z ≠ some 48 := by
    intro h48
    rw [Bool.or_eq_true, decide_eq_true_eq, Bool.not_eq_true', decide_eq_false_iff_not] at h4
    rcases h4 with h | h
    · exact h0 (zero_text (by omega) h48)
    · exact h h48
  unfold hd at hne
  cases q : tl z with
  | nil =>
    have := len_tl z
    rw [q] at this
    have e : ([] : List Nat).length = 0 := rfl
    omega
  | cons c r =>
    rw [q] at hne hall
    have hc := hall c List.mem_cons_self
    have : c ≠ 48 := fun e => hne (by rw [e]; rfl)
    show 1 ≤ (c :: r).foldl (fun acc c => acc * 10 + (c - 48)) 0
    rw [List.foldl_cons]
    exact fold_mono r _ (by omega)
theorem val_zero : NumText.digitsVal (tl ("0" : Str)) = 0 := by decide +kernel
theorem rest_len (z : Str) : (rest z).length ≤ z.length := cut_len z _ _
theorem minus_nodig {z : Str} (h : hd z = some 45) : digB z = false := by
  cases e : digB z with
  | false => rfl
  | true =>
    exfalso
    unfold digB at e
    obtain ⟨h1, h2⟩ := Bool.and_eq_true_iff.mp e
    obtain ⟨h3, h4⟩ := Bool.and_eq_true_iff.mp h2
    have hall := digits_all h3
    unfold hd at h
    cases q : tl z with
    | nil => rw [q] at h; cases h
    | cons c r =>
      rw [q] at h hall
      cases h
      have := hall 45 List.mem_cons_self
      omega
theorem minus_zero {z : Str} (h : hd z = some 45) : decide (z = ("-0" : Str)) = decide (rest z = ("0" : Str)) := by
  have e0 : tl ("-0" : Str) = [45, 48] := by decide +kernel
  have e1 : tl ("0" : Str) = [48] := by decide +kernel
  have er : tl (rest z) = (tl z).drop 1 := cutFrom1_tl z
  unfold hd at h
  by_cases hz : z = ("-0" : Str)
  · rw [decide_eq_true hz]
    symm
    refine decide_eq_true (ext_tl ?_)
    rw [er, e1, hz, e0]
    rfl
  · rw [decide_eq_false hz]
    symm
    refine decide_eq_false fun hr => hz (ext_tl ?_)
    rw [hr, e1] at er
    cases q : tl z with
    | nil => rw [q] at h; cases h
    | cons c r =>
      rw [q] at h er
      cases h
      have er : [48] = r := er
      rw [← er, e0]
theorem numV_form (z : Str) : (digB z = true ∧ numV z = .int ((NumText.digitsVal (tl z) : Nat) : Int)) ∨ (digB z = false ∧ numV z = .non) := by
  unfold numV
  cases h : digB z with
  | true => exact .inl ⟨rfl, if_pos rfl⟩
  | false => exact .inr ⟨rfl, if_neg (by decide)⟩
section
variable {P : Program} {w : World} {K : PySem.W.Frag} {mg : Str → Option Value} {base : Heap} {f : Addr} {fd : FuncData} {k : Nat}
abbrev C1 (P : Program) (w : World) (K : PySem.W.Frag) (mg : Str → Option Value) (base : Heap) (k : Nat) (x : Str) (f : Str → V) : Prop := Call P w K mg base k x ["text"] (sp1 f)
/-! ### the law's own reading -/
def letters : Str := "abcdefghijklmnopqrstuvwxyz"
end
end Z

namespace Z
open PySem PySem.Spec PyProof.Rows L2 TL Evl
/-! ### texts in lists, compared -/
theorem lay_strs : ∀ xs : List Str, (∀ x ∈ xs, PyData.strOk x = true) → PyData.canLayAll0 (xs.map PyData.str) = true
  | [], _ => by simp [PyData.canLayAll0]
  | x :: r, h => by
    have h1 := h x List.mem_cons_self
    have h2 := lay_strs r fun y hy => h y (List.mem_cons_of_mem _ hy)
    simp [PyData.canLayAll0, PyData.canLay0, h1, h2]
theorem depth_strs : ∀ xs : List Str, PyData.depthAll (xs.map PyData.str) ≤ 1
  | [] => by simp [PyData.depthAll]
  | x :: r => by
    have := depth_strs r
    simp only [List.map_cons, PyData.depthAll, PyData.depth]
    omega
theorem shaped_strs (xs : List Str) (h : ∀ x ∈ xs, PyData.strOk x = true) : SeqAt.shaped (.list (xs.map PyData.str)) = true := by
  have h1 := depth_strs xs
  have h2 : PyData.depth (.list (xs.map PyData.str)) ≤ 64 := by simp only [PyData.depth]; omega
  show (PyData.canLay0 (.list (xs.map PyData.str)) && decide (PyData.depth (.list (xs.map PyData.str)) ≤ 64)) = true
  rw [Bool.and_eq_true]
  exact ⟨by simp only [PyData.canLay0]; exact lay_strs xs h, decide_eq_true h2⟩
theorem ok_text {x : Str} (h : ∀ c ∈ tl x, c < 128) : PyData.strOk x = true := by
  unfold PyData.strOk
  rw [← Array.all_toList]
  exact List.all_eq_true.mpr fun c hc => decide_eq_true (Nat.lt_trans (h c hc) (by decide))
theorem splC_mem : ∀ (l acc p : List Nat), p ∈ splC acc l → ∀ c ∈ p, c ∈ acc ∨ c ∈ l
  | [], acc, p, h, c, hc => by
    rw [List.mem_singleton.mp h] at hc
    exact .inl hc
  | a :: r, acc, p, h, c, hc => by
    have h : p ∈ (if a = 44 then acc :: splC [] r else splC (acc ++ [a]) r) := h
    by_cases ha : a = 44
    · rw [if_pos ha] at h
      rcases List.mem_cons.mp h with e | h
      · rw [e] at hc; exact .inl hc
      · rcases splC_mem r [] p h c hc with g | g
        · cases g
        · exact .inr (List.mem_cons_of_mem _ g)
    · rw [if_neg ha] at h
      rcases splC_mem r (acc ++ [a]) p h c hc with g | g
      · rcases List.mem_append.mp g with g | g
        · exact .inl g
        · rw [List.mem_singleton.mp g]; exact .inr List.mem_cons_self
      · exact .inr (List.mem_cons_of_mem _ g)
theorem strip_mem {p s : Str} {c : Nat} (h : c ∈ tl (Txt.stripChars p s)) : c ∈ tl p := by
  have e0 : Txt.stripChars p s = Builtin.Str.strSub p (stripLo s.cps.contains true p) (stripHi s.cps.contains true p (stripLo s.cps.contains true p)) := stripBy_eq _ _ _ _
  rw [e0, tl_strSub] at h
  exact List.mem_of_mem_drop (List.mem_of_mem_take h)
theorem elems_mem {z p : Str} (h : p ∈ elems z) {c : Nat} (hc : c ∈ tl p) : c ∈ tl z := by
  unfold elems stripped at h
  obtain ⟨h1, _⟩ := List.mem_filter.mp h
  obtain ⟨p0, h2, rfl⟩ := List.mem_map.mp h1
  have h3 := strip_mem hc
  rw [split_eq] at h2
  obtain ⟨l, hl, rfl⟩ := List.mem_map.mp h2
  rcases splC_mem _ _ _ hl c h3 with g | g
  · cases g
  · exact g
theorem elems_ok {z : Str} (h : allIn z signs = true) : ∀ p ∈ elems z, PyData.strOk p = true := fun p hp => ok_text fun c hc => signs_lt c (of_decide_eq_true (List.all_eq_true.mp h c (elems_mem hp hc)))
theorem dp_strs {K : PySem.W.Frag} {H : Hp} : ∀ xs : List Str, DpAll K H (xs.map V.str) (xs.map PyData.str)
  | [] => .nil
  | x :: r => .cons (.str x) (dp_strs r)
theorem rv_eqL {K : PySem.W.Frag} {H : Hp} {p p2 : Addr} {xs : List Str} (h1 : SqL K H p (xs.map V.str)) (h2 : SqL K H p2 (xs.map V.str)) (hx : ∀ x ∈ xs, PyData.strOk x = true) : RV (rEqD K) (.ref p) (.ref p2) H (.bl true) := fun H1 e Q q => by
  refine ⟨.list (xs.map .str), .list (xs.map .str), .lst (ex_l e h1) (dp_strs xs), .lst (ex_l e h2) (dp_strs xs), shaped_strs xs hx, shaped_strs xs hx, ?_⟩
  rw [SeqAt.eqv_refl _ (SeqAt.canLay_of_shaped (shaped_strs xs hx))]
  exact q H1 (Ex.refl H1)
section
variable {K : PySem.W.Frag} {σ : L2.St} {H H' : Hp} {ta tb te : TE} {x : V}
theorem ev_isi {n : String} {t : Value} {b : Bool} (h : Ev ta σ H x) (ht : ∀ H1, Ex H H1 → TyX K H1 x t) (hk : PySem.W.kitOne K t (.type n) = some b) : Ev (tCB (rIsi K) (tCons ta (tCons (tC (.ty n)) tNil))) σ H (.bl b) := fun H1 e Q q =>
  h H1 e _ fun H2 e2 => ⟨x, .ty n, t, .type n, b, rfl, .ty n, ht H2 (e.trans e2), hk, q H2 e2⟩
theorem et_truB {b : Bool} (h : Ev te σ H (.bl b)) : EvT (fun σ H Q => te σ H fun x H' => ∃ k, TruV K x H' k ∧ Q k H') σ H b := fun H1 e Q q => h H1 e _ fun H2 e2 => ⟨b, rfl, q H2 e2⟩
theorem rv_eqB {a b : Bool} : RV rEq (.bl a) (.bl b) H (.bl (decide (a = b))) := by
  have : decide (V.bl a = V.bl b) = decide (a = b) := by
    by_cases h : a = b
    · rw [decide_eq_true h, decide_eq_true (congrArg V.bl h)]
    · rw [decide_eq_false h, decide_eq_false fun e => h (V.bl.inj e)]
  rw [← this]
  exact rv_eq rfl
end
section
variable {P : Program} {w : World} {K : PySem.W.Frag} {mg : Str → Option Value} {base : Heap} {f : Addr} {fd : FuncData} {k : Nat}
theorem wd_len (l : List Nat) (fs : List Str) (wd : Str) : (l.foldl wstep (fs, wd)).2.length ≤ wd.length + l.length ∧ (l.foldl wstep (fs, wd)).1.length ≤ fs.length + l.length := by
  induction l generalizing fs wd with
  | nil => exact ⟨Nat.le_refl _, Nat.le_refl _⟩
  | cons c r ih =>
    rw [List.foldl_cons, List.length_cons]
    have e : wstep (fs, wd) c = ((wstep (fs, wd) c).1, (wstep (fs, wd) c).2) := rfl
    rw [e]
    obtain ⟨h1, h2⟩ := ih (wstep (fs, wd) c).1 (wstep (fs, wd) c).2
    have g : (wstep (fs, wd) c).2.length ≤ wd.length + 1 ∧ (wstep (fs, wd) c).1.length ≤ fs.length + 1 := by
      unfold wstep
      by_cases hc : c = 44
      · rw [if_pos hc]
        refine ⟨by show (("" : Str)).length ≤ _; rw [show (("" : Str)).length = 0 by decide +kernel]; omega, ?_⟩
        show (if Txt.stripChars wd " " = ("" : Str) then fs else fs ++ [Txt.stripChars wd " "]).length ≤ _
        by_cases h : Txt.stripChars wd " " = ("" : Str)
        · rw [if_pos h]; omega
        · rw [if_neg h, List.length_append]; exact Nat.le_refl _
      · rw [if_neg hc]
        refine ⟨?_, by show fs.length ≤ _; omega⟩
        show (wd ++ (⟨#[c]⟩ : Str)).length ≤ _
        rw [Str.length_append]
        exact Nat.le_refl _
    omega
theorem take_step {l : List Nat} {i c : Nat} (h : l[i]? = some c) (st : List Str × Str) : (l.take (i + 1)).foldl wstep st = wstep ((l.take i).foldl wstep st) c := by
  rw [List.take_add_one, h, List.foldl_append]
  rfl
def spTruth : Sp := fun vs H Q _ => ∃ a b : Bool, vs = [.bl a, .bl b] ∧ RetV (.bl (decide (a = b))) H Q
theorem svT {a b : Bool} {H : Hp} : SpV spTruth [.bl a, .bl b] H (.bl (decide (a = b))) := fun H1 e Q q E => ⟨a, b, rfl, q⟩
def spInt : Sp := fun vs H Q _ => ∃ z : V, vs = [z, z] ∧ (z = .non ∨ ∃ i, z = .int i) ∧ RetV (.bl true) H Q
theorem numV_kind (z : Str) : numV z = .non ∨ ∃ i, numV z = .int i := by
  rcases numV_form z with ⟨_, h⟩ | ⟨_, h⟩
  · exact .inr ⟨_, h⟩
  · exact .inl h
theorem readV_kind (z : Str) : readV z = .non ∨ ∃ i, readV z = .int i := by
  unfold readV
  by_cases h : hd z = some 45
  · rw [if_pos h]
    by_cases h2 : digB (rest z) = true ∧ rest z ≠ ("0" : Str)
    · rw [if_pos h2]; exact .inr ⟨_, rfl⟩
    · rw [if_neg h2]; exact .inl rfl
  · rw [if_neg h]; exact numV_kind z
theorem svI {v : V} {H : Hp} (h : v = .non ∨ ∃ i, v = .int i) : SpV spInt [v, v] H (.bl true) := fun H1 e Q q E => ⟨v, rfl, h, q⟩
def spRight : Sp := fun vs H Q _ => ∃ z : Str, vs = [.str z] ∧ z.length ≤ 10000 ∧ RetV (.bl true) H Q
theorem dec_self (b : Bool) : decide (b = b) = true := decide_eq_true rfl
end
end Z

namespace Z
open PySem PySem.Spec PyProof.Rows L2 TL Evl
def rRepStr : R2 := fun x y H Q => ∃ (z : Str) (i : Int), x = .str z ∧ y = .int i ∧ 0 ≤ i ∧ i ≤ 1000 ∧ z.length ≤ 1000 ∧ Q (.str (repS z i.toNat)) H
theorem oz_rep {X : Cx} : OpR X (binaryOp .Mult) rRepStr := op_rep_str
def rInt1 : List V → Hp → VK → Prop := fun xs H Q => (∃ i, xs = [.int i] ∧ Q (.int i) H) ∨ ∃ k, xs = [.bl k] ∧ Q (.int (if k then 1 else 0)) H
theorem cz_int1 {X : Cx} : CallR X (.type "int") rInt1 := call_int1
def rJoin (K : PySem.W.Frag) : V → List V → Hp → VK → Prop := fun x xs H Q => ∃ a p, ∃ ys : List Str, x = .str a ∧ xs = [.ref p] ∧ (SqL K H p (ys.map V.str) ∨ SqT K H p (ys.map V.str)) ∧ (ys.map (·.length)).sum + ys.length * a.length ≤ 16777216 ∧ Q (.str (Txt.join a ys)) H
theorem mz_join {X : Cx} : MtR X "str.join" (rJoin X.K) := mt_join
section
variable {K : PySem.W.Frag} {σ : L2.St} {H H' : Hp} {ta tb te : TE} {x : V} {ti : TA}
theorem ev_int1 {i : Int} (h : Ev te σ H (.int i)) : Ev (tCB rInt1 (tCons te tNil)) σ H (.int i) := fun H1 e Q q => h H1 e _ fun H2 e2 => .inl ⟨i, rfl, q H2 e2⟩
theorem rd_call {sp : Sp} {vs : List V} {E : XK} {Q : VK} (h : EvA ti σ H vs) (k : ∀ H1, Ex H H1 → sp (vs ++ []) H1 Q E) : tCall sp [] E ti σ H Q := h H (Ex.refl H) _ k
end
/-! ### the bag of draws -/
def cap : Nat := 1048576
/-- a bag at p, of which at most n were drawn -/
def BagAt (H : Hp) (p : Addr) (n : Nat) : Prop := ∃ (c0 : Int) (cv : V) (c2 : Int), H p = some (.lst [.int c0, cv, .int c2]) ∧ 0 ≤ c2 ∧ c2 ≤ (n : Int) ∧ (cv = .non ∨ ∃ c : Int, cv = .int c ∧ c.natAbs < 2 ^ cap)
/-- all but what stands at p is as it was -/
def Keep (p : Addr) (H H' : Hp) : Prop := ∀ b o, b ≠ p → H b = some o → H' b = some o
theorem Keep.of {p : Addr} {H H' : Hp} (e : Ex H H') : Keep p H H' := fun b o _ h => e b o h
theorem Keep.trans {p : Addr} {H H1 H2 : Hp} (a : Keep p H H1) (b : Keep p H1 H2) : Keep p H H2 := fun c o hc h => b c o hc (a c o hc h)
theorem Keep.upd {p : Addr} {H H1 : Hp} {o : HO} (a : Keep p H H1) : Keep p H (upd H1 p o) := fun c u hc h => by rw [upd_ne hc]; exact a c u hc h
theorem BagAt.ex {H H' : Hp} {p : Addr} {n : Nat} (b : BagAt H p n) (e : Ex H H') : BagAt H' p n := by
  obtain ⟨c0, cv, c2, h, r⟩ := b
  exact ⟨c0, cv, c2, e _ _ h, r⟩
theorem BagAt.mono {H : Hp} {p : Addr} {n m : Nat} (b : BagAt H p n) (h : n ≤ m) : BagAt H p m := by
  obtain ⟨c0, cv, c2, h1, h2, h3, h4⟩ := b
  exact ⟨c0, cv, c2, h1, h2, by omega, h4⟩
theorem BagAt.some {H : Hp} {p : Addr} {n : Nat} (b : BagAt H p n) : ∃ xs, H p = some (.lst xs) := by
  obtain ⟨c0, cv, c2, h, r⟩ := b
  exact ⟨_, h⟩
theorem Keep.free {p : Addr} {H H' : Hp} (a : Keep p H H') {n : Nat} (b : BagAt H' p n) {l : Addr} (h : H' l = none) : H l = none := by
  cases q : H l with
  | none => rfl
  | some o =>
    by_cases e : l = p
    · obtain ⟨xs, g⟩ := b.some
      rw [e, g] at h
      cases h
    · rw [a l o e q] at h
      cases h
def spDraw : Sp := fun vs H Q _ => ∃ (p : Addr) (size : Int) (n : Nat), vs = [.ref p, .int size] ∧ BagAt H p n ∧ n ≤ 100000000 ∧ 1 ≤ size ∧ size ≤ 1000000 ∧
  ∀ (d : Int) (H' : Hp), 0 ≤ d → d < size → BagAt H' p (n + 1) → Keep p H H' → Q (.int d) H'
section
variable {P : Program} {w : World} {K : PySem.W.Frag} {mg : Str → Option Value} {base : Heap} {f : Addr} {fd : FuncData} {k : Nat}
end
end Z

namespace Z
open PySem PySem.Spec PyProof.Rows L2 TL Evl
theorem at_int {α : Type} {xs : List α} {d : Int} (h0 : 0 ≤ d) (h1 : d < (xs.length : Int)) : ∃ v, atI xs d = some v ∧ v ∈ xs := by
  obtain ⟨j, rfl⟩ := Int.eq_ofNat_of_zero_le h0
  have hj : j < xs.length := by omega
  exact ⟨xs[j], atI_nat (List.getElem?_eq_getElem hj), List.getElem_mem hj⟩
abbrev CDraw (P : Program) (w : World) (K : PySem.W.Frag) (mg : Str → Option Value) (base : Heap) : Prop := Call P w K mg base 1 "_law_draw" ["bag", "size"] spDraw
def spPickS : Sp := fun vs H Q _ => ∃ (p : Addr) (n : Nat) (z : Str), vs = [.ref p, .str z] ∧ BagAt H p n ∧ n ≤ 100000000 ∧ 1 ≤ z.length ∧ z.length ≤ 1000 ∧ ∀ (c : Nat) (H' : Hp), BagAt H' p (n + 1) → Keep p H H' → Q (.str ⟨#[c]⟩) H'
def spPickL : Sp := fun vs H Q _ => ∃ (p : Addr) (n : Nat) (l : Addr) (xs : List V), vs = [.ref p, .ref l] ∧ BagAt H p n ∧ n ≤ 100000000 ∧ l ≠ p ∧ H l = some (.lst xs) ∧ 1 ≤ xs.length ∧ xs.length ≤ 1000 ∧ ∀ (v : V) (H' : Hp), v ∈ xs → BagAt H' p (n + 1) → Keep p H H' → Q v H'
def spMost : Sp := fun vs H Q _ => ∃ (p : Addr) (n : Nat) (a b : Int), vs = [.ref p, .int a, .int b] ∧ BagAt H p n ∧ n ≤ 100000000 ∧ ∀ (v : Int) (H' : Hp), v = a ∨ v = b → BagAt H' p (n + 1) → Keep p H H' → Q (.int v) H'
/-- a word of at most `most` signs; at most 1001 draws -/
def spWord : Sp := fun vs H Q _ => ∃ (p : Addr) (n : Nat) (z : Str) (least most : Int), vs = [.ref p, .str z, .int least, .int most] ∧ BagAt H p n ∧ n ≤ 90000000 ∧ 1 ≤ z.length ∧ z.length ≤ 1000 ∧ 0 ≤ least ∧ least ≤ most ∧ most ≤ 1000 ∧
  ∀ (t : Str) (H' : Hp), (t.length : Int) ≤ most → BagAt H' p (n + 1001) → Keep p H H' → Q (.str t) H'
def spBag (K : PySem.W.Frag) : Sp := fun vs H Q _ => ∃ (a : Addr) (ns : List Int) (i : Nat), vs = [.ref a, .int (i : Int)] ∧ SqL K H a (ns.map V.int) ∧ ns.length ≤ 63 ∧ i ≤ 63 ∧ (∀ z ∈ ns, z.natAbs < 2 ^ cap) ∧ ∀ (p : Addr) (H' : Hp), H p = none → Ex H H' → BagAt H' p 0 → Q (.ref p) H'
section
variable {P : Program} {w : World} {K : PySem.W.Frag} {mg : Str → Option Value} {base : Heap} {f : Addr} {fd : FuncData} {k : Nat}
theorem sum_ones : ∀ ys : List Str, (∀ y ∈ ys, y.length = 1) → (ys.map (·.length)).sum = ys.length
  | [], _ => rfl
  | y :: r, h => by
    rw [List.map_cons, List.sum_cons, sum_ones r fun x hx => h x (List.mem_cons_of_mem _ hx), h y List.mem_cons_self, List.length_cons]
    omega
theorem join_len (sep : Str) (ys : List Str) : (Txt.join sep ys).length ≤ (ys.map (·.length)).sum + ys.length * sep.length := by
  rw [join_eq]
  exact StrLaws.join_length_le sep ys
end
end Z

namespace Z
open PySem PySem.Spec PyProof.Rows L2 TL Evl
def spList : Sp := fun vs H Q _ => ∃ (p : Addr) (n : Nat), vs = [.ref p] ∧ BagAt H p n ∧ n ≤ 80000000 ∧ ∀ (t : Str) (H' : Hp), t.length ≤ 100 → BagAt H' p (n + 10000) → Keep p H H' → Q (.str t) H'
def spText : Sp := fun vs H Q _ => ∃ (p : Addr) (n : Nat), vs = [.ref p] ∧ BagAt H p n ∧ n ≤ 1000 ∧ ∀ (t : Str) (H' : Hp), t.length ≤ 1500 → BagAt H' p (n + 100000) → Keep p H H' → Q (.str t) H'
def spSpoilt : Sp := fun vs H Q _ => ∃ (p : Addr) (n : Nat) (z : Str), vs = [.ref p, .str z] ∧ BagAt H p n ∧ n ≤ 1000000 ∧ z.length ≤ 1500 ∧ ∀ (t : Str) (H' : Hp), t.length ≤ 4000 → BagAt H' p (n + 3) → Keep p H H' → Q (.str t) H'
def spLaw (K : PySem.W.Frag) : Sp := fun vs H Q _ => ∃ (a : Addr) (ns : List Int), vs = [.ref a] ∧ SqL K H a (ns.map V.int) ∧ ns.length ≤ 63 ∧ (∀ z ∈ ns, z.natAbs < 2 ^ cap) ∧ ∀ H', Q (.bl true) H'
theorem BagAt.new {H : Hp} {p l : Addr} {n : Nat} {o : HO} (b : BagAt H p n) (h : H l = none) : BagAt (upd H l o) p n ∧ l ≠ p := by
  obtain ⟨xs, g⟩ := b.some
  exact ⟨b.ex (Ex.new h), fun e => by rw [e, g] at h; cases h⟩
theorem strs_in {ss : List Str} {v : V} (h : v ∈ ss.map V.str) : ∃ x, v = .str x ∧ x ∈ ss := by
  obtain ⟨x, hx, e⟩ := List.mem_map.mp h
  exact ⟨x, e.symm, hx⟩
theorem ints_in {ss : List Int} {v : V} (h : v ∈ ss.map V.int) : ∃ x, v = .int x ∧ x ∈ ss := by
  obtain ⟨x, hx, e⟩ := List.mem_map.mp h
  exact ⟨x, e.symm, hx⟩
theorem sum_most : ∀ (ys : List Str) (m : Nat), (∀ y ∈ ys, y.length ≤ m) → (ys.map (·.length)).sum ≤ ys.length * m
  | [], _, _ => Nat.zero_le _
  | y :: r, m, h => by
    have h1 := sum_most r m fun x hx => h x (List.mem_cons_of_mem _ hx)
    have h2 := h y List.mem_cons_self
    rw [List.map_cons, List.sum_cons, List.length_cons, Nat.succ_mul]
    omega
section
variable {P : Program} {w : World} {K : PySem.W.Frag} {mg : Str → Option Value} {base : Heap} {f : Addr} {fd : FuncData} {k : Nat}
abbrev CPickL (P : Program) (w : World) (K : PySem.W.Frag) (mg : Str → Option Value) (base : Heap) : Prop := Call P w K mg base 2 "_law_pick" ["bag", "things"] spPickL
abbrev CPickS (P : Program) (w : World) (K : PySem.W.Frag) (mg : Str → Option Value) (base : Heap) : Prop := Call P w K mg base 2 "_law_pick" ["bag", "things"] spPickS
abbrev CMost (P : Program) (w : World) (K : PySem.W.Frag) (mg : Str → Option Value) (base : Heap) : Prop := Call P w K mg base 2 "_law_most" ["bag", "small", "large"] spMost
abbrev CWord (P : Program) (w : World) (K : PySem.W.Frag) (mg : Str → Option Value) (base : Heap) : Prop := Call P w K mg base 2 "_law_word" ["bag", "signs", "least", "most"] spWord
end
end Z

namespace Z
open PySem PySem.Spec PyProof.Rows L2 TL Evl
theorem short_in {ss : List Str} {m : Nat} (h : ss.all (fun x => decide (x.length ≤ m)) = true) {x : Str} (hx : x ∈ ss) : x.length ≤ m := of_decide_eq_true (List.all_eq_true.mp h x hx)
section
variable {P : Program} {w : World} {K : PySem.W.Frag} {mg : Str → Option Value} {base : Heap} {f : Addr} {fd : FuncData} {k : Nat}
end
end Z
set_option maxHeartbeats 4000000
namespace Z
open PySem PySem.Spec PyProof.Rows L2 TL Evl
/-! ### lists of values, each with what it stands for -/
def Rel {α : Type} (R : V → α → Prop) (xs : List V) (os : List α) : Prop := xs.length = os.length ∧ ∀ (i : Nat) (x : V) (o : α), xs[i]? = some x → os[i]? = some o → R x o
section
variable {α : Type} {R R' : V → α → Prop} {xs : List V} {os : List α} {x : V} {o : α} {i : Nat}
theorem Rel.mono (h : Rel R xs os) (m : ∀ x o, R x o → R' x o) : Rel R' xs os := ⟨h.1, fun i x o a b => m x o (h.2 i x o a b)⟩
theorem Rel.nil : Rel R [] [] := ⟨rfl, fun i x o a => by cases a⟩
theorem Rel.snoc (h : Rel R xs os) (r : R x o) : Rel R (xs ++ [x]) (os ++ [o]) := by
  refine ⟨by rw [List.length_append, List.length_append, h.1]; rfl, fun i y u a b => ?_⟩
  by_cases hi : i < xs.length
  · rw [List.getElem?_append_left hi] at a
    rw [List.getElem?_append_left (by rw [← h.1]; exact hi)] at b
    exact h.2 i y u a b
  · rw [List.getElem?_append_right (by omega)] at a
    rw [List.getElem?_append_right (by rw [← h.1]; omega)] at b
    rw [← h.1] at b
    cases e : i - xs.length with
    | zero =>
      rw [e] at a b
      cases a
      cases b
      exact r
    | succ n =>
      rw [e] at a
      cases a
theorem Rel.get (h : Rel R xs os) (a : xs[i]? = some x) : ∃ o, os[i]? = some o ∧ R x o := by
  have hi : i < xs.length := (List.getElem?_eq_some_iff.mp a).1
  have e := List.getElem?_eq_getElem (h.1 ▸ hi : i < os.length)
  exact ⟨_, e, h.2 i x _ a e⟩
theorem Rel.at (h : Rel R xs os) (b : os[i]? = some o) : ∃ x, xs[i]? = some x ∧ R x o := by
  have hi : i < os.length := (List.getElem?_eq_some_iff.mp b).1
  have e := List.getElem?_eq_getElem (h.1.symm ▸ hi : i < xs.length)
  exact ⟨_, e, h.2 i _ o e b⟩
end
/-- a comprehension over a list whose values stand for things -/
theorem lc_rel {K : PySem.W.Frag} {a : Addr} {xs : List V} {g : TG} {tt : TT} {te : TE} {vs : List Nat} {σ : L2.St} {H0 : Hp} {D : Addr} {Qd : Hp → Prop} {α : Type} (acc : Nat → List α) (R : Hp → V → α → Prop)
    (mono : ∀ H1 H2 x o, (∀ b ob, b ≠ D → H1 b = some ob → H2 b = some ob) → (∃ ys, H1 D = some (.lst ys)) → R H1 x o → R H2 x o)
    (hx : SqL K H0 a xs) (hD : H0 D = none) (h00 : acc 0 = []) (hz : xs.length ≤ 50000)
    (hs : ∀ i x H, xs[i]? = some x → Ex H0 H → ∀ (k : VK) (k0 : Hp → Prop), (∀ y H4 o, Ex H H4 → acc (i + 1) = acc i ++ [o] → R H4 y o → k y H4) → (∀ H3, Ex H H3 → acc (i + 1) = acc i → k0 H3) →
      g x (wipe σ vs) H fun σ2 H2 => wipe σ2 vs = wipe σ vs ∧ tt σ2 H2 fun b H3 => if b = true then te σ2 H3 k else k0 H3)
    (hd : ∀ H ys, Ex H0 H → H D = some (.lst ys) → Rel (R H) ys (acc xs.length) → Qd H) :
    ∃ W : Nat → Nat → Hp → Prop, (∃ m, W 0 m (upd H0 D (.lst []))) ∧ ∀ i m H, W i m H →
      ((Itl K a).stop i H ∧ Qd H) ∨ ((Itl K a).go i H ∧ ∃ Nx : Hp → Prop, (∀ H', Nx H' → ∃ m', m' < m ∧ W (i + 1) m' H') ∧ ∀ x H', (Itl K a).yld i H x H' → g x (wipe σ vs) H' fun σ2 H2 => wipe σ2 vs = wipe σ vs ∧ tt σ2 H2 fun b H3 =>
        if b = true then te σ2 H3 fun y H4 => ∃ acc, H4 D = some (.lst acc) ∧ acc.length < sizeLine ∧ Nx (upd H4 D (.lst (acc ++ [y]))) else Nx H3) := by
  refine lc_list (xs := xs) (fun i H => Ex H0 H ∧ ∃ ys, H D = some (.lst ys) ∧ ys.length ≤ i ∧ Rel (R H) ys (acc i)) ⟨Ex.new hD, [], upd_same, Nat.le_refl _, by rw [h00]; exact Rel.nil⟩ (fun i H _ p => ex_l p.1 hx) (fun i x H hi p => ?_) (fun H p => ?_)
  · obtain ⟨e0, ys, hy, hl, hr⟩ := p
    have hi2 : i < xs.length := (List.getElem?_eq_some_iff.mp hi).1
    refine hs i x H hi e0 _ _ (fun y H4 o e4 ea r => ?_) (fun H3 e3 ea => ?_)
    · refine ⟨ys, e4 _ _ hy, sz_lt (by omega), Ex.mut (e0.trans e4) hD, ys ++ [y], upd_same, by rw [List.length_append]; exact Nat.add_le_add_right hl 1, ?_⟩
      rw [ea]
      refine Rel.snoc (hr.mono fun x o q => ?_) ?_
      · exact mono _ _ x o (fun b ob hb h => by rw [upd_ne hb]; exact h) ⟨ys, e4 _ _ hy⟩ (mono _ _ x o (fun b ob _ h => e4 b ob h) ⟨ys, hy⟩ q)
      · exact mono _ _ y o (fun b ob hb h => by rw [upd_ne hb]; exact h) ⟨ys, e4 _ _ hy⟩ r
    · refine ⟨e0.trans e3, ys, e3 _ _ hy, by omega, ?_⟩
      rw [ea]
      exact hr.mono fun x o q => mono _ _ x o (fun b ob _ h => e3 b ob h) ⟨ys, hy⟩ q
  · obtain ⟨e0, ys, hy, hl, hr⟩ := p
    exact hd H ys e0 hy hr
/-! ### a number that may not be there, pairs of them -/
def num (z : Str) : Option Nat := if digB z = true then some (NumText.digitsVal (tl z)) else none
def ov : Option Nat → V
  | none => .non
  | some n => .int (n : Int)
theorem numV_ov (z : Str) : numV z = ov (num z) := by
  unfold numV num
  cases h : digB z <;> rfl
theorem ov_non (o : Option Nat) : decide (ov o = .non) = o.isNone := by cases o <;> rfl
abbrev Pr := Option Nat × Option Nat
def TupAt (H : Hp) (v : V) (xs : List V) : Prop := ∃ p, v = .ref p ∧ H p = some (.tup xs)
def PrAt (H : Hp) (v : V) (o : Pr) : Prop := TupAt H v [ov o.1, ov o.2]
def OPrAt (H : Hp) (v : V) : Option Pr → Prop
  | none => v = .non
  | some q => PrAt H v q
def IpAt (H : Hp) (v : V) (o : Int × Int) : Prop := TupAt H v [.int o.1, .int o.2]
theorem TupAt.keep {H1 H2 : Hp} {D : Addr} {v : V} {xs : List V} (h : TupAt H1 v xs) (k : ∀ b ob, b ≠ D → H1 b = some ob → H2 b = some ob) (hD : ∃ ys, H1 D = some (.lst ys)) : TupAt H2 v xs := by
  obtain ⟨p, rfl, hp⟩ := h
  obtain ⟨ys, hy⟩ := hD
  exact ⟨p, rfl, k p _ (fun e => by rw [e, hy] at hp; cases hp) hp⟩
theorem TupAt.ex {H1 H2 : Hp} {v : V} {xs : List V} (h : TupAt H1 v xs) (e : Ex H1 H2) : TupAt H2 v xs := by
  obtain ⟨p, rfl, hp⟩ := h
  exact ⟨p, rfl, e _ _ hp⟩
theorem OPrAt.ex {H1 H2 : Hp} {v : V} {o : Option Pr} (h : OPrAt H1 v o) (e : Ex H1 H2) : OPrAt H2 v o := by
  cases o with
  | none => exact h
  | some q => exact TupAt.ex h e
theorem OPrAt.keep {H1 H2 : Hp} {D : Addr} {v : V} {o : Option Pr} (h : OPrAt H1 v o) (k : ∀ b ob, b ≠ D → H1 b = some ob → H2 b = some ob) (hD : ∃ ys, H1 D = some (.lst ys)) : OPrAt H2 v o := by
  cases o with
  | none => exact h
  | some q => exact TupAt.keep h k hD
/-! ### the dash of a text -/
def dashAt (z : Str) : Option Nat := (Builtin.Str.occurrences z "-" 0 z.length 1).head?
theorem find_dash (z : Str) : Txt.find z "-" = (match dashAt z with | some i => (i : Int) | none => -1) := by
  unfold Txt.find dashAt
  cases Builtin.Str.occurrences z "-" 0 z.length 1 <;> rfl
theorem dash_len : ("-" : Str).length = 1 := by decide +kernel
theorem cutTo_tl (z : Str) (i : Nat) : tl (cutS z none (some (i : Int))) = (tl z).take i := by
  show ((tl z).drop (HT.sIx z.length 0 none)).take (HT.sIx z.length z.length (some (i : Int)) - HT.sIx z.length 0 none) = _
  rw [HT.sIx_none, show HT.sIx z.length z.length (some (i : Int)) = min i z.length from HT.sIx_nat _ _ i, List.drop_zero, Nat.sub_zero, len_tl]
  by_cases h : i ≤ (tl z).length
  · rw [Nat.min_eq_left h]
  · rw [Nat.min_eq_right (by omega), List.take_of_length_le (Nat.le_refl _), List.take_of_length_le (by omega)]
theorem cutFrom_tl (z : Str) (i : Nat) : tl (cutS z (some (i : Int)) none) = (tl z).drop i := by
  show ((tl z).drop (HT.sIx z.length 0 (some (i : Int)))).take (HT.sIx z.length z.length none - HT.sIx z.length 0 (some (i : Int))) = _
  rw [HT.sIx_none, show HT.sIx z.length 0 (some (i : Int)) = min i z.length from HT.sIx_nat _ _ i, len_tl]
  by_cases h : i ≤ (tl z).length
  · rw [Nat.min_eq_left h]
    exact List.take_of_length_le (by rw [List.length_drop]; exact Nat.le_refl _)
  · rw [Nat.min_eq_right (by omega), List.drop_of_length_le (Nat.le_refl _), List.drop_of_length_le (by omega), List.take_nil]
/-- what stands ahead of a place, what stands behind -/
def preT (z : Str) (i : Nat) : Str := S' ((tl z).take i)
def sufT (z : Str) (i : Nat) : Str := S' ((tl z).drop i)
theorem cutTo (z : Str) (i : Nat) : cutS z none (some (i : Int)) = preT z i := ext_tl (by rw [cutTo_tl]; rfl)
theorem cutFrom (z : Str) (i : Nat) : cutS z (some (i : Int)) none = sufT z i := ext_tl (by rw [cutFrom_tl]; rfl)
theorem preT_len (z : Str) (i : Nat) : (preT z i).length ≤ z.length := by rw [← cutTo]; exact cut_len z _ _
theorem sufT_len (z : Str) (i : Nat) : (sufT z i).length ≤ z.length := by rw [← cutFrom]; exact cut_len z _ _
theorem part_dash (z : Str) : (∃ i, dashAt z = some i ∧ i + 1 ≤ z.length ∧ Txt.partition z "-" = (preT z i, ("-" : Str), sufT z (i + 1))) ∨ (dashAt z = none ∧ Txt.partition z "-" = (z, ("" : Str), ("" : Str))) := by
  unfold Txt.partition dashAt
  rcases StrLaws.occ_head z "-" 1 (Nat.le_refl 1) with ⟨h0, _⟩ | ⟨i, r, h0, hi, _⟩
  · rw [h0]; exact .inr ⟨rfl, rfl⟩
  · rw [h0]
    have hb : i + ("-" : Str).length ≤ z.length := hi.1
    refine .inl ⟨i, rfl, by rw [dash_len] at hb; exact hb, ?_⟩
    show (Builtin.Str.strSub z 0 i, ("-" : Str), Builtin.Str.strSub z (i + ("-" : Str).length) z.length) = _
    rw [dash_len]
    refine Prod.ext ?_ (Prod.ext rfl ?_)
    · exact ext_tl (by rw [tl_strSub, List.drop_zero, Nat.sub_zero]; rfl)
    · exact ext_tl (by rw [tl_strSub_end]; rfl)
theorem num_empty : num ("" : Str) = none := by decide +kernel
theorem preT0 (z : Str) : preT z 0 = ("" : Str) := eq_empty.mpr (by unfold preT; rw [List.take_zero]; rfl)
theorem preT_ne {z : Str} {i : Nat} (h : 0 < i) (hi : i + 1 ≤ z.length) : preT z i ≠ ("" : Str) := fun e => by
  have e2 := eq_empty.mp e
  have e3 : ((tl z).take i).length = 0 := by rw [show (tl z).take i = [] from e2]; rfl
  rw [List.length_take, len_tl'] at e3
  omega
theorem sufT_empty {z : Str} {i : Nat} (hi : i + 1 ≤ z.length) : decide (sufT z (i + 1) = ("" : Str)) = decide ((i : Int) = (z.length : Int) - 1) := by
  have e : sufT z (i + 1) = ("" : Str) ↔ (i : Int) = (z.length : Int) - 1 := by
    rw [eq_empty]
    show (tl z).drop (i + 1) = [] ↔ _
    rw [List.drop_eq_nil_iff, len_tl']
    omega
  exact decide_eq_decide.mpr e
/-- what a range says -/
def pairO (A B : Option Nat) : Option Pr :=
  match A, B with
  | none, none => none
  | some a, some b => if b < a then none else some (some a, some b)
  | x, y => some (x, y)
def badB (z : Str) (i : Nat) : Bool := ((num (preT z i)).isNone && !decide (preT z i = ("" : Str))) || ((num (sufT z (i + 1))).isNone && !decide (sufT z (i + 1) = ("" : Str)))
def rangeO (z : Str) : Option Pr :=
  match dashAt z with
  | none => none
  | some i => if badB z i = true then none else pairO (num (preT z i)) (num (sufT z (i + 1)))
theorem rangeO_some {z : Str} {i : Nat} (h : dashAt z = some i) : rangeO z = if badB z i = true then none else pairO (num (preT z i)) (num (sufT z (i + 1))) := by
  unfold rangeO
  rw [h]
theorem rangeO_none {z : Str} (h : dashAt z = none) : rangeO z = none := by
  unfold rangeO
  rw [h]
/-! ### the place of a digit -/
theorem occ_none (z : Str) (c : Nat) (h : c ∉ tl z) : Builtin.Str.occurrences z ⟨#[c]⟩ 0 z.length 1 = [] := by
  have e := StrLaws.found_one z c
  rw [decide_eq_false h] at e
  cases ho : Builtin.Str.occurrences z ⟨#[c]⟩ 0 z.length 1 with
  | nil => rfl
  | cons a r =>
    rw [ho] at e
    exact nomatch e
def dg : Str := "0123456789"
theorem find_digit (c : Nat) : Txt.find dg ⟨#[c]⟩ = if c ∈ tl dg then ((c : Int) - 48) else -1 := by
  by_cases h : c ∈ tl dg
  · rw [if_pos h]
    have all : ∀ c ∈ tl dg, Txt.find dg ⟨#[c]⟩ = ((c : Int) - 48) := by decide +kernel
    exact all c h
  · rw [if_neg h]
    unfold Txt.find
    rw [occ_none dg c h]
theorem dig_range : ∀ c ∈ tl dg, 48 ≤ c ∧ c ≤ 57 := by decide +kernel
/-- digits read so far -/
def dval (l : List Nat) : Nat := l.foldl (fun a c => a * 10 + (c - 48)) 0
theorem dval_snoc (l : List Nat) (c : Nat) : dval (l ++ [c]) = dval l * 10 + (c - 48) := by
  unfold dval
  rw [List.foldl_append]
  rfl
theorem dfold_lt : ∀ (l : List Nat) (a : Nat), (∀ c ∈ l, c ∈ tl dg) → l.foldl (fun a c => a * 10 + (c - 48)) a < (a + 1) * 10 ^ l.length
  | [], a, _ => by show a < (a + 1) * 1; omega
  | c :: r, a, h => by
    have h1 := dfold_lt r (a * 10 + (c - 48)) fun x hx => h x (List.mem_cons_of_mem _ hx)
    have h2 := dig_range c (h c List.mem_cons_self)
    rw [List.foldl_cons, List.length_cons, Nat.pow_succ, Nat.mul_comm (10 ^ r.length) 10, ← Nat.mul_assoc]
    exact Nat.lt_of_lt_of_le h1 (Nat.mul_le_mul_right _ (by omega))
theorem dval_lt {l : List Nat} (h : ∀ c ∈ l, c ∈ tl dg) : dval l < 10 ^ l.length := by
  have := dfold_lt l 0 h
  rw [Nat.zero_add, Nat.one_mul] at this
  exact this
/-! ### named readings -/
def rFind : V → List V → Hp → VK → Prop := fun x xs H Q => ∃ a b, x = .str a ∧ xs = [.str b] ∧ Q (.int (Txt.find a b)) H
theorem mz_find {X : Cx} : MtR X "str.find" rFind := mt_find
def rPart : V → List V → Hp → VK → Prop := fun x xs H Q => ∃ a b, x = .str a ∧ xs = [.str b] ∧ (b.length == 0) = false ∧ a.length ≤ sizeLine ∧
    ∀ p, H p = none → Q (.ref p) (upd H p (.tup [.str (Txt.partition a b).1, .str (Txt.partition a b).2.1, .str (Txt.partition a b).2.2]))
theorem mz_part {X : Cx} : MtR X "str.partition" rPart := mt_partition
def rStrI : List V → Hp → VK → Prop := fun xs H Q => ∃ i : Int, xs = [.int i] ∧ i.natAbs.log2 < 1920 ∧ Q (.str (toString i)) H
theorem cz_str {X : Cx} : CallR X (.type "str") rStrI := call_str_int
section
variable {K : PySem.W.Frag} {σ : L2.St} {H H' : Hp} {ta tb te to ts : TE} {a b s : Str} {p : Addr} {xs : List V}
theorem ev_find (h : Ev to σ H (.str a)) (hs : Ev ts σ H (.str s)) : Ev (tBM K "str" rFind to (tCons ts tNil)) σ H (.int (Txt.find a s)) := fun H1 e Q q =>
  h H1 e _ fun H2 e2 => ⟨rfl, hs H2 (e.trans e2) _ fun H3 e3 => ⟨a, s, rfl, rfl, q H3 (e2.trans e3)⟩⟩
theorem eu_part (h : Ev to σ H (.str a)) (hs : Ev ts σ H (.str s)) (h0 : (s.length == 0) = false) (hz : a.length ≤ 100000) : EvU (tBM K "str" rPart to (tCons ts tNil)) σ H [.str (Txt.partition a s).1, .str (Txt.partition a s).2.1, .str (Txt.partition a s).2.2] := fun H1 e Q q =>
  h H1 e _ fun H2 e2 => ⟨rfl, hs H2 (e.trans e2) _ fun H3 e3 => ⟨a, s, rfl, rfl, h0, sz_of hz, fun p hp => q p _ (fresh_back (e2.trans e3) hp) ((e2.trans e3).trans (Ex.new hp)) upd_same⟩⟩
theorem ev_strI {i : Int} (h : Ev te σ H (.int i)) (hi : i.natAbs < 2 ^ 1920) : Ev (tCB rStrI (tCons te tNil)) σ H (.str (toString i)) := fun H1 e Q q => h H1 e _ fun H2 e2 => ⟨i, rfl, by
  by_cases z : i.natAbs = 0
  · rw [z]; decide
  · exact (Nat.log2_lt z).mpr hi, q H2 e2⟩
theorem ev_lenT {p : Addr} {xs : List V} (ha : Ev ta σ H (.ref p)) (h : SqT K H p xs) : Ev (tCB (rLenS K) (tCons ta tNil)) σ H (.int (xs.length : Int)) := fun H1 e Q q =>
  ha H1 e _ fun H2 e2 => ⟨p, xs, rfl, Or.inr (ex_t (e.trans e2) h), q H2 e2⟩
theorem ev_ixT {i : Int} {v : V} (h : Ev ta σ H (.ref p)) (hi : Ev tb σ H (.int i)) (hp : H p = some (.tup xs)) (hv : atI xs i = some v) : Ev (tOp (rIxT K) ta tb) σ H v := ev_op h hi (rv_ixT (st_of hp) hv)
theorem ev_ixL {i : Int} {v : V} (h : Ev ta σ H (.ref p)) (hi : Ev tb σ H (.int i)) (hp : H p = some (.lst xs)) (hv : atI xs i = some v) : Ev (tOp (rIxL K) ta tb) σ H v := ev_op h hi (rv_ixL (sq_of hp) hv)
/-- any of a list of truths -/
theorem ev_any {bs : List Bool} (ha : EvL ta σ H (bs.map V.bl)) : Ev (tCB (L2.rAny K) (tCons ta tNil)) σ H (.bl (bs.any id)) := fun H1 e Q q =>
  ha H1 e _ fun p H2 _ e2 h2 => ⟨p, bs, rfl, sq_of h2, q H2 e2⟩
def rMin2 : List V → Hp → VK → Prop := fun xs H Q => ∃ i j, xs = [.int i, .int j] ∧ Q (.int (if j < i then j else i)) H
theorem ev_min2 {i j : Int} (ha : Ev ta σ H (.int i)) (hb : Ev tb σ H (.int j)) : Ev (tCB rMin2 (tCons ta (tCons tb tNil))) σ H (.int (if j < i then j else i)) := fun H1 e Q q =>
  ha H1 e _ fun H2 e2 => hb H2 (e.trans e2) _ fun H3 e3 => ⟨i, j, rfl, q H3 (e2.trans e3)⟩
end
section
variable {X : Cx}
theorem cz_min2 (h : X.calm = true) : CallR X (.builtin "min") rMin2 := call_min2 h
end
/-! ### numbers' texts are short -/
theorem strI_len {i : Int} (h0 : 0 ≤ i) (h : i < 10 ^ 7) : (PySem.Str.ofString (toString i)).length ≤ 7 := by
  obtain ⟨n, rfl⟩ := Int.eq_ofNat_of_zero_le h0
  rw [len_tl, tl_num]
  exact numL_len (by decide) (by omega)
end Z
set_option maxHeartbeats 4000000
namespace Z
open PySem PySem.Spec PyProof.Rows L2 TL Evl
/-! ### short texts -/
def EvS (te : TE) (σ : L2.St) (H : Hp) (n : Nat) : Prop := ∃ t : Str, t.length ≤ n ∧ Ev te σ H (.str t)
def EvAS (ta : TA) (σ : L2.St) (H : Hp) (n k : Nat) : Prop := ∃ ts : List Str, ts.length = k ∧ (∀ t ∈ ts, t.length ≤ n) ∧ EvA ta σ H (ts.map V.str)
section
variable {K : PySem.W.Frag} {σ : L2.St} {H H' : Hp} {ta tb te to ts : TE} {a b s : Str} {p : Addr} {xs : List V} {n m k : Nat} {tr : TA}  {ta' : TA} {i : Nat} {sp : Sp} {E : XK} {Q : VK} {x v : V} {D : Ends} {t tz tu : TS} {tt : TT} {dvs : List V}
theorem es_c : EvS (tC (.str a)) σ H a.length := ⟨a, Nat.le_refl _, ev_c⟩
theorem es_var (h : σ[i]? = some (some (.str a))) (hn : a.length ≤ n) : EvS (tVar i) σ H n := ⟨a, hn, ev_var h⟩
theorem es_add (h : EvS ta σ H n) (h2 : EvS tb σ H m) (hs : n + m ≤ 200000 := by decide +kernel) : EvS (tOp rAddS2 ta tb) σ H (n + m) := by
  obtain ⟨x, hx, ex⟩ := h
  obtain ⟨y, hy, ey⟩ := h2
  exact ⟨x ++ y, by rw [Str.length_append]; omega, ev_op ex ey (rv_addS (by omega))⟩
theorem eas_nil : EvAS tNil σ H n 0 := ⟨[], rfl, (fun _ h => by cases h), ea_nil⟩
theorem eas_cons (h : EvS te σ H m) (hm : m ≤ n) (hr : EvAS tr σ H n k) : EvAS (tCons te tr) σ H n (k + 1) := by
  obtain ⟨x, hx, ex⟩ := h
  obtain ⟨ts, h1, h2, h3⟩ := hr
  refine ⟨x :: ts, by rw [List.length_cons, h1], fun t ht => ?_, ea_cons ex h3⟩
  rcases List.mem_cons.mp ht with rfl | ht
  · exact Nat.le_trans hx hm
  · exact h2 t ht
theorem es_mono (h : EvS te σ H n) (hm : n ≤ m) : EvS te σ H m := by
  obtain ⟨x, hx, ex⟩ := h
  exact ⟨x, Nat.le_trans hx hm, ex⟩
theorem es_ex (h : EvS te σ H n) (e : Ex H H') : EvS te σ H' n := by
  obtain ⟨x, hx, ex⟩ := h
  exact ⟨x, hx, ex.mono e⟩
theorem es_strI {i : Int} (h : Ev te σ H (.int i)) (h0 : 0 ≤ i) (h1 : i < 10 ^ 7) : EvS (tCB rStrI (tCons te tNil)) σ H 7 :=
  ⟨_, strI_len h0 h1, ev_strI h (Nat.lt_of_lt_of_le (show i.natAbs < 2 ^ 24 by omega) (Nat.pow_le_pow_right (by decide) (by decide)))⟩
/-! ### readings, one after another -/
theorem rd_cons (h : Ev te σ H x) {Q : List V → Hp → Prop} (k : ∀ H1, Ex H H1 → tr σ H1 fun xs H2 => Q (x :: xs) H2) : tCons te tr σ H Q := h H (Ex.refl H) _ k
theorem rd_args (h : ta' σ H fun vs H1 => sp (vs ++ dvs) H1 Q E) : tCall sp dvs E ta' σ H Q := h
theorem rd_ev (h : Ev te σ H x) (k : ∀ H1, Ex H H1 → Q x H1) : te σ H Q := h H (Ex.refl H) _ k
theorem rd_evL (h : EvL te σ H xs) (k : ∀ p H1, H p = none → Ex H H1 → H1 p = some (.lst xs) → Q (.ref p) H1) : te σ H Q := h H (Ex.refl H) _ k
theorem rd_callN {vs : List V} {tk : TA} (h : EvA tk σ H vs) (hl : vs.length = n) (k : ∀ H1, Ex H H1 → sp vs H1 Q E) : tCallN 0 n sp (fun _ zs => zs) E tNil tk σ H Q := h H (Ex.refl H) _ fun H1 e => ⟨rfl, hl, k H1 e⟩
theorem q_tail (R : L2.St → Hp → Prop) (k : ∀ σ1 H1, R σ1 H1 → tz D σ1 H1) (h : (∀ σ1 H1, R σ1 H1 → tz D σ1 H1) → tSeq t tz D σ H) : tSeq t tz D σ H := h k
theorem g_name {R : L2.St → Hp → Prop} (h : R (σ.set i (some v)) H) : gName i v σ H R := h
theorem q_tailIf {tw : TS} (R : L2.St → Hp → Prop) (k : ∀ σ1 H1, R σ1 H1 → tz D σ1 H1) (h : (∀ σ1 H1, R σ1 H1 → tz D σ1 H1) → tSeq (tIfS tt tu tw) tz D σ H) : tSeq (tIfS tt tu tw) tz D σ H := h k
theorem el_listN (h : EvL te σ H xs) : EvL (tCB (rListS K) (tCons te tNil)) σ H xs := fun H1 e Q q =>
  h H1 e _ fun p H2 np e2 h2 => ⟨p, xs, rfl, .inl (sq_of h2), fun l hl => q l _ (fresh_back e2 hl) (e2.trans (Ex.new hl)) upd_same⟩
end
section
variable {K : PySem.W.Frag} {σ : L2.St} {H : Hp} {tb : TE} {ta : TA} {n k : Nat} {D : Ends} {i : Int}
/-- one of a list of short texts -/
theorem ev_pick (hev : EvAS ta σ H n k) (hk : k ≤ 1000) (hi : Ev tb σ H (.int i)) (h0 : 0 ≤ i) (h1 : i < (k : Int)) : EvS (tOp (rIxL K) (tLst ta) tb) σ H n := by
  obtain ⟨ts, hk2, hts, hev⟩ := hev
  obtain ⟨t, ht, htm⟩ := at_int (xs := ts.map V.str) (d := i) h0 (by rw [List.length_map, hk2]; exact h1)
  obtain ⟨x, hx, e⟩ := List.mem_map.mp htm
  subst e
  exact ⟨x, hts x hx, ev_opL1 (el_lst hev (by rw [List.length_map, hk2]; omega)) (fun H1 e => hi.mono e) (fun p H1 hp e => rv_ixL (sq_of hp) ht)⟩
theorem s_retS {te : TE} (h : EvS te σ H n) (q : ∀ x : Str, x.length ≤ n → ∀ H1, Ex H H1 → D.rt (.str x) H1) : tRet te D σ H := by
  obtain ⟨x, hx, ex⟩ := h
  exact s_ret ex (q x hx)
end
section
variable {K : PySem.W.Frag} {σ : L2.St} {H : Hp} {te : TE} {tr : TA} {D : Ends} {xs vs : List V}
/-- a list whose first thing is a new list -/
theorem s_retLL (h : EvL te σ H xs) (hr : ∀ H1, Ex H H1 → EvA tr σ H1 vs) (hz : vs.length + 1 ≤ 1000)
    (q : ∀ p l H1, H p = none → Ex H H1 → H1 l = some (.lst xs) → l ≠ p → H1 p = some (.lst (.ref l :: vs)) → D.rt (.ref p) H1) : tRet (tLst (tCons te tr)) D σ H :=
  h H (Ex.refl H) _ fun l H1 nl e1 h1 => (hr H1 e1) H1 (Ex.refl H1) _ fun H2 e2 => ⟨Nat.le_trans (show vs.length + 1 ≤ 1000 from hz) (by decide), fun p np =>
    q p l _ (fresh_back (e1.trans e2) np) ((e1.trans e2).trans (Ex.new np)) (by rw [upd_ne (ne_of_none (e2 _ _ h1) np)]; exact e2 _ _ h1) (ne_of_none (e2 _ _ h1) np) upd_same⟩
end
/-! ### a source of draws: a list whose first thing is the list l0 of cells -/
def SrcAt (H : Hp) (p l0 : Addr) (n : Nat) : Prop := ∃ (cs : List Int) (c1 c2 c3 sd : Int), H p = some (.lst [.ref l0, .int c1, .int c2, .int c3, .int sd]) ∧ H l0 = some (.lst (cs.map V.int)) ∧ l0 ≠ p ∧ cs.length ≤ 63 ∧ (∀ z ∈ cs, z.natAbs < 2 ^ cap) ∧ 0 ≤ c1 ∧ 0 ≤ c3 ∧ c3 ≤ (n : Int) ∧ 0 ≤ sd ∧ sd < 2147483629
section
variable {H H' : Hp} {p l0 l : Addr} {n m : Nat} {o : HO}
theorem SrcAt.ex (b : SrcAt H p l0 n) (e : Ex H H') : SrcAt H' p l0 n := by
  obtain ⟨cs, c1, c2, c3, sd, h, h2, r⟩ := b
  exact ⟨cs, c1, c2, c3, sd, e _ _ h, e _ _ h2, r⟩
theorem SrcAt.mono (b : SrcAt H p l0 n) (h : n ≤ m) : SrcAt H p l0 m := by
  obtain ⟨cs, c1, c2, c3, sd, h1, h2, h3, h4, h5, h6, h7, h8, r⟩ := b
  exact ⟨cs, c1, c2, c3, sd, h1, h2, h3, h4, h5, h6, h7, by omega, r⟩
theorem SrcAt.has (b : SrcAt H p l0 n) : ∃ xs, H p = some (.lst xs) := by
  obtain ⟨cs, c1, c2, c3, sd, h, r⟩ := b
  exact ⟨_, h⟩
theorem SrcAt.has0 (b : SrcAt H p l0 n) : ∃ xs, H l0 = some (.lst xs) := by
  obtain ⟨cs, c1, c2, c3, sd, h, h2, r⟩ := b
  exact ⟨_, h2⟩
theorem SrcAt.ne (b : SrcAt H p l0 n) (h : H l = none) : l ≠ p ∧ l ≠ l0 := by
  obtain ⟨xs, g⟩ := b.has
  obtain ⟨ys, g2⟩ := b.has0
  exact ⟨(fun e => by rw [e, g] at h; cases h), (fun e => by rw [e, g2] at h; cases h)⟩
theorem SrcAt.upd (b : SrcAt H p l0 n) (h : l ≠ p ∧ l ≠ l0) : SrcAt (upd H l o) p l0 n := by
  obtain ⟨cs, c1, c2, c3, sd, h1, h2, r⟩ := b
  exact ⟨cs, c1, c2, c3, sd, by rw [upd_ne (Ne.symm h.1)]; exact h1, by rw [upd_ne (Ne.symm h.2)]; exact h2, r⟩
theorem Keep.non (a : Keep p H H') {xs : List V} (b : H' p = some (.lst xs)) (h : H' l = none) : H l = none := by
  cases q : H l with
  | none => rfl
  | some o =>
    by_cases e : l = p
    · rw [e, b] at h
      cases h
    · rw [a l o e q] at h
      cases h
theorem Keep.freeS (a : Keep p H H') (b : SrcAt H' p l0 n) (h : H' l = none) : H l = none := by
  obtain ⟨xs, g⟩ := b.has
  exact a.non g h
/-- an object that was not there ahead may change -/
theorem Keep.mut (a : Keep p H H') (h : H l = none) : Keep p H (L2.upd H' l o) := fun b u hb hu => by
  rw [upd_ne (ne_of_none hu h)]
  exact a b u hb hu
theorem Keep.at (a : Keep p H H') (h : H l = some o) (hl : l ≠ p) : H' l = some o := a l o hl h
end
def spSource (K : PySem.W.Frag) : Sp := fun vs H Q _ => ∃ (a : Addr) (ns : List Int), vs = [.ref a] ∧ SqL K H a (ns.map V.int) ∧ ns.length ≤ 63 ∧ (∀ z ∈ ns, z.natAbs < 2 ^ cap) ∧ ∀ (p l0 : Addr) (H' : Hp), H p = none → Ex H H' → SrcAt H' p l0 0 → Q (.ref p) H'
def spMixed : Sp := fun vs H Q _ => ∃ c s lim : Int, vs = [.int c, .int s, .int lim] ∧ c.natAbs < 2 ^ cap ∧ 0 ≤ s ∧ s ≤ 1000000000 ∧ 1 ≤ lim ∧ lim ≤ 1000000 ∧ ∀ d : Int, 0 ≤ d → d < lim → RetV (.int d) H Q
def spSrc : Sp := fun vs H Q _ => ∃ (p l0 : Addr) (lim : Int) (n : Nat), vs = [.ref p, .int lim] ∧ SrcAt H p l0 n ∧ n ≤ 100000000 ∧ 1 ≤ lim ∧ lim ≤ 1000000 ∧ ∀ (d : Int) (H' : Hp), 0 ≤ d → d < lim → SrcAt H' p l0 (n + 1) → Keep p H H' → Q (.int d) H'
theorem cutV_all {xs : List V} (h : xs.length ≤ 63) : cutV xs none (some 63) = xs := by
  unfold cutV
  rw [HT.sIx_none, show HT.sIx xs.length xs.length (some 63) = min 63 xs.length from HT.sIx_nat _ _ 63, List.drop_zero, Nat.sub_zero, Nat.min_eq_right h]
  exact List.take_of_length_le (Nat.le_refl _)
theorem sq_le {x b : Int} (h0 : 0 ≤ x) (h : x ≤ b) : x * x ≤ b * b := Int.mul_le_mul h h h0 (by omega)
end Z
set_option maxHeartbeats 4000000
namespace Z
open PySem PySem.Spec PyProof.Rows L2 TL Evl
/-! ### a bag of draws: a list whose first thing is the list l0 of cells, three numbers -/
def DwAt (H : Hp) (p l0 : Addr) : Prop := ∃ (cs : List Int) (c1 c2 c3 : Int), H p = some (.lst [.ref l0, .int c1, .int c2, .int c3]) ∧ H l0 = some (.lst (cs.map V.int)) ∧ l0 ≠ p ∧ cs.length ≤ 63 ∧ (∀ z ∈ cs, z.natAbs < 2 ^ cap) ∧ 0 ≤ c1 ∧ 0 ≤ c3 ∧ c3 < 2147483647
section
variable {H H' : Hp} {p l0 l : Addr} {o : HO}
theorem DwAt.ex (b : DwAt H p l0) (e : Ex H H') : DwAt H' p l0 := by
  obtain ⟨cs, c1, c2, c3, h, h2, r⟩ := b
  exact ⟨cs, c1, c2, c3, e _ _ h, e _ _ h2, r⟩
theorem DwAt.has (b : DwAt H p l0) : ∃ xs, H p = some (.lst xs) := by
  obtain ⟨cs, c1, c2, c3, h, r⟩ := b
  exact ⟨_, h⟩
theorem DwAt.has0 (b : DwAt H p l0) : ∃ xs, H l0 = some (.lst xs) := by
  obtain ⟨cs, c1, c2, c3, h, h2, r⟩ := b
  exact ⟨_, h2⟩
theorem DwAt.ne (b : DwAt H p l0) (h : H l = none) : l ≠ p ∧ l ≠ l0 := by
  obtain ⟨xs, g⟩ := b.has
  obtain ⟨ys, g2⟩ := b.has0
  exact ⟨(fun e => by rw [e, g] at h; cases h), (fun e => by rw [e, g2] at h; cases h)⟩
theorem DwAt.upd (b : DwAt H p l0) (h : l ≠ p ∧ l ≠ l0) : DwAt (upd H l o) p l0 := by
  obtain ⟨cs, c1, c2, c3, h1, h2, r⟩ := b
  exact ⟨cs, c1, c2, c3, by rw [upd_ne (Ne.symm h.1)]; exact h1, by rw [upd_ne (Ne.symm h.2)]; exact h2, r⟩
theorem Keep.freeB (a : Keep p H H') (b : DwAt H' p l0) (h : H' l = none) : H l = none := by
  obtain ⟨xs, g⟩ := b.has
  exact a.non g h
end
def spBagS (K : PySem.W.Frag) : Sp := fun vs H Q _ => ∃ (a : Addr) (ns : List Int), vs = [.ref a] ∧ SqL K H a (ns.map V.int) ∧ ns.length ≤ 63 ∧ (∀ z ∈ ns, z.natAbs < 2 ^ cap) ∧ ∀ (p l0 : Addr) (H' : Hp), H p = none → Ex H H' → DwAt H' p l0 → Q (.ref p) H'
def spTake : Sp := fun vs H Q _ => ∃ (p l0 : Addr) (lim : Int), vs = [.ref p, .int lim] ∧ DwAt H p l0 ∧ 1 ≤ lim ∧ lim ≤ 1000000 ∧ ∀ (d : Int) (H' : Hp), 0 ≤ d → d < lim → DwAt H' p l0 → Keep p H H' → Q (.int d) H'
/-! ### texts of marks -/
def mkS : Str := "abcdefghijklmnopqrstuvwxyz0123456789-."
def markB (z : Str) : Bool := (decide ((1 : Int) ≤ z.length) && decide ((z.length : Int) ≤ 40)) && allIn z mkS
def plS : Str := (" !\"#$&'()*+,-./0123456789:;<=>?@ABCDEFGHIJKLMNOPQRSTUVWXYZ[\\]^_`" : Str) ++ ("abcdefghijklmnopqrstuvwxyz{|}~" : Str)
def wrZ (z : Str) (b : Bool) : Str := (cond b ("w" : Str) "" ++ ("\"" : Str)) ++ z ++ ("\"" : Str)
def one (c : Nat) : Str := ⟨#[c]⟩
theorem one_len (c : Nat) : (one c).length = 1 := rfl
theorem tl_one (c : Nat) : tl (one c) = [c] := rfl
theorem markB_iff {z : Str} : markB z = true ↔ (1 ≤ z.length ∧ z.length ≤ 40) ∧ allIn z mkS = true := by
  unfold markB
  rw [Bool.and_eq_true, Bool.and_eq_true, decide_eq_true_eq, decide_eq_true_eq]
  constructor
  · rintro ⟨⟨h1, h2⟩, h3⟩
    exact ⟨⟨by omega, by omega⟩, h3⟩
  · rintro ⟨⟨h1, h2⟩, h3⟩
    exact ⟨⟨by omega, by omega⟩, h3⟩
theorem allIn_app (a b s : Str) : allIn (a ++ b) s = (allIn a s && allIn b s) := by
  unfold allIn
  rw [tl_append, List.all_append]
theorem allIn_sub {a b s : Str} (h : allIn b s = true) (hs : ∀ c ∈ tl a, c ∈ tl b) : allIn a s = true := by
  refine List.all_eq_true.mpr fun c hc => List.all_eq_true.mp h c (hs c hc)
theorem allIn_one {c : Nat} {s : Str} (h : c ∈ tl s) : allIn (one c) s = true := by
  refine List.all_eq_true.mpr fun d hd => ?_
  have : d = c := by
    have := List.mem_singleton.mp (show d ∈ [c] from hd)
    exact this
  rw [this]
  exact decide_eq_true h
theorem cut_mem {z : Str} {a b : Option Int} {c : Nat} (h : c ∈ tl (cutS z a b)) : c ∈ tl z := List.mem_of_mem_drop (List.mem_of_mem_take h)
theorem allIn_cut {z s : Str} (a b : Option Int) (h : allIn z s = true) : allIn (cutS z a b) s = true := allIn_sub h fun _ hc => cut_mem hc
/-- z[:i] + c + z[i + 1:] -/
theorem put_len {z : Str} {i : Nat} {c : Nat} (h : i < z.length) : (cutS z none (some (i : Int)) ++ one c ++ cutS z (some ((i : Int) + 1)) none).length = z.length := by
  have e : (i : Int) + 1 = ((i + 1 : Nat) : Int) := by omega
  rw [e, cutTo, cutFrom, Str.length_append, Str.length_append]
  have h1 : (preT z i).length = i := by
    show ((tl z).take i).toArray.size = i
    rw [List.size_toArray, List.length_take, len_tl']
    omega
  have h2 : (sufT z (i + 1)).length = z.length - (i + 1) := by
    show ((tl z).drop (i + 1)).toArray.size = _
    rw [List.size_toArray, List.length_drop, len_tl']
  rw [h1, h2, one_len]
  omega
theorem put_mark {z : Str} {i c : Nat} (h : markB z = true) (hi : i < z.length) (hc : c ∈ tl mkS) : markB (cutS z none (some (i : Int)) ++ one c ++ cutS z (some ((i : Int) + 1)) none) = true := by
  have h2 := markB_iff.mp h
  refine markB_iff.mpr ⟨by rw [put_len hi]; exact h2.1, ?_⟩
  rw [allIn_app, allIn_app, allIn_cut _ _ h2.2, allIn_cut _ _ h2.2, allIn_one hc]
  rfl
theorem wrZ_len (z : Str) (b : Bool) : (wrZ z b).length ≤ z.length + 3 := by
  unfold wrZ
  rw [Str.length_append, Str.length_append, Str.length_append]
  have h1 : (cond b ("w" : Str) "").length ≤ 1 := by cases b <;> decide +kernel
  have h2 : ("\"" : Str).length = 1 := by decide +kernel
  omega
theorem wrZ_pos (z : Str) (b : Bool) : 2 ≤ (wrZ z b).length := by
  unfold wrZ
  rw [Str.length_append, Str.length_append, Str.length_append]
  have h2 : ("\"" : Str).length = 1 := by decide +kernel
  omega
section
variable {K : PySem.W.Frag} {σ : L2.St} {H H' : Hp} {ta tb te to ts : TE} {a b s : Str} {n m k : Nat} {tlo thi : TO} {lo hi : Option Int} {i : Int}
theorem es_sl (h : EvS te σ H n) (h1 : EvO tlo σ H lo) (h2 : EvO thi σ H hi) (hz : n ≤ 100000) : EvS (tSl rSlS te tlo thi) σ H n := by
  obtain ⟨x, hx, ex⟩ := h
  exact ⟨cutS x lo hi, Nat.le_trans (cut_len x _ _) hx, ev_slS ex h1 h2 (by omega)⟩
theorem es_ev (h : Ev te σ H (.str a)) (hn : a.length ≤ n) : EvS te σ H n := ⟨a, hn, h⟩
def rUpper : V → List V → Hp → VK → Prop := fun x xs H Q => ∃ a, x = .str a ∧ xs = [] ∧ a.length ≤ 5592405 ∧ Q (.str (Txt.upper a)) H
end
end Z
namespace Z
open PySem PySem.Spec PyProof.Rows L2 TL Evl
section
variable {K : PySem.W.Frag} {σ : L2.St} {H : Hp} {ta tb tc : TE} {i j k : Int}
/-- a < b < c -/
theorem ev_chainL (ha : Ev ta σ H (.int i)) (hb : Ev tb σ H (.int j)) (hc : Ev tc σ H (.int k)) :
    Ev (tChain (rI0 fun i j => .bl (decide (i < j))) (rI0 fun i j => .bl (decide (i < j))) ta tb tc) σ H (.bl (decide (i < j) && decide (j < k))) := fun H1 e Q q =>
  ha H1 e _ fun H2 e2 => hb H2 (e.trans e2) _ fun H3 e3 => ⟨i, j, rfl, rfl, _, rfl, by
    cases h : decide (i < j) with
    | true =>
      refine iteT ?_
      refine hc H3 ((e.trans e2).trans e3) _ fun H4 e4 => ⟨j, k, rfl, rfl, ?_⟩
      have g := q H4 ((e2.trans e3).trans e4)
      rw [h] at g
      exact g
    | false =>
      refine iteF ?_
      have g := q H3 (e2.trans e3)
      rw [h] at g
      exact g⟩
end
end Z
set_option maxHeartbeats 4000000
namespace Z
open PySem PySem.Spec PyProof.Rows L2 TL Evl
/-! ### a written mark -/
def quo (z : Str) : Str := if decide (hd z = some 119) = true then rest z else z
def inn (q : Str) : Str := cutS q (some 1) (some (-1))
def qut (t : Str) : Str := ("\"" : Str) ++ t ++ ("\"" : Str)
def readZ (z : Str) : Option (Str × Bool) := if quo z = qut (inn (quo z)) ∧ markB (inn (quo z)) = true then some (inn (quo z), decide (hd z = some 119)) else none
theorem q34 : ("\"" : Str) = one 34 := by decide +kernel
theorem w119 : ("w" : Str) = one 119 := by decide +kernel
theorem inn_sub (q : Str) : tl (inn q) = ((tl q).drop (HT.sIx q.length 0 (some 1))).take (HT.sIx q.length q.length (some (-1)) - HT.sIx q.length 0 (some 1)) := rfl
theorem sx1 (n : Nat) : HT.sIx n 0 (some 1) = min 1 n := HT.sIx_nat n 0 1
theorem sxm (n : Nat) : HT.sIx n n (some (-1)) = n - 1 := by
  show (if (-1 : Int) < 0 then ((-1 : Int) + (n : Int)).toNat else min (-1 : Int).toNat n) = n - 1
  rw [if_pos (by decide)]
  omega
theorem inn_short {q : Str} (h : q.length < 3) : markB (inn q) = false := by
  cases e : markB (inn q) with
  | false => rfl
  | true =>
    have h1 := (markB_iff.mp e).1.1
    have h2 := congrArg List.length (inn_sub q)
    rw [len_tl', List.length_take, sx1, sxm] at h2
    omega
theorem split3 {l : List Nat} (h : 3 ≤ l.length) : ∃ a m b, l = a :: (m ++ [b]) := by
  cases l with
  | nil => cases h
  | cons a r =>
    have hr : r ≠ [] := by
      intro e
      rw [e, List.length_singleton] at h
      omega
    exact ⟨a, r.dropLast, r.getLast hr, by rw [List.dropLast_concat_getLast]⟩
theorem inn_mid {q : Str} {a b : Nat} {m : List Nat} (h : tl q = a :: (m ++ [b])) : tl (inn q) = m := by
  have hn : q.length = m.length + 2 := by
    rw [← len_tl', h, List.length_cons, List.length_append]
    rfl
  rw [inn_sub, sx1, sxm, h, Nat.min_eq_left (by omega)]
  show (m ++ [b]).take (q.length - 1 - 1) = m
  rw [show q.length - 1 - 1 = m.length by omega, List.take_left]
theorem qut_tl (t : Str) : tl (qut t) = 34 :: (tl t ++ [34]) := by
  unfold qut
  rw [q34, tl_append, tl_append, tl_one]
  rfl
theorem qut_iff {q : Str} {a b : Nat} {m : List Nat} (h : tl q = a :: (m ++ [b])) : q = qut (inn q) ↔ (a = 34 ∧ b = 34) := by
  have hm := inn_mid h
  constructor
  · intro e
    have e2 := congrArg tl e
    rw [h, qut_tl, hm] at e2
    injection e2 with e3 e4
    have e5 := List.append_cancel_left e4
    injection e5 with e6 _
    exact ⟨e3, e6⟩
  · rintro ⟨rfl, rfl⟩
    refine ext_tl ?_
    rw [qut_tl, hm, h]
theorem hd_q {q : Str} {a : Nat} {m : List Nat} (h : tl q = a :: m) : atI (tl q) 0 = some a := atI_nat (j := 0) (by rw [h]; rfl)
theorem last_q {q : Str} {a b : Nat} {m : List Nat} (h : tl q = a :: (m ++ [b])) : atI (tl q) (-1) = some b := by
  rw [h]
  exact atI_last (a :: m) b
theorem one34 (c : Nat) : decide (one c = ("\"" : Str)) = decide (c = 34) := by
  rw [q34]
  exact decide_eq_decide.mpr (one_eq c 34)
theorem quo_cut (z : Str) : cutS z (some (if decide (hd z = some 119) then 1 else 0)) none = quo z := by
  unfold quo
  cases h : decide (hd z = some 119) with
  | true =>
    rw [if_pos rfl, if_pos rfl]
    rfl
  | false =>
    rw [if_neg (by decide), if_neg (by decide)]
    have e : cutS z (some ((0 : Nat) : Int)) none = z := ext_tl (by rw [cutFrom_tl]; rfl)
    exact e
theorem quo_len (z : Str) : (quo z).length ≤ z.length := by
  unfold quo
  split
  · exact rest_len z
  · exact Nat.le_refl _
theorem inn_len (z : Str) : (inn z).length ≤ z.length := cut_len z _ _
theorem read_none {z : Str} (h : ¬ (quo z = qut (inn (quo z)) ∧ markB (inn (quo z)) = true)) : readZ z = none := if_neg h
theorem read_some {z : Str} (h : quo z = qut (inn (quo z)) ∧ markB (inn (quo z)) = true) : readZ z = some (inn (quo z), decide (hd z = some 119)) := if_pos h
theorem starts_w (z : Str) : Txt.startswith z "w" = decide (hd z = some 119) := by
  unfold Txt.startswith Builtin.Str.subAt
  rw [w119]
  show (decide (0 + 1 ≤ z.length) && (z.cps.extract 0 (0 + 1) == #[119])) = _
  have hx : (z.cps.extract 0 (0 + 1) == #[119]) = decide ((tl z).take 1 = [119]) := by
    have : (z.cps.extract 0 (0 + 1)).toList = (tl z).take 1 := by simp [tl]
    by_cases h : (tl z).take 1 = [119]
    · rw [decide_eq_true h]
      refine beq_iff_eq.mpr (Array.toList_inj.mp ?_)
      rw [this, h]
    · rw [decide_eq_false h]
      refine beq_eq_false_iff_ne.mpr fun e => h ?_
      rw [← this, e]
  rw [hx, len_tl]
  unfold hd
  cases e : tl z with
  | nil => rfl
  | cons a r =>
    have h1 : 0 + 1 ≤ (a :: r).length := by rw [List.length_cons]; omega
    rw [decide_eq_true h1, Bool.true_and]
    show decide ([a] = [119]) = decide (some a = some 119)
    by_cases h : a = 119
    · rw [h]; rfl
    · rw [decide_eq_false fun e => h (by cases e; rfl), decide_eq_false fun e => h (Option.some.inj e)]
/-- the written form of a good mark is read back -/
theorem read_wr {z : Str} {b : Bool} (h : markB z = true) : readZ (wrZ z b) = some (z, b) := by
  have ht : tl (wrZ z b) = (cond b [119] []) ++ (34 :: (tl z ++ [34])) := by
    unfold wrZ
    rw [q34, tl_append, tl_append, tl_append, tl_one]
    cases b with
    | true =>
      show ((tl ("w" : Str) ++ [34]) ++ tl z) ++ [34] = _
      rw [w119, tl_one]
      simp
    | false =>
      show ((tl ("" : Str) ++ [34]) ++ tl z) ++ [34] = _
      rw [tl_empty]
      simp
  have hw : decide (hd (wrZ z b) = some 119) = b := by
    unfold hd
    rw [ht]
    cases b <;> rfl
  have hq : tl (quo (wrZ z b)) = 34 :: (tl z ++ [34]) := by
    unfold quo
    rw [hw]
    cases b with
    | true =>
      rw [if_pos rfl]
      unfold rest
      rw [cutFrom1_tl, ht]
      rfl
    | false =>
      rw [if_neg (by decide), ht]
      rfl
  have hi : inn (quo (wrZ z b)) = z := ext_tl (inn_mid hq)
  have hc : quo (wrZ z b) = qut (inn (quo (wrZ z b))) ∧ markB (inn (quo (wrZ z b))) = true := ⟨(qut_iff hq).mpr ⟨rfl, rfl⟩, by rw [hi]; exact h⟩
  rw [read_some hc, hi, hw]
end Z
namespace Z
open PySem PySem.Spec PyProof.Rows L2 TL Evl
theorem ev_intB {b : Bool} {te : TE} {σ : L2.St} {H : Hp} (h : Ev te σ H (.bl b)) : Ev (tCB rInt1 (tCons te tNil)) σ H (.int (if b then 1 else 0)) := fun H1 e Q q => h H1 e _ fun H2 e2 => .inr ⟨b, rfl, q H2 e2⟩
end Z
set_option maxHeartbeats 2000000
namespace Z
open PySem PySem.Spec PyProof.Rows L2 TL
/-! ### defs with text.replace(y, z) -/
section
variable {P : Program} {w : World} {K : PySem.W.Frag} {mg : Str → Option Value} {base : Heap} {x : Str} {st : Stmt} {f : Addr} {fd : FuncData} {N ps : List Str} {k : Nat} {sp : Sp}
theorem mkT (F : FnP K x st f fd) (gm : mg x = some (.ref f))
    (hb : ∀ (kV doc pm : Value) (an : Option Addr) (cdv ct : Value) (us : List Value), us.length = ps.length → bindArgs (PySem.W.fnOf x x (L2.defArgs st) (L2.defBody st) (L2.defScope st) .none kV doc pm an cdv ct) ⟨us, []⟩ = pure (ps.zip us))
    (hk : ∀ (kV doc pm : Value) (an : Option Addr) (cdv ct : Value) (ws : List Value), ws.length = ps.length → bindArgs (PySem.W.fnOf x x (L2.defArgs st) (L2.defBody st) (L2.defScope st) .none kV doc pm an cdv ct) ⟨[], ps.zip ws⟩ = pure (ps.zip ws))
    (S : FnScope N ps (L2.defScope st)) (hnc : ∀ y ∈ (L2.defScope st).names, y.2 ≠ .cell) (hps : 1 ≤ ps.length) (len : ∀ vs H Q E, sp vs H Q E → vs.length = ps.length)
    (hbody : ∀ (cdv : Value) (A : Around) (outer : List Env) (s : Shared) (H : Hp) (vs : List V) (Q : VK) (E : XK), Room k (A.deeper (envOfC x (L2.defScope st) s.heap.objs.size f cdv)) → sp vs H Q E →
      ∃ t, PSsT (cxOf CX0 P w K mg base N x (L2.defScope st) f cdv A outer s H E) (L2.defBody st) t ∧ t { nx := fun _ H' => Q .non H', rt := Q } (start N vs) H) : Call P w K mg base (k + 1) x ps sp := by
  refine ⟨f, fd, ?_, gm, F.kp, F.bindsN hb, kbn F hk⟩
  obtain ⟨oc, od, dflt, kwd, doc, mod, ann, code, tp, osl, isFd, lk, hcd, none_given, _⟩ := F.ex
  rw [isFd] at lk ⊢
  exact L2.fn_ofT lk hcd S hnc hps len fun A outer s H vs Q E hr h => hbody code A outer s H vs Q E hr h
end
section
variable {X : Cx} {k j : Nat} {x : Str} {ps : List Str} {sp : Sp} {p pos : Pos} {e : Expr} {es : List Expr} {t : TA}
theorem pet_f (c : Call X.prog X.w X.K X.mg X.base k x ps sp) (hr : Room j X.A) (hk : k ≤ j) (hg : Gl X x) (ha : PAT X (e :: es) t)
    (hdb : (x == ("__debug__" : Str)) = false := by decide) (he : starEach (e :: es) X.env = (false, eval e X.env) :: starEach es X.env := by rfl) (hpl : (backTo pos (starEach es X.env)).any (·.1) = false := by rfl) :
    PET X (.Call (.Name x p) (e :: es) [] pos) (tCall sp [] E0 t) := by
  obtain ⟨f, fd, F, hm, kp, b, _⟩ := c.ex
  intro pins s σ H Q h0 I h
  refine wpAny_Call_Name_kw (ld_glob I hg hm ?_ hdb)
  refine PySem.W.callWith_K (h₀ := X.base) I.ok.mod.kin kp (thn (ha pos pins s σ H _ h0 I h) fun us s1 ⟨vs, H1, I1, r, q⟩ => ⟨I1.kIn, ?_⟩) he hpl
  exact run_fn F (hr.mono hk) b .nil pass0 I1 r q
end
end Z
set_option maxHeartbeats 2000000
namespace Z
open PySem PySem.Spec PyProof.Rows L2 TL Evl
/-! ### text.replace(one character, "") -/
def splN (n : Nat) : List Nat → List Nat → List (List Nat)
  | acc, [] => [acc]
  | acc, c :: r => if c = n then acc :: splN n [] r else splN n (acc ++ [c]) r
theorem spl_splN (n : Nat) : ∀ (l acc : List Nat), spl [n] 0 acc l = splN n acc l
  | [], acc => spl_nil _ _ _
  | c :: r, acc => by
    have hp : pre [n] (c :: r) = decide (c = n) := by
      show ([c] == [n]) = decide (c = n)
      by_cases h : c = n
      · rw [h, decide_eq_true rfl]; exact beq_self_eq_true _
      · rw [decide_eq_false h]
        exact beq_eq_false_iff_ne.mpr fun e => h (by cases e; rfl)
    show spl [n] 0 acc (c :: r) = if c = n then acc :: splN n [] r else splN n (acc ++ [c]) r
    by_cases h : c = n
    · rw [spl_hit (by rw [hp, decide_eq_true h]), if_pos h]
      show acc :: spl [n] 0 [] r = _
      rw [spl_splN n r []]
    · rw [spl_miss (by rw [hp, decide_eq_false h]), if_neg h]
      exact spl_splN n r (acc ++ [c])
theorem splN_flat (n : Nat) : ∀ (l acc : List Nat), (splN n acc l).flatten = acc ++ l.filter fun c => !decide (c = n)
  | [], acc => by
    show [acc].flatten = acc ++ []
    rw [List.append_nil]
    exact List.append_nil acc
  | c :: r, acc => by
    show (if c = n then acc :: splN n [] r else splN n (acc ++ [c]) r).flatten = _
    by_cases h : c = n
    · rw [if_pos h, List.flatten_cons, splN_flat n r [], List.filter_cons, decide_eq_true h]
      rfl
    · rw [if_neg h, splN_flat n r (acc ++ [c]), List.filter_cons, decide_eq_false h, List.append_assoc]
      rfl
theorem glued_tl (ps : List Str) : tl (Builtin.Str.glued "" ps) = (ps.map tl).flatten := by
  have key : ∀ (ps : List Str) (acc : Array Nat), (ps.foldl (fun (acc : Array Nat) (p : Str) => acc ++ ("" : Str).cps ++ p.cps) acc).toList = acc.toList ++ (ps.map tl).flatten := by
    intro ps
    induction ps with
    | nil => intro acc; simp
    | cons p r ih =>
      intro acc
      rw [List.foldl_cons, ih]
      simp only [Array.toList_append, List.map_cons, List.flatten_cons, List.append_assoc]
      have : ("" : Str).cps.toList = [] := by decide +kernel
      rw [this]
      rfl
  unfold Builtin.Str.glued
  show (((ps.drop 1).foldl (fun acc p => acc ++ ("" : Str).cps ++ p.cps) (ps.headD Str.empty).cps)).toList = _
  rw [key]
  cases ps with
  | nil => rfl
  | cons p r => rfl
theorem replace_glued (x : Str) : Txt.replace x "\n" "" = Builtin.Str.glued "" (Txt.split x "\n") := by
  by_cases hx : x.length < 1
  · have e : x = Str.empty := by
      obtain ⟨a⟩ := x
      have h0 : a.size = 0 := by
        have : a.size < 1 := hx
        omega
      have : a = #[] := Array.eq_empty_of_size_eq_zero h0
      rw [this]
      rfl
    rw [e]
    decide +kernel
  · unfold Txt.replace Txt.split
    have h1 : ("\n" : Str).length = 1 := by decide +kernel
    have hk : ¬ Builtin.Str.strKind x < Builtin.Str.strKind ("\n" : Str) := kind_ok (by decide +kernel)
    rw [h1, decide_eq_false hx, decide_eq_false hk]
    cases h : (Builtin.Str.occurrences x "\n" 0 x.length (x.length + 1)).isEmpty
    · rfl
    · rfl
theorem nl_tl : tl ("\n" : Str) = [10] := by decide +kernel
theorem replace_nl (z : Str) : tl (Txt.replace z "\n" "") = (tl z).filter fun c => !decide (c = 10) := by
  rw [replace_glued z, glued_tl, split_spl z "\n" (by rw [nl_tl]; simp) (kind_ok (by decide +kernel)), nl_tl, spl_splN, splN_flat]
  rfl
def linesB (z : Str) : Bool := (tl z).all fun c => decide (c = 10) || decide (c ∈ tl signs)
theorem lines_eq (z : Str) : allIn (Txt.replace z "\n" "") signs = linesB z := by
  unfold allIn linesB
  rw [replace_nl, Bool.eq_iff_iff, List.all_eq_true, List.all_eq_true]
  constructor
  · intro h c hc
    by_cases e : c = 10
    · rw [e]; rfl
    · rw [decide_eq_false e, Bool.false_or]
      exact h c (List.mem_filter.mpr ⟨hc, by rw [decide_eq_false e]; rfl⟩)
  · intro h c hc
    obtain ⟨h1, h2⟩ := List.mem_filter.mp hc
    have := h c h1
    rw [Bool.not_eq_true'] at h2
    rw [h2, Bool.false_or] at this
    exact this
end Z
set_option maxHeartbeats 2000000
namespace ZX
open PySem PySem.Spec PyProof.Rows L2
/-! ### C(e, ..) in an except suite; a statement that is never reached -/
theorem ps_never {X : Cx} {st : Stmt} : PS X st (fun _ _ _ => False) := ⟨fun pins s σ H D I h => h.elim⟩
section
variable {X : Cx} {CX : CXT} {k : Nat} {C f : Addr} {fd : FuncData} {ps : List Str} {sp : Sp} {E : XK} {e : Expr} {es : List Expr} {x : Str} {pos p : Pos} {t : TA} {dvs : List V} {ds : List Value}
theorem run_makeH {pins : List (Addr × Obj)} {σ : L2.St} {H : Hp} {s : Shared} {Q : VK} {us : List Value} {vs : List V} (M : Mk X.K C f) (F : L2H.FnH X.prog X.w X.K X.mg X.base CX k f fd ps sp) (hr : L2H.RoomH (k + 1) X.A) (hc : L2H.HotC X) (hb : Binds X.K fd ps ds) (hd : Vals dvs ds)
    (hx : Passes CX X E) (I : Inv X pins σ H s) (r : Vals vs us)
    (h : ∀ x dx, H x = none → H dx = none → dx ≠ x → sp (.ref x :: (vs ++ dvs)) (upd (upd H dx (.own x)) x (.ins C dx [])) (fun v H2 => v = .non ∧ Q (.ref x) H2) E) :
    wpAny (model X.prog X.w) X.A (call (.ref C) us) (EP X pins σ Q) X.xe s := by
  have hq := h (s.heap.objs.size + 1) s.heap.objs.size (I.hok.fresh (Nat.le_succ _)) (I.hok.fresh (Nat.le_refl _)) (Nat.ne_of_lt (Nat.lt_succ_self _))
  have I2 := Inv.made (C := C) I
  obtain ⟨pn, hot, hp⟩ := hc
  have P1 := I2.pin pn (List.mem_append_left _ hp)
  have r2 : Vals (V.ref (s.heap.objs.size + 1) :: (vs ++ dvs)) (Value.ref (s.heap.objs.size + 1) :: (us ++ ds)) := .cons rfl (r.append hd)
  have hl : (Value.ref (s.heap.objs.size + 1) :: us ++ ds).length = ps.length := by
    have e := r2.length
    rw [F.len _ _ _ _ hq] at e
    exact e.symm
  refine wpAny_call (make_map (f := f) I.kIn M.makes M.init (beq_iff_eq.mp M.fn) (codeAny_mono (F.run _ X.stack _ _ ⟨Value.ref (s.heap.objs.size + 1) :: us, []⟩ (Value.ref (s.heap.objs.size + 1) :: (us ++ ds)) _ _ E pn
    ⟨by have := hr.dp; rw [make_depth]; omega, by have := hr.un; rw [make_units]; omega⟩ hot ⟨P1.1, P1.2.1, fun hm => (List.mem_cons.mp (I2.stkSub pn.1 hm)).elim P1.2.2.1 P1.2.2.2.1, P1.2.2.2.2⟩
    (I2.env0.make C us []) (hb _ (Value.ref (s.heap.objs.size + 1) :: us) I2.kIn hl) r2 hq) fun r s' hq' => ?_))
  cases r with
  | error e => exact hx pins σ _ _ e s' I2 hq'
  | ok fl =>
    cases fl with
    | ret u =>
      obtain ⟨v, H', I3, rv, ev, q3⟩ := I2.after hq'
      subst ev
      exact ⟨rv, ⟨V.ref (s.heap.objs.size + 1), H', I3, rfl, q3⟩⟩
    | next => exact False.elim hq'
    | brk => exact False.elim hq'
    | cont => exact False.elim hq'
theorem pe_makeH (M : Mk X.K C f) (F : L2H.FnH X.prog X.w X.K X.mg X.base CX k f fd ps sp) (hr : L2H.RoomH (k + 1) X.A) (hc : L2H.HotC X) (hg : Gl X x) (hm : X.mg x = some (.ref C)) (hb : Binds X.K fd ps ds) (hd : Vals dvs ds) (hx : Passes CX X E)
    (ha : PA X (e :: es) t) (hdb : (x == ("__debug__" : Str)) = false := by decide) (he : starEach (e :: es) X.env = (false, eval e X.env) :: starEach es X.env := by rfl) (hpl : (backTo pos (starEach es X.env)).any (·.1) = false := by rfl) :
    PE X (.Call (.Name x p) (e :: es) [] pos) (tMake C sp dvs E t) := by
  refine ⟨fun pins s σ H Q I h => ?_⟩
  refine wpAny_Call_Name_kw (ld_glob I hg hm ?_ hdb)
  refine PySem.W.callWith_K (h₀ := X.base) I.ok.mod.kin M.kp (thn (ha.run pos pins s σ H _ I h) fun us s1 ⟨vs, H1, I1, r, q⟩ => ⟨I1.kIn, ?_⟩) he hpl
  exact run_makeH M F hr hc hb hd hx I1 r q
end
end ZX
set_option maxHeartbeats 2000000
namespace Z
open PySem PySem.Spec PyProof.Rows L2 TL Evl PySem.Builtin.Str
/-! ### stripped texts -/
theorem getD_tl {z : Str} {k : Nat} (hk : k < z.length) : (tl z)[k]? = some (z.cps.getD k 0) := by
  have hl : k < (tl z).length := by rw [len_tl']; exact hk
  rw [List.getElem?_eq_getElem hl, ← getD_list, List.getD_eq_getElem?_getD]
  show some (z.cps.toList[k]'hl) = some (z.cps.toList[k]?.getD 0)
  rw [List.getElem?_eq_getElem hl]
  rfl
theorem strip_self {w s : Str} (h0 : ∀ c, (tl w)[0]? = some c → c ∉ tl s) (h1 : ∀ c, (tl w)[w.length - 1]? = some c → c ∉ tl s) : Txt.stripChars w s = w := by
  have e0 : Txt.stripChars w s = strSub w (stripLo s.cps.contains true w) (stripHi s.cps.contains true w (stripLo s.cps.contains true w)) := stripBy_eq _ _ _ _
  obtain ⟨l1, l2, l3⟩ := lo_facts s.cps.contains w
  obtain ⟨a1, a2, a3, a4⟩ := hi_facts s.cps.contains w _ l1
  generalize hlo : stripLo s.cps.contains true w = lo at *
  generalize hhi : stripHi s.cps.contains true w lo = hi at *
  have hlen : (tl w).length = w.length := len_tl' w
  have no : ∀ k, k < w.length → s.cps.contains (w.cps.getD k 0) = true → ¬ (w.cps.getD k 0 ∉ tl s) := fun k hk h h2 => by
    rw [contains_mem] at h
    exact h2 (of_decide_eq_true h)
  have z1 : lo = 0 := by
    by_cases h : lo = 0
    · exact h
    · exact absurd (h0 _ (getD_tl (by omega))) (no 0 (by omega) (l2 0 (by omega)))
  have z2 : hi = w.length := by
    by_cases h : hi = w.length
    · exact h
    · exact absurd (h1 _ (getD_tl (by omega))) (no (w.length - 1) (by omega) (a3 (w.length - 1) (by omega) (by omega)))
  refine ext_tl ?_
  rw [e0, tl_strSub, z1, z2, List.drop_zero, Nat.sub_zero, ← hlen, List.take_length]
theorem strip_ends (z s : Str) : (∀ c, (tl (Txt.stripChars z s))[0]? = some c → c ∉ tl s) ∧ ∀ c, (tl (Txt.stripChars z s))[(Txt.stripChars z s).length - 1]? = some c → c ∉ tl s := by
  have e0 : Txt.stripChars z s = strSub z (stripLo s.cps.contains true z) (stripHi s.cps.contains true z (stripLo s.cps.contains true z)) := stripBy_eq _ _ _ _
  obtain ⟨l1, l2, l3⟩ := lo_facts s.cps.contains z
  obtain ⟨h1, h2, h3, h4⟩ := hi_facts s.cps.contains z _ l1
  generalize hlo : stripLo s.cps.contains true z = lo at *
  generalize hhi : stripHi s.cps.contains true z lo = hi at *
  have hlen : (tl z).length = z.length := len_tl' z
  have e1 : tl (Txt.stripChars z s) = ((tl z).drop lo).take (hi - lo) := by rw [e0]; exact tl_strSub _ _ _
  have el : (Txt.stripChars z s).length = hi - lo := by
    rw [← len_tl', e1, List.length_take, List.length_drop, hlen]
    omega
  have gt : ∀ k c, k < hi - lo → (tl (Txt.stripChars z s))[k]? = some c → c = z.cps.getD (lo + k) 0 := fun k c hk h => by
    rw [e1, List.getElem?_take, if_pos hk, List.getElem?_drop, getD_tl (by omega)] at h
    exact (Option.some.inj h).symm
  constructor
  · intro c hc
    have hk : 0 < hi - lo := by
      have := (List.getElem?_eq_some_iff.mp hc).1
      rw [len_tl', el] at this
      exact this
    have := gt 0 c hk hc
    rw [Nat.add_zero] at this
    rcases l3 with h | h
    · omega
    · intro hm
      rw [this] at hm
      rw [contains_mem, decide_eq_true hm] at h
      cases h
  · intro c hc
    rw [el] at hc
    have hk : 0 < hi - lo := by
      have := (List.getElem?_eq_some_iff.mp hc).1
      rw [len_tl', el] at this
      omega
    have := gt (hi - lo - 1) c (by omega) hc
    rw [show lo + (hi - lo - 1) = hi - 1 by omega] at this
    rcases h4 with h | h
    · omega
    · intro hm
      rw [this] at hm
      rw [contains_mem, decide_eq_true hm] at h
      cases h
theorem strip_idem (z s : Str) : Txt.stripChars (Txt.stripChars z s) s = Txt.stripChars z s := strip_self (strip_ends z s).1 (strip_ends z s).2
end Z
set_option maxHeartbeats 4000000
namespace Z
open PySem PySem.Spec PyProof.Rows L2 TL Evl
/-! ### whole numbers or None -/
def oI : Option Int → V
  | none => .non
  | some i => .int i
theorem oI_non {o : Option Int} : decide (oI o = .non) = o.isNone := by
  cases o with
  | none => rfl
  | some i => exact decide_eq_false fun h => nomatch h
def numO (z : Str) : Option Int := if digB z = true then some ((NumText.digitsVal (tl z) : Nat) : Int) else none
theorem numV_oI (z : Str) : numV z = oI (numO z) := by
  unfold numV numO
  cases h : digB z with
  | true => rfl
  | false => rfl
theorem neg_tl (n : Nat) : tl (PySem.Str.ofString (toString (Int.negSucc n))) = 45 :: numL (n + 1) := by
  have e : toString (Int.negSucc n) = "-" ++ toString (n + 1) := rfl
  rw [e, PySem.Str.ofString_eq_toList]
  show (String.toList ("-" ++ toString (n + 1))).map Char.toNat = _
  rw [String.toList_append, List.map_append]
  have h2 := tl_num (n + 1)
  rw [PySem.Str.ofString_eq_toList] at h2
  have h2 : (String.toList (toString (n + 1))).map Char.toNat = numL (n + 1) := h2
  rw [h2]
  rfl
theorem num_head : ∀ n : Nat, 1 ≤ n → ∃ c r, numL n = c :: r ∧ c ≠ 48 := by
  intro n
  induction n using Nat.strongRecOn with
  | _ n ih =>
    intro h
    by_cases h1 : n < 10
    · exact ⟨48 + n, [], numL_lt h1, by omega⟩
    · obtain ⟨c, r, h2, h3⟩ := ih (n / 10) (by omega) (by omega)
      exact ⟨c, r ++ [48 + n % 10], by rw [numL_step (by omega), h2]; rfl, h3⟩
theorem dig_mem {c : Nat} (h1 : 48 ≤ c) (h2 : c ≤ 57) : c ∈ tl ("0123456789" : Str) := by
  have k : ∀ i < 10, 48 + i ∈ tl ("0123456789" : Str) := by decide +kernel
  have := k (c - 48) (by omega)
  rwa [show 48 + (c - 48) = c by omega] at this
theorem num_dig {n : Nat} (h : n < 10 ^ 6) {z : Str} (hz : tl z = numL n) : digB z = true := by
  have hl : z.length ≤ 6 := by rw [len_tl, hz]; exact numL_len (by decide) h
  have hp : 1 ≤ z.length := by rw [len_tl, hz]; exact List.length_pos_iff.mpr (numL_ne n)
  unfold digB
  rw [decide_eq_true (by omega), decide_eq_true (by omega), Bool.true_and, Bool.true_and, Bool.and_eq_true]
  refine ⟨List.all_eq_true.mpr fun c hc => decide_eq_true ?_, ?_⟩
  · rw [hz] at hc
    have := numL_digits n c hc
    exact dig_mem this.1 this.2
  · rw [Bool.or_eq_true, decide_eq_true_eq, Bool.not_eq_true', decide_eq_false_iff_not]
    by_cases h1 : n < 10
    · left
      rw [len_tl, hz, numL_lt h1]
      rfl
    · right
      obtain ⟨c, r, h2, h3⟩ := num_head n (by omega)
      unfold hd
      rw [hz, h2]
      intro e
      exact h3 (Option.some.inj e)

theorem numO_num {i : Int} (h0 : 0 ≤ i) (h1 : i ≤ 999999) : numO (PySem.Str.ofString (toString i)) = some i := by
  cases i with
  | negSucc n => exact absurd h0 (by omega)
  | ofNat n =>
    have h1 : (n : Int) ≤ 999999 := h1
    have hz : tl (PySem.Str.ofString (toString (Int.ofNat n))) = numL n := tl_num n
    unfold numO
    rw [if_pos (num_dig (by omega) hz), hz, numL_val]
    rfl
theorem num_len {i : Int} (h0 : 0 ≤ i) (h1 : i ≤ 999999) : 1 ≤ (PySem.Str.ofString (toString i)).length ∧ (PySem.Str.ofString (toString i)).length ≤ 6 := by
  cases i with
  | negSucc n => exact absurd h0 (by omega)
  | ofNat n =>
    have h1 : (n : Int) ≤ 999999 := h1
    have hz : tl (PySem.Str.ofString (toString (Int.ofNat n))) = numL n := tl_num n
    rw [len_tl, hz]
    exact ⟨List.length_pos_iff.mpr (numL_ne n), numL_len (by decide) (by omega)⟩
theorem num_digs {i : Int} (h0 : 0 ≤ i) (h1 : i ≤ 999999) : ∀ c ∈ tl (PySem.Str.ofString (toString i)), 48 ≤ c ∧ c ≤ 57 := by
  cases i with
  | negSucc n => exact absurd h0 (by omega)
  | ofNat n =>
    have hz : tl (PySem.Str.ofString (toString (Int.ofNat n))) = numL n := tl_num n
    rw [hz]
    exact numL_digits n
/-! ### the least of numbers -/
def minL : List Int → Option Int
  | [] => none
  | x :: r => match minL r with
    | none => some x
    | some y => some (if y < x then y else x)
theorem minL_some : ∀ {ns : List Int} {m : Int}, m ∈ ns → (∀ y ∈ ns, m ≤ y) → minL ns = some m
  | [], _, h, _ => nomatch h
  | x :: r, m, h, hm => by
    unfold minL
    rcases List.mem_cons.mp h with rfl | h
    · cases e : minL r with
      | none => rfl
      | some y =>
        have hy : y ∈ r := by
          clear hm h
          induction r generalizing y with
          | nil => cases e
          | cons z t ih =>
            unfold minL at e
            cases e2 : minL t with
            | none =>
              rw [e2] at e
              cases e
              exact List.mem_cons_self
            | some w =>
              rw [e2] at e
              have e := Option.some.inj e
              by_cases hw : w < z
              · rw [if_pos hw] at e
                rw [← e]
                exact List.mem_cons_of_mem _ (ih w e2)
              · rw [if_neg hw] at e
                rw [← e]
                exact List.mem_cons_self
        have := hm y (List.mem_cons_of_mem _ hy)
        show some (if y < m then y else m) = some m
        rw [if_neg (by omega)]
    · rw [minL_some h fun y hy => hm y (List.mem_cons_of_mem _ hy)]
      have := hm x List.mem_cons_self
      show some (if m < x then m else x) = some m
      by_cases e : m < x
      · rw [if_pos e]
      · rw [if_neg e, show x = m by omega]
theorem minL_none {ns : List Int} (h : ns = []) : minL ns = none := by rw [h]; rfl
/-! ### directives of elements -/
def sgn (nm : Str) : Str := nm ++ "="
def dirs (nm : Str) (ps : List Str) : List (Option Int) := (ps.filter fun p => Txt.startswith p (sgn nm)).map fun p => numO (Txt.removeprefix p (sgn nm))
def nums (nm : Str) (ps : List Str) : List Int := (dirs nm ps).filterMap id
def leastO (nm : Str) (ps : List Str) : Option Int := minL (nums nm ps)
def noNum (nm p : Str) : Bool := Txt.startswith p (sgn nm) && (numO (Txt.removeprefix p (sgn nm))).isNone
def lifeO (nm : Str) (ps : List Str) : Option Int := if (decide (nm ∈ ps) || ps.any (noNum nm)) = true then some 0 else leastO nm ps
theorem dirs_app (nm : Str) (a b : List Str) : dirs nm (a ++ b) = dirs nm a ++ dirs nm b := by
  unfold dirs
  rw [List.filter_append, List.map_append]
theorem nums_app (nm : Str) (a b : List Str) : nums nm (a ++ b) = nums nm a ++ nums nm b := by
  unfold nums
  rw [dirs_app, List.filterMap_append]
theorem keep_ints (os : List (Option Int)) : (os.filter fun o => !decide (oI o = .non)).map oI = (os.filterMap id).map V.int := by
  induction os with
  | nil => rfl
  | cons o r ih =>
    rw [List.filter_cons, List.filterMap_cons]
    cases o with
    | none => exact ih
    | some i =>
      show (some i :: r.filter _).map oI = _
      rw [List.map_cons, ih]
      rfl
theorem at_oI {xs : List (Option Int)} {i : Nat} {x : V} (h : (xs.map oI)[i]? = some x) : i < xs.length ∧ x = oI (xs.getD i none) := by
  rw [List.getElem?_map] at h
  cases e : xs[i]? with
  | none => rw [e] at h; cases h
  | some a =>
    rw [e] at h
    cases h
    have : xs.getD i none = a := by rw [List.getD_eq_getElem?_getD, e]; rfl
    exact ⟨(List.getElem?_eq_some_iff.mp e).1, by rw [this]⟩
theorem inV_strs (z : Str) : ∀ ns : List Str, inV (.str z) (ns.map V.str) = decide (z ∈ ns)
  | [] => rfl
  | n :: r => by
    have ih := inV_strs z r
    unfold inV at ih ⊢
    rw [List.map_cons, List.any_cons, ih]
    by_cases h : z = n
    · subst h
      rw [decide_eq_true (List.mem_cons_self)]
      simp [eqV]
    · have e1 : eqV (.str n) (.str z) = false := by
        show (n == z) = false
        exact beq_eq_false_iff_ne.mpr fun e => h e.symm
      have e2 : decide (z ∈ n :: r) = decide (z ∈ r) := decide_eq_decide.mpr ⟨fun q => (List.mem_cons.mp q).resolve_left h, List.mem_cons_of_mem _⟩
      rw [e2]
      exact (Bool.or_eq_right_iff_imp.mpr fun q => absurd (e1 ▸ q) Bool.false_ne_true)
theorem flatS : ∀ ns : List Str, (ns.map V.str).all flatV = true
  | [] => rfl
  | _ :: r => by rw [List.map_cons, List.all_cons, flatS r]; rfl
end Z
set_option maxHeartbeats 4000000
namespace Z
open PySem PySem.Spec PyProof.Rows L2 TL Evl PySem.Builtin.Str
/-! ### what a text begins with -/
theorem starts_tl (p s : Str) : Txt.startswith p s = decide ((tl p).take (tl s).length = tl s) := by
  unfold Txt.startswith Builtin.Str.subAt
  have hx : (p.cps.extract 0 (0 + s.length) == s.cps) = decide ((tl p).take s.length = tl s) := by
    have e : (p.cps.extract 0 (0 + s.length)).toList = (tl p).take s.length := by simp [tl]
    by_cases h : (tl p).take s.length = tl s
    · rw [decide_eq_true h]
      exact beq_iff_eq.mpr (Array.toList_inj.mp (e.trans h))
    · rw [decide_eq_false h]
      exact beq_eq_false_iff_ne.mpr fun q => h (e.symm.trans (congrArg Array.toList q))
  rw [hx, ← len_tl s]
  by_cases h : (tl p).take s.length = tl s
  · have := congrArg List.length h
    rw [List.length_take, ← len_tl s, ← len_tl p] at this
    rw [decide_eq_true h, decide_eq_true (show 0 + s.length ≤ p.length by omega)]
    rfl
  · rw [decide_eq_false h, Bool.and_false]
theorem starts_own (a x : Str) : Txt.startswith (a ++ x) a = true := by
  rw [starts_tl, tl_append]
  exact decide_eq_true (List.take_left)
theorem rmp_own (a x : Str) : Txt.removeprefix (a ++ x) a = x := by
  have h := starts_own a x
  unfold Txt.startswith at h
  obtain ⟨h1, h2⟩ := Bool.and_eq_true_iff.mp h
  unfold Txt.removeprefix
  rw [if_pos h2]
  show (if ((a ++ x).length - a.length == (a ++ x).length) = true then (a ++ x) else strSub (a ++ x) a.length (a ++ x).length) = x
  have hl : (a ++ x).length = a.length + x.length := Str.length_append ..
  split
  · rename_i q
    have q := beq_iff_eq.mp q
    have h0 : a.length = 0 ∨ x.length = 0 := by omega
    refine ext_tl ?_
    rw [tl_append]
    have z : tl a = [] := by
      apply List.eq_nil_of_length_eq_zero
      rw [← len_tl]
      rw [hl] at q
      omega
    rw [z]
    rfl
  · refine ext_tl ?_
    rw [tl_strSub, tl_append, hl, len_tl a, List.drop_left, Nat.add_sub_cancel_left, len_tl x, List.take_length]
def apart : List Nat → List Nat → Bool
  | x :: a, y :: b => !decide (x = y) || apart a b
  | _, _ => false
theorem apart_no : ∀ {a b : List Nat} (c : List Nat), apart a b = true → ¬ (a ++ c).take b.length = b
  | [], _, _, h, _ => by cases h
  | _ :: _, [], _, h, _ => by cases h
  | x :: a, y :: b, c, h, e => by
    rw [List.cons_append, List.length_cons, List.take_succ_cons] at e
    obtain ⟨e1, e2⟩ := List.cons.inj e
    have h : (!decide (x = y) || apart a b) = true := h
    rw [decide_eq_true e1] at h
    exact apart_no c h e2
theorem starts_apart {a s : Str} (x : Str) (h : apart (tl a) (tl s) = true) : Txt.startswith (a ++ x) s = false := by
  rw [starts_tl, tl_append]
  exact decide_eq_false (apart_no _ h)
theorem nums_own {nm x : Str} {i : Int} (h : numO x = some i) : nums nm [sgn nm ++ x] = [i] := by
  unfold nums dirs
  rw [List.filter_cons, if_pos (starts_own _ _)]
  show (List.filterMap id [numO (Txt.removeprefix (sgn nm ++ x) (sgn nm))]) = _
  rw [rmp_own, h]
  rfl
theorem nums_apart {nm a : Str} (x : Str) (h : apart (tl a) (tl (sgn nm)) = true) : nums nm [a ++ x] = [] := by
  unfold nums dirs
  rw [List.filter_cons, if_neg (by rw [starts_apart x h]; decide)]
  rfl
/-! ### a list of elements, joined and cut -/
structure GoodE (p : Str) : Prop where
  hd : ∃ c, (tl p)[0]? = some c ∧ c ≠ 32
  last : ∀ c, (tl p)[p.length - 1]? = some c → c ≠ 32
  no : 44 ∉ tl p
theorem sp_tl : tl (" " : Str) = [32] := by decide +kernel
theorem cs_tl : tl (", " : Str) = [44, 32] := by decide +kernel
theorem GoodE.strip {p : Str} (h : GoodE p) : Txt.stripChars p " " = p := by
  obtain ⟨c, h1, h2⟩ := h.hd
  refine strip_self (fun d hd => ?_) (fun d hd => ?_)
  · rw [h1] at hd
    rw [sp_tl, ← Option.some.inj hd]
    simpa using h2
  · rw [sp_tl]
    simpa using h.last d hd
theorem GoodE.ne {p : Str} (h : GoodE p) : p ≠ "" := fun e => by
  obtain ⟨c, h1, _⟩ := h.hd
  rw [e] at h1
  have : tl ("" : Str) = [] := tl_empty
  rw [this] at h1
  cases h1
theorem GoodE.strip1 {p : Str} (h : GoodE p) : Txt.stripChars (S' (32 :: tl p)) " " = p := by
  obtain ⟨c, g1, g2⟩ := h.hd
  have hp : 1 ≤ p.length := by
    rw [len_tl]
    have := (List.getElem?_eq_some_iff.mp g1).1
    omega
  generalize hw : S' (32 :: tl p) = w
  have tw : tl w = 32 :: tl p := by rw [← hw]; rfl
  have lw : w.length = p.length + 1 := by rw [len_tl, tw, List.length_cons, ← len_tl]
  have e0 : Txt.stripChars w " " = strSub w (stripLo (" " : Str).cps.contains true w) (stripHi (" " : Str).cps.contains true w (stripLo (" " : Str).cps.contains true w)) := stripBy_eq _ _ _ _
  obtain ⟨l1, l2, l3⟩ := lo_facts (" " : Str).cps.contains w
  obtain ⟨a1, a2, a3, a4⟩ := hi_facts (" " : Str).cps.contains w _ l1
  generalize hlo : stripLo (" " : Str).cps.contains true w = lo at *
  generalize hhi : stripHi (" " : Str).cps.contains true w lo = hi at *
  have at' : ∀ k, k < w.length → (tl w)[k]? = some (w.cps.getD k 0) := fun k hk => getD_tl hk
  have ct : ∀ k, (" " : Str).cps.contains (w.cps.getD k 0) = decide (w.cps.getD k 0 = 32) := fun k => by
    rw [contains_mem, sp_tl]
    exact decide_eq_decide.mpr (by simp)
  have w0 : w.cps.getD 0 0 = 32 := by
    have := at' 0 (by omega)
    rw [tw] at this
    exact (Option.some.inj this).symm
  have w1 : w.cps.getD 1 0 = c := by
    have := at' 1 (by omega)
    rw [tw, List.getElem?_cons_succ, g1] at this
    exact (Option.some.inj this).symm
  have z1 : lo = 1 := by
    rcases Nat.lt_or_ge lo 1 with h0 | h0
    · have : lo = 0 := by omega
      rcases l3 with q | q
      · omega
      · rw [this, ct, w0] at q
        exact absurd q (by decide)
    · rcases Nat.lt_or_ge 1 lo with h1 | h1
      · have := l2 1 h1
        rw [ct, w1] at this
        exact absurd (of_decide_eq_true this) g2
      · omega
  have z2 : hi = w.length := by
    by_cases q : hi = w.length
    · exact q
    · have k := a3 (w.length - 1) (by omega) (by omega)
      rw [ct] at k
      have k2 := at' (w.length - 1) (by omega)
      rw [of_decide_eq_true k, tw, lw, show p.length + 1 - 1 = (p.length - 1) + 1 by omega, List.getElem?_cons_succ] at k2
      exact absurd rfl (h.last 32 k2)
  refine ext_tl ?_
  rw [e0, tl_strSub, z1, z2, tw, lw]
  show ((tl p).take (p.length + 1 - 1)) = tl p
  rw [Nat.add_sub_cancel, len_tl, List.take_length]
theorem glue_tl (sep : Str) : ∀ (r : List Str) (acc : Array Nat), (r.foldl (fun (acc : Array Nat) (p : Str) => acc ++ sep.cps ++ p.cps) acc).toList = acc.toList ++ r.flatMap fun q => tl sep ++ tl q
  | [], acc => by simp
  | p :: r, acc => by
    rw [List.foldl_cons, glue_tl sep r, List.flatMap_cons]
    simp [tl, List.append_assoc]
theorem join_tl (sep p : Str) (r : List Str) : tl (Txt.join sep (p :: r)) = tl p ++ r.flatMap fun q => tl sep ++ tl q := glue_tl sep r p.cps
theorem splC_app : ∀ (a acc l : List Nat), 44 ∉ a → splC acc (a ++ l) = splC (acc ++ a) l
  | [], acc, l, _ => by rw [List.append_nil]; rfl
  | c :: r, acc, l, h => by
    have hc : c ≠ 44 := fun e => h (by rw [e]; exact List.mem_cons_self)
    show (if c = 44 then acc :: splC [] (r ++ l) else splC (acc ++ [c]) (r ++ l)) = _
    rw [if_neg hc, splC_app r (acc ++ [c]) l fun q => h (List.mem_cons_of_mem _ q), List.append_assoc]
    rfl
theorem splC_joined : ∀ (r : List Str) (acc : List Nat), (∀ q ∈ r, 44 ∉ tl q) → splC acc (r.flatMap fun q => [44, 32] ++ tl q) = acc :: r.map fun q => 32 :: tl q
  | [], acc, _ => rfl
  | q :: r, acc, h => by
    rw [List.flatMap_cons, List.map_cons]
    show (if (44 : Nat) = 44 then acc :: splC [] (32 :: (tl q ++ r.flatMap fun q => [44, 32] ++ tl q)) else _) = _
    rw [if_pos rfl]
    have e := splC_app (32 :: tl q) [] (r.flatMap fun q => [44, 32] ++ tl q) fun z => by
      rcases List.mem_cons.mp z with z | z
      · cases z
      · exact h q List.mem_cons_self z
    rw [List.cons_append] at e
    rw [e, List.nil_append, splC_joined r _ fun x hx => h x (List.mem_cons_of_mem _ hx)]
theorem elems_join {ps : List Str} (h : ∀ p ∈ ps, GoodE p) : elems (Txt.join ", " ps) = ps := by
  cases ps with
  | nil => decide +kernel
  | cons p r =>
    unfold elems stripped
    rw [split_eq, join_tl, cs_tl]
    have hp := h p List.mem_cons_self
    rw [splC_app _ _ _ hp.no, List.nil_append, splC_joined r _ fun q hq => (h q (List.mem_cons_of_mem _ hq)).no]
    have e1 : (((tl p :: r.map fun q => 32 :: tl q).map S').map fun q => Txt.stripChars q " ") = p :: r := by
      rw [List.map_cons, List.map_cons, S'_tl, hp.strip, List.map_map, List.map_map]
      congr 1
      refine (List.map_congr_left fun q hq => ?_).trans (List.map_id r)
      exact (h q (List.mem_cons_of_mem _ hq)).strip1
    rw [e1]
    exact List.filter_eq_self.mpr fun q hq => by rw [decide_eq_false (h q hq).ne]; rfl
/-- texts of letters, digits, signs other than the space and the comma -/
theorem goodE_of {p : Str} (h1 : 1 ≤ p.length) (h : ∀ c ∈ tl p, c ≠ 32 ∧ c ≠ 44) : GoodE p := by
  rw [len_tl] at h1
  refine ⟨?_, fun c hc => (h c (List.mem_of_getElem? hc)).1, fun q => (h 44 q).2 rfl⟩
  cases e : tl p with
  | nil => rw [e] at h1; exact absurd h1 (by decide)
  | cons c r => exact ⟨c, rfl, (h c (by rw [e]; exact List.mem_cons_self)).1⟩
def goodB (p : Str) : Bool := decide (1 ≤ p.length) && (tl p).all fun c => !decide (c = 32) && !decide (c = 44)
theorem goodE_b {p : Str} (h : goodB p = true) : GoodE p := by
  unfold goodB at h
  rw [Bool.and_eq_true, decide_eq_true_eq, List.all_eq_true] at h
  exact goodE_of h.1 fun c hc => by
    have := h.2 c hc
    simp only [Bool.and_eq_true, Bool.not_eq_true', decide_eq_false_iff_not] at this
    exact this
theorem goodE_num {a : Str} {i : Int} (h : goodB a = true) (h0 : 0 ≤ i) (h1 : i ≤ 999999) : GoodE (a ++ PySem.Str.ofString (toString i)) := by
  unfold goodB at h
  rw [Bool.and_eq_true, decide_eq_true_eq, List.all_eq_true] at h
  refine goodE_of (by rw [Str.length_append]; omega) fun c hc => ?_
  rw [tl_append] at hc
  rcases List.mem_append.mp hc with hc | hc
  · have := h.2 c hc
    simp only [Bool.and_eq_true, Bool.not_eq_true', decide_eq_false_iff_not] at this
    exact this
  · have := num_digs h0 h1 c hc
    omega
end Z
set_option maxHeartbeats 4000000
namespace Z
open PySem PySem.Spec PyProof.Rows L2 TL Evl
section
variable {σ : L2.St} {H : Hp} {ta tr : TA} {te tb tv : TE} {D : Ends} {C : Addr} {sp : Sp} {dvs xs vs zs : List V} {E : XK} {Q : VK} {x y z v : V} {t tz : TS} {g : TG} {K : PySem.W.Frag} {f : Str} {i : Nat} {R : List V → Hp → Prop}
theorem q_in (h : t { D with nx := tz D } σ H) : tSeq t tz D σ H := h
theorem g_asg (h : te σ H fun v H1 => g v σ H1 D.nx) : tAsg te g D σ H := h
theorem g_ret (h : te σ H fun v H1 => D.rt v H1) : tRet te D σ H := h
theorem g_fld (h : tv σ H fun y H1 => sFld K tb (tC y) f D σ H1) : sFld K tb tv f D σ H := h
theorem g_drop (h : te σ H fun _ H1 => D.nx σ H1) : tDrop te D σ H := h
theorem q_asgR (h : te σ H fun v H1 => tz D (σ.set i (some v)) H1) : tSeq (tAsg te (gName i)) tz D σ H := h
theorem s_asgR (h : te σ H fun v H1 => D.nx (σ.set i (some v)) H1) : tAsg te (gName i) D σ H := h
theorem rd_mk (h : ta σ H fun vs H1 => ∀ x dx, H1 x = none → H1 dx = none → dx ≠ x → sp (.ref x :: (vs ++ dvs)) (upd (upd H1 dx (.own x)) x (.ins C dx [])) (fun v H2 => v = .non ∧ Q (.ref x) H2) E) : tMake C sp dvs E ta σ H Q := h
theorem rd_tup (h : ta σ H fun vs H1 => vs.length ≤ sizeLine ∧ ∀ p, H1 p = none → Q (.ref p) (upd H1 p (.tup vs))) : tTup ta σ H Q := h
theorem rd_lst (h : ta σ H fun vs H1 => vs.length ≤ sizeLine ∧ ∀ p, H1 p = none → Q (.ref p) (upd H1 p (.lst vs))) : tLst ta σ H Q := h
theorem rd_consE (h : Ev te σ H x) (k : ∀ H1, Ex H H1 → tr σ H1 fun ys H2 => R (x :: ys) H2) : tCons te tr σ H R := h H (Ex.refl H) _ k
theorem rd_consR (h : te σ H fun x H1 => tr σ H1 fun ys H2 => R (x :: ys) H2) : tCons te tr σ H R := h
theorem rd_consLs (h : EvL te σ H xs) (k : ∀ p H1, H p = none → Ex H H1 → H1 p = some (.lst xs) → tr σ H1 fun ys H2 => R (.ref p :: ys) H2) : tCons te tr σ H R := h H (Ex.refl H) _ k
theorem rd_nil (h : R [] H) : tNil σ H R := h
theorem rd_arg2 (h : te σ H fun x H1 => tb σ H1 fun y H2 => sp [x, y] H2 Q E) : tCall sp [] E (tCons te (tCons tb tNil)) σ H Q := h
/-- a + b of lists, one new, one new -/
theorem el_catLL (ha : EvL te σ H xs) (hb : EvL tb σ H zs) (hz : xs.length + zs.length ≤ 100000) : EvL (tOp rCat te tb) σ H (xs ++ zs) := fun H1 e Q q =>
  ha H1 e _ fun a H2 na e2 h2 => hb H2 (e.trans e2) _ fun b H3 nb e3 h3 => ⟨a, b, xs, zs, rfl, rfl, e3 _ _ h2, h3, sz_of hz, fun p np => q p _ (fresh_back (e2.trans e3) np) ((e2.trans e3).trans (Ex.new np)) upd_same⟩
theorem el_catEL {l : Addr} (ha : Ev te σ H (.ref l)) (hb : EvL tb σ H zs) (hl : H l = some (.lst xs)) (hz : xs.length + zs.length ≤ 100000) : EvL (tOp rCat te tb) σ H (xs ++ zs) := fun H1 e Q q =>
  ha H1 e _ fun H2 e2 => hb H2 (e.trans e2) _ fun b H3 nb e3 h3 => ⟨l, b, xs, zs, rfl, rfl, ((e.trans e2).trans e3) _ _ hl, h3, sz_of hz, fun p np => q p _ (fresh_back (e2.trans e3) np) ((e2.trans e3).trans (Ex.new np)) upd_same⟩
theorem el_slN {tlo thi : TO} {lo hi : Option Int} (h : EvL te σ H xs) (h1 : EvO tlo σ H lo) (h2 : EvO thi σ H hi) : EvL (tSl (rSlL K) te tlo thi) σ H (cutV xs lo hi) := fun H1 e Q q =>
  h H1 e _ fun a H2 na e2 ha => h1 H2 (e.trans e2) _ fun H3 e3 => h2 H3 ((e.trans e2).trans e3) _ fun H4 e4 => ⟨a, xs, rfl, sq_of ((e3.trans e4) _ _ ha), fun p np => q p _ (fresh_back ((e2.trans e3).trans e4) np) (((e2.trans e3).trans e4).trans (Ex.new np)) upd_same⟩
/-- sum(xs), xs new -/
theorem ev_sumN {ns : List Int} (h : EvL te σ H (ns.map V.int)) : Ev (tCB (rSum K) (tCons te tNil)) σ H (.int ns.sum) := fun H1 e Q q =>
  h H1 e _ fun a H2 na e2 ha => ⟨a, ns, rfl, sq_of ha, q H2 e2⟩
def EvX (te : TE) (σ : L2.St) (H : Hp) (P : V → Hp → Prop) : Prop := ∀ H1, Ex H H1 → ∀ Q : VK, (∀ v H2, Ex H1 H2 → P v H2 → Q v H2) → te σ H1 Q
end
def absI (i : Int) : Int := if i < 0 then -i else i
def rAbs : List V → Hp → VK → Prop := fun xs H Q => ∃ i, xs = [.int i] ∧ Q (.int (if i < 0 then -i else i)) H
theorem cz_abs {X : Cx} : CallR X (.builtin "abs") rAbs := call_abs
theorem ev_abs {te : TE} {σ : L2.St} {H : Hp} {i : Int} (h : Ev te σ H (.int i)) : Ev (tCB rAbs (tCons te tNil)) σ H (.int (absI i)) := fun H1 e Q q => h H1 e _ fun H2 e2 => ⟨i, rfl, q H2 e2⟩
theorem cutV_take {xs : List V} {n : Nat} : cutV xs none (some (n : Int)) = xs.take n := by
  unfold cutV
  rw [HT.sIx_none, List.drop_zero, Nat.sub_zero, HT.sIx_nat]
  rcases Nat.le_total n xs.length with h | h
  · rw [Nat.min_eq_left h]
  · rw [Nat.min_eq_right h, List.take_length, List.take_of_length_le h]
theorem at_intE {xs : List Int} {i : Nat} {x : V} (h : (xs.map V.int)[i]? = some x) : i < xs.length ∧ x = .int (xs.getD i 0) := by
  rw [List.getElem?_map] at h
  cases e : xs[i]? with
  | none => rw [e] at h; cases h
  | some a =>
    rw [e] at h
    cases h
    have : xs.getD i 0 = a := by rw [List.getD_eq_getElem?_getD, e]; rfl
    exact ⟨(List.getElem?_eq_some_iff.mp e).1, by rw [this]⟩
theorem rel_cons {α : Type} {R : V → α → Prop} {x : V} {o : α} {xs : List V} {os : List α} (r : R x o) (h : Rel R xs os) : Rel R (x :: xs) (o :: os) := ⟨by rw [List.length_cons, List.length_cons, h.1], fun i y u a b => by
  cases i with
  | zero =>
    cases a
    cases b
    exact r
  | succ i => exact h.2 i y u a b⟩
end Z
set_option maxHeartbeats 4000000
namespace Z
open PySem PySem.Spec PyProof.Rows L2 TL Evl
theorem putF_new {f : Str} {v : V} : ∀ {gs : List (Str × V)}, gs.lookup f = none → putF f v gs = gs ++ [(f, v)]
  | [], _ => rfl
  | (g, x) :: r, h => by
    have hg : ¬ g = f := fun e => by
      rw [e, List.lookup_cons, beq_self_eq_true] at h
      cases h
    have hr : r.lookup f = none := by
      rw [List.lookup_cons] at h
      have : (f == g) = false := beq_eq_false_iff_ne.mpr fun e => hg e.symm
      rw [this] at h
      exact h
    show (if g = f then (g, v) :: r else (g, x) :: putF f v r) = _
    rw [if_neg hg, putF_new hr]
    rfl
/-- an own object that is being made: what stood before stands, and J holds of the rest -/
structure OwnI (C a dx : Addr) (J : Hp → Prop) (gs : List (Str × V)) (H0 H : Hp) : Prop where
  kp : Keep a H0 H
  ha : H a = some (.ins C dx gs)
  j : J H
/-- J speaks of what making the object leaves alone -/
structure Stay (C a dx : Addr) (J : Hp → Prop) : Prop where
  ex : ∀ {H H' : Hp}, J H → Ex H H' → J H'
  up : ∀ {H : Hp} {gs gs' : List (Str × V)}, J H → H a = some (.ins C dx gs) → J (upd H a (.ins C dx gs'))
theorem OwnI.e {C a dx : Addr} {J : Hp → Prop} {gs : List (Str × V)} {H0 H H' : Hp} (S : Stay C a dx J) (h : OwnI C a dx J gs H0 H) (e : Ex H H') : OwnI C a dx J gs H0 H' := ⟨h.kp.trans (Keep.of e), e _ _ h.ha, S.ex h.j e⟩
theorem OwnI.put {C a dx : Addr} {J : Hp → Prop} {gs gs' : List (Str × V)} {H0 H : Hp} (S : Stay C a dx J) (h : OwnI C a dx J gs H0 H) : OwnI C a dx J gs' H0 (upd H a (.ins C dx gs')) := ⟨h.kp.upd, upd_same, S.up h.j h.ha⟩
section
variable {K : PySem.W.Frag} {C a dx : Addr} {J : Hp → Prop} {gs fs : List (Str × V)} {H0 H : Hp} {te tb : TE} {σ : L2.St} {v : V} {f : Str} {D : Ends} {tz : TS} {o : Option Int}
theorem q_fldS (S : Stay C a dx J) (I : OwnI C a dx J gs H0 H) (c : Cls K C) (n : NoAttr K C f) (hs : σ[0]? = some (some (.ref a))) (h : Ev te σ H v) (k : ∀ H', OwnI C a dx J (gs ++ [(f, v)]) H0 H' → tz D σ H') (hf : gs.lookup f = none := by rfl) (hl : gs.length < 1000 := by simp) : tSeq (sFld K (tVar 0) te f) tz D σ H :=
  h H (Ex.refl H) _ fun H1 e1 => ⟨.ref a, hs, a, C, dx, gs, rfl, (I.e S e1).ha, c, n, hl, k _ (by rw [putF_new hf]; exact (I.e S e1).put S)⟩
theorem s_fldS (S : Stay C a dx J) (I : OwnI C a dx J gs H0 H) (c : Cls K C) (n : NoAttr K C f) (hs : σ[0]? = some (some (.ref a))) (h : Ev te σ H v) (k : ∀ H', OwnI C a dx J (gs ++ [(f, v)]) H0 H' → D.nx σ H') (hf : gs.lookup f = none := by rfl) (hl : gs.length < 1000 := by simp) : sFld K (tVar 0) te f D σ H :=
  h H (Ex.refl H) _ fun H1 e1 => ⟨.ref a, hs, a, C, dx, gs, rfl, (I.e S e1).ha, c, n, hl, k _ (by rw [putF_new hf]; exact (I.e S e1).put S)⟩
theorem ev_fldO (c : Cls K C) (n : NoAttr K C f) (h : Ev te σ H (.ref a)) (ha : H a = some (.ins C dx fs)) (hl : fs.lookup f = some v) : Ev (tFld K te f) σ H v := fun H1 e Q q => h H1 e _ fun H2 e2 => ⟨a, C, dx, fs, v, rfl, e2 _ _ (e _ _ ha), c, n, hl, q H2 e2⟩
/-- x or 0, x an int or None -/
theorem ev_or0 (h : Ev te σ H (oI o)) : Ev (tOrT K te (tC (.int 0))) σ H (.int (o.getD 0)) := fun H1 e Q q => h H1 e _ fun H2 e2 => by
  cases o with
  | none => exact ⟨false, rfl, iteF (q H2 e2)⟩
  | some i =>
    by_cases hi : i = 0
    · subst hi
      exact ⟨false, rfl, iteF (q H2 e2)⟩
    · exact ⟨true, (bne_iff_ne.mpr hi).symm, iteT (q H2 e2)⟩
/-- max of several ints -/
def maxL : List Int → Int
  | [] => 0
  | [x] => x
  | x :: r => if maxL r > x then maxL r else x
theorem maxL_is : ∀ {ns : List Int} {m : Int}, m ∈ ns → (∀ y ∈ ns, y ≤ m) → maxL ns = m
  | [x], m, h, _ => (List.mem_singleton.mp h).symm
  | x :: y :: r, m, h, hm => by
    show (if maxL (y :: r) > x then maxL (y :: r) else x) = m
    have hx := hm x List.mem_cons_self
    rcases List.mem_cons.mp h with rfl | h
    · have h2 : maxL (y :: r) ≤ m := maxL_le fun z hz => hm z (List.mem_cons_of_mem _ hz)
      rw [if_neg (by omega)]
    · rw [maxL_is h fun z hz => hm z (List.mem_cons_of_mem _ hz)]
      by_cases e : m > x
      · rw [if_pos e]
      · rw [if_neg e]
        omega
where
  maxL_le : ∀ {ns : List Int} {x : Int} {m : Int}, (∀ z ∈ x :: ns, z ≤ m) → maxL (x :: ns) ≤ m
  | [], x, m, h => h x List.mem_cons_self
  | y :: r, x, m, h => by
    show (if maxL (y :: r) > x then maxL (y :: r) else x) ≤ m
    have h1 := h x List.mem_cons_self
    have h2 : maxL (y :: r) ≤ m := maxL_le fun z hz => h z (List.mem_cons_of_mem _ hz)
    by_cases e : maxL (y :: r) > x
    · rw [if_pos e]; exact h2
    · rw [if_neg e]; exact h1
theorem ev_maxs {ta : TA} {ns : List Int} (h : EvA ta σ H (ns.map V.int)) (h2 : 2 ≤ ns.length) (h3 : ns.length ≤ 1000) : Ev (tCB ZX.rMaxs ta) σ H (.int (maxL ns)) := fun H1 e Q q => h H1 e _ fun H2 e2 => ⟨ns, rfl, h2, h3, fun m a b => by
  have g := q H2 e2
  rw [maxL_is a b] at g
  exact g⟩
end
end Z
set_option maxHeartbeats 4000000
namespace ZX
open PySem PySem.Spec PyProof.Rows L2 He
/-! ### a def with keyword-only defaults, off the head -/
theorem DefA.funK {K : PySem.W.Frag} {d : DefA} {kws : List (Str × V)} (e : fnC K (d.at_.ad K) = d.val) (c : d.ok K = true) (hc : d.clo = []) (hk : kwdB K (kwOf K (d.at_.ad K)) kws = true) : ∃ fd, FunD K d.name d.qual d.params d.body d.scope (d.dvs K) kws (d.at_.ad K) fd := by
  obtain ⟨kp, oc, od, osl, fd, q, k1, k2, h1, h2, h3, h4, h5, h6, h7, h8⟩ := d.parts e c
  have hk2 : kwdB K fd.kwdefaults kws = true := by
    have : kwOf K (d.at_.ad K) = fd.kwdefaults := by unfold kwOf; rw [q]
    rw [← this]
    exact hk
  obtain ⟨n1, n2, n3, n4, n5, n6, n7, n8, n9, n10, n11, n12, n13, n14, n15⟩ := fd
  dsimp only at h1 h2 h3 h4 h5 h6 h7 h8 k1 k2 hk2
  rw [hc] at h7
  have h7 := List.map_eq_nil_iff.mp h7
  subst h1 h2 h3 h4 h5 h6 h7 h8
  exact ⟨_, ⟨oc, od, n8, n9, n10, n11, n12, n13, n14, osl, rfl, q, k1, k2, kwdB_ok hk2⟩, kp⟩
end ZX
set_option maxHeartbeats 4000000
namespace Z
open PySem PySem.Spec PyProof.Rows L2 TL Evl
/-! ### for k in range(e), e with what it does -/
def ForQ (tu tz : TS) (j : Nat) (D : Ends) (σ : L2.St) : VK := fun v H1 => ∃ i : Int, [v] = [V.int i] ∧ -(2 ^ 62) ≤ i ∧ i < 2 ^ 62 ∧ ∃ W : Nat → Nat → L2.St → Hp → Prop, (∃ m, W 0 m σ H1) ∧ ∀ k m σ H, W k m σ H →
  ((Itr 0 i.toNat).stop k H ∧ tz D σ H) ∨ ((Itr 0 i.toNat).go k H ∧ ∃ N : L2.St → Hp → Prop, (∀ σ' H', N σ' H' → ∃ m', m' < m ∧ W (k + 1) m' σ' H') ∧ ∀ x H', (Itr 0 i.toNat).yld k H x H' → gName j x σ H' fun σ2 H2 => tu { D with nx := N, ct := N, bk := tz D } σ2 H2)
theorem q_forQ {te : TE} {tu tz : TS} {j : Nat} {D : Ends} {σ : L2.St} {H : Hp} (h : te σ H (ForQ tu tz j D σ)) : tSeq (tFor (iRng1 (tCons te tNil)) (gName j) tu) tz D σ H := h
theorem forQ_of {tu tz : TS} {j : Nat} {D : Ends} {σ : L2.St} {H : Hp} {n : Int} (hn : 0 ≤ n ∧ n ≤ 100000) (Pv : Nat → L2.St → Hp → Prop) (h0 : Pv 0 σ H)
    (hs : ∀ (i : Nat) σ' H', (i : Int) < n → Pv i σ' H' → tu { D with nx := Pv (i + 1), ct := Pv (i + 1), bk := tz D } (σ'.set j (some (.int (i : Int)))) H') (hd : ∀ σ' H', Pv n.toNat σ' H' → tz D σ' H') : ForQ tu tz j D σ (.int n) H :=
  ⟨n, rfl, by omega, by omega, for_range (D := { D with nx := tz D }) (lo := 0) (n := n.toNat) Pv h0 (fun i σ' H' hi p => by
    have e0 : (0 : Int) + (i : Int) = (i : Int) := Int.zero_add _
    show tu { D with nx := Pv (i + 1), ct := Pv (i + 1), bk := tz D } (σ'.set j (some (.int ((0 : Int) + (i : Int))))) H'
    rw [e0]
    exact hs i σ' H' (by omega) p) hd⟩
/-! ### pieces of a directives' text -/
theorem opt_swap {a b : List Int} {o : Option Int} (h : a ++ b = o.toList) : b ++ a = o.toList := by
  cases o with
  | none =>
    have h : a ++ b = [] := h
    obtain ⟨rfl, rfl⟩ := List.append_eq_nil_iff.mp h
    rfl
  | some i =>
    have h : a ++ b = [i] := h
    cases a with
    | nil => rw [List.append_nil]; exact h
    | cons x r =>
      rw [List.cons_append] at h
      obtain ⟨rfl, h2⟩ := List.cons.inj h
      obtain ⟨rfl, rfl⟩ := List.append_eq_nil_iff.mp h2
      rfl
theorem nums_rot {nm : Str} {ps : List Str} {o : Option Int} (t : Nat) (h : nums nm ps = o.toList) : nums nm (ps.drop t ++ ps.take t) = o.toList := by
  rw [nums_app]
  refine opt_swap ?_
  rw [← nums_app, List.take_append_drop]
  exact h
theorem mem_rot {x : Str} {ps : List Str} (t : Nat) : (x ∈ ps.drop t ++ ps.take t) ↔ x ∈ ps := by
  rw [List.mem_append]
  constructor
  · rintro (h | h)
    · exact List.mem_of_mem_drop h
    · exact List.mem_of_mem_take h
  · intro h
    rw [← List.take_append_drop t ps, List.mem_append] at h
    exact h.symm
theorem minL_opt (o : Option Int) : minL o.toList = o := by cases o <;> rfl
theorem joined_len {ps : List Str} {k : Nat} (h : ∀ p ∈ ps, p.length ≤ k) : (Txt.join ", " ps).length ≤ ps.length * (k + 2) := by
  cases ps with
  | nil => exact Nat.zero_le _
  | cons p r =>
    rw [len_tl, join_tl, cs_tl, List.length_append, ← len_tl]
    have hp := h p List.mem_cons_self
    have hr : ∀ r : List Str, (∀ q ∈ r, q.length ≤ k) → (r.flatMap fun q => [44, 32] ++ tl q).length ≤ r.length * (k + 2) := by
      intro r
      induction r with
      | nil => intro _; exact Nat.zero_le _
      | cons q t ih =>
        intro hq
        rw [List.flatMap_cons, List.length_append, List.length_append, ← len_tl, show (q :: t).length * (k + 2) = t.length * (k + 2) + (k + 2) from Nat.succ_mul _ _]
        have h1 := hq q List.mem_cons_self
        have h2 := ih fun z hz => hq z (List.mem_cons_of_mem _ hz)
        show 2 + q.length + _ ≤ _
        omega
    have h3 := hr r fun q hq => h q (List.mem_cons_of_mem _ hq)
    rw [show (p :: r).length * (k + 2) = r.length * (k + 2) + (k + 2) from Nat.succ_mul _ _]
    omega
theorem cutV_drop {xs : List V} {n : Nat} : cutV xs (some (n : Int)) none = xs.drop n := by
  unfold cutV
  rw [HT.sIx_none, HT.sIx_nat]
  rcases Nat.le_total n xs.length with h | h
  · rw [Nat.min_eq_left h, List.take_of_length_le (by rw [List.length_drop]; exact Nat.le_refl _)]
  · rw [Nat.min_eq_right h, List.drop_eq_nil_of_le h, List.drop_length, List.take_nil]
theorem join_nil : Txt.join ", " [] = ("" : Str) := by decide +kernel
end Z
set_option maxHeartbeats 4000000
namespace Z
open PySem PySem.Spec PyProof.Rows L2 TL Evl NdefX
/-! ### f-strings, messages' fields (no row) -/
def EvJ (σ : L2.St) (H : Hp) : List TE → List Str → Prop
  | [], [] => True
  | t :: ts, z :: zs => Ev t σ H (.str z) ∧ EvJ σ H ts zs
  | _, _ => False
theorem ej_nil {σ : L2.St} {H : Hp} : EvJ σ H [] [] := trivial
theorem ej_cons {σ : L2.St} {H : Hp} {t : TE} {ts : List TE} {z : Str} {zs : List Str} (h : Ev t σ H (.str z)) (r : EvJ σ H ts zs) : EvJ σ H (t :: ts) (z :: zs) := ⟨h, r⟩
theorem tjs_run {σ : L2.St} {H : Hp} : ∀ (ts : List TE) (zs : List Str) (acc : Str) (H1 : Hp) (Q : Str → Hp → Prop), EvJ σ H ts zs → Ex H H1 → acc.length + (zs.map (·.length)).sum ≤ 200000 → (∀ H2, Ex H1 H2 → Q (zs.foldl (· ++ ·) acc) H2) → tJs ts acc σ H1 Q
  | [], [], acc, H1, Q, _, _, _, q => q H1 (Ex.refl H1)
  | [], z :: zs, acc, H1, Q, h, _, _, q => h.elim
  | t :: ts, [], acc, H1, Q, h, _, _, q => h.elim
  | t :: ts, z :: zs, acc, H1, Q, h, e, hz, q => by
    rw [List.map_cons, List.sum_cons] at hz
    refine h.1 H1 e _ fun H2 e2 => ⟨z, rfl, Nat.le_trans (show (acc ++ z).length ≤ 200000 by rw [Str.length_append]; omega) (by decide), ?_⟩
    exact tjs_run ts zs (acc ++ z) H2 Q h.2 (e.trans e2) (by rw [Str.length_append]; omega) fun H3 e3 => q H3 (e2.trans e3)
theorem ev_joined {σ : L2.St} {H : Hp} {ts : List TE} {zs : List Str} {x : Str} (h : EvJ σ H ts zs) (hz : (zs.map (·.length)).sum ≤ 200000) (hx : zs.foldl (· ++ ·) Str.empty = x) : Ev (fun σ H Q => tJs ts Str.empty σ H fun out H1 => Q (.str out) H1) σ H (.str x) := fun H1 e Q q => by
  refine tjs_run ts zs Str.empty H1 (fun out H1 => Q (.str out) H1) h e ?_ ?_
  · show 0 + _ ≤ _
    rw [Nat.zero_add]
    exact hz
  · rw [hx]
    exact q
theorem rd_joined {σ : L2.St} {H : Hp} {ts : List TE} {Q : Str → Hp → Prop} (zs : List Str) (h : EvJ σ H ts zs) (hz : (zs.map (·.length)).sum ≤ 200000) (k : ∀ H1, Ex H H1 → Q (zs.foldl (· ++ ·) Str.empty) H1) : tJs ts Str.empty σ H Q :=
  tjs_run ts zs Str.empty H Q h (Ex.refl H) (by
    show 0 + _ ≤ _
    rw [Nat.zero_add]
    exact hz) k
theorem ev_fmt {σ : L2.St} {H : Hp} {te : TE} {z : Str} (h : Ev te σ H (.str z)) (hz : z.length ≤ 100000) : Ev (tFmt te) σ H (.str z) := fun H1 e Q q => h H1 e _ fun H2 e2 => .inl ⟨z, rfl, sz_of hz, q H2 e2⟩
abbrev Fs := List (Str × Str)
def PfAt (H : Hp) (v : V) (x : Str × Str) : Prop := TupAt H v [.str x.1, .str x.2]
def FsAt (H : Hp) (q : Addr) (fs : Fs) : Prop := ∃ xs, H q = some (.lst xs) ∧ Rel (PfAt H) xs fs
theorem FsAt.ex {H H' : Hp} {q : Addr} {fs : Fs} (h : FsAt H q fs) (e : Ex H H') : FsAt H' q fs := by
  obtain ⟨xs, h1, h2⟩ := h
  exact ⟨xs, e _ _ h1, h2.mono fun _ _ m => TupAt.ex m e⟩
theorem FsAt.keep {p q : Addr} {H H' : Hp} {fs : Fs} (h : FsAt H q fs) (k : Keep p H H') (hp : ∃ xs, H p = some (.lst xs)) (n : q ≠ p) : FsAt H' q fs := by
  obtain ⟨xs, h1, h2⟩ := h
  exact ⟨xs, k _ _ n h1, h2.mono fun _ _ m => TupAt.keep m k hp⟩
def fieldB (x : Str × Str) : Bool := nameB x.1 && valueB x.2
def lenF (fs : Fs) : Prop := ∀ x ∈ fs, x.1.length ≤ 100000 ∧ x.2.length ≤ 100000
def areB (fs : Fs) : Bool := decide (fs.length ≤ 40) && fs.all fieldB
def bodyB (z : Str) : Bool := decide ((z.length : Int) ≤ 100000) && linesB z
section
variable {K : PySem.W.Frag} {σ : L2.St} {H : Hp} {to te : TE} {B C : Addr} {f z : Str} {v : V} {u mc : Value} {a : Str}
theorem ev_cval (h : Ev te σ H (.ref C)) (r : ClX.CRead K C mc) (k : ClX.CVal K C mc f v u) : Ev (ClX.tCVal K te f) σ H v := fun H1 e Q q => h H1 e _ fun H2 e2 => ⟨C, mc, v, u, rfl, r, k, q H2 e2⟩
end
section
variable {K : PySem.W.Frag} {σ : L2.St} {H : Hp} {to te : TE} {B C : Addr} {f z : Str} {v : V} {u mc : Value} {a : Str}
theorem ev_replC (h : Ev to σ H (.str a)) (hz : a.length ≤ 100000) : Ev (CwR.tReplC to "\n" "") σ H (.str (Txt.replace a "\n" "")) := fun H1 e Q q => h H1 e _ fun H2 e2 => ⟨a, rfl, by
  have : ("" : Str).length = 0 := by decide +kernel
  rw [this]
  omega, q H2 e2⟩
end
theorem repl_len (z : Str) : (Txt.replace z "\n" "").length ≤ z.length := by
  rw [← len_tl', ← len_tl', replace_nl]
  exact List.length_filter_le _ _
theorem rel_bl {ys : List V} {bs : List Bool} (h : Rel (fun v b => v = V.bl b) ys bs) : ys = bs.map V.bl := by
  refine List.ext_getElem (by rw [h.1, List.length_map]) fun i h1 h2 => ?_
  rw [List.getElem_map]
  rw [List.length_map] at h2
  exact h.2 i _ _ (List.getElem?_eq_getElem h1) (List.getElem?_eq_getElem h2)
/-- all([.. for .. in fields]) -/
theorem all_ev {K : PySem.W.Frag} {σ : L2.St} {H : Hp} {te tl : TE} {g : TG} {l : Addr} {vs : List V} {os : Fs} {gB : Str × Str → Bool} {ws : List Nat} (hv : Ev tl σ H (.ref l)) (hl : H l = some (.lst vs)) (hrel : Rel (PfAt H) vs os) (hz : os.length ≤ 40000)
    (hs : ∀ (x : V) (o : Str × Str) H1, o ∈ os → Ex H H1 → PfAt H1 x o → ∀ (k : VK), (∀ H2, Ex H1 H2 → k (.bl (gB o)) H2) → g x (wipe σ ws) H1 fun σ2 H2 => wipe σ2 ws = wipe σ ws ∧ te σ2 H2 k) : Ev (tCB (L2.rAll K) (tCons (tLc (iList K tl) g tYes te ws) tNil)) σ H (.bl (os.all gB)) := fun H1 e Q q =>
  hv H1 e _ fun H2 e2 => ⟨l, rfl, ⟨vs, sq_of ((e.trans e2) _ _ hl)⟩, fun D hD => lc_rel (α := Bool) (fun i => (os.take i).map gB) (fun _ v b => v = .bl b) (fun _ _ _ _ _ _ h => h) (sq_of ((e.trans e2) _ _ hl)) hD rfl (by rw [hrel.1]; omega) (fun i x H3 hi e3 k k0 hk _ => by
    obtain ⟨o, ho, hxo⟩ := hrel.get hi
    have e03 := (e.trans e2).trans e3
    refine hs x o H3 (List.mem_of_getElem? ho) e03 (TupAt.ex hxo e03) k fun H4 e4 => hk _ H4 _ e4 ?_ rfl
    show (os.take (i + 1)).map gB = _
    rw [List.take_add_one, ho, List.map_append]
    rfl) (fun H3 ys e3 hy hr => by
    rw [hrel.1, List.take_length] at hr
    have ey := rel_bl hr
    refine ⟨D, os.map gB, rfl, sq_of (by rw [hy, ey]), ?_⟩
    rw [List.all_map]
    exact q H3 (e2.trans e3))⟩
theorem areB_len {fs : Fs} (h : areB fs = true) : lenF fs ∧ fs.length ≤ 40 := by
  unfold areB at h
  rw [Bool.and_eq_true, decide_eq_true_eq, List.all_eq_true] at h
  refine ⟨fun x hx => ?_, h.1⟩
  obtain ⟨h1, h2⟩ := Bool.and_eq_true_iff.mp (h.2 x hx)
  constructor
  · unfold nameB wordB at h1
    simp only [Bool.and_eq_true, decide_eq_true_eq] at h1
    omega
  · unfold valueB at h2
    simp only [Bool.and_eq_true, decide_eq_true_eq] at h2
    omega
theorem FsAt.updI {H : Hp} {q a C dx : Addr} {fs : Fs} {gs : List (Str × V)} {o : HO} (h : FsAt H q fs) (ha : H a = some (.ins C dx gs)) : FsAt (upd H a o) q fs := by
  obtain ⟨xs, h1, h2⟩ := h
  refine ⟨xs, ?_, h2.mono fun _ x m => ?_⟩
  · rw [upd_ne (fun e => by rw [e, ha] at h1; cases h1)]
    exact h1
  · obtain ⟨t, rfl, ht⟩ := m
    refine ⟨t, rfl, ?_⟩
    rw [upd_ne (fun e => by rw [e, ha] at ht; cases ht)]
    exact ht
/-- [(a, b) for a, b in fields] -/
theorem fields_new {K : PySem.W.Frag} {σ : L2.St} {H : Hp} {i j1 j2 : Nat} {l : Addr} {fs : Fs} {Q : VK} (hi : σ[i]? = some (some (.ref l))) (hl : FsAt H l fs) (hz : fs.length ≤ 40000) (hw : ∀ x y, wipe (((wipe σ [j1, j2]).set j1 (some x)).set j2 (some y)) [j1, j2] = wipe σ [j1, j2])
    (h1 : ∀ x y, (((wipe σ [j1, j2]).set j1 (some x)).set j2 (some y))[j1]? = some (some x)) (h2 : ∀ x y, (((wipe σ [j1, j2]).set j1 (some x)).set j2 (some y))[j2]? = some (some y))
    (k : ∀ D H', H D = none → Ex H H' → FsAt H' D fs → Q (.ref D) H') : tLc (iList K (tVar i)) (gTup K 2 (gCons (gName j1) (gCons (gName j2) gNil))) tYes (tTup (tCons (tVar j1) (tCons (tVar j2) tNil))) [j1, j2] σ H Q := by
  obtain ⟨xs, hx, hr⟩ := hl
  refine ⟨.ref l, hi, l, rfl, ⟨_, sq_of hx⟩, fun D hD => ?_⟩
  refine lc_rel (α := Str × Str) (fun i => fs.take i) PfAt (fun _ _ _ _ k hD r => TupAt.keep r k hD) (sq_of hx) hD rfl (by rw [hr.1]; omega) (fun i x H13 hi e13 k k0 hk _ => ?_) (fun H13 ms e13 hy hrel => ?_)
  · obtain ⟨o, ho, t, rfl, ht⟩ := hr.get hi
    refine ⟨t, _, rfl, st_of (e13 _ _ ht), rfl, _, _, rfl, _, _, rfl, rfl, hw _ _, ?_⟩
    unfold tYes
    dsimp only
    rw [if_pos rfl]
    refine (eu_tup (ea_cons (ev_var (h1 _ _)) (ea_cons (ev_var (h2 _ _)) ea_nil)) (by show 2 ≤ _; decide)) H13 (Ex.refl H13) _ fun p H14 np e14 hp => hk _ H14 o e14 ?_ ⟨p, rfl, hp⟩
    show fs.take (i + 1) = _
    rw [List.take_add_one, ho]
    rfl
  · rw [hr.1, List.take_length] at hrel
    exact k D H13 hD e13 ⟨ms, hy, hrel⟩
def valsF (fs : Fs) (n : Str) : List Str := (fs.filter fun x => decide (x.1 = n)).map Prod.snd
def joinF (fs : Fs) (n : Str) : Option Str := if valsF fs n = [] then none else some (Txt.join ", " (valsF fs n))
def optV : Option Str → V
  | none => .non
  | some z => .str z
theorem areB_val {fs : Fs} (h : areB fs = true) : fs.length ≤ 40 ∧ ∀ x ∈ fs, x.1.length ≤ 30 ∧ x.2.length ≤ 200 := by
  unfold areB at h
  rw [Bool.and_eq_true, decide_eq_true_eq, List.all_eq_true] at h
  refine ⟨h.1, fun x hx => ?_⟩
  obtain ⟨h1, h2⟩ := Bool.and_eq_true_iff.mp (h.2 x hx)
  constructor
  · unfold nameB wordB at h1
    simp only [Bool.and_eq_true, decide_eq_true_eq] at h1
    omega
  · unfold valueB at h2
    simp only [Bool.and_eq_true, decide_eq_true_eq] at h2
    omega
theorem vals_len {fs : Fs} {n : Str} (h : areB fs = true) : (valsF fs n).length ≤ 40 ∧ ∀ y ∈ valsF fs n, y.length ≤ 200 := by
  obtain ⟨h1, h2⟩ := areB_val h
  unfold valsF
  refine ⟨by rw [List.length_map]; exact Nat.le_trans (List.length_filter_le _ _) h1, fun y hy => ?_⟩
  obtain ⟨x, hx, rfl⟩ := List.mem_map.mp hy
  exact (h2 x (List.mem_filter.mp hx).1).2
theorem joinF_len {fs : Fs} {n z : Str} (h : areB fs = true) (hz : joinF fs n = some z) : z.length ≤ 10000 := by
  unfold joinF at hz
  split at hz
  · cases hz
  · cases hz
    obtain ⟨h1, h2⟩ := vals_len (n := n) h
    have h3 := sum_most (valsF fs n) 200 h2
    have h4 := join_len ", " (valsF fs n)
    have h5 : (", " : Str).length = 2 := by decide +kernel
    rw [h5] at h4
    have h6 := Nat.mul_le_mul_right 200 h1
    omega
section
variable {K : PySem.W.Frag} {C L a dx : Addr} {σ : L2.St} {H : Hp} {te : TE} {v : V} {b : Bool}
theorem et_truL {l : Addr} {xs : List V} (h : Ev te σ H (.ref l)) (hl : SqL K H l xs) : EvT (fun σ H Q => te σ H fun x H' => ∃ k, TruV K x H' k ∧ Q k H') σ H (!xs.isEmpty) := fun H1 e Q q => h H1 e _ fun H2 e2 => ⟨_, .inl ⟨xs, ex_l (e.trans e2) hl, rfl⟩, q H2 e2⟩
end
def nsp : Str := "!\"#$&'()*+,-./0123456789:;<=>?@ABCDEFGHIJKLMNOPQRSTUVWXYZ[\\]^_`abcdefghijklmnopqrstuvwxyz{|}~"
theorem nsp_ok : ∀ c ∈ tl nsp, c ∈ tl signs ∧ c ∉ tl (" " : Str) := by decide +kernel
theorem allIn_mono {z s t : Str} (h : allIn z s = true) (k : ∀ c ∈ tl s, c ∈ tl t) : allIn z t = true :=
  List.all_eq_true.mpr fun c hc => decide_eq_true (k c (of_decide_eq_true (List.all_eq_true.mp h c hc)))
theorem value_ns {z : Str} (hl : z.length ≤ 200) (h : allIn z nsp = true) : valueB z = true := by
  have hm : ∀ c ∈ tl z, c ∈ tl nsp := fun c hc => of_decide_eq_true (List.all_eq_true.mp h c hc)
  unfold valueB
  rw [decide_eq_true (by omega), Bool.true_and, Bool.and_eq_true, decide_eq_true_eq]
  exact ⟨List.all_eq_true.mpr fun c hc => decide_eq_true (nsp_ok c (hm c hc)).1, strip_self (fun c hc => (nsp_ok c (hm c (List.mem_of_getElem? hc))).2) (fun c hc => (nsp_ok c (hm c (List.mem_of_getElem? hc))).2)⟩
theorem value_parts {z : Str} (h : valueB z = true) : z.length ≤ 200 ∧ allIn z signs = true := by
  unfold valueB at h
  simp only [Bool.and_eq_true, decide_eq_true_eq] at h
  exact ⟨by omega, h.2.1⟩
theorem value_empty : valueB ("" : Str) = true := by decide +kernel
theorem num_kinds (i : Int) (h1 : -999999 ≤ i) (h2 : i ≤ 999999) : (∃ n : Nat, n < 10 ^ 6 ∧ tl (PySem.Str.ofString (toString i)) = numL n) ∨ ∃ n : Nat, 1 ≤ n ∧ n < 10 ^ 6 ∧ tl (PySem.Str.ofString (toString i)) = 45 :: numL n := by
  cases i with
  | ofNat n =>
    have h2 : (n : Int) ≤ 999999 := h2
    exact .inl ⟨n, by omega, tl_num n⟩
  | negSucc n => exact .inr ⟨n + 1, by omega, by omega, neg_tl n⟩
theorem num_value (i : Int) (h1 : -999999 ≤ i) (h2 : i ≤ 999999) : valueB (PySem.Str.ofString (toString i)) = true := by
  have key : ∀ z : Str, z.length ≤ 7 → (∀ c ∈ tl z, c = 45 ∨ (48 ≤ c ∧ c ≤ 57)) → valueB z = true := fun z hl hc => by
    refine value_ns (by omega) (List.all_eq_true.mpr fun c h => decide_eq_true ?_)
    have d : ∀ c ∈ tl ("0123456789" : Str), c ∈ tl nsp := by decide +kernel
    rcases hc c h with rfl | ⟨g1, g2⟩
    · decide +kernel
    · exact d c (dig_mem g1 g2)
  rcases num_kinds i h1 h2 with ⟨n, hn, hz⟩ | ⟨n, h0, hn, hz⟩
  · refine key _ ?_ fun c hc => ?_
    · rw [len_tl, hz]
      have := numL_len (k := 6) (by decide) hn
      omega
    · rw [hz] at hc
      exact .inr (numL_digits n c hc)
  · refine key _ ?_ fun c hc => ?_
    · rw [len_tl, hz]
      have := numL_len (k := 6) (by decide) hn
      rw [List.length_cons]
      omega
    · rw [hz] at hc
      rcases List.mem_cons.mp hc with rfl | hc
      · exact .inl rfl
      · exact .inr (numL_digits n c hc)
end Z
set_option maxHeartbeats 4000000
namespace ZX
open PySem PySem.Spec PyProof.Rows L2 TL Evl NdefX
/-! ### try, the first clause (with a name) takes what is raised; the clauses behind it are never asked -/
def wFst (K : PySem.W.Frag) (c : Value) (i : Nat) (ts : Addr → Value → Option Addr → TS) (D : Ends) : WX := fun cls d σ H => PySem.W.exmOne K cls c = some true ∧ ∀ a : Addr, H a = none → ts a cls d { nx := fun σ' H' => D.nx (List.set σ' i none) H', rt := D.rt, bk := fun σ' H' => D.bk (List.set σ' i none) H', ct := fun σ' H' => D.ct (List.set σ' i none) H' } (List.set σ i (some (V.ref a))) H
theorem ps_try_fst {X : Cx} {x n : Str} {c : Value} {i : Nat} {body suite : List Stmt} {b₀ : Stmt} {hds : List ExceptHandler} {np pos pos' : Pos} {tb : WX → TS} {ts : Addr → Value → Option Addr → TS}
    (hs : X.stack = X.env :: X.outer) (hf : X.env.frame = some X.env.locals) (hN : X.N.Nodup) (hi : X.N[i]? = some n) (hln : X.env.kindOf n = some NameKind.local) (hc : Names X x c)
    (hb : ∀ (W : WX) (pn : List (Addr × Obj)) (xe : Value → Shared → Prop), L2N.Takes (X.tr pn xe) W → PassesOwn (model X.prog X.w) X.A X.env xe → PSs (X.tr pn xe) body (tb W))
    (hsu : ∀ (a : Addr) (oe : Obj) (cls : Value) (d : Option Addr) (pn : List (Addr × Obj)), L2N.Zn cls d oe → (∃ vs, oe.data = Data.fields vs) → PSs (X.suite a ((a, oe) :: pn)) (b₀ :: suite) (ts a cls d)) :
    PS X (Stmt.Try body (ExceptHandler.ExceptHandler (some (Expr.Name x np)) (some n) (b₀ :: suite) pos' :: hds) [] [] pos) fun D σ H => tb (wFst X.K c i ts D) D σ H := by
  refine ⟨fun pins s σ H D I h => ?_⟩
  have ok := I.ok
  have hfr : X.A.frames = some (X.env :: X.outer) := by
    rw [ok.frames, hs]
  refine wpAny_Try_except (wpAny_mono ((hb (wFst X.K c i ts D) (X.pn ++ pins) (fun e s₁ =>
                  wpAny (model X.prog X.w) X.A (noteFrame e X.env)
                    (fun x_1 s₂ =>
                      wpAny (model X.prog X.w) X.A (setFlight e none)
                        (fun x_2 s₃ =>
                          wpAny (model X.prog X.w) X.A
                            (handleBy e X.env
                              (ExceptHandler.ExceptHandler (some (Expr.Name x np)) (some n) (b₀ :: suite) pos' :: hds))
                            (SP X pins D) X.xe s₃)
                        X.xe s₂)
                    X.xe s₁) (fun u s' xx => ?_) PassesOwn.looking).run [] s σ H D (Inv.toTry I _) h) (fun f s1 hsp => ?_) fun e s1 he => he)
  · obtain ⟨a, B, sI, pins', σ', H', cls, d, left, J', nb, up, sky, na, os, ag, hb1, hyes⟩ := xx
    subst left
    have J := Inv.ofTry J' ok
    have sky' : L2.Sky B (X.env :: X.outer) a (L2N.Zn cls d) X.env.locals s'.heap := by
      rw [← hs]
      exact sky
    refine L2N.Sky.land L2N.Zn.steady hfr hf sky' fun h3 fl3 up3 => ?_
    have J3 : L2.Inv X pins σ' H' { heap := h3, gens := s'.gens, drawn := s'.drawn, toks := s'.toks, os := s'.os } := Inv.landed J nb fl3.left (Heap.UpToSlots.trans up up3) os ag
    obtain ⟨oe3, vs3, he3, hz3, hd3⟩ := HandSPX.FlyingZ.there fl3
    have notFr : ∀ {h : Heap} {o : Obj} {vs : Array Value}, h.FunFrames B (X.env :: X.outer) → h.get? a = some o → o.data = Data.fields vs → ¬ a ∈ List.filterMap (fun x : Env => x.frame) (X.env :: X.outer) := fun ff e dd hm => by
      obtain ⟨_, o', e', hnf⟩ := Heap.FunFrames.mem ff hm
      rw [e] at e'
      cases e'
      exact hnf _ dd
    have nfr := notFr fl3.right.right.left he3 hd3
    have nL : a ≠ X.env.locals := fun z => nfr (List.mem_filterMap.mpr ⟨X.env, List.mem_cons_self, by rw [hf, z]⟩)
    have nF : ¬ a ∈ X.fs := fun hm => by
      obtain ⟨e, he, q⟩ := List.mem_filterMap.mp hm
      exact nfr (List.mem_filterMap.mpr ⟨e, List.mem_cons_of_mem X.env he, q⟩)
    have S3 := Inv.suite J3 he3 hd3 na nL nF
    refine wpAny_handleBy_cons (codeAny_handlers_test ?_) (fun q => nomatch q)
    have LM := PySem.W.exm_one (M := model X.prog X.w) (Inv.kIn J3) (fun A Q E s k q => wpAny_typeOf_ref (k a oe3 he3) (by rw [hz3.left]; exact q)) hb1
    have test : ∀ {Q : Value → Shared → Prop} {E : Value → Shared → Prop}, Q c { heap := h3, gens := s'.gens, drawn := s'.drawn, toks := s'.toks, os := s'.os } → wpAny (model X.prog X.w) (X.suite a ((a, oe3) :: (X.pn ++ pins))).A (eval (Expr.Name x np) X.env) Q E { heap := h3, gens := s'.gens, drawn := s'.drawn, toks := s'.toks, os := s'.os } := fun {Q E} q => by
      obtain ⟨hg, hdbg, hm | ⟨hm, hv, hnn⟩⟩ := hc
      · exact ld_glob (X := X.suite a ((a, oe3) :: (X.pn ++ pins))) S3 hg hm q hdbg
      · exact ld_blt (X := X.suite a ((a, oe3) :: (X.pn ++ pins))) S3 hg hm hv q hnn hdbg
    refine test (Q := fun c' s₁ => wpAny (model X.prog X.w) _ (excMatches (Value.ref a) c') _ _ s₁) (PySem.W.Looks.here LM ?_)
    refine codeAny_handlers_suite_as (HandSPX.lands_againZ fl3 fun h4 fl4 up4 => ?_)
    have J4 : L2.Inv X pins σ' H' { heap := h4, gens := s'.gens, drawn := s'.drawn, toks := s'.toks, os := s'.os } := Inv.landed J nb fl4.left (Heap.UpToSlots.trans (Heap.UpToSlots.trans up up3) up4) os ag
    obtain ⟨oe4, vs4, he4, hz4, hd4⟩ := HandSPX.FlyingZ.there fl4
    have S4 := Inv.suite J4 he4 hd4 na nL nF
    refine store_ok (X := X.suite a ((a, oe4) :: (X.pn ++ pins))) (v := V.ref a) S4 hN hi (Or.inl hln) rfl (fun s5 S5 => wpAny_mono ((hsu a oe4 cls d (X.pn ++ pins) hz4 ⟨vs4, hd4⟩).run [] s5 (List.set σ' i (some (V.ref a))) H' _ S5 (hyes a na)) (fun f s6 hsp => ?_) fun _ _ z => z.elim) (Or.inr hln)
    have end_ : ∀ {σ6 : L2.St} {H6 : Hp} {Q : Unit → Shared → Prop} {s6 : Shared}, L2.Inv (X.suite a ((a, oe4) :: (X.pn ++ pins))) [] σ6 H6 s6 → (∀ s', L2.Inv X pins (List.set σ6 i none) H6 s' → Q () s') → wpAny (model X.prog X.w) X.A (do bindName X.env n Value.none; unbindBehindTheSuite X.env n pos') Q X.xe s6 := fun S6 hq => gone_ok (Inv.unsuite S6 ok) hN hi hln hq
    cases f with
    | next =>
      obtain ⟨σ6, H6, S6, q6⟩ := hsp
      exact end_ S6 fun s7 J7 => ⟨σ6.set i none, H6, J7, q6⟩
    | brk =>
      obtain ⟨σ6, H6, S6, q6⟩ := hsp
      exact end_ S6 fun s7 J7 => ⟨σ6.set i none, H6, J7, q6⟩
    | cont =>
      obtain ⟨σ6, H6, S6, q6⟩ := hsp
      exact end_ S6 fun s7 J7 => ⟨σ6.set i none, H6, J7, q6⟩
    | ret u =>
      obtain ⟨v6, σ6, H6, S6, r6, q6⟩ := hsp
      exact end_ S6 fun s7 J7 => ⟨v6, σ6.set i none, H6, J7, r6, q6⟩
  · cases f with
    | next =>
      obtain ⟨σ', H', J', q⟩ := hsp
      exact wpAny_execs_nil ⟨σ', H', Inv.ofTry J' ok, q⟩
    | brk =>
      obtain ⟨σ', H', J', q⟩ := hsp
      exact ⟨σ', H', Inv.ofTry J' ok, q⟩
    | cont =>
      obtain ⟨σ', H', J', q⟩ := hsp
      exact ⟨σ', H', Inv.ofTry J' ok, q⟩
    | ret u =>
      obtain ⟨v, σ', H', J', r, q⟩ := hsp
      exact ⟨v, σ', H', Inv.ofTry J' ok, r, q⟩
/-! ### isinstance of an error without fields -/
def rIsEN (K : PySem.W.Frag) (a : Addr) (cls : Value) (d : Option Addr) : List V → Hp → VK → Prop := fun xs H Q => ∃ D, cls = .ref D ∧ d = none ∧ ExcC K D ∧ rIsE K D a xs H Q
theorem call_isEN {X : Cx} {a : Addr} {cls : Value} {d : Option Addr} {oe : Obj} {pn : List (Addr × Obj)} (hz : Zc cls d oe) (hf : ∃ vs, oe.data = .fields vs) : CallR (X.suite a ((a, oe) :: pn)) (.builtin "isinstance") (rIsEN X.K a cls d) := by
  intro pins s σ H xs us Q I r h
  obtain ⟨D, rfl, rfl, c, q⟩ := h
  exact call_isE c hz hf pins s σ H xs us Q I r q
/-- isinstance(e, (A, B, ..)) -/
def rIsET (K : PySem.W.Frag) (a : Addr) (cls : Value) (d : Option Addr) : List V → Hp → VK → Prop := fun xs H Q => ∃ (D tp : Addr) (cs : List V) (ws : List Value) (b : Bool), cls = .ref D ∧ d = none ∧ ExcC K D ∧ xs = [.ref a, .ref tp] ∧ H tp = some (.tup cs) ∧ Paired ClsV cs ws ∧ PySem.W.kitAny K (.ref D) ws = some b ∧ Q (.bl b) H
theorem call_isET {X : Cx} {a : Addr} {cls : Value} {d : Option Addr} {oe : Obj} {pn : List (Addr × Obj)} (hz : Zc cls d oe) (hf : ∃ vs, oe.data = .fields vs) : CallR (X.suite a ((a, oe) :: pn)) (.builtin "isinstance") (rIsET X.K a cls d) := by
  intro pins s σ H xs us Q I r h
  obtain ⟨D, tp, cs, ws, b, rfl, rfl, C, rfl, hT, k, e, q⟩ := h
  obtain ⟨u1, u2, rfl, r1, r2⟩ := L2.vals2 r
  obtain rfl : u1 = Value.ref a := r1
  obtain rfl : u2 = Value.ref tp := r2
  obtain ⟨hget, _⟩ := I.pin (a, oe) (List.mem_append.mpr (.inl List.mem_cons_self))
  obtain ⟨vs, hv⟩ := hf
  have J : PySem.W.InstAt s.heap a oe D none := by
    obtain ⟨oc, odd, oda, osl⟩ := oe
    obtain ⟨h1, h2⟩ := hz
    dsimp only at h1 h2 hv
    subst h1 h2 hv
    exact ⟨hget, rfl, rfl, trivial⟩
  have hx : ObjOk X.prog X.w H s.heap tp (.tup cs) := I.hok tp _ hT
  obtain ⟨_, its, rv, o, h1, h2, n, h3⟩ := hx
  have e3 := ClsV.all k rv
  subst e3
  obtain ⟨oc, od, dt, sl⟩ := o
  dsimp only at h2 h3
  subst h2 h3
  exact PySem.W.kia_tup (PySem.W.handS_kitx_exc C.hg C.hk C.hs C.hd C.ha C.hn C.ht C.hm) I.kIn J h1 e (fun z => nomatch z) fun tk => ⟨.bl b, H, I.tok tk, rfl, q⟩
end ZX
set_option maxHeartbeats 4000000
namespace ZX
open PySem PySem.Spec PyProof.Rows L2 TL Evl NdefX
/-! ### an own error whose `__init__` keeps nothing -/
theorem mk_endN {X : Cx} {pins : List (Addr × Obj)} {σ : L2.St} {H1 H2 : Hp} {hp hp2 h2 : Heap} {g1 g2 : Array GenState} {d1 d2 : Drawn} {t1 t2 : Nat} {os1 os2 : OsState} {a C : Addr}
    (I1 : L2.Inv X pins σ H1 { heap := hp, gens := g1, drawn := d1, toks := t1, os := os1 }) (ha : hp.objs.size ≤ a) (k : ∀ (b : Addr) (o : Obj), hp.get? b = some o → hp2.get? b = some o) (un : Un (frs X.stack) [] (upd H1 a (exo a C none)) H2 hp2 h2) (hok : HOk X.prog X.w H2 h2) (ho : os2 = os1) (hb : AllBare g2) (ea : H2 a = some (exo a C none)) :
    ∃ t0 G, L2.Inv X pins σ (del H2 a) { heap := G, gens := g2, drawn := d2, toks := t2, os := os2 } ∧ (∀ (b : Addr) (o : Obj), G.get? b = some o → h2.get? b = some o) ∧ G.get? a = none ∧
      h2.get? a = some { cls := Value.ref C, dict := none, data := Data.fields #[Value.ref t0, Value.none, Value.none, Value.none, Value.bool false, Value.none] } := by
  obtain ⟨t0, hoe⟩ := exo_at hok ea
  have hn := HOk.fresh I1.hok ha
  obtain ⟨G, g1', g2'⟩ := restrict h2 fun b => decide (b ≠ a)
  have gk : ∀ b, b ≠ a → G.get? b = h2.get? b := fun b hb => g1' b (decide_eq_true hb)
  have ge : G.get? a = none := g2' a (by simp)
  have nha : ∀ {b : Addr} {o : Obj}, hp.get? b = some o → b ≠ a := fun {b} {o} z => Nat.ne_of_lt (Nat.lt_of_lt_of_le (Heap.lt_size z) ha)
  have up : ∀ {b : Addr}, b ≠ a → H1 b = none → upd H1 a (exo a C none) b = none := fun {b} hb n => by
    rw [upd_ne hb]
    exact n
  have U : Un (frs X.stack) [] H1 (del H2 a) hp G := {
    keep := fun b o z n hf hx => by
      rw [gk b (nha z)]
      exact un.keep b o (k b o z) (up (nha z) n) hf hx
    slot := fun b o z n hf hx => by
      rw [gk b (nha z)]
      exact un.slot b o (k b o z) (up (nha z) n) hf hx
    free := fun b o z n hx => by
      rw [del_ne (nha z)]
      exact un.free b o (k b o z) (up (nha z) n) hx
    there := fun b o z hx => by
      rw [gk b (nha z)]
      exact un.there b o (k b o z) hx
    tups := fun b xs z => by
      rw [del_ne (ne_of_none z hn)]
      exact un.tups b xs (by rw [upd_ne (ne_of_none z hn)]; exact z)
    frzs := fun b o v z => by
      rw [del_ne (ne_of_none z hn)]
      exact un.frzs b o v (by rw [upd_ne (ne_of_none z hn)]; exact z)
    tbls := fun b ps z => by
      rw [del_ne (ne_of_none z hn)]
      exact un.tbls b ps (by rw [upd_ne (ne_of_none z hn)]; exact z) }
  have hok3 : HOk X.prog X.w (del H2 a) G := fun b o z => by
    have hba : b ≠ a := fun e => by
      rw [e, del_same] at z
      cases z
    rw [del_ne hba] at z
    have noa : ∀ {c : Addr}, H2 c = some (HO.own b) → c ≠ a := fun {c} hc => at_ne ea hc exo_own
    refine ObjOk.stay (hok b o z) (fun c v hc y => ?_) (fun c hc => ?_) fun c xs hc => ?_
    · have hca : c ≠ a := by
        rcases hc with hc | hc
        · rw [hc]; exact hba
        · exact noa hc
      rw [gk c hca]
      exact y
    · rw [del_ne (noa hc)]
      exact hc
    · rw [del_ne (at_ne ea hc exo_tup)]
      exact hc
  have J := Inv.call' (s' := { heap := G, gens := g2, drawn := d2, toks := t2, os := os2 }) I1 ho U hok3 hb fun b z => absurd z List.not_mem_nil
  exact ⟨t0, G, J, fun b o z => by
    by_cases hba : b = a
    · rw [hba, ge] at z
      cases z
    · rw [← gk b hba]
      exact z, ge, hoe⟩
def tMkN (C : Addr) (sp : Sp) : L2N.St → Hp → XK → Prop := fun σ H Q => ∀ a, H a = none → sp [.ref a] (upd H a (exo a C none)) (fun v H2 => v = .non ∧ H2 a = some (exo a C none) ∧ Q (.ref C) none (del H2 a)) (fun _ _ _ => False)
theorem pmk_oex0 {X : Cx} {CX : CXT} {x : Str} {C fI : Addr} {k : Nat} {fd : FuncData} {ps : List Str} {sp : Sp} {p pos : Pos} (T : OexC X.K C) (iC : PySem.W.findIn X.K (.ref C) "__init__" = some (some (.ref fI)))
    (tI : PySem.W.typeIn X.K (.ref fI) = some (.type "function")) (F1 : FnOk X.prog X.w X.K X.mg X.base CX k fI fd ps sp) (hr : Room (k + 1) X.A) (hb : Binds X.K fd ps []) (hx : Passes CX X (fun _ _ _ => False)) (hg : Gl X x) (hm : X.mg x = some (.ref C))
    (hdb : (x == ("__debug__" : Str)) = false := by decide) :
    L2N.PMk X (.Call (.Name x p) [] [] pos) (tMkN C sp) := by
  intro pins s σ H Q I h
  obtain ⟨nm, q, N, bs, bm, sn, sub, ab, col, dd, k0, k1, k2, k3, k5, hC, hbm⟩ := T.cls
  refine wpAny_Call_Name_kw (ld_glob I hg hm ?_ hdb)
  refine PySem.W.callWith_K0 I.kIn T.kC ?_
  obtain ⟨hp, g, dr, tk, os⟩ := s
  have new : H (hp.objs.size + 1) = none := I.hok.fresh (Nat.le_succ _)
  have hq := h (hp.objs.size + 1) new
  have grow : ∀ b o, hp.get? b = some o → ((hp.push (PySem.W.kdv_tup [])).push (PySem.HandSPX.excO C hp.objs.size)).get? b = some o := fun b o z => Heap.get?_push_of_some _ (Heap.get?_push_of_some _ z)
  have I2 : Inv X pins σ (upd H (hp.objs.size + 1) (exo (hp.objs.size + 1) C none)) ⟨(hp.push (PySem.W.kdv_tup [])).push (PySem.HandSPX.excO C hp.objs.size), g, dr, tk, os⟩ :=
    I.laid (t' := tk) (a := hp.objs.size + 1) (o := exo (hp.objs.size + 1) C none) (h' := (hp.push (PySem.W.kdv_tup [])).push (PySem.HandSPX.excO C hp.objs.size)) grow (Nat.le_succ _) (exo_ok (by heap_get))
  have r2 : Vals [V.ref (hp.objs.size + 1)] [Value.ref (hp.objs.size + 1)] := .cons rfl .nil
  have lens : [Value.ref (hp.objs.size + 1)].length = ps.length := r2.length.symm.trans (F1.len _ _ _ _ hq)
  have b2 := hb _ [Value.ref (hp.objs.size + 1)] I2.kIn (by rw [List.append_nil]; exact lens)
  rw [List.append_nil] at b2
  show wpAny _ _ (call (.ref C) []) _ _ _
  refine wpAny_call (PySem.HandSPX.call_own F.excBase_ValueError (fun Y => PySem.HandSPX.refsVE_contains Y bm hbm) (I.kIn _ _ hC) (PySem.W.looks_findIn I.kIn iC) (fun self => PySem.W.bind_fn I.kIn self tI) (Nat.zero_le _)
    (codeAny_mono (FnOk.run F1 _ X.stack _ _ ⟨[Value.ref (hp.objs.size + 1)], []⟩ [Value.ref (hp.objs.size + 1)] _ _ (fun _ _ _ => False) (hr.make C [] []) (I2.env0.make C [] []) b2 r2 hq) fun r s' hq' => ?_))
  cases r with
  | error er => exact hx pins σ _ _ er s' I2 hq'
  | ok fl =>
    cases fl with
    | next => exact hq'.elim
    | brk => exact hq'.elim
    | cont => exact hq'.elim
    | ret u =>
      obtain ⟨v, H2, os2, bare, un, hok, rv, ev, ea, q2⟩ := hq'
      subst ev
      obtain ⟨h2, g2, d2, t2, os'⟩ := s'
      obtain ⟨t0, G, J, kG, ge, hoe⟩ := mk_endN (d2 := d2) (t2 := t2) I (Nat.le_succ _) grow un hok os2 bare ea
      exact ⟨rv, hp.objs.size + 1, _, _, ⟨G, g2, d2, t2, os'⟩, _, .ref C, none, rfl, J, kG, ge, hoe, ⟨rfl, rfl, fun ws hw => by cases hw; rfl⟩, rfl, rfl, del_same, rfl, bare, raises_own T.exC T.tyC, q2⟩
def spErr0 (D : Addr) : Sp := fun vs H Q _ => ∃ a : Addr, vs = [.ref a] ∧ H a = some (exo a D none) ∧ ∀ H1, Ex H H1 → Q .non H1
theorem mk_err0 {D : Addr} {σ : L2.St} {H : Hp} {Q : XK} (k : ∀ H', Ex H H' → Q (.ref D) none H') : tMkN D (spErr0 D) σ H Q := fun a ha => ⟨a, rfl, upd_same, fun H1 e1 => by
  have h1 := e1 a _ upd_same
  refine ⟨rfl, h1, k _ fun b o hb => ?_⟩
  have na : b ≠ a := ne_of_none hb ha
  rw [del_ne na]
  exact e1 b o (by rw [upd_ne na]; exact hb)⟩
end ZX
set_option maxHeartbeats 2000000
namespace ZX
open PySem PySem.Spec PyProof.Rows L2 He
/-! ### a def of the module called with keywords, errors told at the reading -/
section
variable {X : Cx} {CX : CXT} {k n : Nat} {f : Addr} {fd : FuncData} {ps ks : List Str} {sp : Sp} {E : L2.St → XK} {e : Expr} {es : List Expr} {kws : List Keyword} {x : Str} {p pos : Pos} {t tk : TA}
  {gg : List Value → List Value → List Value} {gV : List V → List V → List V}
def tFkE (n m : Nat) (sp : Sp) (gV : List V → List V → List V) (E : L2.St → XK) (t tk : TA) : TE := fun σ H Q => t σ H fun vs H2 => tk σ H2 fun zs H3 => vs.length = n ∧ zs.length = m ∧ sp (gV vs zs) H3 Q (E σ)
theorem pe_fkE (F : FnOk X.prog X.w X.K X.mg X.base CX k f fd ps sp) (hr : Room k X.A) (hg : Gl X x) (hm : X.mg x = some (.ref f)) (hk : PySem.W.keepIn X.K (.ref f) = true) (hb : KBn X.K fd ps n ks gg gV) (hx : ∀ σ, PassesAt CX X σ (E σ)) (ha : PA X (e :: es) t) (hkw : PK X kws tk)
    (hall : (backToKw pos (keywordEach kws X.env)).all (·.1.isSome) = true := by rfl) (hks : (backToKw pos (keywordEach kws X.env)).filterMap (·.1) = ks := by rfl)
    (hdb : (x == ("__debug__" : Str)) = false := by decide)
    (hst : starEach (e :: es) X.env = (false, eval e X.env) :: starEach es X.env := by rfl)
    (hpl : ((backTo pos (starEach (e :: es) X.env)).any (·.1) || (backToKw pos (keywordEach kws X.env)).any (·.1.isNone)) = false := by rfl) :
    PE X (.Call (.Name x p) (e :: es) kws pos) (tFkE n ks.length sp gV E t tk) := by
  refine ⟨fun pins s σ H Q I h => ?_⟩
  refine wpAny_Call_Name_kw (ld_glob I hg hm (PySem.W.callWith_KW (h₀ := X.base) I.ok.mod.kin hk hall (thn (ha.run pos pins _ σ H _ I h) fun us s2 ⟨vs, H2, I3, r, q2⟩ => ?_) hpl hst) hdb)
  refine thn (hkw.run pos pins s2 σ H2 _ I3 q2) fun ws s3 ⟨zs, H3, I4, rz, l1, l2, q3⟩ => ⟨I4.kIn, ?_⟩
  rw [hks]
  exact run_fnKS F hr hb (hx σ) I4 r rz l1 l2 q3
theorem pe_fkE0 (F : FnOk X.prog X.w X.K X.mg X.base CX k f fd ps sp) (hr : Room k X.A) (hg : Gl X x) (hm : X.mg x = some (.ref f)) (hk : PySem.W.keepIn X.K (.ref f) = true) (hb : KBn X.K fd ps 0 ks gg gV) (hx : ∀ σ, PassesAt CX X σ (E σ)) (hkw : PK X kws tk)
    (hall : (backToKw pos (keywordEach kws X.env)).all (·.1.isSome) = true := by rfl) (hks : (backToKw pos (keywordEach kws X.env)).filterMap (·.1) = ks := by rfl)
    (hdb : (x == ("__debug__" : Str)) = false := by decide)
    (hpl : ((backTo pos (starEach [] X.env)).any (·.1) || (backToKw pos (keywordEach kws X.env)).any (·.1.isNone)) = false := by rfl) :
    PE X (.Call (.Name x p) [] kws pos) (tFkE 0 ks.length sp gV E tNil tk) := by
  refine ⟨fun pins s σ H Q I h => ?_⟩
  refine wpAny_Call_Name_kw (ld_glob I hg hm (PySem.W.callWith_KW0 (h₀ := X.base) I.ok.mod.kin hk hall ?_ hpl) hdb)
  refine thn (hkw.run pos pins s σ H _ I h) fun ws s2 ⟨zs, H2, I2, rz, l1, l2, q2⟩ => ⟨I2.kIn, ?_⟩
  rw [hks]
  exact run_fnKS (us := []) (vs := []) F hr hb (hx σ) I2 .nil rz l1 l2 q2
end
end ZX
set_option maxHeartbeats 2000000
namespace ZX
open PySem PySem.Spec PyProof.Rows L2 He
/-! ### x in o by an own `__contains__` -/
def rInOwn (C : Addr) (sp : Sp) (E : XK) : R2 := fun x y H Q => ∃ a dx fs, y = .ref a ∧ H a = some (.ins C dx fs) ∧ sp [y, x] H (fun v H' => ∃ b : Bool, v = .bl b ∧ Q (.bl b) H') E
theorem op_inOwn {X : Cx} {CX : CXT} {n : Nat} {C g : Addr} {sp : Sp} {E : XK} (hs : PySem.W.findIn X.K (.ref C) "__contains__" = some (some (.ref g))) (hf : PySem.W.isFn X.K (.ref g) = true) (F : FnR X.prog X.w X.K X.mg X.base CX n g sp) (hr : Room n X.A) (hx : Passes CX X E) :
    OpR X (compareOp .In) (rInOwn C sp E) := by
  intro pins s σ H x y v u Q I rx ry h
  obtain ⟨a, dx, fs, rfl, ha, q⟩ := h
  cases (show u = Value.ref a from ry)
  obtain ⟨mA, J, _⟩ := ins_get I.hok ha
  obtain ⟨od, J, _⟩ := J.look
  obtain ⟨m, hF⟩ := I.fr
  refine PySem.W.in_K hF I.ok.mod.kin J hs hf ?_
  refine wpAny_mono (wpAny_call (run_fnR (us := [.ref a, v]) (vs := [.ref a, x]) F hr hx I (.cons rfl (.cons rx .nil)) q)) (fun w s' z => ?_) fun _ _ x => x
  obtain ⟨z', H', I', rz, b, eb, qz⟩ := z
  subst eb
  cases (show w = Value.bool b from rz)
  exact wpAny_pure ⟨.bl b, H', I', rfl, qz⟩
end ZX
set_option maxHeartbeats 2000000
namespace ZX
open PySem PySem.Spec PyProof.Rows L2 He
/-- a name of the module that stands for a tuple of texts -/
theorem gtup_ok {K : PySem.W.Frag} {x : Str} {zs : List Str} (h : gtupB K x zs = true) : ∀ H, SqT K H (ga K x) (zs.map V.str) := fun H => by
  unfold gtupB at h
  split at h
  · rename_i t d its n sl z
    obtain ⟨b1, b2⟩ := ba h
    obtain ⟨b3, b4⟩ := ba b2
    have e : t = "tuple" := of_decide_eq_true b1
    subst e
    exact .inr ⟨_, its, n, z, rfl, rfl, Nat.le_trans (of_decide_eq_true b3) (by decide), strVs_ok b4⟩
  · cases h
end ZX
set_option maxHeartbeats 2000000
namespace ZX
open PySem PySem.Spec PyProof.Rows L2 He
/-! ### bool(o) by an own `__bool__` -/
theorem meets_boolOwn {prog : Program} {w : World} {x : Addr} : MeetsIn prog w (Builtin.«bool.__new__» ⟨[.type "bool", .ref x], []⟩) (fun A R s => wpAny (model prog w) A.in1 (truthy (.ref x)) (fun b s' => R (.ok (.ret (.bool b))) s') (fun e s' => R (.error e) s') s) :=
  MeetsIn.of_wp fun A R s hs => by
    have f1 := F.conv_sub_bool
    obtain ⟨hp, g, d, tk, os⟩ := s
    repeat (any_goals (first | assumption | (with_reducible refine wpAny_mono hs ?_ fun _ _ x => x) | wp_step))
    all_goals first | exact ⟨_, rfl, hs⟩ | skip
    intro b s' h
    repeat (any_goals (first | assumption | wp_step))
    all_goals first | exact ⟨_, rfl, h⟩ | skip
def rBoolOwn (C : Addr) (sp : Sp) (E : XK) : List V → Hp → VK → Prop := fun xs H Q => ∃ a dx fs, xs = [.ref a] ∧ H a = some (.ins C dx fs) ∧ sp [.ref a] H (fun v H' => ∃ b : Bool, v = .bl b ∧ Q v H') E
theorem call_boolOwn {X : Cx} {CX : CXT} {n : Nat} {C g : Addr} {sp : Sp} {E : XK} (hs : PySem.W.findIn X.K (.ref C) "__bool__" = some (some (.ref g))) (hf : PySem.W.isFn X.K (.ref g) = true) (Fn : FnR X.prog X.w X.K X.mg X.base CX n g sp) (hr : Room (n + 2) X.A)
    (hx : ∀ (H : Hp) (s : Shared) (e : Value) (s' : Shared), CX X.stack H s E e s' → False) : CallR X (.type "bool") (rBoolOwn C sp E) := by
  intro pins s σ H xs us Q I r h
  obtain ⟨a, dx, fs, rfl, ha, q⟩ := h
  cases r with
  | cons r1 rs =>
    cases rs
    cases r1
    obtain ⟨mA, J, _⟩ := ins_get I.hok ha
    obtain ⟨od, J, _⟩ := J.look
    obtain ⟨m, hF⟩ := I.fr
    refine callType_newIn F.called_bool F.newNe_bool (F.typeCall_bool_1 _) (F.newCall_bool_1 _) (fun obj => F.args_object_init_2 obj _) F.entry_bool_new meets_boolOwn ?_
    refine PySem.W.truthy_K hF I.ok.mod.kin J hs hf ?_
    refine wpAny_call (codeAny_mono (Fn X.A.in1.in1 X.stack s H [.ref a] [.ref a] _ E hr.in1.in1 I.env0.in1.in1 (.cons rfl .nil) q) fun r s' hq => ?_)
    cases r with
    | error e => exact (hx _ _ _ _ hq).elim
    | ok fl =>
      cases fl with
      | ret u =>
        obtain ⟨v, H', I2, rv, b, ev, q2⟩ := I.after hq
        subst ev
        cases (show u = Value.bool b from rv)
        exact ⟨rfl, .bl b, H', I2, rfl, q2⟩
      | next => exact False.elim hq
      | brk => exact False.elim hq
      | cont => exact False.elim hq
/-! ### a default that is an empty tuple; C(k = v) where a default stands -/
theorem etup_ok {K : PySem.W.Frag} {a : Addr} (h : etupB K a = true) : ∀ H, SqT K H a [] := fun H => by
  unfold etupB at h
  split at h
  · rename_i t d its n sl z
    obtain ⟨b1, b2⟩ := Bool.and_eq_true_iff.mp h
    have e : t = "tuple" := of_decide_eq_true b1
    subst e
    have e2 : its = #[] := Array.eq_empty_of_size_eq_zero (of_decide_eq_true b2)
    subst e2
    exact .inr ⟨_, #[], n, z, rfl, rfl, by decide, .nil⟩
  · cases h
theorem kbAllD {K : PySem.W.Frag} {x qual : Str} {params : Arguments} {body : List Stmt} {scope : Scope} {dvs : List V} {kws : List (Str × V)} {f : Addr} {fd : FuncData} {ps : List Str} (F : FunD K x qual params body scope dvs kws f fd) (n : Nat) (ks : List Str)
    (g : {α : Type} → List α → List α → List α) (hd : dvs ≠ [])
    (hrel : ∀ {vs zs : List V} {us ws : List Value}, Vals vs us → Vals zs ws → Vals (g vs zs) (g us ws))
    (h : ∀ (T : Addr) (kV doc pm : Value) (an : Option Addr) (cdv ct : Value) (us its ws : List Value), us.length = n → its.length = dvs.length → ws.length = ks.length →
      ∃ k, bindArgs (PySem.W.fnOf x qual params body scope (.ref T) kV doc pm an cdv ct) ⟨us, ks.zip ws⟩ = seqItems? (.ref T) >>= k ∧ k (some its.toArray) = pure (ps.zip (g us ws))) :
    KBn K fd ps n ks (fun us ws => g us ws) (fun vs zs => g vs zs) := by
  obtain ⟨oc, od, dV, kV, doc, pm, an, cdv, ct, osl, rfl, lk, hcd, hD, hK⟩ := F.ex
  rcases hD with ⟨e, _⟩ | ⟨_, T, o, its, m, rfl, lT, oT, rT⟩
  · exact absurd e hd
  · refine ⟨fun s us ws X l1 l2 => ?_, fun r1 r2 => hrel r1 r2⟩
    obtain ⟨k, e1, e2⟩ := h T kV doc pm an cdv ct us its ws l1 rT.length.symm l2
    refine BindsTo.of_looks fun M => ?_
    rw [e1]
    exact looks_items X lT oT (.of_pure e2)
end ZX
set_option maxHeartbeats 2000000
namespace ZX
open PySem PySem.Spec PyProof.Rows L2 He
/-! ### o.m(e, ..), what it lets out told at the slots -/
def tMethE (C : Addr) (m : Str) (sp : Sp) (E : L2.St → XK) (ta : TE) (t : TA) : TE := fun σ H Q => ta σ H fun x H1 => ∃ a dx fs, x = .ref a ∧ H1 a = some (.ins C dx fs) ∧ fs.lookup m = none ∧ t σ H1 fun vs H2 => sp (x :: vs) H2 Q (E σ)
section
variable {X : Cx} {CX : CXT} {k : Nat} {f C : Addr} {fd : FuncData} {ps : List Str} {sp : Sp} {E : L2.St → XK} {x m : Str} {p pos apos : Pos} {e o : Expr} {es : List Expr} {ta : TE} {t : TA}
theorem pe_methE {pl : Sem Bool} (he : PE X o ta) (c : Cls X.K C) (hm : Meth X.K C m f) (F : FnOk X.prog X.w X.K X.mg X.base CX k f fd ps sp) (hr : Room k X.A) (hb : Binds X.K fd ps []) (hx : ∀ σ, PassesAt CX X σ (E σ)) (ha : PA X (e :: es) t)
    (hst : starEach (e :: es) X.env = (false, eval e X.env) :: starEach es X.env := by rfl) (hpl : (backTo pos (starEach es X.env)).any (·.1) = false := by rfl)
    (ht : eval (.Call (.Attribute o m apos) (e :: es) [] pos) X.env = (do
      let ov ← eval o X.env
      standAt apos.atName
      let (f, first) ← holding [ov] (getMethod ov m pl)
      callWith pos f first (backTo pos (starEach (e :: es) X.env)) (backToKw pos (keywordEach [] X.env))) := by rfl) :
    PE X (.Call (.Attribute o m apos) (e :: es) [] pos) (tMethE C m sp E ta t) := by
  refine ⟨fun pins s σ H Q I h => ?_⟩
  refine PySem.W.methodCall_KW (pl := pl) (thn (he.run pins s σ H _ I h) fun u s1 ⟨x, H1, I1, rx, a, dx, fs, ex, ea, l, q⟩ => ?_) ht
  subst ex
  obtain rfl : u = Value.ref a := rx
  refine getmeth_ok I1 ea c hm l ?_
  refine PySem.W.callWith_K (first := [.ref a]) (h₀ := X.base) I.ok.mod.kin hm.kp (thn (ha.run pos pins s1 σ H1 _ I1 q) fun us s2 ⟨vs, H2, I2, r, q2⟩ => ⟨I2.kIn, ?_⟩) hst hpl
  exact run_fnS (us := .ref a :: us) (vs := .ref a :: vs) F hr hb (hx σ) I2 (.cons rfl r) q2
end
end ZX
set_option maxHeartbeats 4000000
namespace ZX
open PySem PySem.Spec PyProof.Rows L2 TL Evl
/-! ### o.m() by a positional promise; o.m(k = v, ..) whose errors are told at slots; a default tuple of which some are used -/
section
variable {X : Cx} {CX : CXT} {k : Nat} {f C : Addr} {fd : FuncData} {ps ks : List Str} {sp : Sp} {x m : Str} {p pos apos : Pos} {e o : Expr} {es : List Expr} {ta : TE} {t tk : TA} {kws : List Keyword} {gg : List Value → List Value → List Value} {gV : List V → List V → List V}
theorem pe_methR0 {E : XK} {pl : Sem Bool} (he : PE X o ta) (c : Cls X.K C) (hm : Meth X.K C m f) (F : FnR X.prog X.w X.K X.mg X.base CX k f sp) (hr : Room k X.A) (hx : Passes CX X E)
    (ht : eval (.Call (.Attribute o m apos) [] [] pos) X.env = (do
      let ov ← eval o X.env
      standAt apos.atName
      let (f, first) ← holding [ov] (getMethod ov m pl)
      callWith pos f first (backTo pos (starEach [] X.env)) (backToKw pos (keywordEach [] X.env))) := by rfl) :
    PE X (.Call (.Attribute o m apos) [] [] pos) (tMethR C m sp E ta tNil) := by
  refine ⟨fun pins s σ H Q I h => ?_⟩
  refine PySem.W.methodCall_KW (pl := pl) (thn (he.run pins s σ H _ I h) fun u s1 ⟨x, H1, I1, rx, a, dx, fs, ex, ea, l, q⟩ => ?_) ht
  subst ex
  obtain rfl : u = Value.ref a := rx
  refine getmeth_ok I1 ea c hm l ?_
  exact PySem.W.callWith_K0 (first := [.ref a]) I1.kIn hm.kp (wpAny_call (run_fnR (us := [.ref a]) (vs := [.ref a]) F hr hx I1 (.cons rfl .nil) q))
def tMethKE (C : Addr) (m : Str) (n : Nat) (sp : Sp) (gV : List V → List V → List V) (E : L2.St → XK) (ta : TE) (tk : TA) : TE := fun σ H Q => ta σ H fun x H1 => ∃ a dx fs, x = .ref a ∧ H1 a = some (.ins C dx fs) ∧ fs.lookup m = none ∧
  tk σ H1 fun zs H2 => zs.length = n ∧ sp (gV [x] zs) H2 Q (E σ)
theorem pe_methKE {E : L2.St → XK} {pl : Sem Bool} (he : PE X o ta) (c : Cls X.K C) (hm : Meth X.K C m f) (F : FnOk X.prog X.w X.K X.mg X.base CX k f fd ps sp) (hr : Room k X.A) (hb : KBn X.K fd ps 1 ks gg gV) (hx : ∀ σ, PassesAt CX X σ (E σ)) (hkw : PK X kws tk)
    (hall : (backToKw pos (keywordEach kws X.env)).all (·.1.isSome) = true := by rfl) (hks : (backToKw pos (keywordEach kws X.env)).filterMap (·.1) = ks := by rfl)
    (hpl : ((backTo pos (starEach [] X.env)).any (·.1) || (backToKw pos (keywordEach kws X.env)).any (·.1.isNone)) = false := by rfl)
    (ht : eval (.Call (.Attribute o m apos) [] kws pos) X.env = (do
      let ov ← eval o X.env
      standAt apos.atName
      let (f, first) ← holding [ov] (getMethod ov m pl)
      callWith pos f first (backTo pos (starEach [] X.env)) (backToKw pos (keywordEach kws X.env))) := by rfl) :
    PE X (.Call (.Attribute o m apos) [] kws pos) (tMethKE C m ks.length sp gV E ta tk) := by
  refine ⟨fun pins s σ H Q I h => ?_⟩
  refine PySem.W.methodCall_KW (pl := pl) (thn (he.run pins s σ H _ I h) fun u s1 ⟨x, H1, I1, rx, a, dx, fs, ex, ea, l, q⟩ => ?_) ht
  subst ex
  obtain rfl : u = Value.ref a := rx
  refine getmeth_ok I1 ea c hm l ?_
  refine PySem.W.callWith_KW0 (first := [.ref a]) (h₀ := X.base) I1.ok.mod.kin hm.kp hall ?_ hpl
  refine thn (hkw.run pos pins s1 σ H1 _ I1 q) fun ws s2 ⟨zs, H2, I2, rz, l2, q2⟩ => ⟨I2.kIn, ?_⟩
  rw [hks]
  exact run_fnKS (us := [.ref a]) (vs := [.ref a]) F hr hb (hx σ) I2 (.cons rfl .nil) rz rfl l2 q2
end
theorem kbDfl {K : PySem.W.Frag} {x qual : Str} {params : Arguments} {body : List Stmt} {scope : Scope} {dvs : List V} {kws : List (Str × V)} {f : Addr} {fd : FuncData} {ps : List Str} (F : FunD K x qual params body scope dvs kws f fd) (n : Nat) (ks : List Str)
    (g : {α : Type} → List α → List α → List α → List α) (hd : dvs ≠ [])
    (hrel : ∀ {vs ds zs : List V} {us its ws : List Value}, Vals vs us → Vals ds its → Vals zs ws → Vals (g vs ds zs) (g us its ws))
    (h : ∀ (T : Addr) (kV doc pm : Value) (an : Option Addr) (cdv ct : Value) (us its ws : List Value), us.length = n → its.length = dvs.length → ws.length = ks.length →
      ∃ k, bindArgs (PySem.W.fnOf x qual params body scope (.ref T) kV doc pm an cdv ct) ⟨us, ks.zip ws⟩ = seqItems? (.ref T) >>= k ∧ k (some its.toArray) = pure (ps.zip (g us its ws))) :
    ∃ gg, KBn K fd ps n ks gg (fun vs zs => g vs dvs zs) := by
  obtain ⟨oc, od, dV, kV, doc, pm, an, cdv, ct, osl, rfl, lk, hcd, hD, hK⟩ := F.ex
  rcases hD with ⟨e, _⟩ | ⟨_, T, o, its, m, rfl, lT, oT, rT⟩
  · exact absurd e hd
  · refine ⟨fun us ws => g us its ws, fun s us ws X l1 l2 => ?_, fun r1 r2 => hrel r1 rT r2⟩
    obtain ⟨k, e1, e2⟩ := h T kV doc pm an cdv ct us its ws l1 rT.length.symm l2
    refine BindsTo.of_looks fun M => ?_
    rw [e1]
    exact looks_items X lT oT (.of_pure e2)
end ZX
namespace Z
open PySem PySem.Spec PyProof.Rows L2 TL Evl
/-! ### longer texts -/
section
variable {K : PySem.W.Frag} {σ : L2.St} {H : Hp} {te tb : TE} {a : Str}
theorem ev_lenStrW (h : Ev te σ H (.str a)) (hz : a.length ≤ 200000) : Ev (tCB rLenStr (tCons te tNil)) σ H (.int (a.length : Int)) := fun H1 e Q q => h H1 e _ fun H2 e2 => ⟨a, rfl, Nat.le_trans hz (by decide), q H2 e2⟩
theorem ev_slSW {tl' th : TO} {lo hi : Option Int} (h : Ev te σ H (.str a)) (h1 : EvO tl' σ H lo) (h2 : EvO th σ H hi) (hz : a.length ≤ 200000) : Ev (tSl rSlS te tl' th) σ H (.str (cutS a lo hi)) := fun H1 e Q q =>
  h H1 e _ fun H2 e2 => h1 H2 (e.trans e2) _ fun H3 e3 => h2 H3 ((e.trans e2).trans e3) _ fun H4 e4 => ⟨a, rfl, Nat.le_trans hz (by decide), q H4 ((e2.trans e3).trans e4)⟩
end
def rRepW : R2 := fun x y H Q => ∃ (z : Str) (i : Int), x = .str z ∧ y = .int i ∧ 0 ≤ i ∧ i ≤ 200000 ∧ z.length ≤ 1 ∧ Q (.str (repS z i.toNat)) H
theorem op_repW {X : Cx} : OpR X (binaryOp .Mult) rRepW := by
  intro pins s σ H x y v u Q I rx ry h
  obtain ⟨z, i, rfl, rfl, h0, h1, hz, q⟩ := h
  obtain ⟨t, rfl⟩ := rx
  obtain ⟨t', rfl⟩ := ry
  have hle : z.length * i.toNat ≤ 200000 := Nat.le_trans (Nat.mul_le_mul hz (show i.toNat ≤ 200000 by omega)) (by decide)
  refine PySem.P.mul_str ?_ (fun hn _ hgt => ?_) (fun _ _ => PyProof.Rows.short24 (by omega)) ?_
  · rw [decide_eq_false (show ¬ i < -(2 ^ 63) by omega), decide_eq_false (show ¬ i ≥ 2 ^ 63 by omega)]
    rfl
  · have h2 : i ∣ i := Int.dvd_refl i
    have h3 : (2 ^ 63 - 1) / (200000 : Int) ≤ (2 ^ 63 - 1) / i := by
      have : (2 ^ 63 - 1) / (200000 : Int) * i ≤ 2 ^ 63 - 1 := by
        have e : (2 ^ 63 - 1) / (200000 : Int) = 46116860184273 := by decide
        rw [e]
        omega
      exact (Int.le_ediv_iff_mul_le (by omega)).mpr this
    have e : (2 ^ 63 - 1) / (200000 : Int) = 46116860184273 := by decide
    rw [e] at h3
    omega
  · by_cases hn : i < 1
    · rw [if_pos hn]
      have : repS z i.toNat = Str.empty := by unfold repS; rw [if_pos (show i.toNat = 0 by omega)]
      rw [this] at q
      exact ⟨by decide, ⟨.str Str.empty, H, I.tok _, ⟨_, rfl⟩, q⟩⟩
    · rw [if_neg hn]
      have e1 : (i == 1) = (i.toNat == 1) := by
        by_cases h : i = 1
        · subst h; rfl
        · rw [beq_eq_false_iff_ne.mpr h, beq_eq_false_iff_ne.mpr (show i.toNat ≠ 1 by omega)]
      have e2 : repS z i.toNat = if (i.toNat == 1 || z.length == 0) = true then z else ⟨(List.replicate i.toNat z.cps).foldl (· ++ ·) #[]⟩ := by
        unfold repS
        rw [if_neg (show ¬ i.toNat = 0 by omega)]
      have hl := repS_len z i.toNat
      rw [e2] at q hl
      rw [e1]
      by_cases hc : (i.toNat == 1 || z.length == 0) = true
      · rw [if_pos hc] at q ⊢
        exact ⟨.str z, H, I, ⟨t, rfl⟩, q⟩
      · rw [if_neg hc] at q hl ⊢
        refine ⟨?_, ⟨.str _, H, I.tok _, ⟨_, rfl⟩, q⟩⟩
        rw [hl, sizeLine_eq]
        rw [Nat.mul_comm] at hle
        omega
/-- a comprehension over a tuple -/
theorem lc_relT {K : PySem.W.Frag} {a : Addr} {xs : List V} {g : TG} {tt : TT} {te : TE} {vs : List Nat} {σ : L2.St} {H0 : Hp} {D : Addr} {Qd : Hp → Prop} {α : Type} (acc : Nat → List α) (R : Hp → V → α → Prop)
    (mono : ∀ H1 H2 x o, (∀ b ob, b ≠ D → H1 b = some ob → H2 b = some ob) → (∃ ys, H1 D = some (.lst ys)) → R H1 x o → R H2 x o)
    (hx : ∀ H, Ex H0 H → SqT K H a xs) (hD : H0 D = none) (h00 : acc 0 = []) (hz : xs.length ≤ 50000)
    (hs : ∀ i x H, xs[i]? = some x → Ex H0 H → ∀ (k : VK) (k0 : Hp → Prop), (∀ y H4 o, Ex H H4 → acc (i + 1) = acc i ++ [o] → R H4 y o → k y H4) → (∀ H3, Ex H H3 → acc (i + 1) = acc i → k0 H3) →
      g x (wipe σ vs) H fun σ2 H2 => wipe σ2 vs = wipe σ vs ∧ tt σ2 H2 fun b H3 => if b = true then te σ2 H3 k else k0 H3)
    (hd : ∀ H ys, Ex H0 H → H D = some (.lst ys) → Rel (R H) ys (acc xs.length) → Qd H) :
    ∃ W : Nat → Nat → Hp → Prop, (∃ m, W 0 m (upd H0 D (.lst []))) ∧ ∀ i m H, W i m H →
      ((Itt K a).stop i H ∧ Qd H) ∨ ((Itt K a).go i H ∧ ∃ Nx : Hp → Prop, (∀ H', Nx H' → ∃ m', m' < m ∧ W (i + 1) m' H') ∧ ∀ x H', (Itt K a).yld i H x H' → g x (wipe σ vs) H' fun σ2 H2 => wipe σ2 vs = wipe σ vs ∧ tt σ2 H2 fun b H3 =>
        if b = true then te σ2 H3 fun y H4 => ∃ acc, H4 D = some (.lst acc) ∧ acc.length < sizeLine ∧ Nx (upd H4 D (.lst (acc ++ [y]))) else Nx H3) := by
  refine lc_tup (xs := xs) (fun i H => Ex H0 H ∧ ∃ ys, H D = some (.lst ys) ∧ ys.length ≤ i ∧ Rel (R H) ys (acc i)) ⟨Ex.new hD, [], upd_same, Nat.le_refl _, by rw [h00]; exact Rel.nil⟩ (fun i H _ p => hx H p.1) (fun i x H hi p => ?_) (fun H p => ?_)
  · obtain ⟨e0, ys, hy, hl, hr⟩ := p
    have hi2 : i < xs.length := (List.getElem?_eq_some_iff.mp hi).1
    refine hs i x H hi e0 _ _ (fun y H4 o e4 ea r => ?_) (fun H3 e3 ea => ?_)
    · refine ⟨ys, e4 _ _ hy, sz_lt (by omega), Ex.mut (e0.trans e4) hD, ys ++ [y], upd_same, by rw [List.length_append]; exact Nat.add_le_add_right hl 1, ?_⟩
      rw [ea]
      refine Rel.snoc (hr.mono fun x o q => ?_) ?_
      · exact mono _ _ x o (fun b ob hb h => by rw [upd_ne hb]; exact h) ⟨ys, e4 _ _ hy⟩ (mono _ _ x o (fun b ob _ h => e4 b ob h) ⟨ys, hy⟩ q)
      · exact mono _ _ y o (fun b ob hb h => by rw [upd_ne hb]; exact h) ⟨ys, e4 _ _ hy⟩ r
    · refine ⟨e0.trans e3, ys, e3 _ _ hy, by omega, ?_⟩
      rw [ea]
      exact hr.mono fun x o q => mono _ _ x o (fun b ob _ h => e3 b ob h) ⟨ys, hy⟩ q
  · obtain ⟨e0, ys, hy, hl, hr⟩ := p
    exact hd H ys e0 hy hr
end Z
set_option maxHeartbeats 4000000
namespace Z
open PySem PySem.Spec PyProof.Rows L2 TL Evl
theorem sc_wall : FnScope ["k"] ["k"] (L2.defScope s_wall) := ⟨rfl, rfl, rfl, by decide +kernel, rfl, by decide +kernel, by decide +kernel⟩
theorem sc_consists_of : FnScope ["text", "signs"] ["text", "signs"] (L2.defScope s_consists_of) := ⟨rfl, rfl, rfl, by decide +kernel, rfl, by decide +kernel, by decide +kernel⟩
theorem sc_is_plain : FnScope ["text"] ["text"] (L2.defScope s_is_plain) := ⟨rfl, rfl, rfl, by decide +kernel, rfl, by decide +kernel, by decide +kernel⟩
theorem sc_is_plain_lines : FnScope ["text"] ["text"] (L2.defScope s_is_plain_lines) := ⟨rfl, rfl, rfl, by decide +kernel, rfl, by decide +kernel, by decide +kernel⟩
theorem sc_is_word : FnScope ["text", "most"] ["text", "most"] (L2.defScope s_is_word) := ⟨rfl, rfl, rfl, by decide +kernel, rfl, by decide +kernel, by decide +kernel⟩
theorem sc_is_field_name : FnScope ["text"] ["text"] (L2.defScope s_is_field_name) := ⟨rfl, rfl, rfl, by decide +kernel, rfl, by decide +kernel, by decide +kernel⟩
theorem sc_is_value : FnScope ["text"] ["text"] (L2.defScope s_is_value) := ⟨rfl, rfl, rfl, by decide +kernel, rfl, by decide +kernel, by decide +kernel⟩
theorem sc_read_number : FnScope ["text"] ["text"] (L2.defScope s_read_number) := ⟨rfl, rfl, rfl, by decide +kernel, rfl, by decide +kernel, by decide +kernel⟩
theorem sc_read_extent : FnScope ["text", "places", "_", "length", "first", "last", "numbers", "part", "number"] ["text"] (L2.defScope s_read_extent) := ⟨rfl, rfl, rfl, by decide +kernel, rfl, by decide +kernel, by decide +kernel⟩
theorem sc_read_parts : FnScope ["response", "single", "several", "length", "pieces"] ["response"] (L2.defScope s_read_parts) := ⟨rfl, rfl, rfl, by decide +kernel, rfl, by decide +kernel, by decide +kernel⟩
theorem sc_read_single : FnScope ["text", "body", "extent"] ["text", "body"] (L2.defScope s_read_single) := ⟨rfl, rfl, rfl, by decide +kernel, rfl, by decide +kernel, by decide +kernel⟩
theorem sc_read_blocks : FnScope ["body", "pieces", "length", "least", "at", "start", "end", "own", "text_at", "closing"] ["body"] (L2.defScope s_read_blocks) := ⟨rfl, rfl, rfl, by decide +kernel, rfl, by decide +kernel, by decide +kernel⟩
theorem sc_read_block_line : FnScope ["body", "at", "stop", "extent"] ["body", "at"] (L2.defScope s_read_block_line) := ⟨rfl, rfl, rfl, by decide +kernel, rfl, by decide +kernel, by decide +kernel⟩
theorem sc_are_fields : FnScope ["fields", "name", "value"] ["fields"] (L2.defScope s_are_fields) := ⟨rfl, rfl, rfl, by decide +kernel, rfl, by decide +kernel, by decide +kernel⟩
theorem sc_is_body : FnScope ["text"] ["text"] (L2.defScope s_is_body) := ⟨rfl, rfl, rfl, by decide +kernel, rfl, by decide +kernel, by decide +kernel⟩
theorem sc_law_source : FnScope ["script", "seed", "cell"] ["script"] (L2.defScope s_law_source) := ⟨rfl, rfl, rfl, by decide +kernel, rfl, by decide +kernel, by decide +kernel⟩
theorem sc_law_mixed : FnScope ["cell", "step", "limit", "first", "second"] ["cell", "step", "limit"] (L2.defScope s_law_mixed) := ⟨rfl, rfl, rfl, by decide +kernel, rfl, by decide +kernel, by decide +kernel⟩
theorem sc_law_draw : FnScope ["source", "limit", "cell", "digit"] ["source", "limit"] (L2.defScope s_law_draw) := ⟨rfl, rfl, rfl, by decide +kernel, rfl, by decide +kernel, by decide +kernel⟩
theorem sc_law_integer : FnScope ["actual"] ["actual"] (L2.defScope s_law_integer) := ⟨rfl, rfl, rfl, by decide +kernel, rfl, by decide +kernel, by decide +kernel⟩
theorem sc_law_char : FnScope ["source", "chars"] ["source"] (L2.defScope s_law_char) := ⟨rfl, rfl, rfl, by decide +kernel, rfl, by decide +kernel, by decide +kernel⟩
theorem sc_law_number : FnScope ["word", "number", "char", "digit"] ["word"] (L2.defScope s_law_number) := ⟨rfl, rfl, rfl, by decide +kernel, rfl, by decide +kernel, by decide +kernel⟩
theorem sc_law_head : FnScope ["word", "dash", "slash", "first", "last", "total"] ["word"] (L2.defScope s_law_head) := ⟨rfl, rfl, rfl, by decide +kernel, rfl, by decide +kernel, by decide +kernel⟩
theorem sc_law_block : FnScope ["letters", "spot", "stop", "head", "end"] ["letters", "spot"] (L2.defScope s_law_block) := ⟨rfl, rfl, rfl, by decide +kernel, rfl, by decide +kernel, by decide +kernel⟩
theorem sc_law_several : FnScope ["letters", "count", "pieces", "total", "last", "spot", "turn", "block", "head"] ["letters", "count"] (L2.defScope s_law_several) := ⟨rfl, rfl, rfl, by decide +kernel, rfl, by decide +kernel, by decide +kernel⟩
theorem sc_law_reading : FnScope ["fields", "letters", "single", "field", "several", "head", "count"] ["fields", "letters"] (L2.defScope s_law_reading) := ⟨rfl, rfl, rfl, by decide +kernel, rfl, by decide +kernel, by decide +kernel⟩
theorem sc_law_letters : FnScope ["source", "style", "turn"] ["source"] (L2.defScope s_law_letters) := ⟨rfl, rfl, rfl, by decide +kernel, rfl, by decide +kernel, by decide +kernel⟩
theorem sc_law_built : FnScope ["source", "count", "start", "pieces", "turn", "letters"] ["source"] (L2.defScope s_law_built) := ⟨rfl, rfl, rfl, by decide +kernel, rfl, by decide +kernel, by decide +kernel⟩
theorem sc_law_bent_blocks : FnScope ["source", "blocks", "bent", "block", "spot", "other", "way", "shift"] ["source", "blocks"] (L2.defScope s_law_bent_blocks) := ⟨rfl, rfl, rfl, by decide +kernel, rfl, by decide +kernel, by decide +kernel⟩
theorem sc_law_bent_text : FnScope ["source", "word", "char", "spot", "way"] ["source", "word", "char"] (L2.defScope s_law_bent_text) := ⟨rfl, rfl, rfl, by decide +kernel, rfl, by decide +kernel, by decide +kernel⟩
theorem sc_law_written_head : FnScope ["block"] ["block"] (L2.defScope s_law_written_head) := ⟨rfl, rfl, rfl, by decide +kernel, rfl, by decide +kernel, by decide +kernel⟩
theorem sc_law_written : FnScope ["blocks", "block"] ["blocks"] (L2.defScope s_law_written) := ⟨rfl, rfl, rfl, by decide +kernel, rfl, by decide +kernel, by decide +kernel⟩
theorem sc_law_bent_fields : FnScope ["source", "name", "value", "way"] ["source", "name", "value"] (L2.defScope s_law_bent_fields) := ⟨rfl, rfl, rfl, by decide +kernel, rfl, by decide +kernel, by decide +kernel⟩
theorem sc_law_same_pieces : FnScope ["actual", "expected", "k", "piece"] ["actual", "expected"] (L2.defScope s_law_same_pieces) := ⟨rfl, rfl, rfl, by decide +kernel, rfl, by decide +kernel, by decide +kernel⟩
theorem sc_law_read : FnScope ["response", "due", "actual", "e"] ["response", "due"] (L2.defScope s_law_read) := ⟨rfl, rfl, rfl, by decide +kernel, rfl, by decide +kernel, by decide +kernel⟩
theorem sc_law_asks : FnScope ["fields", "letters", "due", "response"] ["fields", "letters", "due"] (L2.defScope s_law_asks) := ⟨rfl, rfl, rfl, by decide +kernel, rfl, by decide +kernel, by decide +kernel⟩
theorem sc_law : FnScope ["script", "source", "built", "blocks", "piece", "ahead", "behind", "single", "name", "value", "letters", "due", "fields", "way"] ["script"] (L2.defScope s_law) := ⟨rfl, rfl, rfl, by decide +kernel, rfl, by decide +kernel, by decide +kernel⟩
/-- what the module's names stand for -/
structure Mg (mg : Str → Option Value) : Prop where
  len : mg "len" = none
  all : mg "all" = none
  any : mg "any" = none
  abs : mg "abs" = none
  sum : mg "sum" = none
  isinstance : mg "isinstance" = none
  range : mg "range" = none
  int : mg "int" = none
  bool : mg "bool" = none
  str : mg "str" = none
  min : mg "min" = none
  max : mg "max" = none
  list : mg "list" = none
  tuple : mg "tuple" = none
  LOWER : ∃ u, mg "LOWER" = some u ∧ RelV (.str "abcdefghijklmnopqrstuvwxyz") u
  DIGITS : ∃ u, mg "DIGITS" = some u ∧ RelV (.str "0123456789") u
  WORD_SIGNS : ∃ u, mg "WORD_SIGNS" = some u ∧ RelV (.str "abcdefghijklmnopqrstuvwxyz0123456789-") u
  MOST_NAME : ∃ u, mg "MOST_NAME" = some u ∧ RelV (.int 30) u
  MOST_VALUE : ∃ u, mg "MOST_VALUE" = some u ∧ RelV (.int 200) u
  MOST_DIGITS : ∃ u, mg "MOST_DIGITS" = some u ∧ RelV (.int 6) u
  ValueError : mg "ValueError" = none
/-! ### the law's draws -/
def Sr (H : Hp) (p l0 : Addr) (m : Nat) : Prop := ∃ n, SrcAt H p l0 n ∧ n ≤ m
theorem Sr.has {H : Hp} {p l0 : Addr} {m : Nat} (b : Sr H p l0 m) : ∃ xs, H p = some (.lst xs) := by
  obtain ⟨n, ⟨cs, c1, c2, c3, sd, hp, _⟩, _⟩ := b
  exact ⟨_, hp⟩
theorem Sr.has0 {H : Hp} {p l0 : Addr} {m : Nat} (b : Sr H p l0 m) : ∃ xs, H l0 = some (.lst xs) := by
  obtain ⟨n, ⟨cs, c1, c2, c3, sd, hp, hl, _⟩, _⟩ := b
  exact ⟨_, hl⟩
theorem Sr.ex {H H' : Hp} {p l0 : Addr} {m : Nat} (b : Sr H p l0 m) (e : Ex H H') : Sr H' p l0 m := by
  obtain ⟨n, ⟨cs, c1, c2, c3, sd, hp, hl, r⟩, hn⟩ := b
  exact ⟨n, ⟨cs, c1, c2, c3, sd, e _ _ hp, e _ _ hl, r⟩, hn⟩
theorem Sr.up {H : Hp} {p l0 : Addr} {m m' : Nat} (b : Sr H p l0 m) (h : m ≤ m') : Sr H p l0 m' := by
  obtain ⟨n, hs, hn⟩ := b
  exact ⟨n, hs, Nat.le_trans hn h⟩
theorem Sr.ne {H : Hp} {p l0 l : Addr} {m : Nat} (b : Sr H p l0 m) (h : H l = none) : l ≠ p := by
  obtain ⟨xs, hp⟩ := b.has
  exact (ne_of_none hp h).symm
theorem Sr.ne0 {H : Hp} {p l0 l : Addr} {m : Nat} (b : Sr H p l0 m) (h : H l = none) : l ≠ l0 := by
  obtain ⟨xs, hp⟩ := b.has0
  exact (ne_of_none hp h).symm
theorem Sr.upd {H : Hp} {p l0 l : Addr} {m : Nat} {o : HO} (b : Sr H p l0 m) (n : l ≠ p) (n0 : l ≠ l0) : Sr (L2.upd H l o) p l0 m := by
  obtain ⟨n', ⟨cs, c1, c2, c3, sd, hp, hl, r⟩, hn⟩ := b
  exact ⟨n', ⟨cs, c1, c2, c3, sd, by rw [upd_ne (Ne.symm n)]; exact hp, by rw [upd_ne (Ne.symm n0)]; exact hl, r⟩, hn⟩
theorem tlTJ (ps : List Str) : tl (Txt.join "" ps) = ps.flatMap tl := by
  cases ps with
  | nil => decide +kernel
  | cons p r =>
    rw [join_tl, List.flatMap_cons]
    congr 1
theorem lenTJ (ps : List Str) : (Txt.join "" ps).length = (ps.map (·.length)).sum := by
  rw [← len_tl', tlTJ, List.length_flatMap]
  congr 1
def spInt1 : Sp := fun vs H Q _ => ∃ i : Int, vs = [.int i] ∧ RetV (.bl true) H Q
theorem svI1 {i : Int} {H : Hp} : SpV spInt1 [.int i] H (.bl true) := fun H1 e Q q E => ⟨i, rfl, q⟩
section
variable {P : Program} {w : World} {K : PySem.W.Frag} {mg : Str → Option Value} {base : Heap} {f : Addr} {fd : FuncData} {k : Nat}
theorem ok_consists_of (T : Mg mg) (F : FnP K "consists_of" s_consists_of f fd) (gm : mg "consists_of" = some (.ref f)) : Call P w K mg base 1 "consists_of" ["text", "signs"] (sp2 fun z s => .bl (allIn z s)) := by
  refine mk F gm (fun _ _ _ _ _ _ us hl => match us, hl with | [_, _], _ => rfl) (fun _ _ _ _ _ _ us hl => match us, hl with | [_, _], _ => rfl) sc_consists_of (fun vs H Q E h => ?_) (fun cdv A outer s H vs Q E hr h => ?_)
  · obtain ⟨z, s, rfl, _⟩ := h
    rfl
  · obtain ⟨z, s, rfl, hz, q⟩ := h
    refine ⟨_, (pss_one (ps_ret (pe_cmpR op_eq (pe_bm PySem.F.plainAttrs_str PySem.F.slot_str_strip PySem.F.type_str_strip mz_strip (pv 0) (pa_cons (pv 1) pa_nil)) pe_str (nomark _)))), ?_⟩
    refine s_ret (v := .bl (allIn z s)) (ev_is (ev_op (ev_strip (ev_var rfl) (ev_var rfl) hz) ev_c rv_eqS) ?_) q
    rw [strip_all]
theorem ok_is_plain (T : Mg mg) (F : FnP K "is_plain" s_is_plain f fd) (gm : mg "is_plain" = some (.ref f)) : Call P w K mg base 1 "is_plain" ["text"] (sp1 fun z => .bl (allIn z signs)) := by
  refine mk F gm (fun _ _ _ _ _ _ us hl => match us, hl with | [_], _ => rfl) (fun _ _ _ _ _ _ us hl => match us, hl with | [_], _ => rfl) sc_is_plain (fun vs H Q E h => ?_) (fun cdv A outer s H vs Q E hr h => ?_)
  · obtain ⟨z, rfl, _⟩ := h
    rfl
  · obtain ⟨z, rfl, hz, q⟩ := h
    refine ⟨_, (pss_one (ps_ret (pe_and (pe_bm0 PySem.F.plainAttrs_str PySem.F.slot_str_isascii PySem.F.type_str_isascii mz_isascii (pv 0)) (pe_and (pe_bm0 PySem.F.plainAttrs_str PySem.F.slot_str_isprintable PySem.F.type_str_isprintable mz_isprint (pv 0)) (pe_one (pe_cmpR op_eq (pe_bm PySem.F.plainAttrs_str PySem.F.slot_str_translate PySem.F.type_str_translate (mz_trans rfl) (pv 0) (pa_cons (pe_disp (pps_cons pe_int pe_non pps_nil) (by rfl) (by rfl) (fun z => by cases z) (by decide)) pa_nil)) (pv 0) (nomark _))))))), ?_⟩
    refine s_ret (v := .bl (allIn z signs)) (ev_is (ev_andV (ev_isascii (ev_var rfl)) fun h1 => ev_andV (ev_isprint (ev_var rfl)) fun h2 => ev_op (ev_trans (ev_var rfl) ?_ hz) (ev_var rfl) rv_eqS) ?_) q
    · rw [isascii_tl] at h1
      exact fun c hc => of_decide_eq_true (List.all_eq_true.mp h1 c hc)
    · rw [plain_eq]
theorem ok_is_word (T : Mg mg) (c_consists_of : Call P w K mg base 1 "consists_of" ["text", "signs"] (sp2 fun z s => .bl (allIn z s))) (F : FnP K "is_word" s_is_word f fd) (gm : mg "is_word" = some (.ref f)) :
    Call P w K mg base 2 "is_word" ["text", "most"] (fun vs H Q _ => ∃ (z : Str) (m : Int), vs = [.str z, .int m] ∧ z.length ≤ 100000 ∧ RetV (.bl (wordB z m)) H Q) := by
  refine mk F gm (fun _ _ _ _ _ _ us hl => match us, hl with | [_, _], _ => rfl) (fun _ _ _ _ _ _ us hl => match us, hl with | [_, _], _ => rfl) sc_is_word (fun vs H Q E h => ?_) (fun cdv A outer s H vs Q E hr h => ?_)
  · obtain ⟨z, m, rfl, _⟩ := h
    rfl
  · obtain ⟨z, m, rfl, hz, q⟩ := h
    refine ⟨_, (pss_one (ps_ret (pe_and (pe_chain op_le op_le pe_int (pe_callB cz_len (by rfl) T.len (by decide +kernel) (pa_cons (pv 0) pa_nil)) (pv 1)) (pe_and (pe_cmpR op_inS (pe_ix ix_str (pv 0) pe_int (fun _ _ => rfl)) (pe_gc rfl T.LOWER) rfl) (pe_one (pe_f c_consists_of hr (by decide) rfl (pa_cons (pv 0) (pa_cons (pe_gc rfl T.WORD_SIGNS) pa_nil)))))))), ?_⟩
    refine s_ret (v := .bl (wordB z m)) (ev_andV (ev_chain ev_c (ev_lenStr (ev_var rfl) hz) (ev_var rfl)) fun h1 => ?_) q
    obtain ⟨c, e1, e2⟩ := item0 (z := z) (by have := (pl h1).1; omega)
    refine ev_andV (ev_is (ev_op (ev_ixS (ev_var rfl) ev_c hz e2) ev_c rv_in) ?_) fun h2 => ev_call (ea_cons (ev_var rfl) (ea_cons ev_c ea_nil)) (sv2 hz)
    unfold hdIn
    rw [e1]
theorem ok_is_field_name (T : Mg mg) (c_is_word : Call P w K mg base 2 "is_word" ["text", "most"] (fun vs H Q _ => ∃ (z : Str) (m : Int), vs = [.str z, .int m] ∧ z.length ≤ 100000 ∧ RetV (.bl (wordB z m)) H Q)) (F : FnP K "is_field_name" s_is_field_name f fd) (gm : mg "is_field_name" = some (.ref f)) :
    Call P w K mg base 3 "is_field_name" ["text"] (sp1 fun z => .bl (nameB z)) := by
  refine mk F gm (fun _ _ _ _ _ _ us hl => match us, hl with | [_], _ => rfl) (fun _ _ _ _ _ _ us hl => match us, hl with | [_], _ => rfl) sc_is_field_name (fun vs H Q E h => ?_) (fun cdv A outer s H vs Q E hr h => ?_)
  · obtain ⟨z, rfl, _⟩ := h
    rfl
  · obtain ⟨z, rfl, hz, q⟩ := h
    refine ⟨_, (pss_one (ps_ret (pe_and (pe_f c_is_word hr (by decide) rfl (pa_cons (pv 0) (pa_cons (pe_gc rfl T.MOST_NAME) pa_nil))) (pe_one (pe_cmpR op_ne (pv 0) pe_str (nomark _)))))), ?_⟩
    exact s_ret (v := .bl (nameB z)) (ev_andV (ev_call (ea_cons (ev_var rfl) (ea_cons ev_c ea_nil)) fun H1 e Q q E => ⟨z, 30, rfl, hz, q⟩) fun h1 => ev_op (ev_var rfl) ev_c rv_neS) q
theorem ok_is_value (T : Mg mg) (c_is_plain : Call P w K mg base 1 "is_plain" ["text"] (sp1 fun z => .bl (allIn z signs))) (F : FnP K "is_value" s_is_value f fd) (gm : mg "is_value" = some (.ref f)) :
    Call P w K mg base 2 "is_value" ["text"] (sp1 fun z => .bl (valueB z)) := by
  refine mk F gm (fun _ _ _ _ _ _ us hl => match us, hl with | [_], _ => rfl) (fun _ _ _ _ _ _ us hl => match us, hl with | [_], _ => rfl) sc_is_value (fun vs H Q E h => ?_) (fun cdv A outer s H vs Q E hr h => ?_)
  · obtain ⟨z, rfl, _⟩ := h
    rfl
  · obtain ⟨z, rfl, hz, q⟩ := h
    refine ⟨_, (pss_one (ps_ret (pe_and (pe_cmpR op_le (pe_callB cz_len (by rfl) T.len (by decide +kernel) (pa_cons (pv 0) pa_nil)) (pe_gc rfl T.MOST_VALUE) (nomark _)) (pe_and (pe_f c_is_plain hr (by decide) rfl (pa_cons (pv 0) pa_nil)) (pe_one (pe_cmpR op_eq (pe_bm PySem.F.plainAttrs_str PySem.F.slot_str_strip PySem.F.type_str_strip mz_strip (pv 0) (pa_cons pe_str pa_nil)) (pv 0) (nomark _))))))), ?_⟩
    exact s_ret (v := .bl (valueB z)) (ev_andV (ev_op (ev_lenStr (ev_var rfl) hz) ev_c rv_I0) fun h1 => ev_andV (ev_call (ea_cons (ev_var rfl) ea_nil) (sv1 hz)) fun h2 => ev_op (ev_strip (ev_var rfl) ev_c hz) (ev_var rfl) rv_eqS) q
theorem ok_read_number (T : Mg mg) (c_consists_of : cons_ P w K mg base) (F : FnP K "read_number" s_read_number f fd) (gm : mg "read_number" = some (.ref f)) : Call P w K mg base 2 "read_number" ["text"] (sp1 numV) := by
  refine mk F gm (fun _ _ _ _ _ _ us hl => match us, hl with | [_], _ => rfl) (fun _ _ _ _ _ _ us hl => match us, hl with | [_], _ => rfl) sc_read_number (fun vs H Q E h => ?_) (fun cdv A outer s H vs Q E hr h => ?_)
  · obtain ⟨z, rfl, _⟩ := h
    rfl
  · obtain ⟨z, rfl, hz, q⟩ := h
    refine ⟨_, (pss_cons (ps_if (PW.pt (pw_or (pt_not (pt_chain op_le op_le pe_int (pe_callB cz_len (by rfl) T.len (by decide +kernel) (pa_cons (pv 0) pa_nil)) (pe_gc rfl T.MOST_DIGITS))) (pw_or1 (pt_not (pt_val (pe_f c_consists_of hr (by decide) rfl (pa_cons (pv 0) (pa_cons (pe_gc rfl T.DIGITS) pa_nil))))))))
      (pss_one (ps_ret pe_non))
      pss_nil)
    (pss_cons (ps_if (PW.pt (pw_and (pt_cmpR op_eq (pe_ix ix_str (pv 0) pe_int (fun _ _ => rfl)) pe_str (nomark _)) (pw_and1 (pt_cmpR op_ne (pv 0) pe_str (nomark _)))))
      (pss_one (ps_ret pe_non))
      pss_nil)
    (pss_one (ps_ret (pe_callTy cz_int (by rfl) T.int (by decide +kernel) (pa_cons (pv 0) pa_nil)))))), ?_⟩
    refine q_when (et_or (et_not (et_test (ev_chain ev_c (ev_lenStr (ev_var rfl) hz) ev_c))) fun _ => et_not (et_B (ev_call (ea_cons (ev_var rfl) (ea_cons ev_c ea_nil)) (sv2 hz)))) (fun hb H1 e1 => ?_) (fun hb H1 e1 => ?_)
    · refine s_ret ev_c fun H2 e2 => ?_
      have : numV z = .non := by
        unfold numV digB
        rw [if_neg]
        intro h
        rw [Bool.and_eq_true, Bool.and_eq_true] at h
        rw [show (decide ((1 : Int) ≤ z.length) && decide ((z.length : Int) ≤ 6)) = true by rw [Bool.and_eq_true]; exact h.1, (Bool.and_eq_true_iff.mp h.2).1] at hb
        cases hb
      have g := q H2 (e1.trans e2)
      rw [this] at g
      exact g
    · rw [Bool.or_eq_false_iff, Bool.not_eq_false', Bool.not_eq_false'] at hb
      obtain ⟨hc, ha⟩ := hb
      have hl := pl hc
      obtain ⟨c, g1, g2⟩ := item0 (z := z) (by omega)
      have e3 : decide ((⟨#[c]⟩ : Str) = ("0" : Str)) = decide (hd z = some 48) := by
        rw [g1, show ("0" : Str) = ⟨#[48]⟩ by decide +kernel]
        by_cases h : c = 48
        · rw [h]; rfl
        · rw [decide_eq_false fun e => h ((one_eq _ _).mp e), decide_eq_false fun e => h (Option.some.inj e)]
      refine q_when (b := decide (hd z = some 48) && !decide (z = ("0" : Str))) (et_and (et_is (et_test (ev_op (ev_ixS (ev_var rfl) ev_c hz g2) ev_c rv_eqS)) e3) fun _ => et_test (ev_op (ev_var rfl) ev_c rv_neS)) (fun hb H2 e2 => ?_) (fun hb H2 e2 => ?_)
      · rw [Bool.and_eq_true, decide_eq_true_eq, Bool.not_eq_true', decide_eq_false_iff_not] at hb
        refine s_ret ev_c fun H3 e3 => ?_
        have : numV z = .non := by
          unfold numV digB
          rw [if_neg]
          intro h
          have h := (Bool.and_eq_true_iff.mp (Bool.and_eq_true_iff.mp h).2).2
          rw [Bool.or_eq_true, decide_eq_true_eq, Bool.not_eq_true', decide_eq_false_iff_not] at h
          rcases h with h | h
          · exact hb.2 (zero_text (by omega) hb.1)
          · exact h hb.1
        have g := q H3 ((e1.trans e2).trans e3)
        rw [this] at g
        exact g
      · have hd1 : digB z = true := by
          unfold digB
          rw [hc, ha, Bool.true_and, Bool.true_and, Bool.or_eq_true, decide_eq_true_eq, Bool.not_eq_true', decide_eq_false_iff_not]
          rw [Bool.and_eq_false_iff, decide_eq_false_iff_not, Bool.not_eq_false', decide_eq_true_eq] at hb
          rcases hb with hb | hb
          · exact .inr hb
          · have := zero_len hb
            exact .inl (by omega)
        refine s_ret (v := numV z) (ev_is (ev_intStr (ev_var rfl) (int_digits ha (by omega) (by omega)) (by omega)) ?_) fun H3 e3 => q H3 ((e1.trans e2).trans e3)
        unfold numV
        rw [if_pos hd1]
theorem ok_law_integer1 (T : Mg mg) (F : FnP K "_law_integer" s_law_integer f fd) (gm : mg "_law_integer" = some (.ref f)) : Call P w K mg base 1 "_law_integer" ["actual"] spInt1 := by
  refine mk F gm (fun _ _ _ _ _ _ us hl => match us, hl with | [_], _ => rfl) (fun _ _ _ _ _ _ us hl => match us, hl with | [_], _ => rfl) sc_law_integer (fun vs H Q E h => ?_) (fun cdv A outer s H vs Q E hr h => ?_)
  · obtain ⟨a, rfl, _⟩ := h
    rfl
  · obtain ⟨i, rfl, q⟩ := h
    refine ⟨_, (pss_one (ps_ret (pe_and (pe_callB call_isi (by rfl) T.isinstance (by decide +kernel) (pa_cons (pv 0) (pa_cons (pe_bltn (v := .ty "int") (u := .type "int") (by rfl) T.int (by decide +kernel) rfl) pa_nil))) (pe_one (pe_not (pe_callB call_isi (by rfl) T.isinstance (by decide +kernel) (pa_cons (pv 0) (pa_cons (pe_bltn (v := .ty "bool") (u := .type "bool") (by rfl) T.bool (by decide +kernel) rfl) pa_nil)))))))), ?_⟩
    exact s_ret (v := .bl true) (ev_is (ev_andV (ev_isi (b := true) (ev_var rfl) (fun H1 _ => .base (.int i)) (kit_ty (by decide +kernel))) fun _ => ev_notV (ev_isi (b := false) (ev_var rfl) (fun H1 _ => .base (.int i)) (kit_ty (by decide +kernel)))) rfl) q
theorem ok_law_number2 (T : Mg mg) (F : FnP K "_law_number" s_law_number f fd) (gm : mg "_law_number" = some (.ref f)) : Call P w K mg base 1 "_law_number" ["word"] (sp1 numV) := by
  refine mk F gm (fun _ _ _ _ _ _ us hl => match us, hl with | [_], _ => rfl) (fun _ _ _ _ _ _ us hl => match us, hl with | [_], _ => rfl) sc_law_number (fun vs H Q E h => ?_) (fun cdv A outer s H vs Q E hr h => ?_)
  · obtain ⟨z, rfl, _⟩ := h
    rfl
  · obtain ⟨z, rfl, hz, q⟩ := h
    refine ⟨_, (pss_cons (ps_if (PW.pt (pw_or (pt_cmpR op_lt (pe_callB cz_len (by rfl) T.len (by decide +kernel) (pa_cons (pv 0) pa_nil)) pe_int (nomark _)) (pw_or1 (pt_cmpR op_gt (pe_callB cz_len (by rfl) T.len (by decide +kernel) (pa_cons (pv 0) pa_nil)) pe_int (nomark _)))))
      (pss_one (ps_ret pe_non))
      pss_nil)
    (pss_cons (ps_if (PW.pt (pw_and (pt_cmpR op_gt (pe_callB cz_len (by rfl) T.len (by decide +kernel) (pa_cons (pv 0) pa_nil)) pe_int (nomark _)) (pw_and1 (pt_cmpR op_eq (pe_ix ix_str (pv 0) pe_int (fun _ _ => rfl)) pe_str (nomark _)))))
      (pss_one (ps_ret pe_non))
      pss_nil)
    (pss_cons (ps_set (i := 1) sc_law_number.nd rfl (Or.inl rfl) pe_int)
    (pss_cons (ps_for PassesOwn.never rfl (pi_str (pv 0)) (pg_name (i := 2) sc_law_number.nd rfl (Or.inl rfl))
      (pss_cons (ps_set (i := 3) sc_law_number.nd rfl (Or.inl rfl) (pe_bm PySem.F.plainAttrs_str PySem.F.slot_str_find PySem.F.type_str_find mz_find pe_str (pa_cons (pv 2) pa_nil)))
      (pss_cons (ps_if (pt_cmpR op_lt (pv 3) pe_int (nomark _))
        (pss_one (ps_ret pe_non))
        pss_nil)
      (pss_one (ps_set (i := 1) sc_law_number.nd rfl (Or.inl rfl) (pe_op op_add (pe_op op_mul (pv 1) pe_int) (pv 3)))))))
    (pss_one (ps_ret (pv 1))))))), ?_⟩
    have qn : ∀ Hx, Ex H Hx → digB z = false → Q .non Hx := fun Hx e hd => by
      have g := q Hx e
      unfold numV at g
      rw [hd] at g
      exact g
    refine q_when (et_or (et_test (ev_op (ev_lenStr (ev_var rfl) hz) ev_c rv_I0)) fun _ => et_test (ev_op (ev_lenStr (ev_var rfl) hz) ev_c rv_I0)) (fun hb H1 e1 => ?_) (fun hb H1 e1 => ?_)
    · refine s_ret ev_c fun H2 e2 => qn H2 (e1.trans e2) ?_
      rw [Bool.or_eq_true, decide_eq_true_eq, decide_eq_true_eq] at hb
      unfold digB
      have : (decide ((1 : Int) ≤ z.length) && decide ((z.length : Int) ≤ 6)) = false := by
        rw [Bool.and_eq_false_iff, decide_eq_false_iff_not, decide_eq_false_iff_not]
        omega
      rw [this]
      rfl
    · rw [Bool.or_eq_false_iff, decide_eq_false_iff_not, decide_eq_false_iff_not] at hb
      have hl : (decide ((1 : Int) ≤ z.length) && decide ((z.length : Int) ≤ 6)) = true := by
        rw [Bool.and_eq_true, decide_eq_true_eq, decide_eq_true_eq]
        omega
      obtain ⟨c, g1, g2⟩ := item0 (z := z) (by omega)
      have e3 : decide ((⟨#[c]⟩ : Str) = ("0" : Str)) = decide (hd z = some 48) := by
        rw [g1, show ("0" : Str) = ⟨#[48]⟩ by decide +kernel]
        by_cases h : c = 48
        · rw [h]; rfl
        · rw [decide_eq_false fun e => h ((one_eq _ _).mp e), decide_eq_false fun e => h (Option.some.inj e)]
      refine q_when (b := decide ((z.length : Int) > 1) && decide (hd z = some 48)) (et_and (et_test (ev_op (ev_lenStr (ev_var rfl) hz) ev_c rv_I0)) fun _ => et_is (et_test (ev_op (ev_ixS (ev_var rfl) ev_c hz g2) ev_c rv_eqS)) e3) (fun hb2 H2 e2 => ?_) (fun hb2 H2 e2 => ?_)
      · refine s_ret ev_c fun H3 e3 => qn H3 ((e1.trans e2).trans e3) ?_
        rw [Bool.and_eq_true, decide_eq_true_eq] at hb2
        unfold digB
        rw [hl, hb2.2, decide_eq_false (show ¬ (z.length : Int) = 1 by omega)]
        cases allIn z "0123456789" <;> rfl
      · have h3 : (decide ((z.length : Int) = 1) || !decide (hd z = some 48)) = true := by
          rw [Bool.and_eq_false_iff, decide_eq_false_iff_not] at hb2
          rw [Bool.or_eq_true, decide_eq_true_eq, Bool.not_eq_true']
          rcases hb2 with h | h
          · exact .inl (by omega)
          · exact .inr h
        refine q_asg ev_c fun H3 e3 => ?_
        refine q_forS (w := z) (ev_var rfl) (fun i σ' H' => (∃ v1 v2, σ' = [some (.str z), some (.int ((dval ((tl z).take i) : Nat) : Int)), v1, v2]) ∧ Ex H H' ∧ ∀ c ∈ (tl z).take i, c ∈ tl dg) (fun H4 e4 => ⟨⟨none, none, rfl⟩, ((e1.trans e2).trans e3).trans e4, fun c h => by rw [List.take_zero] at h; cases h⟩) (fun i c σ' H' hi pv => ?_) (fun σ' H' pv => ?_)
        · obtain ⟨⟨v1, v2, rfl⟩, e4, hall⟩ := pv
          by_cases hc : c ∈ tl dg
          · have hr := dig_range c hc
            have hlt := dval_lt hall
            have hle : ((tl z).take i).length ≤ 6 := by
              rw [List.length_take, len_tl']
              omega
            have hp := Nat.pow_le_pow_right (show 0 < 10 by decide) hle
            refine q_asg (v := .int ((c : Int) - 48)) (ev_is (ev_find ev_c (ev_var rfl)) (congrArg V.int ((find_digit c).trans (if_pos hc)))) fun H5 e5 => ?_
            refine q_when (b := false) (et_is (et_test (ev_op (ev_var rfl) ev_c rv_I0)) (decide_eq_false (by omega))) (fun h => nomatch h) (fun _ H6 e6 => ?_)
            refine s_asg (v := .int ((dval ((tl z).take (i + 1)) : Nat) : Int)) (ev_is (ev_op (ev_op (ev_var rfl) ev_c (rv_I (.inl ⟨by omega, by omega⟩))) (ev_var rfl) rv_I0) ?_) fun H7 e7 => ⟨⟨_, _, rfl⟩, ((e4.trans e5).trans e6).trans e7, fun x hx => ?_⟩
            · rw [List.take_add_one, hi]
              show _ = V.int ((dval ((tl z).take i ++ [c]) : Nat) : Int)
              rw [dval_snoc]
              congr 1
              omega
            · rw [List.take_add_one, hi] at hx
              rcases List.mem_append.mp hx with hx | hx
              · exact hall x hx
              · rw [List.mem_singleton.mp hx]
                exact hc
          · refine q_asg (v := .int (-1)) (ev_is (ev_find ev_c (ev_var rfl)) (congrArg V.int ((find_digit c).trans (if_neg hc)))) fun H5 e5 => ?_
            refine q_when (b := true) (et_is (et_test (ev_op (ev_var rfl) ev_c rv_I0)) (decide_eq_true (by omega))) (fun _ H6 e6 => ?_) (fun h => nomatch h)
            refine s_ret ev_c fun H7 e7 => qn H7 (((e4.trans e5).trans e6).trans e7) ?_
            unfold digB
            have : allIn z "0123456789" = false := by
              cases e : allIn z "0123456789" with
              | false => rfl
              | true => exact absurd (of_decide_eq_true (List.all_eq_true.mp e c (List.mem_of_getElem? hi))) hc
            rw [this]
            cases (decide ((1 : Int) ≤ z.length) && decide ((z.length : Int) ≤ 6)) <;> rfl
        · obtain ⟨⟨v1, v2, rfl⟩, e4, hall⟩ := pv
          rw [List.take_length] at hall ⊢
          refine s_ret (ev_var rfl) fun H5 e5 => ?_
          have ha : allIn z "0123456789" = true := List.all_eq_true.mpr fun c hc => decide_eq_true (hall c hc)
          have hd : digB z = true := by
            unfold digB
            rw [hl, ha, h3]
            rfl
          have g := q H5 (e4.trans e5)
          unfold numV at g
          rw [if_pos hd] at g
          exact g
abbrev CSrc (P : Program) (w : World) (K : PySem.W.Frag) (mg : Str → Option Value) (base : Heap) : Prop := Call P w K mg base 2 "_law_draw" ["source", "limit"] spSrc
theorem ok_law_source (T : Mg mg) (F : FnP K "_law_source" s_law_source f fd) (gm : mg "_law_source" = some (.ref f)) : Call P w K mg base 1 "_law_source" ["script"] (spSource K) := by
  refine mk F gm (fun _ _ _ _ _ _ us hl => match us, hl with | [_], _ => rfl) (fun _ _ _ _ _ _ us hl => match us, hl with | [_], _ => rfl) sc_law_source (fun vs H Q E h => ?_) (fun cdv A outer s H vs Q E hr h => ?_)
  · obtain ⟨a, ns, rfl, _⟩ := h
    rfl
  · obtain ⟨a, ns, rfl, hS, hl, hbits, q⟩ := h
    refine ⟨_, (pss_cons (ps_set (i := 1) sc_law_source.nd rfl (Or.inl rfl) pe_int)
    (pss_cons (ps_for PassesOwn.never rfl (pi_list (pe_slice sl_list (pv 0) po_none (po_some pe_int))) (pg_name (i := 2) sc_law_source.nd rfl (Or.inl rfl))
      (pss_one (ps_set (i := 1) sc_law_source.nd rfl (Or.inl rfl) (pe_op op_mod (pe_callTy cz_int1 (by rfl) T.int (by decide +kernel) (pa_cons (pe_op op_add (pe_op op_mul (pv 1) pe_int) (pv 2)) pa_nil)) pe_int))))
    (pss_one (ps_ret (pe_lst (pa_cons (pe_callTy call_list_of (by rfl) T.list (by decide +kernel) (pa_cons (pe_slice sl_list (pv 0) po_none (po_some pe_int)) pa_nil)) (pa_cons pe_int (pa_cons pe_int (pa_cons pe_int (pa_cons (pv 1) pa_nil)))))))))), ?_⟩
    have hl' : (ns.map V.int).length ≤ 63 := by rw [List.length_map]; exact hl
    refine q_asg ev_c fun H1 e1 => ?_
    refine q_forNLn (xs := ns.map V.int) (by
        have g := el_sl (K := K) (te := tVar 0) (tl := tNoPart) (th := tPart (tC (.int 63))) (σ := [some (.ref a), some (.int 0), none]) (H := H1) (lo := none) (hi := some 63) (ev_var rfl) eo_none (eo_some ev_c) (ex_l e1 hS)
        rw [cutV_all hl'] at g
        exact g) (fun c i σ' H' => (∃ sd : Int, ∃ v, σ' = [some (.ref a), some (.int sd), v] ∧ 0 ≤ sd ∧ sd < 2147483629) ∧ Ex H H' ∧ H' c = some (.lst (ns.map V.int)))
      (fun c H2 nc e2 h2 => ⟨⟨0, none, rfl, by decide, by decide⟩, e1.trans e2, h2⟩) (fun c i σ' H' hi pv => sq_of pv.2.2) (fun c i x σ' H' hi pv => ?_) (fun c σ' H' pv => ?_)
    · obtain ⟨⟨sd, v, rfl, h0, h1⟩, e, hc⟩ := pv
      obtain ⟨z, rfl, hz⟩ := ints_in (List.mem_of_getElem? hi)
      refine s_asg (ev_op (ev_int1 (ev_op (ev_op (ev_var rfl) ev_c (rv_I (.inl ⟨by omega, by omega⟩))) (ev_var rfl) rv_I0)) ev_c (rv_I (by show (0 : Int) < 2147483629; decide))) fun H3 e3 => ⟨⟨_, _, rfl, Int.emod_nonneg _ (by decide), Int.emod_lt_of_pos _ (by decide)⟩, e.trans e3, e3 _ _ hc⟩
    · obtain ⟨⟨sd, v, rfl, h0, h1⟩, e, hc⟩ := pv
      refine s_retLL (xs := ns.map V.int) (vs := [.int 0, .int 0, .int 0, .int sd]) (el_listN (by
        have g := el_sl (K := K) (te := tVar 0) (tl := tNoPart) (th := tPart (tC (.int 63))) (σ := [some (.ref a), some (.int sd), v]) (H := H') (lo := none) (hi := some 63) (ev_var rfl) eo_none (eo_some ev_c) (ex_l e hS)
        rw [cutV_all hl'] at g
        exact g)) (fun H1 e1 => ea_cons ev_c (ea_cons ev_c (ea_cons ev_c (ea_cons (ev_var rfl) ea_nil)))) (by show 5 ≤ 1000; decide) fun p l0 H3 np e3 h3 hne hp => q p l0 _ (fresh_back e np) (e.trans e3) ?_
      exact ⟨ns, 0, 0, 0, sd, hp, h3, hne, hl, hbits, by decide, by decide, by decide, h0, h1⟩
theorem ok_law_mixed (T : Mg mg) (F : FnP K "_law_mixed" s_law_mixed f fd) (gm : mg "_law_mixed" = some (.ref f)) : Call P w K mg base 1 "_law_mixed" ["cell", "step", "limit"] spMixed := by
  refine mk F gm (fun _ _ _ _ _ _ us hl => match us, hl with | [_, _, _], _ => rfl) (fun _ _ _ _ _ _ us hl => match us, hl with | [_, _, _], _ => rfl) sc_law_mixed (fun vs H Q E h => ?_) (fun cdv A outer s H vs Q E hr h => ?_)
  · obtain ⟨c, s, lim, rfl, _⟩ := h
    rfl
  · obtain ⟨c, s, lim, rfl, hc, h0, h1, h2, h3, q⟩ := h
    refine ⟨_, (pss_cons (ps_set (i := 3) sc_law_mixed.nd rfl (Or.inl rfl) (pe_op op_mod (pe_callTy cz_int1 (by rfl) T.int (by decide +kernel) (pa_cons (pe_op op_add (pe_op op_mulX (pv 0) pe_int) (pe_op op_mul (pv 1) pe_int)) pa_nil)) pe_int))
    (pss_cons (ps_set (i := 4) sc_law_mixed.nd rfl (Or.inl rfl) (pe_op op_mod (pe_callTy cz_int1 (by rfl) T.int (by decide +kernel) (pa_cons (pe_op op_add (pe_op op_mul (pe_op op_mul (pv 3) (pv 3)) (pv 3)) (pv 3)) pa_nil)) pe_int))
    (pss_one (ps_ret (pe_op op_mod (pe_callTy cz_int1 (by rfl) T.int (by decide +kernel) (pa_cons (pe_op op_fdiv (pv 4) pe_int) pa_nil)) (pv 2)))))), ?_⟩
    refine q_asg (ev_op (ev_int1 (ev_op (ev_op (ev_var rfl) ev_c (rv_I (mulx_ok (a := cap) (b := 64) hc (by decide) (by unfold cap; decide)))) (ev_op (ev_var rfl) ev_c (rv_I (.inl ⟨by omega, by omega⟩))) rv_I0)) ev_c (rv_I (by show (0 : Int) < 2147483647; decide))) fun H1 e1 => ?_
    have b1 : 0 ≤ (c * 48271 + s * 11) % 2147483647 ∧ (c * 48271 + s * 11) % 2147483647 < 2147483647 := ⟨Int.emod_nonneg _ (by decide), Int.emod_lt_of_pos _ (by decide)⟩
    generalize (c * 48271 + s * 11) % 2147483647 = one at b1 ⊢
    refine q_asg (ev_op (ev_int1 (ev_op (ev_op (ev_op (ev_var rfl) (ev_var rfl) (rv_I (.inl ⟨by omega, by omega⟩))) (ev_var rfl) (rv_I (.inr ⟨by omega, by omega⟩))) (ev_var rfl) rv_I0)) ev_c (rv_I (by show (0 : Int) < 2147483579; decide))) fun H2 e2 => ?_
    refine s_ret (ev_op (ev_int1 (ev_op (ev_var rfl) ev_c (rv_I ⟨by decide, by decide⟩))) (ev_var rfl) (rv_I (by show 0 < lim; omega))) fun H3 e3 => q _ (Int.emod_nonneg _ (by omega)) (Int.emod_lt_of_pos _ (by omega)) H3 ((e1.trans e2).trans e3)
theorem ok_law_draw3 (T : Mg mg) (c_law_mixed : Call P w K mg base 1 "_law_mixed" ["cell", "step", "limit"] spMixed) (F : FnP K "_law_draw" s_law_draw f fd) (gm : mg "_law_draw" = some (.ref f)) : CSrc P w K mg base := by
  refine mk F gm (fun _ _ _ _ _ _ us hl => match us, hl with | [_, _], _ => rfl) (fun _ _ _ _ _ _ us hl => match us, hl with | [_, _], _ => rfl) sc_law_draw (fun vs H Q E h => ?_) (fun cdv A outer s H vs Q E hr h => ?_)
  · obtain ⟨p, l0, lim, n, rfl, _⟩ := h
    rfl
  · obtain ⟨p, l0, lim, n, rfl, ⟨cs, c1, c2, c3, sd, hp, hl0, hne, hlen, hcs, h1, h3, hn, hs0, hs1⟩, hn2, hs1', hs2, q⟩ := h
    refine ⟨_, (pss_cons (ps_asg (pe_op op_add (pe_ix ix_list (pv 0) pe_int (fun _ _ => rfl)) pe_int) (pg_sub (pv 0) pe_int set_list))
    (pss_cons (ps_if (PW.pt (pw_and (pt_cmpR op_lt (pe_ix ix_list (pv 0) pe_int (fun _ _ => rfl)) pe_int (nomark _)) (pw_and1 (pt_cmpR op_lt (pe_ix ix_list (pv 0) pe_int (fun _ _ => rfl)) (pe_callB call_len_seq (by rfl) T.len (by decide +kernel) (pa_cons (pe_ix ix_list (pv 0) pe_int (fun _ _ => rfl)) pa_nil)) (nomark _)))))
      (pss_cons (ps_set (i := 2) sc_law_draw.nd rfl (Or.inl rfl) (pe_ix ix_list (pe_ix ix_list (pv 0) pe_int (fun _ _ => rfl)) (pe_ix ix_list (pv 0) pe_int (fun _ _ => rfl)) (fun _ _ => rfl)))
      (pss_cons (ps_asg (pe_op op_add (pe_ix ix_list (pv 0) pe_int (fun _ _ => rfl)) pe_int) (pg_sub (pv 0) pe_int set_list))
      (pss_cons (ps_if (pt_cmpR op_lt (pv 2) (pe_op op_pow pe_int pe_int) (nomark _))
        (pss_one (ps_ret (pe_f c_law_mixed hr (by decide) rfl (pa_cons (pv 2) (pa_cons (pe_ix ix_list (pv 0) pe_int (fun _ _ => rfl)) (pa_cons (pv 1) pa_nil))))))
        pss_nil)
      (pss_one (ps_asg (pv 2) (pg_sub (pv 0) pe_int set_list))))))
      pss_nil)
    (pss_cons (ps_if (pt_cmpR op_gt (pe_ix ix_list (pv 0) pe_int (fun _ _ => rfl)) pe_int (nomark _))
      (pss_cons (ps_set (i := 3) sc_law_draw.nd rfl (Or.inl rfl) (pe_op op_mod (pe_callTy cz_int1 (by rfl) T.int (by decide +kernel) (pa_cons (pe_ix ix_list (pv 0) pe_int (fun _ _ => rfl)) pa_nil)) (pv 1)))
      (pss_cons (ps_asg (pe_op op_fdivW (pe_ix ix_list (pv 0) pe_int (fun _ _ => rfl)) (pv 1)) (pg_sub (pv 0) pe_int set_list))
      (pss_one (ps_ret (pv 3)))))
      pss_nil)
    (pss_one (ps_ret (pe_f c_law_mixed hr (by decide) rfl (pa_cons (pe_ix ix_list (pv 0) pe_int (fun _ _ => rfl)) (pa_cons (pe_ix ix_list (pv 0) pe_int (fun _ _ => rfl)) (pa_cons (pv 1) pa_nil))))))))), ?_⟩
    refine q_setL (j := 3) hp (ev_op (ev_op (ev_var rfl) ev_c (rv_ixL (sq_of hp) (atI_nat (j := 3) rfl))) ev_c rv_I0) (ev_var rfl) ev_c (by show 3 < 5; decide) fun H1 e1 => ?_
    have hp1 : (upd H1 p (.lst ([V.ref l0, .int c1, .int c2, .int c3, .int sd].set 3 (.int (c3 + 1))))) p = some (.lst [.ref l0, .int c1, .int c2, .int (c3 + 1), .int sd]) := upd_same
    have k1 : Keep p H (upd H1 p (.lst ([V.ref l0, .int c1, .int c2, .int c3, .int sd].set 3 (.int (c3 + 1))))) := (Keep.of e1).upd
    have hl1 := k1 _ _ hne hl0
    generalize upd H1 p (.lst ([V.ref l0, .int c1, .int c2, .int c3, .int sd].set 3 (.int (c3 + 1)))) = H2 at hp1 k1 hl1 ⊢
    refine q_tail (fun σ1 Hx => ∃ d1 d2 : Int, ∃ v2, σ1 = [some (.ref p), some (.int lim), v2, none] ∧ Hx p = some (.lst [.ref l0, .int d1, .int d2, .int (c3 + 1), .int sd]) ∧ Hx l0 = some (.lst (cs.map V.int)) ∧ 0 ≤ d1 ∧ Keep p H Hx) (fun σ1 Hx hR => ?_) (fun tail => ?_)
    · obtain ⟨d1, d2, v2, rfl, hx, hlx, hd1, kx⟩ := hR
      refine q_when (et_test (ev_op (ev_op (ev_var rfl) ev_c (rv_ixL (sq_of hx) (atI_nat (j := 2) rfl))) ev_c rv_I0)) (fun hb H4 e4 => ?_) (fun hb H4 e4 => ?_)
      · refine q_asg (ev_op (ev_int1 (ev_op (ev_var rfl) ev_c (rv_ixL (sq_of (e4 _ _ hx)) (atI_nat (j := 2) rfl)))) (ev_var rfl) (rv_I (by show 0 < lim; omega))) fun H5 e5 => ?_
        refine q_setL (j := 2) (e5 _ _ (e4 _ _ hx)) (ev_op (ev_op (ev_var rfl) ev_c (rv_ixL (sq_of (e5 _ _ (e4 _ _ hx))) (atI_nat (j := 2) rfl))) (ev_var rfl) (rv_I (wide_div (b := 64) (by omega) (by omega) (by decide) (by decide)))) (ev_var rfl) ev_c (by show 2 < 5; decide) fun H6 e6 => ?_
        refine s_ret (ev_var rfl) fun H7 e7 => q _ H7 (Int.emod_nonneg _ (by omega)) (Int.emod_lt_of_pos _ (by omega)) ⟨cs, d1, _, c3 + 1, sd, e7 _ _ upd_same, e7 _ _ ?_, hne, hlen, hcs, hd1, by omega, by omega, hs0, hs1⟩ ?_
        · rw [upd_ne hne]
          exact (e4.trans (e5.trans e6)) _ _ hlx
        · exact ((kx.trans (Keep.of (e4.trans (e5.trans e6)))).upd).trans (Keep.of e7)
      · have hx4 := e4 _ _ hx
        refine rd_call (ea_cons (ev_op (ev_var rfl) ev_c (rv_ixL (sq_of hx4) (atI_nat (j := 4) rfl))) (ea_cons (ev_op (ev_var rfl) ev_c (rv_ixL (sq_of hx4) (atI_nat (j := 3) rfl))) (ea_cons (ev_var rfl) ea_nil))) fun H5 e5 => ⟨sd, c3 + 1, lim, rfl, ?_, by omega, by omega, by omega, by omega, fun d hd0 hd1' H6 e6 => q d H6 hd0 hd1' ⟨cs, d1, d2, c3 + 1, sd, ?_, ?_, hne, hlen, hcs, hd1, by omega, by omega, hs0, hs1⟩ ?_⟩
        · exact Nat.lt_of_lt_of_le (show sd.natAbs < 2 ^ 31 by omega) (Nat.pow_le_pow_right (by decide) (by unfold cap; decide))
        · exact (e5.trans e6) _ _ hx4
        · exact (e4.trans (e5.trans e6)) _ _ hlx
        · exact kx.trans (Keep.of (e4.trans (e5.trans e6)))
    · have hlenE : ∀ Hx, Ex H2 Hx → Ev (tCB (rLenS K) (tCons (tOp (rIxL K) (tVar 0) (tC (.int 0))) tNil)) [some (.ref p), some (.int lim), none, none] Hx (.int ((cs.map V.int).length : Int)) := fun Hx ex => ev_len (ev_op (ev_var rfl) ev_c (rv_ixL (sq_of (ex _ _ hp1)) (atI_nat (j := 0) rfl))) (sq_of (ex _ _ hl1))
      by_cases hb : c2 < 2 ∧ c1 < (cs.length : Int)
      · refine q_when (b := true) (et_is (et_and (et_test (ev_op (ev_op (ev_var rfl) ev_c (rv_ixL (sq_of hp1) (atI_nat (j := 2) rfl))) ev_c rv_I0)) fun _ => et_test (ev_op (ev_op (ev_var rfl) ev_c (rv_ixL (sq_of hp1) (atI_nat (j := 1) rfl))) (hlenE H2 (Ex.refl H2)) rv_I0)) (by rw [List.length_map, decide_eq_true hb.1, decide_eq_true hb.2]; rfl)) (fun _ H3 e3 => ?_) (fun h => nomatch h)
        obtain ⟨cell, hce, hcm⟩ := at_int (xs := cs) h1 hb.2
        obtain ⟨j, rfl⟩ := Int.eq_ofNat_of_zero_le h1
        have hcell : atI (cs.map V.int) (j : Int) = some (.int cell) := by
          have hj : j < cs.length := by omega
          have e0 : cs[j]? = some cell := by
            have := atI_nat (List.getElem?_eq_getElem hj)
            rw [this] at hce
            rw [List.getElem?_eq_getElem hj]
            exact hce
          exact atI_nat (by rw [List.getElem?_map, e0]; rfl)
        have hb1 := hcs cell hcm
        have hp3 := e3 _ _ hp1
        have hl3 := e3 _ _ hl1
        refine q_asg (ev_op (ev_op (ev_var rfl) ev_c (rv_ixL (sq_of hp3) (atI_nat (j := 0) rfl))) (ev_op (ev_var rfl) ev_c (rv_ixL (sq_of hp3) (atI_nat (j := 1) rfl))) (rv_ixL (sq_of hl3) hcell)) fun H4 e4 => ?_
        refine q_setL (j := 1) (e4 _ _ hp3) (ev_op (ev_op (ev_var rfl) ev_c (rv_ixL (sq_of (e4 _ _ hp3)) (atI_nat (j := 1) rfl))) ev_c rv_I0) (ev_var rfl) ev_c (by show 1 < 5; decide) fun H5 e5 => ?_
        have e25 := (e3.trans e4).trans e5
        have hp6 : (upd H5 p (.lst ([V.ref l0, .int (j : Int), .int c2, .int (c3 + 1), .int sd].set 1 (.int ((j : Int) + 1))))) p = some (.lst [.ref l0, .int ((j : Int) + 1), .int c2, .int (c3 + 1), .int sd]) := upd_same
        have k6 : Keep p H (upd H5 p (.lst ([V.ref l0, .int (j : Int), .int c2, .int (c3 + 1), .int sd].set 1 (.int ((j : Int) + 1))))) := (k1.trans (Keep.of e25)).upd
        have hl6 := k6 _ _ hne hl0
        generalize upd H5 p (.lst ([V.ref l0, .int (j : Int), .int c2, .int (c3 + 1), .int sd].set 1 (.int ((j : Int) + 1)))) = H6 at hp6 k6 hl6 ⊢
        refine q_when (b := decide (cell < 10 ^ 18)) (et_is (et_test (ev_op (ev_var rfl) (ev_op ev_c ev_c (rv_I ⟨by decide, by decide, by decide⟩)) rv_I0)) rfl) (fun _ H7 e7 => ?_) (fun _ H7 e7 => ?_)
        · have hx4 := e7 _ _ hp6
          refine rd_call (ea_cons (ev_var rfl) (ea_cons (ev_op (ev_var rfl) ev_c (rv_ixL (sq_of hx4) (atI_nat (j := 3) rfl))) (ea_cons (ev_var rfl) ea_nil))) fun H8 e8 => ⟨cell, c3 + 1, lim, rfl, hb1, by omega, by omega, by omega, by omega, fun d hd0 hd1' H9 e9 => q d H9 hd0 hd1' ⟨cs, (j : Int) + 1, c2, c3 + 1, sd, (e8.trans e9) _ _ hx4, (e7.trans (e8.trans e9)) _ _ hl6, hne, hlen, hcs, by omega, by omega, by omega, hs0, hs1⟩ (k6.trans (Keep.of (e7.trans (e8.trans e9))))⟩
        · refine s_setL (j := 2) (e7 _ _ hp6) (ev_var rfl) (ev_var rfl) ev_c (by show 2 < 5; decide) fun H8 e8 => ?_
          refine tail _ _ ⟨(j : Int) + 1, cell, some (.int cell), rfl, upd_same, ?_, by omega, (k6.trans (Keep.of (e7.trans e8))).upd⟩
          rw [upd_ne hne]
          exact (e7.trans e8) _ _ hl6
      · refine q_when (b := false) (et_is (et_and (et_test (ev_op (ev_op (ev_var rfl) ev_c (rv_ixL (sq_of hp1) (atI_nat (j := 2) rfl))) ev_c rv_I0)) fun _ => et_test (ev_op (ev_op (ev_var rfl) ev_c (rv_ixL (sq_of hp1) (atI_nat (j := 1) rfl))) (hlenE H2 (Ex.refl H2)) rv_I0)) (by rw [List.length_map, Bool.and_eq_false_iff, decide_eq_false_iff_not, decide_eq_false_iff_not]; omega)) (fun h => nomatch h) (fun _ H3 e3 => ?_)
        exact tail _ _ ⟨c1, c2, none, rfl, e3 _ _ hp1, e3 _ _ hl1, h1, k1.trans (Keep.of e3)⟩
end
theorem rd_ds {σ : L2.St} {H : Hp} {ta : TA} {Q : VK} {E : XK} {p l0 : Addr} {m : Nat} {lim : Int} (h : EvA ta σ H [.ref p, .int lim]) (b : Sr H p l0 m) (hm : m ≤ 1000000) (h1 : 1 ≤ lim) (h2 : lim ≤ 1000000) (k : ∀ (d : Int) H', 0 ≤ d → d < lim → Sr H' p l0 (m + 1) → Keep p H H' → Q (.int d) H') : tCall spSrc [] E ta σ H Q :=
  rd_call h fun H1 e1 => by
    obtain ⟨n, hs, hn⟩ := b.ex e1
    exact ⟨p, l0, lim, n, rfl, hs, by omega, h1, h2, fun d H' d0 d1 hs' k' => k d H' d0 d1 ⟨n + 1, hs', by omega⟩ ((Keep.of e1).trans k')⟩
end Z
set_option maxHeartbeats 4000000
namespace Z
open PySem PySem.Spec PyProof.Rows L2 TL Evl NdefX
/-! ### an own error that keeps one text -/
def spErr1 (D : Addr) (fld : Str) : Sp := fun vs H Q _ => ∃ (a : Addr) (t : Str), vs = [.ref a, .str t] ∧ t.length ≤ 100000 ∧ H a = some (exo a D none) ∧
  ∀ H1, Ex H H1 → ∀ d, H1 d = none → d ≠ a → Q .non (upd (upd H1 d (exd d [(fld, .str t)])) a (exo a D (some d)))
theorem mk_err1 {D : Addr} {fld t : Str} {ta : TA} {σ : L2.St} {H : Hp} {Q : XK} (h : EvA ta σ H [.str t]) (hl : t.length ≤ 100000)
    (k : ∀ d H', H d = none → Ex H H' → H' d = some (.xd [(fld, .str t)]) → Q (.ref D) (some d) H') : tMkO D (spErr1 D fld) [] ta σ H Q :=
  h H (Ex.refl H) _ fun H1 e1 => ⟨by show 1 ≤ 1000; decide, fun a ha => ⟨a, t, rfl, hl, upd_same, fun H2 e2 d hd hne => by
    have hd1 : H1 d = none := by
      have := fresh_back e2 hd
      rw [upd_ne hne] at this
      exact this
    refine ⟨rfl, d, [(fld, .str t)], upd_same, by rw [upd_ne hne]; exact upd_same, hd1, k d _ (fresh_back e1 hd1) (fun b o hb => ?_) upd_same⟩
    have hb1 := e1 b o hb
    have nd : b ≠ d := ne_of_none hb1 hd1
    have na : b ≠ a := ne_of_none hb1 ha
    rw [upd_ne nd, del_ne na, upd_ne na, upd_ne nd]
    exact e2 b o (by rw [upd_ne na]; exact hb1)⟩⟩
section
variable {P : Program} {w : World} {K : PySem.W.Frag} {mg : Str → Option Value} {base : Heap} {f cc cda D : Addr} {fd : FuncData} {k : Nat} {CX : CXT}
theorem ok_iv (T : ZX.Sup P K D f cc cda fd d_iv.name d_iv.qual d_iv.params d_iv.body d_iv.scope) (hno : PySem.W.findIn K (.ref D) "name" = some none) : FnOk P w K mg base CX 1 f fd ["self", "name"] (spErr1 D "name") := by
  refine ZX.fn_sup1 (k := 0) (N := ["self", "name", "__class__"]) T (nscope_by (by decide +kernel)) (by rfl) (by rfl) (by rfl) (by rfl) (fun _ => by rfl) (fun _ h => by unfold interactive; rw [h] <;> rfl) (fun _ h => by rfl) (fun _ => by rfl) (fun vs H Q E h => ?_) (fun A outer s H vs Q E hr h => ?_)
  · obtain ⟨a, t, rfl, _⟩ := h
    rfl
  · obtain ⟨a, t, rfl, hl, ha, q⟩ := h
    refine ⟨a, [.str t], _, _, rfl, ha, pe_joined (.cons pe_str (.cons (pe_fmt (pv 1)) (.cons pe_str .nil))), pss_one (ps_ost (pv 0) (pv 1)), ?_⟩
    refine rd_joined ["the value of ", t, " is not allowed"] (ej_cons ev_c (ej_cons (ev_fmt (ev_var rfl) hl) (ej_cons ev_c ej_nil))) ?_ fun H1 e1 => ⟨by show 1 ≤ 1000; decide, e1 _ _ ha, .str t, rfl, .ref a, rfl, a, D, rfl, T.oex, hno, .inl ⟨e1 _ _ ha, fun d hd hne => q H1 e1 d hd hne⟩⟩
    have c1 : ("the value of " : Str).length ≤ 100 := by decide +kernel
    have c2 : (" is not allowed" : Str).length ≤ 100 := by decide +kernel
    simp only [List.map_cons, List.map_nil, List.sum_cons, List.sum_nil]
    omega
end
/-! ### an own error raised -/
theorem err_binds {P : Program} {K : PySem.W.Frag} {x : Str} {fd : FuncData} {d : ZX.DefA} {ps : List Str} (E : ZX.Err P K x fd d) (hat : d.at_ = .met x "__init__") (e : ZX.fnC K (d.at_.ad K) = d.val) (c : d.ok K = true) (hdf : d.dfl = [])
    (h : ∀ (cc : Addr) (kV doc pm : Value) (an : Option Addr) (cdv ct : Value) (us : List Value), us.length = ps.length → bindArgs (PySem.W.fnX d.name d.qual d.params d.body d.scope [("__class__", cc)] .none kV doc pm an cdv ct) ⟨us, []⟩ = pure (ps.zip us)) : Binds K fd ps [] := by
  obtain ⟨kp, oc, od, osl, fd', q, k1, k2, _⟩ := d.parts e c
  obtain ⟨oc2, od2, osl2, dV, kV, doc, pm, ct, an, e2, q2⟩ := E.sup.fn
  have ead : d.at_.ad K = He.ma K (He.ga K x) "__init__" := by rw [hat] <;> rfl
  rw [ead] at q
  rw [q] at q2
  have e3 : fd' = fd := by
    have := Option.some.inj q2
    injection this with _ _ h3 _
    injection h3
  subst e3
  have hd : fd'.defaults = .none := by
    rcases k2 with ⟨_, h2⟩ | ⟨h2, _⟩
    · exact h2
    · exact absurd (show d.dvs K = [] by unfold ZX.DefA.dvs; rw [hdf]; rfl) h2
  rw [e2] at hd
  have hd : dV = .none := hd
  subst hd
  rw [e2]
  exact .all (h _ kV doc pm an _ ct)
structure Ef (P : Program) (w : World) (K : PySem.W.Frag) (mg : Str → Option Value) (base : Heap) (D : Addr) (ps : List Str) (fld : Str) : Prop where
  ex : ∃ fI fd, OexC K D ∧ PySem.W.findIn K (.ref D) "__init__" = some (some (.ref fI)) ∧ PySem.W.typeIn K (.ref fI) = some (.type "function") ∧ FnOk P w K mg base CX0 1 fI fd ps (spErr1 D fld) ∧ Binds K fd ps []
theorem ps_raiseE {X : Cx} {W : WX} {D : Addr} {ps : List Str} {fld x : Str} {e : Expr} {ta : TA} {p pos pos' : Pos} (F : Ef X.prog X.w X.K X.mg X.base D ps fld) (hc : X.calm = true) (tk : L2N.Takes X W) (hr : Room 2 X.A) (hg : Gl X x) (hm : X.mg x = some (.ref D)) (ha : PA X [e] ta)
    (hdb : (x == ("__debug__" : Str)) = false := by decide) (he : starEach [e] X.env = (false, eval e X.env) :: starEach [] X.env := by rfl) (hpl : (backTo pos (starEach [] X.env)).any (·.1) = false := by rfl) :
    PS X (.Raise (some (.Call (.Name x p) [e] [] pos)) none pos') (fun _ σ H => tMkO D (spErr1 D fld) [] ta σ H fun cls d H' => W cls d σ H') := by
  obtain ⟨fI, fd, T, h1, h2, h3, h4⟩ := F.ex
  exact L2N.ps_raise hc tk (ZX.pmk_oexN T h1 h2 h3 hr h4 pass0 hg hm ha hdb he hpl)
/-- the class of errors -/
structure We (K : PySem.W.Frag) (mg : Str → Option Value) (DV DH : Addr) : Prop where
  mV : mg "InvalidValue" = some (.ref DV)
  mH : mg "HopError" = some (.ref DH)
  xV : ExcC K DV
  fV : XfC K DV
  nV : PySem.W.findIn K (.ref DV) "name" = some none
  iVH : PySem.W.kitOne K (.ref DV) (.ref DH) = some true
  iVE : PySem.W.kitOne K (.ref DV) (.type "ValueError") = some true
  eVV : PySem.W.exmOne K (.ref DV) (.ref DV) = some true
/-- the base class of messages -/
structure Wb (K : PySem.W.Frag) (mg : Str → Option Value) (B : Addr) : Prop where
  m : mg "Message" = some (.ref B)
  rd : ClX.CRead K B (.type "type")
  mf : ∃ u, ClX.CVal K B (.type "type") "MOST_FIELDS" (.int 40) u
  mb : ∃ u, ClX.CVal K B (.type "type") "MOST_BODY" (.int 100000) u
/-- the class of responses -/
structure Ws (K : PySem.W.Frag) (mg : Str → Option Value) (R : Addr) : Prop where
  m : mg "Response" = some (.ref R)
  cls : Cls K R
  n1 : NoAttr K R "_first_line"
  n2 : NoAttr K R "_has_body"
  n3 : NoAttr K R "fields"
  n4 : NoAttr K R "body"
  n5 : NoAttr K R "status"
  rd : ClX.CRead K R (.type "type")
  st : ∃ p, ClX.CVal K R (.type "type") "STATUSES" (.ref p) (.ref p) ∧ ∀ H, SqT K H p (stL.map V.str)
def msFs (fl : Str) (hb : Bool) (v : V) (b : Str) : List (Str × V) := [("_first_line", .str fl), ("_has_body", .bl hb), ("fields", v), ("body", .str b)]
def rsFs (fl : Str) (hb : Bool) (v : V) (b s : Str) : List (Str × V) := [("_first_line", .str fl), ("_has_body", .bl hb), ("fields", v), ("body", .str b), ("status", .str s)]
theorem ms_put (fl : Str) (hb : Bool) (v : V) (b : Str) : putF "body" (.str b) (putF "fields" v (putF "_has_body" (.bl hb) (putF "_first_line" (.str fl) []))) = msFs fl hb v b := by rfl
theorem rs_put (fl : Str) (hb : Bool) (v : V) (b s : Str) : putF "status" (.str s) (msFs fl hb v b) = rsFs fl hb v b s := by rfl
def ansL (s : Str) : Str := [("answer " : Str), s].foldl (· ++ ·) Str.empty
def hasBd (s : Str) : Bool := !inV (.str s) ([("same" : Str), "done"].map V.str)
/-- an object of the class R with what Message.__init__ looks for -/
structure Wm (K : PySem.W.Frag) (R : Addr) : Prop where
  cls : Cls K R
  n1 : NoAttr K R "_first_line"
  n2 : NoAttr K R "_has_body"
  n3 : NoAttr K R "fields"
  n4 : NoAttr K R "body"
theorem Ws.wm {K : PySem.W.Frag} {mg : Str → Option Value} {R : Addr} (h : Ws K mg R) : Wm K R := ⟨h.cls, h.n1, h.n2, h.n3, h.n4⟩
/-- the class of requests -/
structure Wq (K : PySem.W.Frag) (mg : Str → Option Value) (R : Addr) : Prop where
  m : mg "Request" = some (.ref R)
  wm : Wm K R
  n5 : NoAttr K R "method"
  n6 : NoAttr K R "path"
  rd : ClX.CRead K R (.type "type")
  st : ∃ p, ClX.CVal K R (.type "type") "METHODS" (.ref p) (.ref p) ∧ ∀ H, SqT K H p (mdL.map V.str)
def asL (m p : Str) : Str := [("ask " : Str), m, " ", p].foldl (· ++ ·) Str.empty

/-! ### the fields that are handed in: a list, a tuple, or the default -/
def FqAt (K : PySem.W.Frag) (H : Hp) (q : Addr) (fs : Fs) : Prop := ∃ xs, (H q = some (.lst xs) ∨ SqT K H q xs) ∧ Rel (PfAt H) xs fs
theorem FqAt.ex {K : PySem.W.Frag} {H H' : Hp} {q : Addr} {fs : Fs} (h : FqAt K H q fs) (e : Ex H H') : FqAt K H' q fs := by
  obtain ⟨xs, h1, h2⟩ := h
  exact ⟨xs, h1.imp (fun z => e _ _ z) (fun z => ex_t e z), h2.mono fun _ _ m => TupAt.ex m e⟩
theorem FsAt.fq {K : PySem.W.Frag} {H : Hp} {q : Addr} {fs : Fs} (h : FsAt H q fs) : FqAt K H q fs := by
  obtain ⟨xs, h1, h2⟩ := h
  exact ⟨xs, .inl h1, h2⟩
theorem SqT.updI {K : PySem.W.Frag} {H : Hp} {q a C dx : Addr} {xs : List V} {gs : List (Str × V)} {o : HO} (h : SqT K H q xs) (ha : H a = some (.ins C dx gs)) : SqT K (upd H a o) q xs := by
  rcases h with (h | ⟨oo, h⟩) | h
  · exact .inl (.inl (by rw [upd_ne (fun e => by rw [e, ha] at h; cases h)]; exact h))
  · exact .inl (.inr ⟨oo, by rw [upd_ne (fun e => by rw [e, ha] at h; cases h)]; exact h⟩)
  · exact .inr h
theorem FqAt.updI {K : PySem.W.Frag} {H : Hp} {q a C dx : Addr} {fs : Fs} {gs : List (Str × V)} {o : HO} (h : FqAt K H q fs) (ha : H a = some (.ins C dx gs)) : FqAt K (upd H a o) q fs := by
  obtain ⟨xs, h1, h2⟩ := h
  refine ⟨xs, h1.imp (fun z => ?_) (fun z => SqT.updI z ha), h2.mono fun _ x m => ?_⟩
  · rw [upd_ne (fun e => by rw [e, ha] at z; cases z)]
    exact z
  · obtain ⟨t, rfl, ht⟩ := m
    refine ⟨t, rfl, ?_⟩
    rw [upd_ne (fun e => by rw [e, ha] at ht; cases ht)]
    exact ht
theorem pi_either {X : Cx} {tg e : Expr} {w1 w2 : TI} (h1 : PI X tg e w1) (h2 : PI X tg e w2) : PI X tg e (fun σ H R => w1 σ H R ∨ w2 σ H R) := ⟨fun pins s σ H R I h => h.elim (h1.run pins s σ H R I) (h2.run pins s σ H R I)⟩
def iLT (K : PySem.W.Frag) (tl : TE) : TI := fun σ H R => iList K tl σ H R ∨ iTup K tl σ H R
theorem ev_lenF {K : PySem.W.Frag} {σ : L2.St} {H : Hp} {te : TE} {q : Addr} {fs : Fs} (h : Ev te σ H (.ref q)) (hf : FqAt K H q fs) : Ev (tCB (rLenS K) (tCons te tNil)) σ H (.int (fs.length : Int)) := by
  obtain ⟨xs, h1 | h1, h2⟩ := hf
  · rw [← h2.1]
    exact ev_len h (sq_of h1)
  · rw [← h2.1]
    exact ev_lenT h h1
/-- all([.. for .. in fields]) -/
theorem all_evT {K : PySem.W.Frag} {σ : L2.St} {H : Hp} {te tl : TE} {g : TG} {l : Addr} {os : Fs} {gB : Str × Str → Bool} {ws : List Nat} (hv : Ev tl σ H (.ref l)) (hl : FqAt K H l os) (hz : os.length ≤ 40000)
    (hs : ∀ (x : V) (o : Str × Str) H1, o ∈ os → Ex H H1 → PfAt H1 x o → ∀ (k : VK), (∀ H2, Ex H1 H2 → k (.bl (gB o)) H2) → g x (wipe σ ws) H1 fun σ2 H2 => wipe σ2 ws = wipe σ ws ∧ te σ2 H2 k) : Ev (tCB (L2.rAll K) (tCons (tLc (iLT K tl) g tYes te ws) tNil)) σ H (.bl (os.all gB)) := fun H1 e Q q => by
  obtain ⟨vs, hq, hrel⟩ := hl
  have turn : ∀ (H2 H3 : Hp) (i : Nat) (x : V) (k : VK), Ex H1 H2 → Ex H2 H3 → vs[i]? = some x → (∀ y H4 o, Ex H3 H4 → (os.take (i + 1)).map gB = (os.take i).map gB ++ [o] → y = V.bl o → k y H4) →
      g x (wipe σ ws) H3 fun σ2 H2 => wipe σ2 ws = wipe σ ws ∧ tYes σ2 H2 fun b H3 => if b = true then te σ2 H3 k else True := fun H2 H3 i x k e2 e3 hi hk => by
    obtain ⟨o, ho, hxo⟩ := hrel.get hi
    have e03 := (e.trans e2).trans e3
    refine hs x o H3 (List.mem_of_getElem? ho) e03 (TupAt.ex hxo e03) k fun H4 e4 => hk _ H4 _ e4 ?_ rfl
    rw [List.take_add_one, ho, List.map_append]
    rfl
  have fin : ∀ (H2 H3 : Hp) (D : Addr) ys, Ex H1 H2 → Ex H2 H3 → H3 D = some (.lst ys) → Rel (fun v b => v = V.bl b) ys ((os.take vs.length).map gB) → L2.rAll K [.ref D] H3 Q := fun H2 H3 D ys e2 e3 hy hr => by
    rw [hrel.1, List.take_length] at hr
    have ey := rel_bl hr
    refine ⟨D, os.map gB, rfl, sq_of (by rw [hy, ey]), ?_⟩
    rw [List.all_map]
    exact q H3 (e2.trans e3)
  rcases hq with hq | hq
  · refine Or.inl (hv H1 e _ fun H2 e2 => ⟨l, rfl, ⟨vs, sq_of ((e.trans e2) _ _ hq)⟩, fun D hD => ?_⟩)
    exact lc_rel (α := Bool) (fun i => (os.take i).map gB) (fun _ v b => v = .bl b) (fun _ _ _ _ _ _ h => h) (sq_of ((e.trans e2) _ _ hq)) hD rfl (by rw [hrel.1]; omega) (fun i x H3 hi e3 k k0 hk _ => by
      obtain ⟨o, ho, hxo⟩ := hrel.get hi
      have e03 := (e.trans e2).trans e3
      refine hs x o H3 (List.mem_of_getElem? ho) e03 (TupAt.ex hxo e03) k fun H4 e4 => hk _ H4 _ e4 ?_ rfl
      show (os.take (i + 1)).map gB = _
      rw [List.take_add_one, ho, List.map_append]
      rfl) (fun H3 ys e3 hy hr => fin H2 H3 D ys e2 e3 hy hr)
  · refine Or.inr (hv H1 e _ fun H2 e2 => ⟨l, rfl, ⟨vs, ex_t (e.trans e2) hq⟩, fun D hD => ?_⟩)
    exact lc_relT (α := Bool) (fun i => (os.take i).map gB) (fun _ v b => v = .bl b) (fun _ _ _ _ _ _ h => h) (fun H3 e3 => ex_t ((e.trans e2).trans e3) hq) hD rfl (by rw [hrel.1]; omega) (fun i x H3 hi e3 k k0 hk _ => by
      obtain ⟨o, ho, hxo⟩ := hrel.get hi
      have e03 := (e.trans e2).trans e3
      refine hs x o H3 (List.mem_of_getElem? ho) e03 (TupAt.ex hxo e03) k fun H4 e4 => hk _ H4 _ e4 ?_ rfl
      show (os.take (i + 1)).map gB = _
      rw [List.take_add_one, ho, List.map_append]
      rfl) (fun H3 ys e3 hy hr => fin H2 H3 D ys e2 e3 hy hr)
/-- [(a, b) for a, b in fields] -/
theorem fields_newT {K : PySem.W.Frag} {σ : L2.St} {H : Hp} {i j1 j2 : Nat} {l : Addr} {fs : Fs} {Q : VK} (hi : σ[i]? = some (some (.ref l))) (hl : FqAt K H l fs) (hz : fs.length ≤ 40000) (hw : ∀ x y, wipe (((wipe σ [j1, j2]).set j1 (some x)).set j2 (some y)) [j1, j2] = wipe σ [j1, j2])
    (h1 : ∀ x y, (((wipe σ [j1, j2]).set j1 (some x)).set j2 (some y))[j1]? = some (some x)) (h2 : ∀ x y, (((wipe σ [j1, j2]).set j1 (some x)).set j2 (some y))[j2]? = some (some y))
    (k : ∀ D H', H D = none → Ex H H' → FsAt H' D fs → Q (.ref D) H') : tLc (iLT K (tVar i)) (gTup K 2 (gCons (gName j1) (gCons (gName j2) gNil))) tYes (tTup (tCons (tVar j1) (tCons (tVar j2) tNil))) [j1, j2] σ H Q := by
  obtain ⟨xs, hx | hx, hr⟩ := hl
  · exact Or.inl (fields_new hi ⟨xs, hx, hr⟩ hz hw h1 h2 k)
  · refine Or.inr ⟨.ref l, hi, l, rfl, ⟨_, hx⟩, fun D hD => ?_⟩
    refine lc_relT (α := Str × Str) (fun i => fs.take i) PfAt (fun _ _ _ _ k hD r => TupAt.keep r k hD) (fun H3 e3 => ex_t e3 hx) hD rfl (by rw [hr.1]; omega) (fun i x H13 hi e13 k k0 hk _ => ?_) (fun H13 ms e13 hy hrel => ?_)
    · obtain ⟨o, ho, t, rfl, ht⟩ := hr.get hi
      refine ⟨t, _, rfl, st_of (e13 _ _ ht), rfl, _, _, rfl, _, _, rfl, rfl, hw _ _, ?_⟩
      unfold tYes
      dsimp only
      rw [if_pos rfl]
      refine (eu_tup (ea_cons (ev_var (h1 _ _)) (ea_cons (ev_var (h2 _ _)) ea_nil)) (by show 2 ≤ _; decide)) H13 (Ex.refl H13) _ fun p H14 np e14 hp => hk _ H14 o e14 ?_ ⟨p, rfl, hp⟩
      show fs.take (i + 1) = _
      rw [List.take_add_one, ho]
      rfl
    · rw [hr.1, List.take_length] at hrel
      exact k D H13 hD e13 ⟨ms, hy, hrel⟩
def spAre (K : PySem.W.Frag) : Sp := fun vs H Q _ => ∃ (q : Addr) (fs : Fs), vs = [.ref q] ∧ FqAt K H q fs ∧ lenF fs ∧ fs.length ≤ 40000 ∧ RetV (.bl (areB fs)) H Q
def spIb : Sp := fun vs H Q _ => ∃ z : Str, vs = [.str z] ∧ z.length ≤ 200000 ∧ RetV (.bl (bodyB z)) H Q
/-! ### what is wrong with a message -/
/-- a row of the law: side, method or status, path, fields, body -/
structure Wl where
  q : Bool
  m : Str
  p : Str
  fs : Fs
  b : Str
def badM (fs : Fs) (hb : Bool) (b : Str) : Option Str := if areB fs = false then some "fields" else if bodyB b = false ∨ (b ≠ ("" : Str) ∧ hb = false) then some "body" else none
def stW (w : Wl) : Str := if w.q = true then asL w.m w.p else ansL w.m
def hbW (w : Wl) : Bool := if w.q = true then decide (w.m = ("put" : Str)) else hasBd w.m
def badW (w : Wl) : Option Str := if w.q = true then (if w.m ∉ mdL then some "method" else if pathB w.p = false then some "path" else badM w.fs (decide (w.m = ("put" : Str))) w.b) else (if w.m ∉ stL then some "status" else badM w.fs (hasBd w.m) w.b)
def exW (w : Wl) : List (Str × V) := if w.q = true then [(("method" : Str), V.str w.m), (("path" : Str), V.str w.p)] else [(("status" : Str), V.str w.m)]
def meFs (w : Wl) (l : Addr) : List (Str × V) := msFs (stW w) (hbW w) (.ref l) w.b ++ exW w
def smallF (fs : Fs) : Prop := fs.length ≤ 100 ∧ ∀ x ∈ fs, x.1.length ≤ 300 ∧ x.2.length ≤ 300
theorem smallF.lenF {fs : Fs} (h : smallF fs) : lenF fs := fun x hx => by
  obtain ⟨h1, h2⟩ := h.2 x hx
  exact ⟨by omega, by omega⟩
/-- Message.__init__ on an object of the class R -/
def spMs (K : PySem.W.Frag) (R DV : Addr) : Sp := fun vs H Q E => ∃ (a dx q : Addr) (fl b : Str) (hb : Bool) (fs : Fs), vs = [.ref a, .str fl, .bl hb, .ref q, .str b] ∧ H a = some (.ins R dx []) ∧ FqAt K H q fs ∧ smallF fs ∧ b.length ≤ 200000 ∧
  (badM fs hb b = none → ∀ l H', H l = none → Keep a H H' → H' a = some (.ins R dx (msFs fl hb (.ref l) b)) → FsAt H' l fs → Q .non H') ∧
  (∀ n, badM fs hb b = some n → ∀ d H', H d = none → Ex H H' → H' d = some (.xd [("name", .str n)]) → E (.ref DV) (some d) H')
/-- Request(..), Response(..) on an object of the class R -/
def rowA (w : Wl) (q : Addr) : List V := if w.q = true then [.str w.m, .str w.p, .ref q, .str w.b] else [.str w.m, .ref q, .str w.b]
def smallW (w : Wl) : Prop := w.m.length ≤ 100 ∧ w.p.length ≤ 100 ∧ smallF w.fs ∧ w.b.length ≤ 200000
def spCo (K : PySem.W.Frag) (R DV : Addr) (side : Bool) : Sp := fun vs H Q E => ∃ (a dx q : Addr) (w : Wl), w.q = side ∧ vs = .ref a :: rowA w q ∧ H a = some (.ins R dx []) ∧ FqAt K H q w.fs ∧ smallW w ∧
  (badW w = none → ∀ l H', H l = none → Keep a H H' → H' a = some (.ins R dx (meFs w l)) → FsAt H' l w.fs → Q .non H') ∧
  (∀ n, badW w = some n → ∀ d H', H d = none → Ex H H' → H' d = some (.xd [("name", .str n)]) → E (.ref DV) (some d) H')
structure Mb (P : Program) (w : World) (K : PySem.W.Frag) (mg : Str → Option Value) (base : Heap) (B R DV : Addr) : Prop where
  ex : ∃ g fd, ZX.CFn K B (.type "type") "__init__" g ∧ FnOk P w K mg base (L2N.CX P w) 5 g fd ["self", "first_line", "has_body", "fields", "body"] (spMs K R DV) ∧ Binds K fd ["self", "first_line", "has_body", "fields", "body"] []
theorem sc_Mi : FnScope ["self", "first_line", "has_body", "fields", "body", "name", "value"] ["self", "first_line", "has_body", "fields", "body"] (L2.defScope s_Mi) := ⟨rfl, rfl, rfl, by decide +kernel, rfl, by decide +kernel, by decide +kernel⟩
theorem sc_Rs : FnScope ["self", "status", "fields", "body"] ["self", "status", "fields", "body"] (L2.defScope s_Rs) := ⟨rfl, rfl, rfl, by decide +kernel, rfl, by decide +kernel, by decide +kernel⟩
theorem st_len {s : Str} (h : s ∈ stL) : s.length ≤ 10 := by
  simp only [stL, List.mem_cons, List.not_mem_nil, or_false] at h
  rcases h with rfl | rfl | rfl | rfl | rfl | rfl | rfl | rfl | rfl <;> decide +kernel
section
variable {P : Program} {w : World} {K : PySem.W.Frag} {mg : Str → Option Value} {base : Heap} {f B R C L DV DM DH : Addr} {fd : FuncData} {k : Nat}
theorem ok_is_plain_lines (T : Mg mg) (c_is_plain : Call P w K mg base 1 "is_plain" ["text"] (sp1 fun z => .bl (allIn z signs))) (F : FnP K "is_plain_lines" s_is_plain_lines f fd) (gm : mg "is_plain_lines" = some (.ref f)) : Call P w K mg base 2 "is_plain_lines" ["text"] (sp1 fun z => .bl (linesB z)) := by
  refine mkT F gm (fun _ _ _ _ _ _ us hl => match us, hl with | [_], _ => rfl) (fun _ _ _ _ _ _ us hl => match us, hl with | [_], _ => rfl) sc_is_plain_lines (by decide +kernel) (by decide) (fun vs H Q E h => ?_) (fun cdv A outer s H vs Q E hr h => ?_)
  · obtain ⟨z, rfl, _⟩ := h
    rfl
  · obtain ⟨z, rfl, hz, q⟩ := h
    refine ⟨_, CwR.psst_one (CwR.pst_ret (pet_f c_is_plain hr (by decide) rfl (pat_cons (CwR.pet_replC (pv 0)) pat_nil))), ?_⟩
    refine s_ret (v := .bl (linesB z)) (ev_is (ev_call (ea_cons (ev_replC (ev_var rfl) hz) ea_nil) (sv1 (f := fun z => .bl (allIn z signs)) (Nat.le_trans (repl_len z) hz))) (congrArg V.bl (lines_eq z))) q
theorem ok_is_body (T : Mg mg) (MB : Wb K mg B) (c_is_plain_lines : Call P w K mg base 2 "is_plain_lines" ["text"] (sp1 fun z => .bl (linesB z))) (F : FnP K "is_body" s_is_body f fd) (gm : mg "is_body" = some (.ref f)) : Call P w K mg base 3 "is_body" ["text"] spIb := by
  refine mk F gm (fun _ _ _ _ _ _ us hl => match us, hl with | [_], _ => rfl) (fun _ _ _ _ _ _ us hl => match us, hl with | [_], _ => rfl) sc_is_body (fun vs H Q E h => ?_) (fun cdv A outer s H vs Q E hr h => ?_)
  · obtain ⟨z, rfl, _⟩ := h
    rfl
  · obtain ⟨z, rfl, hz, q⟩ := h
    obtain ⟨u, hu⟩ := MB.mb
    refine ⟨_, (pss_one (ps_ret (pe_and (pe_cmpR op_le (pe_callB cz_len (by rfl) T.len (by decide +kernel) (pa_cons (pv 0) pa_nil)) (ClX.pe_cval (pe_gc (v := .ref B) rfl ⟨_, MB.m, rfl⟩)) (nomark _)) (pe_one (pe_f c_is_plain_lines hr (by decide) rfl (pa_cons (pv 0) pa_nil)))))), ?_⟩
    exact s_ret (v := .bl (bodyB z)) (ev_andV (ev_op (ev_lenStrW (ev_var rfl) hz) (ev_cval ev_c MB.rd hu) rv_I0) fun h => ev_call (ea_cons (ev_var rfl) ea_nil) (sv1 (by have := of_decide_eq_true h; omega))) q
theorem ok_are_fields (T : Mg mg) (MB : Wb K mg B) (c_is_field_name : Call P w K mg base 3 "is_field_name" ["text"] (sp1 fun z => .bl (nameB z))) (c_is_value : Call P w K mg base 2 "is_value" ["text"] (sp1 fun z => .bl (valueB z))) (F : FnP K "are_fields" s_are_fields f fd) (gm : mg "are_fields" = some (.ref f)) :
    Call P w K mg base 4 "are_fields" ["fields"] (spAre K) := by
  refine mk F gm (fun _ _ _ _ _ _ us hl => match us, hl with | [_], _ => rfl) (fun _ _ _ _ _ _ us hl => match us, hl with | [_], _ => rfl) sc_are_fields (fun vs H Q E h => ?_) (fun cdv A outer s H vs Q E hr h => ?_)
  · obtain ⟨q, fs, rfl, _⟩ := h
    rfl
  · obtain ⟨q, fs, rfl, hf, hln, hz, kq⟩ := h
    obtain ⟨u, hu⟩ := MB.mf
    refine ⟨_, (pss_cons (ps_if (pt_cmpR op_gt (pe_callB call_len_seq (by rfl) T.len (by decide +kernel) (pa_cons (pv 0) pa_nil)) (ClX.pe_cval (pe_gc (v := .ref B) rfl ⟨_, MB.m, rfl⟩)) (nomark _))
      (pss_one (ps_ret pe_bl))
      pss_nil)
    (pss_one (ps_ret (pe_callB (cr_all rfl) (by rfl) T.all (by decide +kernel) (pa_cons (pe_lc (own := [("name", 1), ("value", 2)]) (g := (gTup K 2 (gCons (gName 1) (gCons (gName 2) gNil)))) (tt := tYes) rfl sc_are_fields.nd (pi_either (pi_list (pv 0)) (pi_tup (pv 0))) (blkOk_by (N := ["fields", "name", "value"]) (sc := L2.defScope s_are_fields) (by decide +kernel)) (fun _ _ _ _ _ => pg_tup rfl (pgs_cons (pg_name (i := 1) sc_are_fields.nd rfl (Or.inl rfl)) (pgs_cons (pg_name (i := 2) sc_are_fields.nd rfl (Or.inl rfl)) pgs_nil))) (fun _ _ _ _ _ => pts_nil) (fun _ _ _ _ _ => (pe_and (pe_f c_is_field_name hr (by decide) rfl (pa_cons (pv 1) pa_nil)) (pe_one (pe_f c_is_value hr (by decide) rfl (pa_cons (pv 2) pa_nil)))))) pa_nil))))), ?_⟩
    refine q_when (b := decide (¬ fs.length ≤ 40)) (et_is (et_test (ev_op (ev_lenF (ev_var rfl) hf) (ev_cval ev_c MB.rd hu) rv_I0)) (decide_eq_decide.mpr (by omega))) (fun hb H1 e1 => ?_) (fun hb H1 e1 => ?_)
    · have h0 : areB fs = false := by
        unfold areB
        rw [decide_eq_false (of_decide_eq_true hb), Bool.false_and]
      refine s_ret ev_c fun H2 e2 => ?_
      have g := kq H2 (e1.trans e2)
      rw [h0] at g
      exact g
    · have h0 : areB fs = fs.all fieldB := by
        unfold areB
        rw [decide_eq_true (Decidable.not_not.mp (of_decide_eq_false hb)), Bool.true_and]
      refine s_ret (v := .bl (fs.all fieldB)) (all_evT (gB := fieldB) (ev_var rfl) (hf.ex e1) hz fun x o H2 hm e2 hxo k hk => ?_) fun H2 e2 => ?_
      · obtain ⟨t, rfl, ht⟩ := hxo
        obtain ⟨l1, l2⟩ := hln o hm
        refine ⟨t, _, rfl, st_of ht, rfl, _, _, rfl, _, _, rfl, rfl, rfl, ?_⟩
        exact (ev_andV (ev_call (ea_cons (ev_var rfl) ea_nil) (sv1 l1)) fun _ => ev_call (ea_cons (ev_var rfl) ea_nil) (sv1 l2)) H2 (Ex.refl H2) _ fun H3 e3 => hk H3 e3
      · have g := kq H2 (e1.trans e2)
        rw [h0] at g
        exact g
theorem ok_Mi (T : Mg mg) (WR : Wm K R) (WE : We K mg DV DH) (EV : Ef P w K mg base DV ["self", "name"] "name") (c_are_fields : Call P w K mg base 4 "are_fields" ["fields"] (spAre K)) (c_is_body : Call P w K mg base 3 "is_body" ["text"] spIb)
    (F : FunD K "__init__" "Message.__init__" (L2.defArgs s_Mi) (L2.defBody s_Mi) (L2.defScope s_Mi) [] [] f fd) : FnOk P w K mg base (L2N.CX P w) 5 f fd ["self", "first_line", "has_body", "fields", "body"] (spMs K R DV) := by
  refine FunD.ok F sc_Mi (fun vs H Q E h => ?_) (fun cdv A outer s H vs Q E hr h => ?_)
  · obtain ⟨a, dx, q, fl, b, hb, fs, rfl, _⟩ := h
    rfl
  · obtain ⟨a, dx, q, fl, b, hb, fs, rfl, ha, hf, hs, hbl, k, kb⟩ := h
    refine ⟨_, (pss_cons (ps_if (pt_not (pt_val (pe_f c_are_fields hr (by decide) rfl (pa_cons (pv 3) pa_nil))))
      (pss_one (ps_raiseE EV rfl (L2N.takes_of rfl rfl rfl rfl) (hr.mono (by decide)) rfl WE.mV (pa_cons pe_str pa_nil)))
      pss_nil)
    (pss_cons (ps_if (PW.pt (pw_or (pt_not (pt_val (pe_f c_is_body hr (by decide) rfl (pa_cons (pv 4) pa_nil)))) (pw_or1 (PW.pt (pw_and (pt_cmpR op_ne (pv 4) pe_str (nomark _)) (pw_and1 (pt_not (pt_truth (pv 2) (by intro _; rfl)))))))))
      (pss_one (ps_raiseE EV rfl (L2N.takes_of rfl rfl rfl rfl) (hr.mono (by decide)) rfl WE.mV (pa_cons pe_str pa_nil)))
      pss_nil)
    (pss_cons (ps_fld (pv 0) (pv 1) rfl)
    (pss_cons (ps_fld (pv 0) (pv 2) rfl)
    (pss_cons (ps_fld (pv 0) (pe_lc (own := [("name", 5), ("value", 6)]) (g := (gTup K 2 (gCons (gName 5) (gCons (gName 6) gNil)))) (tt := tYes) rfl sc_Mi.nd (pi_either (pi_list (pv 3)) (pi_tup (pv 3))) (blkOk_by (N := ["self", "first_line", "has_body", "fields", "body", "name", "value"]) (sc := L2.defScope s_Mi) (by decide +kernel)) (fun _ _ _ _ _ => pg_tup rfl (pgs_cons (pg_name (i := 5) sc_Mi.nd rfl (Or.inl rfl)) (pgs_cons (pg_name (i := 6) sc_Mi.nd rfl (Or.inl rfl)) pgs_nil))) (fun _ _ _ _ _ => pts_nil) (fun _ _ _ _ _ => (pe_tup (pa_cons (pv 5) (pa_cons (pv 6) pa_nil))))) rfl)
    (pss_one (ps_fld (pv 0) (pv 4) rfl))))))), ?_⟩
    have bad : ∀ {n : Str} {σ : L2.St} {H' : Hp} {te : TE}, badM fs hb b = some n → n.length ≤ 1000 → Ex H H' → Ev te σ H' (.str n) → tMkO DV (spErr1 DV "name") [] (tCons te tNil) σ H' (fun cls d H' => E cls d H') := fun {n σ H' te} hb hl e hv => mk_err1 (ea_cons hv ea_nil) (by omega) fun d H1 hd ex hx => kb n hb d H1 (fresh_back e hd) (e.trans ex) hx
    refine q_when (b := !areB fs) (et_not (et_B (ev_call (ea_cons (ev_var rfl) ea_nil) (z := .bl (areB fs)) fun H1 e Q' q' E' => ⟨q, fs, rfl, hf.ex e, hs.lenF, by have := hs.1; omega, q'⟩))) (fun h H1 e1 => bad (n := "fields") ?_ (by decide +kernel) e1 ev_c) (fun h H1 e1 => ?_)
    · unfold badM
      rw [if_pos ((Bool.not_eq_true' _).mp h)]
    have h0 : areB fs = true := (Bool.not_eq_false' _).mp h
    have hA : ¬ areB fs = false := by rw [h0]; exact Bool.noConfusion
    refine q_when (b := !bodyB b || (!decide (b = "") && !hb)) (et_or (et_not (et_B (ev_call (ea_cons (ev_var rfl) ea_nil) (z := .bl (bodyB b)) fun H1 e Q' q' E' => ⟨b, rfl, hbl, q'⟩))) fun _ => et_and (et_test (ev_op (ev_var rfl) ev_c rv_neS)) fun _ => et_not (et_truB (ev_var rfl))) (fun h H2 e2 => bad (n := "body") ?_ (by decide +kernel) (e1.trans e2) ev_c) (fun h H2 e2 => ?_)
    · unfold badM
      rw [if_neg hA, if_pos]
      rw [Bool.or_eq_true, Bool.and_eq_true, Bool.not_eq_true', Bool.not_eq_true', Bool.not_eq_true', decide_eq_false_iff_not] at h
      exact h
    have good : badM fs hb b = none := by
      unfold badM
      rw [if_neg hA, if_neg]
      rw [Bool.or_eq_false_iff, Bool.not_eq_false', Bool.and_eq_false_iff, Bool.not_eq_false', Bool.not_eq_false', decide_eq_true_eq] at h
      rintro (z | ⟨z1, z2⟩)
      · rw [h.1] at z; cases z
      · rcases h.2 with y | y
        · exact z1 y
        · rw [y] at z2; cases z2
    have k := k good
    clear bad kb
    have e12 := e1.trans e2
    have ha2 := e12 _ _ ha
    refine q_in ?_; dsimp only
    refine ⟨.str fl, rfl, .ref a, rfl, a, R, dx, [], rfl, ha2, WR.cls, WR.n1, by decide, ?_⟩
    refine q_in ?_; dsimp only
    refine ⟨.bl hb, rfl, .ref a, rfl, a, R, dx, _, rfl, upd_same, WR.cls, WR.n2, by show 1 < 1000; decide, ?_⟩
    refine q_in ?_; dsimp only
    have k2 : Keep a H (upd (upd H2 a (.ins R dx (putF "_first_line" (.str fl) []))) a (.ins R dx (putF "_has_body" (.bl hb) (putF "_first_line" (.str fl) [])))) := (Keep.of e12).upd.upd
    have f2 : FqAt K (upd (upd H2 a (.ins R dx (putF "_first_line" (.str fl) []))) a (.ins R dx (putF "_has_body" (.bl hb) (putF "_first_line" (.str fl) [])))) q fs := ((hf.ex e12).updI ha2).updI upd_same
    have a2 : (upd (upd H2 a (.ins R dx (putF "_first_line" (.str fl) []))) a (.ins R dx (putF "_has_body" (.bl hb) (putF "_first_line" (.str fl) [])))) a = some (.ins R dx (putF "_has_body" (.bl hb) (putF "_first_line" (.str fl) []))) := upd_same
    have nl0 : ∀ l, (upd (upd H2 a (.ins R dx (putF "_first_line" (.str fl) []))) a (.ins R dx (putF "_has_body" (.bl hb) (putF "_first_line" (.str fl) [])))) l = none → l ≠ a ∧ H l = none := fun l hl => by
      have na : l ≠ a := fun e => by
        rw [e, a2] at hl
        cases hl
      rw [upd_ne na, upd_ne na] at hl
      exact ⟨na, fresh_back e12 hl⟩
    generalize upd (upd H2 a (.ins R dx (putF "_first_line" (.str fl) []))) a (.ins R dx (putF "_has_body" (.bl hb) (putF "_first_line" (.str fl) []))) = H3 at k2 f2 a2 nl0
    refine g_fld (fields_newT (by rfl) f2 (by have := hs.1; omega) (by intro _ _; rfl) (by intro _ _; rfl) (by intro _ _; rfl) fun l H4 nl e4 hl => ?_)
    obtain ⟨nla, nlH⟩ := nl0 l nl
    have a4 := e4 _ _ a2
    refine ⟨.ref a, rfl, a, R, dx, _, rfl, a4, WR.cls, WR.n3, by show 2 < 1000; decide, ?_⟩
    refine ⟨.str b, rfl, .ref a, rfl, a, R, dx, _, rfl, upd_same, WR.cls, WR.n4, by show 3 < 1000; decide, ?_⟩
    exact k l _ nlH ((k2.trans (Keep.of e4)).upd.upd) (by rw [upd_same, ms_put]) ((hl.updI a4).updI upd_same)
end
end Z
set_option maxHeartbeats 4000000
namespace Z
open PySem PySem.Spec PyProof.Rows L2 TL Evl NdefX
section
variable {P : Program} {w : World} {K : PySem.W.Frag} {mg : Str → Option Value} {base : Heap} {f B R C L DV DM DH : Addr} {fd : FuncData} {k : Nat}
theorem ok_Rs (T : Mg mg) (WB : Wb K mg B) (WR : Ws K mg R) (WE : We K mg DV DH) (EV : Ef P w K mg base DV ["self", "name"] "name") (MB : Mb P w K mg base B R DV) {dvs : List V} (F : FunD K "__init__" "Response.__init__" (L2.defArgs s_Rs) (L2.defBody s_Rs) (L2.defScope s_Rs) dvs [] f fd) : FnOk P w K mg base (L2N.CX P w) 6 f fd ["self", "status", "fields", "body"] (spCo K R DV false) := by
  obtain ⟨gM, fM, CF, FM, bM⟩ := MB.ex
  refine FunD.ok F sc_Rs (fun vs H Q E h => ?_) (fun cdv A outer s H vs Q E hr h => ?_)
  · obtain ⟨a, dx, q, ⟨wq, st, pp, fs, b⟩, hw, rfl, _⟩ := h
    cases (show wq = false from hw)
    rfl
  · obtain ⟨a, dx, q, ⟨wq, st, pp, fs, b⟩, hw, rfl, ha, hf, ⟨sm, sp, sf, sb⟩, k, kb⟩ := h
    cases (show wq = false from hw)
    obtain ⟨pm, hmt, hmT⟩ := WR.st
    refine ⟨_, (pss_cons (ps_if (pt_cmpR op_notIn_seq (pv 1) (ClX.pe_cval (pe_gc (v := .ref R) rfl ⟨_, WR.m, rfl⟩)) rfl)
      (pss_one (ps_raiseE EV rfl (L2N.takes_of rfl rfl rfl rfl) (hr.mono (by decide)) rfl WE.mV (pa_cons pe_str pa_nil)))
      pss_nil)
    (pss_cons (ps_expr (ZX.pe_clsFn (E := fun _ => E) (pe_gc (v := .ref B) rfl ⟨_, WB.m, rfl⟩) CF FM bM (hr.mono (by decide)) (fun σ pins H s e s' I c => L2N.passes_call (L2N.takes_of rfl rfl rfl rfl) (fun _ _ _ _ h => h) pins σ H s e s' I c) (pa_cons (pv 0) (pa_cons (pe_joined (.cons pe_str (.cons (pe_fmt (pv 1)) .nil))) (pa_cons (pe_cmpR op_notIn_seq (pv 1) (pe_tup (pa_cons pe_str (pa_cons pe_str pa_nil))) rfl) (pa_cons (pv 2) (pa_cons (pv 3) pa_nil)))))))
    (pss_one (ps_fld (pv 0) (pv 1) rfl)))), ?_⟩
    refine q_when (b := !decide (st ∈ stL)) (et_is (et_test (ev_op (ev_var rfl) (ev_cval ev_c WR.rd hmt) (rv_niT (hmT H) rfl rfl))) (congrArg (!·) (inV_strs st stL))) (fun h H2 e2 => mk_err1 (ea_cons ev_c ea_nil) (by decide +kernel) fun d H1 hd ex hx => kb "status" ?_ d H1 (fresh_back e2 hd) (e2.trans ex) hx) (fun h H2 e12 => ?_)
    · have := of_decide_eq_false ((Bool.not_eq_true' _).mp h)
      unfold badW
      rw [if_neg Bool.false_ne_true, if_pos this]
    have hm := of_decide_eq_true ((Bool.not_eq_false' _).mp h)
    have hbad : badW ⟨false, st, pp, fs, b⟩ = badM fs (hasBd st) b := by
      unfold badW
      rw [if_neg Bool.false_ne_true, if_neg (fun z => z hm)]
    rw [hbad] at k kb
    have hml := st_len hm
    refine q_in ?_; dsimp only
    refine g_drop ?_
    refine ⟨rfl, ?_⟩
    have c4 : ("answer " : Str).length ≤ 100 := by decide +kernel
    refine (ea_cons (ev_var rfl) (ea_cons (ev_joined (zs := [("answer " : Str), st]) (x := ansL st) (ej_cons ev_c (ej_cons (ev_fmt (ev_var rfl) (by omega)) ej_nil)) (by simp only [List.map_cons, List.map_nil, List.sum_cons, List.sum_nil]; omega) rfl) (ea_cons (ev_niU (ev_var rfl) (eu_tup (ea_cons ev_c (ea_cons ev_c ea_nil)) (by decide)) rfl rfl) (ea_cons (ev_var rfl) (ea_cons (ev_var rfl) ea_nil))))) H2 (Ex.refl H2) _ fun H3 e3 => ?_
    have e13 := e12.trans e3
    refine ⟨a, dx, q, ansL st, b, hasBd st, fs, rfl, e13 _ _ ha, hf.ex e13, sf, sb, fun hg l H4 nl k4 h4 hl => ?_, fun n hn d H4 hd e4 hx => kb n hn d H4 (fresh_back e13 hd) (e13.trans e4) hx⟩
    refine ⟨.str st, rfl, .ref a, rfl, a, R, dx, _, rfl, h4, WR.cls, WR.n5, by show 4 < 1000; decide, ?_⟩
    exact k hg l _ (fresh_back e13 nl) (((Keep.of e13).trans k4).upd) (by rw [upd_same]; rfl) (hl.updI h4)
end
/-! ### messages -/
def MeC (C : Addr) (H : Hp) (v : V) (w : Wl) (l : Addr) : Prop := ∃ a dx, v = .ref a ∧ H a = some (.ins C dx (meFs w l)) ∧ FsAt H l w.fs
theorem MeC.ex {C : Addr} {H H' : Hp} {v : V} {w : Wl} {l : Addr} (h : MeC C H v w l) (e : Ex H H') : MeC C H' v w l := by
  obtain ⟨a, dx, rfl, ha, hf⟩ := h
  exact ⟨a, dx, rfl, e _ _ ha, hf.ex e⟩
theorem MeC.keep {C p : Addr} {H H' : Hp} {v : V} {w : Wl} {l : Addr} (h : MeC C H v w l) (k : Keep p H H') (hp : ∃ xs, H p = some (.lst xs)) (n : l ≠ p) : MeC C H' v w l := by
  obtain ⟨a, dx, rfl, ha, hf⟩ := h
  refine ⟨a, dx, rfl, k _ _ (fun e => ?_) ha, hf.keep k hp n⟩
  obtain ⟨xs, hp⟩ := hp
  rw [e, hp] at ha
  cases ha
def wdW (w : Wl) (fs : Fs) (b : Str) : Wl := ⟨w.q, w.m, w.p, fs, b⟩
section
variable {K : PySem.W.Frag} {R q DV : Addr} {H : Hp} {w : Wl} {side : Bool} {Q : VK} {E : XK}
theorem co_mk (hw : w.q = side) (hf : FqAt K H q w.fs) (hs : smallW w) (kt : badW w = none → ∀ v l H', H l = none → Ex H H' → MeC R H' v w l → Q v H')
    (kf : ∀ n, badW w = some n → ∀ d H', H d = none → Ex H H' → H' d = some (.xd [("name", .str n)]) → E (.ref DV) (some d) H') :
    ∀ x dx, H x = none → H dx = none → dx ≠ x → spCo K R DV side (.ref x :: rowA w q) (upd (upd H dx (.own x)) x (.ins R dx [])) (fun v H2 => v = .non ∧ Q (.ref x) H2) E := fun x dx hx hd hne => by
  have e0 : Ex H (upd (upd H dx (.own x)) x (.ins R dx [])) := fun c o hc => by
    rw [upd_ne (ne_of_none hc hx), upd_ne (ne_of_none hc hd)]
    exact hc
  exact ⟨x, dx, q, w, hw, rfl, upd_same, hf.ex e0, hs, fun hn l H' nl kp h1 h2 => ⟨rfl, kt hn _ l H' (fresh_back e0 nl) (fun c o hc => kp c o (ne_of_none hc hx) (e0 c o hc)) ⟨x, dx, rfl, h1, h2⟩⟩, fun n hb d H' hn ex h => kf n hb d H' (fresh_back e0 hn) (e0.trans ex) h⟩
end
theorem me_first {w : Wl} {l : Addr} : (meFs w l).lookup ("_first_line" : Str) = some (.str (stW w)) := rfl
theorem me_has {w : Wl} {l : Addr} : (meFs w l).lookup ("_has_body" : Str) = some (.bl (hbW w)) := rfl
theorem me_fields {w : Wl} {l : Addr} : (meFs w l).lookup ("fields" : Str) = some (.ref l) := rfl
theorem me_body {w : Wl} {l : Addr} : (meFs w l).lookup ("body" : Str) = some (.str w.b) := rfl
theorem me_method {w : Wl} {l : Addr} (h : w.q = true) : (meFs w l).lookup ("method" : Str) = some (.str w.m) := by
  obtain ⟨q, m, p, fs, b⟩ := w
  cases (show q = true from h)
  rfl
theorem me_path {w : Wl} {l : Addr} (h : w.q = true) : (meFs w l).lookup ("path" : Str) = some (.str w.p) := by
  obtain ⟨q, m, p, fs, b⟩ := w
  cases (show q = true from h)
  rfl
theorem me_status {w : Wl} {l : Addr} (h : w.q = false) : (meFs w l).lookup ("status" : Str) = some (.str w.m) := by
  obtain ⟨q, m, p, fs, b⟩ := w
  cases (show q = false from h)
  rfl
theorem me_no {w : Wl} {l : Addr} : ∀ n ∈ ["all_values", "remade", "joined", "with_field", "without", "value"].map Str.ofString, (meFs w l).lookup n = none := by
  obtain ⟨q, m, p, fs, b⟩ := w
  intro n hn
  simp only [List.map_cons, List.map_nil, List.mem_cons, List.not_mem_nil, or_false] at hn
  cases q <;> rcases hn with rfl | rfl | rfl | rfl | rfl | rfl <;> rfl
section
variable {K : PySem.W.Frag} {C a dx l : Addr} {σ : L2.St} {H : Hp} {te : TE} {w : Wl} {v : V} {f : Str} {gs : List (Str × V)}
theorem ev_mfld (c : Cls K C) (n : NoAttr K C f) (h : Ev te σ H (.ref a)) (ha : H a = some (.ins C dx gs)) (hl : gs.lookup f = some v) : Ev (tFld K te f) σ H v := fun H1 e Q q =>
  h H1 e _ fun H2 e2 => ⟨a, C, dx, _, _, rfl, e2 _ _ (e _ _ ha), c, n, hl, q H2 e2⟩
end
def rStrS : List V → Hp → VK → Prop := fun xs H Q => ∃ a, xs = [.str a] ∧ Q (.str a) H
theorem cz_strS {X : Cx} : CallR X (.type "str") rStrS := SkE.call_str_str
theorem ev_strS {σ : L2.St} {H : Hp} {te : TE} {a : Str} (h : Ev te σ H (.str a)) : Ev (tCB rStrS (tCons te tNil)) σ H (.str a) := fun H1 e Q q => h H1 e _ fun H2 e2 => ⟨a, rfl, q H2 e2⟩
def withF (fs : Fs) (n x : Str) : Fs := (fs.filter fun y => !decide (y.1 = n)) ++ [(n, x)]
def outF (fs : Fs) (ns : List Str) : Fs := fs.filter fun y => !decide (y.1 ∈ ns)
theorem sc_Mv : FnScope ["self", "name", "own", "value"] ["self", "name"] (L2.defScope s_Mv) := ⟨rfl, rfl, rfl, by decide +kernel, rfl, by decide +kernel, by decide +kernel⟩
def spAv (C : Addr) : Sp := fun vs H Q _ => ∃ v n w l, vs = [v, .str n] ∧ MeC C H v w l ∧ w.fs.length ≤ 40 ∧ RetL ((valsF w.fs n).map V.str) H Q
structure Mkx (P : Program) (w : World) (K : PySem.W.Frag) (mg : Str → Option Value) (base : Heap) (R DV : Addr) (side : Bool) (ps : List Str) : Prop where
  ex : ∃ fi fd, Mk K R fi ∧ FnOk P w K mg base (L2N.CX P w) 6 fi fd ps (spCo K R DV side) ∧ Binds K fd ps []
abbrev rsN : List Str := ["self", "status", "fields", "body"]
theorem rd_mkS {C : Addr} {sp : Sp} {dvs : List V} {E : XK} {ta : TA} {σ : L2.St} {H : Hp} {Q : VK} (h : ta σ H fun vs H1 => ∀ x dx, H1 x = none → H1 dx = none → dx ≠ x → sp (.ref x :: (vs ++ dvs)) (upd (upd H1 dx (.own x)) x (.ins C dx [])) (fun v H2 => v = .non ∧ Q (.ref x) H2) E) : tMake C sp dvs E ta σ H Q := h
section
variable {P : Program} {w : World} {K : PySem.W.Frag} {mg : Str → Option Value} {base : Heap} {f B C DV DH : Addr} {fd : FuncData} {k : Nat} {CX : CXT}
theorem ok_Mv (WR : Wm K C) (F : FunD K "all_values" "Message.all_values" (L2.defArgs s_Mv) (L2.defBody s_Mv) (L2.defScope s_Mv) [] [] f fd) : FnOk P w K mg base CX 1 f fd ["self", "name"] (spAv C) := by
  refine FunD.ok F sc_Mv (fun vs H Q E h => ?_) (fun cdv A outer s H vs Q E hr h => ?_)
  · obtain ⟨v, n, w, l, rfl, _⟩ := h
    rfl
  · obtain ⟨v, n, w, l, rfl, ⟨a, dx, rfl, ha, xs, hx, hr1⟩, hz, q⟩ := h
    refine ⟨_, (pss_one (ps_ret (pe_lc (own := [("own", 2), ("value", 3)]) (g := (gTup K 2 (gCons (gName 2) (gCons (gName 3) gNil)))) rfl sc_Mv.nd (pi_list (pe_fld (pv 0) rfl)) (blkOk_by (N := ["self", "name", "own", "value"]) (sc := L2.defScope s_Mv) (by decide +kernel)) (fun _ _ _ _ _ => pg_tup rfl (pgs_cons (pg_name (i := 2) sc_Mv.nd rfl (Or.inl rfl)) (pgs_cons (pg_name (i := 3) sc_Mv.nd rfl (Or.inl rfl)) pgs_nil))) (fun _ _ _ _ _ => pts_one (pt_cmpR op_eq (pv 2) (pv 1) (nomark _))) (fun _ _ _ _ _ => (pv 3))))), ?_⟩
    refine g_ret ?_
    refine ⟨.ref a, rfl, a, C, dx, _, .ref l, rfl, ha, WR.cls, WR.n3, rfl, l, rfl, ⟨_, sq_of hx⟩, fun D hD => ?_⟩
    refine lc_rel (α := Str) (fun i => valsF (w.fs.take i) n) (fun _ v s => v = .str s) (fun _ _ _ _ _ _ h => h) (sq_of hx) hD rfl (by rw [hr1.1]; omega) (fun i x H3 hi e3 k k0 hk hk0 => ?_) (fun H3 ys e3 hy hrel => ?_)
    · obtain ⟨o, ho, t, rfl, ht⟩ := hr1.get hi
      have ht3 := e3 _ _ ht
      have hacc : valsF (w.fs.take (i + 1)) n = valsF (w.fs.take i) n ++ (if decide (o.1 = n) = true then [o.2] else []) := by
        unfold valsF
        rw [List.take_add_one, ho, List.filter_append, List.map_append]
        show _ ++ List.map Prod.snd (List.filter _ [o]) = _
        rw [List.filter_cons]
        by_cases h : o.1 = n
        · rw [decide_eq_true h]; rfl
        · rw [decide_eq_false h]; rfl
      refine ⟨t, _, rfl, st_of ht3, rfl, _, _, rfl, _, _, rfl, rfl, rfl, ?_⟩
      refine (et_test (ev_op (ev_var rfl) (ev_var rfl) rv_eqS)) H3 (Ex.refl H3) _ fun H4 e4 => ?_
      cases hb : decide (o.1 = n) with
      | true =>
        rw [if_pos rfl]
        exact (ev_var rfl) H4 (Ex.refl H4) _ fun H5 e5 => hk _ H5 o.2 (e4.trans e5) (by rw [hacc, hb]; rfl) rfl
      | false =>
        rw [if_neg Bool.false_ne_true]
        exact hk0 H4 e4 (by rw [hacc, hb]; exact List.append_nil _)
    · rw [hr1.1, List.take_length] at hrel
      have ey : ys = (valsF w.fs n).map V.str := by
        refine List.ext_getElem (by rw [hrel.1, List.length_map]) fun i h1 h2 => ?_
        rw [List.getElem_map]
        rw [List.length_map] at h2
        exact hrel.2 i _ _ (List.getElem?_eq_getElem h1) (List.getElem?_eq_getElem h2)
      exact q D H3 hD e3 (by rw [hy, ey])
end
structure Ef0 (P : Program) (w : World) (K : PySem.W.Frag) (mg : Str → Option Value) (base : Heap) (D : Addr) : Prop where
  ex : ∃ fI fd, OexC K D ∧ PySem.W.findIn K (.ref D) "__init__" = some (some (.ref fI)) ∧ PySem.W.typeIn K (.ref fI) = some (.type "function") ∧ FnOk P w K mg base CX0 1 fI fd ["self"] (ZX.spErr0 D) ∧ Binds K fd ["self"] []
theorem ps_raise0 {X : Cx} {W : WX} {D : Addr} {x : Str} {p pos pos' : Pos} (F : Ef0 X.prog X.w X.K X.mg X.base D) (hc : X.calm = true) (tk : L2N.Takes X W) (hr : Room 2 X.A) (hg : Gl X x) (hm : X.mg x = some (.ref D))
    (hdb : (x == ("__debug__" : Str)) = false := by decide) :
    PS X (.Raise (some (.Call (.Name x p) [] [] pos)) none pos') (fun _ σ H => ZX.tMkN D (ZX.spErr0 D) σ H fun cls d H' => W cls d σ H') := by
  obtain ⟨fI, fd, T, h1, h2, h3, h4⟩ := F.ex
  exact L2N.ps_raise hc tk (ZX.pmk_oex0 T h1 h2 h3 hr h4 pass0 hg hm hdb)
/-- the classes of errors -/
structure Wp (K : PySem.W.Frag) (mg : Str → Option Value) (DP DV DH : Addr) : Prop where
  mF : mg "InvalidParts" = some (.ref DP)
  mV : mg "InvalidValue" = some (.ref DV)
  mH : mg "HopError" = some (.ref DH)
  xF : ExcC K DP
  iFH : PySem.W.kitOne K (.ref DP) (.ref DH) = some true
  iFE : PySem.W.kitOne K (.ref DP) (.type "ValueError") = some true
  iFV : PySem.W.kitOne K (.ref DP) (.ref DV) = some false
  eFF : PySem.W.exmOne K (.ref DP) (.ref DP) = some true
section
variable {P : Program} {w : World} {K : PySem.W.Frag} {mg : Str → Option Value} {base : Heap} {f cc cda D : Addr} {fd : FuncData} {k : Nat} {CX : CXT}
theorem ok_ip (T : ZX.Sup P K D f cc cda fd d_ip.name d_ip.qual d_ip.params d_ip.body d_ip.scope) : FnOk P w K mg base CX 1 f fd ["self"] (ZX.spErr0 D) := by
  refine ZX.fn_sup1 (k := 0) (N := ["self", "__class__"]) T (nscope_by (by decide +kernel)) (by rfl) (by rfl) (by rfl) (by rfl) (fun _ => by rfl) (fun _ h => by unfold interactive; rw [h] <;> rfl) (fun _ h => by rfl) (fun _ => by rfl) (fun vs H Q E h => ?_) (fun A outer s H vs Q E hr h => ?_)
  · obtain ⟨a, rfl, _⟩ := h
    rfl
  · obtain ⟨a, rfl, ha, q⟩ := h
    refine ⟨a, [], _, _, rfl, ha, pe_str, pss_nil, ?_⟩
    exact ⟨by show 1 ≤ 1000; decide, ha, q H (Ex.refl H)⟩
end
def toF (x : Str × Str) : PyData := .tuple [.str x.1, .str x.2]
theorem sign_ok {z : Str} (h : allIn z signs = true) : PyData.strOk z = true := ok_text fun c hc => signs_lt c (of_decide_eq_true (List.all_eq_true.mp h c hc))
theorem name_ok {z : Str} (h : nameB z = true) : PyData.strOk z = true := by
  unfold nameB wordB at h
  simp only [Bool.and_eq_true] at h
  have h2 := h.1.2.2
  refine ok_text fun c hc => ?_
  have h4 : c ∈ tl "abcdefghijklmnopqrstuvwxyz0123456789-" := of_decide_eq_true (List.all_eq_true.mp h2 c hc)
  have : ∀ c ∈ tl "abcdefghijklmnopqrstuvwxyz0123456789-", c < 128 := by decide +kernel
  exact this c h4
theorem value_ok {z : Str} (h : valueB z = true) : PyData.strOk z = true := by
  unfold valueB at h
  simp only [Bool.and_eq_true] at h
  exact sign_ok h.2.1
def okF (fs : Fs) : Prop := ∀ x ∈ fs, fieldB x = true
theorem areB_ok {fs : Fs} (h : areB fs = true) : okF fs := by
  unfold areB at h
  rw [Bool.and_eq_true, List.all_eq_true] at h
  exact h.2
theorem lay_toF : ∀ fs : Fs, okF fs → PyData.canLayAll0 (fs.map toF) = true
  | [], _ => by simp [PyData.canLayAll0]
  | x :: r, h => by
    have h2 := lay_toF r fun y hy => h y (List.mem_cons_of_mem _ hy)
    obtain ⟨h3, h4⟩ := Bool.and_eq_true_iff.mp (h x List.mem_cons_self)
    simp [PyData.canLayAll0, PyData.canLay0, toF, name_ok h3, value_ok h4, h2]
theorem depth_toF : ∀ fs : Fs, PyData.depthAll (fs.map toF) ≤ 2
  | [] => by simp [PyData.depthAll]
  | x :: r => by
    have := depth_toF r
    simp only [List.map_cons, PyData.depthAll, PyData.depth, toF]
    omega
theorem shaped_toF (fs : Fs) (h : okF fs) : SeqAt.shaped (.list (fs.map toF)) = true := by
  have h1 := depth_toF fs
  have h2 : PyData.depth (.list (fs.map toF)) ≤ 64 := by simp only [PyData.depth]; omega
  show (PyData.canLay0 (.list (fs.map toF)) && decide (PyData.depth (.list (fs.map toF)) ≤ 64)) = true
  rw [Bool.and_eq_true]
  exact ⟨by simp only [PyData.canLay0]; exact lay_toF fs h, decide_eq_true h2⟩
theorem eqv_toF (a b : Str × Str) : PyData.eqv (toF a) (toF b) = decide (a = b) := by
  obtain ⟨x, y⟩ := a
  obtain ⟨z, u⟩ := b
  show PyData.eqv (.tuple [.str x, .str y]) (.tuple [.str z, .str u]) = _
  simp only [PyData.eqv, PyData.eqvAll, Bool.and_true]
  rw [Bool.eq_iff_iff, Bool.and_eq_true, beq_iff_eq, beq_iff_eq, decide_eq_true_eq]
  exact ⟨fun h => by rw [h.1, h.2], fun h => ⟨congrArg Prod.fst h, congrArg Prod.snd h⟩⟩
theorem eqvAll_toF : ∀ fs gs : Fs, PyData.eqvAll (fs.map toF) (gs.map toF) = decide (fs = gs)
  | [], [] => by simp [PyData.eqvAll]
  | [], _ :: _ => by simp [PyData.eqvAll]
  | _ :: _, [] => by simp [PyData.eqvAll]
  | x :: r, y :: s => by
    show (PyData.eqv (toF x) (toF y) && PyData.eqvAll (r.map toF) (s.map toF)) = _
    rw [eqv_toF, eqvAll_toF r s, Bool.eq_iff_iff, Bool.and_eq_true, decide_eq_true_eq, decide_eq_true_eq, decide_eq_true_eq]
    exact ⟨fun h => by rw [h.1, h.2], fun h => by
      injection h with h1 h2
      exact ⟨h1, h2⟩⟩
theorem dpf_all {K : PySem.W.Frag} {H : Hp} : ∀ {xs : List V} {os : Fs}, Rel (PfAt H) xs os → DpAll K H xs (os.map toF)
  | [], [], _ => .nil
  | [], o :: os, h => by have := h.1; cases this
  | x :: xs, [], h => by have := h.1; cases this
  | x :: xs, o :: os, h => by
    obtain ⟨p, rfl, hp⟩ := h.2 0 x o rfl rfl
    exact .cons (.tup (st_of hp) (.cons (.str _) (.cons (.str _) .nil))) (dpf_all ⟨Nat.succ.inj h.1, fun i y u a b => h.2 (i + 1) y u a b⟩)
theorem dpf {K : PySem.W.Frag} {H : Hp} {q : Addr} {fs : Fs} (h : FsAt H q fs) : Dp K H (.ref q) (.list (fs.map toF)) := by
  obtain ⟨xs, h1, h2⟩ := h
  exact .lst (sq_of h1) (dpf_all h2)
section
variable {K : PySem.W.Frag} {H : Hp} {x y : V} {d e : PyData}
theorem rv_dat (h1 : ∀ H1, Ex H H1 → Dp K H1 x d) (h2 : ∀ H1, Ex H H1 → Dp K H1 y e) (s1 : SeqAt.shaped d = true) (s2 : SeqAt.shaped e = true) : RV (rEqD K) x y H (.bl (d.eqv e)) := fun H1 ex Q k => ⟨d, e, h1 H1 ex, h2 H1 ex, s1, s2, k H1 (Ex.refl H1)⟩
theorem rv_ndat (h1 : ∀ H1, Ex H H1 → Dp K H1 x d) (h2 : ∀ H1, Ex H H1 → Dp K H1 y e) (s1 : SeqAt.shaped d = true) (s2 : SeqAt.shaped e = true) : RV (rNeD K) x y H (.bl (!d.eqv e)) := fun H1 ex Q k => ⟨d, e, h1 H1 ex, h2 H1 ex, s1, s2, k H1 (Ex.refl H1)⟩
end
def okS (fs : Fs) : Prop := ∀ x ∈ fs, PyData.strOk x.1 = true ∧ PyData.strOk x.2 = true
theorem okF_okS {fs : Fs} (h : okF fs) : okS fs := fun x hx => by
  obtain ⟨h3, h4⟩ := Bool.and_eq_true_iff.mp (h x hx)
  exact ⟨name_ok h3, value_ok h4⟩
theorem lay_toS : ∀ fs : Fs, okS fs → PyData.canLayAll0 (fs.map toF) = true
  | [], _ => by simp [PyData.canLayAll0]
  | x :: r, h => by
    have h2 := lay_toS r fun y hy => h y (List.mem_cons_of_mem _ hy)
    obtain ⟨h3, h4⟩ := h x List.mem_cons_self
    simp [PyData.canLayAll0, PyData.canLay0, toF, h3, h4, h2]
theorem shaped_toS (fs : Fs) (h : okS fs) : SeqAt.shaped (.list (fs.map toF)) = true := by
  have h1 := depth_toF fs
  have h2 : PyData.depth (.list (fs.map toF)) ≤ 64 := by simp only [PyData.depth]; omega
  show (PyData.canLay0 (.list (fs.map toF)) && decide (PyData.depth (.list (fs.map toF)) ≤ 64)) = true
  rw [Bool.and_eq_true]
  exact ⟨by simp only [PyData.canLay0]; exact lay_toS fs h, decide_eq_true h2⟩
section
variable {K : PySem.W.Frag} {H : Hp} {p q : Addr} {fs gs : Fs}
theorem rv_eqFS (h1 : FsAt H p fs) (h2 : FsAt H q gs) (k1 : okS fs) (k2 : okS gs) : RV (rEqD K) (.ref p) (.ref q) H (.bl (decide (fs = gs))) := by
  have h := rv_dat (K := K) (H := H) (fun H1 e => dpf (h1.ex e)) (fun H1 e => dpf (h2.ex e)) (shaped_toS fs k1) (shaped_toS gs k2)
  have e1 : PyData.eqv (.list (fs.map toF)) (.list (gs.map toF)) = decide (fs = gs) := by
    simp only [PyData.eqv]
    exact eqvAll_toF fs gs
  rw [e1] at h
  exact h
theorem rv_neFS (h1 : FsAt H p fs) (h2 : FsAt H q gs) (k1 : okS fs) (k2 : okS gs) : RV (rNeD K) (.ref p) (.ref q) H (.bl (!decide (fs = gs))) := by
  have h := rv_ndat (K := K) (H := H) (fun H1 e => dpf (h1.ex e)) (fun H1 e => dpf (h2.ex e)) (shaped_toS fs k1) (shaped_toS gs k2)
  have e1 : PyData.eqv (.list (fs.map toF)) (.list (gs.map toF)) = decide (fs = gs) := by
    simp only [PyData.eqv]
    exact eqvAll_toF fs gs
  rw [e1] at h
  exact h
theorem fs_nil (h : H p = some (.lst [])) : FsAt H p [] := ⟨[], h, Rel.nil⟩
theorem okS_nil : okS [] := fun _ h => nomatch h
end
end Z
set_option maxHeartbeats 4000000
namespace Z
open PySem PySem.Spec PyProof.Rows L2 TL Evl NdefX
/-! ### the first place of a sign -/
def ixS (c : Nat) (z : Str) : Option Nat := (tl z).findIdx? (fun x => x == c)
theorem ixS_some {c : Nat} {z : Str} {i : Nat} : ixS c z = some i ↔ (tl z)[i]? = some c ∧ ∀ k, k < i → (tl z)[k]? ≠ some c := by
  unfold ixS
  rw [List.findIdx?_eq_some_iff_getElem]
  constructor
  · rintro ⟨h, h1, h2⟩
    refine ⟨by rw [List.getElem?_eq_getElem h, beq_iff_eq.mp h1], fun k hk e => ?_⟩
    obtain ⟨hk2, hv⟩ := List.getElem?_eq_some_iff.mp e
    have := h2 k hk
    rw [hv] at this
    simp at this
  · rintro ⟨h1, h2⟩
    obtain ⟨h, hv⟩ := List.getElem?_eq_some_iff.mp h1
    refine ⟨h, by rw [hv]; simp, fun k hk => ?_⟩
    have hk2 : k < (tl z).length := Nat.lt_trans hk h
    have := h2 k hk
    rw [List.getElem?_eq_getElem hk2] at this
    simpa using this
theorem ixS_none {c : Nat} {z : Str} : ixS c z = none ↔ ∀ k : Nat, (tl z)[k]? ≠ some c := by
  unfold ixS
  rw [List.findIdx?_eq_none_iff]
  constructor
  · intro h k e
    have := h c (List.mem_of_getElem? e)
    simp at this
  · intro h x hx
    obtain ⟨k, hk⟩ := List.mem_iff_getElem?.mp hx
    cases hb : x == c with
    | false => rfl
    | true => exact absurd (by rw [hk, beq_iff_eq.mp hb]) (h k)
theorem ixS_lt {c : Nat} {z : Str} {i : Nat} (h : ixS c z = some i) : i + 1 ≤ z.length := by
  have := (List.getElem?_eq_some_iff.mp (ixS_some.mp h).1).1
  rw [len_tl'] at this
  omega
theorem occ_ix (z : Str) (c : Nat) : (Builtin.Str.occurrences z ⟨#[c]⟩ 0 z.length 1).head? = ixS c z := by
  have hat : ∀ i, StrLaws.At z ⟨#[c]⟩ z.length i ↔ (tl z)[i]? = some c := fun i => StrLaws.subAt_one z c i
  rcases StrLaws.occ_head z ⟨#[c]⟩ 1 (Nat.le_refl 1) with ⟨h0, hn⟩ | ⟨i, r, h0, hi, hm⟩
  · rw [h0, ixS_none.mpr fun k e => hn k ((hat k).mpr e)]
    rfl
  · rw [h0, ixS_some.mpr ⟨(hat i).mp hi, fun k hk e => hm k hk ((hat k).mpr e)⟩]
    rfl
def ixV : Option Nat → Int
  | some i => (i : Int)
  | none => -1
theorem find_ix (z : Str) (c : Nat) : Txt.find z ⟨#[c]⟩ = ixV (ixS c z) := by
  rw [← occ_ix]
  unfold Txt.find
  cases Builtin.Str.occurrences z ⟨#[c]⟩ 0 z.length 1 <;> rfl
theorem part_ix (z : Str) (c : Nat) : (∃ i, ixS c z = some i ∧ i + 1 ≤ z.length ∧ Txt.partition z ⟨#[c]⟩ = (preT z i, (⟨#[c]⟩ : Str), sufT z (i + 1))) ∨ (ixS c z = none ∧ Txt.partition z ⟨#[c]⟩ = (z, ("" : Str), ("" : Str))) := by
  have h := occ_ix z c
  unfold Txt.partition
  cases e : Builtin.Str.occurrences z ⟨#[c]⟩ 0 z.length 1 with
  | nil =>
    rw [e] at h
    exact .inr ⟨h.symm, rfl⟩
  | cons i r =>
    rw [e] at h
    have h : ixS c z = some i := h.symm
    refine .inl ⟨i, h, ixS_lt h, ?_⟩
    show (Builtin.Str.strSub z 0 i, (⟨#[c]⟩ : Str), Builtin.Str.strSub z (i + 1) z.length) = _
    refine Prod.ext ?_ (Prod.ext rfl ?_)
    · exact ext_tl (by rw [tl_strSub, List.drop_zero, Nat.sub_zero]; rfl)
    · exact ext_tl (by rw [tl_strSub_end]; rfl)
theorem sg_dash : ("-" : Str) = ⟨#[45]⟩ := by decide +kernel
theorem sg_slash : ("/" : Str) = ⟨#[47]⟩ := by decide +kernel
theorem sg_nl : ("\n" : Str) = ⟨#[10]⟩ := by decide +kernel
/-! ### an extent -/
def midT (z : Str) (d s : Nat) : Str := sufT (preT z s) (d + 1)
def extN : Option Nat → Option Nat → Option Nat → Option (Nat × Nat × Nat)
  | some a, some b, some t => if a ≤ b ∧ b < t then some (a, b, t) else none
  | _, _, _ => none
def extF (z : Str) : Option (Nat × Nat × Nat) :=
  match ixS 45 z, ixS 47 z with
  | some d, some s => if d < s then extN (num (preT z d)) (num (midT z d s)) (num (sufT z (s + 1))) else none
  | _, _ => none
theorem tl_pre (z : Str) (i : Nat) : tl (preT z i) = (tl z).take i := rfl
theorem tl_suf (z : Str) (i : Nat) : tl (sufT z i) = (tl z).drop i := rfl
theorem ix_pre {z : Str} {s : Nat} (c : Nat) : ixS c (preT z s) = (match ixS c z with | some d => if d < s then some d else none | none => none) := by
  cases h : ixS c z with
  | none =>
    refine ixS_none.mpr fun k e => ?_
    rw [tl_pre, List.getElem?_take] at e
    split at e
    · exact ixS_none.mp h k e
    · cases e
  | some d =>
    obtain ⟨h1, h2⟩ := ixS_some.mp h
    show _ = if d < s then some d else none
    by_cases hd : d < s
    · rw [if_pos hd]
      refine ixS_some.mpr ⟨by rw [tl_pre, List.getElem?_take, if_pos hd]; exact h1, fun k hk e => ?_⟩
      rw [tl_pre, List.getElem?_take, if_pos (by omega)] at e
      exact h2 k hk e
    · rw [if_neg hd]
      refine ixS_none.mpr fun k e => ?_
      rw [tl_pre, List.getElem?_take] at e
      split at e
      · exact h2 k (by omega) e
      · cases e
theorem pre_pre {z : Str} {d s : Nat} (h : d < s) : preT (preT z s) d = preT z d := ext_tl (by
  rw [tl_pre, tl_pre, tl_pre, List.take_take, Nat.min_eq_left (Nat.le_of_lt h)])
theorem cut_mid (z : Str) (i s : Nat) : cutS z (some (i : Int)) (some (s : Int)) = S' (((tl z).take s).drop i) := ext_tl (by
  show ((tl z).drop (HT.sIx z.length 0 (some (i : Int)))).take (HT.sIx z.length z.length (some (s : Int)) - HT.sIx z.length 0 (some (i : Int))) = ((tl z).take s).drop i
  rw [show HT.sIx z.length 0 (some (i : Int)) = min i z.length from HT.sIx_nat _ _ i, show HT.sIx z.length z.length (some (s : Int)) = min s z.length from HT.sIx_nat _ _ s, List.drop_take, len_tl]
  by_cases h : i ≤ (tl z).length
  · rw [Nat.min_eq_left h]
    by_cases h2 : s ≤ (tl z).length
    · rw [Nat.min_eq_left h2]
    · rw [Nat.min_eq_right (by omega), List.take_of_length_le (by rw [List.length_drop]; omega), List.take_of_length_le (by rw [List.length_drop]; omega)]
  · rw [show min i (tl z).length = (tl z).length from Nat.min_eq_right (by omega), List.drop_of_length_le (Nat.le_refl _), List.drop_of_length_le (by omega), List.take_nil, List.take_nil])
theorem cut_midT (z : Str) (d s : Nat) : cutS z (some ((d : Int) + 1)) (some (s : Int)) = midT z d s := by
  rw [show ((d : Int) + 1) = ((d + 1 : Nat) : Int) from rfl, cut_mid]
  rfl
theorem mid_len (z : Str) (d s : Nat) : (midT z d s).length ≤ z.length := Nat.le_trans (sufT_len _ _) (preT_len _ _)
def ExtAt (H : Hp) (v : V) : Option (Nat × Nat × Nat) → Prop
  | none => v = .non
  | some (a, b, t) => TupAt H v [.int (a : Int), .int ((b : Int) + 1), .int (t : Int)]
def HeaAt (H : Hp) (v : V) : Option (Nat × Nat × Nat) → Prop
  | none => v = .non
  | some (a, b, t) => TupAt H v [.int (a : Int), .int (b : Int), .int (t : Int)]
def spExt : Sp := fun vs H Q _ => ∃ z : Str, vs = [.str z] ∧ z.length ≤ 100000 ∧ ∀ v H', Ex H H' → ExtAt H' v (extF z) → Q v H'
def spHea : Sp := fun vs H Q _ => ∃ z : Str, vs = [.str z] ∧ z.length ≤ 100000 ∧ ∀ v H', Ex H H' → HeaAt H' v (extF z) → Q v H'
section
variable {P : Program} {w : World} {K : PySem.W.Frag} {mg : Str → Option Value} {base : Heap} {f : Addr} {fd : FuncData} {k : Nat}
theorem ev_chainM {σ : L2.St} {H : Hp} {ta tb tc : TE} {i j k : Int} (ha : Ev ta σ H (.int i)) (hb : Ev tb σ H (.int j)) (hc : Ev tc σ H (.int k)) :
    Ev (tChain (rI0 fun i j => .bl (decide (i ≤ j))) (rI0 fun i j => .bl (decide (i < j))) ta tb tc) σ H (.bl (decide (i ≤ j) && decide (j < k))) := fun H1 e Q q =>
  ha H1 e _ fun H2 e2 => hb H2 (e.trans e2) _ fun H3 e3 => ⟨i, j, rfl, rfl, _, rfl, by
    cases h : decide (i ≤ j) with
    | true =>
      refine iteT ?_
      refine hc H3 ((e.trans e2).trans e3) _ fun H4 e4 => ⟨j, k, rfl, rfl, ?_⟩
      have g := q H4 ((e2.trans e3).trans e4)
      rw [h] at g
      exact g
    | false =>
      refine iteF ?_
      have g := q H3 (e2.trans e3)
      rw [h] at g
      exact g⟩
theorem rd_iU {tl : TE} {g : TG} {tt : TT} {te : TE} {vs : List Nat} {σ : L2.St} {H : Hp} {Q : VK} {xs : List V} (h : EvU tl σ H xs) (k : ∀ a H1, H a = none → Ex H H1 → H1 a = some (.tup xs) → ∀ D, H1 D = none → ∃ W : Nat → Nat → Hp → Prop, (∃ m, W 0 m (upd H1 D (.lst []))) ∧ ∀ i m H, W i m H →
  ((Itt K a).stop i H ∧ Q (.ref D) H) ∨ ((Itt K a).go i H ∧ ∃ Nx : Hp → Prop, (∀ H', Nx H' → ∃ m', m' < m ∧ W (i + 1) m' H') ∧ ∀ x H', (Itt K a).yld i H x H' → g x (wipe σ vs) H' fun σ2 H2 => wipe σ2 vs = wipe σ vs ∧ tt σ2 H2 fun b H3 =>
    if b = true then te σ2 H3 fun y H4 => ∃ acc, H4 D = some (.lst acc) ∧ acc.length < sizeLine ∧ Nx (upd H4 D (.lst (acc ++ [y]))) else Nx H3)) : tLc (iTup K tl) g tt te vs σ H Q := h H (Ex.refl H) _ fun a H1 na e1 ha => ⟨a, rfl, ⟨_, st_of ha⟩, fun D hD => k a H1 na e1 ha D hD⟩
theorem ok_law_head (T : Mg mg) (c_law_number : Call P w K mg base 1 "_law_number" ["word"] (sp1 numV)) (F : FnP K "_law_head" s_law_head f fd) (gm : mg "_law_head" = some (.ref f)) : Call P w K mg base 2 "_law_head" ["word"] spHea := by
  refine mk F gm (fun _ _ _ _ _ _ us hl => match us, hl with | [_], _ => rfl) (fun _ _ _ _ _ _ us hl => match us, hl with | [_], _ => rfl) sc_law_head (fun vs H Q E h => ?_) (fun cdv A outer s H vs Q E hr h => ?_)
  · obtain ⟨z, rfl, _⟩ := h
    rfl
  · obtain ⟨z, rfl, hz, q⟩ := h
    refine ⟨_, (pss_cons (ps_set (i := 1) sc_law_head.nd rfl (Or.inl rfl) (pe_bm PySem.F.plainAttrs_str PySem.F.slot_str_find PySem.F.type_str_find mz_find (pv 0) (pa_cons pe_str pa_nil)))
    (pss_cons (ps_set (i := 2) sc_law_head.nd rfl (Or.inl rfl) (pe_bm PySem.F.plainAttrs_str PySem.F.slot_str_find PySem.F.type_str_find mz_find (pv 0) (pa_cons pe_str pa_nil)))
    (pss_cons (ps_if (PW.pt (pw_or (pt_cmpR op_lt (pv 1) pe_int (nomark _)) (pw_or1 (pt_cmpR op_lt (pv 2) (pv 1) (nomark _)))))
      (pss_one (ps_ret pe_non))
      pss_nil)
    (pss_cons (ps_set (i := 3) sc_law_head.nd rfl (Or.inl rfl) (pe_f c_law_number hr (by decide) rfl (pa_cons (pe_slice sl_str (pv 0) po_none (po_some (pv 1))) pa_nil)))
    (pss_cons (ps_set (i := 4) sc_law_head.nd rfl (Or.inl rfl) (pe_f c_law_number hr (by decide) rfl (pa_cons (pe_slice sl_str (pv 0) (po_some (pe_op op_add (pv 1) pe_int)) (po_some (pv 2))) pa_nil)))
    (pss_cons (ps_set (i := 5) sc_law_head.nd rfl (Or.inl rfl) (pe_f c_law_number hr (by decide) rfl (pa_cons (pe_slice sl_str (pv 0) (po_some (pe_op op_add (pv 2) pe_int)) po_none) pa_nil)))
    (pss_cons (ps_if (PW.pt (pw_or (pt_cmpR op_isN1 (pv 3) pe_non (nomark _)) (pw_or (pt_cmpR op_isN1 (pv 4) pe_non (nomark _)) (pw_or1 (pt_cmpR op_isN1 (pv 5) pe_non (nomark _))))))
      (pss_one (ps_ret pe_non))
      pss_nil)
    (pss_cons (ps_if (PW.pt (pw_or (pt_cmpR op_lt (pv 4) (pv 3) (nomark _)) (pw_or1 (pt_cmpR op_ge (pv 4) (pv 5) (nomark _)))))
      (pss_one (ps_ret pe_non))
      pss_nil)
    (pss_one (ps_ret (pe_tup (pa_cons (pv 3) (pa_cons (pv 4) (pa_cons (pv 5) pa_nil)))))))))))))), ?_⟩
    have l47 : (Txt.find z "/") = ixV (ixS 47 z) := by rw [sg_slash]; exact find_ix z 47
    have l45 : (Txt.find z "-") = ixV (ixS 45 z) := by rw [sg_dash]; exact find_ix z 45
    have qn : ∀ Hx, Ex H Hx → extF z = none → Q .non Hx := fun Hx e h => q .non Hx e (by rw [h]; rfl)
    refine q_asg (v := .int (ixV (ixS 45 z))) (ev_is (ev_find (ev_var rfl) ev_c) (by rw [l45])) fun H1 e1 => ?_
    refine q_asg (v := .int (ixV (ixS 47 z))) (ev_is (ev_find (ev_var rfl) ev_c) (by rw [l47])) fun H2 e2 => ?_
    refine q_when (b := decide (ixV (ixS 45 z) < 0) || decide (ixV (ixS 47 z) < ixV (ixS 45 z))) (et_or (et_test (ev_op (ev_var rfl) ev_c rv_I0)) fun _ => et_test (ev_op (ev_var rfl) (ev_var rfl) rv_I0)) (fun hb H3 e3 => ?_) (fun hb H3 e3 => ?_)
    · refine s_ret ev_c fun H4 e4 => qn H4 (((e1.trans e2).trans e3).trans e4) ?_
      unfold extF
      cases hd : ixS 45 z with
      | none => rfl
      | some d =>
        cases hs : ixS 47 z with
        | none => rfl
        | some s =>
          rw [hd, hs] at hb
          have hb2 : (decide ((d : Int) < 0) || decide ((s : Int) < (d : Int))) = true := hb
          rw [Bool.or_eq_true, decide_eq_true_eq, decide_eq_true_eq] at hb2
          show (if d < s then _ else none) = none
          rw [if_neg (by omega)]
    · obtain ⟨h1, h2⟩ := Bool.or_eq_false_iff.mp hb
      have h1 := of_decide_eq_false h1
      have h2 := of_decide_eq_false h2
      cases hd : ixS 45 z with
      | none => rw [hd] at h1; exact absurd (show (-1 : Int) < 0 by decide) h1
      | some d =>
        cases hs : ixS 47 z with
        | none =>
          rw [hd, hs] at h2
          exact absurd (show (-1 : Int) < (d : Int) by omega) h2
        | some s =>
          rw [hd, hs] at h2
          have h2 : ¬ (s : Int) < (d : Int) := h2
          have hne : d ≠ s := fun e => by
            have a1 := (ixS_some.mp hd).1
            have a2 := (ixS_some.mp hs).1
            rw [e, a2] at a1
            cases a1
          have hds : d < s := by omega
          have eF : extF z = extN (num (preT z d)) (num (midT z d s)) (num (sufT z (s + 1))) := by
            unfold extF
            rw [hd, hs]
            exact if_pos hds
          show tSeq _ _ _ [some (V.str z), some (V.int (d : Int)), some (V.int (s : Int)), none, none, none] H3
          have g1 := preT_len z d
          have g2 := mid_len z d s
          have g3 := sufT_len z (s + 1)
          refine q_asg (v := ov (num (preT z d))) (ev_is (ev_call (ea_cons (ev_slS (ev_var rfl) eo_none (eo_some (ev_var rfl)) hz) ea_nil) (sv1 (f := numV) (by rw [cutTo]; omega))) (by rw [cutTo]; exact numV_ov _)) fun H4 e4 => ?_
          refine q_asg (v := ov (num (midT z d s))) (ev_is (ev_call (ea_cons (ev_slS (ev_var rfl) (eo_some (ev_op (ev_var rfl) ev_c rv_I0)) (eo_some (ev_var rfl)) hz) ea_nil) (sv1 (f := numV) (by rw [cut_midT]; omega))) (by rw [cut_midT]; exact numV_ov _)) fun H5 e5 => ?_
          refine q_asg (v := ov (num (sufT z (s + 1)))) (ev_is (ev_call (ea_cons (ev_slS (ev_var rfl) (eo_some (ev_op (ev_var rfl) ev_c rv_I0)) eo_none hz) ea_nil) (sv1 (f := numV) (by rw [show ((s : Int) + 1) = ((s + 1 : Nat) : Int) from rfl, cutFrom]; omega))) (by rw [show ((s : Int) + 1) = ((s + 1 : Nat) : Int) from rfl, cutFrom]; exact numV_ov _)) fun H6 e6 => ?_
          have e06 := (((((e1.trans e2).trans e3).trans e4).trans e5).trans e6)
          clear e1 e2 e3 e4 e5 e6
          generalize num (preT z d) = n1 at eF
          generalize num (midT z d s) = n2 at eF
          generalize num (sufT z (s + 1)) = n3 at eF
          refine q_when (b := (n1.isNone || (n2.isNone || n3.isNone))) (et_or (et_is (et_test (ev_op (ev_var rfl) ev_c rv_isN)) (ov_non _)) fun _ => et_or (et_is (et_test (ev_op (ev_var rfl) ev_c rv_isN)) (ov_non _)) fun _ => et_is (et_test (ev_op (ev_var rfl) ev_c rv_isN)) (ov_non _)) (fun hb H7 e7 => ?_) (fun hb H7 e7 => ?_)
          · refine s_ret ev_c fun H8 e8 => qn H8 ((e06.trans e7).trans e8) ?_
            rw [eF]
            cases n1 with
            | none => rfl
            | some a =>
              cases n2 with
              | none => rfl
              | some b =>
                cases n3 with
                | none => rfl
                | some t => cases hb
          · cases n1 with
            | none => cases hb
            | some a =>
              cases n2 with
              | none => cases hb
              | some b =>
                cases n3 with
                | none => cases hb
                | some t =>
                  show tSeq _ _ _ [some (V.str z), some (V.int (d : Int)), some (V.int (s : Int)), some (V.int (a : Int)), some (V.int (b : Int)), some (V.int (t : Int))] H7
                  refine q_when (b := decide ((b : Int) < (a : Int)) || decide ((t : Int) ≤ (b : Int))) (et_or (et_test (ev_op (ev_var rfl) (ev_var rfl) rv_I0)) fun _ => et_test (ev_op (ev_var rfl) (ev_var rfl) rv_I0)) (fun hb H8 e8 => ?_) (fun hb H8 e8 => ?_)
                  · refine s_ret ev_c fun H9 e9 => qn H9 (((e06.trans e7).trans e8).trans e9) ?_
                    rw [eF]
                    rw [Bool.or_eq_true, decide_eq_true_eq, decide_eq_true_eq] at hb
                    exact if_neg (by omega)
                  · rw [Bool.or_eq_false_iff, decide_eq_false_iff_not, decide_eq_false_iff_not] at hb
                    refine s_retU (eu_tup (ea_cons (ev_var rfl) (ea_cons (ev_var rfl) (ea_cons (ev_var rfl) ea_nil))) (by show 3 ≤ 100000; decide)) fun p H9 np e9 h9 => q _ H9 (((e06.trans e7).trans e8).trans e9) ?_
                    rw [eF, show extN (some a) (some b) (some t) = some (a, b, t) from if_pos (by omega)]
                    exact ⟨p, rfl, h9⟩
theorem ok_read_extent (T : Mg mg) (c_read_number : Call P w K mg base 2 "read_number" ["text"] (sp1 numV)) (F : FnP K "read_extent" s_read_extent f fd) (gm : mg "read_extent" = some (.ref f)) : Call P w K mg base 3 "read_extent" ["text"] spExt := by
  refine mk F gm (fun _ _ _ _ _ _ us hl => match us, hl with | [_], _ => rfl) (fun _ _ _ _ _ _ us hl => match us, hl with | [_], _ => rfl) sc_read_extent (fun vs H Q E h => ?_) (fun cdv A outer s H vs Q E hr h => ?_)
  · obtain ⟨z, rfl, _⟩ := h
    rfl
  · obtain ⟨z, rfl, hz, q⟩ := h
    refine ⟨_, (pss_cons (ps_asg (pe_bm PySem.F.plainAttrs_str PySem.F.slot_str_partition PySem.F.type_str_partition mz_part (pv 0) (pa_cons pe_str pa_nil)) (pg_tup rfl (pgs_cons (pg_name (i := 1) sc_read_extent.nd rfl (Or.inl rfl)) (pgs_cons (pg_name (i := 2) sc_read_extent.nd rfl (Or.inl rfl)) (pgs_cons (pg_name (i := 3) sc_read_extent.nd rfl (Or.inl rfl)) pgs_nil)))))
    (pss_cons (ps_asg (pe_bm PySem.F.plainAttrs_str PySem.F.slot_str_partition PySem.F.type_str_partition mz_part (pv 1) (pa_cons pe_str pa_nil)) (pg_tup rfl (pgs_cons (pg_name (i := 4) sc_read_extent.nd rfl (Or.inl rfl)) (pgs_cons (pg_name (i := 2) sc_read_extent.nd rfl (Or.inl rfl)) (pgs_cons (pg_name (i := 5) sc_read_extent.nd rfl (Or.inl rfl)) pgs_nil)))))
    (pss_cons (ps_setLc (i := 6) (own := [("part", 7)]) (g := gName 7) (tt := tYes) rfl sc_read_extent.nd rfl rfl (sw_true rfl rfl rfl (by decide +kernel)) (pi_tup (pe_tup (pa_cons (pv 4) (pa_cons (pv 5) (pa_cons (pv 3) pa_nil))))) (blkOk_by (N := ["text", "places", "_", "length", "first", "last", "numbers", "part", "number"]) (sc := L2.defScope s_read_extent) (by decide +kernel)) (fun _ _ _ _ _ => pg_name (i := 7) sc_read_extent.nd rfl (Or.inl rfl)) (fun _ _ _ _ _ => pts_nil) (fun _ _ _ _ _ => (pe_f c_read_number hr (by decide) rfl (pa_cons (pv 7) pa_nil))))
    (pss_cons (ps_if (PW.pt (pw_or (pt_val (pe_callB (cr_any rfl) (by rfl) T.any (by decide +kernel) (pa_cons (pe_lc (own := [("number", 8)]) (g := gName 8) (tt := tYes) rfl sc_read_extent.nd (pi_list (pv 6)) (blkOk_by (N := ["text", "places", "_", "length", "first", "last", "numbers", "part", "number"]) (sc := L2.defScope s_read_extent) (by decide +kernel)) (fun _ _ _ _ _ => pg_name (i := 8) sc_read_extent.nd rfl (Or.inl rfl)) (fun _ _ _ _ _ => pts_nil) (fun _ _ _ _ _ => (pe_cmpR op_isN1 (pv 8) pe_non (nomark _)))) pa_nil))) (pw_or1 (pt_not (pt_chain op_le op_lt (pe_ix ix_list (pv 6) pe_int (fun _ _ => rfl)) (pe_ix ix_list (pv 6) pe_int (fun _ _ => rfl)) (pe_ix ix_list (pv 6) pe_int (fun _ _ => rfl)))))))
      (pss_one (ps_ret pe_non))
      pss_nil)
    (pss_one (ps_ret (pe_tup (pa_cons (pe_ix ix_list (pv 6) pe_int (fun _ _ => rfl)) (pa_cons (pe_op op_add (pe_ix ix_list (pv 6) pe_int (fun _ _ => rfl)) pe_int) (pa_cons (pe_ix ix_list (pv 6) pe_int (fun _ _ => rfl)) pa_nil)))))))))), ?_⟩
    have p47 := part_ix z 47
    rw [← sg_slash] at p47
    refine q_tail (fun σ1 Hx => ∃ (pl u len : Str), σ1 = [some (.str z), some (.str pl), some (.str u), some (.str len), none, none, none, none, none] ∧ Ex H Hx ∧ ((∃ i, ixS 47 z = some i ∧ pl = preT z i ∧ len = sufT z (i + 1)) ∨ (ixS 47 z = none ∧ pl = z ∧ len = ""))) (fun σ1 H1 hR => ?_) (fun tail => ?_)
    rotate_left
    · refine eu_part (s := "/") (ev_var rfl) ev_c (by decide +kernel) (by omega) H (Ex.refl H) _ fun p H1 np e1 h1 => ⟨p, _, rfl, st_of h1, rfl, _, _, rfl, _, _, rfl, _, _, rfl, rfl, ?_⟩
      refine tail _ _ ⟨(Txt.partition z "/").1, (Txt.partition z "/").2.1, (Txt.partition z "/").2.2, rfl, e1, ?_⟩
      rcases p47 with ⟨i, hi, hl, hp⟩ | ⟨hi, hp⟩
      · exact .inl ⟨i, hi, congrArg (·.1) hp, congrArg (·.2.2) hp⟩
      · exact .inr ⟨hi, congrArg (·.1) hp, congrArg (·.2.2) hp⟩
    obtain ⟨pl, u, len, rfl, e1, hpl⟩ := hR
    have glen : pl.length ≤ 100000 ∧ len.length ≤ 100000 := by
      rcases hpl with ⟨i, _, rfl, rfl⟩ | ⟨_, rfl, rfl⟩
      · have g1 := preT_len z i
        have g2 := sufT_len z (i + 1)
        omega
      · exact ⟨hz, by decide +kernel⟩
    have p45 := part_ix pl 45
    rw [← sg_dash] at p45
    refine q_tail (fun σ1 Hx => ∃ (fi u la : Str), σ1 = [some (.str z), some (.str pl), some (.str u), some (.str len), some (.str fi), some (.str la), none, none, none] ∧ Ex H Hx ∧ fi.length ≤ 100000 ∧ la.length ≤ 100000 ∧ extF z = extN (num fi) (num la) (num len)) (fun σ1 H2 hR => ?_) (fun tail => ?_)
    rotate_left
    · refine eu_part (s := "-") (ev_var rfl) ev_c (by decide +kernel) glen.1 H1 (Ex.refl H1) _ fun p H2 np e2 h2 => ⟨p, _, rfl, st_of h2, rfl, _, _, rfl, _, _, rfl, _, _, rfl, rfl, ?_⟩
      refine tail _ _ ⟨(Txt.partition pl "-").1, (Txt.partition pl "-").2.1, (Txt.partition pl "-").2.2, rfl, e1.trans e2, ?_⟩
      have nE : num "" = none := num_empty
      have nR : ∀ a b : Option Nat, extN a none b = none := fun a b => by cases a <;> rfl
      have nL : ∀ a b : Option Nat, extN a b none = none := fun a b => by cases a <;> cases b <;> rfl
      rcases p45 with ⟨d, hd, hl, hp⟩ | ⟨hd, hp⟩
      · rw [congrArg (·.1) hp, congrArg (·.2.2) hp]
        have g1 := preT_len pl d
        have g2 := sufT_len pl (d + 1)
        refine ⟨by show (preT pl d).length ≤ 100000; omega, by show (sufT pl (d + 1)).length ≤ 100000; omega, ?_⟩
        show extF z = extN (num (preT pl d)) (num (sufT pl (d + 1))) (num len)
        rcases hpl with ⟨i, hi, rfl, rfl⟩ | ⟨hi, rfl, rfl⟩
        · have h := ix_pre (z := z) (s := i) 45
          rw [hd] at h
          cases hz4 : ixS 45 z with
          | none => rw [hz4] at h; cases h
          | some d' =>
            rw [hz4] at h
            have h : some d = if d' < i then some d' else none := h
            split at h
            · rename_i hlt
              cases h
              unfold extF
              rw [hz4, hi, pre_pre hlt]
              exact if_pos hlt
            · cases h
        · rw [nE, nL]
          unfold extF
          rw [hi]
          cases ixS 45 pl <;> rfl
      · rw [congrArg (·.1) hp, congrArg (·.2.2) hp]
        refine ⟨glen.1, by show ("" : Str).length ≤ 100000; decide +kernel, ?_⟩
        show extF z = extN (num pl) (num "") (num len)
        rw [nE, nR]
        unfold extF
        rcases hpl with ⟨i, hi, rfl, rfl⟩ | ⟨hi, rfl, rfl⟩
        · have h := ix_pre (z := z) (s := i) 45
          rw [hd] at h
          rw [hi]
          cases hz4 : ixS 45 z with
          | none => rfl
          | some d' =>
            rw [hz4] at h
            have h : none = if d' < i then some d' else none := h
            split at h
            · cases h
            · rename_i hlt
              exact if_neg hlt
        · rw [hi]
          cases ixS 45 pl <;> rfl
    obtain ⟨fi, u2, la, rfl, e2, gf, gl, eF⟩ := hR
    clear p45 p47 hpl e1
    have qn : ∀ Hx, Ex H Hx → extF z = none → Q .non Hx := fun Hx e h => q .non Hx e (by rw [h]; rfl)
    -- the three numbers
    have hu : EvU (tTup (tCons (tVar 4) (tCons (tVar 5) (tCons (tVar 3) tNil)))) [some (.str z), some (.str pl), some (.str u2), some (.str len), some (.str fi), some (.str la), none, none, none] H2 [.str fi, .str la, .str len] := eu_tup (ea_cons (ev_var rfl) (ea_cons (ev_var rfl) (ea_cons (ev_var rfl) ea_nil))) (by show 3 ≤ 100000; decide)
    refine q_asgR ?_
    refine rd_iU hu fun t H3 nt e3 ht D hD => ?_
    refine lc_relT (α := Option Nat) (xs := [fi, la, len].map V.str) (fun i => ([fi, la, len].take i).map num) (fun _ v o => v = ov o) (fun _ _ _ _ _ _ h => h) (fun H4 e4 => ex_t e4 (st_of ht)) hD rfl (by show 3 ≤ 50000; decide) (fun i x H4 hi e4 k k0 hk _ => ?_) (fun H4 ys e4 hy hrel => ?_)
    · obtain ⟨hi2, rfl, hm⟩ := at_str hi ("" : Str)
      have hgl : ([fi, la, len].getD i "").length ≤ 100000 := by
        simp only [List.mem_cons, List.not_mem_nil, or_false] at hm
        rcases hm with h | h | h <;> rw [h]
        · exact gf
        · exact gl
        · exact glen.2
      refine ⟨rfl, ?_⟩
      unfold tYes
      dsimp only
      rw [if_pos rfl]
      refine (ev_call (E := E0) (sp := sp1 numV) (ea_cons (ev_var rfl) ea_nil) (sv1 hgl)) H4 (Ex.refl H4) _ fun H5 e5 => hk _ H5 (num ([fi, la, len].getD i "")) e5 ?_ (numV_ov _)
      rw [List.take_add_one, show [fi, la, len][i]? = some ([fi, la, len].getD i "") by rw [List.getD_eq_getElem?_getD, List.getElem?_eq_getElem hi2]; rfl, List.map_append]
      rfl
    have ey : ys = [ov (num fi), ov (num la), ov (num len)] := by
      have h := hrel
      obtain ⟨h1, h2⟩ := h
      match ys, h1, h2 with
      | [y1, y2, y3], _, h2 =>
        rw [h2 0 y1 (num fi) rfl rfl, h2 1 y2 (num la) rfl rfl, h2 2 y3 (num len) rfl rfl]
    rw [ey] at hy
    generalize num fi = n1 at eF hy
    generalize num la = n2 at eF hy
    generalize num len = n3 at eF hy
    have e04 := (e2.trans e3).trans e4
    clear e2 e3 e4 hrel ey ht
    have hany : Ev (tCB (L2.rAny K) (tCons (tLc (iList K (tVar 6)) (gName 8) tYes (tOp rIsN (tVar 8) (tC .non)) [8]) tNil)) [some (.str z), some (.str pl), some (.str u2), some (.str len), some (.str fi), some (.str la), some (.ref D), none, none] H4 (.bl (n1.isNone || (n2.isNone || n3.isNone))) := by
      have h := ev_any (K := K) (bs := [n1.isNone, n2.isNone, n3.isNone]) (ta := tLc (iList K (tVar 6)) (gName 8) tYes (tOp rIsN (tVar 8) (tC .non)) [8]) (σ := [some (.str z), some (.str pl), some (.str u2), some (.str len), some (.str fi), some (.str la), some (.ref D), none, none]) (H := H4) (by
        refine el_lcL (xs := [ov n1, ov n2, ov n3]) (fun _ => true) (fun i => .bl (([n1, n2, n3].getD i none).isNone)) (ev_var rfl) (sq_of hy) (by show 3 ≤ _; decide) (fun _ => rfl) (fun i x H3 e3 hx => et_yes) (fun i x H3 e3 hx _ => ?_)
        have hx2 : x = ov ([n1, n2, n3].getD i none) := by
          match i, hx with
          | 0, hx => cases hx; rfl
          | 1, hx => cases hx; rfl
          | 2, hx => cases hx; rfl
        subst hx2
        exact ev_is (ev_op (ev_var rfl) ev_c rv_isN) (congrArg V.bl (ov_non _)))
      have e : ([n1.isNone, n2.isNone, n3.isNone]).any id = (n1.isNone || (n2.isNone || n3.isNone)) := by
        simp [List.any]
      rw [e] at h
      exact h
    show tSeq _ _ _ [some (.str z), some (.str pl), some (.str u2), some (.str len), some (.str fi), some (.str la), some (.ref D), none, none] H4
    have gone : (n1.isNone || (n2.isNone || n3.isNone)) = true → extF z = none := fun h => by
      rw [eF]
      cases n1 with
      | none => rfl
      | some a =>
        cases n2 with
        | none => rfl
        | some b =>
          cases n3 with
          | none => rfl
          | some t => cases h
    cases hn : (n1.isNone || (n2.isNone || n3.isNone)) with
    | true =>
      rw [hn] at hany
      refine q_when (b := true) (et_is (et_or (a := true) (b := true) (et_B hany) (fun h => nomatch h)) rfl) (fun _ H5 e5 => ?_) (fun h => nomatch h)
      exact s_ret ev_c fun H6 e6 => qn H6 ((e04.trans e5).trans e6) (gone hn)
    | false =>
      cases n1 with
      | none => cases hn
      | some a =>
        cases n2 with
        | none => cases hn
        | some b =>
          cases n3 with
          | none => cases hn
          | some t =>
            rw [hn] at hany
            have i0 : ∀ {σ : L2.St} {H' : Hp} (j : Nat) {v : V}, Ex H4 H' → σ[6]? = some (some (.ref D)) → [V.int (a : Int), .int (b : Int), .int (t : Int)][j]? = some v → Ev (tOp (rIxL K) (tVar 6) (tC (.int (j : Int)))) σ H' v := fun j v e h0 hv => ev_ixL (ev_var h0) ev_c (e _ _ hy) (atI_nat hv)
            refine q_when (b := !(decide ((a : Int) ≤ (b : Int)) && decide ((b : Int) < (t : Int)))) (et_is (et_or (a := false) (et_B hany) fun _ => et_not (et_test (ev_chainM (i0 0 (Ex.refl H4) rfl rfl) (i0 1 (Ex.refl H4) rfl rfl) (i0 2 (Ex.refl H4) rfl rfl)))) (Bool.false_or _)) (fun hb H5 e5 => ?_) (fun hb H5 e5 => ?_)
            · refine s_ret ev_c fun H6 e6 => qn H6 ((e04.trans e5).trans e6) ?_
              rw [eF]
              rw [Bool.not_eq_true', Bool.and_eq_false_iff, decide_eq_false_iff_not, decide_eq_false_iff_not] at hb
              exact if_neg (by omega)
            · rw [Bool.not_eq_false', Bool.and_eq_true, decide_eq_true_eq, decide_eq_true_eq] at hb
              refine s_retU (eu_tup (ea_cons (i0 0 e5 rfl rfl) (ea_cons (ev_op (i0 1 e5 rfl rfl) ev_c rv_I0) (ea_cons (i0 2 e5 rfl rfl) ea_nil))) (by show 3 ≤ 100000; decide)) fun p H6 np e6 h6 => q _ H6 ((e04.trans e5).trans e6) ?_
              rw [eF, show extN (some a) (some b) (some t) = some (a, b, t) from if_pos (by omega)]
              exact ⟨p, rfl, h6⟩
end
end Z
set_option maxHeartbeats 4000000
namespace Z
open PySem PySem.Spec PyProof.Rows L2 TL Evl NdefX
/-! ### a block -/
theorem occ_from {x : Str} {c lo : Nat} : (Builtin.Str.occurrences x ⟨#[c]⟩ lo x.length 1).head? = (ixS c (sufT x lo)).map (lo + ·) := by
  have hat : ∀ i, StrLaws.At x ⟨#[c]⟩ x.length i ↔ (tl x)[i]? = some c := fun i => StrLaws.subAt_one x c i
  have hg : ∀ i, (tl (sufT x lo))[i]? = (tl x)[lo + i]? := fun i => by rw [tl_suf, List.getElem?_drop]
  rw [StrLaws.occ_eq]
  rcases StrLaws.occ_first x ⟨#[c]⟩ x.length 1 (Nat.le_refl 1) (List.range' lo (x.length + 1 - lo)) lo (fun i hi => by rw [List.mem_range'] at hi; omega) with ⟨h0, hn⟩ | ⟨pre, a, post, e, h0, ha, hn⟩
  · rw [h0, ixS_none.mpr fun k e => ?_]
    · rfl
    · rw [hg] at e
      have hl := (List.getElem?_eq_some_iff.mp e).1
      rw [len_tl'] at hl
      exact hn (lo + k) (by rw [List.mem_range']; exact ⟨k, by omega, by omega⟩) ((hat _).mpr e)
  · have h1 : ((forIn (List.range' lo (x.length + 1 - lo)) ((#[] : Array Nat), lo) (StrLaws.occBody x ⟨#[c]⟩ x.length 1)).run.fst.toList).head? = some a := by
      rw [List.head?_eq_getElem?, Array.getElem?_toList]
      exact h0
    rw [h1]
    obtain ⟨n, hn1, hp, hq⟩ := List.range'_eq_append_iff.mp e
    have ha2 : a = lo + n := by
      have h := congrArg List.head? hq
      rw [List.head?_cons] at h
      rw [List.head?_range'] at h
      split at h
      · cases h
      · have := (Option.some.inj h.symm).symm
        omega
    have h2 : ixS c (sufT x lo) = some n := ixS_some.mpr ⟨by rw [hg, ← ha2]; exact (hat a).mp ha, fun k hk e => by
      rw [hg] at e
      exact hn (lo + k) (by rw [hp, List.mem_range']; exact ⟨k, hk, by omega⟩) ((hat _).mpr e)⟩
    rw [h2, ha2]
    rfl
def stopN (x : Str) (a : Nat) : Option Nat := (ixS 10 (sufT x a)).map (a + ·)
theorem from_nat (n a : Nat) : PySem.fromIndex n (a : Int) = a := by
  unfold PySem.fromIndex
  rw [if_neg (by omega)]
  omega
theorem find3_ix (x : Str) (a : Nat) : Txt.find3 x "\n" (a : Int) = ixV (stopN x a) := by
  unfold stopN
  rw [sg_nl, ← occ_from]
  unfold Txt.find3
  rw [from_nat]
  cases Builtin.Str.occurrences x ⟨#[10]⟩ a x.length 1 <;> rfl
theorem stop_bd {x : Str} {a s : Nat} (h : stopN x a = some s) : a ≤ s ∧ s + 1 ≤ x.length := by
  unfold stopN at h
  obtain ⟨i, hi, rfl⟩ := Option.map_eq_some_iff.mp h
  have := ixS_lt hi
  have h2 := len_tl' (sufT x a)
  rw [tl_suf, List.length_drop, len_tl'] at h2
  omega
theorem tl_part : tl ("part " : Str) = [112, 97, 114, 116, 32] := by decide +kernel
theorem starts3 {x : Str} {a : Nat} (h : a ≤ x.length) : Txt.startswith3 x "part " (a : Int) = decide (cutS x (some (a : Int)) (some ((a : Int) + 5)) = ("part " : Str)) := by
  have e5 : ("part " : Str).length = 5 := by decide +kernel
  have ec : cutS x (some (a : Int)) (some ((a : Int) + 5)) = S' (((tl x).drop a).take 5) := by
    rw [show ((a : Int) + 5) = ((a + 5 : Nat) : Int) from rfl, cut_mid, List.drop_take, Nat.add_sub_cancel_left]
  unfold Txt.startswith3
  rw [from_nat, StrLaws.subAt_eq, ec, e5, Bool.eq_iff_iff, Bool.and_eq_true, decide_eq_true_eq, decide_eq_true_eq, beq_iff_eq]
  constructor
  · exact fun ⟨_, h2⟩ => ext_tl h2
  · intro h2
    have h3 : ((tl x).drop a).take 5 = tl ("part " : Str) := congrArg tl h2
    refine ⟨?_, h3⟩
    have h4 := congrArg List.length h3
    rw [List.length_take, List.length_drop, len_tl', tl_part] at h4
    have h4 : min 5 (x.length - a) = 5 := h4
    omega
def hdT (x : Str) (a s : Nat) : Str := S' (((tl x).take s).drop (a + 5))
theorem cut_hd (x : Str) (a s : Nat) : cutS x (some ((a : Int) + 5)) (some (s : Int)) = hdT x a s := by
  rw [show ((a : Int) + 5) = ((a + 5 : Nat) : Int) from rfl, cut_mid]
  rfl
theorem hd_len (x : Str) (a s : Nat) : (hdT x a s).length ≤ x.length := by rw [← cut_hd]; exact cut_len _ _ _
/-- the line of a block: start, end, length, and where its text begins -/
def hB (x : Str) (a : Nat) : Option ((Nat × Nat × Nat) × Nat) :=
  match stopN x a with
  | none => none
  | some s => if cutS x (some (a : Int)) (some ((a : Int) + 5)) = ("part " : Str) then (extF (hdT x a s)).map fun h => (h, s + 1) else none
def spBl (DP : Addr) : Sp := fun vs H Q E => ∃ (x : Str) (a : Nat), vs = [.str x, .int (a : Int)] ∧ x.length ≤ 100000 ∧ a ≤ x.length ∧ (hB x a = none → ∀ H', Ex H H' → E (.ref DP) none H') ∧
  ∀ s e t k, hB x a = some ((s, e, t), k) → ∀ v H', Ex H H' → TupAt H' v [.int (s : Int), .int ((e : Int) + 1), .int (t : Int), .int (k : Int)] → Q v H'
theorem ev_find3 {K : PySem.W.Frag} {σ : L2.St} {H : Hp} {to : TE} {ta : TA} {a b : Str} {i : Int} (h : Ev to σ H (.str a)) (hs : EvA ta σ H [.str b, .int i]) : Ev (tBM K "str" (fun x xs H Q => ∃ a b i, x = V.str a ∧ xs = [V.str b, V.int i] ∧ Q (V.int (Txt.find3 a b i)) H) to ta) σ H (.int (Txt.find3 a b i)) := fun H1 e Q q =>
  h H1 e _ fun H2 e2 => ⟨rfl, hs H2 (e.trans e2) _ fun H3 e3 => ⟨a, b, i, rfl, rfl, q H3 (e2.trans e3)⟩⟩
theorem ev_starts3 {K : PySem.W.Frag} {σ : L2.St} {H : Hp} {to : TE} {ta : TA} {a b : Str} {i : Int} (h : Ev to σ H (.str a)) (hs : EvA ta σ H [.str b, .int i]) : Ev (tBM K "str" (fun x xs H Q => ∃ a b i, x = V.str a ∧ xs = [V.str b, V.int i] ∧ Q (V.bl (Txt.startswith3 a b i)) H) to ta) σ H (.bl (Txt.startswith3 a b i)) := fun H1 e Q q =>
  h H1 e _ fun H2 e2 => ⟨rfl, hs H2 (e.trans e2) _ fun H3 e3 => ⟨a, b, i, rfl, rfl, q H3 (e2.trans e3)⟩⟩
section
variable {P : Program} {w : World} {K : PySem.W.Frag} {mg : Str → Option Value} {base : Heap} {f DP DV DH : Addr} {fd : FuncData} {k : Nat}
theorem ok_read_block_line (T : Mg mg) (WE : Wp K mg DP DV DH) (EF : Ef0 P w K mg base DP) (c_read_extent : Call P w K mg base 3 "read_extent" ["text"] spExt) (F : FnP K "read_block_line" s_read_block_line f fd) : FnOk P w K mg base (L2N.CX P w) 4 f fd ["body", "at"] (spBl DP) := by
  refine FunD.ok F sc_read_block_line (fun vs H Q E h => ?_) (fun cdv A outer s H vs Q E hr h => ?_)
  · obtain ⟨x, a, rfl, _⟩ := h
    rfl
  · obtain ⟨x, a, rfl, hx, ha, kf, kt⟩ := h
    refine ⟨_, (pss_cons (ps_set (i := 2) sc_read_block_line.nd rfl (Or.inl rfl) (pe_bm PySem.F.plainAttrs_str PySem.F.slot_str_find PySem.F.type_str_find mt_find3 (pv 0) (pa_cons pe_str (pa_cons (pv 1) pa_nil))))
    (pss_cons (ps_if (PW.pt (pw_or (pt_cmpR op_lt (pv 2) pe_int (nomark _)) (pw_or1 (pt_not (pt_val (pe_bm PySem.F.plainAttrs_str PySem.F.slot_str_startswith PySem.F.type_str_startswith mt_startswith3 (pv 0) (pa_cons pe_str (pa_cons (pv 1) pa_nil))))))))
      (pss_one (ps_raise0 EF rfl (L2N.takes_of rfl rfl rfl rfl) (hr.mono (by decide)) rfl WE.mF))
      pss_nil)
    (pss_cons (ps_set (i := 3) sc_read_block_line.nd rfl (Or.inl rfl) (pe_f c_read_extent hr (by decide) rfl (pa_cons (pe_slice sl_str (pv 0) (po_some (pe_op op_add (pv 1) (pe_callB cz_len (by rfl) T.len (by decide +kernel) (pa_cons pe_str pa_nil)))) (po_some (pv 2))) pa_nil)))
    (pss_cons (ps_if (pt_cmpR op_isN1 (pv 3) pe_non (nomark _))
      (pss_one (ps_raise0 EF rfl (L2N.takes_of rfl rfl rfl rfl) (hr.mono (by decide)) rfl WE.mF))
      pss_nil)
    (pss_one (ps_ret (pe_tup (pa_cons (pe_ix ix_tup (pv 3) pe_int (fun _ _ => rfl)) (pa_cons (pe_ix ix_tup (pv 3) pe_int (fun _ _ => rfl)) (pa_cons (pe_ix ix_tup (pv 3) pe_int (fun _ _ => rfl)) (pa_cons (pe_op op_add (pv 2) pe_int) pa_nil))))))))))), ?_⟩
    have l5 : ("part " : Str).length = 5 := by decide +kernel
    refine q_asg (v := .int (ixV (stopN x a))) (ev_is (ev_find3 (ev_var rfl) (ea_cons ev_c (ea_cons (ev_var rfl) ea_nil))) (by rw [find3_ix])) fun H1 e1 => ?_
    refine q_when (b := decide (ixV (stopN x a) < 0) || !decide (cutS x (some (a : Int)) (some ((a : Int) + 5)) = ("part " : Str))) (et_or (et_test (ev_op (ev_var rfl) ev_c rv_I0)) fun _ => et_not (et_B (ev_is (ev_starts3 (ev_var rfl) (ea_cons ev_c (ea_cons (ev_var rfl) ea_nil))) (by rw [starts3 ha])))) (fun hb H2 e2 => ZX.mk_err0 fun H3 e3 => kf ?_ H3 ((e1.trans e2).trans e3)) (fun hb H2 e2 => ?_)
    · unfold hB
      cases hs : stopN x a with
      | none => rfl
      | some s =>
        rw [hs] at hb
        have hb : (decide ((s : Int) < 0) || !decide (cutS x (some (a : Int)) (some ((a : Int) + 5)) = ("part " : Str))) = true := hb
        rw [Bool.or_eq_true, decide_eq_true_eq, Bool.not_eq_true', decide_eq_false_iff_not] at hb
        exact if_neg (hb.resolve_left (by omega))
    · cases hs : stopN x a with
      | none => rw [hs] at hb; cases hb
      | some s =>
        rw [hs] at hb
        have hb : (decide ((s : Int) < 0) || !decide (cutS x (some (a : Int)) (some ((a : Int) + 5)) = ("part " : Str))) = false := hb
        rw [Bool.or_eq_false_iff, Bool.not_eq_false', decide_eq_true_eq] at hb
        have hB2 : hB x a = (extF (hdT x a s)).map (fun h => (h, s + 1)) := by
          unfold hB
          rw [hs]
          exact if_pos hb.2
        show tSeq _ _ _ [some (.str x), some (.int (a : Int)), some (.int (s : Int)), none] H2
        have hl := hd_len x a s
        refine q_asgR (rd_call (Q := fun v H => _) (ea_cons (ev_slS (ev_var rfl) (eo_some (ev_op (ev_var rfl) (ev_is (w := .int 5) (ev_lenStr ev_c (by omega)) (by rw [l5]; rfl)) rv_I0)) (eo_some (ev_var rfl)) hx) ea_nil) fun H3 e3 => ⟨_, rfl, by rw [cut_hd]; omega, fun v H4 e4 hv => ?_⟩)
        rw [cut_hd] at hv
        have e04 := ((e1.trans e2).trans e3).trans e4
        cases he : extF (hdT x a s) with
        | none =>
          rw [he] at hv hB2
          cases (show v = .non from hv)
          exact q_when (b := true) (et_is (et_test (ev_op (ev_var rfl) ev_c rv_isN)) rfl) (fun _ H5 e5 => ZX.mk_err0 fun H6 e6 => kf hB2 H6 ((e04.trans e5).trans e6)) (fun h => nomatch h)
        | some o =>
          obtain ⟨sa, eb, t⟩ := o
          rw [he] at hv hB2
          obtain ⟨p, rfl, hp⟩ := hv
          refine q_when (b := false) (et_is (et_test (ev_op (ev_var rfl) ev_c rv_isN)) rfl) (fun h => nomatch h) (fun _ H5 e5 => ?_)
          have hp5 := e5 _ _ hp
          refine s_retU (eu_tup (ea_cons (ev_ixT (ev_var rfl) ev_c hp5 (atI_nat (j := 0) rfl)) (ea_cons (ev_ixT (ev_var rfl) ev_c hp5 (atI_nat (j := 1) rfl)) (ea_cons (ev_ixT (ev_var rfl) ev_c hp5 (atI_nat (j := 2) rfl)) (ea_cons (ev_op (ev_var rfl) ev_c rv_I0) ea_nil)))) (by show 4 ≤ 100000; decide)) fun u H6 nu e6 h6 => kt sa eb t (s + 1) hB2 _ H6 ((e04.trans e5).trans e6) ⟨u, rfl, h6⟩
end
end Z
set_option maxHeartbeats 4000000
namespace Z
open PySem PySem.Spec PyProof.Rows L2 TL Evl NdefX
/-! ### blocks behind one another -/
structure Bk where
  a : Nat
  e : Nat
  t : Nat
  s : Str
def txT (x : Str) (k n : Nat) : Str := S' (((tl x).take n).drop k)
def pcF (x : Str) (a : Nat) : Option (Bk × Nat) :=
  match hB x a with
  | none => none
  | some ((s, e, t), k) => if cutS x (some ((k + (e + 1 - s) : Nat) : Int)) (some (((k + (e + 1 - s) : Nat) : Int) + 1)) = ("\n" : Str) then some (⟨s, e, t, txT x k (k + (e + 1 - s))⟩, k + (e + 1 - s) + 1) else none
def blks : Nat → Str → Nat → Option (List Bk × Nat)
  | 0, _, a => some ([], a)
  | n + 1, x, a => match pcF x a with
    | none => none
    | some (b, a') => (blks n x a').map fun r => (b :: r.1, r.2)
def okN : Option Bk → Bk → Bool
  | none, _ => true
  | some l, b => decide (l.e < b.a) && decide (l.t = b.t)
def okL : Option Bk → List Bk → Bool
  | _, [] => true
  | p, b :: r => okN p b && okL (some b) r
def lstB : Option Bk → List Bk → Option Bk
  | p, [] => p
  | _, b :: r => lstB (some b) r
theorem okL_app (p : Option Bk) : ∀ (bs : List Bk) (cs : List Bk), okL p (bs ++ cs) = (okL p bs && okL (lstB p bs) cs)
  | [], cs => rfl
  | b :: r, cs => by
    show (okN p b && okL (some b) (r ++ cs)) = _
    rw [okL_app (some b) r cs, ← Bool.and_assoc]
    rfl
theorem lstB_app (p : Option Bk) : ∀ (bs cs : List Bk), lstB p (bs ++ cs) = lstB (lstB p bs) cs
  | [], cs => rfl
  | b :: r, cs => lstB_app (some b) r cs
theorem blks_add : ∀ (m n : Nat) (x : Str) (a : Nat), blks (m + n) x a = (blks m x a).bind fun r => (blks n x r.2).map fun q => (r.1 ++ q.1, q.2)
  | 0, n, x, a => by
    rw [Nat.zero_add]
    show _ = (blks n x a).map fun q => ([] ++ q.1, q.2)
    cases blks n x a <;> rfl
  | m + 1, n, x, a => by
    rw [Nat.add_right_comm]
    show (match pcF x a with | none => none | some (b, a') => (blks (m + n) x a').map fun r => (b :: r.1, r.2) : Option (List Bk × Nat)) = (match pcF x a with | none => none | some (b, a') => (blks m x a').map fun r => (b :: r.1, r.2) : Option (List Bk × Nat)).bind fun r => (blks n x r.2).map fun q => (r.1 ++ q.1, q.2)
    cases pcF x a with
    | none => rfl
    | some ba =>
      obtain ⟨b, a'⟩ := ba
      show (blks (m + n) x a').map _ = ((blks m x a').map _).bind _
      rw [blks_add m n x a']
      cases blks m x a' with
      | none => rfl
      | some r =>
        show ((blks n x r.2).map _).map _ = (blks n x r.2).map _
        rw [Option.map_map]
        rfl
theorem blks_len : ∀ {n : Nat} {x : Str} {a : Nat} {bs : List Bk} {z : Nat}, blks n x a = some (bs, z) → bs.length = n
  | 0, _, _, _, _, h => by cases h; rfl
  | n + 1, x, a, bs, z, h => by
    have h : (match pcF x a with | none => none | some (b, a') => (blks n x a').map fun r => (b :: r.1, r.2)) = some (bs, z) := h
    cases hp : pcF x a with
    | none => rw [hp] at h; cases h
    | some ba =>
      obtain ⟨b, a'⟩ := ba
      rw [hp] at h
      obtain ⟨r, hr, e⟩ := Option.map_eq_some_iff.mp (show (blks n x a').map _ = some (bs, z) from h)
      cases e
      obtain ⟨r1, r2⟩ := r
      rw [List.length_cons, blks_len hr]
theorem ext_le {z : Str} {a b t : Nat} (h : extF z = some (a, b, t)) : a ≤ b ∧ b < t := by
  unfold extF at h
  split at h
  · split at h
    · rename_i d s _ _ _
      generalize num (preT z d) = n1 at h
      generalize num (midT z d s) = n2 at h
      generalize num (sufT z (s + 1)) = n3 at h
      cases n1 with
      | none => cases h
      | some x =>
        cases n2 with
        | none => cases h
        | some y =>
          cases n3 with
          | none => cases h
          | some w =>
            have h : (if x ≤ y ∧ y < w then some (x, y, w) else none) = some (a, b, t) := h
            split at h
            · cases h; assumption
            · cases h
    · cases h
  · cases h
theorem hB_some {x : Str} {a s e t k : Nat} (h : hB x a = some ((s, e, t), k)) : s ≤ e ∧ e < t ∧ a < k ∧ k ≤ x.length := by
  unfold hB at h
  split at h
  · cases h
  · rename_i q hq
    split at h
    · obtain ⟨o, ho, e2⟩ := Option.map_eq_some_iff.mp h
      cases e2
      obtain ⟨b1, b2⟩ := stop_bd hq
      obtain ⟨b3, b4⟩ := ext_le ho
      omega
    · cases h
theorem cut_one {x : Str} {n : Nat} {c : Nat} : cutS x (some (n : Int)) (some ((n : Int) + 1)) = ⟨#[c]⟩ ↔ (tl x)[n]? = some c := by
  rw [show ((n : Int) + 1) = ((n + 1 : Nat) : Int) from rfl, cut_mid, List.drop_take, Nat.add_sub_cancel_left]
  have e1 : tl (⟨#[c]⟩ : Str) = [c] := rfl
  constructor
  · intro h
    have h := congrArg tl h
    rw [e1] at h
    have h : ((tl x).drop n).take 1 = [c] := h
    have h2 := congrArg (fun l => l[0]?) h
    have h2 : (((tl x).drop n).take 1)[0]? = some c := h2
    rw [List.getElem?_take, if_pos (by decide), List.getElem?_drop] at h2
    exact h2
  · intro h
    refine ext_tl ?_
    rw [e1]
    show ((tl x).drop n).take 1 = [c]
    obtain ⟨hi, hv⟩ := List.getElem?_eq_some_iff.mp h
    rw [List.drop_eq_getElem_cons hi, List.take_succ_cons, List.take_zero, hv]
theorem pcF_some {x : Str} {a a' : Nat} {b : Bk} (h : pcF x a = some (b, a')) : b.a ≤ b.e ∧ b.e < b.t ∧ a < a' ∧ a' ≤ x.length := by
  unfold pcF at h
  split at h
  · cases h
  · rename_i s e t k hk
    split at h
    · rename_i hc
      cases h
      obtain ⟨h1, h2, h3, h4⟩ := hB_some hk
      rw [sg_nl] at hc
      have := (List.getElem?_eq_some_iff.mp (cut_one.mp hc)).1
      rw [len_tl'] at this
      exact ⟨h1, h2, by omega, by omega⟩
    · cases h
theorem blks_bd : ∀ {n : Nat} {x : Str} {a : Nat} {bs : List Bk} {z : Nat}, blks n x a = some (bs, z) → a ≤ x.length → a + n ≤ z ∧ z ≤ x.length
  | 0, _, _, _, _, h, ha => by cases h; omega
  | n + 1, x, a, bs, z, h, ha => by
    have h : (match pcF x a with | none => none | some (b, a') => (blks n x a').map fun r => (b :: r.1, r.2)) = some (bs, z) := h
    cases hp : pcF x a with
    | none => rw [hp] at h; cases h
    | some ba =>
      obtain ⟨b, a'⟩ := ba
      rw [hp] at h
      obtain ⟨r, hr, e⟩ := Option.map_eq_some_iff.mp (show (blks n x a').map _ = some (bs, z) from h)
      cases e
      obtain ⟨r1, r2⟩ := r
      obtain ⟨_, _, h3, h4⟩ := pcF_some hp
      have := blks_bd hr h4
      show a + (n + 1) ≤ r2 ∧ r2 ≤ x.length
      omega
def gdB (x : Str) (bs : List Bk) : Prop := blks bs.length x 0 = some (bs, x.length) ∧ okL none bs = true
theorem fail_at {x : Str} {bs : List Bk} {a : Nat} (h : blks bs.length x 0 = some (bs, a)) (ha : a < x.length) (hf : pcF x a = none ∨ ∃ b a', pcF x a = some (b, a') ∧ okN (lstB none bs) b = false) : ∀ cs, ¬ gdB x cs := by
  rintro cs ⟨g1, g2⟩
  by_cases hl : cs.length ≤ bs.length
  · obtain ⟨d, hd⟩ := Nat.exists_eq_add_of_le hl
    rw [hd, blks_add, g1] at h
    have h : (blks d x x.length).map _ = some (bs, a) := h
    obtain ⟨r, hr, e⟩ := Option.map_eq_some_iff.mp h
    cases e
    obtain ⟨r1, r2⟩ := r
    have := blks_bd hr (Nat.le_refl _)
    have ha : r2 < x.length := ha
    omega
  · obtain ⟨d, hd⟩ := Nat.exists_eq_add_of_le (show bs.length + 1 ≤ cs.length by omega)
    rw [hd, Nat.add_assoc, blks_add, h] at g1
    have g1 : (blks (1 + d) x a).map _ = some (cs, x.length) := g1
    obtain ⟨r, hr, e⟩ := Option.map_eq_some_iff.mp g1
    have e1 : bs ++ r.1 = cs := congrArg Prod.fst e
    rw [Nat.add_comm 1 d] at hr
    have hr : (match pcF x a with | none => none | some (b, a') => (blks d x a').map fun r => (b :: r.1, r.2)) = some r := hr
    rcases hf with hf | ⟨b, a', hp, hb⟩
    · rw [hf] at hr; cases hr
    · rw [hp] at hr
      obtain ⟨q, hq, e3⟩ := Option.map_eq_some_iff.mp (show (blks d x a').map _ = some r from hr)
      rw [← e3] at e1
      have e1 : bs ++ b :: q.1 = cs := e1
      rw [← e1, okL_app] at g2
      have g2 : (okL none bs && (okN (lstB none bs) b && okL (some b) q.1)) = true := g2
      rw [hb] at g2
      cases h3 : okL none bs <;> rw [h3] at g2 <;> cases g2
theorem good_one {x : Str} {bs cs : List Bk} (h : gdB x bs) (g : gdB x cs) : bs = cs := by
  have key : ∀ {bs cs : List Bk}, gdB x bs → gdB x cs → bs.length ≤ cs.length → bs = cs := fun {bs cs} h g hl => by
    obtain ⟨d, hd⟩ := Nat.exists_eq_add_of_le hl
    have g1 := g.1
    rw [hd, blks_add, h.1] at g1
    have g1 : (blks d x x.length).map _ = some (cs, x.length) := g1
    obtain ⟨r, hr, e⟩ := Option.map_eq_some_iff.mp g1
    obtain ⟨r1, r2⟩ := r
    have hb := blks_bd hr (Nat.le_refl _)
    have hd0 : d = 0 := by omega
    subst hd0
    cases hr
    have e1 : bs ++ [] = cs := congrArg Prod.fst e
    rw [List.append_nil] at e1
    exact e1
  rcases Nat.le_total bs.length cs.length with hl | hl
  · exact key h g hl
  · exact (key g h hl).symm
end Z
set_option maxHeartbeats 4000000
namespace Z
open PySem PySem.Spec PyProof.Rows L2 TL Evl NdefX
/-! ### the blocks read -/
structure CE (P : Program) (w : World) (K : PySem.W.Frag) (mg : Str → Option Value) (base : Heap) (n : Nat) (x : Str) (ps : List Str) (sp : Sp) : Prop where
  ex : ∃ f fd, FnOk P w K mg base (L2N.CX P w) n f fd ps sp ∧ mg x = some (.ref f) ∧ PySem.W.keepIn K (.ref f) = true ∧ Binds K fd ps []
theorem inV_two (a b : Int) : inV (.int a) [.non, .int b] = decide (b = a) := by
  unfold inV
  rw [Bool.eq_iff_iff]
  simp [eqV]
theorem inV_non (b : Int) : inV .non [.non, .int b] = true := by
  unfold inV
  simp [eqV]
theorem q_apC {K : PySem.W.Frag} {σ : L2.St} {H : Hp} {D : Ends} {tz : TS} {te : TE} {i : Nat} {l : Addr} {xs : List V} (hi : σ[i]? = some (some (.ref l))) (hl : H l = some (.lst xs)) (h : te σ H fun y H2 => rAppend (.ref l) [y] H2 fun _ H3 => tz D σ H3) : tSeq (tDrop (tBM K "list" rAppend (tVar i) (tCons te tNil))) tz D σ H := ⟨_, hi, Or.inl ⟨rfl, xs, sq_of hl⟩, h⟩
def PcAt (H : Hp) (v : V) (b : Bk) : Prop := TupAt H v [.int (b.a : Int), .str b.s]
def totV (bs : List Bk) : V := match lstB none bs with
  | none => .non
  | some b => .int (b.t : Int)
def leaF (bs : List Bk) : Nat := match lstB none bs with
  | none => 0
  | some b => b.e + 1
def spBs (DP : Addr) : Sp := fun vs H Q E => ∃ x : Str, vs = [.str x] ∧ x.length ≤ 100000 ∧ ((∀ bs, ¬ gdB x bs) → ∀ H', Ex H H' → E (.ref DP) none H') ∧
  ∀ bs, gdB x bs → ∀ v l ys H', Ex H H' → TupAt H' v [totV bs, .ref l] → H' l = some (.lst ys) → Rel (PcAt H') ys bs → Q v H'
section
variable {P : Program} {w : World} {K : PySem.W.Frag} {mg : Str → Option Value} {base : Heap} {f DP DV DH : Addr} {fd : FuncData} {k : Nat}
theorem ok_read_blocks (T : Mg mg) (WE : Wp K mg DP DV DH) (EF : Ef0 P w K mg base DP) (RL : CE P w K mg base 4 "read_block_line" ["body", "at"] (spBl DP)) (F : FnP K "read_blocks" s_read_blocks f fd) : FnOk P w K mg base (L2N.CX P w) 5 f fd ["body"] (spBs DP) := by
  obtain ⟨fL, dL, FL, mL, kpL, bL⟩ := RL.ex
  refine FunD.ok F sc_read_blocks (fun vs H Q E h => ?_) (fun cdv A outer s H vs Q E hr h => ?_)
  · obtain ⟨x, rfl, _⟩ := h
    rfl
  · obtain ⟨x, rfl, hx, kf, kt⟩ := h
    refine ⟨_, (pss_cons (ps_set (i := 1) sc_read_blocks.nd rfl (Or.inl rfl) (pe_lst pa_nil))
    (pss_cons (ps_set (i := 2) sc_read_blocks.nd rfl (Or.inl rfl) pe_non)
    (pss_cons (ps_set (i := 3) sc_read_blocks.nd rfl (Or.inl rfl) pe_int)
    (pss_cons (ps_set (i := 4) sc_read_blocks.nd rfl (Or.inl rfl) pe_int)
    (pss_cons (ps_while (passes_of rfl) (pt_cmpR op_lt (pv 4) (pe_callB cz_len (by rfl) T.len (by decide +kernel) (pa_cons (pv 0) pa_nil)) (nomark _))
      (pss_cons (ps_asg (pe_call (E := E) FL (hr.mono (by decide)) rfl mL kpL bL .nil (L2N.passes_call (L2N.takes_of rfl rfl rfl rfl) (fun _ _ _ _ h => h)) (pa_cons (pv 0) (pa_cons (pv 4) pa_nil))) (pg_tup rfl (pgs_cons (pg_name (i := 5) sc_read_blocks.nd rfl (Or.inl rfl)) (pgs_cons (pg_name (i := 6) sc_read_blocks.nd rfl (Or.inl rfl)) (pgs_cons (pg_name (i := 7) sc_read_blocks.nd rfl (Or.inl rfl)) (pgs_cons (pg_name (i := 8) sc_read_blocks.nd rfl (Or.inl rfl)) pgs_nil))))))
      (pss_cons (ps_set (i := 4) sc_read_blocks.nd rfl (Or.inl rfl) (pe_op op_sub (pe_op op_add (pv 8) (pv 6)) (pv 5)))
      (pss_cons (ps_set (i := 9) sc_read_blocks.nd rfl (Or.inl rfl) (pe_slice sl_str (pv 0) (po_some (pv 4)) (po_some (pe_op op_add (pv 4) pe_int))))
      (pss_cons (ps_if (PW.pt (pw_or (pt_cmpR op_ne (pv 9) pe_str (nomark _)) (pw_or (pt_cmpR op_lt (pv 5) (pv 3) (nomark _)) (pw_or1 (pt_cmpR op_notIn_seq (pv 2) (pe_tup (pa_cons pe_non (pa_cons (pv 7) pa_nil))) rfl)))))
        (pss_one (ps_raise0 EF rfl (L2N.takes_of rfl rfl rfl rfl) (hr.mono (by decide)) rfl WE.mF))
        pss_nil)
      (pss_cons (ps_expr (pe_bm PySem.F.plainAttrs_list PySem.F.slot_list_append PySem.F.type_list_append mt_append (pv 1) (pa_cons (pe_tup (pa_cons (pv 5) (pa_cons (pe_slice sl_str (pv 0) (po_some (pv 8)) (po_some (pv 4))) pa_nil))) pa_nil)))
      (pss_cons (ps_set (i := 2) sc_read_blocks.nd rfl (Or.inl rfl) (pv 7))
      (pss_cons (ps_set (i := 3) sc_read_blocks.nd rfl (Or.inl rfl) (pv 6))
      (pss_one (ps_aug (i := 4) sc_read_blocks.nd rfl (Or.inl rfl) pe_int ip_add))))))))))
    (pss_one (ps_ret (pe_tup (pa_cons (pv 2) (pa_cons (pv 1) pa_nil)))))))))), ?_⟩
    have n0 : totV [] = .non := rfl
    refine q_asgL (el_lst ea_nil (by decide)) fun lp H1 np e1 hp => ?_
    refine q_asg (v := .non) ev_c fun H2 e2 => ?_
    refine q_asg (v := .int 0) ev_c fun H3 e3 => ?_
    refine q_asg (v := .int 0) ev_c fun H4 e4 => ?_
    have e04 := ((e1.trans e2).trans e3).trans e4
    have hp4 := ((e2.trans e3).trans e4) _ _ hp
    clear e1 e2 e3 e4 hp
    refine q_while (fun m σ' H' => ∃ (bs : List Bk) (a : Nat) (ys : List V) (x5 x6 x7 x8 x9 : Option V), σ' = [some (.str x), some (.ref lp), some (totV bs), some (.int (leaF bs : Int)), some (.int (a : Int)), x5, x6, x7, x8, x9] ∧ blks bs.length x 0 = some (bs, a) ∧ okL none bs = true ∧ a ≤ x.length ∧ m = x.length - a ∧ Ex H H' ∧ H' lp = some (.lst ys) ∧ Rel (PcAt H') ys bs) (x.length - 0) ⟨[], 0, [], none, none, none, none, none, rfl, rfl, rfl, Nat.zero_le _, rfl, e04, hp4, Rel.nil⟩ (fun m σ' H' hW => ?_)
    obtain ⟨bs, a, ys, x5, x6, x7, x8, x9, rfl, hbk, hok, hal, rfl, e0, hlp, hrel⟩ := hW
    refine ⟨decide ((a : Int) < (x.length : Int)), et_test (ev_op (ev_var rfl) (ev_lenStr (ev_var rfl) hx) rv_I0), fun hb H5 e5 => ?_, fun hb H5 e5 => ?_⟩
    · have ha : a < x.length := by have := of_decide_eq_true hb; omega
      refine ⟨fun σ2 Hx => ∃ (bs' : List Bk) (a' : Nat) (ys' : List V) (y5 y6 y7 y8 y9 : Option V), a < a' ∧ σ2 = [some (.str x), some (.ref lp), some (totV bs'), some (.int (leaF bs' : Int)), some (.int (a' : Int)), y5, y6, y7, y8, y9] ∧ blks bs'.length x 0 = some (bs', a') ∧ okL none bs' = true ∧ a' ≤ x.length ∧ Ex H Hx ∧ Hx lp = some (.lst ys') ∧ Rel (PcAt Hx) ys' bs', fun σ2 Hx hN => ?_, ?_⟩
      · obtain ⟨bs', a', ys', y5, y6, y7, y8, y9, h1, h2, h3, h4, h5, h6, h7, h8⟩ := hN
        exact ⟨x.length - a', by omega, bs', a', ys', y5, y6, y7, y8, y9, h2, h3, h4, h5, rfl, h6, h7, h8⟩
      refine rd_call (Q := fun v H => _) (ea_cons (ev_var rfl) (ea_cons (ev_var rfl) ea_nil)) fun H6 e6 => ⟨x, a, rfl, hx, hal, fun hn H7 e7 => kf (fail_at hbk ha (.inl (by unfold pcF; rw [hn]))) H7 (((e0.trans e5).trans e6).trans e7), fun s e t kk hk v H7 e7 hv => ?_⟩
      obtain ⟨u, rfl, hu⟩ := hv
      obtain ⟨hse, het, hak, hkl⟩ := hB_some hk
      have e07 := ((e0.trans e5).trans e6).trans e7
      have e57 := (e5.trans e6).trans e7
      refine ⟨u, _, rfl, st_of hu, rfl, _, _, rfl, _, _, rfl, _, _, rfl, _, _, rfl, rfl, ?_⟩
      show tSeq _ _ _ [some (.str x), some (.ref lp), some (totV bs), some (.int (leaF bs : Int)), some (.int (a : Int)), some (.int (s : Int)), some (.int ((e : Int) + 1)), some (.int (t : Int)), some (.int (kk : Int)), x9] H7
      obtain ⟨n, hn⟩ : ∃ n, n = kk + (e + 1 - s) := ⟨_, rfl⟩
      refine q_asg (v := .int (n : Int)) (ev_is (ev_op (ev_op (ev_var rfl) (ev_var rfl) rv_I0) (ev_var rfl) rv_I0) (congrArg V.int (by omega))) fun H8 e8 => ?_
      refine q_asg (v := .str (cutS x (some (n : Int)) (some ((n : Int) + 1)))) (ev_slS (ev_var rfl) (eo_some (ev_var rfl)) (eo_some (ev_op (ev_var rfl) ev_c rv_I0)) hx) fun H9 e9 => ?_
      have hpc : pcF x a = if cutS x (some (n : Int)) (some ((n : Int) + 1)) = ("\n" : Str) then some (⟨s, e, t, txT x kk n⟩, n + 1) else none := by
        unfold pcF
        rw [hk, hn]
      have hcond : (decide ((s : Int) < (leaF bs : Int)) || !inV (totV bs) [.non, .int (t : Int)]) = !okN (lstB none bs) ⟨s, e, t, txT x kk n⟩ := by
        unfold leaF totV
        cases lstB none bs with
        | none =>
          show (decide ((s : Int) < ((0 : Nat) : Int)) || !inV .non [.non, .int (t : Int)]) = !true
          rw [inV_non, decide_eq_false (by omega)]
          rfl
        | some l =>
          show (decide ((s : Int) < ((l.e + 1 : Nat) : Int)) || !inV (.int (l.t : Int)) [.non, .int (t : Int)]) = !(decide (l.e < s) && decide (l.t = t))
          rw [inV_two, Bool.not_and, ← decide_not, ← decide_not, ← decide_not]
          congr 1
          · exact decide_eq_decide.mpr (by omega)
          · exact decide_eq_decide.mpr (by omega)
      refine q_when (b := !decide (cutS x (some (n : Int)) (some ((n : Int) + 1)) = ("\n" : Str)) || (decide ((s : Int) < (leaF bs : Int)) || !inV (totV bs) [.non, .int (t : Int)])) (et_or (et_test (ev_op (ev_var rfl) ev_c rv_neS)) fun _ => et_or (et_test (ev_op (ev_var rfl) (ev_var rfl) rv_I0)) fun _ => et_test (ev_opV (ev_var rfl) (eu_tup (ea_cons ev_c (ea_cons (ev_var rfl) ea_nil)) (by show 2 ≤ 100000; decide)) fun q H1 hq _ => rv_niT (st_of hq) (by unfold totV; cases lstB none bs <;> rfl) rfl)) (fun hb H10 e10 => ZX.mk_err0 fun H11 e11 => kf (fail_at hbk ha ?_) H11 ((e07.trans (e8.trans e9)).trans (e10.trans e11))) (fun hb H10 e10 => ?_)
      · by_cases hc : cutS x (some (n : Int)) (some ((n : Int) + 1)) = ("\n" : Str)
        · rw [decide_eq_true hc, hcond] at hb
          exact .inr ⟨_, _, by rw [hpc, if_pos hc], (Bool.not_eq_true' _).mp hb⟩
        · exact .inl (by rw [hpc, if_neg hc])
      · obtain ⟨hb1, hb2⟩ := Bool.or_eq_false_iff.mp hb
        have hc := of_decide_eq_true ((Bool.not_eq_false' _).mp hb1)
        rw [hcond] at hb2
        have hkN := (Bool.not_eq_false' _).mp hb2
        rw [if_pos hc] at hpc
        have e010 := (e07.trans (e8.trans e9)).trans e10
        have hlp10 := ((e57.trans (e8.trans e9)).trans e10) _ _ hlp
        have hnl : n + 1 ≤ x.length := (pcF_some hpc).2.2.2
        have hyl : ys.length ≤ a := by
          rw [hrel.1]
          have := blks_bd hbk (Nat.zero_le _)
          omega
        refine q_apC rfl hlp10 ?_
        refine (eu_tup (ea_cons (ev_var rfl) (ea_cons (ev_slS (ev_var rfl) (eo_some (ev_var rfl)) (eo_some (ev_var rfl)) hx) ea_nil)) (by show 2 ≤ 100000; decide)) H10 (Ex.refl H10) _ fun pt H11 npt e11 hpt => ⟨lp, ys, .ref pt, rfl, rfl, e11 _ _ hlp10, sz_lt (by omega), ?_⟩
        have nlp : lp ≠ pt := fun e => by rw [← e, hlp10] at npt; cases npt
        have e011 : Ex H (upd H11 lp (.lst (ys ++ [.ref pt]))) := fun c o hc => by
          rw [upd_ne (ne_of_none hc np)]
          exact (e010.trans e11) _ _ hc
        have hH : Ex H' H11 := (((e57.trans (e8.trans e9)).trans e10).trans e11)
        have hlpx : (upd H11 lp (.lst (ys ++ [.ref pt]))) lp = some (.lst (ys ++ [.ref pt])) := upd_same
        have hlp11 := e11 _ _ hlp10
        have htx : ∀ {v : V} {zs : List V}, TupAt H11 v zs → TupAt (upd H11 lp (.lst (ys ++ [.ref pt]))) v zs := fun {v zs} h => by
          obtain ⟨q, rfl, hq⟩ := h
          exact ⟨q, rfl, by rw [upd_ne (fun e => by rw [e, hlp11] at hq; cases hq)]; exact hq⟩
        have hrx : Rel (PcAt (upd H11 lp (.lst (ys ++ [.ref pt])))) (ys ++ [.ref pt]) (bs ++ [⟨s, e, t, txT x kk n⟩]) := Rel.snoc (hrel.mono fun _ _ m => htx (TupAt.ex m hH)) (htx ⟨pt, rfl, by rw [hpt, cut_mid]; rfl⟩)
        generalize upd H11 lp (.lst (ys ++ [.ref pt])) = HX at e011 hlpx hrx
        refine q_asg (v := .int (t : Int)) (ev_var rfl) fun H12 e12 => ?_
        refine q_asg (v := .int ((e : Int) + 1)) (ev_var rfl) fun H13 e13 => ?_
        refine s_aug (a := (n : Int)) (b := 1) rfl ev_c fun H14 e14 => ?_
        have eX := (e12.trans e13).trans e14
        have lb : lstB none (bs ++ [⟨s, e, t, txT x kk n⟩]) = some ⟨s, e, t, txT x kk n⟩ := by rw [lstB_app]; rfl
        have hr14 : Rel (PcAt H14) (ys ++ [.ref pt]) (bs ++ [⟨s, e, t, txT x kk n⟩]) := hrx.mono fun _ _ m => TupAt.ex m eX
        refine ⟨bs ++ [⟨s, e, t, txT x kk n⟩], n + 1, ys ++ [.ref pt], some (.int (s : Int)), some (.int ((e : Int) + 1)), some (.int (t : Int)), some (.int (kk : Int)), some (.str (cutS x (some (n : Int)) (some ((n : Int) + 1)))), (pcF_some hpc).2.2.1, ?_, ?_, ?_, hnl, e011.trans eX, eX _ _ hlpx, hr14⟩
        · have t1 : totV (bs ++ [⟨s, e, t, txT x kk n⟩]) = .int (t : Int) := by unfold totV; rw [lb]
          have t2 : leaF (bs ++ [⟨s, e, t, txT x kk n⟩]) = e + 1 := by unfold leaF; rw [lb]
          rw [t1, t2]
          rfl
        · rw [List.length_append, blks_add, hbk]
          show (blks 1 x a).map _ = _
          show ((match pcF x a with | none => none | some (b, a') => (blks 0 x a').map fun r => (b :: r.1, r.2) : Option (List Bk × Nat))).map _ = _
          rw [hpc]
          rfl
        · rw [okL_app, hok]
          show (true && (okN (lstB none bs) _ && true)) = true
          rw [hkN]
          rfl
    · have ha : a = x.length := by have := of_decide_eq_false hb; omega
      subst ha
      refine s_retU (eu_tup (ea_cons (ev_var rfl) (ea_cons (ev_var rfl) ea_nil)) (by show 2 ≤ 100000; decide)) fun p H6 np6 e6 h6 => kt bs ⟨hbk, hok⟩ _ lp ys H6 ((e0.trans e5).trans e6) ⟨p, rfl, h6⟩ ((e5.trans e6) _ _ hlp) (hrel.mono fun _ _ m => TupAt.ex m (e5.trans e6))
end
end Z
set_option maxHeartbeats 4000000
namespace Z
open PySem PySem.Spec PyProof.Rows L2 TL Evl NdefX
/-! ### the law's blocks -/
theorem fail_gt {x : Str} {bs : List Bk} {a : Nat} (h : blks bs.length x 0 = some (bs, a)) (hf : pcF x a = none ∨ ∃ b a', pcF x a = some (b, a') ∧ okN (lstB none bs) b = false) : ∀ cs, bs.length < cs.length → ¬ gdB x cs := by
  rintro cs hl ⟨g1, g2⟩
  obtain ⟨d, hd⟩ := Nat.exists_eq_add_of_le (show bs.length + 1 ≤ cs.length by omega)
  rw [hd, Nat.add_assoc, blks_add, h] at g1
  have g1 : (blks (1 + d) x a).map _ = some (cs, x.length) := g1
  obtain ⟨r, hr, e⟩ := Option.map_eq_some_iff.mp g1
  have e1 : bs ++ r.1 = cs := congrArg Prod.fst e
  rw [Nat.add_comm 1 d] at hr
  have hr : (match pcF x a with | none => none | some (b, a') => (blks d x a').map fun r => (b :: r.1, r.2)) = some r := hr
  rcases hf with hf | ⟨b, a', hp, hb⟩
  · rw [hf] at hr; cases hr
  · rw [hp] at hr
    obtain ⟨q, hq, e3⟩ := Option.map_eq_some_iff.mp (show (blks d x a').map _ = some r from hr)
    rw [← e3] at e1
    have e1 : bs ++ b :: q.1 = cs := e1
    rw [← e1, okL_app] at g2
    have g2 : (okL none bs && (okN (lstB none bs) b && okL (some b) q.1)) = true := g2
    rw [hb] at g2
    cases h3 : okL none bs <;> rw [h3] at g2 <;> cases g2
def svF (x : Str) (n : Nat) : Option (List Bk) :=
  match blks n x 0 with
  | none => none
  | some (bs, z) => if z = x.length ∧ okL none bs = true then some bs else none
theorem svF_some {x : Str} {n : Nat} {bs : List Bk} : svF x n = some bs ↔ gdB x bs ∧ bs.length = n := by
  unfold svF
  constructor
  · intro h
    split at h
    · cases h
    · rename_i cs z hz
      split at h
      · rename_i hc
        cases h
        have hl := blks_len hz
        exact ⟨⟨by rw [hl, hz, hc.1], hc.2⟩, hl⟩
      · cases h
  · rintro ⟨⟨h1, h2⟩, rfl⟩
    rw [h1]
    exact if_pos ⟨rfl, h2⟩
theorem svF_none {x : Str} {n : Nat} (h : ∀ bs, bs.length = n → ¬ gdB x bs) : svF x n = none := by
  cases hs : svF x n with
  | none => rfl
  | some bs =>
    obtain ⟨h1, h2⟩ := svF_some.mp hs
    exact absurd h1 (h bs h2)
theorem q_forRm {ta : TA} {j : Nat} {n : Int} {σ : L2.St} {H : Hp} {D : Ends} {tu tz : TS} (h : EvA ta σ H [.int n]) (hn : -1 ≤ n ∧ n ≤ 100000) (Pv : Nat → L2.St → Hp → Prop) (h0 : ∀ H1, Ex H H1 → Pv 0 σ H1)
    (hs : ∀ (i : Nat) σ' H', (i : Int) < n → Pv i σ' H' → tu { D with nx := Pv (i + 1), ct := Pv (i + 1), bk := tz D } (σ'.set j (some (.int (i : Int)))) H') (hd : ∀ σ' H', Pv n.toNat σ' H' → tz D σ' H') : tSeq (tFor (iRng1 ta) (gName j) tu) tz D σ H :=
  h H (Ex.refl H) _ fun H1 e => ⟨n, rfl, by omega, by omega, for_range (lo := 0) (n := n.toNat) Pv (h0 H1 e) (fun i σ' H' hi p => by
    have e0 : (0 : Int) + (i : Int) = (i : Int) := Int.zero_add _
    rw [e0]
    exact hs i σ' H' (by omega) p) hd⟩
def tot0 (bs : List Bk) : Int := match lstB none bs with
  | none => 0
  | some b => (b.t : Int)
def las0 (bs : List Bk) : Int := match lstB none bs with
  | none => 0
  | some b => (b.e : Int)
theorem lst_ne : ∀ {bs : List Bk} {p : Option Bk}, bs ≠ [] → ∃ b, lstB p bs = some b
  | [], _, h => absurd rfl h
  | [b], _, _ => ⟨b, rfl⟩
  | d :: c :: r, _, _ => lst_ne (bs := c :: r) (p := some d) (fun h => nomatch h)
def LbAt (H : Hp) (v : V) : Option (Bk × Nat) → Prop
  | none => v = .non
  | some (b, a') => ∃ u hd, v = .ref u ∧ H u = some (.tup [.ref hd, .str b.s, .int (a' : Int)]) ∧ H hd = some (.tup [.int (b.a : Int), .int (b.e : Int), .int (b.t : Int)])
def spLb : Sp := fun vs H Q _ => ∃ (x : Str) (a : Nat), vs = [.str x, .int (a : Int)] ∧ x.length ≤ 100000 ∧ a ≤ x.length ∧ ∀ v H', Ex H H' → LbAt H' v (pcF x a) → Q v H'
def PtAt (H : Hp) (v : V) (bs : List Bk) : Prop := ∃ u l ys, v = .ref u ∧ H u = some (.tup [totV bs, .ref l]) ∧ H l = some (.lst ys) ∧ Rel (PcAt H) ys bs
def OPtAt (H : Hp) (v : V) : Option (List Bk) → Prop
  | none => v = .non
  | some bs => PtAt H v bs
def spSv : Sp := fun vs H Q _ => ∃ (x : Str) (n : Nat), vs = [.str x, .int (n : Int)] ∧ x.length ≤ 100000 ∧ 1 ≤ n ∧ n ≤ 100000 ∧ ∀ v H', Ex H H' → OPtAt H' v (svF x n) → Q v H'
section
variable {P : Program} {w : World} {K : PySem.W.Frag} {mg : Str → Option Value} {base : Heap} {f DP DV DH : Addr} {fd : FuncData} {k : Nat}
theorem ok_law_block (T : Mg mg) (c_law_head : Call P w K mg base 2 "_law_head" ["word"] spHea) (F : FnP K "_law_block" s_law_block f fd) (gm : mg "_law_block" = some (.ref f)) : Call P w K mg base 3 "_law_block" ["letters", "spot"] spLb := by
  refine mk F gm (fun _ _ _ _ _ _ us hl => match us, hl with | [_, _], _ => rfl) (fun _ _ _ _ _ _ us hl => match us, hl with | [_, _], _ => rfl) sc_law_block (fun vs H Q E h => ?_) (fun cdv A outer s H vs Q E hr h => ?_)
  · obtain ⟨x, a, rfl, _⟩ := h
    rfl
  · obtain ⟨x, a, rfl, hx, ha, q⟩ := h
    refine ⟨_, (pss_cons (ps_set (i := 2) sc_law_block.nd rfl (Or.inl rfl) (pe_bm PySem.F.plainAttrs_str PySem.F.slot_str_find PySem.F.type_str_find mt_find3 (pv 0) (pa_cons pe_str (pa_cons (pv 1) pa_nil))))
    (pss_cons (ps_if (PW.pt (pw_or (pt_cmpR op_lt (pv 2) pe_int (nomark _)) (pw_or1 (pt_cmpR op_ne (pe_slice sl_str (pv 0) (po_some (pv 1)) (po_some (pe_op op_add (pv 1) pe_int))) pe_str (nomark _)))))
      (pss_one (ps_ret pe_non))
      pss_nil)
    (pss_cons (ps_set (i := 3) sc_law_block.nd rfl (Or.inl rfl) (pe_f c_law_head hr (by decide) rfl (pa_cons (pe_slice sl_str (pv 0) (po_some (pe_op op_add (pv 1) pe_int)) (po_some (pv 2))) pa_nil)))
    (pss_cons (ps_if (pt_cmpR op_isN1 (pv 3) pe_non (nomark _))
      (pss_one (ps_ret pe_non))
      pss_nil)
    (pss_cons (ps_set (i := 4) sc_law_block.nd rfl (Or.inl rfl) (pe_op op_add (pe_op op_sub (pe_op op_add (pe_op op_add (pv 2) pe_int) (pe_ix ix_tup (pv 3) pe_int (fun _ _ => rfl))) (pe_ix ix_tup (pv 3) pe_int (fun _ _ => rfl))) pe_int))
    (pss_cons (ps_if (pt_cmpR op_ne (pe_slice sl_str (pv 0) (po_some (pv 4)) (po_some (pe_op op_add (pv 4) pe_int))) pe_str (nomark _))
      (pss_one (ps_ret pe_non))
      pss_nil)
    (pss_one (ps_ret (pe_tup (pa_cons (pv 3) (pa_cons (pe_slice sl_str (pv 0) (po_some (pe_op op_add (pv 2) pe_int)) (po_some (pv 4))) (pa_cons (pe_op op_add (pv 4) pe_int) pa_nil)))))))))))), ?_⟩
    have qn : ∀ Hx, Ex H Hx → pcF x a = none → Q .non Hx := fun Hx e h => q .non Hx e (by rw [h]; rfl)
    have hn : hB x a = none → pcF x a = none := fun h => by unfold pcF; rw [h]
    refine q_asg (v := .int (ixV (stopN x a))) (ev_is (ev_find3 (ev_var rfl) (ea_cons ev_c (ea_cons (ev_var rfl) ea_nil))) (by rw [find3_ix])) fun H1 e1 => ?_
    refine q_when (b := decide (ixV (stopN x a) < 0) || !decide (cutS x (some (a : Int)) (some ((a : Int) + 5)) = ("part " : Str))) (et_or (et_test (ev_op (ev_var rfl) ev_c rv_I0)) fun _ => et_test (ev_op (ev_slS (ev_var rfl) (eo_some (ev_var rfl)) (eo_some (ev_op (ev_var rfl) ev_c rv_I0)) hx) ev_c rv_neS)) (fun hb H2 e2 => s_ret ev_c fun H3 e3 => qn H3 ((e1.trans e2).trans e3) (hn ?_)) (fun hb H2 e2 => ?_)
    · unfold hB
      cases hs : stopN x a with
      | none => rfl
      | some s =>
        rw [hs] at hb
        have hb : (decide ((s : Int) < 0) || !decide (cutS x (some (a : Int)) (some ((a : Int) + 5)) = ("part " : Str))) = true := hb
        rw [Bool.or_eq_true, decide_eq_true_eq, Bool.not_eq_true', decide_eq_false_iff_not] at hb
        exact if_neg (hb.resolve_left (by omega))
    · cases hs : stopN x a with
      | none => rw [hs] at hb; cases hb
      | some s =>
        rw [hs] at hb
        have hb : (decide ((s : Int) < 0) || !decide (cutS x (some (a : Int)) (some ((a : Int) + 5)) = ("part " : Str))) = false := hb
        rw [Bool.or_eq_false_iff, Bool.not_eq_false', decide_eq_true_eq] at hb
        have hB2 : hB x a = (extF (hdT x a s)).map (fun h => (h, s + 1)) := by
          unfold hB
          rw [hs]
          exact if_pos hb.2
        show tSeq _ _ _ [some (.str x), some (.int (a : Int)), some (.int (s : Int)), none, none] H2
        have hl := hd_len x a s
        refine q_asgR (rd_call (Q := fun v H => _) (ea_cons (ev_slS (ev_var rfl) (eo_some (ev_op (ev_var rfl) ev_c rv_I0)) (eo_some (ev_var rfl)) hx) ea_nil) fun H3 e3 => ⟨_, rfl, by rw [cut_hd]; omega, fun v H4 e4 hv => ?_⟩)
        rw [cut_hd] at hv
        have e04 := ((e1.trans e2).trans e3).trans e4
        cases he : extF (hdT x a s) with
        | none =>
          rw [he] at hv hB2
          cases (show v = .non from hv)
          exact q_when (b := true) (et_is (et_test (ev_op (ev_var rfl) ev_c rv_isN)) rfl) (fun _ H5 e5 => s_ret ev_c fun H6 e6 => qn H6 ((e04.trans e5).trans e6) (hn hB2)) (fun h => nomatch h)
        | some o =>
          obtain ⟨sa, eb, t⟩ := o
          rw [he] at hv hB2
          have hB2 : hB x a = some ((sa, eb, t), s + 1) := hB2
          obtain ⟨p, rfl, hp⟩ := hv
          obtain ⟨hse, het, hak, hkl⟩ := hB_some hB2
          refine q_when (b := false) (et_is (et_test (ev_op (ev_var rfl) ev_c rv_isN)) rfl) (fun h => nomatch h) (fun _ H5 e5 => ?_)
          have hp5 := e5 _ _ hp
          obtain ⟨n, hnn⟩ : ∃ n, n = s + 1 + (eb + 1 - sa) := ⟨_, rfl⟩
          refine q_asg (v := .int (n : Int)) (ev_is (ev_op (ev_op (ev_op (ev_op (ev_var rfl) ev_c rv_I0) (ev_ixT (ev_var rfl) ev_c hp5 (atI_nat (j := 1) rfl)) rv_I0) (ev_ixT (ev_var rfl) ev_c hp5 (atI_nat (j := 0) rfl)) rv_I0) ev_c rv_I0) (congrArg V.int (by omega))) fun H6 e6 => ?_
          have hpc : pcF x a = if cutS x (some (n : Int)) (some ((n : Int) + 1)) = ("\n" : Str) then some (⟨sa, eb, t, txT x (s + 1) n⟩, n + 1) else none := by
            unfold pcF
            rw [hB2, hnn]
          refine q_when (b := !decide (cutS x (some (n : Int)) (some ((n : Int) + 1)) = ("\n" : Str))) (et_test (ev_op (ev_slS (ev_var rfl) (eo_some (ev_var rfl)) (eo_some (ev_op (ev_var rfl) ev_c rv_I0)) hx) ev_c rv_neS)) (fun hb H7 e7 => ?_) (fun hb H7 e7 => ?_)
          · refine s_ret ev_c fun H8 e8 => qn H8 (((e04.trans e5).trans e6).trans (e7.trans e8)) ?_
            rw [hpc, if_neg (of_decide_eq_false ((Bool.not_eq_true' _).mp hb))]
          · rw [if_pos (of_decide_eq_true ((Bool.not_eq_false' _).mp hb))] at hpc
            refine s_retU (eu_tup (ea_cons (ev_var rfl) (ea_cons (ev_slS (ev_var rfl) (eo_some (ev_op (ev_var rfl) ev_c rv_I0)) (eo_some (ev_var rfl)) hx) (ea_cons (ev_op (ev_var rfl) ev_c rv_I0) ea_nil))) (by show 3 ≤ 100000; decide)) fun u H8 nu e8 h8 => q _ H8 (((e04.trans e5).trans e6).trans (e7.trans e8)) ?_
            rw [hpc]
            refine ⟨u, p, rfl, ?_, ((e6.trans e7).trans e8) _ _ hp5⟩
            rw [h8, show ((s : Int) + 1) = ((s + 1 : Nat) : Int) from rfl, cut_mid]
            rfl
theorem ok_law_several (T : Mg mg) (c_law_block : Call P w K mg base 3 "_law_block" ["letters", "spot"] spLb) (F : FnP K "_law_several" s_law_several f fd) (gm : mg "_law_several" = some (.ref f)) : Call P w K mg base 4 "_law_several" ["letters", "count"] spSv := by
  refine mk F gm (fun _ _ _ _ _ _ us hl => match us, hl with | [_, _], _ => rfl) (fun _ _ _ _ _ _ us hl => match us, hl with | [_, _], _ => rfl) sc_law_several (fun vs H Q E h => ?_) (fun cdv A outer s H vs Q E hr h => ?_)
  · obtain ⟨x, n, rfl, _⟩ := h
    rfl
  · obtain ⟨x, n, rfl, hx, h1, hn, q⟩ := h
    refine ⟨_, (pss_cons (ps_set (i := 2) sc_law_several.nd rfl (Or.inl rfl) (pe_lst pa_nil))
    (pss_cons (ps_set (i := 3) sc_law_several.nd rfl (Or.inl rfl) pe_int)
    (pss_cons (ps_set (i := 4) sc_law_several.nd rfl (Or.inl rfl) pe_int)
    (pss_cons (ps_set (i := 5) sc_law_several.nd rfl (Or.inl rfl) pe_int)
    (pss_cons (ps_for PassesOwn.never rfl (pi_range1 rfl T.range (pa_cons (pv 1) pa_nil)) (pg_name (i := 6) sc_law_several.nd rfl (Or.inl rfl))
      (pss_cons (ps_set (i := 7) sc_law_several.nd rfl (Or.inl rfl) (pe_f c_law_block hr (by decide) rfl (pa_cons (pv 0) (pa_cons (pv 5) pa_nil))))
      (pss_cons (ps_if (pt_cmpR op_isN1 (pv 7) pe_non (nomark _))
        (pss_one (ps_ret pe_non))
        pss_nil)
      (pss_cons (ps_set (i := 8) sc_law_several.nd rfl (Or.inl rfl) (pe_ix ix_tup (pv 7) pe_int (fun _ _ => rfl)))
      (pss_cons (ps_if (PW.pt (pw_and (pt_cmpR op_gt (pv 6) pe_int (nomark _)) (pw_and1 (PW.pt (pw_or (pt_cmpR op_ne (pe_ix ix_tup (pv 8) pe_int (fun _ _ => rfl)) (pv 3) (nomark _)) (pw_or1 (pt_cmpR op_le (pe_ix ix_tup (pv 8) pe_int (fun _ _ => rfl)) (pv 4) (nomark _))))))))
        (pss_one (ps_ret pe_non))
        pss_nil)
      (pss_cons (ps_expr (pe_bm PySem.F.plainAttrs_list PySem.F.slot_list_append PySem.F.type_list_append mt_append (pv 2) (pa_cons (pe_tup (pa_cons (pe_ix ix_tup (pv 8) pe_int (fun _ _ => rfl)) (pa_cons (pe_ix ix_tup (pv 7) pe_int (fun _ _ => rfl)) pa_nil))) pa_nil)))
      (pss_cons (ps_set (i := 4) sc_law_several.nd rfl (Or.inl rfl) (pe_ix ix_tup (pv 8) pe_int (fun _ _ => rfl)))
      (pss_cons (ps_set (i := 3) sc_law_several.nd rfl (Or.inl rfl) (pe_ix ix_tup (pv 8) pe_int (fun _ _ => rfl)))
      (pss_one (ps_set (i := 5) sc_law_several.nd rfl (Or.inl rfl) (pe_ix ix_tup (pv 7) pe_int (fun _ _ => rfl))))))))))))
    (pss_cons (ps_if (pt_cmpR op_ne (pv 5) (pe_callB cz_len (by rfl) T.len (by decide +kernel) (pa_cons (pv 0) pa_nil)) (nomark _))
      (pss_one (ps_ret pe_non))
      pss_nil)
    (pss_one (ps_ret (pe_tup (pa_cons (pv 3) (pa_cons (pv 2) pa_nil))))))))))), ?_⟩
    have qn : ∀ Hx, Ex H Hx → svF x n = none → Q .non Hx := fun Hx e h => q .non Hx e (by rw [h]; rfl)
    refine q_asgL (el_lst ea_nil (by decide)) fun lp H1 np e1 hp => ?_
    refine q_asg (v := .int 0) ev_c fun H2 e2 => ?_
    refine q_asg (v := .int 0) ev_c fun H3 e3 => ?_
    refine q_asg (v := .int 0) ev_c fun H4 e4 => ?_
    have e04 := ((e1.trans e2).trans e3).trans e4
    have hp4 := ((e2.trans e3).trans e4) _ _ hp
    clear e1 e2 e3 e4 hp
    refine q_forRm (n := (n : Int)) (ea_cons (ev_var rfl) ea_nil) (by omega) (fun i σ' H' => ∃ (bs : List Bk) (a : Nat) (ys : List V) (x6 x7 x8 : Option V), σ' = [some (.str x), some (.int (n : Int)), some (.ref lp), some (.int (tot0 bs)), some (.int (las0 bs)), some (.int (a : Int)), x6, x7, x8] ∧ bs.length = i ∧ blks bs.length x 0 = some (bs, a) ∧ okL none bs = true ∧ a ≤ x.length ∧ Ex H H' ∧ H' lp = some (.lst ys) ∧ Rel (PcAt H') ys bs) (fun H5 e5 => ⟨[], 0, [], none, none, none, rfl, rfl, rfl, rfl, Nat.zero_le _, e04.trans e5, e5 _ _ hp4, Rel.nil⟩) (fun i σ' H' hi pv => ?_) (fun σ' H' pv => ?_)
    · obtain ⟨bs, a, ys, x6, x7, x8, rfl, hli, hbk, hok, hal, e0, hlp, hrel⟩ := pv
      have hin : bs.length < n := by omega
      have gone : (pcF x a = none ∨ ∃ b a', pcF x a = some (b, a') ∧ okN (lstB none bs) b = false) → svF x n = none := fun h => svF_none fun cs hc => fail_gt hbk h cs (by omega)
      refine q_asgR (rd_call (Q := fun v H => _) (ea_cons (ev_var rfl) (ea_cons (ev_var rfl) ea_nil)) fun H6 e6 => ⟨x, a, rfl, hx, hal, fun v H7 e7 hv => ?_⟩)
      have e07 := (e0.trans e6).trans e7
      cases hpc : pcF x a with
      | none =>
        rw [hpc] at hv
        cases (show v = .non from hv)
        exact q_when (b := true) (et_is (et_test (ev_op (ev_var rfl) ev_c rv_isN)) rfl) (fun _ H8 e8 => s_ret ev_c fun H9 e9 => qn H9 ((e07.trans e8).trans e9) (gone (.inl hpc))) (fun h => nomatch h)
      | some ba =>
        obtain ⟨b, a'⟩ := ba
        rw [hpc] at hv
        obtain ⟨u, hd, rfl, hu, hhd⟩ := hv
        obtain ⟨hab, hbt, haa, hal'⟩ := pcF_some hpc
        refine q_when (b := false) (et_is (et_test (ev_op (ev_var rfl) ev_c rv_isN)) rfl) (fun h => nomatch h) (fun _ H8 e8 => ?_)
        have hu8 := e8 _ _ hu
        refine q_asg (v := .ref hd) (ev_ixT (ev_var rfl) ev_c hu8 (atI_nat (j := 0) rfl)) fun H9 e9 => ?_
        have hu9 := e9 _ _ hu8
        have hd9 := (e8.trans e9) _ _ hhd
        show tSeq _ _ _ [some (.str x), some (.int (n : Int)), some (.ref lp), some (.int (tot0 bs)), some (.int (las0 bs)), some (.int (a : Int)), some (.int (i : Int)), some (.ref u), some (.ref hd)] H9
        have hcond : (decide ((0 : Int) < (i : Int)) && (!decide ((b.t : Int) = tot0 bs) || decide ((b.a : Int) ≤ las0 bs))) = !okN (lstB none bs) b := by
          unfold tot0 las0
          cases hl : lstB none bs with
          | none =>
            have hb0 : bs = [] := by
              cases bs with
              | nil => rfl
              | cons c r =>
                obtain ⟨y, hy⟩ := lst_ne (bs := c :: r) (p := none) (fun h => nomatch h)
                rw [hy] at hl; cases hl
            rw [hb0] at hli
            have hi0 : i = 0 := hli.symm
            rw [hi0]
            rfl
          | some l =>
            have hi1 : 0 < i := by
              cases bs with
              | nil => cases hl
              | cons c r => rw [← hli]; exact Nat.succ_pos _
            show (decide ((0 : Int) < (i : Int)) && (!decide ((b.t : Int) = (l.t : Int)) || decide ((b.a : Int) ≤ (l.e : Int)))) = !(decide (l.e < b.a) && decide (l.t = b.t))
            rw [decide_eq_true (by omega : (0 : Int) < (i : Int)), Bool.true_and, Bool.not_and, Bool.or_comm, ← decide_not, ← decide_not, ← decide_not]
            congr 1
            · exact decide_eq_decide.mpr (by omega)
            · exact decide_eq_decide.mpr (by omega)
        refine q_when (b := decide ((0 : Int) < (i : Int)) && (!decide ((b.t : Int) = tot0 bs) || decide ((b.a : Int) ≤ las0 bs))) (et_and (et_test (ev_op (ev_var rfl) ev_c rv_I0)) fun _ => et_or (et_test (ev_op (ev_ixT (ev_var rfl) ev_c hd9 (atI_nat (j := 2) rfl)) (ev_var rfl) rv_neI)) fun _ => et_test (ev_op (ev_ixT (ev_var rfl) ev_c hd9 (atI_nat (j := 0) rfl)) (ev_var rfl) rv_I0)) (fun hb H10 e10 => ?_) (fun hb H10 e10 => ?_)
        · rw [hcond] at hb
          exact s_ret ev_c fun H11 e11 => qn H11 (((e07.trans e8).trans e9).trans (e10.trans e11)) (gone (.inr ⟨b, a', hpc, (Bool.not_eq_true' _).mp hb⟩))
        · rw [hcond] at hb
          have hkN := (Bool.not_eq_false' _).mp hb
          have e010 := ((e07.trans e8).trans e9).trans e10
          have hH10 := (((e6.trans e7).trans e8).trans e9).trans e10
          have hlp10 := hH10 _ _ hlp
          have hu10 := e10 _ _ hu9
          have hd10 := e10 _ _ hd9
          have hyl : ys.length ≤ a := by
            rw [hrel.1]
            have := blks_bd hbk (Nat.zero_le _)
            omega
          refine q_apC rfl hlp10 ?_
          refine (eu_tup (ea_cons (ev_ixT (ev_var rfl) ev_c hd10 (atI_nat (j := 0) rfl)) (ea_cons (ev_ixT (ev_var rfl) ev_c hu10 (atI_nat (j := 1) rfl)) ea_nil)) (by show 2 ≤ 100000; decide)) H10 (Ex.refl H10) _ fun pt H11 npt e11 hpt => ⟨lp, ys, .ref pt, rfl, rfl, e11 _ _ hlp10, sz_lt (by omega), ?_⟩
          have e011 : Ex H (upd H11 lp (.lst (ys ++ [.ref pt]))) := fun c o hc => by
            rw [upd_ne (ne_of_none hc np)]
            exact (e010.trans e11) _ _ hc
          have hlpx : (upd H11 lp (.lst (ys ++ [.ref pt]))) lp = some (.lst (ys ++ [.ref pt])) := upd_same
          have hlp11 := e11 _ _ hlp10
          have hx1 : ∀ {q : Addr} {zs : List V}, H11 q = some (.tup zs) → (upd H11 lp (.lst (ys ++ [.ref pt]))) q = some (.tup zs) := fun {q zs} hq => by
            rw [upd_ne (fun e => by rw [e, hlp11] at hq; cases hq)]
            exact hq
          have htx : ∀ {v : V} {zs : List V}, TupAt H11 v zs → TupAt (upd H11 lp (.lst (ys ++ [.ref pt]))) v zs := fun {v zs} h => by
            obtain ⟨q, rfl, hq⟩ := h
            exact ⟨q, rfl, hx1 hq⟩
          have hrx : Rel (PcAt (upd H11 lp (.lst (ys ++ [.ref pt])))) (ys ++ [.ref pt]) (bs ++ [b]) := Rel.snoc (hrel.mono fun _ _ m => htx (TupAt.ex m (hH10.trans e11))) (htx ⟨pt, rfl, hpt⟩)
          have hux := hx1 (e11 _ _ hu10)
          have hdx := hx1 (e11 _ _ hd10)
          generalize upd H11 lp (.lst (ys ++ [.ref pt])) = HX at e011 hlpx hrx hux hdx
          refine q_asg (v := .int (b.e : Int)) (ev_ixT (ev_var rfl) ev_c hdx (atI_nat (j := 1) rfl)) fun H12 e12 => ?_
          refine q_asg (v := .int (b.t : Int)) (ev_ixT (ev_var rfl) ev_c (e12 _ _ hdx) (atI_nat (j := 2) rfl)) fun H13 e13 => ?_
          refine s_asg (v := .int (a' : Int)) (ev_ixT (ev_var rfl) ev_c ((e12.trans e13) _ _ hux) (atI_nat (j := 2) rfl)) fun H14 e14 => ?_
          have eX := (e12.trans e13).trans e14
          have lb : lstB none (bs ++ [b]) = some b := by rw [lstB_app]; rfl
          have hr14 : Rel (PcAt H14) (ys ++ [.ref pt]) (bs ++ [b]) := hrx.mono fun _ _ m => TupAt.ex m eX
          refine ⟨bs ++ [b], a', ys ++ [.ref pt], some (.int (i : Int)), some (.ref u), some (.ref hd), ?_, by rw [List.length_append, hli]; rfl, ?_, ?_, hal', e011.trans eX, eX _ _ hlpx, hr14⟩
          · have t1 : tot0 (bs ++ [b]) = (b.t : Int) := by unfold tot0; rw [lb]
            have t2 : las0 (bs ++ [b]) = (b.e : Int) := by unfold las0; rw [lb]
            rw [t1, t2]
            rfl
          · rw [List.length_append, blks_add, hbk]
            show ((match pcF x a with | none => none | some (b, a') => (blks 0 x a').map fun r => (b :: r.1, r.2) : Option (List Bk × Nat))).map _ = _
            rw [hpc]
            rfl
          · rw [okL_app, hok]
            show (true && (okN (lstB none bs) _ && true)) = true
            rw [hkN]
            rfl
    · obtain ⟨bs, a, ys, x6, x7, x8, rfl, hli, hbk, hok, hal, e0, hlp, hrel⟩ := pv
      have hli : bs.length = n := by rw [hli]; omega
      refine q_when (b := !decide ((a : Int) = (x.length : Int))) (et_test (ev_op (ev_var rfl) (ev_lenStr (ev_var rfl) hx) rv_neI)) (fun hb H5 e5 => ?_) (fun hb H5 e5 => ?_)
      · refine s_ret ev_c fun H6 e6 => qn H6 ((e0.trans e5).trans e6) (svF_none fun cs hc g => ?_)
        have hne := of_decide_eq_false ((Bool.not_eq_true' _).mp hb)
        have g1 := g.1
        rw [hc, ← hli, hbk] at g1
        cases g1
        exact hne rfl
      · have haa : a = x.length := by have := of_decide_eq_true ((Bool.not_eq_false' _).mp hb); omega
        subst haa
        have hs : svF x n = some bs := svF_some.mpr ⟨⟨hbk, hok⟩, hli⟩
        have ht : V.int (tot0 bs) = totV bs := by
          obtain ⟨y, hy⟩ := lst_ne (bs := bs) (p := none) (fun h => by rw [h] at hli; rw [← hli] at h1; exact absurd h1 (by decide))
          unfold tot0 totV
          rw [hy]
        refine s_retU (eu_tup (ea_cons (ev_var rfl) (ea_cons (ev_var rfl) ea_nil)) (by show 2 ≤ 100000; decide)) fun p H6 np6 e6 h6 => q _ H6 ((e0.trans e5).trans e6) ?_
        rw [hs]
        exact ⟨p, lp, ys, rfl, by rw [h6, ht], (e5.trans e6) _ _ hlp, hrel.mono fun _ _ m => TupAt.ex m (e5.trans e6)⟩
end
end Z
set_option maxHeartbeats 4000000
namespace Z
open PySem PySem.Spec PyProof.Rows L2 TL Evl NdefX
/-! ### the parts read -/
theorem rd_lstB {ta : TA} {σ : L2.St} {H : Hp} {Q : VK} (h : ta σ H fun vs H1 => vs.length ≤ sizeLine ∧ ∀ p, H1 p = none → Q (.ref p) (upd H1 p (.lst vs))) : tLst ta σ H Q := h
theorem rd_onePt {ta tb tx : TE} {σ : L2.St} {H : Hp} {Q : VK} {a e t : Nat} {x : Str} (ha : Ev ta σ H (.int (t : Int))) (hb : Ev tb σ H (.int (a : Int))) (hx : Ev tx σ H (.str x)) (k : ∀ v H', Ex H H' → PtAt H' v [⟨a, e, t, x⟩] → Q v H') : tTup (tCons ta (tCons (tLst (tCons (tTup (tCons tb (tCons tx tNil))) tNil)) tNil)) σ H Q := by
  refine rd_consE ha fun H1 e1 => rd_consR (rd_lstB (rd_consR ((eu_tup (ea_cons (fun H2 e2 Q q => hb H2 (e1.trans e2) Q q) (ea_cons (fun H2 e2 Q q => hx H2 (e1.trans e2) Q q) ea_nil)) (by show 2 ≤ 100000; decide)) H1 (Ex.refl H1) _ fun pt H2 npt e2 hpt => rd_nil ⟨sz_of (by show 1 ≤ 100000; decide), fun pl npl => rd_nil ⟨sz_of (by show 2 ≤ 100000; decide), fun pu npu => ?_⟩⟩)))
  have e3 := Ex.new npl (o := .lst [.ref pt])
  have e4 := Ex.new npu (o := .tup [.int (t : Int), .ref pl])
  refine k _ _ ((e1.trans e2).trans (e3.trans e4)) ⟨pu, pl, [.ref pt], rfl, upd_same, e4 _ _ upd_same, ⟨rfl, fun i y o hy ho => ?_⟩⟩
  match i, hy, ho with
  | 0, hy, ho =>
    cases hy
    cases ho
    exact ⟨pt, rfl, (e3.trans e4) _ _ hpt⟩
theorem vals_le {fs : Fs} {n : Str} (h : areB fs = true) : (valsF fs n).length ≤ 40 ∧ ∀ s ∈ valsF fs n, s.length ≤ 200 := by
  obtain ⟨h1, h2⟩ := areB_val h
  unfold valsF
  refine ⟨by rw [List.length_map]; exact Nat.le_trans (List.length_filter_le _ _) h1, fun s hs => ?_⟩
  obtain ⟨x, hx, rfl⟩ := List.mem_map.mp hs
  exact (h2 x (List.mem_filter.mp hx).1).2
theorem vals_take {fs : Fs} {n : Str} {i : Nat} {o : Str × Str} (h : fs[i]? = some o) : valsF (fs.take (i + 1)) n = valsF (fs.take i) n ++ (if decide (o.1 = n) = true then [o.2] else []) := by
  unfold valsF
  rw [List.take_add_one, h, List.filter_append, List.map_append]
  show _ ++ List.map Prod.snd (List.filter _ [o]) = _
  rw [List.filter_cons]
  by_cases h : o.1 = n
  · rw [decide_eq_true h]; rfl
  · rw [decide_eq_false h]; rfl
section
variable {K : PySem.W.Frag} {C RQ RS : Addr} {σ : L2.St} {H : Hp} {te tn : TE} {v : V} {w : Wl} {l : Addr} {n : Str} {E E1 E2 : XK}
theorem el_avC (hm : MeC C H v w l) (hz : w.fs.length ≤ 40) (h : Ev te σ H v) (hn : Ev tn σ H (.str n)) : EvL (tMeth C "all_values" (spAv C) [] E te (tCons tn tNil)) σ H ((valsF w.fs n).map V.str) := fun H1 e Q q => h H1 e _ fun H2 e2 => by
  obtain ⟨a, dx, rfl, ha, hf⟩ := id (hm.ex (e.trans e2))
  exact ⟨a, dx, _, rfl, ha, me_no _ (by simp), hn H2 (e.trans e2) _ fun H3 e3 => ⟨.ref a, n, w, l, rfl, hm.ex ((e.trans e2).trans e3), hz, fun p H4 np e4 hp => q p H4 (fresh_back (e2.trans e3) np) ((e2.trans e3).trans e4) hp⟩⟩
end
theorem rel_strB {ys : List V} {ss : List Str} (h : Rel (fun v s => v = V.str s) ys ss) : ys = ss.map V.str := by
  refine List.ext_getElem (by rw [h.1, List.length_map]) fun i h1 h2 => ?_
  rw [List.getElem_map]
  rw [List.length_map] at h2
  exact h.2 i _ _ (List.getElem?_eq_getElem h1) (List.getElem?_eq_getElem h2)
theorem el_vals {K : PySem.W.Frag} {σ : L2.St} {H : Hp} {tl : TE} {j : Nat} {l : Addr} {fs : Fs} {n : Str} (hv : Ev tl σ H (.ref l)) (hf : FsAt H l fs) (hz : fs.length ≤ 40000) (hw : ∀ x, wipe ((wipe σ [j]).set j (some x)) [j] = wipe σ [j]) (h1 : ∀ x, ((wipe σ [j]).set j (some x))[j]? = some (some x)) :
    EvL (tLc (iList K tl) (gName j) (tTest (tOp rEq (tOp (rIxT K) (tVar j) (tC (.int 0))) (tC (.str n)))) (tOp (rIxT K) (tVar j) (tC (.int 1))) [j]) σ H ((valsF fs n).map V.str) := fun H1 e Q q => by
  refine hv H1 e _ fun H2 e2 => ?_
  obtain ⟨xs, hx, hr1⟩ := hf.ex (e.trans e2)
  refine ⟨l, rfl, ⟨_, sq_of hx⟩, fun D hD => ?_⟩
  refine lc_rel (α := Str) (fun i => valsF (fs.take i) n) (fun _ v s => v = .str s) (fun _ _ _ _ _ _ h => h) (sq_of hx) hD rfl (by rw [hr1.1]; omega) (fun i x H3 hi e3 k k0 hk hk0 => ?_) (fun H3 ys e3 hy hrel => ?_)
  · obtain ⟨o, ho, t, rfl, ht⟩ := hr1.get hi
    have ht3 := e3 _ _ ht
    refine ⟨hw _, ?_⟩
    refine (et_test (ev_op (ev_ixT (ev_var (h1 _)) ev_c ht3 (atI_nat (j := 0) rfl)) ev_c rv_eqS)) H3 (Ex.refl H3) _ fun H4 e4 => ?_
    cases hb : decide (o.1 = n) with
    | true =>
      rw [if_pos rfl]
      exact (ev_ixT (ev_var (h1 _)) ev_c (e4 _ _ ht3) (atI_nat (j := 1) rfl)) H4 (Ex.refl H4) _ fun H5 e5 => hk _ H5 o.2 (e4.trans e5) (by rw [vals_take ho, hb]; rfl) rfl
    | false =>
      rw [if_neg Bool.false_ne_true]
      exact hk0 H4 e4 (by rw [vals_take ho, hb]; exact List.append_nil _)
  · rw [hr1.1, List.take_length] at hrel
    rw [rel_strB hrel] at hy
    exact q D H3 (fresh_back e2 hD) (e2.trans e3) hy
def sgF (z x : Str) : Option (List Bk) := match extF z with
  | none => none
  | some (s, e, t) => if x.length = e + 1 - s then some [⟨s, e, t, x⟩] else none
def rpF (fs : Fs) (x : Str) : Option (List Bk) :=
  if (valsF fs "part").length + (valsF fs "parts").length = 1 then
    match valsF fs "part", valsF fs "parts" with
    | z :: _, _ => sgF z x
    | [], z :: _ => match num z with
      | some n => if 2 ≤ n then svF x n else none
      | none => none
    | [], [] => none
  else none
theorem rp_one {fs : Fs} {x z : Str} (h : valsF fs "part" = [z]) (h2 : valsF fs "parts" = []) : rpF fs x = sgF z x := by
  unfold rpF
  rw [h, h2]
  rfl
theorem rp_many {fs : Fs} {x z : Str} (h : valsF fs "part" = []) (h2 : valsF fs "parts" = [z]) : rpF fs x = (match num z with | some n => if 2 ≤ n then svF x n else none | none => none) := by
  unfold rpF
  rw [h, h2]
  rfl
theorem one_of {a b : List Str} (h : a.length + b.length = 1) : (∃ z, a = [z] ∧ b = []) ∨ ∃ z, a = [] ∧ b = [z] := by
  cases a with
  | nil =>
    obtain ⟨z, hz⟩ := List.length_eq_one_iff.mp (show b.length = 1 by rw [List.length_nil] at h; omega)
    exact .inr ⟨z, rfl, hz⟩
  | cons z r =>
    rw [List.length_cons] at h
    have hr : r = [] := List.eq_nil_of_length_eq_zero (by omega)
    have hb : b = [] := List.eq_nil_of_length_eq_zero (by omega)
    exact .inl ⟨z, by rw [hr], hb⟩
def spSg (DP : Addr) : Sp := fun vs H Q E => ∃ z x : Str, vs = [.str z, .str x] ∧ z.length ≤ 100000 ∧ x.length ≤ 100000 ∧ (sgF z x = none → ∀ H', Ex H H' → E (.ref DP) none H') ∧ ∀ bs, sgF z x = some bs → ∀ v H', Ex H H' → PtAt H' v bs → Q v H'
def spRp (RS DP : Addr) : Sp := fun vs H Q E => ∃ v w l, vs = [v] ∧ MeC RS H v w l ∧ areB w.fs = true ∧ w.b.length ≤ 100000 ∧ (rpF w.fs w.b = none → ∀ H', Ex H H' → E (.ref DP) none H') ∧ ∀ bs, rpF w.fs w.b = some bs → ∀ v H', Ex H H' → PtAt H' v bs → Q v H'
def spRd : Sp := fun vs H Q _ => ∃ (l : Addr) (fs : Fs) (x : Str), vs = [.ref l, .str x] ∧ FsAt H l fs ∧ areB fs = true ∧ x.length ≤ 100000 ∧ ∀ v H', Ex H H' → OPtAt H' v (rpF fs x) → Q v H'
section
variable {P : Program} {w : World} {K : PySem.W.Frag} {mg : Str → Option Value} {base : Heap} {f DP DV DH RS : Addr} {fd : FuncData} {k : Nat}
theorem ok_read_single (T : Mg mg) (WE : Wp K mg DP DV DH) (EF : Ef0 P w K mg base DP) (c_read_extent : Call P w K mg base 3 "read_extent" ["text"] spExt) (F : FnP K "read_single" s_read_single f fd) : FnOk P w K mg base (L2N.CX P w) 4 f fd ["text", "body"] (spSg DP) := by
  refine FunD.ok F sc_read_single (fun vs H Q E h => ?_) (fun cdv A outer s H vs Q E hr h => ?_)
  · obtain ⟨z, x, rfl, _⟩ := h
    rfl
  · obtain ⟨z, x, rfl, hz, hx, kf, kt⟩ := h
    refine ⟨_, (pss_cons (ps_set (i := 2) sc_read_single.nd rfl (Or.inl rfl) (pe_f c_read_extent hr (by decide) rfl (pa_cons (pv 0) pa_nil)))
    (pss_cons (ps_if (PW.pt (pw_or (pt_cmpR op_isN1 (pv 2) pe_non (nomark _)) (pw_or1 (pt_cmpR op_ne (pe_callB cz_len (by rfl) T.len (by decide +kernel) (pa_cons (pv 1) pa_nil)) (pe_op op_sub (pe_ix ix_tup (pv 2) pe_int (fun _ _ => rfl)) (pe_ix ix_tup (pv 2) pe_int (fun _ _ => rfl))) (nomark _)))))
      (pss_one (ps_raise0 EF rfl (L2N.takes_of rfl rfl rfl rfl) (hr.mono (by decide)) rfl WE.mF))
      pss_nil)
    (pss_one (ps_ret (pe_tup (pa_cons (pe_ix ix_tup (pv 2) pe_int (fun _ _ => rfl)) (pa_cons (pe_lst (pa_cons (pe_tup (pa_cons (pe_ix ix_tup (pv 2) pe_int (fun _ _ => rfl)) (pa_cons (pv 1) pa_nil))) pa_nil)) pa_nil))))))), ?_⟩
    refine q_asgR (rd_call (Q := fun v H => _) (ea_cons (ev_var rfl) ea_nil) fun H1 e1 => ⟨z, rfl, hz, fun v H2 e2 hv => ?_⟩)
    have e02 := e1.trans e2
    cases he : extF z with
    | none =>
      rw [he] at hv
      cases (show v = .non from hv)
      exact q_when (b := true) (et_is (et_or (a := true) (b := true) (et_is (et_test (ev_op (ev_var rfl) ev_c rv_isN)) rfl) (fun h => nomatch h)) rfl) (fun _ H3 e3 => ZX.mk_err0 fun H4 e4 => kf (by unfold sgF; rw [he]) H4 ((e02.trans e3).trans e4)) (fun h => nomatch h)
    | some o =>
      obtain ⟨a, b, t⟩ := o
      rw [he] at hv
      obtain ⟨p, rfl, hp⟩ := hv
      obtain ⟨hab, hbt⟩ := ext_le he
      refine q_when (b := !decide ((x.length : Int) = (b : Int) + 1 - (a : Int))) (et_is (et_or (a := false) (et_is (et_test (ev_op (ev_var rfl) ev_c rv_isN)) rfl) fun _ => et_test (ev_op (ev_lenStr (ev_var rfl) hx) (ev_op (ev_ixT (ev_var rfl) ev_c hp (atI_nat (j := 1) rfl)) (ev_ixT (ev_var rfl) ev_c hp (atI_nat (j := 0) rfl)) rv_I0) rv_neI)) (Bool.false_or _)) (fun hb H3 e3 => ZX.mk_err0 fun H4 e4 => kf ?_ H4 ((e02.trans e3).trans e4)) (fun hb H3 e3 => ?_)
      · have := of_decide_eq_false ((Bool.not_eq_true' _).mp hb)
        unfold sgF
        rw [he]
        exact if_neg (by omega)
      · have := of_decide_eq_true ((Bool.not_eq_false' _).mp hb)
        have hp3 := e3 _ _ hp
        refine g_ret (rd_onePt (e := b) (ev_ixT (ev_var rfl) ev_c hp3 (atI_nat (j := 2) rfl)) (ev_ixT (ev_var rfl) ev_c hp3 (atI_nat (j := 0) rfl)) (ev_var rfl) fun v H4 e4 hv => kt _ ?_ v H4 ((e02.trans e3).trans e4) hv)
        unfold sgF
        rw [he]
        exact if_pos (by omega)
theorem ok_read_parts (T : Mg mg) (WE : Wp K mg DP DV DH) (EF : Ef0 P w K mg base DP) (WR : Ws K mg RS) (AV : ∃ f fd, Meth K RS "all_values" f ∧ FnOk P w K mg base CX0 1 f fd ["self", "name"] (spAv RS) ∧ Binds K fd ["self", "name"] []) (c_read_number : Call P w K mg base 2 "read_number" ["text"] (sp1 numV))
    (RSg : CE P w K mg base 4 "read_single" ["text", "body"] (spSg DP)) (RB : CE P w K mg base 5 "read_blocks" ["body"] (spBs DP)) (F : FnP K "read_parts" s_read_parts f fd) : FnOk P w K mg base (L2N.CX P w) 6 f fd ["response"] (spRp RS DP) := by
  obtain ⟨fav, dav, mav, Fav, bav⟩ := AV
  obtain ⟨fS, dS, FS, mS, kpS, bS⟩ := RSg.ex
  obtain ⟨fB, dB, FB, mB, kpB, bB⟩ := RB.ex
  refine FunD.ok F sc_read_parts (fun vs H Q E h => ?_) (fun cdv A outer s H vs Q E hr h => ?_)
  · obtain ⟨v, w, l, rfl, _⟩ := h
    rfl
  · obtain ⟨v, wl, l, rfl, hm, hok, hx, kf, kt⟩ := h
    refine ⟨_, (pss_cons (ps_set (i := 1) sc_read_parts.nd rfl (Or.inl rfl) (pe_meth (pv 0) WR.cls mav Fav (hr.mono (by decide)) bav .nil pass0 (pa_cons pe_str pa_nil)))
    (pss_cons (ps_set (i := 2) sc_read_parts.nd rfl (Or.inl rfl) (pe_meth (pv 0) WR.cls mav Fav (hr.mono (by decide)) bav .nil pass0 (pa_cons pe_str pa_nil)))
    (pss_cons (ps_if (pt_cmpR op_ne (pe_op op_add (pe_callB call_len_seq (by rfl) T.len (by decide +kernel) (pa_cons (pv 1) pa_nil)) (pe_callB call_len_seq (by rfl) T.len (by decide +kernel) (pa_cons (pv 2) pa_nil))) pe_int (nomark _))
      (pss_one (ps_raise0 EF rfl (L2N.takes_of rfl rfl rfl rfl) (hr.mono (by decide)) rfl WE.mF))
      pss_nil)
    (pss_cons (ps_if (pt_truth (pv 1) (by intro _; rfl))
      (pss_one (ps_ret (pe_call (E := E) FS (hr.mono (by decide)) rfl mS kpS bS .nil (L2N.passes_call (L2N.takes_of rfl rfl rfl rfl) (fun _ _ _ _ h => h)) (pa_cons (pe_ix ix_list (pv 1) pe_int (fun _ _ => rfl)) (pa_cons (pe_fld (pv 0) rfl) pa_nil)))))
      pss_nil)
    (pss_cons (ps_asg (pe_call (E := E) FB (hr.mono (by decide)) rfl mB kpB bB .nil (L2N.passes_call (L2N.takes_of rfl rfl rfl rfl) (fun _ _ _ _ h => h)) (pa_cons (pe_fld (pv 0) rfl) pa_nil)) (pg_tup rfl (pgs_cons (pg_name (i := 3) sc_read_parts.nd rfl (Or.inl rfl)) (pgs_cons (pg_name (i := 4) sc_read_parts.nd rfl (Or.inl rfl)) pgs_nil))))
    (pss_cons (ps_if (PW.pt (pw_or (pt_cmpR op_lt (pe_callB call_len_seq (by rfl) T.len (by decide +kernel) (pa_cons (pv 4) pa_nil)) pe_int (nomark _)) (pw_or1 (pt_cmpR op_ne (pe_f c_read_number hr (by decide) rfl (pa_cons (pe_ix ix_list (pv 2) pe_int (fun _ _ => rfl)) pa_nil)) (pe_callB call_len_seq (by rfl) T.len (by decide +kernel) (pa_cons (pv 4) pa_nil)) (nomark _)))))
      (pss_one (ps_raise0 EF rfl (L2N.takes_of rfl rfl rfl rfl) (hr.mono (by decide)) rfl WE.mF))
      pss_nil)
    (pss_one (ps_ret (pe_tup (pa_cons (pv 3) (pa_cons (pv 4) pa_nil))))))))))), ?_⟩
    have hz := (areB_val hok).1
    obtain ⟨vl1, vl2⟩ := vals_le (n := "part") hok
    obtain ⟨vm1, vm2⟩ := vals_le (n := "parts") hok
    obtain ⟨am, dm, rfl, ham, hfm⟩ := id hm
    refine q_asgL (el_avC hm hz (ev_var rfl) ev_c) fun ls H1 nls e1 hls => ?_
    refine q_asgL (el_avC (hm.ex e1) hz (ev_var rfl) ev_c) fun lm H2 nlm e2 hlm => ?_
    have hls2 := e2 _ _ hls
    have e02 := e1.trans e2
    refine q_when (b := !decide (((valsF wl.fs "part").length : Int) + ((valsF wl.fs "parts").length : Int) = 1)) (et_is (et_test (ev_op (ev_op (ev_len (ev_var rfl) (sq_of hls2)) (ev_len (ev_var rfl) (sq_of hlm)) rv_I0) ev_c rv_neI)) (by rw [List.length_map, List.length_map])) (fun hb H3 e3 => ZX.mk_err0 fun H4 e4 => kf ?_ H4 ((e02.trans e3).trans e4)) (fun hb H3 e3 => ?_)
    · have := of_decide_eq_false ((Bool.not_eq_true' _).mp hb)
      unfold rpF
      exact if_neg (by omega)
    · have hone := of_decide_eq_true ((Bool.not_eq_false' _).mp hb)
      have e03 := e02.trans e3
      rcases one_of (show (valsF wl.fs "part").length + (valsF wl.fs "parts").length = 1 by omega) with ⟨z, h1, h2⟩ | ⟨z, h1, h2⟩
      · have hrp := rp_one (x := wl.b) h1 h2
        have hzl := vl2 z (by rw [h1]; exact List.mem_cons_self)
        rw [h1] at hls2
        have hls3 := e3 _ _ hls2
        refine q_when (b := true) (et_is (et_truL (ev_var rfl) (sq_of hls3)) rfl) (fun _ H4 e4 => ?_) (fun h => nomatch h)
        refine g_ret (rd_call (Q := fun v H => _) (ea_cons (ev_ixL (ev_var rfl) ev_c (e4 _ _ hls3) (atI_nat (j := 0) rfl)) (ea_cons (ev_mfld WR.cls WR.n4 (ev_var rfl) ((e03.trans e4) _ _ ham) me_body) ea_nil)) fun H5 e5 => ⟨z, wl.b, rfl, by omega, hx, fun hn H6 e6 => kf (by rw [hrp]; exact hn) H6 (((e03.trans e4).trans e5).trans e6), fun bs hb v H6 e6 hv => kt bs (by rw [hrp]; exact hb) v H6 (((e03.trans e4).trans e5).trans e6) hv⟩)
      · have hrp := rp_many (x := wl.b) h1 h2
        have hzl := vm2 z (by rw [h2]; exact List.mem_cons_self)
        rw [h1] at hls2
        rw [h2] at hlm
        refine q_when (b := false) (et_is (et_truL (ev_var rfl) (sq_of (e3 _ _ hls2))) rfl) (fun h => nomatch h) (fun _ H4 e4 => ?_)
        have e04 := e03.trans e4
        have hlm4 := (e3.trans e4) _ _ hlm
        refine rd_call (Q := fun v H => _) (ea_cons (ev_mfld WR.cls WR.n4 (ev_var rfl) (e04 _ _ ham) me_body) ea_nil) fun H5 e5 => ⟨wl.b, rfl, hx, fun hno H6 e6 => kf ?_ H6 ((e04.trans e5).trans e6), fun bs hg v pl ys H6 e6 hv hpl hrel => ?_⟩
        · rw [hrp]
          cases num z with
          | none => rfl
          | some n =>
            show (if 2 ≤ n then svF wl.b n else none) = none
            split
            · exact svF_none fun bs _ => hno bs
            · rfl
        · obtain ⟨u, rfl, hu⟩ := hv
          refine ⟨u, _, rfl, st_of hu, rfl, _, _, rfl, _, _, rfl, rfl, ?_⟩
          dsimp only
          have e06 := (e04.trans e5).trans e6
          have hlm6 := (e5.trans e6) _ _ hlm4
          have elen : ∀ {σ : L2.St} {H' : Hp}, Ex H6 H' → σ[4]? = some (some (.ref pl)) → Ev (tCB (rLenS K) (tCons (tVar 4) tNil)) σ H' (.int (ys.length : Int)) := fun e h0 => ev_len (ev_var h0) (sq_of (e _ _ hpl))
          have enum : ∀ {σ : L2.St} {H' : Hp}, Ex H6 H' → σ[2]? = some (some (.ref lm)) → Ev (tCall (sp1 numV) [] E0 (tCons (tOp (rIxL K) (tVar 2) (tC (.int 0))) tNil)) σ H' (ov (num z)) := fun e h0 => ev_is (ev_call (ea_cons (ev_ixL (ev_var h0) ev_c (e _ _ hlm6) (atI_nat (j := 0) rfl)) ea_nil) (sv1 (f := numV) (z := z) (by omega))) (numV_ov _)
          refine q_when (b := decide ((ys.length : Int) < 2) || !decide (ov (num z) = .int (ys.length : Int))) ?_ (fun hb H7 e7 => ?_) (fun hb H7 e7 => ?_)
          · refine et_or (et_test (ev_op (elen (Ex.refl H6) rfl) ev_c rv_I0)) fun _ => ?_
            exact et_test (ev_op (enum (Ex.refl H6) rfl) (elen (Ex.refl H6) rfl) (rv_ne (by cases num z <;> rfl)))
          · refine ZX.mk_err0 fun H8 e8 => kf ?_ H8 ((e06.trans e7).trans e8)
            rw [hrp]
            have hyl := hrel.1
            cases hn : num z with
            | none => rfl
            | some n =>
              show (if 2 ≤ n then svF wl.b n else none) = none
              split
              · rename_i h2n
                refine svF_none fun cs hc g => ?_
                have := good_one g hg
                subst this
                rw [hn, Bool.or_eq_true, decide_eq_true_eq, Bool.not_eq_true', decide_eq_false_iff_not] at hb
                rcases hb with hb | hb
                · omega
                · exact hb (congrArg V.int (by omega))
              · rfl
          · rw [Bool.or_eq_false_iff, decide_eq_false_iff_not, Bool.not_eq_false', decide_eq_true_eq] at hb
            have hyl := hrel.1
            cases hn : num z with
            | none => rw [hn] at hb; exact absurd hb.2 (fun h => nomatch h)
            | some n =>
              rw [hn] at hb
              have hnn : (n : Int) = (ys.length : Int) := V.int.inj hb.2
              refine s_retU (eu_tup (ea_cons (ev_var rfl) (ea_cons (ev_var rfl) ea_nil)) (by show 2 ≤ 100000; decide)) fun p H8 np e8 h8 => kt bs ?_ _ H8 ((e06.trans e7).trans e8) ⟨p, pl, ys, rfl, h8, (e7.trans e8) _ _ hpl, hrel.mono fun _ _ m => TupAt.ex m (e7.trans e8)⟩
              rw [hrp, hn]
              show (if 2 ≤ n then svF wl.b n else none) = some bs
              rw [if_pos (by omega)]
              exact svF_some.mpr ⟨hg, by omega⟩
theorem ok_law_reading (T : Mg mg) (c_law_number : Call P w K mg base 1 "_law_number" ["word"] (sp1 numV)) (c_law_head : Call P w K mg base 2 "_law_head" ["word"] spHea) (c_law_several : Call P w K mg base 4 "_law_several" ["letters", "count"] spSv) (F : FnP K "_law_reading" s_law_reading f fd) (gm : mg "_law_reading" = some (.ref f)) : Call P w K mg base 5 "_law_reading" ["fields", "letters"] spRd := by
  refine mk F gm (fun _ _ _ _ _ _ us hl => match us, hl with | [_, _], _ => rfl) (fun _ _ _ _ _ _ us hl => match us, hl with | [_, _], _ => rfl) sc_law_reading (fun vs H Q E h => ?_) (fun cdv A outer s H vs Q E hr h => ?_)
  · obtain ⟨l, fs, x, rfl, _⟩ := h
    rfl
  · obtain ⟨l, fs, x, rfl, hf, hok, hx, q⟩ := h
    refine ⟨_, (pss_cons (ps_setLc (i := 2) (own := [("field", 3)]) (g := gName 3) rfl sc_law_reading.nd rfl rfl (sw_true rfl rfl rfl (by decide +kernel)) (pi_list (pv 0)) (blkOk_by (N := ["fields", "letters", "single", "field", "several", "head", "count"]) (sc := L2.defScope s_law_reading) (by decide +kernel)) (fun _ _ _ _ _ => pg_name (i := 3) sc_law_reading.nd rfl (Or.inl rfl)) (fun _ _ _ _ _ => pts_one (pt_cmpR op_eq (inK (K := K) (t := fun K => tOp (rIxT K) _ _) rfl (pe_ix ix_tup (pv 3) pe_int (fun _ _ => rfl))) pe_str (nomark _))) (fun _ _ _ _ _ => (inK (K := K) (t := fun K => tOp (rIxT K) _ _) rfl (pe_ix ix_tup (pv 3) pe_int (fun _ _ => rfl)))))
    (pss_cons (ps_setLc (i := 4) (own := [("field", 3)]) (g := gName 3) rfl sc_law_reading.nd rfl rfl (sw_true rfl rfl rfl (by decide +kernel)) (pi_list (pv 0)) (blkOk_by (N := ["fields", "letters", "single", "field", "several", "head", "count"]) (sc := L2.defScope s_law_reading) (by decide +kernel)) (fun _ _ _ _ _ => pg_name (i := 3) sc_law_reading.nd rfl (Or.inl rfl)) (fun _ _ _ _ _ => pts_one (pt_cmpR op_eq (inK (K := K) (t := fun K => tOp (rIxT K) _ _) rfl (pe_ix ix_tup (pv 3) pe_int (fun _ _ => rfl))) pe_str (nomark _))) (fun _ _ _ _ _ => (inK (K := K) (t := fun K => tOp (rIxT K) _ _) rfl (pe_ix ix_tup (pv 3) pe_int (fun _ _ => rfl)))))
    (pss_cons (ps_if (pt_cmpR op_ne (pe_op op_add (pe_callB call_len_seq (by rfl) T.len (by decide +kernel) (pa_cons (pv 2) pa_nil)) (pe_callB call_len_seq (by rfl) T.len (by decide +kernel) (pa_cons (pv 4) pa_nil))) pe_int (nomark _))
      (pss_one (ps_ret pe_non))
      pss_nil)
    (pss_cons (ps_if (pt_cmpR op_eq (pe_callB call_len_seq (by rfl) T.len (by decide +kernel) (pa_cons (pv 2) pa_nil)) pe_int (nomark _))
      (pss_cons (ps_set (i := 5) sc_law_reading.nd rfl (Or.inl rfl) (pe_f c_law_head hr (by decide) rfl (pa_cons (pe_ix ix_list (pv 2) pe_int (fun _ _ => rfl)) pa_nil)))
      (pss_cons (ps_if (PW.pt (pw_or (pt_cmpR op_isN1 (pv 5) pe_non (nomark _)) (pw_or1 (pt_cmpR op_ne (pe_callB cz_len (by rfl) T.len (by decide +kernel) (pa_cons (pv 1) pa_nil)) (pe_op op_add (pe_op op_sub (pe_ix ix_tup (pv 5) pe_int (fun _ _ => rfl)) (pe_ix ix_tup (pv 5) pe_int (fun _ _ => rfl))) pe_int) (nomark _)))))
        (pss_one (ps_ret pe_non))
        pss_nil)
      (pss_one (ps_ret (pe_tup (pa_cons (pe_ix ix_tup (pv 5) pe_int (fun _ _ => rfl)) (pa_cons (pe_lst (pa_cons (pe_tup (pa_cons (pe_ix ix_tup (pv 5) pe_int (fun _ _ => rfl)) (pa_cons (pv 1) pa_nil))) pa_nil)) pa_nil)))))))
      pss_nil)
    (pss_cons (ps_set (i := 6) sc_law_reading.nd rfl (Or.inl rfl) (pe_f c_law_number hr (by decide) rfl (pa_cons (pe_ix ix_list (pv 4) pe_int (fun _ _ => rfl)) pa_nil)))
    (pss_cons (ps_if (PW.pt (pw_or (pt_cmpR op_isN1 (pv 6) pe_non (nomark _)) (pw_or (pt_cmpR op_lt (pv 6) pe_int (nomark _)) (pw_or1 (pt_cmpR op_gt (pv 6) (pe_callB cz_len (by rfl) T.len (by decide +kernel) (pa_cons (pv 1) pa_nil)) (nomark _))))))
      (pss_one (ps_ret pe_non))
      pss_nil)
    (pss_one (ps_ret (pe_f c_law_several hr (by decide) rfl (pa_cons (pv 1) (pa_cons (pv 6) pa_nil))))))))))), ?_⟩
    have hz := (areB_val hok).1
    obtain ⟨vl1, vl2⟩ := vals_le (n := "part") hok
    obtain ⟨vm1, vm2⟩ := vals_le (n := "parts") hok
    have qn : ∀ Hx, Ex H Hx → rpF fs x = none → Q .non Hx := fun Hx e h => q .non Hx e (by rw [h]; rfl)
    refine q_asgL (el_vals (n := "part") (ev_var rfl) hf (by omega) (fun _ => rfl) (fun _ => rfl)) fun ls H1 nls e1 hls => ?_
    refine q_asgL (el_vals (n := "parts") (ev_var rfl) (hf.ex e1) (by omega) (fun _ => rfl) (fun _ => rfl)) fun lm H2 nlm e2 hlm => ?_
    have hls2 := e2 _ _ hls
    have e02 := e1.trans e2
    refine q_when (b := !decide (((valsF fs "part").length : Int) + ((valsF fs "parts").length : Int) = 1)) (et_is (et_test (ev_op (ev_op (ev_len (ev_var rfl) (sq_of hls2)) (ev_len (ev_var rfl) (sq_of hlm)) rv_I0) ev_c rv_neI)) (by rw [List.length_map, List.length_map])) (fun hb H3 e3 => s_ret ev_c fun H4 e4 => qn H4 ((e02.trans e3).trans e4) ?_) (fun hb H3 e3 => ?_)
    · have := of_decide_eq_false ((Bool.not_eq_true' _).mp hb)
      unfold rpF
      exact if_neg (by omega)
    · have hone := of_decide_eq_true ((Bool.not_eq_false' _).mp hb)
      have e03 := e02.trans e3
      rcases one_of (show (valsF fs "part").length + (valsF fs "parts").length = 1 by omega) with ⟨z, h1, h2⟩ | ⟨z, h1, h2⟩
      · have hrp := rp_one (x := x) h1 h2
        have hzl := vl2 z (by rw [h1]; exact List.mem_cons_self)
        rw [h1] at hls2
        have hls3 := e3 _ _ hls2
        refine q_when (b := true) (et_is (et_test (ev_op (ev_len (ev_var rfl) (sq_of hls3)) ev_c rv_eqI)) rfl) (fun _ H4 e4 => ?_) (fun h => nomatch h)
        refine q_asgR (rd_call (Q := fun v H => _) (ea_cons (ev_ixL (ev_var rfl) ev_c (e4 _ _ hls3) (atI_nat (j := 0) rfl)) ea_nil) fun H5 e5 => ⟨z, rfl, by omega, fun v H6 e6 hv => ?_⟩)
        have e06 := ((e03.trans e4).trans e5).trans e6
        cases he : extF z with
        | none =>
          rw [he] at hv
          cases (show v = .non from hv)
          exact q_when (b := true) (et_is (et_or (a := true) (b := true) (et_is (et_test (ev_op (ev_var rfl) ev_c rv_isN)) rfl) (fun h => nomatch h)) rfl) (fun _ H7 e7 => s_ret ev_c fun H8 e8 => qn H8 ((e06.trans e7).trans e8) (by rw [hrp]; unfold sgF; rw [he])) (fun h => nomatch h)
        | some o =>
          obtain ⟨a, b, t⟩ := o
          rw [he] at hv
          obtain ⟨p, rfl, hp⟩ := hv
          obtain ⟨hab, hbt⟩ := ext_le he
          refine q_when (b := !decide ((x.length : Int) = (b : Int) - (a : Int) + 1)) (et_is (et_or (a := false) (et_is (et_test (ev_op (ev_var rfl) ev_c rv_isN)) rfl) fun _ => et_test (ev_op (ev_lenStr (ev_var rfl) hx) (ev_op (ev_op (ev_ixT (ev_var rfl) ev_c hp (atI_nat (j := 1) rfl)) (ev_ixT (ev_var rfl) ev_c hp (atI_nat (j := 0) rfl)) rv_I0) ev_c rv_I0) rv_neI)) (Bool.false_or _)) (fun hb H7 e7 => s_ret ev_c fun H8 e8 => qn H8 ((e06.trans e7).trans e8) ?_) (fun hb H7 e7 => ?_)
          · have := of_decide_eq_false ((Bool.not_eq_true' _).mp hb)
            rw [hrp]
            unfold sgF
            rw [he]
            exact if_neg (by omega)
          · have := of_decide_eq_true ((Bool.not_eq_false' _).mp hb)
            have hp7 := e7 _ _ hp
            refine g_ret (rd_onePt (e := b) (ev_ixT (ev_var rfl) ev_c hp7 (atI_nat (j := 2) rfl)) (ev_ixT (ev_var rfl) ev_c hp7 (atI_nat (j := 0) rfl)) (ev_var rfl) fun v H8 e8 hv => q v H8 ((e06.trans e7).trans e8) ?_)
            have hs : sgF z x = some [⟨a, b, t, x⟩] := by
              unfold sgF
              rw [he]
              exact if_pos (by omega)
            rw [hrp, hs]
            exact hv
      · have hrp := rp_many (x := x) h1 h2
        have hzl := vm2 z (by rw [h2]; exact List.mem_cons_self)
        rw [h1] at hls2
        rw [h2] at hlm
        refine q_when (b := false) (et_is (et_test (ev_op (ev_len (ev_var rfl) (sq_of (e3 _ _ hls2))) ev_c rv_eqI)) rfl) (fun h => nomatch h) (fun _ H4 e4 => ?_)
        have e04 := e03.trans e4
        have hlm4 := (e3.trans e4) _ _ hlm
        refine q_asg (v := ov (num z)) (ev_is (ev_call (ea_cons (ev_ixL (ev_var rfl) ev_c hlm4 (atI_nat (j := 0) rfl)) ea_nil) (sv1 (by omega))) (numV_ov _)) fun H5 e5 => ?_
        have e05 := e04.trans e5
        cases hn : num z with
        | none =>
          rw [hn] at hrp
          exact q_when (b := true) (et_is (et_or (a := true) (b := true) (et_is (et_test (ev_op (ev_var rfl) ev_c rv_isN)) rfl) (fun h => nomatch h)) rfl) (fun _ H6 e6 => s_ret ev_c fun H7 e7 => qn H7 ((e05.trans e6).trans e7) hrp) (fun h => nomatch h)
        | some n =>
          rw [hn] at hrp
          have hrp : rpF fs x = if 2 ≤ n then svF x n else none := hrp
          show tSeq _ _ _ [some (.ref l), some (.str x), some (.ref ls), none, some (.ref lm), none, some (.int (n : Int))] H5
          refine q_when (b := decide ((n : Int) < 2) || decide ((x.length : Int) < (n : Int))) (et_is (et_or (a := false) (et_is (et_test (ev_op (ev_var rfl) ev_c rv_isN)) rfl) fun _ => et_or (et_test (ev_op (ev_var rfl) ev_c rv_I0)) fun _ => et_test (ev_op (ev_var rfl) (ev_lenStr (ev_var rfl) hx) rv_I0)) (Bool.false_or _)) (fun hb H6 e6 => s_ret ev_c fun H7 e7 => qn H7 ((e05.trans e6).trans e7) ?_) (fun hb H6 e6 => ?_)
          · rw [hrp]
            rw [Bool.or_eq_true, decide_eq_true_eq, decide_eq_true_eq] at hb
            split
            · refine svF_none fun cs hc g => ?_
              have := blks_bd g.1 (Nat.zero_le _)
              omega
            · rfl
          · rw [Bool.or_eq_false_iff, decide_eq_false_iff_not, decide_eq_false_iff_not] at hb
            rw [if_pos (by omega)] at hrp
            refine g_ret (rd_call (Q := fun v H => _) (ea_cons (ev_var rfl) (ea_cons (ev_var rfl) ea_nil)) fun H7 e7 => ⟨x, n, rfl, hx, by omega, by omega, fun v H8 e8 hv => q v H8 (((e05.trans e6).trans e7).trans e8) ?_⟩)
            rw [hrp]
            exact hv
end
end Z
set_option maxHeartbeats 4000000
namespace Z
open PySem PySem.Spec PyProof.Rows L2 TL Evl NdefX
/-! ### the law's draws -/
theorem lc_sr {α : Type} {te : TE} {σ : L2.St} {j n : Nat} {vs : List Nat} {lo : Int} {H1 : Hp} {D p l0 : Addr} {r0 c : Nat} {Qd : Hp → Prop} (R : Hp → V → α → Prop) (ok : α → Prop)
    (stab : ∀ (H H' : Hp) v x, R H v x → (∀ b xs, H b = some (.tup xs) → H' b = some (.tup xs)) → R H' v x) (hD : H1 D = none) (b1 : Sr H1 p l0 r0) (hn : n ≤ 1000) (hw : ∀ x, wipe ((wipe σ vs).set j (some x)) vs = wipe σ vs)
    (el : ∀ (i : Nat) (H' : Hp), i < n → Sr H' p l0 (r0 + c * i) → Keep p H1 H' → ∀ k : VK, (∀ v x H2, R H2 v x → ok x → Sr H2 p l0 (r0 + c * i + c) → Keep p H' H2 → k v H2) → te ((wipe σ vs).set j (some (.int (lo + i)))) H' k)
    (fin : ∀ (H' : Hp) ys xs, H' D = some (.lst ys) → Rel (R H') ys xs → xs.length = n → (∀ x ∈ xs, ok x) → Sr H' p l0 (r0 + c * n) → Keep p H1 H' → Qd H') :
    ∃ W : Nat → Nat → Hp → Prop, (∃ m, W 0 m (upd H1 D (HO.lst []))) ∧ ∀ (i m : Nat) (H : Hp), W i m H → (Itr lo n).stop i H ∧ Qd H ∨ (Itr lo n).go i H ∧ ∃ Nx : Hp → Prop, (∀ (H' : Hp), Nx H' → ∃ m', m' < m ∧ W (i + 1) m' H') ∧ ∀ (x : V) (H' : Hp), (Itr lo n).yld i H x H' →
      gName j x (wipe σ vs) H' fun σ2 H2 => wipe σ2 vs = wipe σ vs ∧ tYes σ2 H2 fun b H3 => if b = true then te σ2 H3 fun y H4 => ∃ acc, H4 D = some (HO.lst acc) ∧ acc.length < sizeLine ∧ Nx (upd H4 D (HO.lst (acc ++ [y]))) else Nx H3 := by
  have hDp : D ≠ p := b1.ne hD
  have hD0 : D ≠ l0 := b1.ne0 hD
  refine lc_range (lo := lo) (n := n) (fun i H' => ∃ ys xs, H' D = some (.lst ys) ∧ Rel (R H') ys xs ∧ xs.length = i ∧ (∀ x ∈ xs, ok x) ∧ Sr H' p l0 (r0 + c * i) ∧ Keep p H1 H') ⟨[], [], upd_same, ⟨rfl, fun i x y h _ => nomatch h⟩, rfl, (fun _ h => nomatch h), (b1.upd hDp hD0).up (Nat.le_add_right _ _), fun cc o hc ho => by rw [upd_ne (ne_of_none ho hD)]; exact ho⟩ (fun i H' hi pv => ?_) (fun H' pv => ?_)
  · obtain ⟨ys, xs, h1, h2, h3, h4, h5, h6⟩ := pv
    refine ⟨hw _, ?_⟩
    unfold tYes
    dsimp only
    rw [if_pos rfl]
    refine el i H' hi h5 h6 _ fun v x H2 hv hx b2 k2 => ?_
    have hd2 : H2 D = some (.lst ys) := k2 _ _ hDp h1
    have ht : ∀ b zs, H' b = some (.tup zs) → (upd H2 D (.lst (ys ++ [v]))) b = some (.tup zs) := fun b zs hb => by
      have nD : b ≠ D := fun e => by rw [e, h1] at hb; cases hb
      have np : b ≠ p := fun e => by
        obtain ⟨us, hu⟩ := h5.has
        rw [e, hu] at hb; cases hb
      rw [upd_ne nD]
      exact k2 _ _ np hb
    have ht2 : ∀ b zs, H2 b = some (.tup zs) → (upd H2 D (.lst (ys ++ [v]))) b = some (.tup zs) := fun b zs hb => by
      have nD : b ≠ D := fun e => by rw [e, hd2] at hb; cases hb
      rw [upd_ne nD]
      exact hb
    have hl : ys.length = i := h2.1.trans h3
    refine ⟨ys, hd2, Nat.lt_of_lt_of_le (show ys.length < 100000 by omega) (by decide), ys ++ [v], xs ++ [x], upd_same, ?_, by rw [List.length_append, h3]; rfl, fun z hz => ?_, (b2.upd hDp hD0).up (by rw [Nat.mul_succ]; omega), fun cc o hc ho => ?_⟩
    · refine ⟨by rw [List.length_append, List.length_append, h2.1]; rfl, fun m a c ha hc => ?_⟩
      by_cases hm : m < ys.length
      · rw [List.getElem?_append_left hm] at ha
        rw [List.getElem?_append_left (by rw [← h2.1]; exact hm)] at hc
        exact stab _ _ _ _ (h2.2 m a c ha hc) ht
      · rw [List.getElem?_append_right (by omega)] at ha
        rw [List.getElem?_append_right (by rw [← h2.1]; omega), ← h2.1] at hc
        have hz : m - ys.length = 0 := by
          rcases Nat.eq_zero_or_pos (m - ys.length) with h | h
          · exact h
          · rw [List.getElem?_eq_none (by show 1 ≤ _; omega)] at ha
            cases ha
        rw [hz] at ha hc
        cases ha
        cases hc
        exact stab _ _ _ _ hv ht2
    · rcases List.mem_append.mp hz with hz | hz
      · exact h4 z hz
      · rw [List.mem_singleton.mp hz]
        exact hx
    · rw [upd_ne (ne_of_none ho hD)]
      exact k2 _ _ hc (h6 _ _ hc ho)
  · obtain ⟨ys, xs, h1, h2, h3, h4, h5, h6⟩ := pv
    exact fin H' ys xs h1 h2 h3 h4 h5 h6
theorem rel_str {ys : List V} {zs : List Str} (h : Rel (fun v s => v = V.str s) ys zs) : ys = zs.map V.str := by
  refine List.ext_getElem (by rw [h.1, List.length_map]) fun i h1 h2 => ?_
  rw [List.getElem_map]
  rw [List.length_map] at h2
  exact h.2 i _ _ (List.getElem?_eq_getElem h1) (List.getElem?_eq_getElem h2)
theorem foldl_mem (a : Array Nat) : ∀ (n : Nat) (acc : Array Nat) (c : Nat), c ∈ ((List.replicate n a).foldl (· ++ ·) acc).toList → c ∈ acc.toList ∨ c ∈ a.toList
  | 0, acc, c, h => .inl h
  | n + 1, acc, c, h => by
    rw [List.replicate_succ, List.foldl_cons] at h
    rcases foldl_mem a n (acc ++ a) c h with h | h
    · rw [Array.toList_append] at h
      exact List.mem_append.mp h
    · exact .inr h
theorem repS_mem {z : Str} {n c : Nat} (h : c ∈ tl (repS z n)) : c ∈ tl z := by
  unfold repS at h
  split at h
  · have : tl Str.empty = [] := rfl
    rw [this] at h
    cases h
  · split at h
    · exact h
    · rcases foldl_mem z.cps n #[] c h with h | h
      · cases h
      · exact h

/-- signs that a body may have -/
def Pl (z : Str) : Prop := ∀ c ∈ tl z, c = 10 ∨ c ∈ tl signs
instance (z : Str) : Decidable (Pl z) := by unfold Pl; infer_instance
theorem Pl.app {a b : Str} (h1 : Pl a) (h2 : Pl b) : Pl (a ++ b) := fun c hc => by
  rw [tl_append] at hc
  exact (List.mem_append.mp hc).elim (h1 c) (h2 c)
theorem Pl.sub {a b : Str} (h : Pl a) (hb : ∀ c ∈ tl b, c ∈ tl a) : Pl b := fun c hc => h c (hb c hc)
/-- one of some texts, drawn -/
theorem rd_dr4 {K : PySem.W.Frag} {σ : L2.St} {H : Hp} {tl0 tp : TE} {Q : VK} {E : XK} {p l0 : Addr} {m : Nat} {lim : Int} {ts : List Str} (hl : EvL tl0 σ H (ts.map V.str)) (hp : Ev tp σ H (.ref p)) (b : Sr H p l0 m) (hm : m ≤ 1000000) (h1 : 1 ≤ lim) (h2 : lim = (ts.length : Int) ∧ lim ≤ 1000) (k : ∀ (t : Str) H', t ∈ ts → Sr H' p l0 (m + 1) → Keep p H H' → Q (.str t) H') : tOp (rIxL K) tl0 (tCall spSrc [] E (tCons tp (tCons (tC (.int lim)) tNil))) σ H Q :=
  hl H (Ex.refl H) _ fun la H1 nl e1 hla => rd_ds (ea_cons (fun H2 e2 Q q => hp H2 (e1.trans e2) Q q) (ea_cons ev_c ea_nil)) (b.ex e1) hm h1 (by omega) fun d H2 d0 d1 b2 k2 => by
    obtain ⟨j, rfl⟩ := Int.eq_ofNat_of_zero_le d0
    have hj : j < ts.length := by omega
    have hl2 := k2 _ _ (b.ne nl) hla
    refine rv_ixL (sq_of hl2) (atI_nat (j := j) (by rw [List.getElem?_map, List.getElem?_eq_getElem hj]; rfl)) H2 (Ex.refl H2) _ fun H3 e3 => k _ H3 (List.getElem_mem hj) (b2.ex e3) (((Keep.of e1).trans k2).trans (Keep.of e3))
def spCh : Sp := fun vs H Q _ => ∃ (p l0 : Addr) (m : Nat), vs = [.ref p] ∧ Sr H p l0 m ∧ m ≤ 950000 ∧ ∀ (t : Str) (H' : Hp), t.length = 1 → Pl t → Sr H' p l0 (m + 1) → Keep p H H' → Q (.str t) H'
def spLt : Sp := fun vs H Q _ => ∃ (p l0 : Addr) (m : Nat), vs = [.ref p] ∧ Sr H p l0 m ∧ m ≤ 900000 ∧ ∀ (t : Str) (H' : Hp), 1 ≤ t.length → t.length ≤ 20 → Pl t → Sr H' p l0 (m + 10) → Keep p H H' → Q (.str t) H'
section
variable {P : Program} {w : World} {K : PySem.W.Frag} {mg : Str → Option Value} {base : Heap} {f DP DV DH RS : Addr} {fd : FuncData} {k : Nat}
theorem ok_law_char (T : Mg mg) (c_law_draw : CSrc P w K mg base) (F : FnP K "_law_char" s_law_char f fd) (gm : mg "_law_char" = some (.ref f)) : Call P w K mg base 3 "_law_char" ["source"] spCh := by
  refine mk F gm (fun _ _ _ _ _ _ us hl => match us, hl with | [_], _ => rfl) (fun _ _ _ _ _ _ us hl => match us, hl with | [_], _ => rfl) sc_law_char (fun vs H Q E h => ?_) (fun cdv A outer s H vs Q E hr h => ?_)
  · obtain ⟨p, l0, m, rfl, _⟩ := h
    rfl
  · obtain ⟨p, l0, m, rfl, b, hm, q⟩ := h
    refine ⟨_, (pss_cons (ps_set (i := 1) sc_law_char.nd rfl (Or.inl rfl) pe_str)
    (pss_cons (ps_set (i := 1) sc_law_char.nd rfl (Or.inl rfl) (pe_op oz_add (pv 1) pe_str))
    (pss_one (ps_ret (pe_ix ix_str (pv 1) (pe_f c_law_draw hr (by decide) rfl (pa_cons (pv 0) (pa_cons pe_int pa_nil))) (fun _ _ => rfl)))))), ?_⟩
    have hzl : ((" !\"#$&'()*+,-./0123456789:;<=>?@ABCDEFGHIJKLMNOPQRSTUVWXYZ[\\]^_`" : Str) ++ ("abcdefghijklmnopqrstuvwxyz{|}~\n" : Str)).length = 95 := by decide +kernel
    have hpl : Pl ((" !\"#$&'()*+,-./0123456789:;<=>?@ABCDEFGHIJKLMNOPQRSTUVWXYZ[\\]^_`" : Str) ++ ("abcdefghijklmnopqrstuvwxyz{|}~\n" : Str)) := by decide +kernel
    refine q_asg ev_c fun H1 e1 => ?_
    refine q_asg (ev_op (ev_var rfl) ev_c (rv_addS (by decide +kernel))) fun H2 e2 => ?_
    generalize (" !\"#$&'()*+,-./0123456789:;<=>?@ABCDEFGHIJKLMNOPQRSTUVWXYZ[\\]^_`" : Str) ++ ("abcdefghijklmnopqrstuvwxyz{|}~\n" : Str) = z at hzl hpl
    refine g_ret ⟨.str z, rfl, rd_ds (Q := fun v H => _) (ea_cons (ev_var rfl) (ea_cons ev_c ea_nil)) (b.ex (e1.trans e2)) (by omega) (by decide) (by decide) fun d H3 d0 d1 b3 k3 => ?_⟩
    obtain ⟨c, g1, g2⟩ := at_int (xs := tl z) d0 (by rw [len_tl', hzl]; exact d1)
    exact ⟨z, d, c, rfl, rfl, sz_of (by omega), g1, q _ H3 rfl (fun x hx => by
      have hx : x ∈ [c] := hx
      rw [List.mem_singleton.mp hx]
      exact hpl c g2) b3 ((Keep.of (e1.trans e2)).trans k3)⟩
theorem ok_law_letters (T : Mg mg) (c_law_draw : CSrc P w K mg base) (c_law_char : Call P w K mg base 3 "_law_char" ["source"] spCh) (F : FnP K "_law_letters" s_law_letters f fd) (gm : mg "_law_letters" = some (.ref f)) : Call P w K mg base 4 "_law_letters" ["source"] spLt := by
  refine mk F gm (fun _ _ _ _ _ _ us hl => match us, hl with | [_], _ => rfl) (fun _ _ _ _ _ _ us hl => match us, hl with | [_], _ => rfl) sc_law_letters (fun vs H Q E h => ?_) (fun cdv A outer s H vs Q E hr h => ?_)
  · obtain ⟨p, l0, m, rfl, _⟩ := h
    rfl
  · obtain ⟨p, l0, m, rfl, b, hm, q⟩ := h
    refine ⟨_, (pss_cons (ps_set (i := 1) sc_law_letters.nd rfl (Or.inl rfl) (pe_f c_law_draw hr (by decide) rfl (pa_cons (pv 0) (pa_cons pe_int pa_nil))))
    (pss_cons (ps_if (pt_cmpR op_eq (pv 1) pe_int (nomark _))
      (pss_one (ps_ret (pe_ix ix_list (pe_lst (pa_cons pe_str (pa_cons pe_str (pa_cons pe_str (pa_cons pe_str pa_nil))))) (pe_f c_law_draw hr (by decide) rfl (pa_cons (pv 0) (pa_cons pe_int pa_nil))) (fun _ _ => rfl))))
      pss_nil)
    (pss_one (ps_ret (pe_bm PySem.F.plainAttrs_str PySem.F.slot_str_join PySem.F.type_str_join mz_join pe_str (pa_cons (pe_lc (own := [("turn", 2)]) (g := gName 2) (tt := tYes) rfl sc_law_letters.nd (pi_range1 rfl T.range (pa_cons (pe_op op_add (pv 1) pe_int) pa_nil)) (blkOk_by (N := ["source", "style", "turn"]) (sc := L2.defScope s_law_letters) (by decide +kernel)) (fun _ _ _ _ _ => pg_name (i := 2) sc_law_letters.nd rfl (Or.inl rfl)) (fun _ _ _ _ _ => pts_nil) (fun _ _ _ _ _ => (pe_f c_law_char hr (by decide) rfl (pa_cons (pv 0) pa_nil)))) pa_nil)))))), ?_⟩
    refine q_asgR (rd_ds (Q := fun v H => _) (ea_cons (ev_var rfl) (ea_cons ev_c ea_nil)) b (by omega) (by decide) (by decide) fun d H1 d0 d1 b1 k1 => ?_)
    refine q_when (b := decide (d = 3)) (et_test (ev_op (ev_var rfl) ev_c rv_eqI)) (fun hb H2 e2 => ?_) (fun hb H2 e2 => ?_)
    · refine g_ret ?_
      refine rd_dr4 (K := K) (ts := [("part 0-0/9\na\n" : Str), "\n", "\n\n", "part 1-2/3\n"]) (el_lst (ea_cons ev_c (ea_cons ev_c (ea_cons ev_c (ea_cons ev_c ea_nil)))) (by show 4 ≤ 100000; decide)) (ev_var rfl) (b1.ex e2) (by omega) (by decide) (by decide) fun t H3 ht b3 k3 => ?_
      have hall : ∀ t ∈ [("part 0-0/9\na\n" : Str), "\n", "\n\n", "part 1-2/3\n"], 1 ≤ t.length ∧ t.length ≤ 20 ∧ Pl t := by decide +kernel
      obtain ⟨h1, h2, h3⟩ := hall t ht
      exact q t H3 h1 h2 h3 (b3.up (by omega)) (k1.trans ((Keep.of e2).trans k3))
    · have hd3 := of_decide_eq_false hb
      refine g_ret ⟨rfl, .int d, rfl, d, 1, rfl, rfl, d + 1, rfl, by omega, by omega, fun D hD => ?_⟩
      refine lc_sr (α := Str) (c := 1) (r0 := m + 1) (l0 := l0) (fun _ v s => v = .str s) (fun s => s.length = 1 ∧ Pl s) (fun _ _ _ _ h _ => h) hD (b1.ex e2) (by omega) (fun _ => rfl) (fun i H3 hi b3 k3 kk hk => ?_) (fun H3 ys xs hd hr hl ho b3 k3 => ?_)
      · exact rd_call (ea_cons (ev_var rfl) ea_nil) fun H4 e4 => ⟨p, l0, _, rfl, b3.ex e4, by omega, fun t H5 h1 h2 b5 k5 => hk _ t H5 rfl ⟨h1, h2⟩ b5 ((Keep.of e4).trans k5)⟩
      · rw [rel_strB hr] at hd
        have hsum := sum_ones xs fun y hy => (ho y hy).1
        have e0 : (("" : Str)).length = 0 := by decide +kernel
        have hlt := lenTJ xs
        rw [hsum] at hlt
        refine ⟨"", D, xs, rfl, rfl, .inl (sq_of hd), by rw [hsum, e0]; omega, q _ _ (by omega) (by omega) (fun c hc => ?_) (b3.up (by omega)) (k1.trans ((Keep.of e2).trans k3))⟩
        rw [tlTJ] at hc
        obtain ⟨y, hy, hcy⟩ := List.mem_flatMap.mp hc
        exact (ho y hy).2 c hcy
end
end Z
set_option maxHeartbeats 4000000
namespace Z
open PySem PySem.Spec PyProof.Rows L2 TL Evl NdefX
/-! ### what is built -/
/-- a piece as it is built -/
structure Pc where
  a : Nat
  s : Str
def PqAt (H : Hp) (v : V) (b : Pc) : Prop := TupAt H v [.int (b.a : Int), .str b.s]
/-- starts grow, texts are plain and not empty -/
def pcsOk : Nat → List Pc → Prop
  | _, [] => True
  | lo, b :: r => lo ≤ b.a ∧ 1 ≤ b.s.length ∧ b.s.length ≤ 20 ∧ Pl b.s ∧ pcsOk (b.a + b.s.length) r
def pcsEnd : Nat → List Pc → Nat
  | lo, [] => lo
  | _, b :: r => pcsEnd (b.a + b.s.length) r
def spBu : Sp := fun vs H Q _ => ∃ (p l0 : Addr) (m : Nat), vs = [.ref p] ∧ Sr H p l0 m ∧ m ≤ 100000 ∧ ∀ (u l : Addr) (tot : Nat) (ps : List Pc) (ys : List V) (H' : Hp), H u = none → H l = none → H' u = some (.tup [.int (tot : Int), .ref l]) → H' l = some (.lst ys) → Rel (PqAt H') ys ps → 1 ≤ ps.length → ps.length ≤ 13 → pcsOk 0 ps → pcsEnd 0 ps ≤ tot → tot ≤ 999999 → Sr H' p l0 (m + 1000) → Keep p H H' → Q (.ref u) H'
theorem pcsOk_snoc : ∀ {ps : List Pc} {lo : Nat} {b : Pc}, pcsOk lo ps → pcsEnd lo ps ≤ b.a → 1 ≤ b.s.length → b.s.length ≤ 20 → Pl b.s → pcsOk lo (ps ++ [b])
  | [], lo, b, _, h1, h2, h3, h4 => ⟨h1, h2, h3, h4, trivial⟩
  | c :: r, lo, b, ⟨g1, g2, g3, g4, g5⟩, h1, h2, h3, h4 => ⟨g1, g2, g3, g4, pcsOk_snoc (ps := r) g5 h1 h2 h3 h4⟩
theorem pcsEnd_snoc : ∀ {ps : List Pc} {lo : Nat} {b : Pc}, pcsEnd lo (ps ++ [b]) = b.a + b.s.length
  | [], _, _ => rfl
  | c :: r, lo, b => pcsEnd_snoc (ps := r) (lo := c.a + c.s.length)
theorem Sr.free {H H' : Hp} {p l0 l : Addr} {m : Nat} (b : Sr H' p l0 m) (k : Keep p H H') (h : H' l = none) : H l = none := by
  cases q : H l with
  | none => rfl
  | some o => rw [k l o (b.ne h) q] at h; cases h
theorem Keep.new {p a : Addr} {H H' : Hp} {o : HO} (k : Keep p H H') (h : H a = none) : Keep p H (L2.upd H' a o) := fun c x hc hx => by
  rw [upd_ne (ne_of_none hx h)]
  exact k c x hc hx
/-- one of some numbers, drawn -/
theorem rd_drI {K : PySem.W.Frag} {σ : L2.St} {H : Hp} {tl0 tp : TE} {Q : VK} {E : XK} {p l0 : Addr} {m : Nat} {lim : Int} {is : List Int} (hl : EvL tl0 σ H (is.map V.int)) (hp : Ev tp σ H (.ref p)) (b : Sr H p l0 m) (hm : m ≤ 1000000) (h1 : 1 ≤ lim) (h2 : lim = (is.length : Int) ∧ lim ≤ 1000) (k : ∀ (i : Int) H', i ∈ is → Sr H' p l0 (m + 1) → Keep p H H' → Q (.int i) H') : tOp (rIxL K) tl0 (tCall spSrc [] E (tCons tp (tCons (tC (.int lim)) tNil))) σ H Q :=
  hl H (Ex.refl H) _ fun la H1 nl e1 hla => rd_ds (ea_cons (fun H2 e2 Q q => hp H2 (e1.trans e2) Q q) (ea_cons ev_c ea_nil)) (b.ex e1) hm h1 (by omega) fun d H2 d0 d1 b2 k2 => by
    obtain ⟨j, rfl⟩ := Int.eq_ofNat_of_zero_le d0
    have hj : j < is.length := by omega
    have hl2 := k2 _ _ (b.ne nl) hla
    refine rv_ixL (sq_of hl2) (atI_nat (j := j) (by rw [List.getElem?_map, List.getElem?_eq_getElem hj]; rfl)) H2 (Ex.refl H2) _ fun H3 e3 => k _ H3 (List.getElem_mem hj) (b2.ex e3) (((Keep.of e1).trans k2).trans (Keep.of e3))
theorem TupAt.keepP {H H' : Hp} {p : Addr} {v : V} {zs : List V} (h : TupAt H v zs) (k : Keep p H H') (hp : ∃ xs, H p = some (.lst xs)) : TupAt H' v zs := by
  obtain ⟨t, rfl, ht⟩ := h
  obtain ⟨xs, hx⟩ := hp
  exact ⟨t, rfl, k _ _ (fun e => by rw [e, hx] at ht; cases ht) ht⟩
theorem TupAt.updL {H : Hp} {l : Addr} {v : V} {zs : List V} {o : HO} {xs : List V} (h : TupAt H v zs) (hl : H l = some (.lst xs)) : TupAt (L2.upd H l o) v zs := by
  obtain ⟨t, rfl, ht⟩ := h
  exact ⟨t, rfl, by rw [upd_ne (fun e => by rw [e, hl] at ht; cases ht)]; exact ht⟩
section
variable {P : Program} {w : World} {K : PySem.W.Frag} {mg : Str → Option Value} {base : Heap} {f DP DV DH RS : Addr} {fd : FuncData} {k : Nat}
theorem ok_law_built (T : Mg mg) (c_law_draw : CSrc P w K mg base) (c_law_letters : Call P w K mg base 4 "_law_letters" ["source"] spLt) (F : FnP K "_law_built" s_law_built f fd) (gm : mg "_law_built" = some (.ref f)) : Call P w K mg base 5 "_law_built" ["source"] spBu := by
  refine mk F gm (fun _ _ _ _ _ _ us hl => match us, hl with | [_], _ => rfl) (fun _ _ _ _ _ _ us hl => match us, hl with | [_], _ => rfl) sc_law_built (fun vs H Q E h => ?_) (fun cdv A outer s H vs Q E hr h => ?_)
  · obtain ⟨p, l0, m, rfl, _⟩ := h
    rfl
  · obtain ⟨p, l0, m, rfl, b, hm, q⟩ := h
    refine ⟨_, (pss_cons (ps_set (i := 1) sc_law_built.nd rfl (Or.inl rfl) (pe_op op_add pe_int (pe_f c_law_draw hr (by decide) rfl (pa_cons (pv 0) (pa_cons pe_int pa_nil)))))
    (pss_cons (ps_if (pt_cmpR op_eq (pe_f c_law_draw hr (by decide) rfl (pa_cons (pv 0) (pa_cons pe_int pa_nil))) pe_int (nomark _))
      (pss_one (ps_set (i := 1) sc_law_built.nd rfl (Or.inl rfl) (pe_op op_add (pv 1) pe_int)))
      pss_nil)
    (pss_cons (ps_set (i := 2) sc_law_built.nd rfl (Or.inl rfl) (pe_f c_law_draw hr (by decide) rfl (pa_cons (pv 0) (pa_cons pe_int pa_nil))))
    (pss_cons (ps_if (pt_cmpR op_eq (pe_f c_law_draw hr (by decide) rfl (pa_cons (pv 0) (pa_cons pe_int pa_nil))) pe_int (nomark _))
      (pss_one (ps_set (i := 2) sc_law_built.nd rfl (Or.inl rfl) (pe_op op_add (pv 2) (pe_f c_law_draw hr (by decide) rfl (pa_cons (pv 0) (pa_cons pe_int pa_nil))))))
      pss_nil)
    (pss_cons (ps_set (i := 3) sc_law_built.nd rfl (Or.inl rfl) (pe_lst pa_nil))
    (pss_cons (ps_for PassesOwn.never rfl (pi_range1 rfl T.range (pa_cons (pv 1) pa_nil)) (pg_name (i := 4) sc_law_built.nd rfl (Or.inl rfl))
      (pss_cons (ps_if (pt_cmpR op_gt (pv 4) pe_int (nomark _))
        (pss_one (ps_set (i := 2) sc_law_built.nd rfl (Or.inl rfl) (pe_op op_add (pv 2) (pe_ix ix_list (pe_lst (pa_cons pe_int (pa_cons pe_int (pa_cons pe_int (pa_cons pe_int pa_nil))))) (pe_f c_law_draw hr (by decide) rfl (pa_cons (pv 0) (pa_cons pe_int pa_nil))) (fun _ _ => rfl)))))
        pss_nil)
      (pss_cons (ps_set (i := 5) sc_law_built.nd rfl (Or.inl rfl) (pe_f c_law_letters hr (by decide) rfl (pa_cons (pv 0) pa_nil)))
      (pss_cons (ps_expr (pe_bm PySem.F.plainAttrs_list PySem.F.slot_list_append PySem.F.type_list_append mt_append (pv 3) (pa_cons (pe_tup (pa_cons (pv 2) (pa_cons (pv 5) pa_nil))) pa_nil)))
      (pss_one (ps_set (i := 2) sc_law_built.nd rfl (Or.inl rfl) (pe_op op_add (pv 2) (pe_callB cz_len (by rfl) T.len (by decide +kernel) (pa_cons (pv 5) pa_nil)))))))))
    (pss_one (ps_ret (pe_tup (pa_cons (pe_op op_add (pv 2) (pe_ix ix_list (pe_lst (pa_cons pe_int (pa_cons pe_int (pa_cons pe_int (pa_cons pe_int pa_nil))))) (pe_f c_law_draw hr (by decide) rfl (pa_cons (pv 0) (pa_cons pe_int pa_nil))) (fun _ _ => rfl))) (pa_cons (pv 3) pa_nil))))))))))), ?_⟩
    -- how many
    refine q_asgR ?_
    refine rd_ds (Q := fun v H => _) (ea_cons (ev_var rfl) (ea_cons ev_c ea_nil)) b (by omega) (by decide) (by decide) fun d1 H1 a0 a1 b1 k1 => ⟨1, d1, rfl, rfl, ?_⟩
    refine q_tailIf (fun σ1 Hx => ∃ c : Int, σ1 = [some (.ref p), some (.int c), none, none, none, none] ∧ 1 ≤ c ∧ c ≤ 13 ∧ Sr Hx p l0 (m + 2) ∧ Keep p H Hx) (fun σ1 H2 hR => ?_) (fun tail => ?_)
    rotate_left
    · refine rd_ds (Q := fun v H => _) (ea_cons (ev_var rfl) (ea_cons ev_c ea_nil)) b1 (by omega) (by decide) (by decide) fun d2 H2 _ _ b2 k2 => ⟨rfl, _, rfl, ite2 (fun _ => ?_) (fun _ => ?_)⟩
      · exact s_asg (v := .int (1 + d1 + 9)) (ev_op (ev_var rfl) ev_c rv_I0) fun H3 e3 => tail _ _ ⟨1 + d1 + 9, rfl, by omega, by omega, b2.ex e3, (k1.trans k2).trans (Keep.of e3)⟩
      · exact tail _ _ ⟨1 + d1, rfl, by omega, by omega, b2, k1.trans k2⟩
    obtain ⟨c, rfl, hc1, hc2, b2, k2⟩ := hR
    clear k1 b1
    refine q_asgR (rd_ds (Q := fun v H => _) (ea_cons (ev_var rfl) (ea_cons ev_c ea_nil)) b2 (by omega) (by decide) (by decide) fun d3 H3 c0 c1 b3 k3 => ?_)
    refine q_tailIf (fun σ1 Hx => ∃ st : Nat, σ1 = [some (.ref p), some (.int c), some (.int (st : Int)), none, none, none] ∧ st ≤ 900000 ∧ Sr Hx p l0 (m + 5) ∧ Keep p H Hx) (fun σ1 H4 hR => ?_) (fun tail => ?_)
    rotate_left
    · obtain ⟨n3, rfl⟩ := Int.eq_ofNat_of_zero_le c0
      refine rd_ds (Q := fun v H => _) (ea_cons (ev_var rfl) (ea_cons ev_c ea_nil)) b3 (by omega) (by decide) (by decide) fun d4 H4 _ _ b4 k4 => ⟨rfl, _, rfl, ite2 (fun _ => ?_) (fun _ => ?_)⟩
      · refine s_asgR ?_
        refine ⟨.int (n3 : Int), rfl, rd_ds (Q := fun v H => _) (ea_cons (ev_var rfl) (ea_cons ev_c ea_nil)) b4 (by omega) (by decide) (by decide) fun d5 H5 g0 g1 b5 k5 => ⟨(n3 : Int), d5, rfl, rfl, ?_⟩⟩
        obtain ⟨n5, rfl⟩ := Int.eq_ofNat_of_zero_le g0
        exact tail _ _ ⟨n3 + n5, rfl, by omega, b5, ((k2.trans k3).trans k4).trans k5⟩
      · exact tail _ _ ⟨n3, rfl, by omega, b4.up (by omega), (k2.trans k3).trans k4⟩
    obtain ⟨st0, rfl, hst, b4, k4⟩ := hR
    clear k2 k3 b2 b3
    refine q_asgL (el_lst ea_nil (by decide)) fun lp H5 nlp5 e5 hlp5 => ?_
    have nlp : H lp = none := b4.free k4 nlp5
    have nlpp : lp ≠ p := b4.ne nlp5
    have nlp0 : lp ≠ l0 := b4.ne0 nlp5
    refine q_forRm (n := c) (ea_cons (ev_var rfl) ea_nil) (by omega) (fun i σ' H' => ∃ (ps : List Pc) (ys : List V) (st : Nat) (x4 x5 : Option V), σ' = [some (.ref p), some (.int c), some (.int (st : Int)), some (.ref lp), x4, x5] ∧ ps.length = i ∧ pcsOk 0 ps ∧ pcsEnd 0 ps ≤ st ∧ st ≤ 900000 + 30 * i ∧ H' lp = some (.lst ys) ∧ Rel (PqAt H') ys ps ∧ Sr H' p l0 (m + 5 + 20 * i) ∧ Keep p H H') (fun H6 e6 => ⟨[], [], st0, none, none, rfl, rfl, trivial, Nat.zero_le _, by omega, e6 _ _ hlp5, Rel.nil, b4.ex (e5.trans e6), k4.trans (Keep.of (e5.trans e6))⟩) (fun i σ' H' hi pv => ?_) (fun σ' H' pv => ?_)
    · obtain ⟨ps, ys, st, x4, x5, rfl, hpl, hok, hend, hst2, hlp, hrel, b6, k6⟩ := pv
      have hi13 : i < 13 := by omega
      refine q_tailIf (fun σ1 Hx => ∃ st' : Nat, σ1 = [some (.ref p), some (.int c), some (.int (st' : Int)), some (.ref lp), some (.int (i : Int)), x5] ∧ st ≤ st' ∧ st' ≤ st + 5 ∧ Sr Hx p l0 (m + 6 + 20 * i) ∧ Keep p H' Hx) (fun σ1 H7 hR => ?_) (fun tail => ?_)
      rotate_left
      · refine q_if (b := decide ((0 : Int) < (i : Int))) (et_test (ev_op (ev_var rfl) ev_c rv_I0)) (fun hb H7 e7 => ?_) (fun hb H7 e7 => ?_)
        · refine s_asgR ?_
          refine ⟨.int (st : Int), rfl, rd_drI (K := K) (Q := fun v H => _) (is := [0, 0, 1, 5]) (el_lst (ea_cons ev_c (ea_cons ev_c (ea_cons ev_c (ea_cons ev_c ea_nil)))) (by show 4 ≤ 100000; decide)) (ev_var rfl) (b6.ex e7) (by omega) (by decide) (by decide) fun j H8 hj b8 k8 => ⟨(st : Int), j, rfl, rfl, ?_⟩⟩
          have hj2 : 0 ≤ j ∧ j ≤ 5 := (by decide : ∀ j ∈ ([0, 0, 1, 5] : List Int), 0 ≤ j ∧ j ≤ 5) j hj
          obtain ⟨nj, rfl⟩ := Int.eq_ofNat_of_zero_le hj2.1
          exact tail _ _ ⟨st + nj, rfl, by omega, by omega, b8.up (by omega), (Keep.of e7).trans k8⟩
        · exact tail _ _ ⟨st, rfl, by omega, by omega, (b6.ex e7).up (by omega), Keep.of e7⟩
      obtain ⟨st', rfl, hs1, hs2, b7, k7⟩ := hR
      refine q_asgR (rd_call (Q := fun v H => _) (ea_cons (ev_var rfl) ea_nil) fun H8 e8 => ⟨p, l0, _, rfl, b7.ex e8, by omega, fun t H9 t1 t2 t3 b9 k9 => ?_⟩)
      have k69 := (k7.trans (Keep.of e8)).trans k9
      have hlp9 := k69 _ _ nlpp hlp
      have hr9 : Rel (PqAt H9) ys ps := hrel.mono fun _ _ m => TupAt.keepP m k69 b6.has
      have hyl : ys.length ≤ 13 := by rw [hrel.1]; omega
      refine q_apC rfl hlp9 ?_
      refine (eu_tup (ea_cons (ev_var rfl) (ea_cons (ev_var rfl) ea_nil)) (by show 2 ≤ 100000; decide)) H9 (Ex.refl H9) _ fun pt H10 npt e10 hpt => ⟨lp, ys, .ref pt, rfl, rfl, e10 _ _ hlp9, sz_lt (by omega), ?_⟩
      have hlp10 := e10 _ _ hlp9
      have hlpx : (upd H10 lp (.lst (ys ++ [.ref pt]))) lp = some (.lst (ys ++ [.ref pt])) := upd_same
      have hrx : Rel (PqAt (upd H10 lp (.lst (ys ++ [.ref pt])))) (ys ++ [.ref pt]) (ps ++ [⟨st', t⟩]) := Rel.snoc (hr9.mono fun _ _ m => TupAt.updL (TupAt.ex m e10) hlp10) (TupAt.updL ⟨pt, rfl, hpt⟩ hlp10)
      have bx := (b9.ex e10).upd (o := .lst (ys ++ [.ref pt])) nlpp nlp0
      have kx := Keep.new (o := .lst (ys ++ [.ref pt])) ((k6.trans k69).trans (Keep.of e10)) nlp
      generalize upd H10 lp (.lst (ys ++ [.ref pt])) = HX at hlpx hrx bx kx
      refine s_asg (v := .int ((st' + t.length : Nat) : Int)) (ev_is (ev_op (ev_var rfl) (ev_lenStr (ev_var rfl) (by omega)) rv_I0) rfl) fun H11 e11 => ?_
      have hr11 : Rel (PqAt H11) (ys ++ [.ref pt]) (ps ++ [⟨st', t⟩]) := hrx.mono fun _ _ m => TupAt.ex m e11
      refine ⟨ps ++ [⟨st', t⟩], ys ++ [.ref pt], st' + t.length, some (.int (i : Int)), some (.str t), rfl, by rw [List.length_append, hpl]; rfl, pcsOk_snoc hok (by show pcsEnd 0 ps ≤ st'; omega) t1 t2 t3, ?_, by omega, e11 _ _ hlpx, hr11, (bx.ex e11).up (by omega), kx.trans (Keep.of e11)⟩
      rw [pcsEnd_snoc]
      exact Nat.le_refl _
    · obtain ⟨ps, ys, st, x4, x5, rfl, hpl, hok, hend, hst2, hlp, hrel, b6, k6⟩ := pv
      have hcl : (ps.length : Int) = c := by omega
      refine g_ret ?_
      refine rd_consR ⟨.int (st : Int), rfl, rd_drI (K := K) (Q := fun v H => _) (is := [0, 0, 1, 40]) (el_lst (ea_cons ev_c (ea_cons ev_c (ea_cons ev_c (ea_cons ev_c ea_nil)))) (by show 4 ≤ 100000; decide)) (ev_var rfl) b6 (by omega) (by decide) (by decide) fun j H8 hj b8 k8 => ⟨(st : Int), j, rfl, rfl, rd_consE (ev_var rfl) fun H9 e9 => rd_nil ⟨sz_of (by show 2 ≤ 100000; decide), fun u nu => ?_⟩⟩⟩
      have hj2 : 0 ≤ j ∧ j ≤ 40 := (by decide : ∀ j ∈ ([0, 0, 1, 40] : List Int), 0 ≤ j ∧ j ≤ 40) j hj
      obtain ⟨nj, rfl⟩ := Int.eq_ofNat_of_zero_le hj2.1
      have e10 := Ex.new nu (o := .tup [.int ((st : Int) + (nj : Int)), .ref lp])
      have k610 := (k8.trans (Keep.of e9)).trans (Keep.of e10)
      have k010 := (k6.trans k8).trans (Keep.of e9)
      exact q u lp (st + nj) ps ys _ ((b8.ex e9).free k010 nu) nlp upd_same (k610 _ _ nlpp hlp) (hrel.mono fun _ _ m => TupAt.keepP m k610 b6.has) (by omega) (by omega) hok (by omega) (by omega) (((b8.ex e9).ex e10).up (by omega)) (k6.trans k610)
end
end Z
set_option maxHeartbeats 4000000
namespace Z
open PySem PySem.Spec PyProof.Rows L2 TL Evl NdefX
/-! ### blocks written, texts bent -/
structure Bi where
  a : Int
  e : Int
  t : Int
  s : Str
def BlAt (H : Hp) (v : V) (x : Bi) : Prop := ∃ q, v = .ref q ∧ H q = some (.lst [.int x.a, .int x.e, .int x.t, .str x.s])
def okBi (c : Nat) (x : Bi) : Prop := x.a.natAbs ≤ c ∧ x.e.natAbs ≤ c ∧ x.t.natAbs ≤ c ∧ x.s.length ≤ 30 ∧ Pl x.s
abbrev nT (i : Int) : Str := PySem.Str.ofString (toString i)
theorem negT_tl (n : Nat) : tl (nT (Int.negSucc n)) = 45 :: numL (n + 1) := by
  have e : toString (Int.negSucc n) = "-" ++ toString (n + 1) := rfl
  show tl (PySem.Str.ofString (toString (Int.negSucc n))) = _
  rw [e, PySem.Str.ofString_eq_toList]
  show (String.toList ("-" ++ toString (n + 1))).map Char.toNat = _
  rw [String.toList_append, List.map_append]
  have h2 := tl_num (n + 1)
  rw [PySem.Str.ofString_eq_toList] at h2
  have h2 : (String.toList (toString (n + 1))).map Char.toNat = numL (n + 1) := h2
  rw [h2]
  rfl
theorem nT_sg (i : Int) : ∀ c ∈ tl (nT i), c = 45 ∨ (48 ≤ c ∧ c ≤ 57) := by
  cases i with
  | ofNat n =>
    intro c hc
    rw [show tl (nT (Int.ofNat n)) = numL n from tl_num n] at hc
    exact .inr (numL_digits n c hc)
  | negSucc n =>
    intro c hc
    rw [negT_tl] at hc
    rcases List.mem_cons.mp hc with h | h
    · exact .inl h
    · exact .inr (numL_digits _ c h)
theorem nT_len {i : Int} (h : i.natAbs < 10 ^ 7) : (nT i).length ≤ 8 ∧ 1 ≤ (nT i).length := by
  cases i with
  | ofNat n =>
    have h : n < 10 ^ 7 := h
    rw [len_tl, show tl (nT (Int.ofNat n)) = numL n from tl_num n]
    have := numL_len (n := n) (k := 7) (by decide) h
    exact ⟨by omega, List.length_pos_iff.mpr (numL_ne n)⟩
  | negSucc n =>
    have h : n + 1 < 10 ^ 7 := h
    rw [len_tl, negT_tl, List.length_cons]
    have := numL_len (n := n + 1) (k := 7) (by decide) h
    omega
def hdS (x : Bi) : Str := nT x.a ++ "-" ++ nT x.e ++ "/" ++ nT x.t
theorem pl_sg {z : Str} (h : ∀ c ∈ tl z, c = 45 ∨ c = 47 ∨ (48 ≤ c ∧ c ≤ 57)) : Pl z := fun c hc => by
  have k : ∀ c < 58, (c = 45 ∨ c = 47 ∨ 48 ≤ c) → c ∈ tl signs := by decide +kernel
  exact .inr (k c (by rcases h c hc with h | h | h <;> omega) (by rcases h c hc with h | h | h <;> omega))
theorem hdS_sg (x : Bi) : ∀ c ∈ tl (hdS x), c = 45 ∨ c = 47 ∨ (48 ≤ c ∧ c ≤ 57) := fun c hc => by
  have e1 : tl ("-" : Str) = [45] := by decide +kernel
  have e2 : tl ("/" : Str) = [47] := by decide +kernel
  unfold hdS at hc
  rw [tl_append, tl_append, tl_append, tl_append, e1, e2] at hc
  simp only [List.mem_append, List.mem_singleton] at hc
  rcases hc with (((h | h) | h) | h) | h
  · exact (nT_sg _ c h).imp id .inr
  · exact .inl h
  · exact (nT_sg _ c h).imp id .inr
  · exact .inr (.inl h)
  · exact (nT_sg _ c h).imp id .inr
theorem hdS_len {x : Bi} {c : Nat} (h : okBi c x) (hc : c < 10 ^ 7) : (hdS x).length ≤ 26 ∧ 1 ≤ (hdS x).length := by
  obtain ⟨h1, h2, h3, _⟩ := h
  have g1 := nT_len (i := x.a) (by omega)
  have g2 := nT_len (i := x.e) (by omega)
  have g3 := nT_len (i := x.t) (by omega)
  have e1 : ("-" : Str).length = 1 := by decide +kernel
  have e2 : ("/" : Str).length = 1 := by decide +kernel
  unfold hdS
  simp only [Str.length_append]
  omega
def blkT (x : Bi) : Str := "part " ++ hdS x ++ "\n" ++ x.s ++ "\n"
theorem blkT_len {x : Bi} {c : Nat} (h : okBi c x) (hc : c < 10 ^ 7) : (blkT x).length ≤ 70 := by
  have h1 := (hdS_len h hc).1
  have h2 := h.2.2.2.1
  have e1 : ("part " : Str).length = 5 := by decide +kernel
  have e2 : ("\n" : Str).length = 1 := by decide +kernel
  unfold blkT
  simp only [Str.length_append]
  omega
theorem blkT_pl {x : Bi} {c : Nat} (h : okBi c x) : Pl (blkT x) := by
  have e1 : Pl ("part " : Str) := by decide +kernel
  have e2 : Pl ("\n" : Str) := by decide +kernel
  exact (((e1.app (pl_sg (hdS_sg x))).app e2).app h.2.2.2.2).app e2
def wrB (xs : List Bi) : Str := Txt.join "" (xs.map blkT)
def spBt : Sp := fun vs H Q _ => ∃ (p l0 : Addr) (m : Nat) (z c : Str), vs = [.ref p, .str z, .str c] ∧ Sr H p l0 m ∧ m ≤ 900000 ∧ z.length ≤ 50000 ∧ c.length = 1 ∧ ∀ (t : Str) (H' : Hp), t.length ≤ z.length + 1 → (∀ x ∈ tl t, x ∈ tl z ∨ x ∈ tl c) → Sr H' p l0 (m + 2) → Keep p H H' → Q (.str t) H'
def spWh : Sp := fun vs H Q _ => ∃ v x c, vs = [v] ∧ BlAt H v x ∧ okBi c x ∧ c < 10 ^ 7 ∧ RetV (.str (hdS x)) H Q
def spWb : Sp := fun vs H Q _ => ∃ (q : Addr) (ys : List V) (xs : List Bi) (c : Nat), vs = [.ref q] ∧ H q = some (.lst ys) ∧ Rel (BlAt H) ys xs ∧ (∀ x ∈ xs, okBi c x) ∧ c < 10 ^ 7 ∧ xs.length ≤ 100 ∧ RetV (.str (wrB xs)) H Q
theorem BlAt.ex {H H' : Hp} {v : V} {x : Bi} (h : BlAt H v x) (e : Ex H H') : BlAt H' v x := by
  obtain ⟨q, rfl, hq⟩ := h
  exact ⟨q, rfl, e _ _ hq⟩
theorem sum_le (ss : List Str) (k : Nat) (h : ∀ s ∈ ss, s.length ≤ k) : (ss.map (·.length)).sum ≤ ss.length * k := by
  induction ss with
  | nil => exact Nat.zero_le _
  | cons a r ih =>
    have h1 := h a List.mem_cons_self
    have h2 := ih fun s hs => h s (List.mem_cons_of_mem _ hs)
    rw [List.map_cons, List.sum_cons, List.length_cons, Nat.succ_mul]
    omega
theorem wrB_len {xs : List Bi} {c : Nat} (h : ∀ x ∈ xs, okBi c x) (hc : c < 10 ^ 7) : (wrB xs).length ≤ xs.length * 70 := by
  unfold wrB
  rw [lenTJ]
  have := sum_le (xs.map blkT) 70 fun s hs => by
    obtain ⟨x, hx, rfl⟩ := List.mem_map.mp hs
    exact blkT_len (h x hx) hc
  rw [List.length_map] at this
  exact this
theorem wrB_pl {xs : List Bi} {c : Nat} (h : ∀ x ∈ xs, okBi c x) : Pl (wrB xs) := fun y hy => by
  unfold wrB at hy
  rw [tlTJ] at hy
  obtain ⟨s, hs, hys⟩ := List.mem_flatMap.mp hy
  obtain ⟨x, hx, rfl⟩ := List.mem_map.mp hs
  exact blkT_pl (h x hx) y hys
section
variable {P : Program} {w : World} {K : PySem.W.Frag} {mg : Str → Option Value} {base : Heap} {f DP DV DH RS : Addr} {fd : FuncData} {k : Nat}
theorem ok_law_bent_text (T : Mg mg) (c_law_draw : CSrc P w K mg base) (F : FnP K "_law_bent_text" s_law_bent_text f fd) (gm : mg "_law_bent_text" = some (.ref f)) : Call P w K mg base 3 "_law_bent_text" ["source", "word", "char"] spBt := by
  refine mk F gm (fun _ _ _ _ _ _ us hl => match us, hl with | [_, _, _], _ => rfl) (fun _ _ _ _ _ _ us hl => match us, hl with | [_, _, _], _ => rfl) sc_law_bent_text (fun vs H Q E h => ?_) (fun cdv A outer s H vs Q E hr h => ?_)
  · obtain ⟨p, l0, m, z, c, rfl, _⟩ := h
    rfl
  · obtain ⟨p, l0, m, z, c, rfl, b, hm, hz, hc, q⟩ := h
    refine ⟨_, (pss_cons (ps_set (i := 3) sc_law_bent_text.nd rfl (Or.inl rfl) (pe_f c_law_draw hr (by decide) rfl (pa_cons (pv 0) (pa_cons (pe_op op_add (pe_callB cz_len (by rfl) T.len (by decide +kernel) (pa_cons (pv 1) pa_nil)) pe_int) pa_nil))))
    (pss_cons (ps_set (i := 4) sc_law_bent_text.nd rfl (Or.inl rfl) (pe_f c_law_draw hr (by decide) rfl (pa_cons (pv 0) (pa_cons pe_int pa_nil))))
    (pss_cons (ps_if (pt_cmpR op_eq (pv 4) pe_int (nomark _))
      (pss_one (ps_ret (pe_op oz_add (pe_op oz_add (pe_slice sl_str (pv 1) po_none (po_some (pv 3))) (pv 2)) (pe_slice sl_str (pv 1) (po_some (pv 3)) po_none))))
      pss_nil)
    (pss_cons (ps_if (pt_cmpR op_eq (pv 4) pe_int (nomark _))
      (pss_one (ps_ret (pe_op oz_add (pe_op oz_add (pe_slice sl_str (pv 1) po_none (po_some (pv 3))) (pv 2)) (pe_slice sl_str (pv 1) (po_some (pe_op op_add (pv 3) pe_int)) po_none))))
      pss_nil)
    (pss_one (ps_ret (pe_op oz_add (pe_slice sl_str (pv 1) po_none (po_some (pv 3))) (pe_slice sl_str (pv 1) (po_some (pe_op op_add (pv 3) pe_int)) po_none)))))))), ?_⟩
    refine q_asgR (rd_ds (Q := fun v H => _) (ea_cons (ev_var rfl) (ea_cons (ev_op (ev_lenStr (ev_var rfl) (by omega)) ev_c rv_I0) ea_nil)) b (by omega) (by omega) (by omega) fun d H1 d0 d1 b1 k1 => ?_)
    obtain ⟨i, rfl⟩ := Int.eq_ofNat_of_zero_le d0
    refine q_asgR (rd_ds (Q := fun v H => _) (ea_cons (ev_var rfl) (ea_cons ev_c ea_nil)) b1 (by omega) (by decide) (by decide) fun wy H2 _ _ b2 k2 => ?_)
    have g1 := preT_len z i
    have g2 := sufT_len z i
    have g3 := sufT_len z (i + 1)
    have l1 : (preT z i).length + (sufT z i).length = z.length := by
      rw [← len_tl', ← len_tl', ← len_tl', tl_pre, tl_suf, ← List.length_append, List.take_append_drop]
    have l3 : (sufT z (i + 1)).length ≤ (sufT z i).length := by
      rw [← len_tl', ← len_tl', tl_suf, tl_suf, List.length_drop, List.length_drop]
      omega
    have s1 : ∀ x ∈ tl (preT z i), x ∈ tl z := fun x hx => List.mem_of_mem_take hx
    have s2 : ∀ j, ∀ x ∈ tl (sufT z j), x ∈ tl z := fun j x hx => List.mem_of_mem_drop hx
    have v1 : ∀ {σ : L2.St} {H' : Hp}, σ[1]? = some (some (.str z)) → σ[3]? = some (some (.int (i : Int))) → Ev (tSl rSlS (tVar 1) tNoPart (tPart (tVar 3))) σ H' (.str (preT z i)) := fun h1 h2 => ev_is (ev_slS (ev_var h1) eo_none (eo_some (ev_var h2)) (by omega)) (congrArg V.str (cutTo z i))
    have v2 : ∀ {σ : L2.St} {H' : Hp}, σ[1]? = some (some (.str z)) → σ[3]? = some (some (.int (i : Int))) → Ev (tSl rSlS (tVar 1) (tPart (tVar 3)) tNoPart) σ H' (.str (sufT z i)) := fun h1 h2 => ev_is (ev_slS (ev_var h1) (eo_some (ev_var h2)) eo_none (by omega)) (congrArg V.str (cutFrom z i))
    have v3 : ∀ {σ : L2.St} {H' : Hp}, σ[1]? = some (some (.str z)) → σ[3]? = some (some (.int (i : Int))) → Ev (tSl rSlS (tVar 1) (tPart (tOp (rI0 fun i j => .int (i + j)) (tVar 3) (tC (.int 1)))) tNoPart) σ H' (.str (sufT z (i + 1))) := fun h1 h2 => ev_is (ev_slS (ev_var h1) (eo_some (ev_op (ev_var h2) ev_c rv_I0)) eo_none (by omega)) (congrArg V.str (cutFrom z (i + 1)))
    have k02 := k1.trans k2
    refine q_when (b := decide (wy = 0)) (et_test (ev_op (ev_var rfl) ev_c rv_eqI)) (fun _ H3 e3 => ?_) (fun _ H3 e3 => ?_)
    · refine s_ret (ev_op (ev_op (v1 rfl rfl) (ev_var rfl) (rv_addS (by omega))) (v2 rfl rfl) (rv_addS (by rw [Str.length_append]; omega))) fun H4 e4 => q _ H4 (by rw [Str.length_append, Str.length_append]; omega) (fun x hx => ?_) ((b2.ex (e3.trans e4)).up (by omega)) (k02.trans (Keep.of (e3.trans e4)))
      rw [tl_append, tl_append] at hx
      rcases List.mem_append.mp hx with hx | hx
      · rcases List.mem_append.mp hx with hx | hx
        · exact .inl (s1 x hx)
        · exact .inr hx
      · exact .inl (s2 _ x hx)
    · refine q_when (b := decide (wy = 1)) (et_test (ev_op (ev_var rfl) ev_c rv_eqI)) (fun _ H4 e4 => ?_) (fun _ H4 e4 => ?_)
      · refine s_ret (ev_op (ev_op (v1 rfl rfl) (ev_var rfl) (rv_addS (by omega))) (v3 rfl rfl) (rv_addS (by rw [Str.length_append]; omega))) fun H5 e5 => q _ H5 (by rw [Str.length_append, Str.length_append]; omega) (fun x hx => ?_) ((b2.ex ((e3.trans e4).trans e5)).up (by omega)) (k02.trans (Keep.of ((e3.trans e4).trans e5)))
        rw [tl_append, tl_append] at hx
        rcases List.mem_append.mp hx with hx | hx
        · rcases List.mem_append.mp hx with hx | hx
          · exact .inl (s1 x hx)
          · exact .inr hx
        · exact .inl (s2 _ x hx)
      · refine s_ret (ev_op (v1 rfl rfl) (v3 rfl rfl) (rv_addS (by omega))) fun H5 e5 => q _ H5 (by rw [Str.length_append]; omega) (fun x hx => ?_) ((b2.ex ((e3.trans e4).trans e5)).up (by omega)) (k02.trans (Keep.of ((e3.trans e4).trans e5)))
        rw [tl_append] at hx
        rcases List.mem_append.mp hx with hx | hx
        · exact .inl (s1 x hx)
        · exact .inl (s2 _ x hx)
theorem ok_law_written_head (T : Mg mg) (F : FnP K "_law_written_head" s_law_written_head f fd) (gm : mg "_law_written_head" = some (.ref f)) : Call P w K mg base 1 "_law_written_head" ["block"] spWh := by
  refine mk F gm (fun _ _ _ _ _ _ us hl => match us, hl with | [_], _ => rfl) (fun _ _ _ _ _ _ us hl => match us, hl with | [_], _ => rfl) sc_law_written_head (fun vs H Q E h => ?_) (fun cdv A outer s H vs Q E hr h => ?_)
  · obtain ⟨v, x, c, rfl, _⟩ := h
    rfl
  · obtain ⟨v, x, c, rfl, ⟨b, rfl, hb⟩, hx, hc, q⟩ := h
    refine ⟨_, (pss_one (ps_ret (pe_op oz_add (pe_op oz_add (pe_op oz_add (pe_op oz_add (pe_callTy cz_str (by rfl) T.str (by decide +kernel) (pa_cons (pe_ix ix_list (pv 0) pe_int (fun _ _ => rfl)) pa_nil)) pe_str) (pe_callTy cz_str (by rfl) T.str (by decide +kernel) (pa_cons (pe_ix ix_list (pv 0) pe_int (fun _ _ => rfl)) pa_nil))) pe_str) (pe_callTy cz_str (by rfl) T.str (by decide +kernel) (pa_cons (pe_ix ix_list (pv 0) pe_int (fun _ _ => rfl)) pa_nil))))), ?_⟩
    obtain ⟨h1, h2, h3, _⟩ := id hx
    have g1 := nT_len (i := x.a) (by omega)
    have g2 := nT_len (i := x.e) (by omega)
    have g3 := nT_len (i := x.t) (by omega)
    have e1 : ("-" : Str).length = 1 := by decide +kernel
    have e2 : ("/" : Str).length = 1 := by decide +kernel
    have big : ∀ i : Int, i.natAbs < 10 ^ 7 → i.natAbs < 2 ^ 1920 := fun i h => Nat.lt_of_lt_of_le (show i.natAbs < 2 ^ 24 by omega) (Nat.pow_le_pow_right (by decide) (by decide))
    have I : ∀ {σ : L2.St} {H' : Hp} (j : Nat) {i : Int}, i.natAbs < 10 ^ 7 → Ex H H' → σ[0]? = some (some (.ref b)) → [V.int x.a, .int x.e, .int x.t, .str x.s][j]? = some (.int i) → Ev (tCB rStrI (tCons (tOp (rIxL K) (tVar 0) (tC (.int (j : Int)))) tNil)) σ H' (.str (nT i)) := fun j i hi e h0 hv => ev_strI (ev_ixL (ev_var h0) ev_c (e _ _ hb) (atI_nat hv)) (big i hi)
    exact s_ret (v := .str (hdS x)) (ev_op (ev_op (ev_op (ev_op (I 0 (by omega) (Ex.refl H) rfl rfl) ev_c (rv_addS (by omega))) (I 1 (by omega) (Ex.refl H) rfl rfl) (rv_addS (by rw [Str.length_append]; omega))) ev_c (rv_addS (by simp only [Str.length_append]; omega))) (I 2 (by omega) (Ex.refl H) rfl rfl) (rv_addS (by simp only [Str.length_append]; omega))) q
theorem ok_law_written (T : Mg mg) (c_law_written_head : Call P w K mg base 1 "_law_written_head" ["block"] spWh) (F : FnP K "_law_written" s_law_written f fd) (gm : mg "_law_written" = some (.ref f)) : Call P w K mg base 2 "_law_written" ["blocks"] spWb := by
  refine mk F gm (fun _ _ _ _ _ _ us hl => match us, hl with | [_], _ => rfl) (fun _ _ _ _ _ _ us hl => match us, hl with | [_], _ => rfl) sc_law_written (fun vs H Q E h => ?_) (fun cdv A outer s H vs Q E hr h => ?_)
  · obtain ⟨q, ys, xs, c, rfl, _⟩ := h
    rfl
  · obtain ⟨l, ys, xs, c, rfl, hl, hrel, hok, hc, hn, q⟩ := h
    refine ⟨_, (pss_one (ps_ret (pe_bm PySem.F.plainAttrs_str PySem.F.slot_str_join PySem.F.type_str_join mz_join pe_str (pa_cons (pe_lc (own := [("block", 1)]) (g := gName 1) (tt := tYes) rfl sc_law_written.nd (pi_list (pv 0)) (blkOk_by (N := ["blocks", "block"]) (sc := L2.defScope s_law_written) (by decide +kernel)) (fun _ _ _ _ _ => pg_name (i := 1) sc_law_written.nd rfl (Or.inl rfl)) (fun _ _ _ _ _ => pts_nil) (fun _ _ _ _ _ => (pe_op oz_add (pe_op oz_add (pe_op oz_add (pe_op oz_add pe_str (pe_f c_law_written_head hr (by decide) rfl (pa_cons (pv 1) pa_nil))) pe_str) (inK (K := K) (t := fun K => tOp (rIxL K) _ _) rfl (pe_ix ix_list (pv 1) pe_int (fun _ _ => rfl)))) pe_str))) pa_nil)))), ?_⟩
    have e0 : (("" : Str)).length = 0 := by decide +kernel
    have hwl := wrB_len hok hc
    unfold wrB at hwl
    rw [lenTJ] at hwl
    have e2 := Ex.refl H
    refine g_ret ⟨rfl, .ref l, rfl, l, rfl, ⟨_, sq_of hl⟩, fun D hD => ?_⟩
    refine lc_rel (α := Str) (fun i => (xs.take i).map blkT) (fun _ v s => v = .str s) (fun _ _ _ _ _ _ h => h) (sq_of hl) hD rfl (by rw [hrel.1]; omega) (fun i y H3 hi e3 k k0 hk _ => ?_) (fun H3 zs e3 hy hr => ?_)
    · obtain ⟨x, ho, b, rfl, hb⟩ := hrel.get hi
      have e03 := e2.trans e3
      have hx := hok x (List.mem_of_getElem? ho)
      have hh := hdS_len hx hc
      have hs := hx.2.2.2.1
      have l1 : ("part " : Str).length = 5 := by decide +kernel
      have l2 : ("\n" : Str).length = 1 := by decide +kernel
      refine ⟨rfl, ?_⟩
      unfold tYes
      dsimp only
      rw [if_pos rfl]
      refine (ev_op (ev_op (ev_op (ev_op ev_c (ev_call (E := E0) (sp := spWh) (z := .str (hdS x)) (ea_cons (ev_var (i := 1) rfl) ea_nil) fun H4 e4 Q' q' E' => ⟨.ref b, x, c, rfl, ⟨b, rfl, (e03.trans e4) _ _ hb⟩, hx, hc, q'⟩) (rv_addS (by omega))) ev_c (rv_addS (by simp only [Str.length_append]; omega))) (ev_ixL (ev_var (i := 1) rfl) ev_c (e03 _ _ hb) (atI_nat (j := 3) rfl)) (rv_addS (by simp only [Str.length_append]; omega))) ev_c (rv_addS (by simp only [Str.length_append]; omega))) H3 (Ex.refl H3) _ fun H4 e4 => hk _ H4 (blkT x) e4 ?_ rfl
      show (xs.take (i + 1)).map blkT = _
      rw [List.take_add_one, ho, List.map_append]
      rfl
    · rw [hrel.1, List.take_length] at hr
      rw [rel_strB hr] at hy
      exact ⟨"", D, xs.map blkT, rfl, rfl, .inl (sq_of hy), by rw [e0, Nat.mul_zero]; exact sz_of (by omega), q H3 (e2.trans e3)⟩
end
end Z
set_option maxHeartbeats 4000000
namespace Z
open PySem PySem.Spec PyProof.Rows L2 TL Evl NdefX
/-! ### blocks bent -/
theorem rd_lcL {K : PySem.W.Frag} {σ : L2.St} {H : Hp} {tl te : TE} {a : Addr} {xs : List V} {j : Nat} {vs : List Nat} {Q : VK} (row : Nat → List V) (h : Ev tl σ H (.ref a)) (hx : H a = some (.lst xs)) (hz : xs.length ≤ 1000) (hw : ∀ x, wipe ((wipe σ vs).set j (some x)) vs = wipe σ vs)
    (he : ∀ (i : Nat) (x : V) H1, Ex H H1 → xs[i]? = some x → EvL te ((wipe σ vs).set j (some x)) H1 (row i)) (k : ∀ p H1, H p = none → Ex H H1 → (∃ ys, H1 p = some (.lst ys) ∧ Rel (fun v r => ∃ q, v = .ref q ∧ H q = none ∧ q ≠ p ∧ H1 q = some (.lst r)) ys ((List.range xs.length).map row)) → Q (.ref p) H1) : tLc (iList K tl) (gName j) tYes te vs σ H Q :=
  h H (Ex.refl H) _ fun H1 e1 => ⟨a, rfl, ⟨xs, sq_of (e1 _ _ hx)⟩, fun D hD => lc_list (xs := xs) (fun i H' => Ex H1 H' ∧ ∃ ys, H' D = some (.lst ys) ∧ Rel (fun v r => ∃ q, v = .ref q ∧ H q = none ∧ q ≠ D ∧ H' q = some (.lst r)) ys ((List.range i).map row)) ⟨Ex.new hD, [], upd_same, Rel.nil⟩ (fun i H' _ p => sq_of ((e1.trans p.1) _ _ hx)) (fun i x H' hi p => by
    obtain ⟨e2, ys, hy, hr⟩ := p
    have hl : ys.length = i := by rw [hr.1, List.length_map, List.length_range]
    have hi2 := (List.getElem?_eq_some_iff.mp hi).1
    refine ⟨hw x, ?_⟩
    unfold tYes
    dsimp only
    rw [if_pos rfl]
    refine he i x H' (e1.trans e2) hi _ (Ex.refl _) _ fun q H5 nq e5 hq => ?_
    have nD : q ≠ D := fun z => by rw [z, hy] at nq; cases nq
    refine ⟨ys, e5 _ _ hy, sz_lt (by omega), Ex.mut (e2.trans e5) hD, ys ++ [.ref q], upd_same, ?_⟩
    rw [List.range_succ, List.map_append]
    refine Rel.snoc (hr.mono fun v r ⟨q2, h1, h2, h3, h4⟩ => ⟨q2, h1, h2, h3, by show upd _ _ _ _ = _; rw [upd_ne h3]; exact e5 _ _ h4⟩) ⟨q, rfl, fresh_back (e1.trans e2) nq, nD, by show upd _ _ _ _ = _; rw [upd_ne nD]; exact hq⟩) (fun H' p => by
    obtain ⟨e2, ys, hy, hr⟩ := p
    exact k D H' (fresh_back e1 hD) (e1.trans e2) ⟨ys, hy, hr.mono fun v r ⟨q2, h1, h2, h3, h4⟩ => ⟨q2, h1, h2, h3, h4⟩⟩)⟩
section
variable {K : PySem.W.Frag}
theorem el_listG {K : PySem.W.Frag} {σ : L2.St} {H : Hp} {te : TE} {a : Addr} {xs : List V} (h : Ev te σ H (.ref a)) (hx : H a = some (.lst xs) ∨ SqT K H a xs) : EvL (tCB (rListS K) (tCons te tNil)) σ H xs := fun H1 e Q q =>
  h H1 e _ fun H2 e2 => ⟨a, xs, rfl, hx.imp (fun z => sq_of ((e.trans e2) _ _ z)) (fun z => ex_t (e.trans e2) z), fun p hp => q p _ (fresh_back e2 hp) (e2.trans (Ex.new hp)) upd_same⟩
theorem el_listS {K : PySem.W.Frag} {σ : L2.St} {H : Hp} {te : TE} {l : Addr} {xs : List V} (h : Ev te σ H (.ref l)) (hl : H l = some (.lst xs)) : EvL (tCB (rListS K) (tCons te tNil)) σ H xs := el_listG h (.inl hl)
end
theorem ev_pickB {K : PySem.W.Frag} {σ : L2.St} {H : Hp} {ta : TA} {tb : TE} {vs : List V} {i : Int} {v : V} (ha : EvA ta σ H vs) (hl : vs.length ≤ 100000) (hi : Ev tb σ H (.int i)) (hv : atI vs i = some v) : Ev (tOp (rIxL K) (tLst ta) tb) σ H v := fun H1 e Q q =>
  (el_lst ha hl) H1 e _ fun a H2 na e2 h2 => hi H2 (e.trans e2) _ fun H3 e3 => rv_ixL (sq_of (e3 _ _ h2)) hv H3 (Ex.refl H3) _ fun H4 e4 => q H4 ((e2.trans e3).trans e4)
theorem s_asgSub {te ta tb : TE} {σ : L2.St} {H : Hp} {D : Ends} (h : te σ H fun v H1 => ta σ H1 fun o H2 => tb σ H2 fun i H3 => rSetL o i v H3 fun H4 => D.nx σ H4) : tAsg te (gSub ta tb rSetL) D σ H := h
def biL (x : Bi) : List V := [.int x.a, .int x.e, .int x.t, .str x.s]
def okB2 (c d : Nat) (x : Bi) : Prop := x.a.natAbs ≤ c ∧ x.e.natAbs ≤ c ∧ x.t.natAbs ≤ c ∧ x.s.length ≤ d ∧ Pl x.s
/-- a list of blocks, the list and the blocks new since H0 -/
def BnAt (H0 H : Hp) (lb : Addr) (zs : List V) (c d : Nat) : Prop := H lb = some (.lst zs) ∧ H0 lb = none ∧ ∀ v ∈ zs, ∃ q x, v = .ref q ∧ H0 q = none ∧ q ≠ lb ∧ H q = some (.lst (biL x)) ∧ okB2 c d x
section
variable {H0 H H' : Hp} {lb p : Addr} {zs : List V} {c d c' d' : Nat}
theorem BnAt.ex (h : BnAt H0 H lb zs c d) (e : Ex H H') : BnAt H0 H' lb zs c d := by
  obtain ⟨h1, h2, h3⟩ := h
  refine ⟨e _ _ h1, h2, fun v hv => ?_⟩
  obtain ⟨q, x, g1, g2, g3, g4, g5⟩ := h3 v hv
  exact ⟨q, x, g1, g2, g3, e _ _ g4, g5⟩
theorem BnAt.keep (h : BnAt H0 H lb zs c d) (k : Keep p H H') (hp : ∃ xs, H0 p = some (.lst xs)) : BnAt H0 H' lb zs c d := by
  obtain ⟨h1, h2, h3⟩ := h
  obtain ⟨xs, hp⟩ := hp
  have np : ∀ {q}, H0 q = none → q ≠ p := fun h e => by rw [e, hp] at h; cases h
  refine ⟨k _ _ (np h2) h1, h2, fun v hv => ?_⟩
  obtain ⟨q, x, g1, g2, g3, g4, g5⟩ := h3 v hv
  exact ⟨q, x, g1, g2, g3, k _ _ (np g2) g4, g5⟩
theorem BnAt.up (h : BnAt H0 H lb zs c d) (hc : c ≤ c') (hd : d ≤ d') : BnAt H0 H lb zs c' d' := by
  obtain ⟨h1, h2, h3⟩ := h
  refine ⟨h1, h2, fun v hv => ?_⟩
  obtain ⟨q, x, g1, g2, g3, g4, g5, g6, g7, g8, g9⟩ := h3 v hv
  exact ⟨q, x, g1, g2, g3, g4, by omega, by omega, by omega, by omega, g9⟩
theorem BnAt.setIn {q : Addr} {x : Bi} {L : List V} (h : BnAt H0 H lb zs c d) (nq : q ≠ lb) (hL : L = biL x) (ok : okB2 c d x) : BnAt H0 (upd H q (.lst L)) lb zs c d := by
  subst hL
  obtain ⟨h1, h2, h3⟩ := h
  refine ⟨by rw [upd_ne (Ne.symm nq)]; exact h1, h2, fun v hv => ?_⟩
  obtain ⟨q', y, g1, g2, g3, g4, g5⟩ := h3 v hv
  by_cases e : q' = q
  · subst e
    exact ⟨q', x, g1, g2, g3, upd_same, ok⟩
  · exact ⟨q', y, g1, g2, g3, by rw [upd_ne e]; exact g4, g5⟩
theorem BnAt.setOut {r : Addr} {x : Bi} {L : List V} (h : BnAt H0 H lb zs c d) (hL : ∀ v ∈ L, v ∈ zs ∨ v = .ref r) (nr : H0 r = none) (nl : r ≠ lb) (hr : H r = some (.lst (biL x))) (ok : okB2 c d x) : BnAt H0 (upd H lb (.lst L)) lb L c d := by
  obtain ⟨h1, h2, h3⟩ := h
  refine ⟨upd_same, h2, fun v hv => ?_⟩
  rcases hL v hv with hv | hv
  · obtain ⟨q', y, g1, g2, g3, g4, g5⟩ := h3 v hv
    exact ⟨q', y, g1, g2, g3, by rw [upd_ne g3]; exact g4, g5⟩
  · exact ⟨r, x, hv, nr, nl, by rw [upd_ne nl]; exact hr, ok⟩
end
theorem s_apB {K : PySem.W.Frag} {σ : L2.St} {H : Hp} {D : Ends} {te : TE} {i : Nat} {l : Addr} {xs : List V} (hi : σ[i]? = some (some (.ref l))) (hl : H l = some (.lst xs)) (h : te σ H fun y H2 => rAppend (.ref l) [y] H2 fun _ H3 => D.nx σ H3) : tDrop (tBM K "list" rAppend (tVar i) (tCons te tNil)) D σ H := ⟨_, hi, Or.inl ⟨rfl, xs, sq_of hl⟩, h⟩
theorem cutV_fromB {xs : List V} {i : Nat} (h : i ≤ xs.length) : cutV xs (some (i : Int)) none = xs.drop i := by
  unfold cutV
  rw [HT.sIx_none, show HT.sIx xs.length 0 (some (i : Int)) = min i xs.length from HT.sIx_nat _ _ i, Nat.min_eq_left h]
  exact List.take_of_length_le (by rw [List.length_drop]; exact Nat.le_refl _)
theorem cutV_toB {xs : List V} {i : Nat} (h : i ≤ xs.length) : cutV xs none (some (i : Int)) = xs.take i := by
  unfold cutV
  rw [HT.sIx_none, show HT.sIx xs.length xs.length (some (i : Int)) = min i xs.length from HT.sIx_nat _ _ i, Nat.min_eq_left h, List.drop_zero, Nat.sub_zero]
theorem el_slB {K : PySem.W.Frag} {σ : L2.St} {H : Hp} {te : TE} {tlo thi : TO} {lo hi : Option Int} {l : Addr} {xs : List V} (h : Ev te σ H (.ref l)) (hl : H l = some (.lst xs)) (h1 : EvO tlo σ H lo) (h2 : EvO thi σ H hi) : EvL (tSl (rSlL K) te tlo thi) σ H (cutV xs lo hi) := fun H1 e Q q =>
  h H1 e _ fun H2 e2 => h1 H2 (e.trans e2) _ fun H3 e3 => h2 H3 ((e.trans e2).trans e3) _ fun H4 e4 => ⟨l, xs, rfl, sq_of ((((e.trans e2).trans e3).trans e4) _ _ hl), fun p np => q p _ (fresh_back ((e2.trans e3).trans e4) np) (((e2.trans e3).trans e4).trans (Ex.new np)) upd_same⟩
theorem el_catLB {σ : L2.St} {H : Hp} {te tb : TE} {xs zs : List V} (ha : EvL te σ H xs) (hb : EvL tb σ H zs) (hz : xs.length + zs.length ≤ 100000) : EvL (tOp rCat te tb) σ H (xs ++ zs) := fun H1 e Q q =>
  ha H1 e _ fun a H2 na e2 h2 => hb H2 (e.trans e2) _ fun b H3 nb e3 h3 => ⟨a, b, xs, zs, rfl, rfl, e3 _ _ h2, h3, sz_of hz, fun p np => q p _ (fresh_back (e2.trans e3) np) ((e2.trans e3).trans (Ex.new np)) upd_same⟩
theorem bump {x : Bi} {c d : Nat} (ok : okB2 c d x) (j : Nat) (h : j < 3) : ∃ y : Int, (biL x)[j]? = some (.int y) ∧ ∀ e : Int, e.natAbs ≤ 50 → ∃ x', (biL x).set j (.int (y + e)) = biL x' ∧ okB2 (c + 100) d x' := by
  obtain ⟨h1, h2, h3, h4, h5⟩ := ok
  match j, h with
  | 0, _ => exact ⟨x.a, rfl, fun e he => ⟨⟨x.a + e, x.e, x.t, x.s⟩, rfl, by show (x.a + e).natAbs ≤ _; omega, by show x.e.natAbs ≤ _; omega, by show x.t.natAbs ≤ _; omega, h4, h5⟩⟩
  | 1, _ => exact ⟨x.e, rfl, fun e he => ⟨⟨x.a, x.e + e, x.t, x.s⟩, rfl, by show x.a.natAbs ≤ _; omega, by show (x.e + e).natAbs ≤ _; omega, by show x.t.natAbs ≤ _; omega, h4, h5⟩⟩
  | 2, _ => exact ⟨x.t, rfl, fun e he => ⟨⟨x.a, x.e, x.t + e, x.s⟩, rfl, by show x.a.natAbs ≤ _; omega, by show x.e.natAbs ≤ _; omega, by show (x.t + e).natAbs ≤ _; omega, h4, h5⟩⟩
theorem okB2.txt {x : Bi} {c d d' : Nat} {t : Str} (ok : okB2 c d x) (hl : t.length ≤ d') (hp : Pl t) : okB2 c d' ⟨x.a, x.e, x.t, t⟩ := by
  obtain ⟨h1, h2, h3, h4, h5⟩ := ok
  exact ⟨h1, h2, h3, hl, hp⟩
def spBb : Sp := fun vs H Q _ => ∃ (p l0 : Addr) (m : Nat) (qb : Addr) (ys : List V) (xs : List Bi) (c : Nat), vs = [.ref p, .ref qb] ∧ Sr H p l0 m ∧ m ≤ 100000 ∧ H qb = some (.lst ys) ∧ Rel (BlAt H) ys xs ∧ (∀ x ∈ xs, okB2 c 20 x ∧ 1 ≤ x.s.length) ∧ c ≤ 5000000 ∧ 1 ≤ xs.length ∧ xs.length ≤ 13 ∧
  ∀ (r : Addr) (zs : List V) (H' : Hp), BnAt H H' r zs (c + 100) 30 → zs.length ≤ 14 → Sr H' p l0 (m + 10) → Keep p H H' → Q (.ref r) H'
section
variable {P : Program} {w : World} {K : PySem.W.Frag} {mg : Str → Option Value} {base : Heap} {f DP DV DH RS : Addr} {fd : FuncData} {k : Nat}
theorem ok_law_bent_blocks (T : Mg mg) (c_law_draw : CSrc P w K mg base) (c_law_char : Call P w K mg base 3 "_law_char" ["source"] spCh) (F : FnP K "_law_bent_blocks" s_law_bent_blocks f fd) (gm : mg "_law_bent_blocks" = some (.ref f)) : Call P w K mg base 4 "_law_bent_blocks" ["source", "blocks"] spBb := by
  refine mk F gm (fun _ _ _ _ _ _ us hl => match us, hl with | [_, _], _ => rfl) (fun _ _ _ _ _ _ us hl => match us, hl with | [_, _], _ => rfl) sc_law_bent_blocks (fun vs H Q E h => ?_) (fun cdv A outer s H vs Q E hr h => ?_)
  · obtain ⟨p, l0, m, qb, ys, xs, c, rfl, _⟩ := h
    rfl
  · obtain ⟨p, l0, m, qb, ys, xs, c, rfl, b, hm, hqb, hrel, hok, hc, hn1, hn13, q⟩ := h
    refine ⟨_, (pss_cons (ps_setLc (i := 2) (own := [("block", 3)]) (g := gName 3) (tt := tYes) rfl sc_law_bent_blocks.nd rfl rfl (sw_true rfl rfl rfl (by decide +kernel)) (pi_list (pv 1)) (blkOk_by (N := ["source", "blocks", "bent", "block", "spot", "other", "way", "shift"]) (sc := L2.defScope s_law_bent_blocks) (by decide +kernel)) (fun _ _ _ _ _ => pg_name (i := 3) sc_law_bent_blocks.nd rfl (Or.inl rfl)) (fun _ _ _ _ _ => pts_nil) (fun _ _ _ _ _ => (inK (K := K) (t := fun K => tCB (rListS K) _) rfl (pe_callTy call_list_of (by rfl) T.list (by decide +kernel) (pa_cons (pv 3) pa_nil)))))
    (pss_cons (ps_set (i := 4) sc_law_bent_blocks.nd rfl (Or.inl rfl) (pe_f c_law_draw hr (by decide) rfl (pa_cons (pv 0) (pa_cons (pe_callB call_len_seq (by rfl) T.len (by decide +kernel) (pa_cons (pv 2) pa_nil)) pa_nil))))
    (pss_cons (ps_set (i := 5) sc_law_bent_blocks.nd rfl (Or.inl rfl) (pe_f c_law_draw hr (by decide) rfl (pa_cons (pv 0) (pa_cons (pe_callB call_len_seq (by rfl) T.len (by decide +kernel) (pa_cons (pv 2) pa_nil)) pa_nil))))
    (pss_cons (ps_set (i := 6) sc_law_bent_blocks.nd rfl (Or.inl rfl) (pe_f c_law_draw hr (by decide) rfl (pa_cons (pv 0) (pa_cons pe_int pa_nil))))
    (pss_cons (ps_if (pt_cmpR op_lt (pv 6) pe_int (nomark _))
      (pss_one (ps_asg (pe_op op_add (pe_ix ix_list (pe_ix ix_list (pv 2) (pv 4) (fun _ _ => rfl)) (pe_op op_fdiv (pv 6) pe_int) (fun _ _ => rfl)) (pe_ix ix_list (pe_lst (pa_cons pe_int (pa_cons (pe_un un_neg pe_int) pa_nil))) (pe_op op_mod (pe_callTy cz_int1 (by rfl) T.int (by decide +kernel) (pa_cons (pv 6) pa_nil)) pe_int) (fun _ _ => rfl))) (pg_sub (pe_ix ix_list (pv 2) (pv 4) (fun _ _ => rfl)) (pe_op op_fdiv (pv 6) pe_int) set_list)))
      (pss_one (ps_if (pt_cmpR op_eq (pv 6) pe_int (nomark _))
        (pss_one (ps_asg (pe_op oz_add (pe_ix ix_list (pe_ix ix_list (pv 2) (pv 4) (fun _ _ => rfl)) pe_int (fun _ _ => rfl)) (pe_f c_law_char hr (by decide) rfl (pa_cons (pv 0) pa_nil))) (pg_sub (pe_ix ix_list (pv 2) (pv 4) (fun _ _ => rfl)) pe_int set_list)))
        (pss_one (ps_if (pt_cmpR op_eq (pv 6) pe_int (nomark _))
          (pss_one (ps_asg (pe_slice sl_str (pe_ix ix_list (pe_ix ix_list (pv 2) (pv 4) (fun _ _ => rfl)) pe_int (fun _ _ => rfl)) (po_some pe_int) po_none) (pg_sub (pe_ix ix_list (pv 2) (pv 4) (fun _ _ => rfl)) pe_int set_list)))
          (pss_one (ps_if (pt_cmpR op_eq (pv 6) pe_int (nomark _))
            (pss_cons (ps_asg (pe_callTy call_list_of (by rfl) T.list (by decide +kernel) (pa_cons (pe_ix ix_list (pv 1) (pv 5) (fun _ _ => rfl)) pa_nil)) (pg_sub (pv 2) (pv 4) set_list))
            (pss_one (ps_asg (pe_callTy call_list_of (by rfl) T.list (by decide +kernel) (pa_cons (pe_ix ix_list (pv 1) (pv 4) (fun _ _ => rfl)) pa_nil)) (pg_sub (pv 2) (pv 5) set_list))))
            (pss_one (ps_if (pt_cmpR op_eq (pv 6) pe_int (nomark _))
              (pss_one (ps_expr (pe_bm PySem.F.plainAttrs_list PySem.F.slot_list_append PySem.F.type_list_append mt_append (pv 2) (pa_cons (pe_callTy call_list_of (by rfl) T.list (by decide +kernel) (pa_cons (pe_ix ix_list (pv 1) (pv 4) (fun _ _ => rfl)) pa_nil)) pa_nil))))
              (pss_one (ps_if (pt_cmpR op_eq (pv 6) pe_int (nomark _))
                (pss_cons (ps_set (i := 7) sc_law_bent_blocks.nd rfl (Or.inl rfl) pe_int)
                (pss_cons (ps_if (pt_cmpR op_gt (pv 4) pe_int (nomark _))
                  (pss_one (ps_set (i := 7) sc_law_bent_blocks.nd rfl (Or.inl rfl) (pe_op op_add pe_int (pe_f c_law_draw hr (by decide) rfl (pa_cons (pv 0) (pa_cons (pe_callB cz_len (by rfl) T.len (by decide +kernel) (pa_cons (pe_ix ix_list (pe_ix ix_list (pv 1) (pe_op op_sub (pv 4) pe_int) (fun _ _ => rfl)) pe_int (fun _ _ => rfl)) pa_nil)) pa_nil))))))
                  pss_nil)
                (pss_cons (ps_asg (pe_op op_sub (pe_ix ix_list (pe_ix ix_list (pv 2) (pv 4) (fun _ _ => rfl)) pe_int (fun _ _ => rfl)) (pv 7)) (pg_sub (pe_ix ix_list (pv 2) (pv 4) (fun _ _ => rfl)) pe_int set_list))
                (pss_one (ps_asg (pe_op op_sub (pe_ix ix_list (pe_ix ix_list (pv 2) (pv 4) (fun _ _ => rfl)) pe_int (fun _ _ => rfl)) (pv 7)) (pg_sub (pe_ix ix_list (pv 2) (pv 4) (fun _ _ => rfl)) pe_int set_list))))))
                (pss_one (ps_if (pt_cmpR op_eq (pv 6) pe_int (nomark _))
                  (pss_cons (ps_asg (pe_op op_sub (pe_ix ix_list (pe_ix ix_list (pv 2) (pv 4) (fun _ _ => rfl)) pe_int (fun _ _ => rfl)) pe_int) (pg_sub (pe_ix ix_list (pv 2) (pv 4) (fun _ _ => rfl)) pe_int set_list))
                  (pss_one (ps_asg pe_str (pg_sub (pe_ix ix_list (pv 2) (pv 4) (fun _ _ => rfl)) pe_int set_list))))
                  (pss_one (ps_set (i := 2) sc_law_bent_blocks.nd rfl (Or.inl rfl) (pe_op op_cat (pe_slice sl_list (pv 2) po_none (po_some (pv 4))) (pe_slice sl_list (pv 2) (po_some (pe_op op_add (pv 4) pe_int)) po_none)))))))))))))))))
    (pss_one (ps_ret (pv 2)))))))), ?_⟩
    have hyl : ys.length = xs.length := hrel.1
    have nqp : qb ≠ p := fun e => by
      obtain ⟨n0, ⟨cs, c1, c2, c3, sd, hp, _⟩, _⟩ := b
      rw [e, hp] at hqb
      have h1 := HO.lst.inj (Option.some.inj hqb)
      rw [← h1] at hrel
      obtain ⟨o, _, t, ht, _⟩ := hrel.get (i := 1) (x := .int c1) rfl
      cases ht
    have hat : ∀ {i : Nat} {v : V}, ys[i]? = some v → ∃ x t, xs[i]? = some x ∧ v = .ref t ∧ H t = some (.lst (biL x)) ∧ x ∈ xs ∧ t ≠ p := fun {i v} hv => by
      obtain ⟨x, hx, t, rfl, ht⟩ := hrel.get hv
      refine ⟨x, t, hx, rfl, ht, List.mem_of_getElem? hx, fun e => ?_⟩
      obtain ⟨n0, ⟨cs, c1, c2, c3, sd, hp, _⟩, _⟩ := b
      rw [e, hp] at ht
      cases ht
    -- the copies
    refine q_asgR (rd_lcL (K := K) (row := fun i => biL (xs.getD i ⟨0, 0, 0, ""⟩)) (ev_var rfl) hqb (by omega) (fun _ => rfl) (fun i x H1 e1 hi => ?_) fun lb H1 nlb e1 hlb => ?_)
    · obtain ⟨y, t, hy, rfl, ht, hm', _⟩ := hat hi
      rw [show xs.getD i ⟨0, 0, 0, ""⟩ = y by rw [List.getD_eq_getElem?_getD, hy]; rfl]
      exact el_listS (ev_var rfl) (e1 _ _ ht)
    obtain ⟨zs, hlb, hrz⟩ := hlb
    have hzl : zs.length = xs.length := by rw [hrz.1, List.length_map, List.length_range, hyl]
    have B1 : BnAt H H1 lb zs c 20 := ⟨hlb, nlb, fun v hv => by
      obtain ⟨i, hi⟩ := List.mem_iff_getElem?.mp hv
      obtain ⟨r, hr, t, rfl, ht1, ht2, ht3⟩ := hrz.get hi
      have hil : i < xs.length := by have := (List.getElem?_eq_some_iff.mp hi).1; omega
      rw [List.getElem?_map, List.getElem?_range (by omega)] at hr
      cases hr
      refine ⟨t, xs.getD i ⟨0, 0, 0, ""⟩, rfl, ht1, ht2, ht3, (hok _ ?_).1⟩
      rw [List.getD_eq_getElem?_getD, List.getElem?_eq_getElem hil]
      exact List.getElem_mem hil⟩
    have hhas := b.has
    refine q_asgR (rd_ds (Q := fun v H => _) (ea_cons (ev_var rfl) (ea_cons (ev_len (ev_var rfl) (sq_of hlb)) ea_nil)) (b.ex e1) (by omega) (by omega) (by omega) fun sp H2 s0 s1 b2 k2 => ?_)
    have B2 := B1.keep k2 hhas
    refine q_asgR (rd_ds (Q := fun v H => _) (ea_cons (ev_var rfl) (ea_cons (ev_len (ev_var rfl) (sq_of B2.1)) ea_nil)) b2 (by omega) (by omega) (by omega) fun ot H3 o0 o1 b3 k3 => ?_)
    refine q_asgR (rd_ds (Q := fun v H => _) (ea_cons (ev_var rfl) (ea_cons ev_c ea_nil)) b3 (by omega) (by decide) (by decide) fun wy H4 w0 w1 b4 k4 => ?_)
    have B4 := (B2.keep k3 hhas).keep k4 hhas
    have K4 := (((Keep.of e1).trans k2).trans k3).trans k4
    clear B1 B2 k2 k3 k4 b2 b3 hrz hlb e1
    obtain ⟨i, rfl⟩ := Int.eq_ofNat_of_zero_le s0
    obtain ⟨o, rfl⟩ := Int.eq_ofNat_of_zero_le o0
    obtain ⟨wn, rfl⟩ := Int.eq_ofNat_of_zero_le w0
    have hi : i < zs.length := by omega
    have ho : o < zs.length := by omega
    obtain ⟨qi, xi, gi1, gi2, gi3, gi4, gi5⟩ := B4.2.2 zs[i] (List.getElem_mem hi)
    have hzi : zs[i]? = some (.ref qi) := by rw [List.getElem?_eq_getElem hi, gi1]
    have np : ∀ {q : Addr}, H q = none → q ≠ p := fun h e => by
      obtain ⟨us, hp⟩ := hhas
      rw [e, hp] at h; cases h
    have nl0 : ∀ {q : Addr}, H q = none → q ≠ l0 := fun h e => by
      obtain ⟨us, hp⟩ := b.has0
      rw [e, hp] at h; cases h
    -- bent[spot], and what stands in it
    have vs_ : ∀ {σ : L2.St} {H' : Hp}, H' lb = some (.lst zs) → σ[2]? = some (some (.ref lb)) → σ[4]? = some (some (.int (i : Int))) → Ev (tOp (rIxL K) (tVar 2) (tVar 4)) σ H' (.ref qi) := fun hl h1 h2 => ev_ixL (ev_var h1) (ev_var h2) hl (atI_nat hzi)
    show tSeq (tIfS _ _ _) _ _ [some (.ref p), some (.ref qb), some (.ref lb), none, some (.int (i : Int)), some (.int (o : Int)), some (.int (wn : Int)), none] H4
    refine q_tailIf (fun σ1 Hx => ∃ lb' zs', σ1[2]? = some (some (.ref lb')) ∧ BnAt H Hx lb' zs' (c + 100) 30 ∧ zs'.length ≤ 14 ∧ Sr Hx p l0 (m + 9) ∧ Keep p H Hx) (fun σ1 Hx hR => ?_) (fun tail => ?_)
    · obtain ⟨lb', zs', h2, hB, hl, hb, hk⟩ := hR
      exact s_ret (ev_var h2) fun H' e' => q lb' zs' H' (hB.ex e') hl ((hb.ex e').up (by omega)) (hk.trans (Keep.of e'))
    refine q_if (b := decide ((wn : Int) < 6)) (et_test (ev_op (ev_var rfl) ev_c rv_I0)) (fun hb H5 e5 => ?_) (fun hb5 H5 e5 => ?_)
    · have h6 : wn < 6 := by have := of_decide_eq_true hb; omega
      obtain ⟨y, hy, hset⟩ := bump gi5 (wn / 2) (by omega)
      have hqi := e5 _ _ gi4
      have hl5 := e5 _ _ B4.1
      have dv : ((wn : Int) / 2) = ((wn / 2 : Nat) : Int) := by omega
      refine s_setL (j := wn / 2) (v := .int (y + if wn % 2 = 0 then 1 else -1)) hqi (ev_op (ev_op (vs_ hl5 rfl rfl) (ev_op (ev_var rfl) ev_c (rv_I ⟨by decide, by decide⟩)) (rv_ixL (sq_of hqi) (by rw [dv]; exact atI_nat hy))) (ev_pickB (i := ((wn % 2 : Nat) : Int)) (vs := [.int 1, .int (-1)]) (v := .int (if wn % 2 = 0 then 1 else -1)) (ea_cons ev_c (ea_cons (ev_un ev_c ru_neg) ea_nil)) (by show 2 ≤ 100000; decide) (ev_is (ev_op (ev_int1 (ev_var rfl)) ev_c (rv_I (by show (0 : Int) < 2; decide))) (congrArg V.int (by omega))) (by
        rcases Nat.mod_two_eq_zero_or_one wn with h | h <;> rw [h] <;> rfl)) rv_I0) (vs_ hl5 rfl rfl) (ev_is (ev_op (ev_var rfl) ev_c (rv_I ⟨by decide, by decide⟩)) (congrArg V.int dv)) (by show wn / 2 < 4; omega) fun H6 e6 => ?_
      obtain ⟨x', hx', ok'⟩ := hset (if wn % 2 = 0 then 1 else -1) (by split <;> decide)
      exact tail _ _ ⟨lb, zs, rfl, (((B4.ex (e5.trans e6)).up (Nat.le_add_right c 100) (Nat.le_refl 20)).setIn gi3 hx' ok').up (Nat.le_refl _) (by decide), by omega, (((b4.ex (e5.trans e6)).up (by omega)).upd (np gi2) (nl0 gi2)), Keep.new (K4.trans (Keep.of (e5.trans e6))) gi2⟩
    · refine Evl.s_if (b := decide ((wn : Int) = 6)) (et_test (ev_op (ev_var rfl) ev_c rv_eqI)) (fun hb H6 e6 => ?_) (fun hb6 H6 e6 => ?_)
      · refine s_asgSub ?_
        have e46 := e5.trans e6
        have hqi := e46 _ _ gi4
        have hl6 := e46 _ _ B4.1
        refine (ev_ixL (vs_ hl6 rfl rfl) ev_c hqi (atI_nat (j := 3) rfl)) H6 (Ex.refl H6) _ fun H7 e7 => ?_
        refine rd_call (Q := fun v H => _) (ea_cons (ev_var rfl) ea_nil) fun H8 e8 => ⟨p, l0, _, rfl, (b4.ex e46).ex (e7.trans e8), by omega, fun t H9 t1 t2 b9 k9 => ⟨xi.s, t, rfl, rfl, sz_of (by have := gi5.2.2.2.1; omega), ?_⟩⟩
        have B9 := ((B4.ex e46).ex (e7.trans e8)).keep k9 hhas
        have k49 := (Keep.of (e46.trans (e7.trans e8))).trans k9
        have hqi9 := k49 _ _ (np gi2) gi4
        refine (vs_ B9.1 rfl rfl) H9 (Ex.refl H9) _ fun H10 e10 => ⟨qi, _, 3, 3, rfl, rfl, e10 _ _ hqi9, ixN_nat (j := 3) (by show 3 < 4; decide), ?_⟩
        have okn := (gi5.txt (t := xi.s ++ t) (d' := 30) (by rw [Str.length_append]; have := gi5.2.2.2.1; omega) (gi5.2.2.2.2.app t2))
        exact tail _ _ ⟨lb, zs, rfl, ((B9.ex e10).up (Nat.le_refl c) (by decide : 20 ≤ 30)).setIn gi3 rfl okn |>.up (Nat.le_add_right c 100) (Nat.le_refl _), by omega, ((b9.ex e10).up (by omega)).upd (np gi2) (nl0 gi2), Keep.new ((K4.trans k49).trans (Keep.of e10)) gi2⟩
      · refine Evl.s_if (b := decide ((wn : Int) = 7)) (et_test (ev_op (ev_var rfl) ev_c rv_eqI)) (fun hb H7 e7 => ?_) (fun hb7 H7 e7 => ?_)
        · have e47 := (e5.trans e6).trans e7
          have hqi := e47 _ _ gi4
          have hl7 := e47 _ _ B4.1
          refine s_setL (j := 3) hqi (ev_slS (ev_ixL (vs_ hl7 rfl rfl) ev_c hqi (atI_nat (j := 3) rfl)) (eo_some ev_c) eo_none (by have := gi5.2.2.2.1; omega)) (vs_ hl7 rfl rfl) ev_c (by show 3 < 4; decide) fun H8 e8 => ?_
          have okn := (gi5.txt (t := cutS xi.s (some 1) none) (d' := 30) (by have := cut_len xi.s (some 1) none; have := gi5.2.2.2.1; omega) (gi5.2.2.2.2.sub fun y hy => by rw [cutFrom1_tl] at hy; exact List.mem_of_mem_drop hy))
          exact tail _ _ ⟨lb, zs, rfl, (((B4.ex (e47.trans e8)).up (Nat.le_refl c) (by decide : 20 ≤ 30)).setIn gi3 rfl okn).up (Nat.le_add_right c 100) (Nat.le_refl _), by omega, ((b4.ex (e47.trans e8)).up (by omega)).upd (np gi2) (nl0 gi2), Keep.new (K4.trans (Keep.of (e47.trans e8))) gi2⟩
        · -- copies of the originals
          have hyi : i < ys.length := by omega
          have hyo : o < ys.length := by omega
          obtain ⟨xa, ta_, hxa, gya, hta, hma, nta⟩ := hat (List.getElem?_eq_getElem hyi)
          obtain ⟨xo, to_, hxo, gyo, hto, hmo, nto⟩ := hat (List.getElem?_eq_getElem hyo)
          have hyia : ys[i]? = some (.ref ta_) := by rw [List.getElem?_eq_getElem hyi, gya]
          have hyoa : ys[o]? = some (.ref to_) := by rw [List.getElem?_eq_getElem hyo, gyo]
          have oka := ((hok xa hma).1.txt (t := xa.s) (d' := 30) (by have := (hok xa hma).1.2.2.2.1; omega) (hok xa hma).1.2.2.2.2)
          have oko := ((hok xo hmo).1.txt (t := xo.s) (d' := 30) (by have := (hok xo hmo).1.2.2.2.1; omega) (hok xo hmo).1.2.2.2.2)
          refine Evl.s_if (b := decide ((wn : Int) = 8)) (et_test (ev_op (ev_var rfl) ev_c rv_eqI)) (fun hb H8 e8 => ?_) (fun hb8 H8 e8 => ?_)
          · have e48 := ((e5.trans e6).trans e7).trans e8
            have K8 := K4.trans (Keep.of e48)
            refine q_in ?_
            dsimp only
            refine s_asgSub ?_
            refine (el_listS (ev_ixL (ev_var rfl) (ev_var rfl) (K8 _ _ nqp hqb) (atI_nat hyoa)) (K8 _ _ nto hto)) H8 (Ex.refl H8) _ fun r1 H9 nr1 e9 hr1 => ?_
            have e49 := e48.trans e9
            have nr1H : H r1 = none := (b4.ex e48).free K8 nr1
            have nr1l : r1 ≠ lb := fun e => by rw [e, e48 _ _ B4.1] at nr1; cases nr1
            refine ⟨.ref lb, rfl, .int (i : Int), rfl, lb, _, (i : Int), i, rfl, rfl, e49 _ _ B4.1, ixN_nat hi, ?_⟩
            have BX := ((B4.ex e49).up (Nat.le_refl c) (by decide : 20 ≤ 30)).setOut (r := r1) (x := ⟨xo.a, xo.e, xo.t, xo.s⟩) (L := zs.set i (.ref r1)) (fun v hv => (List.mem_or_eq_of_mem_set hv).imp id id) nr1H nr1l hr1 oko
            have KX := Keep.new (o := .lst (zs.set i (.ref r1))) (K8.trans (Keep.of e9)) B4.2.1
            have bX := (b4.ex e49).upd (o := .lst (zs.set i (.ref r1))) (np B4.2.1) (nl0 B4.2.1)
            generalize upd H9 lb (.lst (zs.set i (.ref r1))) = HX at BX KX bX
            dsimp only
            refine s_asgSub ?_
            refine (el_listS (ev_ixL (ev_var rfl) (ev_var rfl) (KX _ _ nqp hqb) (atI_nat hyia)) (KX _ _ nta hta)) HX (Ex.refl HX) _ fun r2 H10 nr2 e10 hr2 => ?_
            have nr2H : H r2 = none := bX.free KX nr2
            have nr2l : r2 ≠ lb := fun e => by rw [e, BX.1] at nr2; cases nr2
            refine ⟨.ref lb, rfl, .int (o : Int), rfl, lb, _, (o : Int), o, rfl, rfl, e10 _ _ BX.1, ixN_nat (by rw [List.length_set]; exact ho), ?_⟩
            have BY := (BX.ex e10).setOut (r := r2) (x := ⟨xa.a, xa.e, xa.t, xa.s⟩) (L := (zs.set i (.ref r1)).set o (.ref r2)) (fun v hv => (List.mem_or_eq_of_mem_set hv).imp id id) nr2H nr2l hr2 oka
            exact tail _ _ ⟨lb, _, rfl, BY.up (Nat.le_add_right c 100) (Nat.le_refl _), by rw [List.length_set, List.length_set]; omega, ((bX.ex e10).upd (np B4.2.1) (nl0 B4.2.1)).up (by omega), Keep.new (KX.trans (Keep.of e10)) B4.2.1⟩
          · refine Evl.s_if (b := decide ((wn : Int) = 9)) (et_test (ev_op (ev_var rfl) ev_c rv_eqI)) (fun hb H9 e9 => ?_) (fun hb9 H9 e9 => ?_)
            · have e49 := (((e5.trans e6).trans e7).trans e8).trans e9
              have K9 := K4.trans (Keep.of e49)
              refine s_apB rfl (e49 _ _ B4.1) ?_
              refine (el_listS (ev_ixL (ev_var rfl) (ev_var rfl) (K9 _ _ nqp hqb) (atI_nat hyia)) (K9 _ _ nta hta)) H9 (Ex.refl H9) _ fun r1 H10 nr1 e10 hr1 => ⟨lb, zs, .ref r1, rfl, rfl, (e49.trans e10) _ _ B4.1, sz_lt (by omega), ?_⟩
              have nr1H : H r1 = none := (b4.ex e49).free K9 nr1
              have nr1l : r1 ≠ lb := fun e => by rw [e, e49 _ _ B4.1] at nr1; cases nr1
              have BX := ((B4.ex (e49.trans e10)).up (Nat.le_refl c) (by decide : 20 ≤ 30)).setOut (r := r1) (x := ⟨xa.a, xa.e, xa.t, xa.s⟩) (L := zs ++ [.ref r1]) (fun v hv => (List.mem_append.mp hv).imp id List.mem_singleton.mp) nr1H nr1l hr1 oka
              exact tail _ _ ⟨lb, _, rfl, BX.up (Nat.le_add_right c 100) (Nat.le_refl _), by rw [List.length_append]; show zs.length + 1 ≤ 14; omega, ((b4.ex (e49.trans e10)).upd (np B4.2.1) (nl0 B4.2.1)).up (by omega), Keep.new (K9.trans (Keep.of e10)) B4.2.1⟩
            · refine Evl.s_if (b := decide ((wn : Int) = 11)) (et_test (ev_op (ev_var rfl) ev_c rv_eqI)) (fun hb H10 e10 => ?_) (fun hb10 H10 e10 => ?_)
              · have e410 := ((((e5.trans e6).trans e7).trans e8).trans e9).trans e10
                have K10 := K4.trans (Keep.of e410)
                refine q_in ?_
                dsimp only
                refine s_asg (v := .int 1) ev_c fun H11 e11 => ?_
                dsimp only
                refine q_tailIf (fun σ1 Hx => ∃ sh : Int, σ1 = [some (.ref p), some (.ref qb), some (.ref lb), none, some (.int (i : Int)), some (.int (o : Int)), some (.int (wn : Int)), some (.int sh)] ∧ 0 ≤ sh ∧ sh ≤ 40 ∧ Sr Hx p l0 (m + 9) ∧ Keep p H4 Hx) (fun σ1 H12 hR => ?_) (fun tail2 => ?_)
                rotate_left
                · refine q_if (b := decide ((0 : Int) < (i : Int))) (et_test (ev_op (ev_var rfl) ev_c rv_I0)) (fun hb H12 e12 => ?_) (fun hb H12 e12 => ?_)
                  · have hi1 : 1 ≤ i := by have := of_decide_eq_true hb; omega
                    have hyp : i - 1 < ys.length := by omega
                    obtain ⟨xp, tp_, hxp, gyp, htp, hmp, ntp⟩ := hat (List.getElem?_eq_getElem hyp)
                    have hypa : ys[i - 1]? = some (.ref tp_) := by rw [List.getElem?_eq_getElem hyp, gyp]
                    have e412 := (e410.trans e11).trans e12
                    have K12 := K4.trans (Keep.of e412)
                    have hsl := (hok xp hmp).1.2.2.2.1
                    refine s_asgR ?_
                    refine rd_ds (Q := fun v H => _) (ea_cons (ev_var rfl) (ea_cons (ev_lenStr (ev_ixL (ev_ixL (ev_var rfl) (ev_is (ev_op (ev_var rfl) ev_c rv_I0) (congrArg V.int (show (i : Int) - 1 = ((i - 1 : Nat) : Int) by omega))) (K12 _ _ nqp hqb) (atI_nat hypa)) ev_c (K12 _ _ ntp htp) (atI_nat (j := 3) rfl)) (by omega)) ea_nil)) (b4.ex e412) (by omega) (by have := (hok xp hmp).2; omega) (by omega) fun d H13 d0 d1 b13 k13 => ⟨1, d, rfl, rfl, ?_⟩
                    exact tail2 _ _ ⟨1 + d, rfl, by omega, by omega, b13.up (by omega), (Keep.of e412).trans k13⟩
                  · exact tail2 _ _ ⟨1, rfl, by decide, by decide, (b4.ex ((e410.trans e11).trans e12)).up (by omega), Keep.of ((e410.trans e11).trans e12)⟩
                obtain ⟨sh, rfl, sh0, sh1, b12, k12⟩ := hR
                have B12 := B4.keep k12 hhas
                have hq12 := k12 _ _ (np gi2) gi4
                refine q_in ?_
                dsimp only
                refine s_setL (j := 0) hq12 (ev_op (ev_ixL (vs_ B12.1 rfl rfl) ev_c hq12 (atI_nat (j := 0) rfl)) (ev_var rfl) rv_I0) (vs_ B12.1 rfl rfl) ev_c (by show 0 < 4; decide) fun H13 e13 => ?_
                have hxa0 := gi5.1
                have ok1 : okB2 (c + 100) 30 ⟨xi.a - sh, xi.e, xi.t, xi.s⟩ := ⟨by show (xi.a - sh).natAbs ≤ _; omega, by have := gi5.2.1; show xi.e.natAbs ≤ _; omega, by have := gi5.2.2.1; show xi.t.natAbs ≤ _; omega, by have := gi5.2.2.2.1; show xi.s.length ≤ 30; omega, gi5.2.2.2.2⟩
                have BX := ((B12.ex e13).up (Nat.le_add_right c 100) (by decide : 20 ≤ 30)).setIn (L := (biL xi).set 0 (.int (xi.a - sh))) gi3 rfl ok1
                have KX := Keep.new (o := .lst ((biL xi).set 0 (.int (xi.a - sh)))) ((K4.trans k12).trans (Keep.of e13)) gi2
                have bX := (b12.ex e13).upd (o := .lst ((biL xi).set 0 (.int (xi.a - sh)))) (np gi2) (nl0 gi2)
                have hqx : (upd H13 qi (.lst ((biL xi).set 0 (.int (xi.a - sh))))) qi = some (.lst [.int (xi.a - sh), .int xi.e, .int xi.t, .str xi.s]) := upd_same
                generalize upd H13 qi (.lst ((biL xi).set 0 (.int (xi.a - sh)))) = HX at BX KX bX hqx
                dsimp only
                refine s_setL (j := 1) hqx (ev_op (ev_ixL (vs_ BX.1 rfl rfl) ev_c hqx (atI_nat (j := 1) rfl)) (ev_var rfl) rv_I0) (vs_ BX.1 rfl rfl) ev_c (by show 1 < 4; decide) fun H14 e14 => ?_
                have ok2 : okB2 (c + 100) 30 ⟨xi.a - sh, xi.e - sh, xi.t, xi.s⟩ := ⟨ok1.1, by have := gi5.2.1; show (xi.e - sh).natAbs ≤ _; omega, ok1.2.2⟩
                exact tail _ _ ⟨lb, zs, rfl, (BX.ex e14).setIn gi3 rfl ok2, by omega, (bX.ex e14).upd (np gi2) (nl0 gi2), Keep.new (KX.trans (Keep.of e14)) gi2⟩
              · refine Evl.s_if (b := decide ((wn : Int) = 12)) (et_test (ev_op (ev_var rfl) ev_c rv_eqI)) (fun hb H11 e11 => ?_) (fun hb11 H11 e11 => ?_)
                · have e411 := (((((e5.trans e6).trans e7).trans e8).trans e9).trans e10).trans e11
                  have hqi := e411 _ _ gi4
                  have hl11 := e411 _ _ B4.1
                  refine q_in ?_
                  dsimp only
                  refine s_setL (j := 1) hqi (ev_op (ev_ixL (vs_ hl11 rfl rfl) ev_c hqi (atI_nat (j := 0) rfl)) ev_c rv_I0) (vs_ hl11 rfl rfl) ev_c (by show 1 < 4; decide) fun H13 e13 => ?_
                  have hxa0 := gi5.1
                  have ok1 : okB2 (c + 100) 30 ⟨xi.a, xi.a - 1, xi.t, xi.s⟩ := ⟨by show xi.a.natAbs ≤ _; omega, by show (xi.a - 1).natAbs ≤ _; omega, by have := gi5.2.2.1; show xi.t.natAbs ≤ _; omega, by have := gi5.2.2.2.1; show xi.s.length ≤ 30; omega, gi5.2.2.2.2⟩
                  have BX := ((B4.ex (e411.trans e13)).up (Nat.le_add_right c 100) (by decide : 20 ≤ 30)).setIn (L := (biL xi).set 1 (.int (xi.a - 1))) gi3 rfl ok1
                  have KX := Keep.new (o := .lst ((biL xi).set 1 (.int (xi.a - 1)))) (K4.trans (Keep.of (e411.trans e13))) gi2
                  have bX := (b4.ex (e411.trans e13)).upd (o := .lst ((biL xi).set 1 (.int (xi.a - 1)))) (np gi2) (nl0 gi2)
                  have hqx : (upd H13 qi (.lst ((biL xi).set 1 (.int (xi.a - 1))))) qi = some (.lst [.int xi.a, .int (xi.a - 1), .int xi.t, .str xi.s]) := upd_same
                  generalize upd H13 qi (.lst ((biL xi).set 1 (.int (xi.a - 1)))) = HX at BX KX bX hqx
                  dsimp only
                  refine s_setL (j := 3) hqx ev_c (vs_ BX.1 rfl rfl) ev_c (by show 3 < 4; decide) fun H14 e14 => ?_
                  have ok2 : okB2 (c + 100) 30 ⟨xi.a, xi.a - 1, xi.t, ""⟩ := ok1.txt (by show ("" : Str).length ≤ 30; decide +kernel) (by decide +kernel)
                  exact tail _ _ ⟨lb, zs, rfl, (BX.ex e14).setIn gi3 rfl ok2, by omega, ((bX.ex e14).upd (np gi2) (nl0 gi2)).up (by omega), Keep.new (KX.trans (Keep.of e14)) gi2⟩
                · have e411 := (((((e5.trans e6).trans e7).trans e8).trans e9).trans e10).trans e11
                  have hl11 := e411 _ _ B4.1
                  refine s_asgL (el_catLB (el_slB (K := K) (ev_var rfl) hl11 eo_none (eo_some (ev_var rfl))) (el_slB (K := K) (ev_var rfl) hl11 (eo_some (ev_op (ev_var rfl) ev_c rv_I0)) eo_none) (by have z1 := cutV_length zs none (some (i : Int)); have z2 := cutV_length zs (some ((i : Int) + 1)) none; omega)) fun r H12 nr e12 hr => ?_
                  have c1 : cutV zs none (some (i : Int)) = zs.take i := cutV_toB (by omega)
                  have c2 : cutV zs (some ((i : Int) + 1)) none = zs.drop (i + 1) := cutV_fromB (i := i + 1) (by omega)
                  rw [c1, c2] at hr
                  have e412 := e411.trans e12
                  have nrH : H r = none := (b4.ex e411).free (K4.trans (Keep.of e411)) nr
                  have BX : BnAt H H12 r (zs.take i ++ zs.drop (i + 1)) (c + 100) 30 := ⟨hr, nrH, fun v hv => by
                    have hv2 : v ∈ zs := (List.mem_append.mp hv).elim (fun h => List.mem_of_mem_take h) (fun h => List.mem_of_mem_drop h)
                    obtain ⟨q', y, g1, g2, g3, g4, g5⟩ := ((B4.ex e411).up (Nat.le_add_right c 100) (by decide : 20 ≤ 30)).2.2 v hv2
                    exact ⟨q', y, g1, g2, (fun e => by rw [e, nr] at g4; cases g4), e12 _ _ g4, g5⟩⟩
                  exact tail _ _ ⟨r, _, rfl, BX, by rw [List.length_append, List.length_take, List.length_drop]; omega, (b4.ex e412).up (by omega), K4.trans (Keep.of e412)⟩
end
end Z
set_option maxHeartbeats 4000000
namespace Z
open PySem PySem.Spec PyProof.Rows L2 TL Evl NdefX
/-! ### fields bent, pieces compared -/
theorem rd_F1 {ta tb : TE} {σ : L2.St} {H : Hp} {Q : VK} {a b : Str} (ha : Ev ta σ H (.str a)) (hb : Ev tb σ H (.str b)) (k : ∀ l H', H l = none → Ex H H' → FsAt H' l [(a, b)] → Q (.ref l) H') : tLst (tCons (tTup (tCons ta (tCons tb tNil))) tNil) σ H Q :=
  rd_lstB (rd_consR ((eu_tup (ea_cons ha (ea_cons hb ea_nil)) (by show 2 ≤ 100000; decide)) H (Ex.refl H) _ fun pt H2 npt e2 hpt => rd_nil ⟨sz_of (by show 1 ≤ 100000; decide), fun pl npl => by
    have e3 := Ex.new npl (o := .lst [.ref pt])
    exact k _ _ (fresh_back e2 npl) (e2.trans e3) ⟨[.ref pt], upd_same, Rel.nil.snoc ⟨pt, rfl, e3 _ _ hpt⟩⟩⟩))
theorem rd_F2 {ta tb tc td : TE} {σ : L2.St} {H : Hp} {Q : VK} {a b c d : Str} (ha : Ev ta σ H (.str a)) (hb : Ev tb σ H (.str b)) (hc : Ev tc σ H (.str c)) (hd : Ev td σ H (.str d)) (k : ∀ l H', H l = none → Ex H H' → FsAt H' l [(a, b), (c, d)] → Q (.ref l) H') : tLst (tCons (tTup (tCons ta (tCons tb tNil))) (tCons (tTup (tCons tc (tCons td tNil))) tNil)) σ H Q :=
  rd_lstB (rd_consR ((eu_tup (ea_cons ha (ea_cons hb ea_nil)) (by show 2 ≤ 100000; decide)) H (Ex.refl H) _ fun p1 H2 np1 e2 hp1 => rd_consR ((eu_tup (ea_cons (fun H3 e3 Q q => hc H3 (e2.trans e3) Q q) (ea_cons (fun H3 e3 Q q => hd H3 (e2.trans e3) Q q) ea_nil)) (by show 2 ≤ 100000; decide)) H2 (Ex.refl H2) _ fun p2 H3 np2 e3 hp2 => rd_nil ⟨sz_of (by show 2 ≤ 100000; decide), fun pl npl => by
    have e4 := Ex.new npl (o := .lst [.ref p1, .ref p2])
    exact k _ _ (fresh_back (e2.trans e3) npl) ((e2.trans e3).trans e4) ⟨[.ref p1, .ref p2], upd_same, (Rel.nil.snoc ⟨p1, rfl, (e3.trans e4) _ _ hp1⟩).snoc ⟨p2, rfl, e4 _ _ hp2⟩⟩⟩)))
theorem rd_tupB {ta : TA} {σ : L2.St} {H : Hp} {Q : VK} (h : ta σ H fun vs H1 => vs.length ≤ sizeLine ∧ ∀ p, H1 p = none → Q (.ref p) (upd H1 p (.tup vs))) : tTup ta σ H Q := h
theorem rd_callR {sp : Sp} {E : XK} {ti : TA} {σ : L2.St} {H : Hp} {Q : VK} (h : ti σ H fun vs H1 => sp (vs ++ []) H1 Q E) : tCall sp [] E ti σ H Q := h
theorem bent_value {z : Str} (hl : z.length ≤ 200) (h : ∀ c ∈ tl z, c ∈ tl signs) : valueB (Txt.stripChars z " ") = true := by
  have hz := strip_len z " "
  have ha : allIn (Txt.stripChars z " ") signs = true := List.all_eq_true.mpr fun c hc => decide_eq_true (h c (strip_mem hc))
  unfold valueB
  rw [decide_eq_true (by omega), strip_idem, decide_eq_true rfl, Bool.and_true, Bool.true_and]
  exact ha
theorem value_sg {z : Str} (h : valueB z = true) : ∀ c ∈ tl z, c ∈ tl signs := fun c hc => by
  unfold valueB at h
  simp only [Bool.and_eq_true] at h
  exact of_decide_eq_true (List.all_eq_true.mp h.2.1 c hc)
def spBf : Sp := fun vs H Q _ => ∃ (p l0 : Addr) (m : Nat) (nm z : Str), vs = [.ref p, .str nm, .str z] ∧ Sr H p l0 m ∧ m ≤ 800000 ∧ nm ∈ [("part" : Str), "parts"] ∧ valueB z = true ∧ z.length ≤ 100 ∧ ∀ (l : Addr) (fs : Fs) (H' : Hp), H l = none → FsAt H' l fs → fs.length ≤ 2 → okF fs → Sr H' p l0 (m + 10) → Keep p H H' → Q (.ref l) H'
theorem okF_1 {a b : Str} (h1 : nameB a = true) (h2 : valueB b = true) : okF [(a, b)] := fun x hx => by
  rw [List.mem_singleton.mp hx]
  show (nameB a && valueB b) = true
  rw [h1, h2]
  rfl
theorem okF_2 {a b c d : Str} (h1 : nameB a = true) (h2 : valueB b = true) (h3 : nameB c = true) (h4 : valueB d = true) : okF [(a, b), (c, d)] := fun x hx => by
  rcases List.mem_cons.mp hx with rfl | hx
  · exact okF_1 h1 h2 _ List.mem_cons_self
  · exact okF_1 h3 h4 _ hx
def toP (b : Bk) : PyData := .tuple [.int b.a, .str b.s]
theorem toP_shaped {b : Bk} (h : PyData.strOk b.s = true) : SeqAt.shaped (toP b) = true := by
  have h2 : PyData.depth (toP b) ≤ 64 := by simp only [PyData.depth, PyData.depthAll, toP]; omega
  show (PyData.canLay0 (toP b) && decide (PyData.depth (toP b) ≤ 64)) = true
  rw [Bool.and_eq_true]
  exact ⟨by simp [PyData.canLayAll0, PyData.canLay0, toP, h], decide_eq_true h2⟩
theorem toP_eqv (b : Bk) : PyData.eqv (toP b) (toP b) = true := by
  show PyData.eqv (.tuple [.int b.a, .str b.s]) (.tuple [.int b.a, .str b.s]) = _
  simp [PyData.eqv, PyData.eqvAll]
theorem dpP {K : PySem.W.Frag} {H : Hp} {v : V} {b : Bk} (h : PcAt H v b) : Dp K H v (toP b) := by
  obtain ⟨p, rfl, hp⟩ := h
  exact .tup (st_of hp) (.cons (.int _) (.cons (.str _) .nil))
theorem PcAt.ex {H H' : Hp} {v : V} {b : Bk} (h : PcAt H v b) (e : Ex H H') : PcAt H' v b := TupAt.ex h e
theorem PtAt.ex {H H' : Hp} {v : V} {bs : List Bk} (h : PtAt H v bs) (e : Ex H H') : PtAt H' v bs := by
  obtain ⟨u, l, ys, rfl, h1, h2, h3⟩ := h
  exact ⟨u, l, ys, rfl, e _ _ h1, e _ _ h2, h3.mono fun _ _ m => PcAt.ex m e⟩
def spSpc : Sp := fun vs H Q _ => ∃ (va ve : V) (bs : List Bk), vs = [va, ve] ∧ PtAt H va bs ∧ PtAt H ve bs ∧ bs ≠ [] ∧ bs.length ≤ 100000 ∧ (∀ b ∈ bs, PyData.strOk b.s = true) ∧ RetV (.bl true) H Q
section
variable {P : Program} {w : World} {K : PySem.W.Frag} {mg : Str → Option Value} {base : Heap} {f DP DV DH RS : Addr} {fd : FuncData} {k : Nat}
theorem ok_law_bent_fields (T : Mg mg) (c_law_draw : CSrc P w K mg base) (c_law_bent_text : Call P w K mg base 3 "_law_bent_text" ["source", "word", "char"] spBt) (F : FnP K "_law_bent_fields" s_law_bent_fields f fd) (gm : mg "_law_bent_fields" = some (.ref f)) : Call P w K mg base 4 "_law_bent_fields" ["source", "name", "value"] spBf := by
  refine mk F gm (fun _ _ _ _ _ _ us hl => match us, hl with | [_, _, _], _ => rfl) (fun _ _ _ _ _ _ us hl => match us, hl with | [_, _, _], _ => rfl) sc_law_bent_fields (fun vs H Q E h => ?_) (fun cdv A outer s H vs Q E hr h => ?_)
  · obtain ⟨p, l0, m, nm, z, rfl, _⟩ := h
    rfl
  · obtain ⟨p, l0, m, nm, z, rfl, b, hm, hnm, hv, hz, q⟩ := h
    refine ⟨_, (pss_cons (ps_set (i := 3) sc_law_bent_fields.nd rfl (Or.inl rfl) (pe_f c_law_draw hr (by decide) rfl (pa_cons (pv 0) (pa_cons pe_int pa_nil))))
    (pss_cons (ps_if (pt_cmpR op_eq (pv 3) pe_int (nomark _))
      (pss_one (ps_ret (pe_lst (pa_cons (pe_tup (pa_cons (pv 1) (pa_cons (pv 2) pa_nil))) (pa_cons (pe_tup (pa_cons (pv 1) (pa_cons (pv 2) pa_nil))) pa_nil)))))
      pss_nil)
    (pss_cons (ps_if (pt_cmpR op_eq (pv 3) pe_int (nomark _))
      (pss_one (ps_ret (pe_lst (pa_cons (pe_tup (pa_cons (pe_ix ix_list (pe_lst (pa_cons pe_str (pa_cons pe_str pa_nil))) (pe_callTy cz_int1 (by rfl) T.int (by decide +kernel) (pa_cons (pe_cmpR op_eq (pv 1) pe_str (nomark _)) pa_nil)) (fun _ _ => rfl)) (pa_cons (pv 2) pa_nil))) pa_nil))))
      pss_nil)
    (pss_cons (ps_if (pt_cmpR op_eq (pv 3) pe_int (nomark _))
      (pss_one (ps_ret (pe_lst pa_nil)))
      pss_nil)
    (pss_cons (ps_if (pt_cmpR op_eq (pv 3) pe_int (nomark _))
      (pss_one (ps_ret (pe_lst (pa_cons (pe_tup (pa_cons (pv 1) (pa_cons (pv 2) pa_nil))) (pa_cons (pe_tup (pa_cons pe_str (pa_cons pe_str pa_nil))) pa_nil)))))
      pss_nil)
    (pss_cons (ps_if (pt_cmpR op_eq (pv 3) pe_int (nomark _))
      (pss_one (ps_ret (pe_lst (pa_cons (pe_tup (pa_cons pe_str (pa_cons pe_str pa_nil))) (pa_cons (pe_tup (pa_cons (pv 1) (pa_cons (pv 2) pa_nil))) pa_nil)))))
      pss_nil)
    (pss_one (ps_ret (pe_lst (pa_cons (pe_tup (pa_cons (pv 1) (pa_cons (pe_bm PySem.F.plainAttrs_str PySem.F.slot_str_strip PySem.F.type_str_strip mz_strip (pe_f c_law_bent_text hr (by decide) rfl (pa_cons (pv 0) (pa_cons (pv 2) (pa_cons (pe_ix ix_str pe_str (pe_f c_law_draw hr (by decide) rfl (pa_cons (pv 0) (pa_cons pe_int pa_nil))) (fun _ _ => rfl)) pa_nil)))) (pa_cons pe_str pa_nil)) pa_nil))) pa_nil)))))))))), ?_⟩
    have nP : nameB ("part" : Str) = true ∧ nameB ("parts" : Str) = true ∧ valueB ("0-0/1" : Str) = true ∧ valueB ("2" : Str) = true := by decide +kernel
    have nN : nameB nm = true := by
      rcases List.mem_cons.mp hnm with rfl | h
      · exact nP.1
      · rw [List.mem_singleton.mp h]; exact nP.2.1
    refine q_asgR (rd_ds (Q := fun v H => _) (ea_cons (ev_var rfl) (ea_cons ev_c ea_nil)) b (by omega) (by decide) (by decide) fun wy H1 _ _ b1 k1 => ?_)
    have fr : ∀ {a H'}, H1 a = none → Sr H' p l0 (m + 1) → H a = none := fun ha _ => b1.free k1 ha
    refine q_when (b := decide (wy = 0)) (et_test (ev_op (ev_var rfl) ev_c rv_eqI)) (fun _ H2 e2 => ?_) (fun _ H2 e2 => ?_)
    · exact g_ret (rd_F2 (ev_var rfl) (ev_var rfl) (ev_var rfl) (ev_var rfl) fun l H3 nl e3 hf => q l _ H3 (b1.free k1 (fresh_back e2 nl)) hf (by show 2 ≤ 2; decide) (okF_2 nN hv nN hv) ((b1.ex (e2.trans e3)).up (by omega)) (k1.trans (Keep.of (e2.trans e3))))
    refine q_when (b := decide (wy = 1)) (et_test (ev_op (ev_var rfl) ev_c rv_eqI)) (fun _ H3 e3 => ?_) (fun _ H3 e3 => ?_)
    · obtain ⟨om, hom, hat⟩ : ∃ om, nameB om = true ∧ atI [V.str "part", .str "parts"] (if decide (nm = ("part" : Str)) then 1 else 0) = some (.str om) := by
        by_cases h : nm = ("part" : Str)
        · exact ⟨_, nP.2.1, by rw [decide_eq_true h]; rfl⟩
        · exact ⟨_, nP.1, by rw [decide_eq_false h]; rfl⟩
      exact g_ret (rd_F1 (ev_pickB (ea_cons ev_c (ea_cons ev_c ea_nil)) (by show 2 ≤ 100000; decide) (ev_intB (b := decide (nm = ("part" : Str))) (ev_op (ev_var rfl) ev_c rv_eqS)) hat) (ev_var rfl) fun l H4 nl e4 hf => q l _ H4 (b1.free k1 (fresh_back (e2.trans e3) nl)) hf (by show 1 ≤ 2; decide) (okF_1 hom hv) ((b1.ex ((e2.trans e3).trans e4)).up (by omega)) (k1.trans (Keep.of ((e2.trans e3).trans e4))))
    refine q_when (b := decide (wy = 2)) (et_test (ev_op (ev_var rfl) ev_c rv_eqI)) (fun _ H4 e4 => ?_) (fun _ H4 e4 => ?_)
    · refine g_ret (rd_lstB (rd_nil ⟨sz_of (by show 0 ≤ 100000; decide), fun l nl => ?_⟩))
      have e5 := Ex.new nl (o := .lst [])
      have e25 := ((e2.trans e3).trans e4).trans e5
      exact q l [] _ (b1.free k1 (fresh_back ((e2.trans e3).trans e4) nl)) (fs_nil upd_same) (Nat.zero_le _) (fun _ h => nomatch h) ((b1.ex e25).up (by omega)) (k1.trans (Keep.of e25))
    have e24 := (e2.trans e3).trans e4
    refine q_when (b := decide (wy = 3)) (et_test (ev_op (ev_var rfl) ev_c rv_eqI)) (fun _ H5 e5 => ?_) (fun _ H5 e5 => ?_)
    · exact g_ret (rd_F2 (ev_var rfl) (ev_var rfl) ev_c ev_c fun l H6 nl e6 hf => q l _ H6 (b1.free k1 (fresh_back (e24.trans e5) nl)) hf (by show 2 ≤ 2; decide) (okF_2 nN hv nP.1 nP.2.2.1) ((b1.ex ((e24.trans e5).trans e6)).up (by omega)) (k1.trans (Keep.of ((e24.trans e5).trans e6))))
    refine q_when (b := decide (wy = 4)) (et_test (ev_op (ev_var rfl) ev_c rv_eqI)) (fun _ H6 e6 => ?_) (fun _ H6 e6 => ?_)
    · exact g_ret (rd_F2 ev_c ev_c (ev_var rfl) (ev_var rfl) fun l H7 nl e7 hf => q l _ H7 (b1.free k1 (fresh_back ((e24.trans e5).trans e6) nl)) hf (by show 2 ≤ 2; decide) (okF_2 nP.2.1 nP.2.2.2 nN hv) ((b1.ex (((e24.trans e5).trans e6).trans e7)).up (by omega)) (k1.trans (Keep.of (((e24.trans e5).trans e6).trans e7))))
    have e26 := (e24.trans e5).trans e6
    have b6 := b1.ex e26
    have hcl : ("0123456789-/*+x " : Str).length = 16 := by decide +kernel
    have hcs : ∀ c ∈ tl ("0123456789-/*+x " : Str), c ∈ tl signs := by decide +kernel
    generalize ("0123456789-/*+x " : Str) = zs at hcl hcs
    refine g_ret (rd_lstB (rd_consR (rd_tupB (rd_consE (ev_var rfl) fun H7 e7 => rd_consR (rd_callR (rd_consE (ev_var rfl) fun H8 e8 => rd_consE (ev_var rfl) fun H9 e9 => rd_consR ?_))))))
    refine rd_ds (Q := fun v H => _) (ea_cons (ev_var rfl) (ea_cons ev_c ea_nil)) (b6.ex ((e7.trans e8).trans e9)) (by omega) (by decide) (by decide) fun d H10 d0 d1 b10 k10 => ?_
    have k010 := (k1.trans (Keep.of (e26.trans ((e7.trans e8).trans e9)))).trans k10
    obtain ⟨c, g1, g2⟩ := at_int (xs := tl zs) d0 (by rw [len_tl', hcl]; exact d1)
    refine ⟨zs, d, c, rfl, rfl, sz_of (by omega), g1, rd_nil ⟨p, l0, m + 1 + 1, z, ⟨#[c]⟩, rfl, b10, by omega, by omega, rfl, fun t H11 ht hts b11 k11 => ⟨rfl, ⟨t, " ", rfl, rfl, sz_of (by omega), rd_nil ⟨sz_of (by show 2 ≤ 100000; decide), fun pt npt => rd_nil ⟨sz_of (by show 1 ≤ 100000; decide), fun l nl => ?_⟩⟩⟩⟩⟩⟩
    have e12 := Ex.new npt (o := .tup [.str nm, .str (Txt.stripChars t " ")])
    have e13 := Ex.new nl (o := .lst [.ref pt])
    have k011 := k010.trans k11
    refine q l [(nm, Txt.stripChars t " ")] _ (b11.free k011 (fresh_back e12 nl)) ⟨[.ref pt], upd_same, Rel.nil.snoc ⟨pt, rfl, e13 _ _ upd_same⟩⟩ (by show 1 ≤ 2; decide) (okF_1 nN (bent_value (by omega) fun x hx => ?_)) ((b11.ex (e12.trans e13)).up (by omega)) (k011.trans (Keep.of (e12.trans e13)))
    rcases hts x hx with h | h
    · exact value_sg hv x h
    · have h : x ∈ [c] := h
      rw [List.mem_singleton.mp h]
      exact hcs c g2
theorem ok_law_same_pieces (T : Mg mg) (c_law_integer : Call P w K mg base 1 "_law_integer" ["actual"] spInt1) (F : FnP K "_law_same_pieces" s_law_same_pieces f fd) (gm : mg "_law_same_pieces" = some (.ref f)) : Call P w K mg base 2 "_law_same_pieces" ["actual", "expected"] spSpc := by
  refine mk F gm (fun _ _ _ _ _ _ us hl => match us, hl with | [_, _], _ => rfl) (fun _ _ _ _ _ _ us hl => match us, hl with | [_, _], _ => rfl) sc_law_same_pieces (fun vs H Q E h => ?_) (fun cdv A outer s H vs Q E hr h => ?_)
  · obtain ⟨va, ve, bs, rfl, _⟩ := h
    rfl
  · obtain ⟨va, ve, bs, rfl, ⟨u, l, xs, rfl, hu, hl, rx⟩, ⟨u', l', ys, rfl, hu', hl', ry⟩, hne, hbl, hok, q⟩ := h
    refine ⟨_, (pss_cons (ps_if (PW.pt (pw_or (pt_not (pt_val (pe_callB call_isi (by rfl) T.isinstance (by decide +kernel) (pa_cons (pv 0) (pa_cons (pe_bltn (v := .ty "tuple") (u := .type "tuple") (by rfl) T.tuple (by decide +kernel) rfl) pa_nil))))) (pw_or1 (pt_cmpR op_ne (pe_callB call_len_seq (by rfl) T.len (by decide +kernel) (pa_cons (pv 0) pa_nil)) pe_int (nomark _)))))
      (pss_one (ps_ret pe_bl))
      pss_nil)
    (pss_cons (ps_if (PW.pt (pw_or (pt_not (pt_val (pe_f c_law_integer hr (by decide) rfl (pa_cons (pe_ix ix_tup (pv 0) pe_int (fun _ _ => rfl)) pa_nil)))) (pw_or1 (pt_cmpR op_ne (pe_ix ix_tup (pv 0) pe_int (fun _ _ => rfl)) (pe_ix ix_tup (pv 1) pe_int (fun _ _ => rfl)) (nomark _)))))
      (pss_one (ps_ret pe_bl))
      pss_nil)
    (pss_cons (ps_if (PW.pt (pw_or (pt_not (pt_val (pe_callB call_isi (by rfl) T.isinstance (by decide +kernel) (pa_cons (pe_ix ix_tup (pv 0) pe_int (fun _ _ => rfl)) (pa_cons (pe_bltn (v := .ty "list") (u := .type "list") (by rfl) T.list (by decide +kernel) rfl) pa_nil))))) (pw_or1 (pt_cmpR op_ne (pe_callB call_len_seq (by rfl) T.len (by decide +kernel) (pa_cons (pe_ix ix_tup (pv 0) pe_int (fun _ _ => rfl)) pa_nil)) (pe_callB call_len_seq (by rfl) T.len (by decide +kernel) (pa_cons (pe_ix ix_tup (pv 1) pe_int (fun _ _ => rfl)) pa_nil)) (nomark _)))))
      (pss_one (ps_ret pe_bl))
      pss_nil)
    (pss_cons (ps_for PassesOwn.never rfl (pi_range1 rfl T.range (pa_cons (pe_callB call_len_seq (by rfl) T.len (by decide +kernel) (pa_cons (pe_ix ix_tup (pv 1) pe_int (fun _ _ => rfl)) pa_nil)) pa_nil)) (pg_name (i := 2) sc_law_same_pieces.nd rfl (Or.inl rfl))
      (pss_cons (ps_set (i := 3) sc_law_same_pieces.nd rfl (Or.inl rfl) (pe_ix ix_list (pe_ix ix_tup (pv 0) pe_int (fun _ _ => rfl)) (pv 2) (fun _ _ => rfl)))
      (pss_cons (ps_if (PW.pt (pw_or (pt_not (pt_val (pe_callB call_isi (by rfl) T.isinstance (by decide +kernel) (pa_cons (pv 3) (pa_cons (pe_bltn (v := .ty "tuple") (u := .type "tuple") (by rfl) T.tuple (by decide +kernel) rfl) pa_nil))))) (pw_or1 (pt_cmpR op_ne (pe_callB call_len_seq (by rfl) T.len (by decide +kernel) (pa_cons (pv 3) pa_nil)) pe_int (nomark _)))))
        (pss_one (ps_ret pe_bl))
        pss_nil)
      (pss_one (ps_if (PW.pt (pw_or (pt_not (pt_val (pe_f c_law_integer hr (by decide) rfl (pa_cons (pe_ix ix_tup (pv 3) pe_int (fun _ _ => rfl)) pa_nil)))) (pw_or (pt_not (pt_val (pe_callB call_isi (by rfl) T.isinstance (by decide +kernel) (pa_cons (pe_ix ix_tup (pv 3) pe_int (fun _ _ => rfl)) (pa_cons (pe_bltn (v := .ty "str") (u := .type "str") (by rfl) T.str (by decide +kernel) rfl) pa_nil))))) (pw_or1 (pt_cmpR (op_neD hr.units) (pv 3) (pe_ix ix_list (pe_ix ix_tup (pv 1) pe_int (fun _ _ => rfl)) (pv 2) (fun _ _ => rfl)) (nomark _))))))
        (pss_one (ps_ret pe_bl))
        pss_nil)))))
    (pss_one (ps_ret pe_bl)))))), ?_⟩
    obtain ⟨bl, hbL⟩ := lst_ne (p := none) hne
    have htv : totV bs = .int (bl.t : Int) := by unfold totV; rw [hbL]
    rw [htv] at hu hu'
    have elen : xs.length = ys.length := rx.1.trans ry.1.symm
    have hxl := rx.1
    refine q_when (b := false) (et_is (et_or (a := false) (et_is (et_not (et_B (ev_isi (b := true) (ev_var rfl) (fun H1 e => .base (.tup (e _ _ hu))) (kit_ty (by decide +kernel))))) rfl) fun _ => et_is (b := false) (et_test (ev_op (ev_lenT (ev_var rfl) (st_of hu)) ev_c rv_neI)) rfl) rfl) (fun h => nomatch h) (fun _ H1 e1 => ?_)
    refine q_when (b := false) (et_is (et_or (a := false) (et_is (et_not (et_B (ev_call (ea_cons (ev_ixT (ev_var rfl) ev_c (e1 _ _ hu) (atI_nat (j := 0) rfl)) ea_nil) svI1))) rfl) fun _ => et_is (b := false) (et_test (ev_op (ev_ixT (ev_var rfl) ev_c (e1 _ _ hu) (atI_nat (j := 0) rfl)) (ev_ixT (ev_var rfl) ev_c (e1 _ _ hu') (atI_nat (j := 0) rfl)) rv_neI)) (by rw [decide_eq_true rfl]; rfl)) rfl) (fun h => nomatch h) (fun _ H2 e2 => ?_)
    have e02 := e1.trans e2
    refine q_when (b := false) (et_is (et_or (a := false) (et_is (et_not (et_B (ev_isi (b := true) (ev_ixT (ev_var rfl) ev_c (e02 _ _ hu) (atI_nat (j := 1) rfl)) (fun H1 e => .base (.lst ((e02.trans e) _ _ hl))) (kit_ty (by decide +kernel))))) rfl) fun _ => et_is (b := false) (et_test (ev_op (ev_len (ev_ixT (ev_var rfl) ev_c (e02 _ _ hu) (atI_nat (j := 1) rfl)) (sq_of (e02 _ _ hl))) (ev_len (ev_ixT (ev_var rfl) ev_c (e02 _ _ hu') (atI_nat (j := 1) rfl)) (sq_of (e02 _ _ hl'))) rv_neI)) (by rw [elen, decide_eq_true rfl]; rfl)) rfl) (fun h => nomatch h) (fun _ H3 e3 => ?_)
    have e03 := e02.trans e3
    refine q_forRm (n := (ys.length : Int)) (ea_cons (ev_len (ev_ixT (ev_var rfl) ev_c (e03 _ _ hu') (atI_nat (j := 1) rfl)) (sq_of (e03 _ _ hl'))) ea_nil) (by omega) (fun i σ' H' => (∃ v1 v2, σ' = [some (.ref u), some (.ref u'), v1, v2]) ∧ Ex H H') (fun H4 e4 => ⟨⟨none, none, rfl⟩, e03.trans e4⟩) (fun i σ' H' hi pv => ?_) (fun σ' H' pv => ?_)
    · obtain ⟨⟨v1, v2, rfl⟩, e4⟩ := pv
      have hi' : i < ys.length := by omega
      have gy := List.getElem?_eq_getElem hi'
      obtain ⟨o, ho, py⟩ := ry.get gy
      obtain ⟨x, gx, px⟩ := rx.at ho
      have hos := hok o (List.mem_of_getElem? ho)
      have py' := py
      have px' := px
      obtain ⟨tp, rfl, htp⟩ := px'
      obtain ⟨tq, hty, htq⟩ := py'
      rw [hty] at gy
      refine q_asg (ev_ixL (ev_ixT (ev_var rfl) ev_c (e4 _ _ hu) (atI_nat (j := 1) rfl)) (ev_var rfl) (e4 _ _ hl) (atI_nat gx)) fun H5 e5 => ?_
      have e05 := e4.trans e5
      have h2 := e05 _ _ htp
      refine q_when (b := false) (et_is (et_or (a := false) (et_is (et_not (et_B (ev_isi (b := true) (ev_var rfl) (fun H1 e => .base (.tup (e _ _ h2))) (kit_ty (by decide +kernel))))) rfl) fun _ => et_is (b := false) (et_test (ev_op (ev_lenT (ev_var rfl) (st_of h2)) ev_c rv_neI)) rfl) rfl) (fun h => nomatch h) (fun _ H6 e6 => ?_)
      have e06 := e05.trans e6
      have h3 := e06 _ _ htp
      refine s_when (b := false) (et_is (et_or (a := false) (et_is (et_not (et_B (ev_call (ea_cons (ev_ixT (ev_var rfl) ev_c h3 (atI_nat (j := 0) rfl)) ea_nil) svI1))) rfl) fun _ => et_is (b := false) (et_or (a := false) (et_is (et_not (et_B (ev_isi (b := true) (ev_ixT (ev_var rfl) ev_c h3 (atI_nat (j := 1) rfl)) (fun H1 e => .base (.str _)) (kit_ty (by decide +kernel))))) rfl) fun _ => et_is (b := false) (et_test (ev_op (ev_var rfl) (ev_ixL (ev_ixT (ev_var rfl) ev_c (e06 _ _ hu') (atI_nat (j := 1) rfl)) (ev_var rfl) (e06 _ _ hl') (atI_nat gy)) (rv_ndat (d := toP o) (e := toP o) (fun H1 e => dpP (px.ex (e06.trans e))) (fun H1 e => by rw [← hty]; exact dpP (py.ex (e06.trans e))) (toP_shaped hos) (toP_shaped hos)))) (by rw [toP_eqv]; rfl)) rfl) rfl) (fun h => nomatch h) (fun _ H7 e7 => ⟨⟨_, _, rfl⟩, e06.trans e7⟩)
    · obtain ⟨⟨v1, v2, rfl⟩, e4⟩ := pv
      exact s_ret ev_c fun H5 e5 => q H5 (e4.trans e5)
end
end Z
set_option maxHeartbeats 4000000
namespace Z
open PySem PySem.Spec PyProof.Rows L2 TL Evl NdefX
/-! ### read and asked -/
theorem txT_sub {x : Str} {k n : Nat} : ∀ c ∈ tl (txT x k n), c ∈ tl x := fun c hc => List.mem_of_mem_take (List.mem_of_mem_drop (show c ∈ ((tl x).take n).drop k from hc))
theorem blks_sub : ∀ {n : Nat} {x : Str} {a : Nat} {bs : List Bk} {z : Nat}, blks n x a = some (bs, z) → ∀ b ∈ bs, ∀ c ∈ tl b.s, c ∈ tl x
  | 0, _, _, _, _, h => by cases h; exact fun _ h => nomatch h
  | n + 1, x, a, bs, z, h => by
    have h : (match pcF x a with | none => none | some (b, a') => (blks n x a').map fun r => (b :: r.1, r.2)) = some (bs, z) := h
    cases hp : pcF x a with
    | none => rw [hp] at h; cases h
    | some ba =>
      obtain ⟨b, a'⟩ := ba
      rw [hp] at h
      obtain ⟨r, hr, e⟩ := Option.map_eq_some_iff.mp (show (blks n x a').map _ = some (bs, z) from h)
      cases e
      obtain ⟨r1, r2⟩ := r
      intro b' hb'
      rcases List.mem_cons.mp hb' with rfl | hb'
      · unfold pcF at hp
        split at hp
        · cases hp
        · split at hp
          · cases hp
            exact txT_sub
          · cases hp
      · exact blks_sub hr b' hb'
theorem rp_sub {fs : Fs} {x : Str} {bs : List Bk} (h : rpF fs x = some bs) : bs ≠ [] ∧ bs.length ≤ x.length + 1 ∧ ∀ b ∈ bs, ∀ c ∈ tl b.s, c ∈ tl x := by
  unfold rpF at h
  split at h
  · split at h
    · unfold sgF at h
      split at h
      · cases h
      · split at h
        · cases h
          exact ⟨fun h => (nomatch h), by rw [List.length_singleton]; omega, fun b hb => by rw [List.mem_singleton.mp hb]; exact fun c hc => hc⟩
        · cases h
    · split at h
      · split at h
        · obtain ⟨⟨g1, g2⟩, g3⟩ := svF_some.mp h
          have := blks_bd g1 (Nat.zero_le _)
          exact ⟨fun e => by rw [e, List.length_nil] at g3; omega, by omega, blks_sub g1⟩
        · cases h
      · cases h
    · cases h
  · cases h
section
variable {K : PySem.W.Frag} {D a : Addr} {σ : L2.St} {H : Hp} {ta tc te : TE} {c v : V} {cv : Value} {b : Bool}
theorem ev_isEN (x : ExcC K D) (h : Ev ta σ H (.ref a)) (hc : Ev tc σ H c) (hcv : ∀ u, RelV c u → u = cv) (k : PySem.W.kitOne K (.ref D) cv = some b) : Ev (tCB (ZX.rIsEN K a (.ref D) none) (tCons ta (tCons tc tNil))) σ H (.bl b) := fun H1 e Q q =>
  h H1 e _ fun H2 e2 => hc H2 (e.trans e2) _ fun H3 e3 => ⟨D, rfl, rfl, x, c, cv, b, rfl, hcv, k, q H3 (e2.trans e3)⟩
end
theorem relT {u : Value} {n : String} (h : RelV (.ty n) u) : u = .type n := h
theorem relC {u : Value} {a : Addr} (h : RelV (.ref a) u) : u = .ref a := h
theorem mk_leaf {K : PySem.W.Frag} {C DV q : Addr} {tz : TS} {D : Ends} {σ : L2.St} {i : Nat} {H : Hp} {w : Wl} (hq : w.q = false) (hs : smallW w) (hb : badW w = none) (hf : FqAt K H q w.fs) (kt : ∀ v l H', H l = none → Ex H H' → MeC C H' v w l → tz D (σ.set i (some v)) H') :
    ∀ x dx, H x = none → H dx = none → dx ≠ x → spCo K C DV false (.ref x :: (rowA w q ++ [])) (upd (upd H dx (.own x)) x (.ins C dx [])) (fun v H2 => v = .non ∧ tz D (σ.set i (some (.ref x))) H2) E0 := by
  rw [List.append_nil]
  exact co_mk (E := E0) (R := C) (DV := DV) (side := false) (w := w) (Q := fun v H' => tz D (σ.set i (some v)) H') hq hf hs (fun _ => kt) (fun n hn => by rw [hb] at hn; cases hn)
def spRr (RS : Addr) : Sp := fun vs H Q _ => ∃ v w l d, vs = [v, d] ∧ MeC RS H v w l ∧ areB w.fs = true ∧ w.b.length ≤ 50000 ∧ Pl w.b ∧ OPtAt H d (rpF w.fs w.b) ∧ RetV (.bl true) H Q
def spAk : Sp := fun vs H Q _ => ∃ (l : Addr) (fs : Fs) (x : Str) (d : V), vs = [.ref l, .str x, d] ∧ FsAt H l fs ∧ areB fs = true ∧ x.length ≤ 50000 ∧ Pl x ∧ OPtAt H d (rpF fs x) ∧ RetV (.bl true) H Q
theorem pl_lines {x : Str} (h : Pl x) : linesB x = true := by
  unfold linesB
  rw [List.all_eq_true]
  intro c hc
  rw [Bool.or_eq_true, decide_eq_true_eq, decide_eq_true_eq]
  exact h c hc
theorem pl_ok {x : Str} (h : Pl x) : PyData.strOk x = true := ok_text fun c hc => by
  rcases h c hc with rfl | h
  · decide
  · exact signs_lt c h
section
variable {P : Program} {w : World} {K : PySem.W.Frag} {mg : Str → Option Value} {base : Heap} {f DP DV DH RS : Addr} {fd : FuncData} {k : Nat}
theorem ok_law_read (T : Mg mg) (WV : Wp K mg DP DV DH) (RP : CE P w K mg base 6 "read_parts" ["response"] (spRp RS DP)) (c_law_same_pieces : Call P w K mg base 2 "_law_same_pieces" ["actual", "expected"] spSpc) (F : FnP K "_law_read" s_law_read f fd) (gm : mg "_law_read" = some (.ref f)) : Call P w K mg base 7 "_law_read" ["response", "due"] (spRr RS) := by
  obtain ⟨fP, dP, FP, mP, kpP, bP⟩ := RP.ex
  refine mk F gm (fun _ _ _ _ _ _ us hl => match us, hl with | [_, _], _ => rfl) (fun _ _ _ _ _ _ us hl => match us, hl with | [_, _], _ => rfl) sc_law_read (fun vs H Q E h => ?_) (fun cdv A outer s H vs Q E hr h => ?_)
  · obtain ⟨v, w, l, d, rfl, _⟩ := h
    rfl
  · obtain ⟨v, wl, l, d, rfl, hm, hok, hbl, hpl, hd, q⟩ := h
    refine ⟨_, (pss_cons (ZX.ps_try_fst (i := 3) rfl rfl sc_law_read.nd rfl rfl ⟨rfl, by decide, .inl WV.mF⟩ (fun W' pn xe tk po => (pss_one (ps_set (i := 2) sc_law_read.nd rfl (Or.inl rfl) (pe_callS (E := WE W') FP (hr.mono (by decide)) rfl mP kpP bP (fun σ => L2N.passAt tk σ) (pa_cons (pv 0) pa_nil)))))
    (fun a oe cls d pn hz hf => (pss_one (ps_ret (pe_and (pe_cmpR op_isN1 (pv 1) pe_non (nomark _)) (pe_and (pe_callB (ZX.call_isEN hz.zc hf) (by rfl) T.isinstance (by decide +kernel) (pa_cons (pv 3) (pa_cons (pe_gc (v := .ref DH) rfl ⟨_, WV.mH, rfl⟩) pa_nil))) (pe_and (pe_callB (ZX.call_isEN hz.zc hf) (by rfl) T.isinstance (by decide +kernel) (pa_cons (pv 3) (pa_cons (pe_bltn (v := .ty "ValueError") (u := .type "ValueError") (by rfl) T.ValueError (by decide +kernel) rfl) pa_nil))) (pe_one (pe_not (pe_callB (ZX.call_isEN hz.zc hf) (by rfl) T.isinstance (by decide +kernel) (pa_cons (pv 3) (pa_cons (pe_gc (v := .ref DV) rfl ⟨_, WV.mV, rfl⟩) pa_nil))))))))))))
    (pss_one (ps_ret (pe_and (pe_cmpR op_notN1 (pv 1) pe_non (nomark _)) (pe_one (pe_f c_law_same_pieces hr (by decide) rfl (pa_cons (pv 2) (pa_cons (pv 1) pa_nil)))))))), ?_⟩
    refine q_in ?_
    dsimp only
    refine s_asgR ((ea_cons (ev_var rfl) ea_nil) H (Ex.refl H) _ fun H1 e1 => ⟨v, wl, l, rfl, hm.ex e1, hok, by omega, fun hn H2 e2 => ?_, fun bs hbs v2 H2 e2 hp => ?_⟩)
    · rw [hn] at hd
      cases (show d = .non from hd)
      refine ⟨WV.eFF, fun a ha => ?_⟩
      exact s_ret (v := .bl true) (ev_is (ev_andV (a := true) (ev_is (ev_op (ev_var rfl) ev_c rv_isN) rfl) fun _ => ev_andV (a := true) (ev_isEN WV.xF (ev_var rfl) ev_c (fun _ => relC) WV.iFH) fun _ => ev_andV (a := true) (ev_isEN WV.xF (ev_var rfl) ev_c (fun _ => relT) WV.iFE) fun _ => ev_notV (ev_isEN WV.xF (ev_var rfl) ev_c (fun _ => relC) WV.iFV)) rfl) fun H3 e3 => q H3 ((e1.trans e2).trans e3)
    · rw [hbs] at hd
      obtain ⟨h1, h2, h3⟩ := rp_sub hbs
      have hd : PtAt H d bs := hd
      obtain ⟨du, dl, dys, rfl, _⟩ := id hd
      have e02 := e1.trans e2
      refine s_ret (v := .bl true) (ev_is (ev_andV (a := true) (ev_is (ev_op (ev_var rfl) ev_c rv_notN) rfl) fun _ => ev_call (E := E0) (sp := spSpc) (z := .bl true) (ea_cons (ev_var rfl) (ea_cons (ev_var rfl) ea_nil)) fun H3 e3 Q' q' E' => ⟨_, _, bs, rfl, hp.ex e3, (hd.ex e02).ex e3, h1, by omega, fun b hb => pl_ok fun c hc => hpl c (h3 b hb c hc), q'⟩) rfl) fun H3 e3 => q H3 (e02.trans e3)
theorem ok_law_asks (T : Mg mg) (WR : Ws K mg RS) (MK : Mkx P w K mg base RS DV false rsN) (c_law_read : Call P w K mg base 7 "_law_read" ["response", "due"] (spRr RS)) (F : FnP K "_law_asks" s_law_asks f fd) (gm : mg "_law_asks" = some (.ref f)) : Call P w K mg base 8 "_law_asks" ["fields", "letters", "due"] spAk := by
  obtain ⟨fi, fdi, M, Fi, b0⟩ := MK.ex
  have gR := WR.m
  refine mk F gm (fun _ _ _ _ _ _ us hl => match us, hl with | [_, _, _], _ => rfl) (fun _ _ _ _ _ _ us hl => match us, hl with | [_, _, _], _ => rfl) sc_law_asks (fun vs H Q E h => ?_) (fun cdv A outer s H vs Q E hr h => ?_)
  · obtain ⟨l, fs, x, d, rfl, _⟩ := h
    rfl
  · obtain ⟨l, fs, x, d, rfl, hf, hok, hxl, hpl, hd, q⟩ := h
    refine ⟨_, (pss_cons (ps_set (i := 3) sc_law_asks.nd rfl (Or.inl rfl) (pe_make (E := E0) M Fi (hr.mono (by decide)) rfl gR b0 .nil ZX.passN (pa_cons (pe_ix ix_list (pe_lst (pa_cons pe_str (pa_cons pe_str (pa_cons pe_str pa_nil)))) (pe_op op_mod (pe_callTy cz_int1 (by rfl) T.int (by decide +kernel) (pa_cons (pe_callB cz_len (by rfl) T.len (by decide +kernel) (pa_cons (pv 1) pa_nil)) pa_nil)) pe_int) (fun _ _ => rfl)) (pa_cons (pe_callTy call_list_of (by rfl) T.list (by decide +kernel) (pa_cons (pv 0) pa_nil)) (pa_cons (pv 1) pa_nil)))))
    (pss_cons (ps_if (pt_not (pt_val (pe_f c_law_read hr (by decide) rfl (pa_cons (pv 3) (pa_cons (pv 2) pa_nil)))))
      (pss_one (ps_ret pe_bl))
      pss_nil)
    (pss_one (ps_ret (pe_and (pe_cmpR (op_eqD hr.units) (pe_fld (pv 3) rfl) (pv 0) (nomark _)) (pe_one (pe_cmpR op_eq (pe_fld (pv 3) rfl) (pv 1) (nomark _)))))))), ?_⟩
    obtain ⟨s, hs, hmem, hbd⟩ : ∃ s : Str, atI [V.str "part", .str "part", .str "ok"] ((x.length : Int) % 3) = some (.str s) ∧ s ∈ stL ∧ hasBd s = true := by
      have h3 : x.length % 3 < 3 := Nat.mod_lt _ (by decide)
      have e3 : ((x.length : Int) % 3) = ((x.length % 3 : Nat) : Int) := by omega
      rw [e3]
      generalize x.length % 3 = r at h3
      match r, h3 with
      | 0, _ => exact ⟨"part", rfl, by decide +kernel, by decide +kernel⟩
      | 1, _ => exact ⟨"part", rfl, by decide +kernel, by decide +kernel⟩
      | 2, _ => exact ⟨"ok", rfl, by decide +kernel, by decide +kernel⟩
    have hsl := st_len hmem
    obtain ⟨a1, a2⟩ := areB_val hok
    have hbad : badW ⟨false, s, "", fs, x⟩ = none := by
      show (if s ∉ stL then some ("status" : Str) else badM fs (hasBd s) x) = none
      rw [if_neg (not_not_intro hmem)]
      unfold badM
      have hb : bodyB x = true := by
        unfold bodyB
        rw [pl_lines hpl, decide_eq_true (by omega)]
        rfl
      rw [if_neg (by rw [hok]; exact fun h => nomatch h), if_neg (by rw [hb, hbd]; rintro (h | ⟨_, h⟩) <;> cases h)]
    have hsm : smallW ⟨false, s, "", fs, x⟩ := ⟨Nat.le_trans hsl (by decide), by show ("" : Str).length ≤ 100; decide, ⟨by show fs.length ≤ 100; omega, fun y hy => by have := a2 y hy; omega⟩, by show x.length ≤ 200000; omega⟩
    have hfx := id hf
    obtain ⟨xs, hl, hrel⟩ := hfx
    refine q_asgR (rd_mkS (rd_consE (ev_pickB (ea_cons ev_c (ea_cons ev_c (ea_cons ev_c ea_nil))) (by show 3 ≤ 100000; decide) (ev_op (ev_int1 (ev_lenStr (ev_var rfl) (by omega))) ev_c (rv_I (by show (0 : Int) < 3; decide))) hs) fun H1 e1 => rd_consR ((el_listS (ev_var rfl) (e1 _ _ hl)) H1 (Ex.refl H1) _ fun q1 H2 nq e2 hq => rd_consE (ev_var rfl) fun H3 e3 => rd_nil ?_)))
    have e03 := (e1.trans e2).trans e3
    refine mk_leaf (w := ⟨false, s, "", fs, x⟩) rfl hsm hbad ⟨xs, .inl (e3 _ _ hq), hrel.mono fun _ _ m => TupAt.ex m e03⟩ fun v lf H4 nl e4 hm => ?_
    have e04 := e03.trans e4
    refine q_when (b := false) (et_is (et_not (et_B (ev_call (E := E0) (sp := spRr RS) (z := .bl true) (ea_cons (ev_var rfl) (ea_cons (ev_var rfl) ea_nil)) fun H5 e5 Q' q' E' => ⟨v, ⟨false, s, "", fs, x⟩, lf, d, rfl, hm.ex e5, hok, hxl, hpl, ?_, q'⟩))) rfl) (fun h => nomatch h) (fun _ H5 e5 => ?_)
    · show OPtAt H5 d (rpF fs x)
      have e05 := e04.trans e5
      cases hr : rpF fs x with
      | none => rw [hr] at hd; exact hd
      | some bs =>
        rw [hr] at hd
        exact PtAt.ex hd e05
    · obtain ⟨a, dx, rfl, ha, hlf⟩ := hm.ex e5
      exact s_ret (v := .bl true) (ev_is (ev_andV (ev_op (ev_mfld WR.cls WR.n3 (ev_var rfl) ha me_fields) (ev_var rfl) (rv_eqFS hlf (hf.ex (e04.trans e5)) (okF_okS (areB_ok hok)) (okF_okS (areB_ok hok)))) fun _ => ev_op (ev_mfld WR.cls WR.n4 (ev_var rfl) ha me_body) (ev_var rfl) rv_eqS) (by rw [decide_eq_true rfl, decide_eq_true rfl]; rfl)) fun H6 e6 => q H6 ((e04.trans e5).trans e6)
end
end Z
set_option maxHeartbeats 4000000
namespace Z
open PySem PySem.Spec PyProof.Rows L2 TL Evl NdefX
/-! ### what is written is read back -/
theorem ixS_first {c : Nat} {z : Str} {u v : List Nat} (h : tl z = u ++ c :: v) (hn : c ∉ u) : ixS c z = some u.length := ixS_some.mpr ⟨by
  rw [h, List.getElem?_append_right (Nat.le_refl _), Nat.sub_self]; rfl, fun k hk e => by
  rw [h, List.getElem?_append_left hk] at e
  exact hn (List.mem_of_getElem? e)⟩
theorem drop_app {u v : List Nat} {n k : Nat} (h : n = u.length) : (u ++ v).drop (n + k) = v.drop k := by
  subst h
  rw [← List.drop_drop, List.drop_left' rfl]
theorem take_app {u v : List Nat} {n : Nat} (h : n = u.length) : (u ++ v).take n = u := by
  subst h
  exact List.take_left' rfl
def bi (b : Bk) : Bi := ⟨b.a, b.e, b.t, b.s⟩
theorem nat_dig (n : Nat) : ∀ c ∈ tl (nT (n : Int)), 48 ≤ c ∧ c ≤ 57 := fun c hc => by
  rw [show tl (nT (n : Int)) = numL n from tl_num n] at hc
  exact numL_digits n c hc
theorem tl_hdS (b : Bi) : tl (hdS b) = tl (nT b.a) ++ 45 :: (tl (nT b.e) ++ 47 :: tl (nT b.t)) := by
  have e1 : tl ("-" : Str) = [45] := by decide +kernel
  have e2 : tl ("/" : Str) = [47] := by decide +kernel
  unfold hdS
  rw [tl_append, tl_append, tl_append, tl_append, e1, e2]
  simp only [List.append_assoc, List.cons_append, List.nil_append]
theorem num_numB {i : Int} (h0 : 0 ≤ i) (h1 : i ≤ 999999) : num (PySem.Str.ofString (toString i)) = some i.toNat := by
  cases i with
  | negSucc n => exact absurd h0 (by omega)
  | ofNat n =>
    have h1 : (n : Int) ≤ 999999 := h1
    have hz : tl (PySem.Str.ofString (toString (Int.ofNat n))) = numL n := tl_num n
    unfold num
    rw [if_pos (num_dig (by omega) hz), hz, numL_val]
    rfl
theorem num_nT {n : Nat} (h : n ≤ 999999) : num (nT (n : Int)) = some n := by
  have := num_numB (i := (n : Int)) (by omega) (by omega)
  rw [show num (nT (n : Int)) = some (n : Int).toNat from this]
  rfl
theorem ext_back {b : Bk} (h1 : b.a ≤ b.e) (h2 : b.e < b.t) (h3 : b.t ≤ 999999) : extF (hdS (bi b)) = some (b.a, b.e, b.t) := by
  have hz := tl_hdS (bi b)
  obtain ⟨A, hA⟩ : ∃ A, A = tl (nT (bi b).a) := ⟨_, rfl⟩
  obtain ⟨B, hB⟩ : ∃ B, B = tl (nT (bi b).e) := ⟨_, rfl⟩
  obtain ⟨C, hC⟩ : ∃ C, C = tl (nT (bi b).t) := ⟨_, rfl⟩
  have dA : ∀ c ∈ A, 48 ≤ c ∧ c ≤ 57 := by rw [hA]; exact nat_dig b.a
  have dB : ∀ c ∈ B, 48 ≤ c ∧ c ≤ 57 := by rw [hB]; exact nat_dig b.e
  rw [← hA, ← hB, ← hC] at hz
  have i1 : ixS 45 (hdS (bi b)) = some A.length := ixS_first hz fun h => by have := dA _ h; omega
  have hz2 : tl (hdS (bi b)) = (A ++ 45 :: B) ++ 47 :: C := by rw [hz]; simp only [List.append_assoc, List.cons_append]
  have i2 : ixS 47 (hdS (bi b)) = some (A ++ 45 :: B).length := ixS_first hz2 fun h => by
    rcases List.mem_append.mp h with h | h
    · have := dA _ h; omega
    · rcases List.mem_cons.mp h with h | h
      · omega
      · have := dB _ h; omega
  have hl : (A ++ 45 :: B).length = A.length + (1 + B.length) := by rw [List.length_append, List.length_cons]; omega
  have p1 : preT (hdS (bi b)) A.length = nT (b.a : Int) := ext_tl (by rw [tl_pre, hz, take_app rfl, hA]; rfl)
  have p2 : midT (hdS (bi b)) A.length (A ++ 45 :: B).length = nT (b.e : Int) := ext_tl (by
    unfold midT
    rw [tl_suf, tl_pre, hz2, take_app rfl, drop_app (k := 1) rfl, List.drop_succ_cons, List.drop_zero, hB]; rfl)
  have p3 : sufT (hdS (bi b)) ((A ++ 45 :: B).length + 1) = nT (b.t : Int) := ext_tl (by
    rw [tl_suf, hz2, drop_app (k := 1) rfl, List.drop_succ_cons, List.drop_zero, hC]; rfl)
  unfold extF
  rw [i1, i2]
  show (if A.length < (A ++ 45 :: B).length then extN (num (preT _ A.length)) (num (midT _ A.length _)) (num (sufT _ _)) else none) = _
  rw [if_pos (by omega), p1, p2, p3, num_nT (by omega), num_nT (by omega), num_nT h3]
  show (if b.a ≤ b.e ∧ b.e < b.t then some (b.a, b.e, b.t) else none) = _
  rw [if_pos ⟨h1, h2⟩]
def goodK (b : Bk) : Prop := b.a ≤ b.e ∧ b.e < b.t ∧ b.t ≤ 999999 ∧ b.s.length = b.e + 1 - b.a
theorem tl_blkT (x : Bi) : tl (blkT x) = [112, 97, 114, 116, 32] ++ (tl (hdS x) ++ 10 :: (tl x.s ++ [10])) := by
  have e2 : tl ("\n" : Str) = [10] := by decide +kernel
  unfold blkT
  rw [tl_append, tl_append, tl_append, tl_append, e2, tl_part]
  simp only [List.append_assoc, List.cons_append, List.nil_append]
theorem blkT_len2 (x : Bi) : (blkT x).length = 5 + (tl (hdS x)).length + 1 + x.s.length + 1 := by
  rw [len_tl (blkT x), tl_blkT, len_tl x.s]
  simp only [List.length_append, List.length_cons, List.length_nil]
  omega
theorem pc_back {x : Str} {pre post : List Nat} {b : Bk} (hx : tl x = pre ++ (tl (blkT (bi b)) ++ post)) (g : goodK b) : pcF x pre.length = some (b, pre.length + (blkT (bi b)).length) := by
  obtain ⟨h1, h2, h3, hl⟩ := g
  obtain ⟨Z, hZ⟩ : ∃ Z, Z = tl (hdS (bi b)) := ⟨_, rfl⟩
  have hbl := blkT_len2 (bi b)
  rw [tl_blkT, ← hZ] at hx
  rw [← hZ] at hbl
  have nZ : 10 ∉ Z := fun h => by
    rw [hZ] at h
    have := hdS_sg (bi b) 10 h
    omega
  have hsl : (tl b.s).length = b.e + 1 - b.a := by rw [← len_tl, hl]
  have hx1 : tl x = pre ++ ([112, 97, 114, 116, 32] ++ (Z ++ 10 :: (tl b.s ++ 10 :: post))) := by
    rw [hx]
    show _ = _
    simp only [List.append_assoc, List.cons_append, List.nil_append]
    rfl
  have hst : stopN x pre.length = some (pre.length + (5 + Z.length)) := by
    unfold stopN
    have : ixS 10 (sufT x pre.length) = some ([112, 97, 114, 116, 32] ++ Z).length := ixS_first (v := tl b.s ++ 10 :: post) (by
      rw [tl_suf, hx1, List.drop_left' rfl]
      simp only [List.append_assoc, List.cons_append]) (by
      intro h
      rcases List.mem_append.mp h with h | h
      · revert h; decide
      · exact nZ h)
    rw [this, List.length_append]
    rfl
  have hpart : cutS x (some (pre.length : Int)) (some ((pre.length : Int) + 5)) = ("part " : Str) := by
    rw [show ((pre.length : Int) + 5) = ((pre.length + 5 : Nat) : Int) from rfl, cut_mid]
    refine ext_tl ?_
    show ((tl x).take (pre.length + 5)).drop pre.length = _
    rw [List.drop_take, hx1, List.drop_left' rfl, tl_part, Nat.add_sub_cancel_left]
    rfl
  have hhd : hdT x pre.length (pre.length + (5 + Z.length)) = hdS (bi b) := by
    refine ext_tl ?_
    show ((tl x).take _).drop (pre.length + 5) = _
    rw [List.drop_take, hx1, drop_app rfl, show (5 : Nat) = ([112, 97, 114, 116, 32] : List Nat).length from rfl, List.drop_left' rfl, show pre.length + (([112, 97, 114, 116, 32] : List Nat).length + Z.length) - (pre.length + ([112, 97, 114, 116, 32] : List Nat).length) = Z.length by omega, take_app rfl, hZ]
  have hhB : hB x pre.length = some ((b.a, b.e, b.t), pre.length + (5 + Z.length) + 1) := by
    unfold hB
    rw [hst]
    show (if _ then _ else _) = _
    rw [if_pos hpart, hhd, ext_back h1 h2 h3]
    rfl
  have hx2 : tl x = (pre ++ ([112, 97, 114, 116, 32] ++ (Z ++ [10]))) ++ (tl b.s ++ 10 :: post) := by
    rw [hx1]
    simp only [List.append_assoc, List.cons_append, List.nil_append]
  have hk : (pre ++ ([112, 97, 114, 116, 32] ++ (Z ++ [10]))).length = pre.length + (5 + Z.length) + 1 := by
    simp only [List.length_append, List.length_cons, List.length_nil]
    omega
  generalize pre ++ ([112, 97, 114, 116, 32] ++ (Z ++ [10])) = U at hx2 hk
  have hnl : (tl x)[pre.length + (5 + Z.length) + 1 + (b.e + 1 - b.a)]? = some 10 := by
    rw [← hk, ← hsl, hx2, ← List.append_assoc, List.getElem?_append_right (by rw [List.length_append]; exact Nat.le_refl _), List.length_append, Nat.sub_self]
    rfl
  have htx : txT x (pre.length + (5 + Z.length) + 1) (pre.length + (5 + Z.length) + 1 + (b.e + 1 - b.a)) = b.s := by
    refine ext_tl ?_
    show ((tl x).take _).drop _ = _
    rw [List.drop_take, ← hk, hx2, List.drop_left' rfl, Nat.add_sub_cancel_left, ← hsl, take_app rfl]
  unfold pcF
  rw [hhB]
  show (if _ then some ((⟨b.a, b.e, b.t, txT x _ _⟩ : Bk), _) else none) = _
  rw [if_pos (by rw [sg_nl]; exact cut_one.mpr hnl), htx, hbl]
  show some (b, _) = some (b, _)
  have e : (bi b).s.length = b.e + 1 - b.a := hl
  rw [e]
  congr 2
  omega
theorem tl_wrB_cons (x : Bi) (xs : List Bi) : tl (wrB (x :: xs)) = tl (blkT x) ++ tl (wrB xs) := by
  unfold wrB
  rw [tlTJ, tlTJ, List.map_cons, List.flatMap_cons]
theorem wrB_cons_len (x : Bi) (xs : List Bi) : (wrB (x :: xs)).length = (blkT x).length + (wrB xs).length := by
  rw [len_tl (wrB (x :: xs)), tl_wrB_cons, List.length_append, ← len_tl, ← len_tl]
theorem blks_back {x : Str} {post : List Nat} : ∀ {bs : List Bk} {pre : List Nat}, tl x = pre ++ (tl (wrB (bs.map bi)) ++ post) → (∀ b ∈ bs, goodK b) → blks bs.length x pre.length = some (bs, pre.length + (wrB (bs.map bi)).length)
  | [], pre, _, _ => by
    have : (wrB (List.map bi [])).length = 0 := by decide +kernel
    rw [this]
    rfl
  | b :: r, pre, hx, g => by
    rw [List.map_cons, tl_wrB_cons, List.append_assoc] at hx
    have h1 := pc_back hx (g b List.mem_cons_self)
    have hx2 : tl x = (pre ++ tl (blkT (bi b))) ++ (tl (wrB (r.map bi)) ++ post) := by rw [hx, List.append_assoc]
    have h2 := blks_back (bs := r) hx2 fun c hc => g c (List.mem_cons_of_mem _ hc)
    have hl : (pre ++ tl (blkT (bi b))).length = pre.length + (blkT (bi b)).length := by rw [List.length_append, ← len_tl]
    rw [hl] at h2
    show (match pcF x pre.length with | none => none | some (b, a') => (blks r.length x a').map fun (q : List Bk × Nat) => (b :: q.1, q.2)) = _
    rw [h1]
    show (blks r.length x _).map _ = _
    rw [h2, List.map_cons, wrB_cons_len]
    show some (b :: r, _) = some (b :: r, _)
    congr 2
    omega
theorem sv_back {bs : List Bk} (g : ∀ b ∈ bs, goodK b) (ok : okL none bs = true) : svF (wrB (bs.map bi)) bs.length = some bs := by
  have h := blks_back (x := wrB (bs.map bi)) (post := []) (pre := []) (by simp) g
  exact svF_some.mpr ⟨⟨by rw [show ([] : List Nat).length = 0 from rfl] at h; rw [h, Nat.zero_add], ok⟩, rfl⟩
/-- the blocks of what is built -/
def bkO (tot : Nat) (c : Pc) : Bk := ⟨c.a, c.a + c.s.length - 1, tot, c.s⟩
theorem pcsEnd_le : ∀ {ps : List Pc} {lo : Nat}, pcsOk lo ps → lo ≤ pcsEnd lo ps
  | [], _, _ => Nat.le_refl _
  | b :: r, lo, ⟨g1, g2, g3, g4, g5⟩ => by
    have := pcsEnd_le g5
    show lo ≤ pcsEnd (b.a + b.s.length) r
    omega
theorem good_built : ∀ {ps : List Pc} {lo tot : Nat}, pcsOk lo ps → pcsEnd lo ps ≤ tot → tot ≤ 999999 → ∀ b ∈ ps.map (bkO tot), goodK b ∧ b.t = tot ∧ b.s.length ≤ 20 ∧ 1 ≤ b.s.length ∧ Pl b.s
  | [], _, _, _, _, _ => fun _ h => nomatch h
  | b :: r, lo, tot, ⟨g1, g2, g3, g4, g5⟩, he, ht => by
    have he : pcsEnd (b.a + b.s.length) r ≤ tot := he
    have h2 := pcsEnd_le g5
    intro c hc
    rcases List.mem_cons.mp hc with rfl | hc
    · refine ⟨⟨?_, ?_, ht, ?_⟩, rfl, g3, g2, g4⟩
      · show b.a ≤ b.a + b.s.length - 1
        omega
      · show b.a + b.s.length - 1 < tot
        omega
      · show b.s.length = b.a + b.s.length - 1 + 1 - b.a
        omega
    · exact good_built g5 he ht c hc
theorem okL_built : ∀ {ps : List Pc} {lo tot : Nat} {p : Option Bk}, pcsOk lo ps → (∀ l, p = some l → l.e < lo ∧ l.t = tot) → okL p (ps.map (bkO tot)) = true
  | [], _, _, _, _, _ => rfl
  | b :: r, lo, tot, p, ⟨g1, g2, g3, g4, g5⟩, hp => by
    show (okN p (bkO tot b) && okL (some (bkO tot b)) (r.map (bkO tot))) = true
    rw [okL_built g5 (fun l hl => by
      cases hl
      refine ⟨?_, rfl⟩
      show b.a + b.s.length - 1 < b.a + b.s.length
      omega), Bool.and_true]
    cases p with
    | none => rfl
    | some l =>
      obtain ⟨h1, h2⟩ := hp l rfl
      show (decide (l.e < b.a) && decide (l.t = tot)) = true
      rw [decide_eq_true (by omega), decide_eq_true h2]
      rfl
theorem sg_back {b : Bk} (g : goodK b) : sgF (hdS (bi b)) b.s = some [b] := by
  obtain ⟨h1, h2, h3, hl⟩ := g
  unfold sgF
  rw [ext_back h1 h2 h3]
  show (if b.s.length = b.e + 1 - b.a then _ else _) = _
  rw [if_pos hl]
end Z
set_option maxHeartbeats 4000000
namespace Z
open PySem PySem.Spec PyProof.Rows L2 TL Evl NdefX
/-! ### for the law: lists of fields, blocks kept -/
theorem Rel.app {α : Type} {R : V → α → Prop} {xs ys : List V} {os ps : List α} (h : Rel R xs os) (h2 : Rel R ys ps) : Rel R (xs ++ ys) (os ++ ps) := by
  refine ⟨by rw [List.length_append, List.length_append, h.1, h2.1], fun i y u a b => ?_⟩
  by_cases hi : i < xs.length
  · rw [List.getElem?_append_left hi] at a
    rw [List.getElem?_append_left (by rw [← h.1]; exact hi)] at b
    exact h.2 i y u a b
  · rw [List.getElem?_append_right (by omega)] at a
    rw [List.getElem?_append_right (by rw [← h.1]; omega), ← h.1] at b
    exact h2.2 _ y u a b
/-- an expression whose value is a list of these fields -/
def FsV (te : TE) (σ : L2.St) (H : Hp) (fs : Fs) : Prop := ∀ H1, Ex H H1 → ∀ Q : VK, (∀ l H2, Ex H1 H2 → FsAt H2 l fs → Q (.ref l) H2) → te σ H1 Q
section
variable {σ : L2.St} {H : Hp} {ta tb : TE} {fs gs : Fs} {i : Nat} {l : Addr} {a b : Str}
theorem fv_var (h : σ[i]? = some (some (.ref l))) (hf : FsAt H l fs) : FsV (tVar i) σ H fs := fun H1 e Q q => (ev_var h) H1 (Ex.refl H1) _ fun H2 e2 => q l H2 e2 (hf.ex (e.trans e2))
theorem fv_one (h1 : Ev ta σ H (.str a)) (h2 : Ev tb σ H (.str b)) : FsV (tLst (tCons (tTup (tCons ta (tCons tb tNil))) tNil)) σ H [(a, b)] := fun H1 e Q q =>
  rd_F1 (fun H2 e2 Q q => h1 H2 (e.trans e2) Q q) (fun H2 e2 Q q => h2 H2 (e.trans e2) Q q) fun l H2 _ e2 hf => q l H2 e2 hf
theorem fv_cat (h1 : FsV ta σ H fs) (h2 : FsV tb σ H gs) (hz : fs.length + gs.length ≤ 1000) : FsV (tOp rCat ta tb) σ H (fs ++ gs) := fun H1 e Q q =>
  h1 H1 e _ fun a H2 e2 ha => h2 H2 (e.trans e2) _ fun b H3 e3 hb => by
    obtain ⟨xs, hx, rx⟩ := ha.ex e3
    obtain ⟨ys, hy, ry⟩ := hb
    refine ⟨a, b, xs, ys, rfl, rfl, hx, hy, sz_of (by have := rx.1; have := ry.1; omega), fun p np => ?_⟩
    have e4 := Ex.new np (o := .lst (xs ++ ys))
    exact q p _ ((e2.trans e3).trans e4) ⟨xs ++ ys, upd_same, (rx.mono fun _ _ m => TupAt.ex m e4).app (ry.mono fun _ _ m => TupAt.ex m e4)⟩
end
theorem areB_mk {fs : Fs} (hl : fs.length ≤ 40) (h : okF fs) : areB fs = true := by
  unfold areB
  rw [decide_eq_true hl, Bool.true_and, List.all_eq_true]
  exact h
theorem okF_app {fs gs : Fs} (h1 : okF fs) (h2 : okF gs) : okF (fs ++ gs) := fun x hx => (List.mem_append.mp hx).elim (h1 x) (h2 x)
theorem vals_app (fs gs : Fs) (n : Str) : valsF (fs ++ gs) n = valsF fs n ++ valsF gs n := by
  unfold valsF
  rw [List.filter_append, List.map_append]
/-- a field that stands ahead or behind -/
def Sid (a : Str) (b : Str) (fs : Fs) : Prop := fs = [] ∨ fs = [(a, b)]
theorem Sid.vals {a b n : Str} {fs : Fs} (h : Sid a b fs) (hn : a ≠ n) : valsF fs n = [] := by
  rcases h with rfl | rfl
  · rfl
  · unfold valsF
    rw [List.filter_cons, decide_eq_false hn]
    rfl
theorem Sid.ok {a b : Str} {fs : Fs} (h : Sid a b fs) (h1 : nameB a = true) (h2 : valueB b = true) : okF fs ∧ fs.length ≤ 1 := by
  rcases h with rfl | rfl
  · exact ⟨(fun _ h => nomatch h), Nat.zero_le _⟩
  · exact ⟨okF_1 h1 h2, Nat.le_refl _⟩
theorem sides {ah be : Fs} (h1 : Sid "date" "5" ah) (h2 : Sid "mark" "\"v1\"" be) : (∀ fs, valsF (ah ++ fs ++ be) "part" = valsF fs "part" ∧ valsF (ah ++ fs ++ be) "parts" = valsF fs "parts") ∧ ∀ fs, okF fs → fs.length ≤ 2 → areB (ah ++ fs ++ be) = true := by
  have n1 : ("date" : Str) ≠ "part" ∧ ("date" : Str) ≠ "parts" ∧ ("mark" : Str) ≠ "part" ∧ ("mark" : Str) ≠ "parts" := by decide +kernel
  have n2 : nameB ("date" : Str) = true ∧ valueB ("5" : Str) = true ∧ nameB ("mark" : Str) = true ∧ valueB ("\"v1\"" : Str) = true := by decide +kernel
  obtain ⟨k1, l1⟩ := h1.ok n2.1 n2.2.1
  obtain ⟨k2, l2⟩ := h2.ok n2.2.2.1 n2.2.2.2
  refine ⟨fun fs => ?_, fun fs hf hl => areB_mk (by rw [List.length_append, List.length_append]; omega) (okF_app (okF_app k1 hf) k2)⟩
  rw [vals_app, vals_app, vals_app, vals_app, h1.vals n1.1, h1.vals n1.2.1, h2.vals n1.2.2.1, h2.vals n1.2.2.2]
  simp
theorem rp_part {ah be : Fs} {z x : Str} (h1 : Sid "date" "5" ah) (h2 : Sid "mark" "\"v1\"" be) : rpF (ah ++ ([("part", z)] : Fs) ++ be) x = sgF z x := by
  obtain ⟨g1, g2⟩ := (sides h1 h2).1 [("part", z)]
  have v : valsF [("part", z)] "part" = [z] ∧ valsF [("part", z)] "parts" = [] := ⟨rfl, rfl⟩
  exact rp_one (by rw [g1]; exact v.1) (by rw [g2]; exact v.2)
theorem rp_parts {ah be : Fs} {n : Nat} {x : Str} (h1 : Sid "date" "5" ah) (h2 : Sid "mark" "\"v1\"" be) (hn : n ≤ 999999) : rpF (ah ++ ([("parts", nT (n : Int))] : Fs) ++ be) x = if 2 ≤ n then svF x n else none := by
  obtain ⟨g1, g2⟩ := (sides h1 h2).1 [("parts", nT (n : Int))]
  have v : valsF [("parts", nT (n : Int))] "part" = [] ∧ valsF [("parts", nT (n : Int))] "parts" = [nT (n : Int)] := ⟨rfl, rfl⟩
  rw [rp_many (by rw [g1]; exact v.1) (by rw [g2]; exact v.2), num_nT hn]
/-- "[(a, b)][:draw(2)]" -/
theorem rd_slD {K : PySem.W.Frag} {σ : L2.St} {H : Hp} {Q : VK} {E : XK} {tp : TE} {p l0 : Addr} {m : Nat} {a b : Str} (sr : Sr H p l0 m) (hm : m ≤ 100000) (hp : Ev tp σ H (.ref p)) (k : ∀ l fs H', H l = none → FsAt H' l fs → Sid a b fs → Sr H' p l0 (m + 1) → Keep p H H' → Q (.ref l) H') :
    tSl (rSlL K) (tLst (tCons (tTup (tCons (tC (.str a)) (tCons (tC (.str b)) tNil))) tNil)) tNoPart (tPart (tCall spSrc [] E (tCons tp (tCons (tC (.int 2)) tNil)))) σ H Q :=
  rd_F1 (Q := fun v H1 => _) ev_c ev_c fun l1 H1 n1 e1 hf => rd_ds (ea_cons (fun H2 e2 Q q => hp H2 (e1.trans e2) Q q) (ea_cons ev_c ea_nil)) (sr.ex e1) (by omega) (by decide) (by decide) fun d H2 d0 d1 b2 k2 => by
    have hf2 := hf.keep k2 (sr.ex e1).has (sr.ne n1)
    obtain ⟨xs, hx, rx⟩ := hf2
    refine ⟨d, rfl, l1, xs, rfl, sq_of hx, fun l nl => ?_⟩
    have e3 := Ex.new nl (o := .lst (cutV xs none (some d)))
    have k02 := (Keep.of e1).trans k2
    have hl : xs.length = 1 := rx.1
    refine k l (if d = 0 then [] else [(a, b)]) _ (b2.free k02 nl) ?_ (by by_cases h : d = 0
                                                                          · rw [if_pos h]; exact .inl rfl
                                                                          · rw [if_neg h]; exact .inr rfl) (b2.ex e3) (k02.trans (Keep.of e3))
    by_cases h : d = 0
    · subst h
      rw [if_pos rfl]
      refine ⟨_, upd_same, ?_⟩
      rw [show (0 : Int) = ((0 : Nat) : Int) from rfl, cutV_toB (Nat.zero_le _), List.take_zero]
      exact Rel.nil
    · rw [if_neg h]
      have h1 : d = ((1 : Nat) : Int) := by omega
      subst h1
      refine ⟨_, upd_same, ?_⟩
      rw [cutV_toB (by omega), List.take_of_length_le (by omega)]
      exact rx.mono fun _ _ m => TupAt.ex m (Ex.new nl (o := .lst xs))
theorem BlAt.keepS {H H' : Hp} {p l0 : Addr} {m : Nat} {v : V} {x : Bi} (h : BlAt H v x) (b : Sr H p l0 m) (k : Keep p H H') : BlAt H' v x := by
  obtain ⟨q, rfl, hq⟩ := h
  refine ⟨q, rfl, k _ _ (fun e => ?_) hq⟩
  obtain ⟨n0, ⟨cs, c1, c2, c3, sd, hp, _⟩, _⟩ := b
  rw [e, hp] at hq
  cases hq
/-- the list of the blocks -/
def LbL (H : Hp) (q : Addr) (xs : List Bi) : Prop := ∃ ys, H q = some (.lst ys) ∧ Rel (BlAt H) ys xs
theorem LbL.ex {H H' : Hp} {q : Addr} {xs : List Bi} (h : LbL H q xs) (e : Ex H H') : LbL H' q xs := by
  obtain ⟨ys, h1, h2⟩ := h
  exact ⟨ys, e _ _ h1, h2.mono fun _ _ m => m.ex e⟩
theorem LbL.keep {H H' : Hp} {p l0 q : Addr} {m : Nat} {xs : List Bi} (h : LbL H q xs) (b : Sr H p l0 m) (k : Keep p H H') (n : q ≠ p) : LbL H' q xs := by
  obtain ⟨ys, h1, h2⟩ := h
  exact ⟨ys, k _ _ n h1, h2.mono fun _ _ m => m.keepS b k⟩
/-- the pieces, no part of them the source's list -/
def PtN (H : Hp) (p : Addr) (v : V) (bs : List Bk) : Prop := ∃ u l ys, v = .ref u ∧ l ≠ p ∧ H u = some (.tup [totV bs, .ref l]) ∧ H l = some (.lst ys) ∧ Rel (PcAt H) ys bs
theorem PtN.pt {H : Hp} {p : Addr} {v : V} {bs : List Bk} (h : PtN H p v bs) : PtAt H v bs := by
  obtain ⟨u, l, ys, rfl, _, h1, h2, h3⟩ := h
  exact ⟨u, l, ys, rfl, h1, h2, h3⟩
theorem PtN.ex {H H' : Hp} {p : Addr} {v : V} {bs : List Bk} (h : PtN H p v bs) (e : Ex H H') : PtN H' p v bs := by
  obtain ⟨u, l, ys, rfl, n, h1, h2, h3⟩ := h
  exact ⟨u, l, ys, rfl, n, e _ _ h1, e _ _ h2, h3.mono fun _ _ m => TupAt.ex m e⟩
theorem PtN.keep {H H' : Hp} {p : Addr} {v : V} {bs : List Bk} (h : PtN H p v bs) (k : Keep p H H') (hp : ∃ xs, H p = some (.lst xs)) : PtN H' p v bs := by
  obtain ⟨u, l, ys, rfl, n, h1, h2, h3⟩ := h
  refine ⟨u, l, ys, rfl, n, k _ _ (fun e => ?_) h1, k _ _ n h2, h3.mono fun _ _ m => TupAt.keepP m k hp⟩
  obtain ⟨xs, hp⟩ := hp
  rw [e, hp] at h1
  cases h1
theorem rel_rows {H H1 : Hp} {p : Addr} {ys : List V} {xs : List Bi} {row : Nat → List V} {n : Nat} (h : Rel (fun v r => ∃ q, v = .ref q ∧ H q = none ∧ q ≠ p ∧ H1 q = some (.lst r)) ys ((List.range n).map row)) (hn : xs.length = n) (hr : ∀ i x, xs[i]? = some x → row i = biL x) : Rel (BlAt H1) ys xs := by
  have hl : ys.length = n := by rw [h.1, List.length_map, List.length_range]
  refine ⟨by omega, fun i y x hy hx => ?_⟩
  have hi : i < n := by have := (List.getElem?_eq_some_iff.mp hy).1; omega
  obtain ⟨q, rfl, _, _, hq⟩ := h.2 i y (row i) hy (by rw [List.getElem?_map, List.getElem?_range hi]; rfl)
  exact ⟨q, rfl, by rw [hq, hr i x hx]; rfl⟩
theorem BnAt.blocks {H H' : Hp} {r : Addr} {zs : List V} {c d : Nat} (h : BnAt H H' r zs c d) (hd : d ≤ 30) : ∃ xs, LbL H' r xs ∧ xs.length = zs.length ∧ ∀ x ∈ xs, okBi c x := by
  obtain ⟨h1, _, h3⟩ := h
  have key : ∀ vs : List V, (∀ v ∈ vs, ∃ q x, v = .ref q ∧ H q = none ∧ q ≠ r ∧ H' q = some (.lst (biL x)) ∧ okB2 c d x) → ∃ xs : List Bi, Rel (BlAt H') vs xs ∧ ∀ x ∈ xs, okBi c x := fun vs => by
    induction vs with
    | nil => exact fun _ => ⟨[], Rel.nil, fun _ h => nomatch h⟩
    | cons v vs ih =>
      intro hv
      obtain ⟨xs, g1, g2⟩ := ih fun w hw => hv w (List.mem_cons_of_mem _ hw)
      obtain ⟨q, x, rfl, _, _, k1, k2, k3, k4, k5, k6⟩ := hv v List.mem_cons_self
      refine ⟨x :: xs, ⟨by rw [List.length_cons, List.length_cons, g1.1], fun i y o hy ho => ?_⟩, fun y hy => ?_⟩
      · cases i with
        | zero =>
          cases hy
          cases ho
          exact ⟨q, rfl, k1⟩
        | succ i => exact g1.2 i y o hy ho
      · rcases List.mem_cons.mp hy with rfl | hy
        · exact ⟨k2, k3, k4, by omega, k6⟩
        · exact g2 y hy
  obtain ⟨xs, g1, g2⟩ := key zs h3
  exact ⟨xs, ⟨zs, h1, g1⟩, g1.1.symm, g2⟩
end Z
set_option maxHeartbeats 4000000
namespace Z
open PySem PySem.Spec PyProof.Rows L2 TL Evl NdefX
/-! ### the law -/
theorem value_sgn {z : Str} (hl : z.length ≤ 200) (h : ∀ c ∈ tl z, c = 45 ∨ c = 47 ∨ (48 ≤ c ∧ c ≤ 57)) : valueB z = true := by
  have k : ∀ c < 58, (c = 45 ∨ c = 47 ∨ 48 ≤ c) → c ∈ tl signs := by decide +kernel
  have e32 : tl (" " : Str) = [32] := by decide +kernel
  have hs : ∀ c ∈ tl z, c ∈ tl signs := fun c hc => k c (by rcases h c hc with h | h | h <;> omega) (by rcases h c hc with h | h | h <;> omega)
  have hn : ∀ c ∈ tl z, c ∉ tl (" " : Str) := fun c hc hm => by
    rw [e32] at hm
    have := h c hc
    have := List.mem_singleton.mp hm
    omega
  have e := strip_self (w := z) (s := " ") (fun c hc => hn c (List.mem_of_getElem? hc)) (fun c hc => hn c (List.mem_of_getElem? hc))
  have ha : allIn z signs = true := List.all_eq_true.mpr fun c hc => decide_eq_true (hs c hc)
  unfold valueB
  rw [decide_eq_true (by omega), ha, e, decide_eq_true rfl]
  rfl
theorem lst_in : ∀ {bs : List Bk} {p : Option Bk} {b : Bk}, lstB p bs = some b → b ∈ bs ∨ p = some b
  | [], _, _, h => .inr h
  | c :: r, p, b, h => by
    rcases lst_in (bs := r) (p := some c) h with h | h
    · exact .inl (List.mem_cons_of_mem _ h)
    · cases h
      exact .inl List.mem_cons_self
theorem totV_all {bs : List Bk} {t : Nat} (h0 : bs ≠ []) (h : ∀ b ∈ bs, b.t = t) : totV bs = .int (t : Int) := by
  obtain ⟨b, hb⟩ := lst_ne (p := none) h0
  unfold totV
  rw [hb]
  show V.int (b.t : Int) = _
  rcases lst_in hb with h1 | h1
  · rw [h b h1]
  · cases h1
theorem s_orD {tu te : TS} {D : Ends} {σ : L2.St} {H : Hp} {p l0 : Addr} {m : Nat} {w : Int} (sr : Sr H p l0 m) (hm : m ≤ 100000) (h1 : σ[1]? = some (some (.ref p))) (h13 : σ[13]? = some (some (.int w))) (k1 : ∀ H', Sr H' p l0 (m + 1) → Keep p H H' → tu D σ H') (k2 : ∀ H', Sr H' p l0 (m + 1) → Keep p H H' → te D σ H') :
    tIfS (tOr (tTest (tOp rEq (tVar 13) (tC (.int 3)))) (tTest (tOp rEq (tCall spSrc [] E0 (tCons (tVar 1) (tCons (tC (.int 6)) tNil))) (tC (.int 5))))) tu te D σ H :=
  (et_test (ev_op (ev_var h13) ev_c rv_eqI)) H (Ex.refl H) _ fun H1 e1 => ite2 (fun _ => ite2 (fun _ => k1 H1 ((sr.ex e1).up (by omega)) (Keep.of e1)) (fun h => nomatch h)) (fun _ => rd_ds (Q := fun v H => _) (ea_cons (ev_var h1) (ea_cons ev_c ea_nil)) (sr.ex e1) (by omega) (by decide) (by decide) fun d H2 _ _ b2 kk => ⟨rfl, _, rfl, ite2 (fun _ => k1 H2 b2 ((Keep.of e1).trans kk)) (fun _ => k2 H2 b2 ((Keep.of e1).trans kk))⟩)
def spLawB (K : PySem.W.Frag) : Sp := fun vs H Q _ => ∃ (a : Addr) (ns : List Int), vs = [.ref a] ∧ SqL K H a (ns.map V.int) ∧ ns.length ≤ 63 ∧ (∀ z ∈ ns, z.natAbs < 2 ^ cap) ∧ ∀ H', Q (.bl true) H'
/-- all that the law holds -/
structure StA (H : Hp) (p l0 qb u la lb : Addr) (m : Nat) (bs : List Bi) (ks : List Bk) (ah be : Fs) : Prop where
  b : Sr H p l0 m
  lbl : LbL H qb bs
  pt : PtN H p (.ref u) ks
  f1 : FsAt H la ah
  f2 : FsAt H lb be
  n0 : qb ≠ p
  n1 : la ≠ p
  n2 : lb ≠ p
theorem StA.ex {H H' : Hp} {p l0 qb u la lb : Addr} {m : Nat} {bs : List Bi} {ks : List Bk} {ah be : Fs} (h : StA H p l0 qb u la lb m bs ks ah be) (e : Ex H H') : StA H' p l0 qb u la lb m bs ks ah be := ⟨h.b.ex e, h.lbl.ex e, h.pt.ex e, h.f1.ex e, h.f2.ex e, h.n0, h.n1, h.n2⟩
theorem StA.keep {H H' : Hp} {p l0 qb u la lb : Addr} {m m' : Nat} {bs : List Bi} {ks : List Bk} {ah be : Fs} (h : StA H p l0 qb u la lb m bs ks ah be) (k : Keep p H H') (b' : Sr H' p l0 m') : StA H' p l0 qb u la lb m' bs ks ah be := ⟨b', h.lbl.keep h.b k h.n0, h.pt.keep k h.b.has, h.f1.keep k h.b.has h.n1, h.f2.keep k h.b.has h.n2, h.n0, h.n1, h.n2⟩
/-- what is asked at the end -/
structure StB (H : Hp) (p l0 la lb lf : Addr) (m : Nat) (ah be fs : Fs) : Prop where
  b : Sr H p l0 m
  f1 : FsAt H la ah
  f2 : FsAt H lb be
  f3 : FsAt H lf fs
  n1 : la ≠ p
  n2 : lb ≠ p
  n3 : lf ≠ p
theorem StB.ex {H H' : Hp} {p l0 la lb lf : Addr} {m : Nat} {ah be fs : Fs} (h : StB H p l0 la lb lf m ah be fs) (e : Ex H H') : StB H' p l0 la lb lf m ah be fs := ⟨h.b.ex e, h.f1.ex e, h.f2.ex e, h.f3.ex e, h.n1, h.n2, h.n3⟩
theorem StB.keep {H H' : Hp} {p l0 la lb lf : Addr} {m m' : Nat} {ah be fs : Fs} (h : StB H p l0 la lb lf m ah be fs) (k : Keep p H H') (b' : Sr H' p l0 m') : StB H' p l0 la lb lf m' ah be fs := ⟨b', h.f1.keep k h.b.has h.n1, h.f2.keep k h.b.has h.n2, h.f3.keep k h.b.has h.n3, h.n1, h.n2, h.n3⟩
theorem StB.up {H : Hp} {p l0 la lb lf : Addr} {m m' : Nat} {ah be fs : Fs} (h : StB H p l0 la lb lf m ah be fs) (hm : m ≤ m') : StB H p l0 la lb lf m' ah be fs := ⟨h.b.up hm, h.f1, h.f2, h.f3, h.n1, h.n2, h.n3⟩
theorem StB.new {H : Hp} {p l0 la lb lf lg : Addr} {m : Nat} {ah be fs gs : Fs} (h : StB H p l0 la lb lf m ah be fs) (hg : FsAt H lg gs) (n : lg ≠ p) : StB H p l0 la lb lg m ah be gs := ⟨h.b, h.f1, h.f2, hg, h.n1, h.n2, n⟩
end Z
set_option maxHeartbeats 4000000
namespace Z
open PySem PySem.Spec PyProof.Rows L2 TL Evl NdefX
section
variable {P : Program} {w : World} {K : PySem.W.Frag} {mg : Str → Option Value} {base : Heap} {f DP DV DH RS : Addr} {fd : FuncData} {k : Nat}
theorem ok_lawB (T : Mg mg) (c_law_source : Call P w K mg base 1 "_law_source" ["script"] (spSource K)) (c_law_draw : CSrc P w K mg base) (c_law_char : Call P w K mg base 3 "_law_char" ["source"] spCh) (c_law_built : Call P w K mg base 5 "_law_built" ["source"] spBu) (c_law_bent_text : Call P w K mg base 3 "_law_bent_text" ["source", "word", "char"] spBt) (c_law_written_head : Call P w K mg base 1 "_law_written_head" ["block"] spWh) (c_law_written : Call P w K mg base 2 "_law_written" ["blocks"] spWb) (c_law_bent_blocks : Call P w K mg base 4 "_law_bent_blocks" ["source", "blocks"] spBb) (c_law_bent_fields : Call P w K mg base 4 "_law_bent_fields" ["source", "name", "value"] spBf) (c_law_reading : Call P w K mg base 5 "_law_reading" ["fields", "letters"] spRd) (c_law_asks : Call P w K mg base 8 "_law_asks" ["fields", "letters", "due"] spAk) (F : FnP K "law" s_law f fd) : FnOk P w K mg base CX0 9 f fd ["script"] (spLawB K) := by
  refine FunD.ok F sc_law (fun vs H Q E h => ?_) (fun cdv A outer s H vs Q E hr h => ?_)
  · obtain ⟨a, ns, rfl, _⟩ := h
    rfl
  · obtain ⟨a, ns, rfl, hS, hl, hbits, q⟩ := h
    refine ⟨_, (pss_cons (ps_set (i := 1) sc_law.nd rfl (Or.inl rfl) (pe_f c_law_source hr (by decide) rfl (pa_cons (pv 0) pa_nil)))
    (pss_cons (ps_set (i := 2) sc_law.nd rfl (Or.inr rfl) (pe_f c_law_built hr (by decide) rfl (pa_cons (pv 1) pa_nil)))
    (pss_cons (ps_setLc (i := 3) (own := [("piece", 4)]) (g := gName 4) (tt := tYes) rfl sc_law.nd rfl rfl (sw_true rfl rfl rfl (by decide +kernel)) (pi_list (pe_ix ix_tup (pv 2) pe_int (fun _ _ => rfl))) (blkOk_by (N := ["script", "source", "built", "blocks", "piece", "ahead", "behind", "single", "name", "value", "letters", "due", "fields", "way"]) (sc := L2.defScope s_law) (by decide +kernel)) (fun _ _ _ _ _ => pg_name (i := 4) sc_law.nd rfl (Or.inl rfl)) (fun _ _ _ _ _ => pts_nil) (fun _ _ _ _ _ => (pe_lst (pa_cons (inK (K := K) (t := fun K => tOp (rIxT K) _ _) rfl (pe_ix ix_tup (pv 4) pe_int (fun _ _ => rfl))) (pa_cons (pe_op op_sub (pe_op op_add (inK (K := K) (t := fun K => tOp (rIxT K) _ _) rfl (pe_ix ix_tup (pv 4) pe_int (fun _ _ => rfl))) (pe_callB cz_len (by rfl) T.len (by decide +kernel) (pa_cons (inK (K := K) (t := fun K => tOp (rIxT K) _ _) rfl (pe_ix ix_tup (pv 4) pe_int (fun _ _ => rfl))) pa_nil))) pe_int) (pa_cons (inK (K := K) (t := fun K => tOp (rIxT K) _ _) rfl (pe_ix ix_tup (pv 2) pe_int (fun _ _ => rfl))) (pa_cons (inK (K := K) (t := fun K => tOp (rIxT K) _ _) rfl (pe_ix ix_tup (pv 4) pe_int (fun _ _ => rfl))) pa_nil)))))))
    (pss_cons (ps_set (i := 5) sc_law.nd rfl (Or.inl rfl) (pe_slice sl_list (pe_lst (pa_cons (pe_tup (pa_cons pe_str (pa_cons pe_str pa_nil))) pa_nil)) po_none (po_some (pe_f c_law_draw hr (by decide) rfl (pa_cons (pv 1) (pa_cons pe_int pa_nil))))))
    (pss_cons (ps_set (i := 6) sc_law.nd rfl (Or.inl rfl) (pe_slice sl_list (pe_lst (pa_cons (pe_tup (pa_cons pe_str (pa_cons pe_str pa_nil))) pa_nil)) po_none (po_some (pe_f c_law_draw hr (by decide) rfl (pa_cons (pv 1) (pa_cons pe_int pa_nil))))))
    (pss_cons (ps_set (i := 7) sc_law.nd rfl (Or.inl rfl) (pe_and (pe_cmpR op_eq (pe_callB call_len_seq (by rfl) T.len (by decide +kernel) (pa_cons (pv 3) pa_nil)) pe_int (nomark _)) (pe_one (pe_cmpR op_gt (pe_f c_law_draw hr (by decide) rfl (pa_cons (pv 1) (pa_cons pe_int pa_nil))) pe_int (nomark _)))))
    (pss_cons (ps_set (i := 8) sc_law.nd rfl (Or.inl rfl) pe_str)
    (pss_cons (ps_set (i := 9) sc_law.nd rfl (Or.inl rfl) (pe_callTy cz_str (by rfl) T.str (by decide +kernel) (pa_cons (pe_callB call_len_seq (by rfl) T.len (by decide +kernel) (pa_cons (pv 3) pa_nil)) pa_nil)))
    (pss_cons (ps_set (i := 10) sc_law.nd rfl (Or.inl rfl) (pe_f c_law_written hr (by decide) rfl (pa_cons (pv 3) pa_nil)))
    (pss_cons (ps_set (i := 11) sc_law.nd rfl (Or.inl rfl) (pv 2))
    (pss_cons (ps_if (pt_truth (pv 7) (by intro _; rfl))
      (pss_cons (ps_set (i := 8) sc_law.nd rfl (Or.inl rfl) pe_str)
      (pss_cons (ps_set (i := 9) sc_law.nd rfl (Or.inl rfl) (pe_f c_law_written_head hr (by decide) rfl (pa_cons (pe_ix ix_list (pv 3) pe_int (fun _ _ => rfl)) pa_nil)))
      (pss_one (ps_set (i := 10) sc_law.nd rfl (Or.inl rfl) (pe_ix ix_list (pe_ix ix_list (pv 3) pe_int (fun _ _ => rfl)) pe_int (fun _ _ => rfl))))))
      (pss_one (ps_if (pt_cmpR op_eq (pe_callB call_len_seq (by rfl) T.len (by decide +kernel) (pa_cons (pv 3) pa_nil)) pe_int (nomark _))
        (pss_one (ps_set (i := 11) sc_law.nd rfl (Or.inl rfl) pe_non))
        pss_nil)))
    (pss_cons (ps_if (pt_not (pt_val (pe_f c_law_asks hr (by decide) rfl (pa_cons (pe_op op_cat (pe_op op_cat (pv 5) (pe_lst (pa_cons (pe_tup (pa_cons (pv 8) (pa_cons (pv 9) pa_nil))) pa_nil))) (pv 6)) (pa_cons (pv 10) (pa_cons (pv 11) pa_nil))))))
      (pss_one (ps_ret pe_bl))
      pss_nil)
    (pss_cons (ps_set (i := 12) sc_law.nd rfl (Or.inl rfl) (pe_lst (pa_cons (pe_tup (pa_cons (pv 8) (pa_cons (pv 9) pa_nil))) pa_nil)))
    (pss_cons (ps_set (i := 13) sc_law.nd rfl (Or.inl rfl) (pe_f c_law_draw hr (by decide) rfl (pa_cons (pv 1) (pa_cons pe_int pa_nil))))
    (pss_cons (ps_if (pt_cmpR op_lt (pv 13) pe_int (nomark _))
      (pss_cons (ps_set (i := 3) sc_law.nd rfl (Or.inl rfl) (pe_f c_law_bent_blocks hr (by decide) rfl (pa_cons (pv 1) (pa_cons (pv 3) pa_nil))))
      (pss_one (ps_if (pt_not (pt_truth (pv 7) (by intro _; rfl)))
        (pss_one (ps_set (i := 10) sc_law.nd rfl (Or.inl rfl) (pe_f c_law_written hr (by decide) rfl (pa_cons (pv 3) pa_nil))))
        (pss_one (ps_if (pt_cmpR op_gt (pe_callB call_len_seq (by rfl) T.len (by decide +kernel) (pa_cons (pv 3) pa_nil)) pe_int (nomark _))
          (pss_cons (ps_set (i := 10) sc_law.nd rfl (Or.inl rfl) (pe_ix ix_list (pe_ix ix_list (pv 3) pe_int (fun _ _ => rfl)) pe_int (fun _ _ => rfl)))
          (pss_one (ps_set (i := 12) sc_law.nd rfl (Or.inl rfl) (pe_lst (pa_cons (pe_tup (pa_cons (pv 8) (pa_cons (pe_f c_law_written_head hr (by decide) rfl (pa_cons (pe_ix ix_list (pv 3) pe_int (fun _ _ => rfl)) pa_nil)) pa_nil))) pa_nil)))))
          pss_nil)))))
      pss_nil)
    (pss_cons (ps_if (PW.pt (pw_and (pt_cmpR op_eq (pv 13) pe_int (nomark _)) (pw_and1 (pt_not (pt_truth (pv 7) (by intro _; rfl))))))
      (pss_one (ps_set (i := 12) sc_law.nd rfl (Or.inl rfl) (pe_lst (pa_cons (pe_tup (pa_cons (pv 8) (pa_cons (pe_callTy cz_str (by rfl) T.str (by decide +kernel) (pa_cons (pe_f c_law_draw hr (by decide) rfl (pa_cons (pv 1) (pa_cons pe_int pa_nil))) pa_nil)) pa_nil))) pa_nil))))
      pss_nil)
    (pss_cons (ps_if (PW.pt (pw_or (pt_cmpR op_eq (pv 13) pe_int (nomark _)) (pw_or1 (pt_cmpR op_eq (pe_f c_law_draw hr (by decide) rfl (pa_cons (pv 1) (pa_cons pe_int pa_nil))) pe_int (nomark _)))))
      (pss_one (ps_set (i := 12) sc_law.nd rfl (Or.inl rfl) (pe_f c_law_bent_fields hr (by decide) rfl (pa_cons (pv 1) (pa_cons (pv 8) (pa_cons (pe_ix ix_tup (pe_ix ix_list (pv 12) pe_int (fun _ _ => rfl)) pe_int (fun _ _ => rfl)) pa_nil))))))
      pss_nil)
    (pss_cons (ps_if (pt_cmpR op_eq (pv 13) pe_int (nomark _))
      (pss_one (ps_set (i := 10) sc_law.nd rfl (Or.inl rfl) (pe_f c_law_bent_text hr (by decide) rfl (pa_cons (pv 1) (pa_cons (pv 10) (pa_cons (pe_f c_law_char hr (by decide) rfl (pa_cons (pv 1) pa_nil)) pa_nil))))))
      pss_nil)
    (pss_cons (ps_set (i := 12) sc_law.nd rfl (Or.inl rfl) (pe_op op_cat (pe_op op_cat (pv 5) (pv 12)) (pv 6)))
    (pss_one (ps_ret (pe_f c_law_asks hr (by decide) rfl (pa_cons (pv 12) (pa_cons (pv 10) (pa_cons (pe_f c_law_reading hr (by decide) rfl (pa_cons (pv 12) (pa_cons (pv 10) pa_nil))) pa_nil))))))))))))))))))))))))), ?_⟩
    -- the source, what is built
    refine q_asgR (rd_call (Q := fun v H => _) (ea_cons (ev_var rfl) ea_nil) fun H1 e1 => ⟨a, ns, rfl, ex_l e1 hS, hl, hbits, fun p l0 H2 np e2 hs => ?_⟩)
    have b2 : Sr H2 p l0 0 := ⟨0, hs, Nat.le_refl _⟩
    refine q_asgR (rd_call (Q := fun v H => _) (ea_cons (ev_var rfl) ea_nil) fun H3 e3 => ⟨p, l0, 0, rfl, b2.ex e3, by decide, fun u l tot ps ys H4 nu nl hu hl4 hrel h1 h13 hok hend htot b4 k4 => ?_⟩)
    have hgood := good_built hok hend htot
    have hokL : okL none (ps.map (bkO tot)) = true := okL_built hok (fun _ h => nomatch h)
    obtain ⟨ks, hks⟩ : ∃ ks, ks = ps.map (bkO tot) := ⟨_, rfl⟩
    obtain ⟨bs, hbs⟩ : ∃ bs, bs = ks.map bi := ⟨_, rfl⟩
    have hkl : ks.length = ps.length := by rw [hks, List.length_map]
    have hbl : bs.length = ps.length := by rw [hbs, List.length_map, hkl]
    rw [← hks] at hgood hokL
    have hkn : ks ≠ [] := fun e => by rw [e, List.length_nil] at hkl; omega
    have htv : totV ks = .int (tot : Int) := totV_all hkn fun b hb => (hgood b hb).2.1
    have pt4 : PtN H4 p (.ref u) ks := ⟨u, l, ys, rfl, (b2.ex e3).ne nl, by rw [htv]; exact hu, hl4, by
      rw [hks]
      refine ⟨by rw [hrel.1, List.length_map], fun i y o hy ho => ?_⟩
      rw [List.getElem?_map] at ho
      obtain ⟨c, hc, rfl⟩ := Option.map_eq_some_iff.mp ho
      exact hrel.2 i y c hy hc⟩
    have hbi : ∀ i (c : Pc), ps[i]? = some c → bs[i]? = some (bi (bkO tot c)) := fun i c hc => by
      rw [hbs, hks, List.getElem?_map, List.getElem?_map, hc]; rfl
    refine q_asgR (rd_lcL (K := K) (a := l) (xs := ys) (fun i => match bs[i]? with | some b => biL b | none => []) (ev_ixT (ev_var rfl) ev_c hu (atI_nat (j := 1) rfl)) hl4 (by have := hrel.1; omega) (fun x => rfl) (fun i x H5 e5 hx => ?_) fun qb H5 nqb e5 hq => ?_)
    · obtain ⟨c, hc, t, rfl, ht⟩ := hrel.get hx
      have hcm : bkO tot c ∈ ks := by rw [hks]; exact List.mem_map.mpr ⟨c, List.mem_of_getElem? hc, rfl⟩
      obtain ⟨_, _, hc20, hc1, _⟩ := hgood _ hcm
      have hc20 : c.s.length ≤ 20 := hc20
      have hc1 : 1 ≤ c.s.length := hc1
      have ht5 := e5 _ _ ht
      have hrow : (match bs[i]? with | some b => biL b | none => []) = [.int (c.a : Int), .int ((c.a + c.s.length - 1 : Nat) : Int), .int (tot : Int), .str c.s] := by
        rw [hbi i c hc]; rfl
      rw [hrow]
      exact el_lst (ea_cons (ev_ixT (ev_var rfl) ev_c ht5 (atI_nat (j := 0) rfl)) (ea_cons (ev_is (ev_op (ev_op (ev_ixT (ev_var rfl) ev_c ht5 (atI_nat (j := 0) rfl)) (ev_lenStr (ev_ixT (ev_var rfl) ev_c ht5 (atI_nat (j := 1) rfl)) (by omega)) rv_I0) ev_c rv_I0) (congrArg V.int (by omega))) (ea_cons (ev_ixT (ev_var rfl) ev_c (e5 _ _ hu) (atI_nat (j := 0) rfl)) (ea_cons (ev_ixT (ev_var rfl) ev_c ht5 (atI_nat (j := 1) rfl)) ea_nil)))) (by show 4 ≤ 100000; decide)
    obtain ⟨zs, hzs, hzr⟩ := hq
    have lb5 : LbL H5 qb bs := ⟨zs, hzs, rel_rows hzr (by rw [hbl, hrel.1]) (fun i x hx => by show (match bs[i]? with | some b => biL b | none => []) = _; rw [hx])⟩
    have b5 := b4.ex e5
    -- a field ahead, one behind
    refine q_asgR (rd_slD b5 (by omega) (ev_var rfl) fun la ah H6 nla hla sah b6 k6 => ?_)
    have n1 := b5.ne nla
    refine q_asgR (rd_slD b6 (by omega) (ev_var rfl) fun lb be H7 nlb hlb sbe b7 k7 => ?_)
    have n2 := b6.ne nlb
    have A7 : StA H7 p l0 qb u la lb (0 + 1000 + 1 + 1) bs ks ah be := ⟨b7, (lb5.keep b5 k6 (b4.ne nqb)).keep b6 k7 (b4.ne nqb), ((pt4.ex e5).keep k6 b5.has).keep k7 b6.has, hla.keep k7 b6.has n1, hlb, b4.ne nqb, n1, n2⟩
    clear b7 k7 b6 k6 hla hlb lb5 pt4 hzs hzr e5 e3 b4 k4 b5
    -- one range or a part body
    refine q_tail (fun σ1 Hx => ∃ sg : Bool, σ1 = [some (.ref a), some (.ref p), some (.ref u), some (.ref qb), none, some (.ref la), some (.ref lb), some (.bl sg), none, none, none, none, none, none] ∧ (sg = true → ps.length = 1) ∧ StA Hx p l0 qb u la lb 1005 bs ks ah be) (fun σ1 H8 hR => ?_) (fun tail => ?_)
    rotate_left
    · obtain ⟨zs7, hz7, hr7⟩ := id A7.lbl
      have hzl : zs7.length = ps.length := by rw [hr7.1, hbl]
      refine q_asgR ?_
      refine (ev_op (ev_len (ev_var rfl) (sq_of hz7)) ev_c rv_eqI) H7 (Ex.refl H7) _ fun H8 e8 => ⟨_, rfl, ite2 (fun hn => ?_) (fun hn => ?_)⟩
      · have hn := of_decide_eq_true hn
        refine rd_ds (Q := fun v H => _) (ea_cons (ev_var rfl) (ea_cons ev_c ea_nil)) (A7.b.ex e8) (by omega) (by decide) (by decide) fun d H9 _ _ b9 k9 => ⟨d, 0, rfl, rfl, ?_⟩
        exact tail _ _ ⟨_, rfl, fun _ => by omega, (A7.ex e8).keep k9 (b9.up (by omega))⟩
      · exact tail _ _ ⟨false, rfl, (fun h => nomatch h), (A7.ex e8).keep (Keep.of (Ex.refl H8)) ((A7.b.ex e8).up (by omega))⟩
    obtain ⟨sg, rfl, hsg, A8⟩ := hR
    clear A7
    -- the name, the value, the letters and what is due
    have big : ∀ i : Int, i.natAbs < 10 ^ 7 → i.natAbs < 2 ^ 1920 := fun i h => Nat.lt_of_lt_of_le (show i.natAbs < 2 ^ 24 by omega) (Nat.pow_le_pow_right (by decide) (by decide))
    have okbs : ∀ x ∈ bs, okBi 999999 x ∧ x.s.length ≤ 20 ∧ 1 ≤ x.s.length := fun x hx => by
      rw [hbs] at hx
      obtain ⟨b, hb, rfl⟩ := List.mem_map.mp hx
      obtain ⟨⟨g1, g2, g3, g4⟩, g5, g6, g7, g8⟩ := hgood b hb
      refine ⟨⟨?_, ?_, ?_, Nat.le_trans g6 (by decide), g8⟩, g6, g7⟩
      · show ((b.a : Nat) : Int).natAbs ≤ 999999
        omega
      · show ((b.e : Nat) : Int).natAbs ≤ 999999
        omega
      · show ((b.t : Nat) : Int).natAbs ≤ 999999
        omega
    have hwl := wrB_len (fun x hx => (okbs x hx).1) (by decide : 999999 < 10 ^ 7)
    have hwp := wrB_pl fun x hx => (okbs x hx).1
    obtain ⟨zs8, hz8, hr8⟩ := id A8.lbl
    have hzl : zs8.length = ps.length := by rw [hr8.1, hbl]
    refine q_asg ev_c fun H9 e9 => ?_
    refine q_asg (v := .str (nT (ps.length : Int))) (ev_strI (ev_is (ev_len (ev_var rfl) (sq_of (e9 _ _ hz8))) (by rw [hzl])) (big _ (by omega))) fun H10 e10 => ?_
    have e810 := e9.trans e10
    refine q_asg (v := .str (wrB bs)) (ev_call (E := E0) (sp := spWb) (z := .str (wrB bs)) (ea_cons (ev_var rfl) ea_nil) fun H11 e11 Q' q' E' => ⟨qb, zs8, bs, 999999, rfl, (e810.trans e11) _ _ hz8, hr8.mono fun _ _ m => m.ex (e810.trans e11), fun x hx => (okbs x hx).1, by decide, by omega, q'⟩) fun H11 e11 => ?_
    refine q_asg (v := .ref u) (ev_var rfl) fun H12 e12 => ?_
    have A12 := (A8.ex (e810.trans e11)).ex e12
    clear A8 e810 e9 e10 e11 e12 hz8 hr8
    obtain ⟨s1, s2⟩ := sides sah sbe
    have nP : nameB ("part" : Str) = true ∧ nameB ("parts" : Str) = true := by decide +kernel
    refine q_tailIf (fun σ1 Hx => ∃ (nm z x : Str) (d : V), σ1 = [some (.ref a), some (.ref p), some (.ref u), some (.ref qb), none, some (.ref la), some (.ref lb), some (.bl sg), some (.str nm), some (.str z), some (.str x), some d, none, none] ∧ nm ∈ [("part" : Str), "parts"] ∧ valueB z = true ∧ z.length ≤ 26 ∧ x.length ≤ 10000 ∧ Pl x ∧ StA Hx p l0 qb u la lb 1005 bs ks ah be ∧ OPtAt Hx d (rpF (ah ++ ([(nm, z)] : Fs) ++ be) x)) (fun σ1 H13 hR => ?_) (fun tail => ?_)
    rotate_left
    · obtain ⟨zs9, hz9, hr9⟩ := id A12.lbl
      have hzl : zs9.length = ps.length := by rw [hr9.1, hbl]
      refine q_in ?_
      dsimp only
      refine Evl.s_if (et_truB (ev_var rfl)) (fun hb H13 e13 => ?_) (fun hb H13 e13 => ?_)
      · have hp1 := hsg hb
        obtain ⟨b0, hb0⟩ : ∃ b0, ks = [b0] := List.length_eq_one_iff.mp (by omega)
        have hbs0 : bs = [bi b0] := by rw [hbs, hb0]; rfl
        obtain ⟨y, gy, t, rfl, ht⟩ := hr9.at (i := 0) (o := bi b0) (by rw [hbs0]; rfl)
        obtain ⟨hg0, _, g20, g1, gp⟩ := hgood b0 (by rw [hb0]; exact List.mem_cons_self)
        have ok0 := okbs (bi b0) (by rw [hbs0]; exact List.mem_cons_self)
        have hh := hdS_len ok0.1 (by decide)
        refine q_asg ev_c fun H14 e14 => ?_
        have e134 := e13.trans e14
        refine q_asg (v := .str (hdS (bi b0))) (ev_call (E := E0) (sp := spWh) (z := .str (hdS (bi b0))) (ea_cons (ev_ixL (ev_var rfl) ev_c (e134 _ _ hz9) (atI_nat (j := 0) gy)) ea_nil) fun H15 e15 Q' q' E' => ⟨.ref t, bi b0, 999999, rfl, ⟨t, rfl, (e134.trans e15) _ _ ht⟩, ok0.1, by decide, q'⟩) fun H15 e15 => ?_
        have e135 := e134.trans e15
        refine s_asg (v := .str b0.s) (ev_ixL (ev_ixL (ev_var rfl) ev_c (e135 _ _ hz9) (atI_nat (j := 0) gy)) ev_c (e135 _ _ ht) (atI_nat (j := 3) rfl)) fun H16 e16 => ?_
        have A16 := (A12.ex e135).ex e16
        refine tail _ _ ⟨"part", hdS (bi b0), b0.s, .ref u, rfl, List.mem_cons_self, value_sgn (by omega) (hdS_sg _), hh.1, by omega, gp, A16, ?_⟩
        rw [rp_part sah sbe, sg_back hg0, ← hb0]
        exact A16.pt.pt
      · refine Evl.s_when (et_test (ev_op (ev_len (ev_var rfl) (sq_of (e13 _ _ hz9))) ev_c rv_eqI)) (fun hn H14 e14 => ?_) (fun hn H14 e14 => ?_)
        · have hn := of_decide_eq_true hn
          refine s_asg (v := .non) ev_c fun H15 e15 => ?_
          refine tail _ _ ⟨"parts", nT (ps.length : Int), wrB bs, .non, rfl, List.mem_cons_of_mem _ List.mem_cons_self, value_sgn (by have := (nT_len (i := (ps.length : Int)) (by omega)).1; omega) (fun c hc => (nT_sg _ c hc).imp id .inr), (by have := (nT_len (i := (ps.length : Int)) (by omega)).1; omega), by omega, hwp, ((A12.ex e13).ex e14).ex e15, ?_⟩
          rw [rp_parts sah sbe (by omega), if_neg (by omega)]
          rfl
        · have hn := of_decide_eq_false hn
          have A14 := (A12.ex e13).ex e14
          refine tail _ _ ⟨"parts", nT (ps.length : Int), wrB bs, .ref u, rfl, List.mem_cons_of_mem _ List.mem_cons_self, value_sgn (by have := (nT_len (i := (ps.length : Int)) (by omega)).1; omega) (fun c hc => (nT_sg _ c hc).imp id .inr), (by have := (nT_len (i := (ps.length : Int)) (by omega)).1; omega), by omega, hwp, A14, ?_⟩
          rw [rp_parts sah sbe (by omega), if_pos (by omega), ← hkl, hbs, sv_back (fun b hb => (hgood b hb).1) hokL]
          exact A14.pt.pt
    obtain ⟨nm, z, x, d, rfl, hnm, hvz, hzl26, hxl, hxp, A13, hd⟩ := hR
    clear A12
    -- asked as it is built
    have nN : nameB nm = true := by
      rcases List.mem_cons.mp hnm with rfl | h
      · exact nP.1
      · rw [List.mem_singleton.mp h]; exact nP.2
    have sl1 : ah.length ≤ 1 := by rcases sah with rfl | rfl <;> decide
    have sl2 : be.length ≤ 1 := by rcases sbe with rfl | rfl <;> decide
    refine q_when (b := false) (et_is (et_not (et_B (b := true) fun Hx ex Qx qx => rd_callR (rd_consR ((fv_cat (fv_cat (fv_var rfl A13.f1) (fv_one (ev_var rfl) (ev_var rfl)) (by show ah.length + 1 ≤ 1000; omega)) (fv_var rfl A13.f2) (by rw [List.length_append]; show ah.length + 1 + be.length ≤ 1000; omega)) Hx ex _ fun lc Hy ey hc => rd_consE (ev_var rfl) fun Hz ez => rd_consE (ev_var rfl) fun Hw ew => rd_nil ⟨lc, _, x, d, rfl, hc.ex (ez.trans ew), s2 [(nm, z)] (okF_1 nN hvz) (by show 1 ≤ 2; decide), by omega, hxp, ?_, fun Hv ev_ => qx Hv (((ey.trans ez).trans ew).trans ev_)⟩)))) rfl) (fun h => nomatch h) (fun _ H14 e14 => ?_)
    · have eW := ((ex.trans ey).trans ez).trans ew
      cases hr : rpF (ah ++ ([(nm, z)] : Fs) ++ be) x with
      | none => rw [hr] at hd; exact hd
      | some ks' =>
        rw [hr] at hd
        exact PtAt.ex hd eW
    -- the fields, which way
    have A14 := A13.ex e14
    clear A13 hd
    refine q_asgR (rd_F1 (ev_var rfl) (ev_var rfl) fun lf H15 nf e15 hlf => ?_)
    have A15 := A14.ex e15
    have n3 := A14.b.ne nf
    refine q_asgR (rd_ds (Q := fun v H => _) (ea_cons (ev_var rfl) (ea_cons ev_c ea_nil)) A15.b (by omega) (by decide) (by decide) fun way H16 w0 w1 b16 k16 => ?_)
    have A16 := A15.keep k16 b16
    have B16 : StB H16 p l0 la lb lf 1006 ah be [(nm, z)] := ⟨b16, A16.f1, A16.f2, hlf.keep k16 A15.b.has n3, A16.n1, A16.n2, n3⟩
    clear A14 A15 k16 b16 hlf
    refine q_tailIf (fun σ1 Hx => ∃ (qb' lf' : Addr) (z' x' : Str), σ1 = [some (.ref a), some (.ref p), some (.ref u), some (.ref qb'), none, some (.ref la), some (.ref lb), some (.bl sg), some (.str nm), some (.str z), some (.str x'), some d, some (.ref lf'), some (.int way)] ∧ StB Hx p l0 la lb lf' 1016 ah be [(nm, z')] ∧ valueB z' = true ∧ z'.length ≤ 100 ∧ x'.length ≤ 10000 ∧ Pl x') (fun σ1 H17 hR => ?_) (fun tail => ?_)
    rotate_left
    · refine q_in ?_
      dsimp only
      refine Evl.s_if (b := decide (way < 2)) (et_test (ev_op (ev_var rfl) ev_c rv_I0)) (fun _ H17 e17 => ?_) (fun _ H17 e17 => tail _ _ ⟨qb, lf, z, x, rfl, (B16.ex e17).up (by omega), hvz, by omega, hxl, hxp⟩)
      have A17 := A16.ex e17
      have B17 := B16.ex e17
      obtain ⟨zs17, hz17, hr17⟩ := id A17.lbl
      refine q_asgR (rd_call (Q := fun v H => _) (ea_cons (ev_var rfl) (ea_cons (ev_var rfl) ea_nil)) fun H18 e18 => ⟨p, l0, 1006, qb, zs17, bs, 999999, rfl, A17.b.ex e18, by omega, e18 _ _ hz17, hr17.mono fun _ _ m => m.ex e18, fun y hy => ?_, by omega, by omega, by omega, fun r zs' H19 hB hz' b19 k19 => ?_⟩)
      · obtain ⟨⟨g1, g2, g3, _, g5⟩, g6, g7⟩ := okbs y hy
        exact ⟨⟨g1, g2, g3, g6, g5⟩, g7⟩
      obtain ⟨xs', lb', hxl', hok'⟩ := hB.blocks (by decide)
      have hw19 := wrB_len hok' (by decide : 999999 + 100 < 10 ^ 7)
      have hp19 := wrB_pl hok'
      have B19 := (B17.ex e18).keep k19 b19
      obtain ⟨zs9, hz9, hr9⟩ := id lb'
      have hl9 : zs9.length = xs'.length := hr9.1
      refine Evl.s_if (b := !sg) (et_not (et_truB (ev_var rfl))) (fun hb H20 e20 => ?_) (fun hb H20 e20 => ?_)
      · refine s_asg (v := .str (wrB xs')) (ev_call (E := E0) (sp := spWb) (z := .str (wrB xs')) (ea_cons (ev_var rfl) ea_nil) fun H21 e21 Q' q' E' => ⟨r, zs9, xs', 999999 + 100, rfl, (e20.trans e21) _ _ hz9, hr9.mono fun _ _ m => m.ex (e20.trans e21), hok', by decide, by omega, q'⟩) fun H21 e21 => ?_
        exact tail _ _ ⟨r, lf, z, wrB xs', rfl, (B19.ex (e20.trans e21)).up (by omega), hvz, by omega, by omega, hp19⟩
      · refine Evl.s_when (b := decide ((zs9.length : Int) > 0)) (et_test (ev_op (ev_len (ev_var rfl) (sq_of (e20 _ _ hz9))) ev_c rv_I0)) (fun hn H21 e21 => ?_) (fun hn H21 e21 => tail _ _ ⟨r, lf, z, x, rfl, (B19.ex (e20.trans e21)).up (by omega), hvz, by omega, hxl, hxp⟩)
        have hn := of_decide_eq_true hn
        have e21' := e20.trans e21
        obtain ⟨x0, hx0⟩ : ∃ x0, xs'[0]? = some x0 := ⟨_, List.getElem?_eq_getElem (by omega)⟩
        obtain ⟨y, gy, t, rfl, ht⟩ := hr9.at hx0
        have ok0 := hok' x0 (List.mem_of_getElem? hx0)
        have hh := hdS_len ok0 (by decide)
        refine q_asg (v := .str x0.s) (ev_ixL (ev_ixL (ev_var rfl) ev_c (e21' _ _ hz9) (atI_nat (j := 0) gy)) ev_c (e21' _ _ ht) (atI_nat (j := 3) rfl)) fun H22 e22 => ?_
        have e22' := e21'.trans e22
        refine s_asgR (rd_F1 (ev_var rfl) (ev_call (E := E0) (sp := spWh) (z := .str (hdS x0)) (ea_cons (ev_ixL (ev_var rfl) ev_c (e22' _ _ hz9) (atI_nat (j := 0) gy)) ea_nil) fun H23 e23 Q' q' E' => ⟨.ref t, x0, 999999 + 100, rfl, ⟨t, rfl, (e22'.trans e23) _ _ ht⟩, ok0, by decide, q'⟩) fun lg H23 ng e23 hlg => ?_)
        have B22 := B19.ex e22'
        exact tail _ _ ⟨r, lg, hdS x0, x0.s, rfl, ((B22.ex e23).new hlg (B22.b.ne ng)).up (by omega), value_sgn (by omega) (hdS_sg _), by omega, by have := ok0.2.2.2.1; omega, ok0.2.2.2.2⟩
    obtain ⟨qb', lf', z', x', rfl, B17, hvz', hzl', hxl', hxp'⟩ := hR
    clear A16 B16
    -- another count
    refine q_tailIf (fun σ1 Hx => ∃ (lf'' : Addr) (z'' : Str), σ1 = [some (.ref a), some (.ref p), some (.ref u), some (.ref qb'), none, some (.ref la), some (.ref lb), some (.bl sg), some (.str nm), some (.str z), some (.str x'), some d, some (.ref lf''), some (.int way)] ∧ StB Hx p l0 la lb lf'' 1017 ah be [(nm, z'')] ∧ valueB z'' = true ∧ z''.length ≤ 100) (fun σ1 H18 hR => ?_) (fun tail => ?_)
    rotate_left
    · refine q_in ?_
      dsimp only
      refine Evl.s_when (b := decide (way = 2) && !sg) (et_and (et_test (ev_op (ev_var rfl) ev_c rv_eqI)) fun _ => et_not (et_truB (ev_var rfl))) (fun _ H18 e18 => ?_) (fun _ H18 e18 => tail _ _ ⟨lf', z', rfl, (B17.ex e18).up (by omega), hvz', hzl'⟩)
      have B18 := B17.ex e18
      refine s_asgR (rd_lstB (rd_consR (rd_tupB (rd_consE (ev_var rfl) fun H19 e19 => rd_consR (rd_consR ?_)))))
      refine rd_ds (Q := fun v H => _) (ea_cons (ev_var rfl) (ea_cons ev_c ea_nil)) (B18.b.ex e19) (by omega) (by decide) (by decide) fun dd H20 d0 d1 b20 k20 => rd_nil ⟨dd, rfl, ?_, rd_nil ⟨sz_of (by show 2 ≤ 100000; decide), fun pt npt => rd_nil ⟨sz_of (by show 1 ≤ 100000; decide), fun lg nlg => ?_⟩⟩⟩
      · by_cases z0 : dd.natAbs = 0
        · rw [z0]; decide
        · exact (Nat.log2_lt z0).mpr (big _ (by omega))
      · have B20 := (B18.ex e19).keep k20 b20
        have eA := Ex.new npt (o := .tup [.str nm, .str (nT dd)])
        have eB := Ex.new nlg (o := .lst [.ref pt])
        have hlen := nT_len (i := dd) (by omega)
        exact tail _ _ ⟨lg, nT dd, rfl, ((B20.ex (eA.trans eB)).new (gs := [(nm, nT dd)]) ⟨[.ref pt], upd_same, Rel.nil.snoc ⟨pt, rfl, eB _ _ upd_same⟩⟩ (B20.b.ne (fresh_back eA nlg))).up (by omega), value_sgn (by omega) (fun c hc => (nT_sg _ c hc).imp id .inr), by omega⟩
    obtain ⟨lf2, z2, rfl, B18, hvz2, hzl2⟩ := hR
    clear B17 hvz' hzl'
    -- the fields bent
    refine q_tailIf (fun σ1 Hx => ∃ (lf3 : Addr) (fs3 : Fs), σ1 = [some (.ref a), some (.ref p), some (.ref u), some (.ref qb'), none, some (.ref la), some (.ref lb), some (.bl sg), some (.str nm), some (.str z), some (.str x'), some d, some (.ref lf3), some (.int way)] ∧ StB Hx p l0 la lb lf3 1030 ah be fs3 ∧ okF fs3 ∧ fs3.length ≤ 2) (fun σ1 H19 hR => ?_) (fun tail => ?_)
    rotate_left
    · refine q_in ?_
      dsimp only
      refine s_orD B18.b (by omega) rfl rfl (fun H19 b19 k19 => ?_) (fun H19 b19 k19 => tail _ _ ⟨lf2, _, rfl, (B18.keep k19 b19).up (by omega), okF_1 nN hvz2, by show 1 ≤ 2; decide⟩)
      have B19 := B18.keep k19 b19
      obtain ⟨xs3, hx3, hr3⟩ := id B19.f3
      obtain ⟨y, gy, t, rfl, ht⟩ := hr3.at (i := 0) (o := (nm, z2)) rfl
      refine s_asgR (rd_call (Q := fun v H => _) (ea_cons (ev_var rfl) (ea_cons (ev_var rfl) (ea_cons (ev_ixT (ev_ixL (ev_var rfl) ev_c hx3 (atI_nat (j := 0) gy)) ev_c ht (atI_nat (j := 1) rfl)) ea_nil))) fun H20 e20 => ⟨p, l0, 1018, nm, z2, rfl, B19.b.ex e20, by omega, hnm, hvz2, hzl2, fun lg fs' H21 ng hlg hfl hfo b21 k21 => ?_⟩)
      have B21 := (B19.ex e20).keep k21 b21
      exact tail _ _ ⟨lg, fs', rfl, ((B21.new hlg ((B19.b.ex e20).ne ng)).up (by omega)), hfo, hfl⟩
    obtain ⟨lf3, fs3, rfl, B19, hfo, hfl⟩ := hR
    clear B18 hvz2 hzl2
    -- the letters bent
    refine q_tailIf (fun σ1 Hx => ∃ (x4 : Str), σ1 = [some (.ref a), some (.ref p), some (.ref u), some (.ref qb'), none, some (.ref la), some (.ref lb), some (.bl sg), some (.str nm), some (.str z), some (.str x4), some d, some (.ref lf3), some (.int way)] ∧ StB Hx p l0 la lb lf3 1050 ah be fs3 ∧ x4.length ≤ 10001 ∧ Pl x4) (fun σ1 H20 hR => ?_) (fun tail => ?_)
    rotate_left
    · refine q_in ?_
      dsimp only
      refine Evl.s_when (et_test (ev_op (ev_var rfl) ev_c rv_eqI)) (fun _ H20 e20 => ?_) (fun _ H20 e20 => tail _ _ ⟨x', rfl, (B19.ex e20).up (by omega), by omega, hxp'⟩)
      have B20 := B19.ex e20
      refine s_asgR (rd_callR (rd_consE (ev_var rfl) fun H21 e21 => rd_consE (ev_var rfl) fun H22 e22 => rd_consR (rd_call (Q := fun v H => _) (ea_cons (ev_var rfl) ea_nil) fun H23 e23 => ⟨p, l0, 1030, rfl, B20.b.ex ((e21.trans e22).trans e23), by omega, fun t H24 t1 t2 b24 k24 => rd_nil ⟨p, l0, 1031, x', t, rfl, b24, by omega, by omega, t1, fun t' H25 hl' hsub b25 k25 => ?_⟩⟩)))
      have B25 := ((B20.ex ((e21.trans e22).trans e23)).keep k24 b24).keep k25 b25
      refine tail _ _ ⟨t', rfl, B25.up (by omega), by omega, fun c hc => ?_⟩
      rcases hsub c hc with h | h
      · exact hxp' c h
      · exact t2 c h
    obtain ⟨x4, rfl, B20, hx4, hp4⟩ := hR
    clear B19 hxl' hxp'
    -- asked as it is bent
    have har := s2 fs3 hfo hfl
    refine q_asgR ((fv_cat (fv_cat (fv_var rfl B20.f1) (fv_var rfl B20.f3) (by omega)) (fv_var rfl B20.f2) (by rw [List.length_append]; omega)) H20 (Ex.refl H20) _ fun lz H21 e21 hz => ?_)
    exact g_ret (rd_callR (rd_consE (ev_var rfl) fun H22 e22 => rd_consE (ev_var rfl) fun H23 e23 => rd_consR (rd_call (Q := fun v H => _) (ea_cons (ev_var rfl) (ea_cons (ev_var rfl) ea_nil)) fun H24 e24 => ⟨lz, _, x4, rfl, hz.ex ((e22.trans e23).trans e24), har, by omega, fun v H25 e25 hv => rd_nil ⟨lz, _, x4, v, rfl, hz.ex (((e22.trans e23).trans e24).trans e25), har, by omega, hp4, hv, fun H26 _ => q H26⟩⟩)))
end
end Z
set_option maxHeartbeats 2000000
namespace ZX
open PySem PySem.Spec PyProof.Rows L2 He
/-! ### the Hook, what is looked at often standing first -/
end ZX
set_option maxHeartbeats 2000000
namespace ZX
open PySem PySem.Spec PyProof.Rows L2 He
/-! ### the run looked at in parts: what one look makes the kernel hold is let go before the next -/
end ZX
set_option maxHeartbeats 2000000
namespace ZX
open PySem PySem.Spec PyProof.Rows L2 He
/-! ### the Hook, its part of the heap gathered by what the module's names are: no search, nothing looked for twice -/
def frC (s : PySem.W.SharedT) : PySem.W.Frag := frG (HandSHeadRun.getT s) (gathP (HandSHeadRun.getT s))
def obCF (fa : List Fa) (ex : PySem.W.Frag → Bool) (fn : List DefA) (s : PySem.W.SharedT) : Bool := (obsCG fa ex fn (HandSHeadRun.getT s)).1
def obCD (fa : List Fa) (ex : PySem.W.Frag → Bool) (fn : List DefA) (s : PySem.W.SharedT) : List FnC := (obsCG fa ex fn (HandSHeadRun.getT s)).2
theorem runC {r : PySem.W.OpenRow} {q : Program} {M : Nat} {loose : List PySem.Str} {w : World} {fa : List Fa} {ex : PySem.W.Frag → Bool} {fn : List DefA} (h0 : HandSHeadRun.RunEq r q hookU obU M loose w) (h1 : RunLooks r M w (obCF fa ex fn) true) (h2 : RunLooks r M w (obCD fa ex fn) (fn.map DefA.val)) :
    HandSHeadRun.RunEq r q (hookC fa ex fn) (fun s => obsCG fa ex fn (HandSHeadRun.getT s)) M loose w := fun o => look_three (h0 o) (h1 o) (h2 o)
end ZX
set_option maxHeartbeats 0
namespace Z
open PySem PySem.Spec PyProof.Rows L2
theorem facts {P : Program} {w : World} {K : PySem.W.Frag} {h : Heap} {mg : Str → Option Value} {f : Addr} (hfl : ((P.main.file : Str) == flS) = true) (htop : (P.main.scope.names.lookup ("super" : Str)).isSome = false)
    (X : K.In h) (G : h.Ns mainGlobals mg) (hfa : mg ("law" : Str) = some (.ref f)) (c : ZX.SaysA fas exK fns K) :
    ∃ fd : FuncData, (∀ (s : Shared) (v : Value), BindsTo s fd ⟨[v], []⟩ [("script", v)]) ∧ ∀ base : Heap, K.In base → base.Ns mainGlobals mg → FnOk P w K mg base CX0 9 f fd ["script"] (spLawB K) := by
  have x := c.more
  obtain ⟨fd0, F0⟩ := ZX.DefA.funD (c.def_ 0 (d := d_wall) rfl).1 (c.def_ 0 (d := d_wall) rfl).2 rfl
  obtain ⟨fd1, F1⟩ := ZX.DefA.funD (c.def_ 1 (d := d_consists_of) rfl).1 (c.def_ 1 (d := d_consists_of) rfl).2 rfl
  obtain ⟨fd2, F2⟩ := ZX.DefA.funD (c.def_ 2 (d := d_is_plain) rfl).1 (c.def_ 2 (d := d_is_plain) rfl).2 rfl
  obtain ⟨fd3, F3⟩ := ZX.DefA.funD (c.def_ 3 (d := d_is_plain_lines) rfl).1 (c.def_ 3 (d := d_is_plain_lines) rfl).2 rfl
  obtain ⟨fd4, F4⟩ := ZX.DefA.funD (c.def_ 4 (d := d_is_word) rfl).1 (c.def_ 4 (d := d_is_word) rfl).2 rfl
  obtain ⟨fd5, F5⟩ := ZX.DefA.funD (c.def_ 5 (d := d_is_field_name) rfl).1 (c.def_ 5 (d := d_is_field_name) rfl).2 rfl
  obtain ⟨fd6, F6⟩ := ZX.DefA.funD (c.def_ 6 (d := d_is_value) rfl).1 (c.def_ 6 (d := d_is_value) rfl).2 rfl
  obtain ⟨fd7, F7⟩ := ZX.DefA.funD (c.def_ 7 (d := d_read_number) rfl).1 (c.def_ 7 (d := d_read_number) rfl).2 rfl
  obtain ⟨fd8, F8⟩ := ZX.DefA.funD (c.def_ 8 (d := d_read_extent) rfl).1 (c.def_ 8 (d := d_read_extent) rfl).2 rfl
  obtain ⟨fd9, F9⟩ := ZX.DefA.funD (c.def_ 9 (d := d_read_parts) rfl).1 (c.def_ 9 (d := d_read_parts) rfl).2 rfl
  obtain ⟨fd10, F10⟩ := ZX.DefA.funD (c.def_ 10 (d := d_read_single) rfl).1 (c.def_ 10 (d := d_read_single) rfl).2 rfl
  obtain ⟨fd11, F11⟩ := ZX.DefA.funD (c.def_ 11 (d := d_read_blocks) rfl).1 (c.def_ 11 (d := d_read_blocks) rfl).2 rfl
  obtain ⟨fd12, F12⟩ := ZX.DefA.funD (c.def_ 12 (d := d_read_block_line) rfl).1 (c.def_ 12 (d := d_read_block_line) rfl).2 rfl
  obtain ⟨fd13, F13⟩ := ZX.DefA.funD (c.def_ 13 (d := d_are_fields) rfl).1 (c.def_ 13 (d := d_are_fields) rfl).2 rfl
  obtain ⟨fd14, F14⟩ := ZX.DefA.funD (c.def_ 14 (d := d_is_body) rfl).1 (c.def_ 14 (d := d_is_body) rfl).2 rfl
  obtain ⟨fd15, F15⟩ := ZX.DefA.funD (c.def_ 15 (d := d_law_source) rfl).1 (c.def_ 15 (d := d_law_source) rfl).2 rfl
  obtain ⟨fd16, F16⟩ := ZX.DefA.funD (c.def_ 16 (d := d_law_mixed) rfl).1 (c.def_ 16 (d := d_law_mixed) rfl).2 rfl
  obtain ⟨fd17, F17⟩ := ZX.DefA.funD (c.def_ 17 (d := d_law_draw) rfl).1 (c.def_ 17 (d := d_law_draw) rfl).2 rfl
  obtain ⟨fd18, F18⟩ := ZX.DefA.funD (c.def_ 18 (d := d_law_integer) rfl).1 (c.def_ 18 (d := d_law_integer) rfl).2 rfl
  obtain ⟨fd19, F19⟩ := ZX.DefA.funD (c.def_ 19 (d := d_law_char) rfl).1 (c.def_ 19 (d := d_law_char) rfl).2 rfl
  obtain ⟨fd20, F20⟩ := ZX.DefA.funD (c.def_ 20 (d := d_law_number) rfl).1 (c.def_ 20 (d := d_law_number) rfl).2 rfl
  obtain ⟨fd21, F21⟩ := ZX.DefA.funD (c.def_ 21 (d := d_law_head) rfl).1 (c.def_ 21 (d := d_law_head) rfl).2 rfl
  obtain ⟨fd22, F22⟩ := ZX.DefA.funD (c.def_ 22 (d := d_law_block) rfl).1 (c.def_ 22 (d := d_law_block) rfl).2 rfl
  obtain ⟨fd23, F23⟩ := ZX.DefA.funD (c.def_ 23 (d := d_law_several) rfl).1 (c.def_ 23 (d := d_law_several) rfl).2 rfl
  obtain ⟨fd24, F24⟩ := ZX.DefA.funD (c.def_ 24 (d := d_law_reading) rfl).1 (c.def_ 24 (d := d_law_reading) rfl).2 rfl
  obtain ⟨fd25, F25⟩ := ZX.DefA.funD (c.def_ 25 (d := d_law_letters) rfl).1 (c.def_ 25 (d := d_law_letters) rfl).2 rfl
  obtain ⟨fd26, F26⟩ := ZX.DefA.funD (c.def_ 26 (d := d_law_built) rfl).1 (c.def_ 26 (d := d_law_built) rfl).2 rfl
  obtain ⟨fd27, F27⟩ := ZX.DefA.funD (c.def_ 27 (d := d_law_bent_blocks) rfl).1 (c.def_ 27 (d := d_law_bent_blocks) rfl).2 rfl
  obtain ⟨fd28, F28⟩ := ZX.DefA.funD (c.def_ 28 (d := d_law_bent_text) rfl).1 (c.def_ 28 (d := d_law_bent_text) rfl).2 rfl
  obtain ⟨fd29, F29⟩ := ZX.DefA.funD (c.def_ 29 (d := d_law_written_head) rfl).1 (c.def_ 29 (d := d_law_written_head) rfl).2 rfl
  obtain ⟨fd30, F30⟩ := ZX.DefA.funD (c.def_ 30 (d := d_law_written) rfl).1 (c.def_ 30 (d := d_law_written) rfl).2 rfl
  obtain ⟨fd31, F31⟩ := ZX.DefA.funD (c.def_ 31 (d := d_law_bent_fields) rfl).1 (c.def_ 31 (d := d_law_bent_fields) rfl).2 rfl
  obtain ⟨fd32, F32⟩ := ZX.DefA.funD (c.def_ 32 (d := d_law_same_pieces) rfl).1 (c.def_ 32 (d := d_law_same_pieces) rfl).2 rfl
  obtain ⟨fd33, F33⟩ := ZX.DefA.funD (c.def_ 33 (d := d_law_read) rfl).1 (c.def_ 33 (d := d_law_read) rfl).2 rfl
  obtain ⟨fd34, F34⟩ := ZX.DefA.funD (c.def_ 34 (d := d_law_asks) rfl).1 (c.def_ 34 (d := d_law_asks) rfl).2 rfl
  obtain ⟨fd35, F35⟩ := ZX.DefA.funD (c.def_ 35 (d := d_law) rfl).1 (c.def_ 35 (d := d_law) rfl).2 rfl
  obtain ⟨fd_Mi, F_Mi⟩ := ZX.DefA.funD (c.def_ 38 (d := d_Mi) rfl).1 (c.def_ 38 (d := d_Mi) rfl).2 rfl
  obtain ⟨fd_Rs, F_Rs⟩ := ZX.DefA.funD (c.def_ 39 (d := d_Rs) rfl).1 (c.def_ 39 (d := d_Rs) rfl).2 rfl
  obtain ⟨fd_Sav, F_Sav⟩ := ZX.DefA.funD (c.def_ 40 (d := d_Sav) rfl).1 (c.def_ 40 (d := d_Sav) rfl).2 rfl
  have g0 := He.glo_ok X G (c.fact 0 (f := .glo "_wall") rfl)
  have g1 := He.glo_ok X G (c.fact 1 (f := .glo "consists_of") rfl)
  have g2 := He.glo_ok X G (c.fact 2 (f := .glo "is_plain") rfl)
  have g3 := He.glo_ok X G (c.fact 3 (f := .glo "is_plain_lines") rfl)
  have g4 := He.glo_ok X G (c.fact 4 (f := .glo "is_word") rfl)
  have g5 := He.glo_ok X G (c.fact 5 (f := .glo "is_field_name") rfl)
  have g6 := He.glo_ok X G (c.fact 6 (f := .glo "is_value") rfl)
  have g7 := He.glo_ok X G (c.fact 7 (f := .glo "read_number") rfl)
  have g8 := He.glo_ok X G (c.fact 8 (f := .glo "read_extent") rfl)
  have g9 := He.glo_ok X G (c.fact 9 (f := .glo "read_parts") rfl)
  have g10 := He.glo_ok X G (c.fact 10 (f := .glo "read_single") rfl)
  have g11 := He.glo_ok X G (c.fact 11 (f := .glo "read_blocks") rfl)
  have g12 := He.glo_ok X G (c.fact 12 (f := .glo "read_block_line") rfl)
  have g13 := He.glo_ok X G (c.fact 13 (f := .glo "are_fields") rfl)
  have g14 := He.glo_ok X G (c.fact 14 (f := .glo "is_body") rfl)
  have g15 := He.glo_ok X G (c.fact 15 (f := .glo "_law_source") rfl)
  have g16 := He.glo_ok X G (c.fact 16 (f := .glo "_law_mixed") rfl)
  have g17 := He.glo_ok X G (c.fact 17 (f := .glo "_law_draw") rfl)
  have g18 := He.glo_ok X G (c.fact 18 (f := .glo "_law_integer") rfl)
  have g19 := He.glo_ok X G (c.fact 19 (f := .glo "_law_char") rfl)
  have g20 := He.glo_ok X G (c.fact 20 (f := .glo "_law_number") rfl)
  have g21 := He.glo_ok X G (c.fact 21 (f := .glo "_law_head") rfl)
  have g22 := He.glo_ok X G (c.fact 22 (f := .glo "_law_block") rfl)
  have g23 := He.glo_ok X G (c.fact 23 (f := .glo "_law_several") rfl)
  have g24 := He.glo_ok X G (c.fact 24 (f := .glo "_law_reading") rfl)
  have g25 := He.glo_ok X G (c.fact 25 (f := .glo "_law_letters") rfl)
  have g26 := He.glo_ok X G (c.fact 26 (f := .glo "_law_built") rfl)
  have g27 := He.glo_ok X G (c.fact 27 (f := .glo "_law_bent_blocks") rfl)
  have g28 := He.glo_ok X G (c.fact 28 (f := .glo "_law_bent_text") rfl)
  have g29 := He.glo_ok X G (c.fact 29 (f := .glo "_law_written_head") rfl)
  have g30 := He.glo_ok X G (c.fact 30 (f := .glo "_law_written") rfl)
  have g31 := He.glo_ok X G (c.fact 31 (f := .glo "_law_bent_fields") rfl)
  have g32 := He.glo_ok X G (c.fact 32 (f := .glo "_law_same_pieces") rfl)
  have g33 := He.glo_ok X G (c.fact 33 (f := .glo "_law_read") rfl)
  have g34 := He.glo_ok X G (c.fact 34 (f := .glo "_law_asks") rfl)
  have g35 := He.glo_ok X G (c.fact 35 (f := .glo "law") rfl)
  have g36 := He.glo_ok X G (c.fact 36 (f := .glo "Message") rfl)
  have g37 := He.glo_ok X G (c.fact 37 (f := .glo "Response") rfl)
  have g38 := He.glo_ok X G (c.fact 38 (f := .glo "InvalidValue") rfl)
  have g39 := He.glo_ok X G (c.fact 39 (f := .glo "InvalidParts") rfl)
  have g40 := He.glo_ok X G (c.fact 40 (f := .glo "HopError") rfl)
  have T : Mg mg := ⟨He.free_ok X G (c.fact 41 (f := .free "len") rfl),
    He.free_ok X G (c.fact 42 (f := .free "all") rfl),
    He.free_ok X G (c.fact 43 (f := .free "any") rfl),
    He.free_ok X G (c.fact 44 (f := .free "abs") rfl),
    He.free_ok X G (c.fact 45 (f := .free "sum") rfl),
    He.free_ok X G (c.fact 46 (f := .free "isinstance") rfl),
    He.free_ok X G (c.fact 47 (f := .free "range") rfl),
    He.free_ok X G (c.fact 48 (f := .free "int") rfl),
    He.free_ok X G (c.fact 49 (f := .free "bool") rfl),
    He.free_ok X G (c.fact 50 (f := .free "str") rfl),
    He.free_ok X G (c.fact 51 (f := .free "min") rfl),
    He.free_ok X G (c.fact 52 (f := .free "max") rfl),
    He.free_ok X G (c.fact 53 (f := .free "list") rfl),
    He.free_ok X G (c.fact 54 (f := .free "tuple") rfl),
    (by obtain ⟨t, e⟩ := He.str_ok X G (c.fact 57 (f := .str "LOWER" "abcdefghijklmnopqrstuvwxyz") rfl); exact ⟨_, e, t, rfl⟩),
    (by obtain ⟨t, e⟩ := He.str_ok X G (c.fact 58 (f := .str "DIGITS" "0123456789") rfl); exact ⟨_, e, t, rfl⟩),
    (by obtain ⟨t, e⟩ := He.str_ok X G (c.fact 59 (f := .str "WORD_SIGNS" "abcdefghijklmnopqrstuvwxyz0123456789-") rfl); exact ⟨_, e, t, rfl⟩),
    (by obtain ⟨t, e⟩ := He.int_ok X G (c.fact 60 (f := .int "MOST_NAME" 30) rfl); exact ⟨_, e, t, rfl⟩),
    (by obtain ⟨t, e⟩ := He.int_ok X G (c.fact 61 (f := .int "MOST_VALUE" 200) rfl); exact ⟨_, e, t, rfl⟩),
    (by obtain ⟨t, e⟩ := He.int_ok X G (c.fact 62 (f := .int "MOST_DIGITS" 6) rfl); exact ⟨_, e, t, rfl⟩),
    He.free_ok X G (c.fact 55 (f := .free "ValueError") rfl)⟩
  have WB : Wb K mg (He.ga K "Message") := ⟨g36, ZX.read_ok (exK_at x 1), ZX.cint_ok (exK_at x 2), ZX.cint_ok (exK_at x 3)⟩
  have WS : Ws K mg (He.ga K "Response") := ⟨g37, He.cls_ok (c.fact 63 (f := .cls "Response") rfl), He.noat_ok (c.fact 65 (f := .noat "Response" "_first_line") rfl), He.noat_ok (c.fact 66 (f := .noat "Response" "_has_body") rfl), He.noat_ok (c.fact 67 (f := .noat "Response" "fields") rfl), He.noat_ok (c.fact 68 (f := .noat "Response" "body") rfl), He.noat_ok (c.fact 69 (f := .noat "Response" "status") rfl), ZX.read_ok (exK_at x 4), ⟨_, ZX.ctup_ok (exK_at x 5)⟩⟩
  have WV : We K mg (He.ga K "InvalidValue") (He.ga K "HopError") := ⟨g38, g40, ZX.excC_ok (exK_at x 8), xfB_ok (exK_at x 9), He.eqO_ok (exK_at x 10), of_decide_eq_true (exK_at x 11), of_decide_eq_true (exK_at x 12), He.exm_ok (c.fact 71 (f := .exm "InvalidValue" "InvalidValue" true) rfl)⟩
  have WP : Wp K mg (He.ga K "InvalidParts") (He.ga K "InvalidValue") (He.ga K "HopError") := ⟨g39, g38, g40, ZX.excC_ok (exK_at x 14), of_decide_eq_true (exK_at x 15), of_decide_eq_true (exK_at x 16), of_decide_eq_true (exK_at x 17), He.exm_ok (c.fact 72 (f := .exm "InvalidParts" "InvalidParts" true) rfl)⟩
  obtain ⟨fd_iv, E_iv⟩ := ZX.err_ok (P := P) (x := "InvalidValue") (exK_at x 7) hfl htop (He.eqO_ok (c.fact 56 (f := .free "super") rfl)) (He.eqO_ok (exK_at x 18)) rfl (c.def_ 36 (d := d_iv) rfl).1 (c.def_ 36 (d := d_iv) rfl).2 rfl
  have b_iv := err_binds (ps := ["self", "name"]) E_iv rfl (c.def_ 36 (d := d_iv) rfl).1 (c.def_ 36 (d := d_iv) rfl).2 rfl fun _ _ _ _ _ _ _ us hl => match us, hl with | [_, _], _ => rfl
  obtain ⟨fd_ip, E_ip⟩ := ZX.err_ok (P := P) (x := "InvalidParts") (exK_at x 13) hfl htop (He.eqO_ok (c.fact 56 (f := .free "super") rfl)) (He.eqO_ok (exK_at x 18)) rfl (c.def_ 37 (d := d_ip) rfl).1 (c.def_ 37 (d := d_ip) rfl).2 rfl
  have b_ip := err_binds (ps := ["self"]) E_ip rfl (c.def_ 37 (d := d_ip) rfl).1 (c.def_ 37 (d := d_ip) rfl).2 rfl fun _ _ _ _ _ _ _ us hl => match us, hl with | [_], _ => rfl
  have e := hfa.symm.trans g35
  cases e
  refine ⟨fd35, fun s v => (FunD.bindsA (ps := ["script"]) F35 fun _ _ _ _ _ _ us hl => match us, hl with | [_], _ => rfl) s [v] rfl, fun base _ _ => ?_⟩
  have c_consists_of := ok_consists_of (P := P) (w := w) (base := base) T  F1 g1
  have c_is_plain := ok_is_plain (P := P) (w := w) (base := base) T  F2 g2
  have c_is_plain_lines := ok_is_plain_lines (P := P) (w := w) (base := base) T c_is_plain F3 g3
  have c_is_body := ok_is_body (P := P) (w := w) (base := base) T WB c_is_plain_lines F14 g14
  have c_is_word := ok_is_word (P := P) (w := w) (base := base) T c_consists_of F4 g4
  have c_is_field_name := ok_is_field_name (P := P) (w := w) (base := base) T c_is_word F5 g5
  have c_is_value := ok_is_value (P := P) (w := w) (base := base) T c_is_plain F6 g6
  have c_are_fields := ok_are_fields (P := P) (w := w) (base := base) T WB c_is_field_name c_is_value F13 g13
  have c_read_number := ok_read_number (P := P) (w := w) (base := base) T c_consists_of F7 g7
  have c_read_extent := ok_read_extent (P := P) (w := w) (base := base) T c_read_number F8 g8
  have EV : Ef P w K mg base (He.ga K "InvalidValue") ["self", "name"] "name" := ⟨_, fd_iv, E_iv.sup.oex, E_iv.init, E_iv.ty, ok_iv E_iv.sup WV.nV, b_iv⟩
  have EP : Ef0 P w K mg base (He.ga K "InvalidParts") := ⟨_, fd_ip, E_ip.sup.oex, E_ip.init, E_ip.ty, ok_ip E_ip.sup, b_ip⟩
  have MBS : Mb P w K mg base (He.ga K "Message") (He.ga K "Response") (He.ga K "InvalidValue") := ⟨_, fd_Mi, ZX.cfn_ok (exK_at x 0), ok_Mi T WS.wm WV EV c_are_fields c_is_body F_Mi, (FunD.bindsN (ps := ["self", "first_line", "has_body", "fields", "body"]) F_Mi fun _ _ _ _ _ _ us hl => match us, hl with | [_, _, _, _, _], _ => rfl)⟩
  obtain ⟨dsR, vsR, brR⟩ := FunD.binds1 (ps := rsN) F_Rs 4 2 (List.cons_ne_nil _ _) rfl fun T kV doc pm an cdv ct us its h1 h2 => match us, its, h1, h2 with | [_, _, _, _], [_, _], _, _ => ⟨_, rfl, rfl⟩
  have edR : dsR = [] := by cases vsR; rfl
  subst edR
  have MK : Mkx P w K mg base (He.ga K "Response") (He.ga K "InvalidValue") false rsN := ⟨_, fd_Rs, He.mkr_ok (c.fact 64 (f := .mkr "Response") rfl), ok_Rs T WB WS WV EV MBS F_Rs, brR⟩
  have AV : ∃ f fd, Meth K (He.ga K "Response") "all_values" f ∧ FnOk P w K mg base CX0 1 f fd ["self", "name"] (spAv (He.ga K "Response")) ∧ Binds K fd ["self", "name"] [] := ⟨_, fd_Sav, He.meth_ok (c.fact 70 (f := .meth "Response" "all_values") rfl), ok_Mv WS.wm F_Sav, (FunD.bindsN (ps := ["self", "name"]) F_Sav fun _ _ _ _ _ _ us hl => match us, hl with | [_, _], _ => rfl)⟩
  have CL : CE P w K mg base 4 "read_block_line" ["body", "at"] (spBl (He.ga K "InvalidParts")) := ⟨_, fd12, ok_read_block_line T WP EP c_read_extent F12, g12, F12.kp, (FunD.bindsN (ps := ["body", "at"]) F12 fun _ _ _ _ _ _ us hl => match us, hl with | [_, _], _ => rfl)⟩
  have CB : CE P w K mg base 5 "read_blocks" ["body"] (spBs (He.ga K "InvalidParts")) := ⟨_, fd11, ok_read_blocks T WP EP CL F11, g11, F11.kp, (FunD.bindsN (ps := ["body"]) F11 fun _ _ _ _ _ _ us hl => match us, hl with | [_], _ => rfl)⟩
  have CS : CE P w K mg base 4 "read_single" ["text", "body"] (spSg (He.ga K "InvalidParts")) := ⟨_, fd10, ok_read_single T WP EP c_read_extent F10, g10, F10.kp, (FunD.bindsN (ps := ["text", "body"]) F10 fun _ _ _ _ _ _ us hl => match us, hl with | [_, _], _ => rfl)⟩
  have CP : CE P w K mg base 6 "read_parts" ["response"] (spRp (He.ga K "Response") (He.ga K "InvalidParts")) := ⟨_, fd9, ok_read_parts T WP EP WS AV c_read_number CS CB F9, g9, F9.kp, (FunD.bindsN (ps := ["response"]) F9 fun _ _ _ _ _ _ us hl => match us, hl with | [_], _ => rfl)⟩
  have c_law_source := ok_law_source (P := P) (w := w) (base := base) T  F15 g15
  have c_law_mixed := ok_law_mixed (P := P) (w := w) (base := base) T  F16 g16
  have c_law_draw := ok_law_draw3 (P := P) (w := w) (base := base) T c_law_mixed F17 g17
  have c_law_integer := ok_law_integer1 (P := P) (w := w) (base := base) T  F18 g18
  have c_law_char := ok_law_char (P := P) (w := w) (base := base) T c_law_draw F19 g19
  have c_law_number := ok_law_number2 (P := P) (w := w) (base := base) T  F20 g20
  have c_law_head := ok_law_head (P := P) (w := w) (base := base) T c_law_number F21 g21
  have c_law_block := ok_law_block (P := P) (w := w) (base := base) T c_law_head F22 g22
  have c_law_several := ok_law_several (P := P) (w := w) (base := base) T c_law_block F23 g23
  have c_law_reading := ok_law_reading (P := P) (w := w) (base := base) T c_law_number c_law_head c_law_several F24 g24
  have c_law_letters := ok_law_letters (P := P) (w := w) (base := base) T c_law_draw c_law_char F25 g25
  have c_law_built := ok_law_built (P := P) (w := w) (base := base) T c_law_draw c_law_letters F26 g26
  have c_law_bent_blocks := ok_law_bent_blocks (P := P) (w := w) (base := base) T c_law_draw c_law_char F27 g27
  have c_law_bent_text := ok_law_bent_text (P := P) (w := w) (base := base) T c_law_draw F28 g28
  have c_law_written_head := ok_law_written_head (P := P) (w := w) (base := base) T  F29 g29
  have c_law_written := ok_law_written (P := P) (w := w) (base := base) T c_law_written_head F30 g30
  have c_law_bent_fields := ok_law_bent_fields (P := P) (w := w) (base := base) T c_law_draw c_law_bent_text F31 g31
  have c_law_same_pieces := ok_law_same_pieces (P := P) (w := w) (base := base) T c_law_integer F32 g32
  have c_law_read := ok_law_read (P := P) (w := w) (base := base) T WP CP c_law_same_pieces F33 g33
  have c_law_asks := ok_law_asks (P := P) (w := w) (base := base) T WS MK c_law_read F34 g34
  exact ok_lawB T c_law_source c_law_draw c_law_char c_law_built c_law_bent_text c_law_written_head c_law_written c_law_bent_blocks c_law_bent_fields c_law_reading c_law_asks F35
end Z
open PySem PySem.W PySem.Calls PyProof.Rows
set_option maxRecDepth 100000 in
set_option maxHeartbeats 0 in
theorem PySem.Challenge.cw_hopkeep_k18_parts_refused_holds : PySem.Challenge.rw_hopkeep_k18_parts_refused.Holds := by
  w_on; o_law
  refine HandSHeadRun.head_any (r := Z.R) (q := view Z.R.prog [51]) (H := Z.hk) (ob := Z.ob) (M := 16000) (loose := Z.others) (d := HandSHeadRun.topDef Z.R.prog 51) (kwd := []) Z.ob_eq (by kernel_rfl) (fun s => by kernel_rfl) Z.run
    (by kernel_rfl) (by kernel_rfl) (by kernel_rfl) (by rfl) (by first | assumption | decide +kernel) (by decide +kernel) ⟨rfl, rfl, rfl, rfl, rfl, by decide +kernel⟩ ?hw ?hc
  case hw => w_witness2
  case hc =>
    refine LamX.walk_ofTsE (l := PySem.Challenge.rw_hopkeep_k18_parts_refused) (n := 63) (k := 9) (x := "script") (CX := fun _ => L2.CX0) rfl (by decide) (by kernel_rfl) ⟨rfl, by decide, by decide⟩ ?F (fun _ _ _ _ _ z => z)
    intro w mg fa h Y G hmg0
    obtain ⟨K, KX, c⟩ := Y
    have hmg : mg ("law" : PySem.Str) = some (.ref fa) := by
      have e : (HandSHeadRun.topDef Z.R.prog 51).name = ("law" : PySem.Str) := by kernel_rfl
      rw [← e]
      exact hmg0
    obtain ⟨fd, hb, hF⟩ := Z.facts (P := Z.R.prog) (w := w) (by kernel_rfl) (by kernel_rfl) KX G hmg c
    exact ⟨K, KX, fd, [], Z.spLawB K, (fun p hp => nomatch hp), (fun p hp => nomatch hp), (fun p hp => nomatch hp), hb, fun H a ns hl hz _ hS => ⟨a, ns, rfl, hS, hl, fun z hm => Z.bits_lt (n := Z.cap) (hz z hm), fun _ => rfl⟩, fun base h1 h2 _ => hF base h1 h2⟩
